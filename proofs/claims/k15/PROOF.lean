import PyProof.Rows.All
import Wide.All
import OpenK.AllK
import Wide.FinOn
import Lean
import PyProof.EqAt
import PyProof.EqKinds
import PyProof.TupleCall
import PySem.Challenge.RW_indexwise_k15_sums_of_products
set_option Elab.async false
set_option linter.all false
set_option maxRecDepth 100000
set_option maxHeartbeats 3200000
local macro_rules | `(tactic| trivial) => `(tactic| first | exact .inl rfl | exact .inr (.inl rfl) | exact .inr (.inr rfl) | exact .inr rfl | assumption)
namespace L2
open PySem PySem.Spec PyProof.Rows
abbrev Key := Sum Int Str
def iK : Key -> Value -> Bool
 | .inl k, v => Value.isInt k v
 | .inr x, v => Value.isStrOf x v
def xb (w : World) : Key -> Int
 | .inl k => hashInt k
 | .inr x => hashStr w x
theorem aV : ∀ {k : Key} {v : Value}, iK k v = true -> (∃ i t, k = Sum.inl i /\ v = Value.int i t) \/ (∃ x t, k = Sum.inr x /\ v = Value.str x t)
 | .inl i, v, h => by
  obtain ⟨t, e⟩ := Value.isInt_shape (k := i) (v := v) h
  exact .inl ⟨i, t, rfl, e⟩
 | .inr x, v, h => by
  obtain ⟨t, e⟩ := Value.isStrOf_shape (x := x) (v := v) h
  exact .inr ⟨x, t, rfl, e⟩
theorem pS (i : Int) (t : Tok) : iK (.inl i) (.int i t) = true := by simp [iK, Value.isInt]
theorem pM (x : Str) (t : Tok) : iK (.inr x) (.str x t) = true := by simp [iK, Value.isStrOf]
theorem vC (a b : Int) : decide ((Sum.inl a : Key) = Sum.inl b) = (a == b) := by
 by_cases e : a = b
 ·subst e; simp
 ·have h : ¬ (Sum.inl a : Key) = Sum.inl b := fun q => e (Sum.inl.inj q)
  rw [decide_eq_false h]
  exact (beq_eq_false_iff_ne.mpr e).symm
theorem vk (a b : Str) : decide ((Sum.inr a : Key) = Sum.inr b) = decide (a = b) := by
 by_cases e : a = b
 ·subst e; simp
 ·have h : ¬ (Sum.inr a : Key) = Sum.inr b := fun q => e (Sum.inr.inj q)
  rw [decide_eq_false h, decide_eq_false e]
theorem uG (a : Int) (b : Str) : decide ((Sum.inl a : Key) = Sum.inr b) = false := decide_eq_false (fun q => nomatch q)
theorem uX (a : Str) (b : Int) : decide ((Sum.inr a : Key) = Sum.inl b) = false := decide_eq_false (fun q => nomatch q)
def am (prog : Program) (w : World) : PySem.KeyKind prog w Key where
 is := iK
 hash := xb w
 inj := fun v a b ha hb => by
  rcases aV ha with ⟨i, t, rfl, rfl⟩ | ⟨x, t, rfl, rfl⟩
  ·rcases aV hb with ⟨j, u, rfl, e⟩ | ⟨y, u, rfl, e⟩
   ·injection e with e1 _; rw [e1]
   ·exact nomatch e
  ·rcases aV hb with ⟨j, u, rfl, e⟩ | ⟨y, u, rfl, e⟩
   ·exact nomatch e
   ·injection e with e1 _; rw [e1]
 byValue := fun k v h => by
   rcases aV h with ⟨i, t, rfl, rfl⟩ | ⟨x, t, rfl, rfl⟩ <;> rfl
 pyHash := fun hv h => by
  rcases aV hv with ⟨i, t, rfl, rfl⟩ | ⟨x, t, rfl, rfl⟩
  ·exact wpAny_pyHash_int h
  ·exact wpAny_pyHash_str h
 eqBool := fun hu hv h => by
  rcases aV hu with ⟨i, t, rfl, rfl⟩ | ⟨x, t, rfl, rfl⟩
  ·rcases aV hv with ⟨j, u, rfl, rfl⟩ | ⟨y, u, rfl, rfl⟩
   ·rw [vC] at h; exact wpAny_eqBool_int h
   ·rw [uG] at h; exact SeqAt.EqAt.int_str i t y u _ _ _ _ h
  ·rcases aV hv with ⟨j, u, rfl, rfl⟩ | ⟨y, u, rfl, rfl⟩
   ·rw [uX] at h; exact SeqAt.EqAt.str_int x t j u _ _ _ _ h
   ·rw [vk] at h; exact wpAny_eqBool_str h
 «strs» := fun k x t v h => by
  rcases aV h with ⟨i, u, rfl, e⟩ | ⟨y, u, rfl, e⟩
  ·exact nomatch e
  ·injection e with e1 _
   subst e1
   cases v <;> rfl
theorem kZ (prog : Program) (w : World) (i : Int) (t : Tok) : (am prog w).is (.inl i) (.int i t) = true := pS i t
theorem kM (prog : Program) (w : World) (x : Str) (t : Tok) : (am prog w).is (.inr x) (.str x t) = true := pM x t
inductive V where
 | non | bl (b : Bool) | int (i : Int) | str (x : Str) | byt (b : Array UInt8) | flt (b : UInt64) | ref (a : Addr) | ty (n : String)
 deriving DecidableEq
def aJ : V -> Value -> Prop
 | .non, u => u = Value.none
 | .bl b, u => u = Value.bool b
 | .int i, u => ∃ t, u = Value.int i t
 | .str x, u => ∃ t, u = Value.str x t
 | .byt b, u => ∃ t, u = Value.bytes b t
 | .flt b, u => ∃ t, u = Value.float b t
 | .ref a, u => u = Value.ref a
 | .ty n, u => u = Value.type n
abbrev aG : List V -> List Value -> Prop := Paired aJ
theorem aG.length {xs : List V} {us : List Value} (r : aG xs us) : xs.length = us.length := Paired.length r
theorem aG.get : ∀ {xs : List V} {us : List Value} {i : Nat} {x : V}, aG xs us -> xs[i]? = some x -> ∃ u, us[i]? = some u /\ aJ x u
 | _, _, _, _, .nil, e => by simp at e
 | _, _, 0, _, .cons r _, e => by simp at e; subst e; exact ⟨_, rfl, r⟩
 | _, _, i + 1, x, .cons _ t, e => by
  obtain ⟨u, h1, h2⟩ := aG.get (i := i) (x := x) t (by simpa using e)
  exact ⟨u, by simpa using h1, h2⟩
theorem aG.set {x : V} {u : Value} (r : aJ x u) : ∀ {xs : List V} {us : List Value} (i : Nat), aG xs us -> aG (xs.set i x) (us.set i u)
 | _, _, _, .nil => .nil
 | _, _, 0, .cons _ t => .cons r t
 | _, _, i + 1, .cons q t => .cons q (aG.set r i t)
theorem aG.append : ∀ {xs ys : List V} {us ws : List Value}, aG xs us -> aG ys ws -> aG (xs ++ ys) (us ++ ws)
 | _, _, _, _, .nil, s => s
 | _, _, _, _, .cons r t, s => .cons r (aG.append t s)
def ga : Option V -> Option Value -> Prop
 | some v, some u => aJ v u
 | none, none => True
 | _, _ => False
def KV {κ : Type} : List (κ × V) -> List (κ × Value) -> Prop := Paired fun (p : κ × V) (q : κ × Value) => p.1 = q.1 /\ aJ p.2 q.2
def kV : Key -> V
 | .inl i => .int i
 | .inr x => .str x
inductive HO where
 /-- a list -/
 | lst (xs : List V)
 /-- a tuple (never changes) -/
 | tup (xs : List V)
 /-- a dict whose keys are ints and texts; one whose keys are tuples of ints and texts (the empty one is both) -/
 | dK (kvs : List (Key × V)) | dT (kvs : List (List Key × V))
 /-- a set of ints: its members, its size -/
 | set (S : Int -> Bool) (n : Nat)
 /-- an instance of the class at C, its dict at dx, its attributes -/
 | ins (C dx : Addr) (fs : List (Str × V))
 /-- the dict of the instance at x -/
 | own (x : Addr)
 /-- the dict of an exception -/
 | xd (fs : List (Str × V))
 /-- a bound method, f of x -/
 | met (f x : Addr)
 /-- a range object lo, lo + 1, .. below hi -/
 | rng (lo hi : Int)
 /-- a thing that is known to the object (the script; a dict while a loop walks it): read, never written while it is so -/
 | frz (o : Obj) (u : HO)
 /-- a code object's table -/
 | tbl (ps : Array Value)
 /-- any other thing, by what is true of its one object (a def of one's own: SetO a S n := HO.ext fun h => ..) -/
 | ext (φ : Heap -> Prop)
abbrev Hp := Addr -> Option HO
def upd (H : Hp) (a : Addr) (o : HO) : Hp := fun b => if b = a then some o else H b
theorem ad {H : Hp} {a : Addr} {o : HO} : upd H a o a = some o := by unfold upd; rw [if_pos rfl]
theorem ap {H : Hp} {a b : Addr} {o : HO} (h : b ≠ a) : upd H a o b = H b := by unfold upd; rw [if_neg h]
theorem dL {H : Hp} {a : Addr} {o u : HO} : upd (upd H a o) a u = upd H a u := by
 funext b; unfold upd; split <;> rfl
theorem on {H : Hp} {a b : Addr} {o u : HO} (h : H a = some o) (h' : H b = some u) (d : o ≠ u) : a ≠ b := by
 intro e; subst e; rw [h] at h'; exact d (Option.some.inj h')
theorem ag {H : Hp} {a b : Addr} {o : HO} (h : H a = some o) (h' : H b = none) : a ≠ b := by
 intro e; subst e; rw [h] at h'; cases h'
def NoD (h : Heap) (a : Addr) : Prop := ∃ o, h.get? a = some o /\ o.dict = none
theorem NoD.new (h : Heap) {o : Obj} (e : o.dict = none) (f : o.isFreed = false := by rfl) : NoD (h.push o) h.objs.size := ⟨_, Heap.get?_push_size _ f, e⟩
section
variable (P : Program) (w : World)
def aF (H : Hp) (h : Heap) (a : Addr) : HO -> Prop
 | .lst xs => xs.length <= sizeLine /\ ∃ (its : List Value) (n : Nat), aG xs its /\ h.get? a = some { cls := .type "list", data := .seq its.toArray n }
 | .tup xs => xs.length <= sizeLine /\ ∃ its : List Value, aG xs its /\ IsTup h a its.toArray /\ NoD h a
 | .dK kvs => kvs.length <= sizeLine /\ (a == sysModules) = false /\ ∃ vs, KV kvs vs /\ h.DictOf (am P w) a vs
 | .dT kvs => kvs.length <= sizeLine /\ (a == sysModules) = false /\ ∃ xs : List (List Key × Addr × Value),
   Paired (fun (p : List Key × V) (q : List Key × Addr × Value) => p.1 = q.1 /\ H q.2.1 = some (.tup (p.1.map kV)) /\ aJ p.2 q.2.2) kvs xs /\
   ∃ o es ep, h.get? a = some o /\ o.ExactDict /\ o.data = .dict es ep /\ es.toList = xs.map (entryOfKey (tupleKind (am P w))) /\ (xs.map (·.1)).Nodup
 | .set S n => h.SetOf (intKind P w) a S n
 | .ins C dx fs => H dx = some (.own a) /\ fs.length <= 1000 /\ dx ≠ a /\ h.get? a = some (PySem.W.instObj C dx) /\
   ∃ mA, h.Ns1 dx mA /\ (∀ f, ga (fs.lookup f) (mA f)) /\ PySem.Within mA (fs.map (·.1))
 | .own _ => ∃ o, h.get? a = some o
 | .xd fs => ∃ mA, h.Ns1 a mA /\ ∀ f, ga (fs.lookup f) (mA f)
 | .rng lo hi => ∃ t u v, h.get? a = some { cls := .type "range", data := .fields #[.int lo t, .int hi u, .int 1 v] }
 | .frz o u => h.get? a = some o /\ aF H h a u
 | .tbl ps => h.get? a = some { cls := .none, data := .fields ps }
 | .met f x => h.get? a = some (PySem.W.methodObj (.ref f) (.ref x))
 | .ext φ => φ h /\ (∃ o, h.get? a = some o) /\ ∀ h1 h2 : Heap, φ h1 -> (∀ o, h1.get? a = some o -> h2.get? a = some o) -> φ h2
def HOk (H : Hp) (h : Heap) : Prop := ∀ a o, H a = some o -> aF P w H h a o
end
section
variable {P : Program} {w : World} {H H' : Hp} {h h' : Heap} {a : Addr} {o : HO}
theorem aF.lt (x : aF P w H h a o) : a < h.objs.size := by
 cases o with
 | lst xs => obtain ⟨_, _, _, _, e⟩ := x; exact Heap.lt_size e
 | tup xs => obtain ⟨_, _, _, p⟩ := x; exact p.1.lt
 | dK kvs => obtain ⟨_, _, _, _, o, _, _, e, _⟩ := x; exact Heap.lt_size e
 | dT kvs => obtain ⟨_, _, _, _, o, _, _, e, _⟩ := x; exact Heap.lt_size e
 | set S n => obtain ⟨o, _, _, _, e, _⟩ := x; exact Heap.lt_size e
 | ins C dx fs => obtain ⟨_, _, _, e, _⟩ := x; exact Heap.lt_size e
 | own y => obtain ⟨_, e⟩ := x; exact Heap.lt_size e
 | xd fs => obtain ⟨_, ⟨_, _, _, e, _⟩, _⟩ := x; exact Heap.lt_size e
 | rng lo hi => obtain ⟨_, _, _, e⟩ := x; exact Heap.lt_size e
 | frz ob u => obtain ⟨e, _⟩ := x; exact Heap.lt_size e
 | tbl ps => exact Heap.lt_size (show h.get? a = some _ from x)
 | met f y => exact Heap.lt_size (show h.get? a = some _ from x)
 | ext φ => obtain ⟨_, ⟨_, e⟩, _⟩ := x; exact Heap.lt_size e
theorem Paired.mapP {α β : Type} {F G : α -> β -> Prop} : ∀ {l₁ : List α} {l₂ : List β}, Paired F l₁ l₂ -> (∀ a b, F a b -> G a b) -> Paired G l₁ l₂
 | _, _, .nil, _ => .nil
 | _, _, .cons r t, f => .cons (f _ _ r) (Paired.mapP t f)
theorem aF.stay (x : aF P w H h a o) (k : ∀ b u, (b = a \/ H b = some (.own a)) -> h.get? b = some u -> h'.get? b = some u)
  (ho : ∀ b, H b = some (.own a) -> H' b = some (.own a)) (ht : ∀ b xs, H b = some (.tup xs) -> H' b = some (.tup xs)) : aF P w H' h' a o := by
 induction o with
 | lst xs => obtain ⟨z, its, n, r, e⟩ := x; exact ⟨z, its, n, r, k _ _ (.inl rfl) e⟩
 | tup xs => obtain ⟨z, its, r, ⟨ob, e, c⟩, od, e2, c2⟩ := x; exact ⟨z, its, r, ⟨ob, k _ _ (.inl rfl) e, c⟩, od, k _ _ (.inl rfl) e2, c2⟩
 | dK kvs => obtain ⟨z, y, vs, r, ob, es, ep, e, c⟩ := x; exact ⟨z, y, vs, r, ob, es, ep, k _ _ (.inl rfl) e, c⟩
 | dT kvs =>
  obtain ⟨z, y, xs, r, ob, es, ep, e, c⟩ := x
  exact ⟨z, y, xs, Paired.mapP r fun p q z => ⟨z.1, ht _ _ z.2.1, z.2.2⟩, ob, es, ep, k _ _ (.inl rfl) e, c⟩
 | set S n => obtain ⟨ob, es, ep, t, e, c⟩ := x; exact ⟨ob, es, ep, t, k _ _ (.inl rfl) e, c⟩
 | ins C dx fs =>
  obtain ⟨d, z, ne, e, mA, ⟨od, es, ep, e2, c⟩, r⟩ := x
  exact ⟨ho _ d, z, ne, k _ _ (.inl rfl) e, mA, ⟨od, es, ep, k _ _ (.inr d) e2, c⟩, r⟩
 | own y => obtain ⟨ob, e⟩ := x; exact ⟨ob, k _ _ (.inl rfl) e⟩
 | xd fs => obtain ⟨mA, ⟨od, es, ep, e, c⟩, r⟩ := x; exact ⟨mA, ⟨od, es, ep, k _ _ (.inl rfl) e, c⟩, r⟩
 | rng lo hi => obtain ⟨t, u, v, e⟩ := x; exact ⟨t, u, v, k _ _ (.inl rfl) e⟩
 | frz ob u ih => obtain ⟨e, q⟩ := x; exact ⟨k _ _ (.inl rfl) e, ih q⟩
 | tbl ps =>
  have e : h.get? a = some { cls := .none, data := .fields ps } := x
  show h'.get? a = some { cls := .none, data := .fields ps }
  exact k a _ (.inl rfl) e
 | met f y =>
  have e : h.get? a = some (PySem.W.methodObj (.ref f) (.ref y)) := x
  show h'.get? a = some (PySem.W.methodObj (.ref f) (.ref y))
  exact k a _ (.inl rfl) e
 | ext φ => obtain ⟨p, ⟨o, e⟩, st⟩ := x; exact ⟨st _ _ p fun o q => k _ _ (.inl rfl) q, ⟨o, k _ _ (.inl rfl) e⟩, st⟩
theorem HOk.lt (x : HOk P w H h) (e : H a = some o) : a < h.objs.size := (x a o e).lt
theorem HOk.fresh (x : HOk P w H h) (e : h.objs.size <= a) : H a = none := by
 cases q : H a with
 | none => rfl
 | some u => exact absurd (Nat.lt_of_lt_of_le (x.lt q) e) (Nat.lt_irrefl _)
theorem HOk.kept (x : HOk P w H h) (k : ∀ b u, h.get? b = some u -> h'.get? b = some u) : HOk P w H h' := fun a o e =>
 (x a o e).stay (fun b u _ q => k b u q) (fun _ q => q) fun _ _ q => q
theorem HOk.laid (x : HOk P w H h) (k : ∀ b u, h.get? b = some u -> h'.get? b = some u) (hp : h.objs.size <= a) (new : aF P w (upd H a o) h' a o) : HOk P w (upd H a o) h' := fun b u e => by
 have hn := x.fresh hp
 by_cases hb : b = a
 ·subst hb; rw [ad] at e; cases e; exact new
 ·rw [ap hb] at e
  exact (x b u e).stay (fun c v _ q => k c v q) (fun c q => by rw [ap (ag q hn)]; exact q) fun c xs q => by rw [ap (ag q hn)]; exact q
end
def Rd (H : Hp) (a : Addr) (u : HO) : Prop := H a = some u \/ ∃ o, H a = some (.frz o u)
theorem Rd.ok {P : Program} {w : World} {H : Hp} {h : Heap} {a : Addr} {u : HO} (r : Rd H a u) (x : HOk P w H h) : aF P w H h a u := by
 rcases r with r | ⟨o, r⟩
 ·exact x a u r
 ·obtain ⟨_, q⟩ := x a _ r
  exact q
def Mut : Option HO -> Prop
 | some (.lst _) => True
 | some (.dK _) => True
 | some (.dT _) => True
 | some (.set _ _) => True
 | some (.ins _ _ _) => True
 | some (.ext _) => True
 | _ => False
section
variable {P : Program} {w : World} {H : Hp} {h h' : Heap} {x e : Addr} {o' : HO}
theorem HOk.write (ok : HOk P w H h) (mu : Mut (H x)) (he : e = x \/ H e = some (.own x)) (k : ∀ b u, b ≠ e -> h.get? b = some u -> h'.get? b = some u) (heo : ∃ u, h'.get? e = some u)
  (new : aF P w (upd H x o') h' x o') : HOk P w (upd H x o') h' := fun b u q => by
 have nown : ∀ c y, H c = some (.own y) -> c ≠ x := fun c y r z => by subst z; rw [r] at mu; exact mu
 have ntup : ∀ c xs, H c = some (.tup xs) -> c ≠ x := fun c xs r z => by subst z; rw [r] at mu; exact mu
 by_cases hb : b = x
 ·subst hb; rw [ad] at q; cases q; exact new
 ·rw [ap hb] at q
  by_cases hbe : b = e
  ·have q' : H b = some (.own x) := by
    rcases he with z | z
    ·exact absurd (hbe.trans z) hb
    ·rw [hbe]; exact z
   rw [q] at q'; cases q'
   obtain ⟨v, hv⟩ := heo
   exact ⟨v, by rw [hbe]; exact hv⟩
  ·refine (ok b u q).stay (fun c v hc r => k c v ?_ r) (fun c r => by rw [ap (nown c b r)]; exact r) fun c xs r => by rw [ap (ntup c xs r)]; exact r
   rcases hc with rfl | hc
   ·exact hbe
   ·rintro rfl
    rcases he with z | z
    ·exact nown c b hc z
    ·rw [hc] at z; cases z; exact hb rfl
end
structure Un (fs ex : List Addr) (H H' : Hp) (h h' : Heap) : Prop where
 keep : ∀ b o, h.get? b = some o -> H b = none -> b ∉ fs -> b ∉ ex -> h'.get? b = some o
 slot : ∀ b o, h.get? b = some o -> H b = none -> b ∈ fs -> b ∉ ex -> ∃ sl, h'.get? b = some { o with slots := sl }
 free : ∀ b o, h.get? b = some o -> H b = none -> b ∉ ex -> H' b = none
 there : ∀ b o, h.get? b = some o -> b ∉ ex -> ∃ o', h'.get? b = some o'
 tups : ∀ b xs, H b = some (.tup xs) -> H' b = some (.tup xs)
 frzs : ∀ b o u, H b = some (.frz o u) -> H' b = some (.frz o u)
 tbls : ∀ b ps, H b = some (.tbl ps) -> ∃ more, H' b = some (.tbl (ps ++ more))
section
variable {fs fs' ex ex' : List Addr} {H H1 H2 : Hp} {h h1 h2 h' : Heap} {a x e : Addr} {o : HO}
theorem Un.any (u : Un fs ex H H1 h h1) {b : Addr} {ob : Obj} (q : h.get? b = some ob) (n : H b = none) (hx : b ∉ ex) : ∃ sl, h1.get? b = some { ob with slots := sl } := by
 by_cases hb : b ∈ fs
 ·exact u.slot b ob q n hb hx
 ·exact ⟨ob.slots, u.keep b ob q n hb hx⟩
theorem Un.kept (k : ∀ b u, h.get? b = some u -> h'.get? b = some u) : Un fs ex H H h h' :=
 ⟨fun b ob q _ _ _ => k b ob q, fun b ob q _ _ _ => ⟨ob.slots, k b ob q⟩, fun _ _ _ n _ => n, fun b ob q _ => ⟨ob, k b ob q⟩, fun _ _ q => q, fun _ _ _ q => q, fun _ ps q => ⟨#[], by rw [q]; simp⟩⟩
theorem Un.refl : Un fs ex H H h h := Un.kept fun _ _ q => q
theorem Un.laid (k : ∀ b u, h.get? b = some u -> h'.get? b = some u) (hp : h.objs.size <= a) (hn : H a = none) : Un fs ex H (upd H a o) h h' where
 keep := fun b u q _ _ _ => k b u q
 slot := fun b u q _ _ _ => ⟨u.slots, k b u q⟩
 free := fun b u q n _ => by rw [ap (Nat.ne_of_lt (Nat.lt_of_lt_of_le (Heap.lt_size q) hp))]; exact n
 there := fun b u q _ => ⟨u, k b u q⟩
 tups := fun b xs q => by rw [ap (ag q hn)]; exact q
 frzs := fun b u xs q => by rw [ap (ag q hn)]; exact q
 tbls := fun b ps q => ⟨#[], by rw [ap (ag q hn), q]; simp⟩
theorem Un.write (mu : Mut (H x)) (he : e = x \/ H e = some (.own x)) (k : ∀ b u, b ≠ e -> h.get? b = some u -> h'.get? b = some u) (heo : ∃ u, h'.get? e = some u) : Un fs ex H (upd H x o) h h' := by
 have hx : ∀ b, H b = none -> b ≠ x := fun b n z => by subst z; rw [n] at mu; exact mu
 have hb : ∀ b, H b = none -> b ≠ e := fun b n z => by
  subst z
  rcases he with r | r
  ·exact hx b n r
  ·rw [n] at r; cases r
 have hm : ∀ b u, H b = some u -> ¬ Mut (some u) -> b ≠ x := fun b u q nm z => by subst z; rw [q] at mu; exact nm mu
 refine ⟨fun b u q n _ _ => k b u (hb b n) q, fun b u q n _ _ => ⟨u.slots, k b u (hb b n) q⟩, fun b u q n _ => by rw [ap (hx b n)]; exact n, fun b u q _ => ?_,
  fun b xs q => by rw [ap (hm b _ q fun z => z)]; exact q, fun b u xs q => by rw [ap (hm b _ q fun z => z)]; exact q, fun b ps q => ⟨#[], by rw [ap (hm b _ q fun z => z), q]; simp⟩⟩
 by_cases hbe : b = e
 ·subst hbe; exact heo
 ·exact ⟨u, k b u hbe q⟩
end
def trk (h : Heap) (H : Hp) : List Addr := (List.range h.objs.size).filter fun a => (H a).isSome
def jn (h : Heap) (H : Hp) : Heap := PySem.W.hideAll h (trk h H)
theorem pA (h : Heap) (H : Hp) : (jn h H).objs.size = h.objs.size := PySem.W.hideAll_size _ _
theorem qD {h : Heap} {H : Hp} {b : Addr} {o : Obj} (e : h.get? b = some o) (n : H b = none) : (jn h H).get? b = some o :=
 PySem.W.hideAll_get _ e fun hm => by
  have q : (H b).isSome = true := (List.mem_filter.mp hm).2
  rw [n] at q; simp at q
theorem sC {h : Heap} {H : Hp} {b : Addr} {o : Obj} (e : (jn h H).get? b = some o) : h.get? b = some o /\ H b = none := by
 have e' : h.get? b = some o := PySem.W.of_hideAll (trk h H) e
 refine ⟨e', ?_⟩
 cases q : H b with
 | none => rfl
 | some x =>
  have hm : b ∈ trk h H := List.mem_filter.mpr ⟨List.mem_range.mpr (Heap.lt_size e'), by simp [q]⟩
  have z : (jn h H).get? b = none := PySem.W.hideAll_none (trk h H) hm
  rw [z] at e; cases e
def eT (g h : Heap) (L : Addr) : List (Addr × Obj) := (List.range h.objs.size).filterMap fun a => if a = L \/ (g.get? a).isSome = true then none else (h.get? a).map fun o => (a, o)
theorem fV {g h : Heap} {L a : Addr} {o : Obj} (h1 : a ≠ L) (h2 : g.get? a = none) (h3 : h.get? a = some o) : (a, o) ∈ eT g h L :=
 List.mem_filterMap.mpr ⟨a, List.mem_range.mpr (Heap.lt_size h3), by simp [h1, h2, h3]⟩
theorem gE {g h : Heap} {L : Addr} {p : Addr × Obj} (hp : p ∈ eT g h L) : p.1 ≠ L /\ g.get? p.1 = none /\ h.get? p.1 = some p.2 := by
 obtain ⟨b, _, e⟩ := List.mem_filterMap.mp hp
 split at e
 ·cases e
 ·rename_i hn
  cases q : h.get? b with
  | none => rw [q] at e; simp at e
  | some u =>
   rw [q] at e
   simp only [Option.map_some, Option.some.injEq] at e
   subst e
   refine ⟨fun z => hn (.inl z), ?_, q⟩
   show g.get? b = none
   cases r : g.get? b with
   | none => rfl
   | some v => exact (hn (.inr (by simp [r]))).elim
theorem ka {g h : Heap} {L : Addr} : News g L h (eT g h L) := fun p hp => let ⟨a, b, c⟩ := gE hp; ⟨c, a, b⟩
structure Mod (K : PySem.W.Frag) (mg : Str -> Option Value) (base : Heap) : Prop where
 kin : K.In base
 glob : base.Ns mainGlobals mg
 blt : ∃ mb, base.Ns builtinsNs mb /\ ∀ x : Str, x ≠ "__name__" -> mb x = bootBuiltins x
 nolimit : base.NoLimit
structure Cx where
 prog : Program
 w : World
 K : PySem.W.Frag
 mg : Str -> Option Value
 base : Heap
 A : Around
 N : List Str
 s₀ : Shared
 H₀ : Hp
 env : Env
 outer : List Env
 stack : List Env
 ex : List Addr
 fn : Str -> Bool
 calm : Bool
 pn : List (Addr × Obj)
 xe : Value -> Shared -> Prop
def frs (l : List Env) : List Addr := l.filterMap (·.frame)
abbrev Cx.fs (X : Cx) : List Addr := frs X.outer
def Vis (sc : Scope) (x : Str) : Prop := sc.names.lookup x = some .local \/ sc.names.lookup x = some .cell \/ sc.names.lookup x = some .free
def Loc (sc : Scope) (x : Str) : Prop := sc.names.lookup x = some .local \/ sc.names.lookup x = some .cell
def wU (env : Env) (h : Heap) (m : Str -> Option Value) (x : Str) (u : Value) : Prop :=
 (env.kindOf x = some .local /\ m x = some u) \/ ((env.kindOf x = some .cell \/ env.kindOf x = some .free) /\ ∃ c, env.cells.lookup x = some c /\ h.IsCell c (some u))
structure Cx.Ok (X : Cx) : Prop where
 mod : Mod X.K X.mg X.base
 kind : X.env.scope.kind = .function
 glob : X.env.globals = mainGlobals
 blt : X.env.builtins = builtinsNs
 above : X.s₀.heap.objs.size <= X.env.locals
 inj : ∀ x y c, X.env.cells.lookup x = some c -> X.env.cells.lookup y = some c -> x = y
 has : ∀ x, (X.env.kindOf x = some .cell \/ X.env.kindOf x = some .free) -> ∃ c, X.env.cells.lookup x = some c
 cab : ∀ x c, X.fn x = true -> X.env.cells.lookup x = some c -> X.s₀.heap.objs.size <= c
 hd : X.calm = true -> X.A.handled = none
 frames : X.A.frames = some X.stack
 stk : X.stack = X.outer \/ (X.stack = X.env :: X.outer /\ X.env.frame = some X.env.locals)
 exf : ∀ b ∈ X.ex, b ≠ X.env.locals /\ ∀ x c, X.env.cells.lookup x = some c -> c ≠ b
 bs : ∀ b o, X.base.get? b = some o -> X.s₀.heap.get? b = some o /\ X.H₀ b = none
 bsz : X.base.objs.size <= X.s₀.heap.objs.size
 noex : ∀ b o, X.base.get? b = some o -> b ∉ X.ex
 exfs : ∀ b ∈ X.ex, b ∉ X.fs
 funs : X.s₀.heap.FunFrames X.base X.outer
 frf : ∀ b ∈ X.fs, X.H₀ b = none
structure Inv (X : Cx) (pins : List (Addr × Obj)) (σ : List (Option V)) (H : Hp) (s : Shared) : Prop where
 ok : X.Ok
 os : s.os = X.s₀.os
 bare : AllBare s.gens
 base : Un X.fs X.ex X.H₀ H X.s₀.heap s.heap
 loc : ∃ m, s.heap.Ns X.env.locals m /\ ∀ (i : Nat) (x : Str) (v : V), X.N[i]? = some x -> σ[i]? = some (some v) -> Vis X.env.scope x -> ∃ u, aJ v u /\ wU X.env s.heap m x u
 cell : ∀ x c, X.env.cells.lookup x = some c -> ∃ v, s.heap.IsCell c v
 free : H X.env.locals = none
 freeC : ∀ x c, X.env.cells.lookup x = some c -> H c = none
 pin : ∀ p ∈ X.pn ++ pins, s.heap.get? p.1 = some p.2 /\ H p.1 = none /\ p.1 ≠ X.env.locals /\ p.1 ∉ X.fs /\ ∀ v, p.2.data ≠ .cell v
 hok : HOk X.prog X.w H s.heap
 len : σ.length = X.N.length
section
variable {X : Cx} {pins : List (Addr × Obj)} {σ : List (Option V)} {H H' : Hp} {s : Shared} {h' : Heap}
theorem Cx.Ok.nofr (ok : X.Ok) {b : Addr} {o : Obj} (e : X.base.get? b = some o) : b ∉ X.fs := fun hb => by
 have := (ok.funs.mem hb).1
 rw [e] at this; cases this
theorem Inv.bs (I : Inv X pins σ H s) : ∀ b o, X.base.get? b = some o -> s.heap.get? b = some o /\ H b = none := fun b o e =>
 ⟨I.base.keep b o (I.ok.bs b o e).1 (I.ok.bs b o e).2 (I.ok.nofr e) (I.ok.noex b o e), I.base.free b o (I.ok.bs b o e).1 (I.ok.bs b o e).2 (I.ok.noex b o e)⟩
theorem Inv.bk (I : Inv X pins σ H s) : ∀ b o, X.base.get? b = some o -> s.heap.get? b = some o := fun b o e => (I.bs b o e).1
theorem Inv.mod (I : Inv X pins σ H s) : Mod X.K X.mg X.base := I.ok.mod
theorem Inv.kIn (I : Inv X pins σ H s) : X.K.In s.heap := I.ok.mod.kin.keeps I.bk
theorem Inv.lt (I : Inv X pins σ H s) : X.env.locals < s.heap.objs.size := let ⟨_, hn, _⟩ := I.loc; hn.lt
theorem Inv.sz (I : Inv X pins σ H s) : X.s₀.heap.objs.size <= s.heap.objs.size := Nat.le_trans I.ok.above (Nat.le_of_lt I.lt)
theorem Inv.nofs (I : Inv X pins σ H s) {a : Addr} (h : s.heap.objs.size <= a) : a ∉ X.fs := fun hb => by
 obtain ⟨_, o, ho, _⟩ := I.ok.funs.mem hb
 exact absurd (Nat.lt_of_lt_of_le (Heap.lt_size ho) (Nat.le_trans I.sz h)) (Nat.lt_irrefl _)
theorem Inv.cne (I : Inv X pins σ H s) : ∀ x c, X.env.cells.lookup x = some c -> c ≠ X.env.locals := fun x c e z => by
 obtain ⟨v, o, ho, hd⟩ := I.cell x c e
 obtain ⟨m, ⟨o', es, ep, ho', hd', _⟩, _⟩ := I.loc
 rw [z, ho'] at ho; cases ho; rw [hd'] at hd; cases hd
theorem Inv.funs (I : Inv X pins σ H s) : s.heap.FunFrames X.base X.outer := by
 have all : ∀ (l : List Env), (∀ b ∈ frs l, b ∈ X.fs) -> X.s₀.heap.FunFrames X.base l -> s.heap.FunFrames X.base l := by
  intro l
  induction l with
  | nil => intro _ _; trivial
  | cons env r ih =>
   intro hs hl
   obtain ⟨hk, ⟨L, o, hf, hn, ho, hd⟩, hr⟩ := hl
   have hL : L ∈ X.fs := hs L (by unfold frs; rw [List.filterMap_cons, hf]; exact List.mem_cons_self)
   obtain ⟨sl, e⟩ := I.base.slot L o ho (I.ok.frf L hL) hL fun z => I.ok.exfs L z hL
   exact ⟨hk, ⟨L, _, hf, hn, e, hd⟩, ih (fun b hb => hs b (by unfold frs; rw [List.filterMap_cons, hf]; exact List.mem_cons_of_mem _ hb)) hr⟩
 exact all X.outer (fun _ hb => hb) I.ok.funs
theorem Inv.stack (I : Inv X pins σ H s) : s.heap.FunFrames X.base X.stack := by
 rcases I.ok.stk with e | ⟨e, hf⟩
 ·rw [e]; exact I.funs
 ·rw [e]
  obtain ⟨m, hn, _⟩ := I.loc
  refine .cons (by rw [I.ok.kind]; decide) hf hn ?_ I.funs
  exact Heap.get?_none_of_le (Nat.le_trans I.ok.bsz I.ok.above)
theorem Inv.stkSub (I : Inv X pins σ H s) : ∀ b ∈ frs X.stack, b ∈ X.env.locals :: X.fs := fun b hb => by
 rcases I.ok.stk with e | ⟨e, hf⟩
 ·rw [e] at hb; exact List.mem_cons_of_mem _ hb
 ·rw [e] at hb
  unfold frs at hb
  rw [List.filterMap_cons, hf] at hb
  exact hb
theorem Inv.stkFree (I : Inv X pins σ H s) : ∀ b ∈ frs X.stack, H b = none := fun b hb => by
 rcases List.mem_cons.mp (I.stkSub b hb) with e | hb
 ·rw [e]; exact I.free
 ·obtain ⟨_, o, ho, _⟩ := I.ok.funs.mem hb
  exact I.base.free b o ho (I.ok.frf b hb) fun z => I.ok.exfs b z hb
theorem Inv.step {g' : Array GenState} {t' : Nat} {d' : Drawn} {ch : List Addr} (I : Inv X pins σ H s)
  (hch : ∀ b ∈ ch, (b ∈ X.ex \/ X.s₀.heap.objs.size <= b) /\ b ≠ X.env.locals /\ (∀ x c, X.env.cells.lookup x = some c -> c ≠ b) /\ ∀ p ∈ X.pn ++ pins, p.1 ≠ b)
  (keep : ∀ b o, b ≠ X.env.locals -> b ∉ X.fs -> b ∉ ch -> s.heap.get? b = some o -> H b = none -> h'.get? b = some o)
  (slot : ∀ b o, b ≠ X.env.locals -> b ∈ X.fs -> b ∉ ch -> s.heap.get? b = some o -> H b = none -> ∃ sl, h'.get? b = some { o with slots := sl }) (free : ∀ b o, b ∉ ch -> s.heap.get? b = some o -> H b = none -> H' b = none)
  (there : ∀ b o, b ∉ ch -> s.heap.get? b = some o -> ∃ o', h'.get? b = some o')
  (tups : ∀ b xs, H b = some (.tup xs) -> H' b = some (.tup xs)) (frzs : ∀ b o u, H b = some (.frz o u) -> H' b = some (.frz o u)) (tbls : ∀ b ps, H b = some (.tbl ps) -> ∃ more, H' b = some (.tbl (ps ++ more)))
  (ns : ∀ m, s.heap.Ns X.env.locals m -> h'.Ns X.env.locals m) (hok : HOk X.prog X.w H' h') (hg : AllBare g') :
  Inv X pins σ H' { s with heap := h', gens := g', drawn := d', toks := t' } := by
 have neL : ∀ b o, X.s₀.heap.get? b = some o -> b ≠ X.env.locals := fun b o e => Nat.ne_of_lt (Nat.lt_of_lt_of_le (Heap.lt_size e) I.ok.above)
 have neC : ∀ b o, X.s₀.heap.get? b = some o -> b ∉ X.ex -> b ∉ ch := fun b o e hx hb => by
  rcases (hch b hb).1 with z | z
  ·exact hx z
  ·exact absurd (Nat.lt_of_lt_of_le (Heap.lt_size e) z) (Nat.lt_irrefl _)
 have cellK : ∀ x c, X.env.cells.lookup x = some c -> ∀ v, s.heap.IsCell c v -> h'.IsCell c v := fun x c e v ⟨o, ho, hd⟩ => by
  have nch : c ∉ ch := fun z => (hch c z).2.2.1 x c e rfl
  by_cases hc : c ∈ X.fs
  ·obtain ⟨sl, q⟩ := slot c o (I.cne x c e) hc nch ho (I.freeC x c e)
   exact ⟨_, q, hd⟩
  ·exact ⟨o, keep c o (I.cne x c e) hc nch ho (I.freeC x c e), hd⟩
 refine ⟨I.ok, I.os, hg, ⟨fun b o e n hb hx => ?_, fun b o e n hb hx => ?_, fun b o e n hx => ?_, fun b o e hx => ?_, fun b xs e => tups b xs (I.base.tups b xs e), fun b o xs e => frzs b o xs (I.base.frzs b o xs e), fun b ps e => ?_⟩, ?_, fun x c e => ?_, ?_, fun x c e => ?_, fun p hp => ?_, hok, I.len⟩
 ·exact keep b o (neL b o e) hb (neC b o e hx) (I.base.keep b o e n hb hx) (I.base.free b o e n hx)
 ·obtain ⟨sl, e1⟩ := I.base.slot b o e n hb hx
  obtain ⟨sl', e2⟩ := slot b _ (neL b o e) hb (neC b o e hx) e1 (I.base.free b o e n hx)
  exact ⟨sl', e2⟩
 ·obtain ⟨o', e1⟩ := I.base.there b o e hx
  exact free b o' (neC b o e hx) e1 (I.base.free b o e n hx)
 ·obtain ⟨o', e1⟩ := I.base.there b o e hx
  exact there b o' (neC b o e hx) e1
 ·obtain ⟨m1, e1⟩ := I.base.tbls b ps e
  obtain ⟨m2, e2⟩ := tbls b _ e1
  exact ⟨m1 ++ m2, by rw [e2, Array.append_assoc]⟩
 ·obtain ⟨m, hn, hl⟩ := I.loc
  refine ⟨m, ns m hn, fun i x v e1 e2 e3 => ?_⟩
  obtain ⟨u, r, l⟩ := hl i x v e1 e2 e3
  refine ⟨u, r, ?_⟩
  rcases l with l | ⟨k, c, e, z⟩
  ·exact .inl l
  ·exact .inr ⟨k, c, e, cellK x c e _ z⟩
 ·obtain ⟨v, z⟩ := I.cell x c e
  exact ⟨v, cellK x c e v z⟩
 ·obtain ⟨m, ⟨o, _, _, ho, _⟩, _⟩ := I.loc
  exact free _ o (fun z => (hch _ z).2.1 rfl) ho I.free
 ·obtain ⟨v, o, ho, hd⟩ := I.cell x c e
  exact free c o (fun z => (hch c z).2.2.1 x c e rfl) ho (I.freeC x c e)
 ·obtain ⟨e, n, ne, nf, d⟩ := I.pin p hp
  have nch : p.1 ∉ ch := fun z => (hch p.1 z).2.2.2 p hp rfl
  exact ⟨keep p.1 p.2 ne nf nch e n, free p.1 p.2 nch e n, ne, nf, d⟩
theorem Inv.un {t' : Nat} (I : Inv X pins σ H s) (u : Un X.fs [] H H' s.heap h') (hok : HOk X.prog X.w H' h') : Inv X pins σ H' { s with heap := h', toks := t' } := by
 obtain ⟨m, ⟨o, es, ep, ho, r⟩, _⟩ := id I.loc
 obtain ⟨sl, hL⟩ := u.any ho I.free (by simp)
 exact I.step (g' := s.gens) (d' := s.drawn) (ch := []) (fun _ z => nomatch z) (fun b o _ hb _ e n => u.keep b o e n hb (by simp)) (fun b o _ hb _ e n => u.slot b o e n hb (by simp)) (fun b o _ e n => u.free b o e n (by simp)) (fun b o _ e => u.there b o e (by simp)) u.tups u.frzs u.tbls (fun m' hm => by
  obtain ⟨o', es', ep', ho', r'⟩ := hm
  rw [ho] at ho'; cases ho'
  exact ⟨_, es', ep', hL, r'⟩) hok I.bare
theorem Inv.call {g' : Array GenState} {t' : Nat} {d' : Drawn} {ch : List Addr} (I : Inv X pins σ H s) (u : Un (frs X.stack) ch H H' s.heap h') (hok : HOk X.prog X.w H' h') (hg : AllBare g')
  (hch : ∀ b ∈ ch, (b ∈ X.ex \/ X.s₀.heap.objs.size <= b) /\ b ≠ X.env.locals /\ (∀ x c, X.env.cells.lookup x = some c -> c ≠ b) /\ ∀ p ∈ X.pn ++ pins, p.1 ≠ b) :
  Inv X pins σ H' { s with heap := h', gens := g', drawn := d', toks := t' } := by
 obtain ⟨m, ⟨o, es, ep, ho, r⟩, _⟩ := id I.loc
 obtain ⟨sl, hL⟩ := u.any ho I.free fun z => (hch _ z).2.1 rfl
 exact I.step (ch := ch) hch (fun b o hL hb hc e n => u.keep b o e n (fun z => (List.mem_cons.mp (I.stkSub b z)).elim hL hb) hc) (fun b o _ _ hc e n => u.any e n hc) (fun b o hc e n => u.free b o e n hc) (fun b o hc e => u.there b o e hc) u.tups u.frzs u.tbls (fun m' hm => by
  obtain ⟨o', es', ep', ho', r'⟩ := hm
  rw [ho] at ho'; cases ho'
  exact ⟨_, es', ep', hL, r'⟩) hok hg
theorem Inv.turned {t' : Nat} {it : Addr} (I : Inv X pins σ H s) (k : ∀ b o, b ≠ it -> s.heap.get? b = some o -> h'.get? b = some o) (hn : H it = none) (hL : it ≠ X.env.locals)
  (h1 : it ∈ X.ex \/ X.s₀.heap.objs.size <= it) (h2 : ∀ x c, X.env.cells.lookup x = some c -> c ≠ it) (h3 : ∀ p ∈ X.pn ++ pins, p.1 ≠ it) : Inv X pins σ H { s with heap := h', toks := t' } := by
 have nit : ∀ b u, H b = some u -> b ≠ it := fun b u e z => by rw [z, hn] at e; cases e
 refine I.step (g' := s.gens) (d' := s.drawn) (ch := [it]) (fun b hb => ?_) (fun b o _ _ hc e _ => k b o (fun z => hc (by simp [z])) e) (fun b o _ _ hc e _ => ⟨o.slots, k b o (fun z => hc (by simp [z])) e⟩) (fun _ _ _ _ n => n)
  (fun b o hc e => ⟨o, k b o (fun z => hc (by simp [z])) e⟩) (fun _ _ e => e) (fun _ _ _ e => e) (fun b ps e => ⟨#[], by rw [e]; simp⟩) (fun m hm => ?_) (fun b u e => ?_) I.bare
 ·have e : b = it := by simpa using hb
  subst e
  exact ⟨h1, hL, h2, h3⟩
 ·obtain ⟨o, es, ep, ho, r⟩ := hm
  exact ⟨o, es, ep, k _ o (Ne.symm hL) ho, r⟩
 ·refine (I.hok b u e).stay (fun c v hc q => k c v ?_ q) (fun _ q => q) fun _ _ q => q
  rcases hc with z | z
  ·rw [z]; exact nit b u e
  ·exact nit c _ z
theorem Inv.tok (I : Inv X pins σ H s) (t : Nat) : Inv X pins σ H { s with toks := t } := I.un (h' := s.heap) (t' := t) Un.refl I.hok
theorem Inv.kept {t' : Nat} (I : Inv X pins σ H s) (k : ∀ b u, s.heap.get? b = some u -> h'.get? b = some u) : Inv X pins σ H { s with heap := h', toks := t' } := I.un (Un.kept k) (I.hok.kept k)
theorem Inv.laid {a : Addr} {o : HO} {t' : Nat} (I : Inv X pins σ H s) (k : ∀ b u, s.heap.get? b = some u -> h'.get? b = some u) (hp : s.heap.objs.size <= a) (new : aF X.prog X.w (upd H a o) h' a o) :
  Inv X pins σ (upd H a o) { s with heap := h', toks := t' } := I.un (Un.laid k hp (I.hok.fresh hp)) (I.hok.laid k hp new)
theorem Inv.write {x e : Addr} {o : HO} {t' : Nat} (I : Inv X pins σ H s) (mu : Mut (H x)) (he : e = x \/ H e = some (.own x)) (k : ∀ b u, b ≠ e -> s.heap.get? b = some u -> h'.get? b = some u) (heo : ∃ u, h'.get? e = some u)
  (new : aF X.prog X.w (upd H x o) h' x o) : Inv X pins σ (upd H x o) { s with heap := h', toks := t' } := I.un (Un.write mu he k heo) (I.hok.write mu he k heo new)
theorem Inv.weak {σ' : List (Option V)} (I : Inv X pins σ H s) (hl : σ'.length = σ.length) (w : ∀ (i : Nat) v, σ'[i]? = some (some v) -> σ[i]? = some (some v)) : Inv X pins σ' H s :=
 ⟨I.ok, I.os, I.bare, I.base, let ⟨m, hn, hl'⟩ := I.loc; ⟨m, hn, fun i x v e1 e2 e3 => hl' i x v e1 (w i v e2) e3⟩, I.cell, I.free, I.freeC, I.pin, I.hok, hl.trans I.len⟩
theorem Inv.pins_of {pins' : List (Addr × Obj)} (I : Inv X pins σ H s) (h : ∀ p ∈ pins', s.heap.get? p.1 = some p.2 /\ H p.1 = none /\ p.1 ≠ X.env.locals /\ p.1 ∉ X.fs /\ ∀ v, p.2.data ≠ .cell v) : Inv X pins' σ H s :=
 ⟨I.ok, I.os, I.bare, I.base, I.loc, I.cell, I.free, I.freeC, fun p hp => (List.mem_append.mp hp).elim (fun z => I.pin p (List.mem_append_left _ z)) (h p), I.hok, I.len⟩
theorem jX {N : List Str} (hN : N.Nodup) {i j : Nat} {x : Str} (a : N[i]? = some x) (b : N[j]? = some x) : i = j := by
 obtain ⟨h1, e1⟩ := List.getElem?_eq_some_iff.mp a
 obtain ⟨h2, e2⟩ := List.getElem?_eq_some_iff.mp b
 exact (List.getElem_inj hN).mp (e1.trans e2.symm)
theorem iR {M : Model} {A : Around} {E : Value -> Shared -> Prop} {i : Nat} {x : Str} {v : V} {u : Value} {Q : Unit -> Shared -> Prop} (I : Inv X pins σ H s) (hN : X.N.Nodup) (hi : X.N[i]? = some x) (hx : Loc X.env.scope x) (r : aJ v u)
  (h : ∀ s', Inv X pins (σ.set i (some v)) H s' -> (∃ a, Heap.SameBut a s.heap s'.heap /\ (a = X.env.locals \/ X.env.cells.lookup x = some a)) -> Q () s') (hf : X.fn x = true \/ X.env.scope.names.lookup x = some .local := by first | exact .inl rfl | exact .inr rfl | assumption) : wpAny M A (storeName X.env x u) Q E s := by
 obtain ⟨m, hn, hl⟩ := id I.loc
 have hcls : (X.env.scope.kind == .class || (X.env.scope.kind == .module && X.env.locals != X.env.globals)) = false := by rw [I.ok.kind]; rfl
 have hiσ : i < σ.length := by rw [I.len]; exact (List.getElem?_eq_some_iff.mp hi).1
 have cne := I.cne
 have tracked : ∀ {a : Addr} {h' : Heap}, (∃ o, s.heap.get? a = some o /\ H a = none) -> Heap.SameBut a s.heap h' -> HOk X.prog X.w H h' := fun {a h'} ha hs b ob e => by
  obtain ⟨_, _, hfree⟩ := ha
  refine (I.hok b ob e).stay (fun c w' hc q => (hs.2 c ?_).trans q) (fun _ q => q) fun _ _ q => q
  rintro rfl
  rcases hc with rfl | hc
  ·rw [hfree] at e; cases e
  ·rw [hfree] at hc; cases hc
 rcases hx with hk | hk
 ·refine wpAny_storeName_local hk hn (fun h' hn' hs => ?_) hcls
  obtain ⟨oL, _, _, hoL, _⟩ := id hn
  refine h _ ⟨I.ok, I.os, I.bare, ⟨fun b o e n hb hx => ?_, fun b o e n hb hx => ?_, I.base.free, fun b o e hx => ?_, I.base.tups, I.base.frzs, I.base.tbls⟩, ⟨_, hn', fun j y v' e1 e2 e3 => ?_⟩, fun y c e => ?_, I.free, I.freeC, fun p hp => ?_, tracked ⟨oL, hoL, I.free⟩ hs, by simpa using I.len⟩ ⟨_, hs, .inl rfl⟩
  ·exact (hs.2 b (Nat.ne_of_lt (Nat.lt_of_lt_of_le (Heap.lt_size e) I.ok.above))).trans (I.base.keep b o e n hb hx)
  ·obtain ⟨sl, e1⟩ := I.base.slot b o e n hb hx
   exact ⟨sl, (hs.2 b (Nat.ne_of_lt (Nat.lt_of_lt_of_le (Heap.lt_size e) I.ok.above))).trans e1⟩
  ·obtain ⟨o', e1⟩ := I.base.there b o e hx
   exact ⟨o', (hs.2 b (Nat.ne_of_lt (Nat.lt_of_lt_of_le (Heap.lt_size e) I.ok.above))).trans e1⟩
  ·by_cases hj : j = i
   ·subst hj
    rw [hi] at e1; cases e1
    rw [List.getElem?_set_self hiσ] at e2
    cases e2
    exact ⟨u, r, .inl ⟨hk, by simp⟩⟩
   ·rw [List.getElem?_set_ne (Ne.symm hj)] at e2
    obtain ⟨u', r', q⟩ := hl j y v' e1 e2 e3
    refine ⟨u', r', ?_⟩
    rcases q with ⟨k, e⟩ | ⟨k, c, e, z⟩
    ·refine .inl ⟨k, ?_⟩
     have : y ≠ x := fun e => hj (jX hN e1 (e ▸ hi))
     simp [this, e]
    ·exact .inr ⟨k, c, e, z.sameBut hs (cne y c e)⟩
  ·obtain ⟨w', z⟩ := I.cell y c e
   exact ⟨w', z.sameBut hs (cne y c e)⟩
  ·obtain ⟨e, n, ne, nf, d⟩ := I.pin p hp
   exact ⟨(hs.2 p.1 ne).trans e, n, ne, nf, d⟩
 ·have hfn : X.fn x = true := by
   rcases hf with z | z
   ·exact z
   ·rw [z] at hk; cases hk
  obtain ⟨c, hc⟩ := I.ok.has x (.inl hk)
  obtain ⟨w', z⟩ := I.cell x c hc
  refine wpAny_storeName_cell I.ok.kind hk hc z (fun h' hc' hs => ?_)
  obtain ⟨oc, hoc, hocd⟩ := id z
  refine h { s with heap := h' } ⟨I.ok, I.os, I.bare, ⟨fun b o e n hb hx => ?_, fun b o e n hb hx => ?_, I.base.free, fun b o e hx => ?_, I.base.tups, I.base.frzs, I.base.tbls⟩, ⟨m, hn.sameBut hs (Ne.symm (cne x c hc)), fun j y v' e1 e2 e3 => ?_⟩, fun y c' e => ?_, I.free, I.freeC, fun p hp => ?_, tracked ⟨oc, hoc, I.freeC x c hc⟩ hs, by simpa using I.len⟩ ⟨c, hs, .inr hc⟩
  ·exact (hs.2 b (Nat.ne_of_lt (Nat.lt_of_lt_of_le (Heap.lt_size e) (I.ok.cab x c hfn hc)))).trans (I.base.keep b o e n hb hx)
  ·obtain ⟨sl, e1⟩ := I.base.slot b o e n hb hx
   exact ⟨sl, (hs.2 b (Nat.ne_of_lt (Nat.lt_of_lt_of_le (Heap.lt_size e) (I.ok.cab x c hfn hc)))).trans e1⟩
  ·obtain ⟨o', e1⟩ := I.base.there b o e hx
   exact ⟨o', (hs.2 b (Nat.ne_of_lt (Nat.lt_of_lt_of_le (Heap.lt_size e) (I.ok.cab x c hfn hc)))).trans e1⟩
  ·by_cases hj : j = i
   ·subst hj
    rw [hi] at e1; cases e1
    rw [List.getElem?_set_self hiσ] at e2
    cases e2
    exact ⟨u, r, .inr ⟨.inl hk, c, hc, hc'⟩⟩
   ·rw [List.getElem?_set_ne (Ne.symm hj)] at e2
    obtain ⟨u', r', q⟩ := hl j y v' e1 e2 e3
    refine ⟨u', r', ?_⟩
    rcases q with q | ⟨k, c', e, z'⟩
    ·exact .inl q
    ·refine .inr ⟨k, c', e, z'.sameBut hs ?_⟩
     rintro rfl
     exact hj (jX hN e1 (I.ok.inj _ _ _ e hc ▸ hi))
  ·by_cases hcc : c' = c
   ·subst hcc; exact ⟨_, hc'⟩
   ·obtain ⟨w2, z2⟩ := I.cell y c' e
    exact ⟨w2, z2.sameBut hs hcc⟩
  ·obtain ⟨e, n, ne, nf, d⟩ := I.pin p hp
   refine ⟨(hs.2 p.1 ?_).trans e, n, ne, nf, d⟩
   intro q
   rw [q, hoc] at e
   have q' : oc = p.2 := Option.some.inj e
   exact d w' (by rw [<- q']; exact hocd)
theorem lp {M : Model} {A : Around} {E : Value -> Shared -> Prop} {i : Nat} {x : Str} {v : V} {u : Value} {Q : Unit -> Shared -> Prop} (I : Inv X pins σ H s) (hN : X.N.Nodup) (hi : X.N[i]? = some x) (hx : Loc X.env.scope x) (r : aJ v u)
  (h : ∀ s', Inv X pins (σ.set i (some v)) H s' -> Q () s') (hf : X.fn x = true \/ X.env.scope.names.lookup x = some .local := by first | exact .inl rfl | exact .inr rfl | assumption) : wpAny M A (storeName X.env x u) Q E s :=
 iR I hN hi hx r (fun s' I' _ => h s' I') hf
theorem Inv.call' {s' : Shared} {ch : List Addr} (I : Inv X pins σ H s) (ho : s'.os = s.os) (u : Un (frs X.stack) ch H H' s.heap s'.heap) (hok : HOk X.prog X.w H' s'.heap) (hg : AllBare s'.gens)
  (hch : ∀ b ∈ ch, (b ∈ X.ex \/ X.s₀.heap.objs.size <= b) /\ b ≠ X.env.locals /\ (∀ x c, X.env.cells.lookup x = some c -> c ≠ b) /\ ∀ p ∈ X.pn ++ pins, p.1 ≠ b) : Inv X pins σ H' s' := by
 obtain ⟨h', g', d', t', o'⟩ := s'
 have e : o' = s.os := ho
 subst e
 exact I.call (g' := g') (t' := t') (d' := d') u hok hg hch
end
abbrev XK := Value -> Option Addr -> Hp -> Prop
abbrev St := List (Option V)
abbrev VK := V -> Hp -> Prop
abbrev TE := St -> Hp -> VK -> Prop
abbrev TT := St -> Hp -> (Bool -> Hp -> Prop) -> Prop
abbrev TA := St -> Hp -> (List V -> Hp -> Prop) -> Prop
structure eE where
 nx : St -> Hp -> Prop
 rt : VK
 bk : St -> Hp -> Prop := fun _ _ => False
 ct : St -> Hp -> Prop := fun _ _ => False
abbrev TS := eE -> St -> Hp -> Prop
def EP (X : Cx) (pins : List (Addr × Obj)) (σ : St) (Q : VK) (u : Value) (s' : Shared) : Prop := ∃ v H', Inv X pins σ H' s' /\ aJ v u /\ Q v H'
def TP (X : Cx) (pins : List (Addr × Obj)) (σ : St) (Q : Bool -> Hp -> Prop) (b : Bool) (s' : Shared) : Prop := ∃ H', Inv X pins σ H' s' /\ Q b H'
def AP (X : Cx) (pins : List (Addr × Obj)) (σ : St) (Q : List V -> Hp -> Prop) (us : List Value) (s' : Shared) : Prop := ∃ vs H', Inv X pins σ H' s' /\ aG vs us /\ Q vs H'
def SP (X : Cx) (pins : List (Addr × Obj)) (D : eE) (f : Flow) (s' : Shared) : Prop :=
 match f with
 | .next => ∃ σ' H', Inv X pins σ' H' s' /\ D.nx σ' H'
 | .brk => ∃ σ' H', Inv X pins σ' H' s' /\ D.bk σ' H'
 | .cont => ∃ σ' H', Inv X pins σ' H' s' /\ D.ct σ' H'
 | .ret u => ∃ v σ' H', Inv X pins σ' H' s' /\ aJ v u /\ D.rt v H'
def PE (X : Cx) (e : Expr) (t : TE) : Prop :=
 ∀ (pins : List (Addr × Obj)) (s : Shared) (σ : St) (H : Hp) (Q : VK), Inv X pins σ H s -> t σ H Q -> wpAny (model X.prog X.w) X.A (eval e X.env) (EP X pins σ Q) X.xe s
def PT (X : Cx) (e : Expr) (t : TT) : Prop :=
 ∀ (pins : List (Addr × Obj)) (s : Shared) (σ : St) (H : Hp) (Q : Bool -> Hp -> Prop), Inv X pins σ H s -> t σ H Q -> wpAny (model X.prog X.w) X.A (isTrue e X.env (eval e X.env)) (TP X pins σ Q) X.xe s
def PW (X : Cx) (e : Expr) (t : TT) : Prop :=
 ∀ (whole : Sem Value) (pins : List (Addr × Obj)) (s : Shared) (σ : St) (H : Hp) (Q : Bool -> Hp -> Prop), Inv X pins σ H s -> t σ H Q -> wpAny (model X.prog X.w) X.A (isTrue e X.env whole) (TP X pins σ Q) X.xe s
theorem PW.pt {X : Cx} {e : Expr} {t : TT} (h : PW X e t) : PT X e t := h _
def PA (X : Cx) (es : List Expr) (t : TA) : Prop :=
 ∀ (pos : Pos) (pins : List (Addr × Obj)) (s : Shared) (σ : St) (H : Hp) (Q : List V -> Hp -> Prop), Inv X pins σ H s -> t σ H Q -> wpAny (model X.prog X.w) X.A (spliced (backTo pos (starEach es X.env))) (AP X pins σ Q) X.xe s
def PS (X : Cx) (st : Stmt) (t : TS) : Prop :=
 ∀ (pins : List (Addr × Obj)) (s : Shared) (σ : St) (H : Hp) (D : eE), Inv X pins σ H s -> t D σ H -> wpAny (model X.prog X.w) X.A (exec st X.env) (SP X pins D) X.xe s
def PSs (X : Cx) (st : List Stmt) (t : TS) : Prop :=
 ∀ (pins : List (Addr × Obj)) (s : Shared) (σ : St) (H : Hp) (D : eE), Inv X pins σ H s -> t D σ H -> wpAny (model X.prog X.w) X.A (execs st X.env) (SP X pins D) X.xe s
theorem thn {α : Type} {t : Sem α} {Q Q' : α -> Shared -> Prop} {M : Model} {A : Around} {E : Value -> Shared -> Prop} {s : Shared} (h : wpAny M A t Q E s) (hQ : ∀ a s, Q a s -> Q' a s) : wpAny M A t Q' E s := wpAny_mono h hQ fun _ _ x => x
section
variable {X : Cx}
def vY (i : Nat) : TE := fun σ H Q => ∃ v, σ[i]? = some (some v) /\ Q v H
def tC (v : V) : TE := fun _ H Q => Q v H
theorem uY {i : Nat} {x : Str} {pos : Pos} (hN : X.N[i]? = some x) (hv : Vis X.env.scope x) (hd : (x == ("__debug__" : Str)) = false := by decide) (hcd : (x == ("__classdict__" : Str)) = false := by decide) : PE X (.Name x pos) (vY i) := by
 intro pins s σ H Q I h
 obtain ⟨v, e, h⟩ := h
 obtain ⟨m, hn, hl⟩ := I.loc
 obtain ⟨u, r, l⟩ := hl i x v hN e hv
 have fin : EP X pins σ Q u s := ⟨v, H, I, r, h⟩
 rcases l with ⟨hk, hm⟩ | ⟨hk, c, hc, hcell⟩
 ·exact wpAny_Name (wpAny_loadName_local I.ok.kind hk hn hm fin) hd
 ·rcases hk with hk | hk
  ·exact wpAny_Name (wpAny_loadName_cell I.ok.kind hk hc hcell fin) hd
  ·exact wpAny_Name (wpAny_loadName_free I.ok.kind hk hc hcell fin hcd) hd
theorem ai {i j pos} : PE X (.Constant (.int i) j pos) (tC (.int i)) := fun _ _ _ H _ I h => wpAny_Constant_int ⟨.int i, H, I.tok _, ⟨_, rfl⟩, h⟩
theorem gs {b j pos} : PE X (.Constant (.bool b) j pos) (tC (.bl b)) := fun _ _ _ H _ I h => Constant_bool ⟨.bl b, H, I, rfl, h⟩
theorem mK {x j pos} : PE X (.Constant (.str x) j pos) (tC (.str x)) := fun _ _ _ H _ I h => Calls.Constant_str ⟨.str x, H, I.tok _, ⟨_, rfl⟩, h⟩
def Gl (X : Cx) (x : Str) : Prop := X.env.kindOf x = some .globalImplicit
theorem tM {E : Value -> Shared -> Prop} {pins : List (Addr × Obj)} {s : Shared} {σ : St} {H : Hp} {x : Str} {u : Value} {pos : Pos} {Q : Value -> Shared -> Prop} (I : Inv X pins σ H s) (hg : Gl X x) (hm : X.mg x = some u) (h : Q u s)
  (hd : (x == ("__debug__" : Str)) = false := by decide) : wpAny (model X.prog X.w) X.A (eval (.Name x pos) X.env) Q E s :=
 Calls.Name_function_global I.ok.kind hg (Calls.loadGlobal_global (by rw [I.ok.glob]; exact I.mod.glob.keeps I.bk) hm h) hd
theorem gA {E : Value -> Shared -> Prop} {pins : List (Addr × Obj)} {s : Shared} {σ : St} {H : Hp} {x : Str} {u : Value} {pos : Pos} {Q : Value -> Shared -> Prop} (I : Inv X pins σ H s) (hg : Gl X x) (hm : X.mg x = none) (hv : bootBuiltins x = some u) (h : Q u s)
  (hn : x ≠ "__name__" := by decide) (hd : (x == ("__debug__" : Str)) = false := by decide) : wpAny (model X.prog X.w) X.A (eval (.Name x pos) X.env) Q E s := by
 obtain ⟨mb, h1, h2⟩ := I.mod.blt
 exact Calls.Name_function_global I.ok.kind hg (Calls.loadGlobal_builtin (by rw [I.ok.glob]; exact I.mod.glob.keeps I.bk) hm (by rw [I.ok.blt]; exact h1.keeps I.bk) ((h2 x hn).trans hv) h) hd
theorem jV {x : Str} {v : V} {u : Value} {pos : Pos} (hg : Gl X x) (hm : X.mg x = none) (hv : bootBuiltins x = some u) (r : aJ v u) (hn : x ≠ "__name__" := by decide) (hd : (x == ("__debug__" : Str)) = false := by decide) : PE X (.Name x pos) (tC v) :=
 fun _ _ _ H _ I h => gA I hg hm hv ⟨v, H, I, r, h⟩ hn hd
variable {a b : Expr} {ta tb : TE} {pos : Pos}
def tB (t : TE) : TT := fun σ H Q => t σ H fun x H1 => ∃ c, x = .bl c /\ Q c H1
theorem dF {e : Expr} {t : TE} (h : PE X e t) (he : ∀ whole, isTrue e X.env whole = (do let v <- whole; standAt e.pos; holding [v] (truthy v)) := by intro _; rfl) : PT X e (tB t) := by
 intro pins s σ H Q I hw
 refine isTrue_plain (thn (h pins s σ H _ I hw) fun v s1 ⟨x, H1, I1, r1, q1⟩ => ?_) (he _)
 obtain ⟨d, rfl, q⟩ := q1
 cases r1
 exact wpAny_truthy_bool ⟨H1, I1, q⟩
variable {tA tB' : TT} {rest : List Expr}
def tOr (t u : TT) : TT := fun σ H Q => t σ H fun c H1 => if c = true then Q true H1 else u σ H1 Q
def wP (t : TT) : TT := fun σ H Q => t σ H fun c H1 => Q (!c) H1
theorem jz (ha : PT X a tA) : PW X (.BoolOp .Or [a] pos) tA := by
 intro wh pins s σ H Q I h
 refine isTrue_or (thn (ha pins s σ H Q I h) fun c s1 e => ?_)
 cases c with
 | false => exact isTrue_or_nil e
 | true => exact e
theorem kJ (ha : PT X a tA) (hb : PW X (.BoolOp .Or (b :: rest) pos) tB') : PW X (.BoolOp .Or (a :: b :: rest) pos) (tOr tA tB') := by
 intro wh pins s σ H Q I h
 refine isTrue_or (thn (ha pins s σ H _ I h) fun c s1 ⟨H1, I1, q1⟩ => ?_)
 cases c with
 | true => exact ⟨H1, I1, q1⟩
 | false => exact hb wh pins s1 σ H1 Q I1 q1
theorem fz (ha : PT X a tA) : PT X (.UnaryOp .Not a pos) (wP tA) := by
 intro pins s σ H Q I h
 exact isTrue_not (ha pins s σ H (fun c H1 => Q (!c) H1) I h)
def wA (ta tb : TE) : TE := fun σ H Q => ta σ H fun x H1 => ∃ c, x = .bl c /\ if c = true then tb σ H1 Q else Q (.bl false) H1
theorem uu {op} {t : TE} (h : PE X a t) : PE X (.BoolOp op [a] pos) t := fun pins s σ H Q I hw => BoolOp_one (h pins s σ H Q I hw)
theorem uk (ha : PE X a ta) (hb : PE X (.BoolOp .And (b :: rest) pos) tb) : PE X (.BoolOp .And (a :: b :: rest) pos) (wA ta tb) := by
 intro pins s σ H Q I h
 refine BoolOp_and (thn (ha pins s σ H _ I h) fun v s1 ⟨x, H1, I1, r1, q1⟩ => ?_)
 obtain ⟨c, rfl, q1⟩ := q1
 cases r1
 refine wpAny_truthy_bool ?_
 cases c with
 | true => exact hb pins s1 σ H1 Q I1 q1
 | false => exact ⟨.bl false, H1, I1, rfl, q1⟩
end
def SqL (K : PySem.W.Frag) (H : Hp) (a : Addr) (xs : List V) : Prop :=
 Rd H a (.lst xs) \/
  ∃ (o : Obj) (its : Array Value) (n : Nat), K.lookup a = some o /\ o.cls = .type "list" /\ o.dict = none /\ o.data = .seq its n /\ its.size <= sizeLine /\ aG xs its.toList
def SqT (K : PySem.W.Frag) (H : Hp) (a : Addr) (xs : List V) : Prop :=
 Rd H a (.tup xs) \/
  ∃ (o : Obj) (its : Array Value) (n : Nat), K.lookup a = some o /\ o.cls = .type "tuple" /\ o.data = .seq its n /\ its.size <= sizeLine /\ aG xs its.toList
def wW : Value -> Option V
 | .none => some .non
 | .bool b => some (.bl b)
 | .int i _ => some (.int i)
 | .str x _ => some (.str x)
 | .bytes b _ => some (.byt b)
 | .float b _ => some (.flt b)
 | .ref a => some (.ref a)
 | .type n => some (.ty n)
 | _ => none
theorem aJ.abs {x : V} {u : Value} (r : aJ x u) : wW u = some x := by
 cases x with
 | non => cases r; rfl
 | bl _ => cases r; rfl
 | int _ => obtain ⟨t, rfl⟩ := r; rfl
 | str _ => obtain ⟨t, rfl⟩ := r; rfl
 | byt _ => obtain ⟨t, rfl⟩ := r; rfl
 | flt _ => obtain ⟨t, rfl⟩ := r; rfl
 | ref _ => cases r; rfl
 | ty _ => cases r; rfl
theorem aJ.inj {x y : V} {u : Value} (r : aJ x u) (q : aJ y u) : x = y := Option.some.inj (r.abs.symm.trans q.abs)
theorem aG.inj : ∀ {xs ys : List V} {us : List Value}, aG xs us -> aG ys us -> xs = ys
 | _, _, _, .nil, .nil => rfl
 | _, _, _, .cons r t, .cons r' t' => by rw [r.inj r', aG.inj t t']
section
variable {X : Cx} {pins : List (Addr × Obj)} {σ : St} {H : Hp} {s : Shared} {a : Addr} {xs ys : List V}
theorem SqL.of {K : PySem.W.Frag} (h : H a = some (.lst xs)) : SqL K H a xs := .inl (.inl h)
theorem SqT.of {K : PySem.W.Frag} (h : H a = some (.tup xs)) : SqT K H a xs := .inl (.inl h)
theorem Inv.list (I : Inv X pins σ H s) (h : SqL X.K H a xs) : ∃ its : List Value, aG xs its /\ PlainL s.heap a its.toArray /\ xs.length <= sizeLine := by
 rcases h with h | ⟨o, its, n, hk, hc, hd, hs, hz, r⟩
 ·obtain ⟨z, its, n, r, e⟩ := h.ok I.hok
  exact ⟨its, r, ⟨_, n, e, rfl, rfl, rfl⟩, z⟩
 ·refine ⟨its.toList, r, ⟨o, n, I.kIn a o hk, hc, hd, by simpa using hs⟩, ?_⟩
  have e := r.length
  simp only [Array.length_toList] at e
  omega
theorem Inv.tuple (I : Inv X pins σ H s) (h : SqT X.K H a xs) : ∃ its : List Value, aG xs its /\ IsTup s.heap a its.toArray /\ xs.length <= sizeLine := by
 rcases h with h | ⟨o, its, n, hk, hc, hs, hz, r⟩
 ·obtain ⟨z, its, r, p⟩ := h.ok I.hok
  exact ⟨its, r, p.1, z⟩
 ·refine ⟨its.toList, r, ⟨o, I.kIn a o hk, hc, n, by simpa using hs⟩, ?_⟩
  have e := r.length
  simp only [Array.length_toList] at e
  omega
theorem Inv.list_inj (I : Inv X pins σ H s) (h : SqL X.K H a xs) (h' : SqL X.K H a ys) : xs = ys := by
 obtain ⟨its, r, ⟨o, n, e, _, _, d⟩, _⟩ := I.list h
 obtain ⟨its', r', ⟨o', n', e', _, _, d'⟩, _⟩ := I.list h'
 rw [e] at e'; cases e'
 rw [d] at d'
 injection d' with d1 _
 have : its = its' := by simpa using congrArg Array.toList d1
 subst this
 exact r.inj r'
theorem Inv.tuple_inj (I : Inv X pins σ H s) (h : SqT X.K H a xs) (h' : SqT X.K H a ys) : xs = ys := by
 obtain ⟨its, r, ⟨o, e, _, n, d⟩, _⟩ := I.tuple h
 obtain ⟨its', r', ⟨o', e', _, n', d'⟩, _⟩ := I.tuple h'
 rw [e] at e'; cases e'
 rw [d] at d'
 injection d' with d1 _
 have : its = its' := by simpa using congrArg Array.toList d1
 subst this
 exact r.inj r'
end
abbrev Cx.wish (X : Cx) (E : Value -> Shared -> Prop) : Cx := { X with xe := E }
abbrev Cx.nox (X : Cx) : Cx := X.wish fun _ _ => False
theorem Cx.Ok.wish {X : Cx} (ok : X.Ok) (E : Value -> Shared -> Prop) : (X.wish E).Ok :=
 ⟨ok.mod, ok.kind, ok.glob, ok.blt, ok.above, ok.inj, ok.has, ok.cab, ok.hd, ok.frames, ok.stk, ok.exf, ok.bs, ok.bsz, ok.noex, ok.exfs, ok.funs, ok.frf⟩
theorem Cx.Ok.unwish {X : Cx} {E : Value -> Shared -> Prop} (ok : (X.wish E).Ok) : X.Ok :=
 ⟨ok.mod, ok.kind, ok.glob, ok.blt, ok.above, ok.inj, ok.has, ok.cab, ok.hd, ok.frames, ok.stk, ok.exf, ok.bs, ok.bsz, ok.noex, ok.exfs, ok.funs, ok.frf⟩
section
variable {X : Cx} {pins : List (Addr × Obj)} {σ : St} {H : Hp} {s : Shared} {E : Value -> Shared -> Prop}
theorem Inv.wish (I : Inv X pins σ H s) (E : Value -> Shared -> Prop) : Inv (X.wish E) pins σ H s := ⟨I.ok.wish E, I.os, I.bare, I.base, I.loc, I.cell, I.free, I.freeC, I.pin, I.hok, I.len⟩
theorem Inv.unwish (I : Inv (X.wish E) pins σ H s) : Inv X pins σ H s := ⟨I.ok.unwish, I.os, I.bare, I.base, I.loc, I.cell, I.free, I.freeC, I.pin, I.hok, I.len⟩
theorem SP.unwish {D : eE} {f : Flow} {s' : Shared} (h : SP (X.wish E) pins D f s') : SP X pins D f s' := by
 cases f with
 | next => obtain ⟨σ', H', I, q⟩ := h; exact ⟨σ', H', I.unwish, q⟩
 | brk => obtain ⟨σ', H', I, q⟩ := h; exact ⟨σ', H', I.unwish, q⟩
 | cont => obtain ⟨σ', H', I, q⟩ := h; exact ⟨σ', H', I.unwish, q⟩
 | ret u => obtain ⟨v, σ', H', I, r, q⟩ := h; exact ⟨v, σ', H', I.unwish, r, q⟩
theorem PSs.nox {st : List Stmt} {t : TS} (h : PSs X.nox st t) : PSs X st t := fun pins s σ H D I hw =>
 wpAny_mono (h pins s σ H D (I.wish _) hw) (fun _ _ q => q.unwish) fun _ _ z => False.elim z
end
section
variable {X : Cx} {st : Stmt} {rest : List Stmt} {t u : TS} {e : Expr} {te : TE} {pos : Pos}
def tR : TS := fun D σ H => D.nx σ H
def vV (t u : TS) : TS := fun D σ H => t { D with nx := u D } σ H
theorem bo : PSs X [] tR := fun _ _ σ H _ I h => wpAny_execs_nil ⟨σ, H, I, h⟩
theorem ah (h1 : PS X st t) (h2 : PSs X rest u) : PSs X (st :: rest) (vV t u) := by
 intro pins s σ H D I h
 refine wpAny_execs_cons (thn (h1 pins s σ H { D with nx := u D } I h) fun f s1 q => ?_)
 cases f with
 | next =>
  obtain ⟨σ', H', I', q⟩ := q
  exact h2 pins s1 σ' H' D I' q
 | ret v => exact q
 | brk => exact q
 | cont => exact q
theorem ak (h1 : PS X st t) : PSs X [st] t := by
 intro pins s σ H D I h
 refine wpAny_execs_cons (thn (h1 pins s σ H D I h) fun f s1 q => ?_)
 cases f with
 | next => exact wpAny_execs_nil q
 | ret v => exact q
 | brk => exact q
 | cont => exact q
theorem Inv.quiet {pins : List (Addr × Obj)} {σ : St} {H : Hp} {s : Shared} (I : Inv X pins σ H s) : interactive X.env = false := by simp [interactive, I.ok.kind]
def wx (te : TE) : TS := fun D σ H => te σ H fun _ H1 => D.nx σ H1
theorem cA (he : PE X e te) (hs : swapsWith e none pos.line X.env = pure false := by rfl) : PS X (.Expr e pos) (wx te) := by
 intro pins s σ H D I h
 exact wpAny_Expr_any (thn (he pins s σ H _ I h) fun v s1 ⟨x, H1, I1, r1, q1⟩ => ⟨σ, H1, I1, q1⟩) I.quiet hs
def xk (te : TE) : TS := fun D σ H => te σ H D.rt
theorem aT (he : PE X e te) : PS X (.Return (some e) pos) (xk te) := by
 intro pins s σ H D I h
 exact wpAny_Return_some (thn (he pins s σ H _ I h) fun v s1 ⟨x, H1, I1, r1, q1⟩ => ⟨x, σ, H1, I1, r1, q1⟩)
def xq (c : TT) (t u : TS) : TS := fun D σ H => c σ H fun b H1 => if b = true then t D σ H1 else u D σ H1
theorem cD {c : Expr} {a b : List Stmt} {tc : TT} (hc : PT X c tc) (ha : PSs X a t) (hb : PSs X b u) : PS X (.If c a b pos) (xq tc t u) := by
 intro pins s σ H D I h
 refine wpAny_If (thn (hc pins s σ H _ I h) fun d s1 ⟨H1, I1, q1⟩ => ?_)
 cases d with
 | true => exact ha pins s1 σ H1 D I1 q1
 | false => exact hb pins s1 σ H1 D I1 q1
end
abbrev TG := V -> St -> Hp -> (St -> Hp -> Prop) -> Prop
abbrev TGs := List V -> St -> Hp -> (St -> Hp -> Prop) -> Prop
def PG (X : Cx) (target : Expr) (t : TG) : Prop :=
 ∀ (pins : List (Addr × Obj)) (s : Shared) (σ : St) (H : Hp) (v : V) (u : Value) (Q : St -> Hp -> Prop), Inv X pins σ H s -> aJ v u -> t v σ H Q ->
  wpAny (model X.prog X.w) X.A (assign target X.env u) (fun _ s' => ∃ σ' H', Inv X pins σ' H' s' /\ Q σ' H') X.xe s
def PGs (X : Cx) (ts : List Expr) (t : TGs) : Prop :=
 ∀ (pins : List (Addr × Obj)) (s : Shared) (σ : St) (H : Hp) (vs : List V) (us : List Value) (Q : St -> Hp -> Prop), Inv X pins σ H s -> aG vs us -> t vs σ H Q ->
  wpAny (model X.prog X.w) X.A (assignInOrder ((assignEach ts X.env).map (·.2)) us) (fun _ s' => ∃ σ' H', Inv X pins σ' H' s' /\ Q σ' H') X.xe s
abbrev vf := V -> V -> V -> Hp -> (Hp -> Prop) -> Prop
def wp (X : Cx) (t : vf) : Prop :=
 ∀ (pins : List (Addr × Obj)) (s : Shared) (σ : St) (H : Hp) (o i v : V) (ov iv u : Value) (Q : Hp -> Prop), Inv X pins σ H s -> aJ o ov -> aJ i iv -> aJ v u -> t o i v H Q ->
  wpAny (model X.prog X.w) X.A (setItem ov iv u) (fun _ s' => ∃ H', Inv X pins σ H' s' /\ Q H') X.xe s
section
variable {X : Cx} {pos : Pos}
def cP (i : Nat) : TG := fun v σ H Q => Q (σ.set i (some v)) H
theorem au {i : Nat} {x : Str} (hN : X.N.Nodup) (hi : X.N[i]? = some x) (hx : Loc X.env.scope x) (hf : X.fn x = true \/ X.env.scope.names.lookup x = some .local := by first | exact .inl rfl | exact .inr rfl | assumption) : PG X (.Name x pos) (cP i) := by
 intro pins s σ H v u Q I r h
 exact wpAny_assign_Name (lp I hN hi hx r (fun s' I' => ⟨_, H, I', h⟩) hf)
def mE : TGs := fun vs σ H Q => vs = [] /\ Q σ H
def dY (t : TG) (u : TGs) : TGs := fun vs σ H Q => ∃ v r, vs = v :: r /\ t v σ H fun σ' H' => u r σ' H' Q
theorem bp : PGs X [] mE := by
 intro pins s σ H vs us Q I r h
 obtain ⟨e, h⟩ := h
 subst e
 cases r
 exact assignInOrder_nil ⟨σ, H, I, h⟩
theorem aE {e : Expr} {es : List Expr} {t : TG} {u : TGs} (h1 : PG X e t) (h2 : PGs X es u)
  (hs : (assignEach (e :: es) X.env).map (·.2) = assign e X.env :: (assignEach es X.env).map (·.2) := by rfl) : PGs X (e :: es) (dY t u) := by
 intro pins s σ H vs us Q I r h
 obtain ⟨v, vr, e1, h⟩ := h
 subst e1
 cases r with
 | cons r rr =>
  rw [hs]
  refine assignInOrder_cons (thn (h1 pins s σ H _ _ _ I r h) fun _ s1 ⟨σ1, H1, I1, q1⟩ => ?_)
  exact h2 pins s1 σ1 H1 _ _ Q I1 rr q1
def rq (K : PySem.W.Frag) (n : Nat) (t : TGs) : TG := fun v σ H Q => ∃ a xs, v = .ref a /\ SqT K H a xs /\ xs.length = n /\ t xs σ H Q
theorem bG {es : List Expr} {k : Nat} {t : TGs} {n : Nat} (hc : X.calm = true) (h : PGs X es t)
  (hn : (assignEach es X.env).length = n := by rfl) (hst : (assignEach es X.env).findIdx? (·.1) = none := by rfl) : PG X (.Tuple es k pos) (rq X.K n t) := by
 intro pins s σ H v u Q I r hw
 obtain ⟨a, xs, e1, hq, hl, hw⟩ := hw
 subst e1
 cases r
 obtain ⟨its, rv, ht, hz⟩ := I.tuple hq
 refine assign_Tuple_tuple (I.ok.hd hc) ht (by simp [hn, <- hl, rv.length]) hst fun h' hx => ?_
 have I1 : Inv X pins σ H { s with heap := h' } := I.kept (t' := s.toks) fun b o e => hx b o (Nat.ne_of_lt (Heap.lt_size e)) e
 exact h pins _ σ H xs _ Q I1 (by simpa using rv) hw
def xv (to ti : TE) (t : vf) : TG := fun v σ H Q => to σ H fun o H1 => ti σ H1 fun i H2 => t o i v H2 fun H3 => Q σ H3
theorem qQ {o i : Expr} {to ti : TE} {t : vf} (ho : PE X o to) (hi : PE X i ti) (hs : wp X t)
  (ha : ∀ v, assign (.Subscript o i pos) X.env v = (do
   let ov <- holding [v] (eval o X.env)
   let iv <- holding [v, ov] (eval i X.env)
   standAt pos
   holding [v, ov, iv] (setItem ov iv v)
   release [v, ov, iv] []) := by intro _; rfl) : PG X (.Subscript o i pos) (xv to ti t) := by
 intro pins s σ H v u Q I r h
 rw [ha]
 refine wpAny_bind (wpAny_holding (thn (ho pins s σ H _ I h) fun ov s1 ⟨x, H1, I1, r1, q1⟩ => ?_))
 refine wpAny_bind (wpAny_holding (thn (hi pins s1 σ H1 _ I1 q1) fun iv s2 ⟨y, H2, I2, r2, q2⟩ => ?_))
 refine wpAny_bind (wpAny_standAt (wpAny_bind (wpAny_holding (thn (hs pins s2 σ H2 x y v ov iv u _ I2 r1 r2 r q2) fun _ s3 ⟨H3, I3, q3⟩ => ?_))))
 exact wpAny_release ⟨σ, H3, I3, q3⟩
def ur (te : TE) (g : TG) : TS := fun D σ H => te σ H fun x H1 => g x σ H1 D.nx
theorem mW {tg e : Expr} {te : TE} {g : TG} (he : PE X e te) (hg : PG X tg g) (hs : swapsWithSole [tg] e pos.line X.env = pure false := by rfl) (hw : swappedStores [tg] e X.env = pure none := by rfl)
  (h1 : (assignEach [tg] X.env).map (·.2) = [assign tg X.env] := by rfl) : PS X (.Assign [tg] e pos) (ur te g) := by
 intro pins s σ H D I h
 refine wpAny_Assign_stores (thn (he pins s σ H _ I h) fun v s1 ⟨x, H1, I1, r1, q1⟩ => ?_) hs hw
 rw [h1]
 exact thn (hg pins s1 σ H1 x v _ I1 r1 q1) fun _ s2 q => q
theorem aB {i : Nat} {x : Str} {e : Expr} {te : TE} {pos' : Pos} (hN : X.N.Nodup) (hi : X.N[i]? = some x) (hx : Loc X.env.scope x) (he : PE X e te) (hs : swapsWith e (some (.Name x pos')) pos.line X.env = pure false := by rfl) (hf : X.fn x = true \/ X.env.scope.names.lookup x = some .local := by first | exact .inl rfl | exact .inr rfl | assumption) :
  PS X (.Assign [.Name x pos'] e pos) (ur te (cP i)) := by
 intro pins s σ H D I h
 refine wpAny_Assign_Name (thn (he pins s σ H _ I h) fun v s1 ⟨y, H1, I1, r1, q1⟩ => ?_) hs
 exact lp I1 hN hi hx r1 (fun s2 I2 => ⟨_, H1, I2, q1⟩) hf
end
section
variable {X : Cx} {pos : Pos}
def qA (c : TT) (tb : TS) : TS := fun D σ H => ∃ W : Nat -> St -> Hp -> Prop, (∃ m, W m σ H) /\ ∀ m σ H, W m σ H ->
 c σ H fun b H1 => if b = true then ∃ N : St -> Hp -> Prop, (∀ σ' H', N σ' H' -> ∃ m', m' < m /\ W m' σ' H') /\ tb { D with nx := N, ct := N, bk := D.nx } σ H1 else D.nx σ H1
theorem rj {c : Expr} {body : List Stmt} {tc : TT} {tb : TS} (hp : PassesOwn (model X.prog X.w) X.A X.env X.xe) (hc : PT X c tc) (hb : PSs X body tb) : PS X (.While c body [] pos) (qA tc tb) := by
 intro pins s σ H D I h
 obtain ⟨W, ⟨m0, w0⟩, turn⟩ := h
 refine wpAny_While (codeAny_whileLoop (fun n s' => ∃ σ' H', Inv X pins σ' H' s' /\ W n σ' H') ?_ m0 ⟨σ, H, I, w0⟩)
 rintro n s1 ⟨σ1, H1, I1, w1⟩
 refine wpAny_passesOwn hp (thn (hc pins s1 σ1 H1 _ I1 (turn n σ1 H1 w1)) fun b s2 ⟨H2, I2, q2⟩ => ?_)
 cases b with
 | true =>
  obtain ⟨N, hN, q2⟩ := q2
  rw [if_pos rfl]
  refine wpAny_passesOwn hp (thn (hb pins s2 σ1 H2 _ I2 q2) fun f s3 q3 => ?_)
  cases f with
  | next =>
   obtain ⟨σ3, H3, I3, n3⟩ := q3
   obtain ⟨m', hm, w3⟩ := hN σ3 H3 n3
   exact ⟨m', hm, σ3, H3, I3, w3⟩
  | cont =>
   obtain ⟨σ3, H3, I3, n3⟩ := q3
   obtain ⟨m', hm, w3⟩ := hN σ3 H3 n3
   exact ⟨m', hm, σ3, H3, I3, w3⟩
  | brk => exact q3
  | ret v => exact q3
 | false =>
  rw [if_neg Bool.false_ne_true]
  exact wpAny_execs_nil ⟨σ1, H2, I2, q2⟩
end
structure It where
 go : Nat -> Hp -> Prop
 yld : Nat -> Hp -> V -> Hp -> Prop
 stop : Nat -> Hp -> Prop
def gM (X : Cx) (pins : List (Addr × Obj)) (H : Hp) (b : Addr) : Prop :=
 H b = none /\ b ≠ X.env.locals /\ b ∉ X.fs /\ (b ∈ X.ex \/ X.s₀.heap.objs.size <= b) /\ (∀ x c, X.env.cells.lookup x = some c -> c ≠ b) /\ ∀ p ∈ X.pn ++ pins, p.1 ≠ b
theorem Inv.fpOk {X : Cx} {pins : List (Addr × Obj)} {σ : St} {H H' : Hp} {s : Shared} {b : Addr} (I : Inv X pins σ H s) (hb : s.heap.objs.size <= b) (hn : H' b = none) : gM X pins H' b := by
 refine ⟨hn, Nat.ne_of_gt (Nat.lt_of_lt_of_le I.lt hb), I.nofs hb, .inr (Nat.le_trans I.sz hb), fun x c e z => ?_, fun p hp z => ?_⟩
 ·obtain ⟨v, q⟩ := I.cell x c e
  exact absurd (Nat.lt_of_lt_of_le q.lt (by rw [z]; exact hb)) (Nat.lt_irrefl _)
 ·exact absurd (Nat.lt_of_lt_of_le (Heap.lt_size (I.pin p hp).1) (by rw [z]; exact hb)) (Nat.lt_irrefl _)
structure nk (P : Program) (w : World) (K : PySem.W.Frag) (tg : Expr) (J : It) (fp : List Addr) (it : Addr) (tn : Nat -> Heap -> Prop) : Prop where
 mem : it ∈ fp
 obj : ∀ i h, tn i h -> ∀ b ∈ fp, ∃ o, h.get? b = some o /\ ∀ v, o.data ≠ .cell v
 keep : ∀ i h h', tn i h -> (∀ b ∈ fp, ∀ o, h.get? b = some o -> h'.get? b = some o) -> tn i h'
 item : ∀ (X : Cx), X.prog = P -> X.w = w -> X.K = K -> X.calm = true -> ∀ (i : Nat) (pins : List (Addr × Obj)) (s : Shared) (σ : St) (H : Hp) (E : Value -> Shared -> Prop), Inv X pins σ H s -> (∀ b ∈ fp, gM X pins H b) -> tn i s.heap -> J.go i H ->
  wpAny (model P w) X.A (pyNext (.ref it)) (fun r s1 => ∃ u, r = some u /\
   wpAny (model P w) X.A (letOwnedTupleGo tg (.ref it) u) (fun _ s2 => ∃ x H', Inv X pins σ H' s2 /\ aJ x u /\ J.yld i H x H' /\ tn (i + 1) s2.heap /\ ∀ b ∈ fp, H' b = none) E s1) E s
 done : ∀ (X : Cx), X.prog = P -> X.w = w -> X.K = K -> X.calm = true -> ∀ (i : Nat) (pins : List (Addr × Obj)) (s : Shared) (σ : St) (H : Hp) (E : Value -> Shared -> Prop), Inv X pins σ H s -> (∀ b ∈ fp, gM X pins H b) -> tn i s.heap -> J.stop i H ->
  wpAny (model P w) X.A (pyNext (.ref it)) (fun r s1 => r = none /\ Inv X pins σ H s1) E s
 self : ∀ (A : Around) (i : Nat) (s : Shared) (Q : Value -> Shared -> Prop) (E : Value -> Shared -> Prop), tn i s.heap -> Q (.ref it) s -> wpAny (model P w) A (pyIter (.ref it)) Q E s
abbrev TI := St -> Hp -> (It -> Hp -> Prop) -> Prop
def PIE (X : Cx) (pins : List (Addr × Obj)) (σ : St) (tg : Expr) (R : It -> Hp -> Prop) (itv : Value) (s2 : Shared) : Prop :=
 ∃ (it : Addr) (fp : List Addr) (tn : Nat -> Heap -> Prop) (J : It) (H' : Hp), itv = .ref it /\ Inv X pins σ H' s2 /\ nk X.prog X.w X.K tg J fp it tn /\ tn 0 s2.heap /\ (∀ b ∈ fp, gM X pins H' b) /\ R J H'
def PI (X : Cx) (tg iter : Expr) (wi : TI) : Prop :=
 ∀ (pins : List (Addr × Obj)) (s : Shared) (σ : St) (H : Hp) (R : It -> Hp -> Prop), Inv X pins σ H s -> wi σ H R ->
  wpAny (model X.prog X.w) X.A (eval iter X.env) (fun v s1 => wpAny (model X.prog X.w) X.A (pyIter v) (PIE X pins σ tg R) X.xe s1) X.xe s
theorem nC {M : Model} {A : Around} {E : Value -> Shared -> Prop} {s : Shared} {tg : Expr} {it : Addr} {u : Value} {o : Obj} {n : String} {vs : Array Value} {Q : Unit -> Shared -> Prop} (ho : s.heap.get? it = some o) (hc : o.cls = .type n) (hd : o.data = .fields vs)
  (hn : ["enumerate", "zip", "dict_itemiterator", "dict_reverseitemiterator", "odict_iterator", "itertools.zip_longest", "itertools.pairwise"].contains n = false) (hQ : Q () s) : wpAny M A (letOwnedTupleGo tg (.ref it) u) Q E s := by
 unfold letOwnedTupleGo
 cases tg <;> first
  | exact wpAny_pure hQ
  | (cases u <;> first
    | exact wpAny_pure hQ
    | (refine wpAny_bind (wpAny_load ho ?_)
       rw [hc, hd]
       show wpAny M A (if (["enumerate", "zip", "dict_itemiterator", "dict_reverseitemiterator", "odict_iterator", "itertools.zip_longest", "itertools.pairwise"].contains n && vs[0]? == some (rawInt _)) = true then _ else _) Q E s
       rw [if_neg (by intro h; rw [hn, Bool.false_and] at h; cases h)]
       exact wpAny_pure hQ))
def Itl (K : PySem.W.Frag) (a : Addr) : It :=
 ⟨fun i H => ∃ xs x, SqL K H a xs /\ xs[i]? = some x, fun i H x H' => H' = H /\ ∀ xs, SqL K H a xs -> xs[i]? = some x, fun i H => ∃ xs, SqL K H a xs /\ xs.length <= i⟩
def Itt (K : PySem.W.Frag) (a : Addr) : It :=
 ⟨fun i H => ∃ xs x, SqT K H a xs /\ xs[i]? = some x, fun i H x H' => H' = H /\ ∀ xs, SqT K H a xs -> xs[i]? = some x, fun i H => ∃ xs, SqT K H a xs /\ xs.length <= i⟩
def Itr (lo : Int) (n : Nat) : It := ⟨fun i _ => i < n, fun i H x H' => H' = H /\ x = .int (lo + i), fun i _ => n <= i⟩
theorem pD {P : Program} {w : World} {K : PySem.W.Frag} {tg : Expr} (a it : Addr) : nk P w K tg (Itl K a) [it] it (fun i h => h.IsListIter it a i) where
 mem := by simp
 obj := fun i h st b hb => by
  have e : b = it := by simpa using hb
  subst e
  obtain ⟨o, e, c, d⟩ := st
  exact ⟨o, e, fun v z => by rw [d] at z; cases z⟩
 keep := fun i h h' st k => st.at fun o e => k it (by simp) o e
 item := by
  intro X hP hw hK hc i pins s σ H E I hf st hg
  subst hP hw hK
  obtain ⟨xs, x, hq, hx⟩ := hg
  obtain ⟨its, rv, p, hz⟩ := I.list hq
  obtain ⟨u, hu, ru⟩ := rv.get hx
  obtain ⟨f0, f1, f2, f3, f4, f5⟩ := hf it (by simp)
  refine wpAny_pyNext_list_item st p.isList (x := u) (by simpa using hu) fun h' st' sb => ?_
  have I1 : Inv X pins σ H { s with heap := h' } := I.turned (t' := s.toks) (fun b o hb e => (sb.2 b hb).trans e) f0 f1 f3 f4 f5
  obtain ⟨o, e, c, d⟩ := id st'
  exact ⟨u, rfl, nC (s := { s with heap := h' }) e c d (by decide) ⟨x, H, I1, ru, ⟨rfl, fun ys hy => by rw [I.list_inj hy hq]; exact hx⟩, st', fun b hb => (hf b hb).1⟩⟩
 done := by
  intro X hP hw hK hc i pins s σ H E I hf st hg
  subst hP hw hK
  obtain ⟨xs, hq, hx⟩ := hg
  obtain ⟨its, rv, p, hz⟩ := I.list hq
  obtain ⟨f0, f1, f2, f3, f4, f5⟩ := hf it (by simp)
  have hl := rv.length
  exact wpAny_pyNext_list_end (I.ok.hd hc) st p.isList (by simp; omega) fun h' eb => ⟨rfl, I.turned (t' := s.toks) (fun b o hb e => eb b o hb e) f0 f1 f3 f4 f5⟩
 self := fun _ _ _ _ _ st h => wpAny_pyIter_listiter st h
theorem mL {P : Program} {w : World} {K : PySem.W.Frag} {tg : Expr} (a it : Addr) : nk P w K tg (Itt K a) [it] it (fun i h => h.IsTupleIter it a i) where
 mem := by simp
 obj := fun i h st b hb => by
  have e : b = it := by simpa using hb
  subst e
  obtain ⟨o, e, c, d⟩ := st
  exact ⟨o, e, fun v z => by rw [d] at z; cases z⟩
 keep := fun i h h' st k => st.at fun o e => k it (by simp) o e
 item := by
  intro X hP hw hK hc i pins s σ H E I hf st hg
  subst hP hw hK
  obtain ⟨xs, x, hq, hx⟩ := hg
  obtain ⟨its, rv, p, hz⟩ := I.tuple hq
  obtain ⟨u, hu, ru⟩ := rv.get hx
  obtain ⟨f0, f1, f2, f3, f4, f5⟩ := hf it (by simp)
  refine wpAny_pyNext_tuple_item st (show s.heap.IsTuple a its.toArray from p) (x := u) (by simpa using hu) fun h' st' sb => ?_
  have I1 : Inv X pins σ H { s with heap := h' } := I.turned (t' := s.toks) (fun b o hb e => (sb.2 b hb).trans e) f0 f1 f3 f4 f5
  obtain ⟨o, e, c, d⟩ := id st'
  exact ⟨u, rfl, nC (s := { s with heap := h' }) e c d (by decide) ⟨x, H, I1, ru, ⟨rfl, fun ys hy => by rw [I.tuple_inj hy hq]; exact hx⟩, st', fun b hb => (hf b hb).1⟩⟩
 done := by
  intro X hP hw hK hc i pins s σ H E I hf st hg
  subst hP hw hK
  obtain ⟨xs, hq, hx⟩ := hg
  obtain ⟨its, rv, p, hz⟩ := I.tuple hq
  obtain ⟨f0, f1, f2, f3, f4, f5⟩ := hf it (by simp)
  have hl := rv.length
  exact wpAny_pyNext_tuple_end (I.ok.hd hc) st (show s.heap.IsTuple a its.toArray from p) (by simp; omega) fun h' eb => ⟨rfl, I.turned (t' := s.toks) (fun b o hb e => eb b o hb e) f0 f1 f3 f4 f5⟩
 self := fun _ _ _ _ _ st h => wpAny_pyIter_tupleiter st h
theorem mP {P : Program} {w : World} {K : PySem.W.Frag} {tg : Expr} (it : Addr) (lo : Int) (n : Nat) : nk P w K tg (Itr lo n) [it] it (fun i h => IsRangeIter h it (lo + (i : Nat) * 1) ((n : Int) - (i : Nat)) 1) where
 mem := by simp
 obj := fun i h st b hb => by
  have e : b = it := by simpa using hb
  subst e
  exact ⟨_, st, fun v z => by
   have z' : Data.fields _ = Data.cell v := z
   cases z'⟩
 keep := fun i h h' st k => k it (by simp) _ st
 item := by
  intro X hP hw hK hc i pins s σ H E I hf st hg
  subst hP hw hK
  obtain ⟨f0, f1, f2, f3, f4, f5⟩ := hf it (by simp)
  have W := Walks.range (prog := X.prog) (w := X.w) (I.ok.hd hc) it lo 1 n
  refine W.item i s _ _ hg st fun v h' tk hv st' kk => ?_
  obtain ⟨t, rfl⟩ := hv
  have I1 : Inv X pins σ H { s with heap := h', toks := tk } := I.turned (fun b o hb e => kk b o (by simpa using hb) e) f0 f1 f3 f4 f5
  refine ⟨_, rfl, nC (s := { s with heap := h', toks := tk }) (n := "range_iterator") st' rfl rfl (by decide) ⟨.int (lo + i), H, I1, ⟨t, ?_⟩, ⟨rfl, rfl⟩, st', fun b hb => (hf b hb).1⟩⟩
  rw [Int.mul_one]
 done := by
  intro X hP hw hK hc i pins s σ H E I hf st hg
  subst hP hw hK
  obtain ⟨f0, f1, f2, f3, f4, f5⟩ := hf it (by simp)
  exact wpAny_pyNext_range_end (I.ok.hd hc) st (by have : n <= i := hg; omega) fun h' eb => ⟨rfl, I.turned (t' := s.toks) (fun b o hb e => eb b o hb e) f0 f1 f3 f4 f5⟩
 self := fun _ _ _ _ _ st h => wpAny_pyIter_rangeiter st h
section
variable {X : Cx} {tg : Expr}
def vW (K : PySem.W.Frag) (tl : TE) : TI := fun σ H R => tl σ H fun x H1 => ∃ a, x = .ref a /\ (∃ xs, SqL K H1 a xs) /\ R (Itl K a) H1
def xh (K : PySem.W.Frag) (tl : TE) : TI := fun σ H R => tl σ H fun x H1 => ∃ a, x = .ref a /\ (∃ xs, SqT K H1 a xs) /\ R (Itt K a) H1
theorem eN {l : Expr} {tl : TE} (hl : PE X l tl) : PI X tg l (vW X.K tl) := by
 intro pins s σ H R I h
 refine thn (hl pins s σ H _ I h) fun v s1 ⟨x, H1, I1, r1, q1⟩ => ?_
 obtain ⟨a, e, ⟨xs, hq⟩, q⟩ := q1
 subst e
 cases r1
 obtain ⟨its, rv, p, hz⟩ := I1.list hq
 refine wpAny_pyIter_list p.isList ?_
 refine ⟨s1.heap.objs.size, [s1.heap.objs.size], _, _, H1, rfl, I1.kept (t' := s1.toks) fun b o e => Heap.get?_push_of_some _ e, pD a _, ⟨_, Heap.get?_push_size _ rfl, rfl, rfl⟩, fun b hb => ?_, q⟩
 have e : b = s1.heap.objs.size := by simpa using hb
 subst e
 exact I1.fpOk (Nat.le_refl _) (I1.hok.fresh (Nat.le_refl _))
theorem df {l : Expr} {tl : TE} (hl : PE X l tl) : PI X tg l (xh X.K tl) := by
 intro pins s σ H R I h
 refine thn (hl pins s σ H _ I h) fun v s1 ⟨x, H1, I1, r1, q1⟩ => ?_
 obtain ⟨a, e, ⟨xs, hq⟩, q⟩ := q1
 subst e
 cases r1
 obtain ⟨its, rv, p, hz⟩ := I1.tuple hq
 refine wpAny_pyIter_tuple (show s1.heap.IsTuple a its.toArray from p) ?_
 refine ⟨s1.heap.objs.size, [s1.heap.objs.size], _, _, H1, rfl, I1.kept (t' := s1.toks) fun b o e => Heap.get?_push_of_some _ e, mL a _, ⟨_, Heap.get?_push_size _ rfl, rfl, rfl⟩, fun b hb => ?_, q⟩
 have e : b = s1.heap.objs.size := by simpa using hb
 subst e
 exact I1.fpOk (Nat.le_refl _) (I1.hok.fresh (Nat.le_refl _))
theorem lh {pins : List (Addr × Obj)} {σ : St} {H : Hp} {s : Shared} {R : It -> Hp -> Prop} {E : Value -> Shared -> Prop} {lo hi : Int} {t u v : Tok} {tk : Nat} (I : Inv X pins σ H s) (h1 : -(2 ^ 62) <= lo) (h2 : lo < 2 ^ 62) (h3 : -(2 ^ 62) <= hi) (h4 : hi < 2 ^ 62)
  (q : R (Itr lo (hi - lo).toNat) H) : wpAny (model X.prog X.w) X.A (pyIter (.ref s.heap.objs.size)) (PIE X pins σ tg R) E { s with heap := s.heap.push { cls := .type "range", data := .fields #[.int lo t, .int hi u, .int 1 v] }, toks := tk } := by
 refine wpAny_pyIter_range (IsRange.new ..) (small_one h1 h2 h3 h4) ?_
 have I1 : Inv X pins σ H { s with heap := s.heap.push { cls := .type "range", data := .fields #[.int lo t, .int hi u, .int 1 v] }, toks := tk } := I.kept fun b o e => Heap.get?_push_of_some _ e
 refine ⟨(s.heap.push { cls := .type "range", data := .fields #[.int lo t, .int hi u, .int 1 v] }).objs.size, [(s.heap.push { cls := .type "range", data := .fields #[.int lo t, .int hi u, .int 1 v] }).objs.size], _, _, H, rfl,
  I1.kept (t' := tk) fun b o e => Heap.get?_push_of_some _ e, mP _ lo (hi - lo).toNat, ?_, fun b hb => ?_, q⟩
 ·have e1 : lo + ((0 : Nat) : Int) * 1 = lo := by simp
  have e2 : (((hi - lo).toNat : Nat) : Int) - ((0 : Nat) : Int) = Builtin.Range.rangeSize lo hi 1 := by rw [rangeSize_one]; split <;> omega
  show IsRangeIter _ _ (lo + ((0 : Nat) : Int) * 1) ((((hi - lo).toNat : Nat) : Int) - ((0 : Nat) : Int)) 1
  rw [e1, e2]
  exact Heap.get?_push_size _ rfl
 ·have e : b = (s.heap.push { cls := .type "range", data := .fields #[.int lo t, .int hi u, .int 1 v] }).objs.size := by simpa using hb
  subst e
  exact I1.fpOk (Nat.le_refl _) (I1.hok.fresh (Nat.le_refl _))
def wH (ta : TA) : TI := fun σ H R => ta σ H fun vs H1 => ∃ j : Int, vs = [.int j] /\ -(2 ^ 62) <= j /\ j < 2 ^ 62 /\ R (Itr 0 j.toNat) H1
def vU (ta : TA) : TI := fun σ H R => ta σ H fun vs H1 => ∃ i j : Int, vs = [.int i, .int j] /\ (-(2 ^ 62) <= i /\ i < 2 ^ 62 /\ -(2 ^ 62) <= j /\ j < 2 ^ 62) /\ R (Itr i (j - i).toNat) H1
theorem dP {a : Expr} {ta : TA} {p pos : Pos} (hg : Gl X "range") (hm : X.mg "range" = none) (ha : PA X [a] ta) (hs : starEach [a] X.env = [(false, eval a X.env)] := by rfl) : PI X tg (.Call (.Name "range" p) [a] [] pos) (wH ta) := by
 intro pins s σ H R I h
 refine Call_ (gA I hg hm boot_range (PyProof.Rows.callWith_type1 (thn (ha pos pins s σ H _ I h) fun us s1 ⟨vs, H1, I1, r1, q1⟩ => ?_) hs rfl))
 obtain ⟨j, e, q1, q2, q⟩ := q1
 subst e
 cases r1 with
 | cons r rr =>
  cases rr
  obtain ⟨t, rfl⟩ := r
  exact call_range_1 (lh I1 (by omega) (by omega) q1 q2 (by simpa using q))
theorem oX {a b : Expr} {ta : TA} {p pos : Pos} (hg : Gl X "range") (hm : X.mg "range" = none) (ha : PA X [a, b] ta) (hs : starEach [a, b] X.env = [(false, eval a X.env), (false, eval b X.env)] := by rfl) (hs2 : starEach [b] X.env = [(false, eval b X.env)] := by rfl) :
  PI X tg (.Call (.Name "range" p) [a, b] [] pos) (vU ta) := by
 intro pins s σ H R I h
 refine Call_ (gA I hg hm boot_range (PyProof.Rows.callWith_type1 (thn (ha pos pins s σ H _ I h) fun us s1 ⟨vs, H1, I1, r1, q1⟩ => ?_) (by rw [hs, hs2]) (by rw [hs2]; rfl)))
 obtain ⟨i, j, e, ⟨q1, q2, q3, q4⟩, q⟩ := q1
 subst e
 cases r1 with
 | cons r rr =>
  cases rr with
  | cons r' rr =>
   cases rr
   obtain ⟨t, rfl⟩ := r
   obtain ⟨t', rfl⟩ := r'
   exact call_range_2 (lh I1 q1 q2 q3 q4 q)
def xf (wi : TI) (g : TG) (tb : TS) : TS := fun D σ H => wi σ H fun J H1 => ∃ W : Nat -> Nat -> St -> Hp -> Prop, (∃ m, W 0 m σ H1) /\ ∀ i m σ H, W i m σ H ->
 (J.stop i H /\ D.nx σ H) \/ (J.go i H /\ ∃ N : St -> Hp -> Prop, (∀ σ' H', N σ' H' -> ∃ m', m' < m /\ W (i + 1) m' σ' H') /\ ∀ x H', J.yld i H x H' -> g x σ H' fun σ2 H2 => tb { D with nx := N, ct := N, bk := D.nx } σ2 H2)
def gZ (fp : List Addr) (h : Heap) : List (Addr × Obj) := fp.filterMap fun b => (h.get? b).map fun o => (b, o)
theorem dg {fp : List Addr} {h : Heap} {b : Addr} {o : Obj} (hb : b ∈ fp) (e : h.get? b = some o) : (b, o) ∈ gZ fp h := List.mem_filterMap.mpr ⟨b, hb, by rw [e]; rfl⟩
theorem pC {fp : List Addr} {h : Heap} {p : Addr × Obj} (hp : p ∈ gZ fp h) : p.1 ∈ fp /\ h.get? p.1 = some p.2 := by
 obtain ⟨b, hb, e⟩ := List.mem_filterMap.mp hp
 cases q : h.get? b with
 | none => rw [q] at e; cases e
 | some o =>
  rw [q] at e
  have e' : (b, o) = p := Option.some.inj e
  subst e'
  exact ⟨hb, q⟩
theorem Inv.pinned {pins : List (Addr × Obj)} {σ : St} {H : Hp} {s : Shared} {fp : List Addr} (I : Inv X pins σ H s) (hf : ∀ b ∈ fp, gM X pins H b) (ho : ∀ b ∈ fp, ∃ o, s.heap.get? b = some o /\ ∀ v, o.data ≠ .cell v) : Inv X (pins ++ gZ fp s.heap) σ H s :=
 I.pins_of fun p hp => (List.mem_append.mp hp).elim (fun z => I.pin p (List.mem_append_right _ z)) fun z => by
  obtain ⟨hb, e⟩ := pC z
  obtain ⟨f0, f1, f2, _⟩ := hf p.1 hb
  obtain ⟨o, e', d⟩ := ho p.1 hb
  rw [e] at e'; cases e'
  exact ⟨e, f0, f1, f2, d⟩
theorem Inv.unpinned {pins pl : List (Addr × Obj)} {σ : St} {H : Hp} {s : Shared} (I : Inv X (pins ++ pl) σ H s) : Inv X pins σ H s := I.pins_of fun p hp => I.pin p (List.mem_append_right _ (List.mem_append_left _ hp))
theorem bg {iter : Expr} {body : List Stmt} {wi : TI} {g : TG} {tb : TS} {pos : Pos} (hp : PassesOwn (model X.prog X.w) X.A X.env X.xe) (hc : X.calm = true) (hi : PI X tg iter wi) (hg : PG X tg g) (hb : PSs X body tb)
  (hs : ∀ x, foldedSetIterable iter X.env x = pure x := by intro _; rfl) : PS X (.For tg iter body [] pos) (xf wi g tb) := by
 intro pins s σ H D I h
 refine wpAny_For (thn (hi pins s σ H _ I h) fun v s1 h1 => thn h1 fun itv s2 h2 => ?_) hs
 obtain ⟨it, fp, tn, J, H2, e, I2, T, st2, f2, W, ⟨m0, w0⟩, turn⟩ := h2
 subst e
 have stat : ∀ {H' : Hp}, (∀ b ∈ fp, H' b = none) -> ∀ b ∈ fp, gM X pins H' b := fun hn b hb => ⟨hn b hb, (f2 b hb).2⟩
 refine codeAny_forLoop_any (fun n s' => ∃ i σ' H', Inv X pins σ' H' s' /\ tn i s'.heap /\ (∀ b ∈ fp, H' b = none) /\ W i n σ' H') ?_ m0 ⟨0, σ, H2, I2, st2, fun b hb => (f2 b hb).1, w0⟩
 rintro n s3 ⟨i, σ3, H3, I3, st3, fr3, w3⟩
 rcases turn i n σ3 H3 w3 with ⟨stop, qn⟩ | ⟨go, N, hN, step⟩
 ·refine wpAny_passesOwn hp (thn (T.done X rfl rfl rfl hc i pins s3 σ3 H3 X.xe I3 (stat fr3) st3 stop) fun r s4 ⟨hr, I4⟩ => ?_)
  subst hr
  exact wpAny_execs_nil ⟨σ3, H3, I4, qn⟩
 ·refine wpAny_passesOwn hp (thn (T.item X rfl rfl rfl hc i pins s3 σ3 H3 X.xe I3 (stat fr3) st3 go) fun r s4 ⟨u, hr, h4⟩ => ?_)
  subst hr
  refine wpAny_passesOwn hp (thn h4 fun _ s5 ⟨x, H5, I5, r5, y5, st5, fr5⟩ => ?_)
  have I5' := I5.pinned (stat fr5) (T.obj _ _ st5)
  refine wpAny_passesOwn hp (thn (hg _ s5 σ3 H5 x u _ I5' r5 (step x H5 y5)) fun _ s6 ⟨σ6, H6, I6, q6⟩ => ?_)
  refine wpAny_passesOwn hp (thn (hb _ s6 σ6 H6 _ I6 q6) fun f s7 q7 => ?_)
  have again : ∀ {σ7 : St} {H7 : Hp}, Inv X (pins ++ gZ fp s5.heap) σ7 H7 s7 -> N σ7 H7 -> ∃ m, m < n /\ ∃ i σ' H', Inv X pins σ' H' s7 /\ tn i s7.heap /\ (∀ b ∈ fp, H' b = none) /\ W i m σ' H' := fun {σ7 H7} I7 n7 => by
   obtain ⟨m', hm, w7⟩ := hN σ7 H7 n7
   refine ⟨m', hm, i + 1, σ7, H7, I7.unpinned, T.keep _ _ _ st5 fun b hb o e => (I7.pin (b, o) (List.mem_append_right _ (List.mem_append_right _ (dg hb e)))).1, fun b hb => ?_, w7⟩
   obtain ⟨o, e, d⟩ := T.obj _ _ st5 b hb
   exact (I7.pin (b, o) (List.mem_append_right _ (List.mem_append_right _ (dg hb e)))).2.1
  cases f with
  | next => obtain ⟨σ7, H7, I7, n7⟩ := q7; exact again I7 n7
  | cont => obtain ⟨σ7, H7, I7, n7⟩ := q7; exact again I7 n7
  | brk => obtain ⟨σ7, H7, I7, q7⟩ := q7; exact ⟨σ7, H7, I7.unpinned, q7⟩
  | ret v => obtain ⟨x7, σ7, H7, I7, r7, q7⟩ := q7; exact ⟨x7, σ7, H7, I7.unpinned, r7, q7⟩
end
theorem dq {K : PySem.W.Frag} {a : Addr} {xs : List V} {g : TG} {tb : TS} {D : eE} {σ : St} {H : Hp} (Pv : Nat -> St -> Hp -> Prop) (h0 : Pv 0 σ H) (hl : ∀ i σ H, i <= xs.length -> Pv i σ H -> SqL K H a xs)
  (hs : ∀ i x σ H, xs[i]? = some x -> Pv i σ H -> g x σ H fun σ2 H2 => tb { D with nx := Pv (i + 1), ct := Pv (i + 1), bk := D.nx } σ2 H2) (hd : ∀ σ H, Pv xs.length σ H -> D.nx σ H) :
  ∃ W : Nat -> Nat -> St -> Hp -> Prop, (∃ m, W 0 m σ H) /\ ∀ i m σ H, W i m σ H ->
   ((Itl K a).stop i H /\ D.nx σ H) \/ ((Itl K a).go i H /\ ∃ N : St -> Hp -> Prop, (∀ σ' H', N σ' H' -> ∃ m', m' < m /\ W (i + 1) m' σ' H') /\ ∀ x H', (Itl K a).yld i H x H' -> g x σ H' fun σ2 H2 => tb { D with nx := N, ct := N, bk := D.nx } σ2 H2) := by
 refine ⟨fun i m σ H => m = xs.length - i /\ i <= xs.length /\ Pv i σ H, ⟨xs.length, by simp, Nat.zero_le _, h0⟩, ?_⟩
 rintro i m σ H ⟨rfl, hi, p⟩
 have q := hl i σ H hi p
 by_cases hlt : i < xs.length
 ·refine .inr ⟨⟨xs, xs[i], q, by simp [hlt]⟩, Pv (i + 1), fun σ' H' p' => ⟨xs.length - (i + 1), by omega, rfl, hlt, p'⟩, fun x H' y => ?_⟩
  obtain ⟨e, y⟩ := y
  subst e
  exact hs i x σ _ (y xs q) p
 ·have e : i = xs.length := by omega
  subst e
  exact .inl ⟨⟨xs, q, Nat.le_refl _⟩, hd σ H p⟩
theorem cY {K : PySem.W.Frag} {a : Addr} {xs : List V} {g : TG} {tb : TS} {D : eE} {σ : St} {H : Hp} (Pv : Nat -> St -> Hp -> Prop) (h0 : Pv 0 σ H) (hl : ∀ i σ H, i <= xs.length -> Pv i σ H -> SqT K H a xs)
  (hs : ∀ i x σ H, xs[i]? = some x -> Pv i σ H -> g x σ H fun σ2 H2 => tb { D with nx := Pv (i + 1), ct := Pv (i + 1), bk := D.nx } σ2 H2) (hd : ∀ σ H, Pv xs.length σ H -> D.nx σ H) :
  ∃ W : Nat -> Nat -> St -> Hp -> Prop, (∃ m, W 0 m σ H) /\ ∀ i m σ H, W i m σ H ->
   ((Itt K a).stop i H /\ D.nx σ H) \/ ((Itt K a).go i H /\ ∃ N : St -> Hp -> Prop, (∀ σ' H', N σ' H' -> ∃ m', m' < m /\ W (i + 1) m' σ' H') /\ ∀ x H', (Itt K a).yld i H x H' -> g x σ H' fun σ2 H2 => tb { D with nx := N, ct := N, bk := D.nx } σ2 H2) := by
 refine ⟨fun i m σ H => m = xs.length - i /\ i <= xs.length /\ Pv i σ H, ⟨xs.length, by simp, Nat.zero_le _, h0⟩, ?_⟩
 rintro i m σ H ⟨rfl, hi, p⟩
 have q := hl i σ H hi p
 by_cases hlt : i < xs.length
 ·refine .inr ⟨⟨xs, xs[i], q, by simp [hlt]⟩, Pv (i + 1), fun σ' H' p' => ⟨xs.length - (i + 1), by omega, rfl, hlt, p'⟩, fun x H' y => ?_⟩
  obtain ⟨e, y⟩ := y
  subst e
  exact hs i x σ _ (y xs q) p
 ·have e : i = xs.length := by omega
  subst e
  exact .inl ⟨⟨xs, q, Nat.le_refl _⟩, hd σ H p⟩
theorem dN {lo : Int} {n : Nat} {g : TG} {tb : TS} {D : eE} {σ : St} {H : Hp} (Pv : Nat -> St -> Hp -> Prop) (h0 : Pv 0 σ H)
  (hs : ∀ i σ H, i < n -> Pv i σ H -> g (.int (lo + i)) σ H fun σ2 H2 => tb { D with nx := Pv (i + 1), ct := Pv (i + 1), bk := D.nx } σ2 H2) (hd : ∀ σ H, Pv n σ H -> D.nx σ H) :
  ∃ W : Nat -> Nat -> St -> Hp -> Prop, (∃ m, W 0 m σ H) /\ ∀ i m σ H, W i m σ H ->
   ((Itr lo n).stop i H /\ D.nx σ H) \/ ((Itr lo n).go i H /\ ∃ N : St -> Hp -> Prop, (∀ σ' H', N σ' H' -> ∃ m', m' < m /\ W (i + 1) m' σ' H') /\ ∀ x H', (Itr lo n).yld i H x H' -> g x σ H' fun σ2 H2 => tb { D with nx := N, ct := N, bk := D.nx } σ2 H2) := by
 refine ⟨fun i m σ H => m = n - i /\ i <= n /\ Pv i σ H, ⟨n, by simp, Nat.zero_le _, h0⟩, ?_⟩
 rintro i m σ H ⟨rfl, hi, p⟩
 by_cases hlt : i < n
 ·refine .inr ⟨hlt, Pv (i + 1), fun σ' H' p' => ⟨n - (i + 1), by omega, rfl, hlt, p'⟩, fun x H' y => ?_⟩
  obtain ⟨e, y⟩ := y
  subst e y
  exact hs i σ _ hlt p
 ·have e : i = n := by omega
  subst e
  exact .inl ⟨Nat.le_refl _, hd σ H p⟩
abbrev R2 := V -> V -> Hp -> VK -> Prop
def OpR (X : Cx) (f : Value -> Value -> Sem Value) (r : R2) : Prop :=
 ∀ (pins : List (Addr × Obj)) (s : Shared) (σ : St) (H : Hp) (x y : V) (v u : Value) (Q : VK), Inv X pins σ H s -> aJ x v -> aJ y u -> r x y H Q ->
  wpAny (model X.prog X.w) X.A (f v u) (EP X pins σ Q) X.xe s
def bB (X : Cx) (f : Value) (r : List V -> Hp -> VK -> Prop) : Prop :=
 ∀ (pins : List (Addr × Obj)) (s : Shared) (σ : St) (H : Hp) (xs : List V) (us : List Value) (Q : VK), Inv X pins σ H s -> aG xs us -> r xs H Q ->
  wpAny (model X.prog X.w) X.A (call f us) (EP X pins σ Q) X.xe s
def tOp (r : R2) (ta tb : TE) : TE := fun σ H Q => ta σ H fun x H1 => tb σ H1 fun y H2 => r x y H2 Q
def rI (C : Int -> Int -> Prop) (g : Int -> Int -> V) : R2 := fun x y H Q => ∃ i j, x = .int i /\ y = .int j /\ C i j /\ Q (g i j) H
def rI0 (g : Int -> Int -> V) : R2 := fun x y H Q => ∃ i j, x = .int i /\ y = .int j /\ Q (g i j) H
section
variable {X : Cx} {a b c : Expr} {ta tb tc : TE} {pos : Pos}
theorem vD (ha : PE X a ta) (hb : PE X b tb) {pins : List (Addr × Obj)} {s : Shared} {σ : St} {H : Hp} {R : V -> V -> Hp -> Prop} (I : Inv X pins σ H s)
  (h : ta σ H fun x H1 => tb σ H1 fun y H2 => R x y H2) {Q : Value -> Shared -> Prop} {f : Value -> Value -> Sem Value}
  (hf : ∀ v u s2 x y H2, Inv X pins σ H2 s2 -> aJ x v -> aJ y u -> R x y H2 -> wpAny (model X.prog X.w) X.A (f v u) Q X.xe s2) :
  wpAny (model X.prog X.w) X.A (eval a X.env) (fun v s₁ => wpAny (model X.prog X.w) X.A (eval b X.env) (fun u s₂ => wpAny (model X.prog X.w) X.A (f v u) Q X.xe s₂) X.xe s₁) X.xe s := by
 refine thn (ha pins s σ H _ I h) fun v s1 ⟨x, H1, I1, r1, q1⟩ => ?_
 refine thn (hb pins s1 σ H1 _ I1 q1) fun u s2 ⟨y, H2, I2, r2, q2⟩ => ?_
 exact hf v u s2 x y H2 I2 r1 r2 q2
theorem aH {op : Operator} {r : R2} (ho : OpR X (binaryOp op) r) (ha : PE X a ta) (hb : PE X b tb) : PE X (.BinOp a op b pos) (tOp r ta tb) := by
 intro pins s σ H Q I h
 exact wpAny_BinOp (vD ha hb I h fun v u s2 x y H2 I2 rx ry q => ho pins s2 σ H2 x y v u Q I2 rx ry q)
theorem opI {f : Value -> Value -> Sem Value} {C : Int -> Int -> Prop} {g : Int -> Int -> Int}
  (rule : ∀ (i j : Int) (t u : Tok) (s : Shared) (Q : Value -> Shared -> Prop) (E : Value -> Shared -> Prop), C i j -> Q (.int (g i j) s.toks) { s with toks := s.toks + 1 } -> wpAny (model X.prog X.w) X.A (f (.int i t) (.int j u)) Q E s) :
  OpR X f (rI C fun i j => .int (g i j)) := by
 intro pins s σ H x y v u Q I rx ry h
 obtain ⟨i, j, rfl, rfl, hc, q⟩ := h
 obtain ⟨t, rfl⟩ := rx
 obtain ⟨t', rfl⟩ := ry
 exact rule i j t t' s _ _ hc ⟨.int (g i j), H, I.tok _, ⟨_, rfl⟩, q⟩
theorem wN {f : Value -> Value -> Sem Value} {g : Int -> Int -> Int}
  (rule : ∀ (i j : Int) (t u : Tok) (s : Shared) (Q : Value -> Shared -> Prop) (E : Value -> Shared -> Prop), Q (.int (g i j) s.toks) { s with toks := s.toks + 1 } -> wpAny (model X.prog X.w) X.A (f (.int i t) (.int j u)) Q E s) :
  OpR X f (rI0 fun i j => .int (g i j)) := by
 intro pins s σ H x y v u Q I rx ry h
 obtain ⟨i, j, rfl, rfl, q⟩ := h
 obtain ⟨t, rfl⟩ := rx
 obtain ⟨t', rfl⟩ := ry
 exact rule i j t t' s _ _ ⟨.int (g i j), H, I.tok _, ⟨_, rfl⟩, q⟩
theorem wq {f : Value -> Value -> Sem Value} {g : Int -> Int -> Bool}
  (rule : ∀ (i j : Int) (t u : Tok) (s : Shared) (Q : Value -> Shared -> Prop) (E : Value -> Shared -> Prop), Q (.bool (g i j)) s -> wpAny (model X.prog X.w) X.A (f (.int i t) (.int j u)) Q E s) :
  OpR X f (rI0 fun i j => .bl (g i j)) := by
 intro pins s σ H x y v u Q I rx ry h
 obtain ⟨i, j, rfl, rfl, q⟩ := h
 obtain ⟨t, rfl⟩ := rx
 obtain ⟨t', rfl⟩ := ry
 exact rule i j t t' s _ _ ⟨.bl (g i j), H, I, rfl, q⟩
def xa (i j : Int) : Prop := 0 < j /\ j < 1073741824
def vB (i j : Int) : Prop := 0 <= j /\ j <= 1000000 /\ i.natAbs < 2 ^ 64
def uv (i j : Int) : Prop := (-(2 ^ 64) < i /\ i < 2 ^ 64) \/ (-(2 ^ 64) < j /\ j < 2 ^ 64)
theorem uv.ok {i j : Int} (h : uv i j) : IntMulOk i j := by
 rcases h with ⟨h1, h2⟩ | ⟨h1, h2⟩
 ·exact .of_left (intBits_le_64 h1 h2)
 ·exact .of_right (intBits_le_64 h1 h2)
theorem bR : OpR X (binaryOp .Add) (rI0 fun i j => .int (i + j)) := wN fun _ _ _ _ _ _ _ q => add_int q
theorem cG : OpR X (binaryOp .Mult) (rI uv fun i j => .int (i * j)) := opI fun _ _ _ _ _ _ _ hc q => mul_int q hc.ok
theorem sY : OpR X (binaryOp .FloorDiv) (rI xa fun i j => .int (i / j)) := opI fun i j _ _ _ _ _ hc q => by
 have h1 : (0 : Int) < j := hc.1
 have h2 : j < 1073741824 := hc.2
 exact floordiv_int (by omega) (by rw [Int.fdiv_eq_ediv_of_nonneg i (by omega)]; exact q) (.inl (PyProof.noPylong_small (by omega)))
theorem cI : OpR X (binaryOp .Mod) (rI (fun _ j => 0 < j) fun i j => .int (i % j)) := opI fun i j _ _ _ _ _ hc q => by
 have h1 : (0 : Int) < j := hc
 exact mod_int' (by omega) (by rw [Int.fmod_eq_emod_of_nonneg i (by omega)]; exact q)
theorem qW : OpR X (binaryOp .Pow) (rI vB fun i j => .int (i ^ j.toNat)) := opI fun _ _ _ _ _ _ _ hc q => pow_int_small hc.1 hc.2.1 hc.2.2 q
end
def wy : V -> V -> Bool
 | .non, .non => true | .non, .int _ => true | .int _, .non => true | .non, .bl _ => true | .bl _, .non => true | .non, .str _ => true | .str _, .non => true
 | .int _, .int _ => true | .bl _, .bl _ => true | .str _, .str _ => true | .byt _, .byt _ => true
 | .int _, .str _ => true | .str _, .int _ => true | .bl _, .str _ => true | .str _, .bl _ => true
 | _, _ => false
def rEq : R2 := fun x y H Q => wy x y = true /\ Q (.bl (decide (x = y))) H
def rNe : R2 := fun x y H Q => wy x y = true /\ Q (.bl (!decide (x = y))) H
theorem oF {i j : Int} : decide (V.int i = V.int j) = (i == j) := by
 rw [Bool.eq_iff_iff]
 simp
theorem rL {i j : Bool} : decide (V.bl i = V.bl j) = (i == j) := by
 rw [Bool.eq_iff_iff]
 simp
theorem nZ {i j : Str} : decide (V.str i = V.str j) = (i == j) := by
 rw [Bool.eq_iff_iff]
 simp
theorem oB {i j : Array UInt8} : decide (V.byt i = V.byt j) = (i.toList == j.toList) := by
 rw [Bool.eq_iff_iff]
 cases i
 cases j
 simp
section
variable {X : Cx} {a b c : Expr} {ta tb tc : TE} {pos : Pos}
theorem aL {pins : List (Addr × Obj)} {σ : St} {H : Hp} {s : Shared} {Q : VK} {k k' : Bool} (I : Inv X pins σ H s) (q : Q (.bl k) H) (e : k = k') : EP X pins σ Q (.bool k') s := by
 subst e
 exact ⟨.bl k, H, I, rfl, q⟩
theorem nJ : OpR X (compareOp .Eq) rEq := by
 intro pins s σ H x y v u Q I rx ry h
 obtain ⟨hs, q⟩ := h
 cases x with
 | non =>
  cases rx
  cases y with
  | non => cases ry; exact PySem.EqNone.eq_none_none (aL I q (by simp))
  | bl j => cases ry; exact PySem.EqNone.eq_none_bool (aL I q (by simp))
  | int j => obtain ⟨t', rfl⟩ := ry; exact PySem.EqNone.eq_none_int (aL I q (by simp))
  | str j => obtain ⟨t', rfl⟩ := ry; exact PySem.EqNone.eq_none_str (aL I q (by simp))
  | _ => exact absurd (show false = true from hs) Bool.false_ne_true
 | bl i =>
  cases rx
  cases y with
  | non => cases ry; exact PySem.EqNone.eq_bool_none (aL I q (by simp))
  | bl j => cases ry; exact eq_bool (aL I q rL)
  | str j => obtain ⟨t', rfl⟩ := ry; exact PySem.EqMixed.eq_bool_str (aL I q (by simp))
  | _ => exact absurd (show false = true from hs) Bool.false_ne_true
 | int i =>
  obtain ⟨t, rfl⟩ := rx
  cases y with
  | non => cases ry; exact PySem.EqNone.eq_int_none (aL I q (by simp))
  | int j => obtain ⟨t', rfl⟩ := ry; exact eq_int (aL I q oF)
  | str j => obtain ⟨t', rfl⟩ := ry; exact PySem.EqMixed.eq_int_str (aL I q (by simp))
  | _ => exact absurd (show false = true from hs) Bool.false_ne_true
 | str i =>
  obtain ⟨t, rfl⟩ := rx
  cases y with
  | non => cases ry; exact PySem.EqNone.eq_str_none (aL I q (by simp))
  | bl j => cases ry; exact PySem.EqMixed.eq_str_bool (aL I q (by simp))
  | int j => obtain ⟨t', rfl⟩ := ry; exact PySem.EqMixed.eq_str_int (aL I q (by simp))
  | str j => obtain ⟨t', rfl⟩ := ry; exact eq_str (aL I q nZ)
  | _ => exact absurd (show false = true from hs) Bool.false_ne_true
 | byt i =>
  obtain ⟨t, rfl⟩ := rx
  cases y with
  | byt j => obtain ⟨t', rfl⟩ := ry; exact PySem.W.eq_bytes (aL I q oB)
  | _ => exact absurd (show false = true from hs) Bool.false_ne_true
 | _ => cases y <;> exact absurd (show false = true from hs) Bool.false_ne_true
theorem vR : OpR X (compareOp .NotEq) rNe := by
 intro pins s σ H x y v u Q I rx ry h
 obtain ⟨hs, q⟩ := h
 cases x with
 | non =>
  cases rx
  cases y with
  | non => cases ry; exact PySem.EqNone.ne_none_none (aL I q (by simp))
  | bl j => cases ry; exact PySem.EqNone.ne_none_bool (aL I q (by simp))
  | int j => obtain ⟨t', rfl⟩ := ry; exact PySem.EqNone.ne_none_int (aL I q (by simp))
  | str j => obtain ⟨t', rfl⟩ := ry; exact PySem.EqNone.ne_none_str (aL I q (by simp))
  | _ => exact absurd (show false = true from hs) Bool.false_ne_true
 | bl i =>
  cases rx
  cases y with
  | non => cases ry; exact PySem.EqNone.ne_bool_none (aL I q (by simp))
  | bl j => cases ry; exact ne_bool (aL I q (congrArg not rL))
  | str j => obtain ⟨t', rfl⟩ := ry; exact PySem.EqMixed.ne_bool_str (aL I q (by simp))
  | _ => exact absurd (show false = true from hs) Bool.false_ne_true
 | int i =>
  obtain ⟨t, rfl⟩ := rx
  cases y with
  | non => cases ry; exact PySem.EqNone.ne_int_none (aL I q (by simp))
  | int j => obtain ⟨t', rfl⟩ := ry; exact ne_int (aL I q (congrArg not oF))
  | str j => obtain ⟨t', rfl⟩ := ry; exact PySem.EqMixed.ne_int_str (aL I q (by simp))
  | _ => exact absurd (show false = true from hs) Bool.false_ne_true
 | str i =>
  obtain ⟨t, rfl⟩ := rx
  cases y with
  | non => cases ry; exact PySem.EqNone.ne_str_none (aL I q (by simp))
  | bl j => cases ry; exact PySem.EqMixed.ne_str_bool (aL I q (by simp))
  | int j => obtain ⟨t', rfl⟩ := ry; exact PySem.EqMixed.ne_str_int (aL I q (by simp))
  | str j => obtain ⟨t', rfl⟩ := ry; exact ne_str (aL I q (congrArg not nZ))
  | _ => exact absurd (show false = true from hs) Bool.false_ne_true
 | byt i =>
  obtain ⟨t, rfl⟩ := rx
  cases y with
  | byt j => obtain ⟨t', rfl⟩ := ry; exact PySem.W.ne_bytes (aL I q (congrArg not oB))
  | _ => exact absurd (show false = true from hs) Bool.false_ne_true
 | _ => cases y <;> exact absurd (show false = true from hs) Bool.false_ne_true
theorem uc : OpR X (compareOp .Lt) (rI0 fun i j => .bl (decide (i < j))) := wq fun _ _ _ _ _ _ _ q => lt_int q
theorem kw : OpR X (compareOp .Gt) (rI0 fun i j => .bl (decide (j < i))) := wq fun _ _ _ _ _ _ _ q => gt_int q
theorem bI (b : Expr) {op : CmpOp} (h : op ≠ .In := by decide) (h2 : op ≠ .NotIn := by decide) : behindInMarks op b = false := by
 have e1 : (op == CmpOp.In) = false := by cases op <;> first | rfl | exact absurd rfl h
 have e2 : (op == CmpOp.NotIn) = false := by cases op <;> first | rfl | exact absurd rfl h2
 cases b <;> simp [behindInMarks, e1, e2]
theorem ou {op : CmpOp} {r : R2} (ho : OpR X (compareOp op) r) (ha : PE X a ta) (hb : PE X b tb) (hm : behindInMarks op b = false) : PE X (.Compare a [op] [b] pos) (tOp r ta tb) := by
 intro pins s σ H Q I h
 exact wpAny_Compare1 (vD ha hb I h fun v u s2 x y H2 I2 rx ry q => ho pins s2 σ H2 x y v u Q I2 rx ry q) hm
def wI (t : TE) : TT := fun σ H Q => t σ H fun x H' => ∃ k, x = .bl k /\ Q k H'
theorem bA {op : CmpOp} {r : R2} (ho : OpR X (compareOp op) r) (ha : PE X a ta) (hb : PE X b tb) (hm : behindInMarks op b = false) : PT X (.Compare a [op] [b] pos) (wI (tOp r ta tb)) := by
 intro pins s σ H Q I h
 refine wpAny_isTrue_Compare1 (thn (ha pins s σ H _ I h) fun v s1 ⟨x, H1, I1, r1, q1⟩ => thn (hb pins s1 σ H1 _ I1 q1) fun u s2 ⟨y, H2, I2, r2, q2⟩ =>
  thn (ho pins s2 σ H2 x y v u _ I2 r1 r2 q2) fun c s3 ⟨z, H3, I3, r3, k, e, q3⟩ => ?_) hm
 subst e
 cases r3
 exact wpAny_truthy_bool ⟨H3, I3, q3⟩
theorem fK : (sizeLine : Nat) < 2 ^ 63 := by rw [sizeLine_eq]; decide
theorem cZ : OpR X (binaryOp .Add) (fun x y H Q => ∃ i j, x = .str i /\ y = .str j /\ i.length + j.length <= sizeLine /\ Q (.str (i ++ j)) H) := by
 intro pins s σ H x y v u Q I rx ry h
 obtain ⟨i, j, rfl, rfl, hz, q⟩ := h
 obtain ⟨t, rfl⟩ := rx
 obtain ⟨t', rfl⟩ := ry
 exact add_str (fun t' tk => ⟨.str (i ++ j), H, I.tok _, ⟨_, rfl⟩, q⟩) hz
theorem bN {x : V} {us : List Value} (r : aG [x] us) : ∃ u, us = [u] /\ aJ x u := by
 cases r with
 | cons r1 r2 => cases r2; exact ⟨_, rfl, r1⟩
theorem tQ {x y : V} {us : List Value} (r : aG [x, y] us) : ∃ u w', us = [u, w'] /\ aJ x u /\ aJ y w' := by
 cases r with
 | cons r1 r2 =>
  cases r2 with
  | cons r3 r4 => cases r4; exact ⟨_, _, rfl, r1, r3⟩
theorem ph (hc : X.calm = true) : bB X (.builtin "min") (fun xs H Q => ∃ i j, xs = [.int i, .int j] /\ Q (.int (if j < i then j else i)) H) := by
 intro pins s σ H xs us Q I r h
 obtain ⟨i, j, rfl, q⟩ := h
 obtain ⟨u, w', rfl, ⟨t, rfl⟩, ⟨t', rfl⟩⟩ := tQ r
 refine min_two_ints (I.ok.hd hc) fun h' tk k => ⟨_, H, I.kept k, ?_, q⟩
 by_cases hj : j < i
 ·rw [if_pos hj, if_pos hj]; exact ⟨_, rfl⟩
 ·rw [if_neg hj, if_neg hj]; exact ⟨_, rfl⟩
theorem pG : bB X (.type "int") (fun xs H Q => (∃ i, xs = [.int i] /\ Q (.int i) H) \/ ∃ k, xs = [.bl k] /\ Q (.int (if k then 1 else 0)) H) := by
 intro pins s σ H xs us Q I r h
 rcases h with ⟨i, rfl, q⟩ | ⟨k, rfl, q⟩
 ·obtain ⟨u, rfl, t, rfl⟩ := bN r
  exact call_int_int ⟨.int i, H, I, ⟨_, rfl⟩, q⟩
 ·obtain ⟨u, rfl, r1⟩ := bN r
  cases r1
  exact call_int_bool ⟨.int (if k then 1 else 0), H, I.tok _, ⟨_, rfl⟩, q⟩
end
structure uS (h : Heap) (x dx C : Addr) (mA : Str -> Option Value) : Prop where
 obj : h.get? x = some (PySem.W.instObj C dx)
 ns : h.Ns1 dx mA
 ne : dx ≠ x
theorem pc {h : Heap} {dx : Addr} {mA : Str -> Option Value} (n : h.Ns1 dx mA) : ∃ od, h.get? dx = some od /\ ∀ name, PySem.W.lookIn name od = some (mA name) := by
 obtain ⟨o, es, ep, ho, hd, hk, _, hm⟩ := n
 refine ⟨o, ho, fun name => ?_⟩
 have e := hm name
 unfold nsFind findBy at e
 rw [<- Array.find?_toList] at e
 unfold PySem.W.lookIn
 rw [hd]
 dsimp only
 split
 ·rename_i y q
  rw [q] at e
  exact congrArg some e
 ·rename_i q
  rw [q] at e
  have a : es.toList.any (·.refKey) = false := by
   rw [List.any_eq_false]
   intro y hy
   obtain ⟨z, t, hkey⟩ := hk y (Array.mem_toList_iff.mp hy)
   simp [DictEntry.refKey, hkey]
  have a' : ¬ es.toList.any (·.refKey) = true := by rw [a]; exact Bool.false_ne_true
  rw [if_neg a']
  exact congrArg some e
theorem uS.look {h : Heap} {x dx C : Addr} {mA : Str -> Option Value} (I : uS h x dx C mA) : ∃ od, PySem.W.InstAt h x (PySem.W.instObj C dx) C (some od) /\ ∀ name, PySem.W.lookIn name od = some (mA name) :=
 let ⟨od, ho, hl⟩ := pc I.ns
 ⟨od, ⟨I.obj, rfl, rfl, ho⟩, hl⟩
section
variable {prog : Program} {w : World} {A : Around} {E : Value -> Shared -> Prop} {s : Shared} {K : PySem.W.Frag} {x dx C f : Addr} {mA : Str -> Option Value} {name : Str} {v : Value}
end
theorem ga.some_of {v : V} {o : Option Value} (r : ga (some v) o) : ∃ u, o = some u /\ aJ v u := by
 cases o with
 | none => exact (show False from r).elim
 | some u => exact ⟨u, rfl, r⟩
section
variable {P : Program} {w : World} {H H' : Hp} {h h' : Heap} {a C dx : Addr} {fs fs' : List (Str × V)}
theorem sf (hok : HOk P w H h) (e : H a = some (.ins C dx fs)) : ∃ mA, uS h a dx C mA /\ (∀ f, ga (fs.lookup f) (mA f)) /\ PySem.Within mA (fs.map (·.1)) /\ fs.length <= 1000 /\ H dx = some (.own a) := by
 obtain ⟨d, z, ne, ob, mA, n, r, q⟩ := (show aF P w H h a (.ins C dx fs) from hok a _ e)
 exact ⟨mA, ⟨ob, n, ne⟩, r, q, z, d⟩
end
structure Cls (K : PySem.W.Frag) (C : Addr) : Prop where
 pg : PySem.W.plainGet K C Str.empty = true
 hd : PySem.W.hasDictIn K C = true
 po : PySem.W.plainOver K C = true
 sa : PySem.W.findIn K (.ref C) "__setattr__" = some (some (.builtin "object.__setattr__"))
theorem Cls.get {K : PySem.W.Frag} {C : Addr} (c : Cls K C) (f : Str) : PySem.W.plainGet K C f = true := c.pg
section
variable {X : Cx} {pins : List (Addr × Obj)} {σ : St} {H : Hp} {s : Shared} {a C dx : Addr} {fs : List (Str × V)} {f : Str} {v : V} {A : Around} {E : Value -> Shared -> Prop}
end
section
variable {X : Cx} {o e value : Expr} {f : Str} {pos pos' tpos : Pos} {ta tv : TE}
end
section
variable {X : Cx} {pins : List (Addr × Obj)} {σ : St} {H : Hp} {s : Shared} {A : Around} {E : Value -> Shared -> Prop} {Q : Value -> Shared -> Prop} {c : Value} {b : Bool}
inductive dU (K : PySem.W.Frag) (H : Hp) : V -> Value -> Prop where
 | non : dU K H .non (.type "NoneType")
 | bl (x : Bool) : dU K H (.bl x) (.type "bool")
 | int (i : Int) : dU K H (.int i) (.type "int")
 | str (x : Str) : dU K H (.str x) (.type "str")
 | flt (x : UInt64) : dU K H (.flt x) (.type "float")
 | lst {a : Addr} {xs : List V} (e : H a = some (.lst xs)) : dU K H (.ref a) (.type "list")
 | frz {a : Addr} {o : Obj} {xs : List V} (e : H a = some (.frz o (.lst xs))) : dU K H (.ref a) (.type "list")
 | tup {a : Addr} {xs : List V} (e : H a = some (.tup xs)) : dU K H (.ref a) (.type "tuple")
 | dK {a : Addr} {kvs : List (Key × V)} (e : H a = some (.dK kvs)) : dU K H (.ref a) (.type "dict")
 | dT {a : Addr} {kvs : List (List Key × V)} (e : H a = some (.dT kvs)) : dU K H (.ref a) (.type "dict")
 | ins {a C dx : Addr} {fs : List (Str × V)} (e : H a = some (.ins C dx fs)) (cl : Cls K C) (ha : PySem.W.findIn K (.ref C) "__class__" = some (some (.builtin "object.__class__")))
   (hn : PySem.W.specialIn K (.builtin "object.__class__") "__get__" = some (some (.builtin "getset_descriptor.__get__"))) (htk : PySem.W.takesIn K (.builtin "object.__class__") = some true)
   (hm : PySem.W.mroIn K C (.type "object") = some true) : dU K H (.ref a) (.ref C)
theorem pI {x : V} {u t : Value} (I : Inv X pins σ H s) (rx : aJ x u) (ty : dU X.K H x t) (e : PySem.W.kitOne X.K t c = some b) (h : ∀ tk, Q (.bool b) { s with toks := tk }) :
  wpAny (model X.prog X.w) A (call (.builtin "isinstance") [u, c]) Q E s := by
 cases ty with
 | non => cases (show u = Value.none from rx); exact PySem.W.kia_one PySem.W.kitx_none I.kIn True.intro e (fun z => nomatch z) h
 | bl y => cases (show u = Value.bool y from rx); exact PySem.W.kia_one PySem.W.kitx_bool I.kIn True.intro e (fun z => nomatch z) h
 | int i => obtain ⟨t, q⟩ := (show ∃ t, u = Value.int i t from rx); cases q; exact PySem.W.kia_one PySem.W.kitx_int I.kIn True.intro e (fun z => nomatch z) h
 | str y => obtain ⟨t, q⟩ := (show ∃ t, u = Value.str y t from rx); cases q; exact PySem.W.kia_one PySem.W.kitx_str I.kIn True.intro e (fun z => nomatch z) h
 | flt y => obtain ⟨t, q⟩ := (show ∃ t, u = Value.float y t from rx); cases q; exact PySem.W.kia_one PySem.W.kitx_float I.kIn True.intro e (fun z => nomatch z) h
 | @lst a xs ea =>
  cases (show u = Value.ref a from rx)
  obtain ⟨_, _, n, _, h1⟩ := (show aF X.prog X.w H s.heap a (.lst xs) from I.hok a _ ea)
  exact PySem.W.kia_one PySem.W.kitx_list I.kIn ⟨_, h1, rfl⟩ e (fun z => nomatch z) h
 | @frz a ob xs ea =>
  cases (show u = Value.ref a from rx)
  obtain ⟨_, _, _, n, _, h1⟩ := (show aF X.prog X.w H s.heap a (.frz ob (.lst xs)) from I.hok a _ ea)
  exact PySem.W.kia_one PySem.W.kitx_list I.kIn ⟨_, h1, rfl⟩ e (fun z => nomatch z) h
 | @tup a xs ea =>
  cases (show u = Value.ref a from rx)
  obtain ⟨_, _, _, p⟩ := (show aF X.prog X.w H s.heap a (.tup xs) from I.hok a _ ea)
  obtain ⟨⟨o, h1, h2, _⟩, _⟩ := p
  exact PySem.W.kia_one PySem.W.kitx_tuple I.kIn ⟨o, h1, h2⟩ e (fun z => nomatch z) h
 | @dK a kvs ea =>
  cases (show u = Value.ref a from rx)
  obtain ⟨_, _, vs, _, p⟩ := (show aF X.prog X.w H s.heap a (.dK kvs) from I.hok a _ ea)
  obtain ⟨o, es, ep, h1, h2, _⟩ := p
  exact PySem.W.kia_one PySem.W.kitx_dict I.kIn ⟨o, h1, h2.1⟩ e (fun z => nomatch z) h
 | @dT a kvs ea =>
  cases (show u = Value.ref a from rx)
  obtain ⟨_, _, xs, _, o, es, ep, h1, h2, _⟩ := (show aF X.prog X.w H s.heap a (.dT kvs) from I.hok a _ ea)
  exact PySem.W.kia_one PySem.W.kitx_dict I.kIn ⟨o, h1, h2.1⟩ e (fun z => nomatch z) h
 | @ins a C dx fs ea cl ha hn htk hm =>
  cases (show u = Value.ref a from rx)
  obtain ⟨mA, O, _⟩ := sf I.hok ea
  obtain ⟨od, J, _⟩ := O.look
  exact PySem.W.kia_one (PySem.W.kitx_own (cl.get _) cl.hd ha hn htk hm) I.kIn J e (fun z => nomatch z) h
end
structure cX (k : Nat) (A : Around) : Prop where
 hd : A.handled = none
 dp : A.depth + 3 * k + 5 < recursionLimit
 un : A.units + 16 * k + 200 < cLine
theorem cX.mono {j k : Nat} {A : Around} (r : cX k A) (h : j <= k) : cX j A := ⟨r.hd, by have := r.dp; omega, by have := r.un; omega⟩
theorem cX.deeper {k : Nat} {A : Around} (r : cX (k + 1) A) (env : Env) : cX k (A.deeper env) :=
 ⟨r.hd, by have := r.dp; show A.depth + 1 + 3 * k + 5 < _; omega, by have := r.un; show A.units + 3 + 16 * k + 200 < _; omega⟩
theorem cX.depth {k : Nat} {A : Around} (r : cX k A) : A.depth < recursionLimit := by have := r.dp; omega
theorem cX.units {k : Nat} {A : Around} (r : cX k A) : A.units + 64 < cLine := by have := r.un; omega
def wL : TA := fun _ H Q => Q [] H
def wB (ta : TE) (tr : TA) : TA := fun σ H Q => ta σ H fun x H1 => tr σ H1 fun xs H2 => Q (x :: xs) H2
section
variable {X : Cx} {e : Expr} {es : List Expr} {te : TE} {t : TA} {pos : Pos}
theorem af : PA X [] wL := fun _ _ _ _ H Q I h => Calls.spliced_nil ⟨[], H, I, .nil, h⟩
theorem aa (ha : PE X e te) (hr : PA X es t) (hs : starEach (e :: es) X.env = (false, eval e X.env) :: starEach es X.env := by rfl) : PA X (e :: es) (wB te t) := by
 intro pos pins s σ H Q I h
 rw [hs]
 show wpAny _ _ (spliced ((false, eval e X.env) :: backTo pos (starEach es X.env))) _ _ s
 refine Calls.spliced_cons (thn (ha pins s σ H _ I h) fun u s1 ⟨x, H1, I1, r1, q1⟩ => ?_)
 exact thn (hr pos pins s1 σ H1 _ I1 q1) fun us s2 ⟨xs, H2, I2, r2, q2⟩ => ⟨x :: xs, H2, I2, .cons r1 r2, q2⟩
def xj (t : TA) : TE := fun σ H Q => t σ H fun xs H1 => xs.length <= sizeLine /\ ∀ p, H1 p = none -> Q (.ref p) (upd H1 p (.tup xs))
def wZ (t : TA) : TE := fun σ H Q => t σ H fun xs H1 => xs.length <= sizeLine /\ ∀ p, H1 p = none -> Q (.ref p) (upd H1 p (.lst xs))
theorem bX {x1} (h : PA X es t) : PE X (.Tuple es x1 pos) (xj t) := by
 intro pins s σ H Q I hq
 refine wpAny_Tuple_spliced (thn (h pos pins s σ H _ I hq) fun us s1 ⟨xs, H1, I1, r, z, q⟩ => ⟨by rw [<- r.length]; exact z, ?_⟩)
 have hf : H1 s1.heap.objs.size = none := I1.hok.fresh (Nat.le_refl _)
 refine ⟨.ref s1.heap.objs.size, upd H1 s1.heap.objs.size (.tup xs), I1.laid (t' := s1.toks) (fun b u e => Heap.get?_push_of_some _ e) (Nat.le_refl _) ?_, rfl, q _ hf⟩
 exact ⟨z, us, r, ⟨_, Heap.get?_push_size _ rfl, rfl, _, rfl⟩, NoD.new _ rfl⟩
theorem bQ (h : PA X es t) : PE X (.List es pos) (wZ t) := by
 intro pins s σ H Q I hq
 refine wpAny_List_spliced (thn (h pos pins s σ H _ I hq) fun us s1 ⟨xs, H1, I1, r, z, q⟩ => ⟨by rw [<- r.length]; exact z, ?_⟩)
 have hf : H1 s1.heap.objs.size = none := I1.hok.fresh (Nat.le_refl _)
 refine ⟨.ref s1.heap.objs.size, upd H1 s1.heap.objs.size (.lst xs), I1.laid (t' := s1.toks) (fun b u e => Heap.get?_push_of_some _ e) (Nat.le_refl _) ?_, rfl, q _ hf⟩
 exact ⟨z, us, 0, r, Heap.get?_push_size _ rfl⟩
end
abbrev Sp := List V -> Hp -> VK -> XK -> Prop
abbrev CXT := List Env -> Hp -> Shared -> XK -> Value -> Shared -> Prop
structure sj (P : Program) (w : World) (K : PySem.W.Frag) (mg : Str -> Option Value) (base : Heap) (A : Around) (outer : List Env) (s : Shared) (H : Hp) : Prop where
 frames : A.frames = some outer
 mod : Mod K mg base
 bs : ∀ b o, base.get? b = some o -> s.heap.get? b = some o /\ H b = none
 bsz : base.objs.size <= s.heap.objs.size
 funs : s.heap.FunFrames base outer
 frf : ∀ b ∈ frs outer, H b = none
 hok : HOk P w H s.heap
 bare : AllBare s.gens
def CE (outer : List Env) (P : Program) (w : World) (H : Hp) (s : Shared) (Q : VK) (u : Value) (s' : Shared) : Prop :=
 ∃ v H', s'.os = s.os /\ AllBare s'.gens /\ Un (frs outer) [] H H' s.heap s'.heap /\ HOk P w H' s'.heap /\ aJ v u /\ Q v H'
def CR (CX : CXT) (outer : List Env) (P : Program) (w : World) (H : Hp) (s : Shared) (Q : VK) (E : XK) (r : Result) (s' : Shared) : Prop :=
 match r with
 | .ok (.ret u) => CE outer P w H s Q u s'
 | .ok _ => False
 | .error e => CX outer H s E e s'
structure bu (P : Program) (w : World) (K : PySem.W.Frag) (mg : Str -> Option Value) (base : Heap) (CX : CXT) (k : Nat) (f : Addr) (fd : FuncData) (ps : List Str) (sp : Sp) : Prop where
 len : ∀ vs H Q E, sp vs H Q E -> vs.length = ps.length
 run : ∀ (A : Around) (outer : List Env) (s : Shared) (H : Hp) (args : Args) (us : List Value) (vs : List V) (Q : VK) (E : XK), cX k A -> sj P w K mg base A outer s H -> BindsTo s fd args (ps.zip us) -> aG vs us -> sp vs H Q E ->
  codeAny (model P w) A (.call (.ref f) args) (CR CX outer P w H s Q E) s
theorem bu.mono {P : Program} {w : World} {K : PySem.W.Frag} {mg : Str -> Option Value} {base : Heap} {CX : CXT} {j k : Nat} {f : Addr} {fd : FuncData} {ps : List Str} {sp : Sp} (F : bu P w K mg base CX j f fd ps sp) (h : j <= k) :
  bu P w K mg base CX k f fd ps sp := ⟨F.len, fun A outer s H args us vs Q E hr => F.run A outer s H args us vs Q E (hr.mono h)⟩
section
variable {X : Cx} {pins : List (Addr × Obj)} {σ : St} {H : Hp} {s s' : Shared}
theorem Inv.env0 (I : Inv X pins σ H s) : sj X.prog X.w X.K X.mg X.base X.A X.stack s H :=
 ⟨I.ok.frames, I.ok.mod, I.bs, Nat.le_trans I.ok.bsz I.sz, I.stack, I.stkFree, I.hok, I.bare⟩
theorem Inv.after {Q : VK} {u : Value} (I : Inv X pins σ H s) (h : CE X.stack X.prog X.w H s Q u s') : EP X pins σ Q u s' := by
 obtain ⟨v, H', os, bare, un, hok, r, q⟩ := h
 obtain ⟨hh, g, d, t, os'⟩ := s'
 obtain rfl : os' = s.os := os
 exact ⟨v, H', I.call (h' := hh) (g' := g) (d' := d) (t' := t) (ch := []) un hok bare (fun b z => absurd z (by simp)), r, q⟩
end
def tX (sp : Sp) (dvs : List V) (E : XK) (t : TA) : TE := fun σ H Q => t σ H fun vs H1 => sp (vs ++ dvs) H1 Q E
def iq (K : PySem.W.Frag) (fd : FuncData) (ps : List Str) (ds : List Value) : Prop :=
 ∀ (s : Shared) (us : List Value), K.In s.heap -> (us ++ ds).length = ps.length -> BindsTo s fd ⟨us, []⟩ (ps.zip (us ++ ds))
theorem iq.all {K : PySem.W.Frag} {fd : FuncData} {ps : List Str} (h : ∀ us : List Value, us.length = ps.length -> bindArgs fd ⟨us, []⟩ = pure (ps.zip us)) : iq K fd ps [] := fun s us _ hl => by
 rw [List.append_nil] at hl ⊢
 exact .of_eq (h us hl)
def mS (CX : CXT) (X : Cx) (E : XK) : Prop := ∀ (pins : List (Addr × Obj)) (σ : St) (H : Hp) (s : Shared) (e : Value) (s' : Shared), Inv X pins σ H s -> CX X.stack H s E e s' -> X.xe e s'
section
variable {X : Cx} {CX : CXT} {k : Nat} {f C : Addr} {fd : FuncData} {ps : List Str} {sp : Sp} {dvs : List V} {ds : List Value} {E : XK} {x m : Str} {p pos apos : Pos} {e o : Expr} {es : List Expr} {ta : TE} {t : TA}
theorem vj {pins : List (Addr × Obj)} {σ : St} {H : Hp} {s : Shared} {Q : VK} {us : List Value} {vs : List V} (F : bu X.prog X.w X.K X.mg X.base CX k f fd ps sp) (hr : cX k X.A) (hb : iq X.K fd ps ds) (hd : aG dvs ds) (hx : mS CX X E)
  (I : Inv X pins σ H s) (r : aG vs us) (h : sp (vs ++ dvs) H Q E) : wpAny (model X.prog X.w) X.A (call (.ref f) us) (EP X pins σ Q) X.xe s := by
 have r2 : aG (vs ++ dvs) (us ++ ds) := r.append hd
 have hl : (us ++ ds).length = ps.length := by rw [<- r2.length]; exact F.len _ _ _ _ h
 refine wpAny_call (codeAny_mono (F.run X.A X.stack s H ⟨us, []⟩ (us ++ ds) (vs ++ dvs) Q E hr I.env0 (hb s us I.kIn hl) r2 h) fun r s' hq => ?_)
 cases r with
 | error e => exact hx pins σ H s e s' I hq
 | ok fl =>
  cases fl with
  | ret u => exact I.after hq
  | next => exact False.elim hq
  | brk => exact False.elim hq
  | cont => exact False.elim hq
theorem tz (F : bu X.prog X.w X.K X.mg X.base CX k f fd ps sp) (hr : cX k X.A) (hg : Gl X x) (hm : X.mg x = some (.ref f)) (hk : PySem.W.keepIn X.K (.ref f) = true) (hb : iq X.K fd ps ds) (hd : aG dvs ds) (hx : mS CX X E)
  (ha : PA X (e :: es) t) (hdb : (x == ("__debug__" : Str)) = false := by decide) (he : starEach (e :: es) X.env = (false, eval e X.env) :: starEach es X.env := by rfl) (hpl : (backTo pos (starEach es X.env)).any (·.1) = false := by rfl) :
  PE X (.Call (.Name x p) (e :: es) [] pos) (tX sp dvs E t) := by
 intro pins s σ H Q I h
 refine wpAny_Call_Name_kw (tM I hg hm ?_ hdb)
 refine PySem.W.callWith_K (h₀ := X.base) I.ok.mod.kin hk (thn (ha pos pins s σ H _ I h) fun us s1 ⟨vs, H1, I1, r, q⟩ => ⟨I1.kIn, ?_⟩) he hpl
 exact vj F hr hb hd hx I1 r q
end
section
variable {X : Cx} {CX : CXT} {k : Nat} {f C : Addr} {fd : FuncData} {ps ks : List Str} {sp : Sp} {E : XK} {x m : Str} {p pos apos kpos : Pos} {e o : Expr} {es : List Expr} {kws : List Keyword} {te ta : TE} {t tk : TA} {nm : Option Str}
variable {g : List Value -> List Value -> List Value} {gV : List V -> List V -> List V}
end
structure aR (N P : List Str) (sc : Scope) : Prop where
 kind : sc.kind = .function
 co : sc.isCoroutine = false
 gen : sc.isGenerator = false
 nd : N.Nodup
 pre : N.take P.length = P
 par : ∀ x ∈ P, sc.names.lookup x = some .local \/ sc.names.lookup x = some .cell
 nofree : ∀ y ∈ sc.names, y.2 ≠ .free
theorem iI {kindOf : Str -> Option NameKind} {x : Str} : ∀ {binds : List (Str × Value)} {m : Str -> Option Value}, (∀ v, (x, v) ∉ binds) -> bindL kindOf binds m x = m x
 | [], _, _ => rfl
 | (n, v) :: r, m, h => by
  unfold bindL
  rw [iI fun w hw => h w (List.mem_cons_of_mem _ hw)]
  split
  ·have : x ≠ n := by rintro rfl; exact h v List.mem_cons_self
   simp [this]
  ·rfl
theorem ii {kindOf : Str -> Option NameKind} {x : Str} : ∀ {binds : List (Str × Value)} {m : Str -> Option Value}, (∀ v, (x, v) ∉ binds) -> bindC kindOf binds m x = m x
 | [], _, _ => rfl
 | (n, v) :: r, m, h => by
  unfold bindC
  rw [ii fun w hw => h w (List.mem_cons_of_mem _ hw)]
  split
  ·rfl
  ·have : x ≠ n := by rintro rfl; exact h v List.mem_cons_self
   simp [this]
theorem iD {kindOf : Str -> Option NameKind} {x : Str} {v : Value} : ∀ {P : List Str} {vs : List Value} {i : Nat} {m : Str -> Option Value}, P.Nodup -> P[i]? = some x -> vs[i]? = some v -> kindOf x = some .local ->
  bindL kindOf (P.zip vs) m x = some v
 | [], _, _, _, _, h, _, _ => by simp at h
 | _ :: _, [], _, _, _, _, h, _ => by simp at h
 | p :: P, w :: vs, 0, m, nd, h1, h2, hk => by
  simp at h1 h2; subst h1; subst h2
  show bindL kindOf ((p, w) :: P.zip vs) m p = _
  unfold bindL
  rw [iI fun v hv => (List.nodup_cons.mp nd).1 (List.of_mem_zip hv).1, if_pos hk]
  simp
 | p :: P, w :: vs, i + 1, m, nd, h1, h2, hk => by
  show bindL kindOf ((p, w) :: P.zip vs) m x = _
  unfold bindL
  exact iD (i := i) (List.nodup_cons.mp nd).2 (by simpa using h1) (by simpa using h2) hk
theorem iS {kindOf : Str -> Option NameKind} {x : Str} {v : Value} : ∀ {P : List Str} {vs : List Value} {i : Nat} {m : Str -> Option Value}, P.Nodup -> P[i]? = some x -> vs[i]? = some v -> kindOf x ≠ some .local ->
  bindC kindOf (P.zip vs) m x = some v
 | [], _, _, _, _, h, _, _ => by simp at h
 | _ :: _, [], _, _, _, _, h, _ => by simp at h
 | p :: P, w :: vs, 0, m, nd, h1, h2, hk => by
  simp at h1 h2; subst h1; subst h2
  show bindC kindOf ((p, w) :: P.zip vs) m p = _
  unfold bindC
  rw [ii fun v hv => (List.nodup_cons.mp nd).1 (List.of_mem_zip hv).1, if_neg hk]
  simp
 | p :: P, w :: vs, i + 1, m, nd, h1, h2, hk => by
  show bindC kindOf ((p, w) :: P.zip vs) m x = _
  unfold bindC
  exact iS (i := i) (List.nodup_cons.mp nd).2 (by simpa using h1) (by simpa using h2) hk
def fW (N : List Str) (vs : List V) : St := vs.map some ++ List.replicate (N.length - vs.length) none
def pj (CX : CXT) (P : Program) (w : World) (K : PySem.W.Frag) (mg : Str -> Option Value) (base : Heap) (N : List Str) (qual : Str) (scope : Scope) (f : Addr) (cd : Value) (A : Around) (outer : List Env) (s : Shared) (H : Hp) (E : XK) : Cx where
 prog := P
 w := w
 K := K
 mg := mg
 base := base
 A := A.deeper (envOfC qual scope s.heap.objs.size f cd)
 N := N
 s₀ := s
 H₀ := H
 env := envOfC qual scope s.heap.objs.size f cd
 outer := outer
 stack := envOfC qual scope s.heap.objs.size f cd :: outer
 ex := []
 calm := true
 fn := fun _ => true
 pn := []
 xe := fun e s' => wpAny (model P w) (A.deeper (envOfC qual scope s.heap.objs.size f cd)) (leaving (envOfC qual scope s.heap.objs.size f cd) e) (fun _ s'' => CX outer H s E e s'') (fun e' s'' => CX outer H s E e' s'') s'
theorem kR {sc : Scope} {n : Nat} {x : Str} (h : sc.names.lookup x = some .cell) : ∃ c, (cellsFrom n sc.names []).lookup x = some c := by
 have q := PySem.W.cellsFrom_some sc.names n [] (.inl h)
 exact Option.isSome_iff_exists.mp q
theorem oZ {CX : CXT} {P : Program} {w : World} {K : PySem.W.Frag} {mg : Str -> Option Value} {base : Heap} {N ps : List Str} {qual : Str} {scope : Scope} {f : Addr} {cd : Value} {A : Around} {outer : List Env} {s s1 : Shared} {H : Hp} {E : XK} {us : List Value} {vs : List V}
  (S : aR N ps scope) (hd : A.handled = none) (e0 : sj P w K mg base A outer s H) (hl : vs.length = ps.length) (r : aG vs us)
  (x : InCallC s s.heap.objs.size (bindL (envOfC qual scope s.heap.objs.size f cd).kindOf (ps.zip us) fun _ => none) (cellsFrom (s.heap.objs.size + 1) scope.names []) (bindC (envOfC qual scope s.heap.objs.size f cd).kindOf (ps.zip us) fun _ => none) s1) :
  Inv (pj CX P w K mg base N qual scope f cd A outer s H E) [] (fW N vs) H s1 := by
 have hpl : ps.length <= N.length := by have := congrArg List.length S.pre; rw [List.length_take] at this; omega
 obtain ⟨h1, tk, rfl, hk⟩ := x.done
 have noA : ∀ b : Addr, b ∉ (pj CX P w K mg base N qual scope f cd A outer s H E).ex := fun b z => absurd (show b ∈ ([] : List Addr) from z) (by simp)
 refine ⟨⟨e0.mod, S.kind, rfl, rfl, Nat.le_refl _, fun y z c h1 h2 => ?_, fun y hy => ?_, fun y c _ h => ?_, fun _ => hd, Around.frames_deeper e0.frames, .inr ⟨rfl, rfl⟩, fun b z => absurd z (noA b), e0.bs, e0.bsz, fun b _ _ => noA b, fun b z => absurd z (noA b), e0.funs, e0.frf⟩,
  rfl, e0.bare, Un.kept hk, ⟨_, x.toInCall.ns, fun i y v h1 h2 h3 => ?_⟩, fun y c h => ⟨_, x.cell y c h⟩, e0.hok.fresh (Nat.le_refl _), fun y c h => ?_, fun p hp => absurd (show p ∈ ([] : List (Addr × Obj)) from hp) (by simp), e0.hok.kept hk, ?_⟩
 ·exact name_of_addr x.apart (PySem.mem_of_lookup h1) (PySem.mem_of_lookup h2)
 ·have hy : scope.names.lookup y = some .cell \/ scope.names.lookup y = some .free := hy
  rcases hy with hy | hy
  ·exact kR hy
  ·exact absurd rfl (S.nofree _ (PySem.mem_of_lookup hy))
 ·exact Nat.le_of_lt (x.above y c (PySem.mem_of_lookup h))
 ·have hi : i < vs.length := by
   unfold fW at h2
   by_cases hi : i < vs.length
   ·exact hi
   ·rw [List.getElem?_append_right (by simpa using hi)] at h2
    rw [List.getElem?_replicate] at h2
    split at h2 <;> cases h2
  have ha : vs[i]? = some v := by
   unfold fW at h2
   rw [List.getElem?_append_left (by simpa using hi), List.getElem?_map] at h2
   cases e : vs[i]? with
   | none => rw [e] at h2; cases h2
   | some a => rw [e] at h2; cases h2; rfl
  obtain ⟨u, hu, rv⟩ := r.get ha
  have hp : ps[i]? = some y := by
   rw [<- S.pre, List.getElem?_take_of_lt (by omega)]; exact h1
  have ndP : ps.Nodup := by rw [<- S.pre]; exact S.nd.sublist (List.take_sublist _ _)
  refine ⟨u, rv, ?_⟩
  rcases S.par y (List.mem_of_getElem? hp) with k | k
  ·exact .inl ⟨k, iD ndP hp hu k⟩
  ·obtain ⟨c, e⟩ := kR (n := s.heap.objs.size + 1) k
   refine .inr ⟨.inl k, c, e, ?_⟩
   have q := x.cell y c e
   rw [iS ndP hp hu (by show scope.names.lookup y ≠ _; rw [k]; decide)] at q
   exact q
 ·exact e0.hok.fresh (Nat.le_of_lt (x.above y c (PySem.mem_of_lookup h)))
 ·unfold fW
  show _ = N.length
  rw [List.length_append, List.length_map, List.length_replicate]
  omega
theorem wz {CX : CXT} {P : Program} {w : World} {K : PySem.W.Frag} {mg : Str -> Option Value} {base : Heap} {k : Nat} {f : Addr} {name qual : Str} {params : Arguments} {body : List Stmt} {scope : Scope} {dV kV doc pm cdv ct oc : Value} {an od : Option Addr}
  {osl : Array (Option Value)} {N ps : List Str} {sp : Sp} (lk : K.lookup f = some ⟨oc, od, .func (PySem.W.fnOf name qual params body scope dV kV doc pm an cdv ct), osl⟩) (hcd : PySem.W.codeIn K cdv qual = true) (S : aR N ps scope)
  (len : ∀ vs H Q E, sp vs H Q E -> vs.length = ps.length)
  (hbody : ∀ (A : Around) (outer : List Env) (s : Shared) (H : Hp) (vs : List V) (Q : VK) (E : XK), cX k (A.deeper (envOfC qual scope s.heap.objs.size f cdv)) -> sp vs H Q E ->
   ∃ t, PSs (pj CX P w K mg base N qual scope f cdv A outer s H E) body t /\ t { nx := fun _ H' => Q .non H', rt := Q } (fW N vs) H) :
  bu P w K mg base CX (k + 1) f (PySem.W.fnOf name qual params body scope dV kV doc pm an cdv ct) ps sp := by
 refine ⟨len, fun A outer s H args us vs Q E hr e0 hb r hsp => ?_⟩
 have hl := len _ _ _ _ hsp
 have KX : K.In s.heap := e0.mod.kin.keeps fun b o e => (e0.bs b o e).1
 have lim : s.heap.NoLimit := e0.mod.nolimit.keeps fun b o e => (e0.bs b o e).1
 have hkind : ∀ y ∈ ps.zip us, scope.names.lookup y.1 = some .local \/ (scope.names.lookup y.1 = some .cell /\ ((cellsFrom (s.heap.objs.size + 1) scope.names []).lookup y.1).isSome = true) := fun ⟨n, v⟩ hy => by
  rcases S.par n (List.of_mem_zip hy).1 with q | q
  ·exact .inl q
  ·exact .inr ⟨q, PySem.W.cellsFrom_some _ _ _ (.inl q)⟩
 refine codeAny_call_function hr.depth (KX _ _ lk) rfl S.co S.gen rfl (PySem.W.codeRec_of KX hcd) (hb _ _ _ _ ?_)
 refine wpAny_newFunctionEnv_cells S.kind hkind fun env he s1 x => ?_
 subst he
 refine ⟨lim.keeps x.toInCall.keep, codeAny_func ?_⟩
 obtain ⟨t, ht, hq⟩ := hbody A outer s H vs Q E (hr.deeper _) hsp
 have I : Inv (pj CX P w K mg base N qual scope f cdv A outer s H E) [] (fW N vs) H s1 := oZ S hr.hd e0 hl r x
 refine wpAny_mono (ht [] s1 (fW N vs) H _ I hq) (fun fl s' hs => ?_) fun e s' hs => hs
 have fin : ∀ {σ' : St} {H' : Hp} {v : V} {u : Value}, Inv (pj CX P w K mg base N qual scope f cdv A outer s H E) [] σ' H' s' -> aJ v u -> Q v H' -> CE outer P w H s Q u s' :=
  fun {σ' H' v u} J rv q => ⟨v, H', J.os, J.bare, J.base, J.hok, rv, q⟩
 cases fl with
 | ret u =>
  obtain ⟨v, σ', H', J, rv, q⟩ := hs
  exact fin J rv q
 | next =>
  obtain ⟨σ', H', J, q⟩ := hs
  exact fin (v := V.non) (u := Value.none) J rfl q
 | brk =>
  obtain ⟨_, _, _, q⟩ := hs
  exact False.elim q
 | cont =>
  obtain ⟨_, _, _, q⟩ := hs
  exact False.elim q
section
variable {X : Cx} {x : Str} {p pos : Pos} {e : Expr} {es : List Expr} {t : TA} {id T : String} {r : List V -> Hp -> VK -> Prop}
def tCB (r : List V -> Hp -> VK -> Prop) (t : TA) : TE := fun σ H Q => t σ H fun vs H1 => r vs H1 Q
theorem aS (hc : bB X (.builtin id) r) (hg : Gl X x) (hm : X.mg x = none) (hv : bootBuiltins x = some (.builtin id)) (ha : PA X (e :: es) t) (hn : x ≠ "__name__" := by decide) (hdb : (x == ("__debug__" : Str)) = false := by decide)
  (he : starEach (e :: es) X.env = (false, eval e X.env) :: starEach es X.env := by rfl) (hpl : (backTo pos (starEach es X.env)).any (·.1) = false := by rfl) : PE X (.Call (.Name x p) (e :: es) [] pos) (tCB r t) := by
 intro pins s σ H Q I h
 refine wpAny_Call_Name_kw (gA I hg hm hv ?_ hn hdb)
 exact PyProof.Rows.callWith_builtin1 (thn (ha pos pins s σ H _ I h) fun us s1 ⟨vs, H1, I1, r1, q1⟩ => hc pins s1 σ H1 vs us Q I1 r1 q1) he hpl
theorem aW (hc : bB X (.type T) r) (hg : Gl X x) (hm : X.mg x = none) (hv : bootBuiltins x = some (.type T)) (ha : PA X (e :: es) t) (hn : x ≠ "__name__" := by decide) (hdb : (x == ("__debug__" : Str)) = false := by decide)
  (he : starEach (e :: es) X.env = (false, eval e X.env) :: starEach es X.env := by rfl) (hpl : (backTo pos (starEach es X.env)).any (·.1) = false := by rfl) : PE X (.Call (.Name x p) (e :: es) [] pos) (tCB r t) := by
 intro pins s σ H Q I h
 refine wpAny_Call_Name_kw (gA I hg hm hv ?_ hn hdb)
 exact PyProof.Rows.callWith_type1 (thn (ha pos pins s σ H _ I h) fun us s1 ⟨vs, H1, I1, r1, q1⟩ => hc pins s1 σ H1 vs us Q I1 r1 q1) he hpl
end
section
variable {κ : Type} [DecidableEq κ]
def dj (kvs : List (κ × V)) (k : κ) : Option V := (kvs.find? fun kv => decide (kv.1 = k)).map (·.2)
def bU (kvs : List (κ × V)) (k : κ) (v : V) : List (κ × V) :=
 if (kvs.any fun kv => decide (kv.1 = k)) = true then kvs.map (fun kv => if kv.1 = k then (kv.1, v) else kv) else kvs ++ [(k, v)]
theorem dC {p : κ × V} {r : List (κ × V)} {k : κ} (e : p.1 = k) : dj (p :: r) k = some p.2 := by simp [dj, List.find?_cons, e]
theorem dH {p : κ × V} {r : List (κ × V)} {k : κ} (e : ¬ p.1 = k) : dj (p :: r) k = dj r k := by simp [dj, List.find?_cons, e]
theorem kU (k : κ) : ∀ kvs : List (κ × V), (kvs.any fun kv => decide (kv.1 = k)) = (dj kvs k).isSome
 | [] => rfl
 | p :: r => by
  rw [List.any_cons]
  by_cases e : p.1 = k
  ·simp only [dC e, decide_eq_true e, Bool.true_or, Option.isSome_some]
  ·rw [dH e, decide_eq_false e, Bool.false_or]; exact kU k r
theorem dv (kvs : List (κ × V)) (k : κ) (v : V) : (bU kvs k v).length <= kvs.length + 1 := by
 unfold bU
 split
 ·rw [List.length_map]; omega
 ·rw [List.length_append, List.length_cons, List.length_nil]; omega
theorem ga.isSome_eq {o : Option V} {u : Option Value} (r : ga o u) : o.isSome = u.isSome := by
 cases o with
 | none => cases u with
  | none => rfl
  | some _ => exact (show False from r).elim
 | some _ => cases u with
  | none => exact (show False from r).elim
  | some _ => rfl
theorem ga.getD {o : Option V} {u : Option Value} {d : V} {d' : Value} (r : ga o u) (rd : aJ d d') : aJ (o.getD d) (u.getD d') := by
 cases o with
 | none => cases u with
  | none => exact rd
  | some _ => exact (show False from r).elim
 | some _ => cases u with
  | none => exact (show False from r).elim
  | some _ => exact r
theorem KV.val {kvs : List (κ × V)} {vs : List (κ × Value)} (r : KV kvs vs) (k : κ) : ga (dj kvs k) (valueAt vs k) := by
 unfold KV at r
 induction r with
 | nil => exact True.intro
 | @cons p q ps qs h t ih =>
  obtain ⟨h1, h2⟩ := h
  by_cases e : p.1 = k
  ·have e' : q.1 = k := h1.symm.trans e
   have b : valueAt (q :: qs) k = some q.2 := by simp [valueAt, List.find?_cons, e']
   rw [dC e, b]; exact h2
  ·have e' : ¬ q.1 = k := fun z => e (h1.trans z)
   have b : valueAt (q :: qs) k = valueAt qs k := by simp [valueAt, List.find?_cons, e']
   rw [dH e, b]; exact ih
theorem KV.any {kvs : List (κ × V)} {vs : List (κ × Value)} (r : KV kvs vs) (k : κ) : (kvs.any fun kv => decide (kv.1 = k)) = vs.any fun kv => decide (kv.1 = k) := by
 unfold KV at r
 induction r with
 | nil => rfl
 | cons h t ih => rw [List.any_cons, List.any_cons, ih, h.1]
theorem KV.repl {kvs : List (κ × V)} {vs : List (κ × Value)} (r : KV kvs vs) (k : κ) {y : V} {u : Value} (ry : aJ y u) :
  KV (kvs.map fun kv => if kv.1 = k then (kv.1, y) else kv) (vs.map fun kv => if kv.1 = k then (kv.1, u) else kv) := by
 unfold KV at r ⊢
 induction r with
 | nil => exact .nil
 | @cons p q ps qs h t ih =>
  rw [List.map_cons, List.map_cons]
  refine .cons ?_ ih
  obtain ⟨h1, h2⟩ := h
  by_cases e : p.1 = k
  ·rw [if_pos e, if_pos (h1.symm.trans e)]; exact ⟨h1, ry⟩
  ·rw [if_neg e, if_neg (fun z => e (h1.trans z))]; exact ⟨h1, h2⟩
theorem KV.put {kvs : List (κ × V)} {vs : List (κ × Value)} (r : KV kvs vs) (k : κ) {y : V} {u : Value} (ry : aJ y u) : KV (bU kvs k y) (stored vs k u) := by
 unfold bU stored
 rw [r.any k]
 by_cases e : (vs.any fun kv => decide (kv.1 = k)) = true
 ·rw [if_pos e, if_pos e]; exact r.repl k ry
 ·rw [if_neg e, if_neg e]; exact Paired.snoc r ⟨rfl, ry⟩
theorem KV.keys {kvs : List (κ × V)} {vs : List (κ × Value)} (r : KV kvs vs) : kvs.map (·.1) = vs.map (·.1) := by
 unfold KV at r
 induction r with
 | nil => rfl
 | cons h t ih => rw [List.map_cons, List.map_cons, ih, h.1]
theorem KV.length {kvs : List (κ × V)} {vs : List (κ × Value)} (r : KV kvs vs) : kvs.length = vs.length := Paired.length r
end
theorem oJ {P : Program} {w : World} {k : Key} {u : Value} (r : aJ (kV k) u) : (am P w).is k u = true := by
 cases k with
 | inl i => obtain ⟨t, e⟩ := (show ∃ t, u = Value.int i t from r); subst e; exact kZ P w i t
 | inr x => obtain ⟨t, e⟩ := (show ∃ t, u = Value.str x t from r); subst e; exact kM P w x t
theorem iH {P : Program} {w : World} : ∀ {ks : List Key} {us : List Value}, aG (ks.map kV) us -> ItemsAre (am P w) ks us
 | [], _, r => by rw [List.map_nil] at r; cases r; exact .nil
 | k :: ks, _, r => by
  rw [List.map_cons] at r
  cases r with
  | cons h t => exact .cons (oJ h) (iH t)
abbrev KT (H : Hp) : List (List Key × V) -> List (List Key × Addr × Value) -> Prop := Paired fun p q => p.1 = q.1 /\ H q.2.1 = some (.tup (p.1.map kV)) /\ aJ p.2 q.2.2
theorem KT.val {H : Hp} {kvs : List (List Key × V)} {xs : List (List Key × Addr × Value)} (r : KT H kvs xs) (k : List Key) : ga (dj kvs k) ((atKey xs k).map (·.2)) := by
 induction r with
 | nil => exact True.intro
 | @cons p q ps qs h t ih =>
  obtain ⟨h1, _, h2⟩ := h
  by_cases e : p.1 = k
  ·have e' : q.1 = k := h1.symm.trans e
   have b : atKey (q :: qs) k = some q.2 := by simp [atKey, List.find?_cons, e']
   rw [dC e, b]; exact h2
  ·have e' : ¬ q.1 = k := fun z => e (h1.trans z)
   have b : atKey (q :: qs) k = atKey qs k := by simp [atKey, List.find?_cons, e']
   rw [dH e, b]; exact ih
theorem KT.repl {H : Hp} {kvs : List (List Key × V)} {xs : List (List Key × Addr × Value)} (r : KT H kvs xs) (k : List Key) {y : V} {u : Value} (ry : aJ y u) :
  KT H (kvs.map fun kv => if kv.1 = k then (kv.1, y) else kv) (xs.map (putAt k u)) := by
 induction r with
 | nil => exact .nil
 | @cons p q ps qs h t ih =>
  rw [List.map_cons, List.map_cons]
  refine .cons ?_ ih
  obtain ⟨h1, h2, h3⟩ := h
  unfold putAt
  by_cases e : p.1 = k
  ·rw [if_pos e, if_pos (h1.symm.trans e)]; exact ⟨h1, h2, ry⟩
  ·rw [if_neg e, if_neg (fun z => e (h1.trans z))]; exact ⟨h1, h2, h3⟩
theorem KT.put {H : Hp} {kvs : List (List Key × V)} {xs : List (List Key × Addr × Value)} (r : KT H kvs xs) (k : List Key) {b : Addr} {y : V} {u : Value} (hb : H b = some (.tup (k.map kV))) (ry : aJ y u) :
  KT H (bU kvs k y) (storedH xs k b u) := by
 have e : (kvs.any fun kv => decide (kv.1 = k)) = (atKey xs k).isSome := by
  rw [kU, (r.val k).isSome_eq, Option.isSome_map]
 unfold bU storedH
 rw [e]
 by_cases q : (atKey xs k).isSome = true
 ·rw [if_pos q, if_pos q]; exact r.repl k ry
 ·rw [if_neg q, if_neg q]; exact Paired.snoc r ⟨rfl, hb, ry⟩
theorem KT.keeps {H H' : Hp} {kvs : List (List Key × V)} {xs : List (List Key × Addr × Value)} (r : KT H kvs xs) (ht : ∀ b ys, H b = some (.tup ys) -> H' b = some (.tup ys)) : KT H' kvs xs :=
 Paired.mapP r fun _ _ z => ⟨z.1, ht _ _ z.2.1, z.2.2⟩
section
variable {P : Program} {w : World} {H : Hp} {h : Heap} {a : Addr}
theorem tS {u : HO} (ok : HOk P w H h) (e : Rd H a u) : aF P w H h a u := e.ok ok
theorem iJ {kvs : List (Key × V)} (ok : HOk P w H h) (e : Rd H a (.dK kvs)) : kvs.length <= sizeLine /\ (a == sysModules) = false /\ ∃ vs, KV kvs vs /\ h.DictOf (am P w) a vs :=
 show aF P w H h a (.dK kvs) from tS ok e
theorem nG {kvs : List (Key × V)} (ok : HOk P w H h) (e : H a = some (.dK kvs)) : kvs.length <= sizeLine /\ (a == sysModules) = false /\ ∃ vs, KV kvs vs /\ h.DictOf (am P w) a vs := iJ ok (.inl e)
theorem hV {ks : List Key} (ok : HOk P w H h) (e : H a = some (.tup (ks.map kV))) : (tupleKind (am P w)).is h ks a := by
 obtain ⟨_, its, r, ⟨o, h1, h2, n, h3⟩, _⟩ := (show aF P w H h a (.tup (ks.map kV)) from ok a _ e)
 exact ⟨o, its.toArray, n, h1, h2, h3, by simpa using iH r⟩
theorem rp {kvs : List (List Key × V)} (ok : HOk P w H h) (e : Rd H a (.dT kvs)) : kvs.length <= sizeLine /\ (a == sysModules) = false /\
  ∃ xs, KT H kvs xs /\ h.DictOfH (tupleKind (am P w)) a xs := by
 obtain ⟨z, y, xs, r, o, es, ep, h1, h2, h3, h4, h5⟩ := (show aF P w H h a (.dT kvs) from tS ok e)
 refine ⟨z, y, xs, r, o, es, ep, h1, h2, h3, h4, fun x hx => ?_, h5⟩
 have all : ∀ {l : List (List Key × V)} {m : List (List Key × Addr × Value)}, KT H l m -> ∀ x ∈ m, (tupleKind (am P w)).is h x.1 x.2.1 := by
  intro l m q
  induction q with
  | nil => intro x hx; exact nomatch hx
  | @cons p q ps qs hq t ih =>
   intro x hx
   rcases List.mem_cons.mp hx with e | hx
   ·subst e
    exact hV ok (by rw [<- hq.1]; exact hq.2.1)
   ·exact ih x hx
 exact all r x hx
theorem wF {kvs : List (List Key × V)} (ok : HOk P w H h) (e : H a = some (.dT kvs)) : kvs.length <= sizeLine /\ (a == sysModules) = false /\
  ∃ xs, KT H kvs xs /\ h.DictOfH (tupleKind (am P w)) a xs := rp ok (.inl e)
end
def mI (H : Hp) (a : Addr) (y : V) (r : Option V) : Prop :=
 (∃ kvs k, Rd H a (.dK kvs) /\ y = kV k /\ r = dj kvs k) \/ ∃ kvs k b, Rd H a (.dT kvs) /\ y = .ref b /\ H b = some (.tup (k.map kV)) /\ r = dj kvs k
def iY (H : Hp) (a : Addr) (y v : V) (H' : Hp) : Prop :=
 (∃ kvs k, H a = some (.dK kvs) /\ y = kV k /\ kvs.length < sizeLine /\ H' = upd H a (.dK (bU kvs k v))) \/
 ∃ kvs k b, H a = some (.dT kvs) /\ y = .ref b /\ H b = some (.tup (k.map kV)) /\ kvs.length < sizeLine /\ H' = upd H a (.dT (bU kvs k v))
theorem mI.k {H : Hp} {a : Addr} {kvs : List (Key × V)} {k : Key} (e : H a = some (.dK kvs)) : mI H a (kV k) (dj kvs k) := .inl ⟨kvs, k, .inl e, rfl, rfl⟩
theorem iY.k {H : Hp} {a : Addr} {kvs : List (Key × V)} {k : Key} {v : V} (e : H a = some (.dK kvs)) (hl : kvs.length < sizeLine) : iY H a (kV k) v (upd H a (.dK (bU kvs k v))) := .inl ⟨kvs, k, e, rfl, hl, rfl⟩
section
variable {X : Cx} {pins : List (Addr × Obj)} {σ : St} {H : Hp} {s : Shared} {a : Addr} {y v : V} {u r : Value} {o : Option V} {A : Around} {E : Value -> Shared -> Prop}
theorem Inv.big (I : Inv X pins σ H s) : sysModules < s.heap.objs.size := by
 have h : mainGlobals < s.heap.objs.size := (I.mod.glob.keeps I.bk).lt
 exact Nat.lt_trans (by decide) h
theorem dQ {h' : Heap} {t' : Nat} {ob : HO} (I : Inv X pins σ H s) (mu : Mut (H a)) (hs : Heap.SameBut a s.heap h') (he : ∃ q, h'.get? a = some q) (new : aF X.prog X.w (upd H a ob) h' a ob) :
  Inv X pins σ (upd H a ob) { s with heap := h', toks := t' } :=
 I.write (x := a) (e := a) mu (.inl rfl) (fun b q hb z => (hs.2 b hb).trans z) he new
theorem mj {P : Program} {w : World} {H' : Hp} {h' : Heap} {kvs : List (Key × V)} {vs : List (Key × Value)} (z : kvs.length <= sizeLine) (hd : (a == sysModules) = false) (rel : KV kvs vs) (dd : h'.DictOf (am P w) a vs) :
  aF P w H' h' a (.dK kvs) := ⟨z, hd, vs, rel, dd⟩
theorem pd {H' : Hp} {Q : Unit -> Shared -> Prop} (hu : A.units + 1 < cLine) (I : Inv X pins σ H s) (g : iY H a y v H') (ry : aJ y u) (rv : aJ v r) (h : ∀ s', Inv X pins σ H' s' -> Q () s') :
  wpAny (model X.prog X.w) A (setItem (.ref a) u r) Q E s := by
 rcases g with ⟨kvs, k, e, ey, l, eH⟩ | ⟨kvs, k, b, e, ey, eb, l, eH⟩
 ·subst ey eH
  obtain ⟨z, hd, vs, rel, dd⟩ := nG I.hok e
  have hz : vs.length <= sizeLine := by rw [<- rel.length]; exact z
  have hl : (bU kvs k v).length <= sizeLine := by have := dv kvs k v; omega
  refine wpAny_setItem_pairs (hsz := hz) (oJ ry) dd fun h' dd' hs => h _ ?_
  have he : ∃ q, h'.get? a = some q := let ⟨q, _, _, hq, _⟩ := dd'; ⟨q, hq⟩
  exact dQ I (by rw [e]; exact True.intro) hs he (mj hl hd (rel.put k rv) dd')
 ·subst ey eH
  cases (show u = Value.ref b from ry)
  obtain ⟨z, hd, xs, rel, dd⟩ := wF I.hok e
  have hz : xs.length <= sizeLine := by rw [<- Paired.length rel]; exact z
  have hl : (bU kvs k v).length <= sizeLine := by have := dv kvs k v; omega
  refine wpAny_setItem_heap (hsz := hz) (tupleKind_room_in1 hu) (hV I.hok eb) dd fun h' dd' hs => h _ ?_
  obtain ⟨q, es, ep, hq, h2, h3, h4, _, h5⟩ := dd'
  refine dQ I (by rw [e]; exact True.intro) hs ⟨q, hq⟩ ⟨hl, hd, _, (rel.put k eb rv).keeps fun c ys ec => ?_, q, es, ep, hq, h2, h3, h4, h5⟩
  rw [ap (on ec e (fun z => nomatch z))]
  exact ec
end
section
variable {X : Cx} {pins : List (Addr × Obj)} {σ : St} {H : Hp} {s : Shared} {a : Addr} {kvs : List (Key × V)} {k : Key} {u : Value} {A : Around} {E : Value -> Shared -> Prop}
end
def vP (i : Expr) : Prop := ∀ ov iv, subscripted i false ov iv = operate [ov, iv] (getItem ov iv)
theorem sU {prog : Program} {w : World} {A : Around} {E : Value -> Shared -> Prop} {s : Shared} {env : Env} {value slice : Expr} {pos : Pos} {T id : String} {Q : Value -> Shared -> Prop}
  (hl : typeLookup (.type T) "__getitem__" = pure (some (.builtin id))) (hs : vP slice)
  (h : wpAny (model prog w) A (eval value env) (fun o s₁ => wpAny (model prog w) A (eval slice env) (fun i s₂ => s₂.TypeIs o T /\ wpAny (model prog w) A (getItem o i) Q E s₂) E s₁) E s) :
  wpAny (model prog w) A (eval (.Subscript value slice pos) env) Q E s := by
 refine Subscript_ (wpAny_mono h (fun o s₁ h₁ => wpAny_mono h₁ (fun i s₂ h₂ => ?_) fun _ _ x => x) fun _ _ x => x)
 obtain ⟨hT, h₂⟩ := h₂
 unfold subscriptTail
 refine wpAny_bind ?_
 rw [getitemInPython_of_ne hT.not_modules]
 refine wpAny_bind (wpAny_specialOf hT hl ?_)
 have fin : wpAny (model prog w) A (subscripted slice false o i) (fun r s₃ => wpAny (model prog w) A (letTemporaryGo value o r >>= fun _ => pure r) Q E s₃) E s₂ := by
  rw [hs o i]
  exact wpAny_operating (wpAny_mono h₂ (fun r s₃ h₃ => wpAny_bind (wpAny_letTemporaryGo (wpAny_pure h₃))) fun _ _ x => x)
 first
  | exact wpAny_pure (wpAny_bind fin)
  | exact wpAny_bind (wpAny_pure (wpAny_bind fin))
  | exact wpAny_bind fin
def we (td ty tv : TE) : TS := fun D σ H => tv σ H fun v H1 => td σ H1 fun x H2 => ty σ H2 fun y H3 => ∃ a H4, x = .ref a /\ iY H3 a y v H4 /\ D.nx σ H4
section
variable {X : Cx} {o i e value : Expr} {pos pos' tpos : Pos} {td ty tv : TE}
theorem fi (hu : X.A.units + 1 < cLine) (ho : PE X o td) (hi : PE X i ty) (hv : PE X value tv) (hs : swapsWith value (some (.Subscript o i pos')) pos.line X.env = pure false) :
  PS X (.Assign [.Subscript o i pos'] value pos) (we td ty tv) := by
 intro pins s σ H D I h
 refine wpAny_Assign_Subscript (thn (hv pins s σ H _ I h) fun r s1 ⟨v, H1, I1, rv, q1⟩ => thn (ho pins s1 σ H1 _ I1 q1) fun u s2 ⟨x, H2, I2, rx, q2⟩ => thn (hi pins s2 σ H2 _ I2 q2) fun iv s3 ⟨y, H3, I3, ry, a, H4, ex, g, q3⟩ => ?_) hs
 subst ex
 obtain rfl : u = Value.ref a := rx
 exact pd hu I3 g ry rv fun s4 I4 => ⟨σ, H4, I4, q3⟩
end
theorem kT {P : Program} {w : World} {H : Hp} (h : Heap) (hb : sysModules < h.objs.size) : aF P w H (h.push { cls := .type "dict", data := .dict #[] }) h.objs.size (.dK []) :=
 ⟨Nat.zero_le _, beq_eq_false_iff_ne.mpr (Ne.symm (Nat.ne_of_lt hb)), [], .nil, Heap.DictOf.new h⟩
def uo : TE := fun _ H Q => ∀ p, H p = none -> Q (.ref p) (upd H p (.dK []))
section
variable {X : Cx} {pos : Pos}
theorem gR : PE X (.Dict [] [] pos) uo := fun pins s σ H Q I h =>
 wpAny_Dict_empty ⟨.ref s.heap.objs.size, _, I.laid (a := s.heap.objs.size) (o := .dK []) (t' := s.toks) (fun _ _ q => Heap.get?_push_of_some _ q) (Nat.le_refl _) (kT s.heap I.big), rfl, h _ (I.hok.fresh (Nat.le_refl _))⟩
end
def jB : List (TE × TE) -> St -> Hp -> (List (V × V) -> Hp -> Prop) -> Prop
 | [], _, H, Q => Q [] H
 | (tk, tv) :: r, σ, H, Q => tk σ H fun x H1 => tv σ H1 fun y H2 => jB r σ H2 fun ps H3 => Q ((x, y) :: ps) H3
abbrev VV : List (V × V) -> List (Value × Value) -> Prop := Paired fun p q => aJ p.1 q.1 /\ aJ p.2 q.2
def PPs (X : Cx) (pos : Pos) (keys : List (Option Expr)) (values : List Expr) (trs : List (TE × TE)) : Prop :=
 ∀ (pins : List (Addr × Obj)) (s : Shared) (σ : St) (H : Hp) (Q : List (V × V) -> Hp -> Prop), Inv X pins σ H s -> jB trs σ H Q ->
  wpAny (model X.prog X.w) X.A (evalPairs (pairTrees keys values X.env pos)) (fun vs s' => ∃ ps H', Inv X pins σ H' s' /\ VV ps vs /\ Q ps H') X.xe s
theorem nA {X : Cx} {pos : Pos} : PPs X pos [] [] [] := fun pins s σ H Q I h => pairTrees_nil_walk ⟨[], H, I, .nil, h⟩
theorem kG {X : Cx} {pos : Pos} {k v : Expr} {ks : List (Option Expr)} {vs : List Expr} {tk tv : TE} {trs : List (TE × TE)} (hk : PE X k tk) (hv : PE X v tv) (hr : PPs X pos ks vs trs) :
  PPs X pos (some k :: ks) (v :: vs) ((tk, tv) :: trs) := fun pins s σ H Q I h =>
 pairTrees_cons_walk (thn (hk pins s σ H _ I h) fun u s1 ⟨x, H1, I1, rx, q1⟩ => thn (hv pins s1 σ H1 _ I1 q1) fun w2 s2 ⟨y, H2, I2, ry, q2⟩ =>
  thn (hr pins s2 σ H2 _ I2 q2) fun ws s3 ⟨ps, H3, I3, rel, q3⟩ => ⟨(x, y) :: ps, H3, I3, .cons ⟨rx, ry⟩ rel, q3⟩)
def fT (kvs more : List (Key × V)) : List (Key × V) := more.foldl (fun acc kv => bU acc kv.1 kv.2) kvs
theorem KV.merge : ∀ {more : List (Key × V)} {rs : List (Key × Value)} {kvs : List (Key × V)} {vs : List (Key × Value)}, KV more rs -> KV kvs vs -> KV (fT kvs more) (merged vs rs) := by
 intro more rs kvs vs r
 unfold KV at r
 induction r generalizing kvs vs with
 | nil => intro q; exact q
 | @cons p q ps qs h t ih =>
  intro r0
  have e : KV (bU kvs p.1 p.2) (stored vs q.1 q.2) := by
   have := r0.put p.1 h.2
   rw [<- h.1]; exact this
  exact ih e
theorem eu : ∀ (more kvs : List (Key × V)), (fT kvs more).length <= kvs.length + more.length
 | [], kvs => by show kvs.length <= kvs.length + 0; omega
 | p :: r, kvs => by
  have h1 := eu r (bU kvs p.1 p.2)
  have h2 := dv kvs p.1 p.2
  show (fT (bU kvs p.1 p.2) r).length <= _
  rw [List.length_cons]; omega
theorem gq {P : Program} {w : World} : ∀ {kvs : List (Key × V)} {ws : List (Value × Value)}, VV (kvs.map fun kv => (kV kv.1, kv.2)) ws -> ∃ rs, Carries (am P w) ws rs /\ KV kvs rs
 | [], _, r => by rw [List.map_nil] at r; cases r; exact ⟨[], True.intro, .nil⟩
 | p :: kvs, _, r => by
  rw [List.map_cons] at r
  cases r with
  | @cons a b as bs h t =>
   obtain ⟨rs, c, q⟩ := gq (P := P) (w := w) t
   obtain ⟨b1, b2⟩ := b
   exact ⟨(p.1, b2) :: rs, ⟨oJ h.1, rfl, c⟩, .cons ⟨rfl, h.2⟩ q⟩
def wK (trs : List (TE × TE)) : TE := fun σ H Q => ∀ p, H p = none -> jB trs σ (upd H p (.dK [])) fun ps H2 => H2 p = some (.dK []) /\ ∃ kvs : List (Key × V), ps = kvs.map (fun kv => (kV kv.1, kv.2)) /\ kvs.length <= 15 /\ Q (.ref p) (upd H2 p (.dK (fT [] kvs)))
theorem rY {X : Cx} {pos : Pos} {keys : List (Option Expr)} {values : List Expr} {trs : List (TE × TE)} (h : PPs X pos keys values trs) (hall : keys.all (·.isSome) = true) (hl : keys.length = values.length) (h0 : keys ≠ [])
  (h15 : keys.length <= 15) : PE X (.Dict keys values pos) (wK trs) := by
 intro pins s σ H Q I q
 have hn := I.hok.fresh (Nat.le_refl s.heap.objs.size)
 have I1 := I.laid (a := s.heap.objs.size) (o := .dK []) (h' := s.heap.push { cls := .type "dict", data := .dict #[] }) (t' := s.toks) (fun _ _ q => Heap.get?_push_of_some _ q) (Nat.le_refl _) (kT s.heap I.big)
 refine wpAny_Dict_walk (knd := am X.prog X.w) hall hl h0 h15 (thn (h pins _ σ _ _ I1 (q _ hn)) fun ws s2 ⟨ps, H2, I2, rel, e, kvs, ep, lk, q2⟩ => ?_)
 subst ep
 obtain ⟨rs, c, rk⟩ := gq (P := X.prog) (w := X.w) rel
 obtain ⟨z, hd, vs0, r0, dd⟩ := nG I2.hok e
 cases r0
 refine ⟨rs, c, dd, fun h' dd' hs => ⟨.ref s.heap.objs.size, _, ?_, rfl, q2⟩⟩
 have hz : (fT [] kvs).length <= sizeLine := by
  have h1 := eu kvs []
  rw [List.length_nil] at h1
  rw [sizeLine_eq]; omega
 have he : ∃ q, h'.get? s.heap.objs.size = some q := let ⟨q, _, _, hq, _⟩ := dd'; ⟨q, hq⟩
 exact dQ I2 (by rw [e]; exact True.intro) hs he (mj hz hd (rk.merge .nil) dd')
structure M1 (X : Cx) (o : Expr) (m : Str) (apos : Pos) (e : Expr) (cpos : Pos) : Prop where
 base : attributeBase o m X.env (eval o X.env) = eval o X.env
 few : ((backTo cpos (starEach [e] X.env)).all (fun x => !x.1) && (backToKw cpos (keywordEach [] X.env)).all (fun x => x.1.isSome)
  && decide (([e] : List Expr).length + ([] : List Keyword).length + (if ([] : List Keyword).isEmpty then 0 else 1) < 30)) = true
 line : (apos.endLine == cpos.line) = true
 trees : backTo cpos (starEach [e] X.env) = [(false, eval e X.env)]
structure M2 (X : Cx) (o : Expr) (m : Str) (apos : Pos) (e f : Expr) (cpos : Pos) : Prop where
 base : attributeBase o m X.env (eval o X.env) = eval o X.env
 few : ((backTo cpos (starEach [e, f] X.env)).all (fun x => !x.1) && (backToKw cpos (keywordEach [] X.env)).all (fun x => x.1.isSome)
  && decide (([e, f] : List Expr).length + ([] : List Keyword).length + (if ([] : List Keyword).isEmpty then 0 else 1) < 30)) = true
 line : (apos.endLine == cpos.line) = true
 trees : backTo cpos (starEach [e, f] X.env) = [(false, eval e X.env), (false, eval f X.env)]
def IsD (H : Hp) (a : Addr) : Prop := (∃ kvs, Rd H a (.dK kvs)) \/ ∃ kvs, Rd H a (.dT kvs)
theorem uI {X : Cx} {pins : List (Addr × Obj)} {σ : St} {H : Hp} {s : Shared} {a : Addr} (I : Inv X pins σ H s) (d : IsD H a) :
  s.TypeIs (.ref a) "dict" /\ (∀ b, Value.ref a = .ref b -> ∃ ob, s.heap.get? b = some ob /\ ob.dict = none) /\ (a == sysModules) = false := by
 rcases d with ⟨kvs, e⟩ | ⟨kvs, e⟩
 ·obtain ⟨_, hd, vs, _, dd⟩ := iJ I.hok e
  refine ⟨dd.typeIs, fun b q => ?_, hd⟩
  cases q
  obtain ⟨ob, _, _, h1, h2, _⟩ := dd
  exact ⟨ob, h1, h2.2.1⟩
 ·obtain ⟨_, hd, xs, _, dd⟩ := rp I.hok e
  refine ⟨dd.typeIs, fun b q => ?_, hd⟩
  cases q
  obtain ⟨ob, _, _, h1, h2, _⟩ := dd
  exact ⟨ob, h1, h2.2.1⟩
section
variable {X : Cx} {pins : List (Addr × Obj)} {σ : St} {H : Hp} {s : Shared} {a : Addr} {y d : V} {u r : Value} {o : Option V} {A : Around} {E : Value -> Shared -> Prop}
theorem vA {Q : Value -> Shared -> Prop} (hu : A.units + 1 < cLine) (I : Inv X pins σ H s) (g : mI H a y o) (ry : aJ y u) (rd : aJ d r) (h : ∀ w' s', Inv X pins σ H s' -> aJ (o.getD d) w' -> Q w' s') :
  wpAny (model X.prog X.w) A (call (.builtin "dict.get") [.ref a, u, r]) Q E s := by
 rcases g with ⟨kvs, k, e, ey, l⟩ | ⟨kvs, k, b, e, ey, eb, l⟩
 ·subst ey
  obtain ⟨z, hd, vs, rel, dd⟩ := iJ I.hok e
  refine call_meetsIn PySem.F.slot_dict_get dd.typeIs PySem.F.entry_dict_get (PySem.F.args_dict_get_3 _ _ _) (meets_dict_get_default (am X.prog X.w) a (oJ ry) hd r) ⟨_, dd.mapOf, h _ _ (I.tok _) ?_⟩
  rw [l]
  exact (rel.val k).getD rd
 ·subst ey
  cases (show u = Value.ref b from ry)
  obtain ⟨z, hd, xs, rel, dd⟩ := rp I.hok e
  refine call_meetsIn PySem.F.slot_dict_get dd.typeIs PySem.F.entry_dict_get (PySem.F.args_dict_get_3 _ _ _) (meetsH_dict_get_default (tupleKind (am X.prog X.w)) a b hd r) ⟨tupleKind_room_in1 hu, k, xs, hV I.hok eb, dd, h _ _ (I.tok _) ?_⟩
  rw [l]
  exact (rel.val k).getD rd
end
def vm (td ty tx : TE) : TE := fun σ H Q => td σ H fun x H1 => ∃ a, x = .ref a /\ IsD H1 a /\ ty σ H1 fun y H2 => tx σ H2 fun z H3 => ∃ o, mI H3 a y o /\ Q (o.getD z) H3
section
variable {X : Cx} {o e f : Expr} {apos cpos : Pos} {td ty tx : TE}
theorem gJ (hu : X.A.units + 1 < cLine) (ho : PE X o td) (he : PE X e ty) (hf : PE X f tx) (m : M2 X o "get" apos e f cpos) : PE X (.Call (.Attribute o "get" apos) [e, f] [] cpos) (vm td ty tx) := by
 intro pins s σ H Q I h
 refine wpAny_Call_method m.base m.few m.line PySem.F.plainAttrs_dict PySem.F.slot_dict_get PySem.F.type_dict_get (thn (ho pins s σ H _ I h) fun u s1 ⟨x, H1, I1, rx, a, ex, d, q1⟩ => ?_)
 subst ex
 obtain rfl : u = Value.ref a := rx
 obtain ⟨t1, t2, _⟩ := uI I1 d
 refine ⟨t1, t2, ?_⟩
 rw [m.trees]
 refine Calls.callWith_builtin rfl (Calls.evalArgs_plain (Calls.spliced_cons (thn (he pins s1 σ H1 _ I1 q1) fun iv s2 ⟨y, H2, I2, ry, q2⟩ =>
  Calls.spliced_cons (thn (hf pins s2 σ H2 _ I2 q2) fun fv s3 ⟨z, H3, I3, rz, ov, g, q3⟩ => Calls.spliced_nil ?_))))
 exact vA hu I3 g ry rz fun w' s4 I4 rw' => ⟨_, H3, I4, rw', q3⟩
end
section
variable {X : Cx} {pins : List (Addr × Obj)} {σ : St} {H : Hp} {s : Shared} {a : Addr} {kvs : List (Key × V)} {A : Around} {E : Value -> Shared -> Prop}
end
section
variable {X : Cx} {pins : List (Addr × Obj)} {σ : St} {H : Hp} {s : Shared} {a : Addr} {y : V} {u : Value} {A : Around} {E : Value -> Shared -> Prop}
end
end L2
namespace HT
open PySem PyProof.Rows
section
open PySem.SeqAt
open PySem.AutoSeq1 (wpAny_loadPart')
open PySem.MeetsSeq PySem.MeetsSeq2 PySem.MeetsSeq3
end
section
variable {prog : Program} {w : World} {A : Around} {E : Value -> Shared -> Prop} {s : Shared}
theorem cat_tup {t b : Addr} {vs ws : List Value} {Q : Value -> Shared -> Prop} (ht : IsTup s.heap t vs.toArray) (hb : IsTup s.heap b ws.toArray) (hv : vs ≠ [])
  (h1 : ws = [] -> Q (.ref t) s) (h2 : ws ≠ [] -> Q (.ref s.heap.objs.size) { s with heap := s.heap.push { cls := .type "tuple", data := .seq (vs ++ ws).toArray } })
  (hsz : vs.length + ws.length <= sizeLine) : wpAny (model prog w) A (binaryOp .Add (.ref t) (.ref b)) Q E s := by
 obtain ⟨⟨cls, dd, data, sl⟩, ho, hc, n, hd⟩ := id ht
 obtain ⟨⟨cls2, dd2, data2, sl2⟩, ho2, hc2, n2, hd2⟩ := id hb
 simp only at hc hd hc2 hd2
 subst hc hd hc2 hd2
 have e : vs.toArray ++ ws.toArray = (vs ++ ws).toArray := by simp
 by_cases hw : ws = []
 ·exact concat_meets ⟨_, ho, rfl⟩ ⟨_, ho2, rfl⟩ noFill_tuple_add seq_tuple_add PySem.F.slot_tuple_add PySem.F.entry_tuple_add (PySem.F.args_tuple_add_2 _ _)
   (tuple_addW1 t b vs.toArray ws.toArray n n2 dd dd2 sl sl2 (by simpa using hv) (by simp [hw])) ⟨ho, ho2, h1 hw⟩
 ·refine concat_meets ⟨_, ho, rfl⟩ ⟨_, ho2, rfl⟩ noFill_tuple_add seq_tuple_add PySem.F.slot_tuple_add PySem.F.entry_tuple_add (PySem.F.args_tuple_add_2 _ _)
   (tuple_addW2 t b vs.toArray ws.toArray n n2 dd dd2 sl sl2 (by simpa using hv) (by simpa using hw) (by rw [List.size_toArray, List.size_toArray]; exact hsz)) ⟨ho, ho2, ?_⟩
  rw [e]
  exact h2 hw
end
end HT
namespace L2
open PySem PySem.Spec PyProof.Rows
abbrev TO := St -> Hp -> (Option Int -> Hp -> Prop) -> Prop
def PO (X : Cx) (e : Option Expr) (t : TO) : Prop :=
 ∀ (pins : List (Addr × Obj)) (s : Shared) (σ : St) (H : Hp) (Q : Option Int -> Hp -> Prop), Inv X pins σ H s -> t σ H Q ->
  wpAny (model X.prog X.w) X.A (evalPart e X.env) (fun u s' => ∃ o H', Inv X pins σ H' s' /\ IsPart u o /\ Q o H') X.xe s
def rW : TO := fun _ H Q => Q none H
def vN (t : TE) : TO := fun σ H Q => t σ H fun x H1 => ∃ i, x = .int i /\ Q (some i) H1
section
variable {X : Cx} {e : Expr} {te : TE} {lo hi : Option Expr} {tl th : TO} {pos p2 : Pos}
theorem gd : PO X none rW := by
 intro pins s σ H Q I h
 rw [evalPart_none]
 exact wpAny_pure ⟨none, H, I, .none, h⟩
theorem gl (h : PE X e te) : PO X (some e) (vN te) := by
 intro pins s σ H Q I hw
 rw [evalPart_some]
 refine thn (h pins s σ H _ I hw) fun u s1 ⟨x, H1, I1, r1, q1⟩ => ?_
 obtain ⟨i, rfl, q⟩ := q1
 obtain ⟨t, rfl⟩ := r1
 exact ⟨some i, H1, I1, .int i t, q⟩
def SlR (X : Cx) (r : V -> Option Int -> Option Int -> Hp -> VK -> Prop) : Prop :=
 ∀ (pins : List (Addr × Obj)) (s : Shared) (σ : St) (H : Hp) (x : V) (v vl vu : Value) (lo hi : Option Int) (sl : Addr) (Q : VK), Inv X pins σ H s -> aJ x v -> s.heap.IsSliceOf sl vl vu .none -> IsPart vl lo -> IsPart vu hi -> r x lo hi H Q ->
  ∃ T id, typeLookup (.type T) "__getitem__" = pure (some (.builtin id)) /\ s.TypeIs v T /\ wpAny (model X.prog X.w) X.A (getItem v (.ref sl)) (EP X pins σ Q) X.xe s
def tSl (r : V -> Option Int -> Option Int -> Hp -> VK -> Prop) (te : TE) (tl th : TO) : TE := fun σ H Q => te σ H fun x H1 => tl σ H1 fun l H2 => th σ H2 fun u H3 => r x l u H3 Q
theorem fj {r : V -> Option Int -> Option Int -> Hp -> VK -> Prop} (hr : SlR X r) (he : PE X e te) (hl : PO X lo tl) (hu : PO X hi th) : PE X (.Subscript e (.Slice lo hi none p2) pos) (tSl r te tl th) := by
 intro pins s σ H Q I h
 refine Subscript_ (thn (he pins s σ H _ I h) fun v s1 ⟨x, H1, I1, r1, q1⟩ => ?_)
 refine wpAny_Slice (thn (hl pins s1 σ H1 _ I1 q1) fun vl s2 ⟨l, H2, I2, pl, q2⟩ => thn (hu pins s2 σ H2 _ I2 q2) fun vu s3 ⟨u, H3, I3, pu, q3⟩ => ?_)
 rw [evalPart_none]
 refine wpAny_pure ?_
 have I4 : Inv X pins σ H3 { s3 with heap := s3.heap.push { cls := .type "slice", data := .fields #[vl, vu, .none] } } := I3.kept (t' := s3.toks) fun b ob q => Heap.get?_push_of_some _ q
 obtain ⟨T, id, hT, ht, hg⟩ := hr pins { s3 with heap := s3.heap.push { cls := .type "slice", data := .fields #[vl, vu, .none] } } σ H3 x v vl vu l u s3.heap.objs.size Q I4 r1 (Heap.IsSliceOf.new ..) pl pu q3
 show wpAny (model X.prog X.w) X.A (subscriptTail e (.Slice lo hi none p2) v (.ref s3.heap.objs.size)) (EP X pins σ Q) X.xe { s3 with heap := s3.heap.push { cls := .type "slice", data := .fields #[vl, vu, .none] } }
 exact tail_any (ops := [.ref s3.heap.objs.size, v]) ht hT hg (by with_unfolding_all rfl)
def vM (K : PySem.W.Frag) : R2 := fun x y H Q => ∃ a b xs ys, x = .ref a /\ y = .ref b /\ SqT K H a xs /\ SqT K H b ys /\ xs ≠ [] /\ xs.length + ys.length <= sizeLine /\
 (ys = [] -> Q (.ref a) H) /\ (ys ≠ [] -> ∀ p, H p = none -> Q (.ref p) (upd H p (.tup (xs ++ ys))))
theorem aG.nil_iff {xs : List V} {us : List Value} (r : aG xs us) : us = [] ↔ xs = [] := by
 cases r with
 | nil => simp
 | cons _ _ => simp
theorem tO : OpR X (binaryOp .Add) (vM X.K) := by
 intro pins s σ H x y v u Q I rx ry h
 obtain ⟨a, b, xs, ys, rfl, rfl, ha, hb, hx, hz, q1, q2⟩ := h
 cases rx
 cases ry
 obtain ⟨its, r1, p1, _⟩ := I.tuple ha
 obtain ⟨its2, r2, p2, _⟩ := I.tuple hb
 refine HT.cat_tup p1 p2 (fun z => hx (r1.nil_iff.mp z)) (fun z => ⟨.ref a, H, I, rfl, q1 (r2.nil_iff.mp z)⟩) (fun z => ?_) (by rw [<- r1.length, <- r2.length]; exact hz)
 refine ⟨.ref s.heap.objs.size, _, I.laid (t' := s.toks) (o := .tup (xs ++ ys)) (fun b ob q => Heap.get?_push_of_some _ q) (Nat.le_refl _) ?_, rfl, q2 (fun w => z (r2.nil_iff.mpr w)) _ (I.hok.fresh (Nat.le_refl _))⟩
 exact ⟨by rw [List.length_append]; exact hz, _, r1.append r2, IsTup.new _ _, NoD.new _ rfl⟩
end
def ixN (n : Nat) (i : Int) : Option Nat := if 0 <= i then (if i < n then some i.toNat else none) else if -(n : Int) <= i then some (i + n).toNat else none
def atI {α : Type} (xs : List α) (i : Int) : Option α := (ixN xs.length i).bind fun j => xs[j]?
theorem oq {n : Nat} {i : Int} {j : Nat} (h : ixN n i = some j) : seqIndex? i n = some j /\ j < n /\ -(n : Int) <= i /\ i < n := by
 unfold ixN at h
 by_cases h0 : 0 <= i
 ·rw [if_pos h0] at h
  by_cases h1 : i < n
  ·rw [if_pos h1] at h
   have e : i.toNat = j := Option.some.inj h
   exact ⟨by rw [seqIndex_of h0 h1, e], by omega, by omega, h1⟩
  ·rw [if_neg h1] at h; cases h
 ·rw [if_neg h0] at h
  by_cases h1 : -(n : Int) <= i
  ·rw [if_pos h1] at h
   have e : (i + n).toNat = j := Option.some.inj h
   exact ⟨by rw [seqIndex_neg (by omega) h1, e], by omega, h1, by omega⟩
  ·rw [if_neg h1] at h; cases h
theorem jk {α : Type} {xs : List α} {i : Int} {v : α} (h : atI xs i = some v) : ∃ j, seqIndex? i xs.length = some j /\ xs[j]? = some v /\ j < xs.length /\ -(xs.length : Int) <= i /\ i < xs.length := by
 unfold atI at h
 cases e : ixN xs.length i with
 | none => rw [e] at h; cases h
 | some j =>
  rw [e] at h
  obtain ⟨h1, h2, h3, h4⟩ := oq e
  exact ⟨j, h1, h, h2, h3, h4⟩
theorem aq {α : Type} {xs : List α} {j : Nat} {v : α} (h : xs[j]? = some v) : atI xs (j : Int) = some v := by
 have hj : j < xs.length := (List.getElem?_eq_some_iff.mp h).1
 have e : ixN xs.length (j : Int) = some j := by
  unfold ixN
  rw [if_pos (by omega), if_pos (by omega)]; simp
 unfold atI; rw [e]; exact h
def sO (b : Expr) : Prop := ∀ o i, subscripted b false o i = operate [o, i] (getItem o i)
def IxR (X : Cx) (r : R2) : Prop :=
 ∀ (value slice : Expr) (pins : List (Addr × Obj)) (s : Shared) (σ : St) (H : Hp) (x y : V) (v u : Value) (Q : VK), Inv X pins σ H s -> aJ x v -> aJ y u -> r x y H Q ->
  subscripted slice false v u = operate [v, u] (getItem v u) -> wpAny (model X.prog X.w) X.A (subscriptTail value slice v u) (EP X pins σ Q) X.xe s
def MtR (X : Cx) (id : String) (r : V -> List V -> Hp -> VK -> Prop) : Prop :=
 ∀ (pins : List (Addr × Obj)) (s : Shared) (σ : St) (H : Hp) (x : V) (xs : List V) (v : Value) (us : List Value) (Q : VK), Inv X pins σ H s -> aJ x v -> aG xs us -> r x xs H Q ->
  wpAny (model X.prog X.w) X.A (call (.builtin id) (v :: us)) (EP X pins σ Q) X.xe s
section
variable {X : Cx} {a b : Expr} {ta tb : TE} {pos : Pos}
theorem bd {r : R2} (hr : IxR X r) (ha : PE X a ta) (hb : PE X b tb) (hs : sO b) : PE X (.Subscript a b pos) (tOp r ta tb) := by
 intro pins s σ H Q I h
 exact Subscript_ (vD ha hb I h fun v u s2 x y H2 I2 rx ry q => hr a b pins s2 σ H2 x y v u Q I2 rx ry q (hs _ _))
def wD (K : PySem.W.Frag) : R2 := fun x y H Q => ∃ p xs i v, x = .ref p /\ y = .int i /\ SqL K H p xs /\ atI xs i = some v /\ Q v H
def xt (K : PySem.W.Frag) : R2 := fun x y H Q => ∃ p xs i v, x = .ref p /\ y = .int i /\ SqT K H p xs /\ atI xs i = some v /\ Q v H
def xi : R2 := fun x y H Q => ∃ z i c, x = .str z /\ y = .int i /\ z.length <= sizeLine /\ atI z.cps.toList i = some c /\ Q (.str ⟨#[c]⟩) H
theorem aN : IxR X (wD X.K) := by
 intro value slice pins s σ H x y v u Q I rx ry h hs
 obtain ⟨p, xs, i, z, rfl, rfl, hq, he, q⟩ := h
 cases rx
 obtain ⟨t, rfl⟩ := ry
 obtain ⟨its, r, pl, hz⟩ := I.list hq
 obtain ⟨j, h1, h2, h3, h4, h5⟩ := jk he
 obtain ⟨w, ew, rw'⟩ := r.get h2
 have hl := r.length
 have hn := fK
 have fin : EP X pins σ Q w s := ⟨z, H, I, rw', q⟩
 by_cases h0 : 0 <= i
 ·have hj : i.toNat = j := by
   rw [seqIndex_of h0 h5] at h1
   exact Option.some.inj h1
  exact item_listR pl.isList h0 (by omega) (by rw [hj]; simpa using ew) fin hs
 ·have hj : (i + (its.toArray.size : Int)).toNat = j := by
   rw [seqIndex_neg (by omega) h4] at h1
   rw [List.size_toArray, <- hl]
   exact Option.some.inj h1
  exact subscriptTail_builtinR (x := w) pl.isList.typeIs slot_list_getitem.lookup
   (wpAny_getItem_list_neg (Q := fun r s' => r = w /\ EP X pins σ Q r s') pl.isList (by omega) (by rw [List.size_toArray] <;> omega) (by omega) (by rw [hj]; simpa using ew) ⟨rfl, fin⟩) hs
theorem gt : IxR X (xt X.K) := by
 intro value slice pins s σ H x y v u Q I rx ry h hs
 obtain ⟨p, xs, i, z, rfl, rfl, hq, he, q⟩ := h
 cases rx
 obtain ⟨t, rfl⟩ := ry
 obtain ⟨its, r, pl, hz⟩ := I.tuple hq
 obtain ⟨j, h1, h2, h3, h4, h5⟩ := jk he
 obtain ⟨w, ew, rw'⟩ := r.get h2
 have hl := r.length
 have hn := fK
 have fin : EP X pins σ Q w s := ⟨z, H, I, rw', q⟩
 exact subscriptTail_builtinR (x := w) pl.typeIs slot_tuple_getitem.lookup
  (getItem_tuple (j := j) (Q := fun r s' => r = w /\ EP X pins σ Q r s') pl (by omega) (by omega) (by rw [List.size_toArray, <- hl]; exact h1) (by simpa using ew) ⟨rfl, fin⟩) hs
theorem qd : IxR X xi := by
 intro value slice pins s σ H x y v u Q I rx ry h hs
 obtain ⟨z, i, c, rfl, rfl, hz, he, q⟩ := h
 obtain ⟨t, rfl⟩ := rx
 obtain ⟨t', rfl⟩ := ry
 obtain ⟨j, h1, h2, h3, h4, h5⟩ := jk he
 have hl : z.cps.toList.length = z.length := by simp [Str.length]
 rw [hl] at h1 h4 h5
 have hn := fK
 exact tail_any (typeIs_str s z t) slot_str_getitem.lookup (getItem_str (c := c) (by
  have e1 : decide (i < -(2 ^ 63 : Int)) = false := decide_eq_false (by omega)
  have e2 : decide (i >= 2 ^ 63) = false := decide_eq_false (by omega)
  rw [e1, e2, Bool.or_false]) (by rw [h1]; simpa using h2) ⟨.str ⟨#[c]⟩, H, I.tok _, ⟨_, rfl⟩, q⟩) hs
theorem ml (its : List Value) (n j : Nat) (u : Value) : Obj.mapSeq (·.setIfInBounds j u) { cls := .type "list", data := .seq its.toArray n } = { cls := .type "list", data := .seq (its.set j u).toArray n } := by
 simp [Obj.mapSeq]
theorem Inv.lst {pins : List (Addr × Obj)} {σ : St} {H : Hp} {s : Shared} {p : Addr} {xs : List V} (I : Inv X pins σ H s) (h : H p = some (.lst xs)) :
  ∃ (its : List Value) (n : Nat), aG xs its /\ s.heap.get? p = some { cls := .type "list", data := .seq its.toArray n } /\ xs.length <= sizeLine := by
 obtain ⟨z, its, n, r, e⟩ := I.hok p _ h
 exact ⟨its, n, r, e, z⟩
theorem Inv.lstUpd {pins : List (Addr × Obj)} {σ : St} {H : Hp} {s : Shared} {p : Addr} {xs ys : List V} {its its' : List Value} {n n' : Nat} {f : Obj -> Obj} (I : Inv X pins σ H s) (h : H p = some (.lst xs))
  (ho : s.heap.get? p = some { cls := .type "list", data := .seq its.toArray n }) (hf : f { cls := .type "list", data := .seq its.toArray n } = { cls := .type "list", data := .seq its'.toArray n' }) (r : aG ys its') (hz : ys.length <= sizeLine) (t : Nat) :
  Inv X pins σ (upd H p (.lst ys)) { s with heap := s.heap.update p f, toks := t } := by
 have e : (s.heap.update p f).get? p = some { cls := .type "list", data := .seq its'.toArray n' } := by
  rw [Heap.get?_update_self f ho (by rw [hf] <;> rfl), hf]
 refine I.write (x := p) (e := p) (by rw [h]; trivial) (.inl rfl) (fun b u hb q => (Heap.get?_update_other _ _ (Ne.symm hb)).trans q) ⟨_, e⟩ ?_
 exact ⟨hz, its', n', r, e⟩
def wo : V -> V -> V -> Hp -> (Hp -> Prop) -> Prop := fun o i v H Q => ∃ p xs k j, o = .ref p /\ i = .int k /\ H p = some (.lst xs) /\ ixN xs.length k = some j /\ Q (upd H p (.lst (xs.set j v)))
theorem kn : wp X wo := by
 intro pins s σ H o i v ov iv u Q I ro ri rv h
 obtain ⟨p, xs, k, j, rfl, rfl, hp, hj, q⟩ := h
 cases ro
 obtain ⟨t, rfl⟩ := ri
 obtain ⟨its, n, r, ho, hz⟩ := I.lst hp
 obtain ⟨h1, h2, h3, h4⟩ := oq hj
 have hl := r.length
 have hn := fK
 have I' : Inv X pins σ (upd H p (.lst (xs.set j v))) { s with heap := s.heap.update p (Obj.mapSeq (·.setIfInBounds j u)) } :=
  I.lstUpd hp ho (ml its n j u) (r.set rv j) (by rw [List.length_set]; exact hz) s.toks
 by_cases h0 : 0 <= k
 ·have hk : k.toNat = j := by
   rw [seqIndex_of h0 h4] at h1
   exact Option.some.inj h1
  exact PySem.W.ki_setAt ho h0 (by omega) (by rw [List.size_toArray, <- hl]; exact h4) (by rw [hk]; exact ⟨_, I', q⟩)
 ·have hk : (k + (its.toArray.size : Int)).toNat = j := by
   rw [seqIndex_neg (by omega) h3] at h1
   rw [List.size_toArray, <- hl]
   exact Option.some.inj h1
  exact PySem.W.ki_setBack ho (by omega) (by rw [List.size_toArray, <- hl]; exact h3) (by omega) (by rw [hk]; exact ⟨_, I', q⟩)
theorem cU : bB X (.builtin "len") (fun xs H Q => ∃ p ys, xs = [.ref p] /\ (SqL X.K H p ys \/ SqT X.K H p ys) /\ Q (.int ys.length) H) := by
 intro pins s σ H xs us Q I r h
 obtain ⟨p, ys, rfl, hq, q⟩ := h
 obtain ⟨u, rfl, rx⟩ := bN r
 cases rx
 have hn := fK
 rcases hq with hq | hq
 ·obtain ⟨its, r', pl, hz⟩ := I.list hq
  have hlen := r'.length
  exact Calls.call_len_list pl.isList (by simp only [List.size_toArray] <;> omega) ⟨.int ys.length, H, I.tok _, ⟨s.toks + 1, by rw [List.size_toArray, hlen]⟩, q⟩
 ·obtain ⟨its, r', pl, hz⟩ := I.tuple hq
  have hlen := r'.length
  exact len_tuple pl (by simp only [List.size_toArray] <;> omega) ⟨.int ys.length, H, I.tok _, ⟨s.toks + 1, by rw [List.size_toArray, hlen]⟩, q⟩
theorem iU : bB X (.builtin "len") (fun xs H Q => ∃ z, xs = [.str z] /\ z.length <= sizeLine /\ Q (.int z.length) H) := by
 intro pins s σ H xs us Q I r h
 obtain ⟨z, rfl, hz, q⟩ := h
 obtain ⟨u, rfl, t, rfl⟩ := bN r
 have hn := fK
 exact len_str (by omega) ⟨.int z.length, H, I.tok _, ⟨_, rfl⟩, q⟩
theorem aU : bB X (.type "tuple") (fun xs H Q => ∃ p ys, xs = [.ref p] /\ ((SqL X.K H p ys /\ ∀ l, H l = none -> Q (.ref l) (upd H l (.tup ys))) \/ (SqT X.K H p ys /\ Q (.ref p) H))) := by
 intro pins s σ H xs us Q I r h
 obtain ⟨p, ys, rfl, h⟩ := h
 obtain ⟨u, rfl, rx⟩ := bN r
 cases rx
 rcases h with ⟨hq, q⟩ | ⟨hq, q⟩
 ·obtain ⟨its, r', pl, hz⟩ := I.list hq
  have hlen := r'.length
  refine call_tuple_list pl.isList (fun h' kp => ?_) (by simp only [List.size_toArray] <;> omega)
  have I1 : Inv X pins σ H { s with heap := h' } := I.kept (t' := s.toks) kp
  have I2 : Inv X pins σ (upd H h'.objs.size (.tup ys)) { s with heap := h'.push { cls := .type "tuple", data := .seq its.toArray } } :=
   I1.laid (t' := s.toks) (fun b o e => Heap.get?_push_of_some _ e) (Nat.le_refl _) (show aF X.prog X.w _ _ _ (.tup ys) from ⟨hz, its, r', IsTup.new _ _, NoD.new _ rfl⟩)
  exact ⟨.ref h'.objs.size, _, I2, rfl, q _ (I1.hok.fresh (Nat.le_refl _))⟩
 ·obtain ⟨its, r', pl, hz⟩ := I.tuple hq
  exact call_tuple_same pl ⟨.ref p, H, I, rfl, q⟩
def tyV (K : PySem.W.Frag) (T : String) (x : V) (H : Hp) : Prop := match x with
 | .str _ => T = "str"
 | .int _ => T = "int"
 | .ref p => (T = "list" /\ ∃ xs, SqL K H p xs) \/ (T = "tuple" /\ ∃ o, K.lookup p = some o /\ o.cls = .type "tuple" /\ o.dict = none) \/
   (T = "dict" /\ ((∃ kvs, H p = some (.dK kvs)) \/ ∃ kvs, H p = some (.dT kvs))) \/ (T = "set" /\ ∃ S n, H p = some (.set S n))
 | _ => False
theorem qG {pins : List (Addr × Obj)} {σ : St} {H : Hp} {s : Shared} {T : String} {x : V} {v : Value} (I : Inv X pins σ H s) (r : aJ x v) (ty : tyV X.K T x H) :
  s.TypeIs v T /\ ∀ a, v = .ref a -> ∃ ob, s.heap.get? a = some ob /\ ob.dict = none := by
 cases x with
 | str z =>
  obtain ⟨t, rfl⟩ := r
  cases (show T = "str" from ty)
  exact ⟨typeIs_str s z t, fun _ e => nomatch e⟩
 | int i =>
  obtain ⟨t, rfl⟩ := r
  cases (show T = "int" from ty)
  exact ⟨typeIs_int s i t, fun _ e => nomatch e⟩
 | ref p =>
  cases r
  rcases ty with ⟨rfl, xs, hq⟩ | ⟨rfl, o, hk, hc, hd⟩ | ⟨rfl, hk⟩ | ⟨rfl, S, n, hk⟩
  ·obtain ⟨its, _, pl, _⟩ := I.list hq
   refine ⟨pl.isList.typeIs, fun a e => ?_⟩
   cases e
   obtain ⟨o, n, e, c, hd, _⟩ := pl
   exact ⟨o, e, hd⟩
  ·refine ⟨⟨o, I.kIn p o hk, hc⟩, fun a e => ?_⟩
   cases e
   exact ⟨o, I.kIn _ o hk, hd⟩
  ·have z : ∃ o, s.heap.get? p = some o /\ o.ExactDict := by
    rcases hk with ⟨kvs, hk⟩ | ⟨kvs, hk⟩
    ·obtain ⟨_, _, _, _, o, _, _, e, ex, _⟩ := I.hok p _ hk
     exact ⟨o, e, ex⟩
    ·obtain ⟨_, _, _, _, o, _, _, e, ex, _⟩ := I.hok p _ hk
     exact ⟨o, e, ex⟩
   obtain ⟨o, e, ex⟩ := z
   refine ⟨⟨o, e, ex.1⟩, fun a e2 => ?_⟩
   cases e2
   exact ⟨o, e, ex.2.1⟩
  ·obtain ⟨o, _, _, _, e, ex, _⟩ := I.hok p _ hk
   refine ⟨⟨o, e, ex.1⟩, fun a e2 => ?_⟩
   cases e2
   exact ⟨o, e, ex.2.1⟩
 | _ => exact False.elim ty
def wY (K : PySem.W.Frag) (T : String) (r : V -> List V -> Hp -> VK -> Prop) (to : TE) : TE := fun σ H Q => to σ H fun x H1 => tyV K T x H1 /\ r x [] H1 Q
def tBM (K : PySem.W.Frag) (T : String) (r : V -> List V -> Hp -> VK -> Prop) (to : TE) (t : TA) : TE := fun σ H Q => to σ H fun x H1 => tyV K T x H1 /\ t σ H1 fun xs H2 => r x xs H2 Q
variable {o e : Expr} {es : List Expr} {to : TE} {t : TA} {name : Str} {apos cpos : Pos} {T id : String} {r : V -> List V -> Hp -> VK -> Prop}
theorem qM (pa : PlainAttrs T) (slot : Slot T name id) (hty : typeOf (.builtin id) = pure (.type "method_descriptor")) (hm : MtR X id r) (ho : PE X o to)
  (hbase : attributeBase o name X.env (eval o X.env) = eval o X.env := by rfl) (hline : (apos.endLine == cpos.line) = true := by rfl) : PE X (.Call (.Attribute o name apos) [] [] cpos) (wY X.K T r to) := by
 intro pins s σ H Q I h
 refine wpAny_Call_method0_late hbase hline (thn (ho pins s σ H _ I h) fun v s1 ⟨x, H1, I1, r1, ty, q1⟩ => ?_)
 obtain ⟨h1, h2⟩ := qG I1 r1 ty
 exact ⟨T, id, pa, slot, hty, h1, h2, Calls.callWith_builtin rfl (PySem.evalArgs_none (hm pins s1 σ H1 x [] v [] Q I1 r1 .nil q1))⟩
theorem lD (pa : PlainAttrs T) (slot : Slot T name id) (hty : typeOf (.builtin id) = pure (.type "method_descriptor")) (hm : MtR X id r) (ho : PE X o to) (ha : PA X (e :: es) t)
  (hbase : attributeBase o name X.env (eval o X.env) = eval o X.env := by rfl)
  (hfew : ((backTo cpos (starEach (e :: es) X.env)).all (fun x => !x.1) && (backToKw cpos (keywordEach [] X.env)).all (fun x => x.1.isSome)
   && decide ((e :: es).length + ([] : List Keyword).length + (if ([] : List Keyword).isEmpty then 0 else 1) < 30)) = true := by rfl)
  (hline : (apos.endLine == cpos.line) = true := by rfl) (hs : starEach (e :: es) X.env = (false, eval e X.env) :: starEach es X.env := by rfl) (hplain : (backTo cpos (starEach es X.env)).any (·.1) = false := by rfl) :
  PE X (.Call (.Attribute o name apos) (e :: es) [] cpos) (tBM X.K T r to t) := by
 intro pins s σ H Q I h
 refine wpAny_Call_method_late hbase hfew hline rfl (thn (ho pins s σ H _ I h) fun v s1 ⟨x, H1, I1, r1, ty, q1⟩ => ?_)
 obtain ⟨h1, h2⟩ := qG I1 r1 ty
 refine ⟨T, id, pa, slot, hty, h1, h2, ?_⟩
 have hA := ha cpos pins s1 σ H1 _ I1 q1
 rw [hs] at hA ⊢
 refine Calls.callWith_builtin (by show (false || (backTo cpos (starEach es X.env)).any (·.1)) = false; rw [hplain] <;> rfl) (Calls.evalArgs_plain ?_)
 exact thn hA fun us s2 ⟨vs, H2, I2, r2, q2⟩ => hm pins s2 σ H2 x vs v us Q I2 r1 r2 q2
end
def MtM (X : Cx) (id : String) (r : V -> List V -> Hp -> VK -> Prop) : Prop :=
 ∀ (pins : List (Addr × Obj)) (s : Shared) (σ : St) (H : Hp) (x : V) (xs : List V) (v : Value) (us : List Value) (Q : VK), Inv X pins σ H s -> aJ x v -> aG xs us -> r x xs H Q ->
  wpAny (model X.prog X.w) X.A (call (.builtin id) (v :: us)) (EP X pins σ Q) X.xe s
theorem aG.one : ∀ {x : V} {us : List Value}, aG [x] us -> ∃ u, us = [u] /\ aJ x u
 | _, _, .cons r .nil => ⟨_, rfl, r⟩
section
variable {X : Cx} {pins : List (Addr × Obj)} {σ : St} {H : Hp} {s : Shared} {l b : Addr} {xs ys zs : List V}
theorem Inv.lset {its its' : List Value} {n : Nat} {f : Array Value -> Array Value} {t' : Nat} (I : Inv X pins σ H s) (hH : H l = some (.lst xs))
  (e : s.heap.get? l = some { cls := .type "list", data := .seq its.toArray n }) (hf : f its.toArray = its'.toArray) (hv : aG ys its') (hz : ys.length <= sizeLine) :
  Inv X pins σ (upd H l (.lst ys)) { s with heap := s.heap.update l (Obj.mapSeq f), toks := t' } := by
 have q := PySem.IsL.update e f
 rw [hf] at q
 refine I.write (x := l) (e := l) (by rw [hH]; exact trivial) (.inl rfl) (fun b' u hb hu => (Heap.get?_update_other s.heap (Obj.mapSeq f) (Ne.symm hb)).trans hu) ⟨_, q⟩ ?_
 exact ⟨hz, its', _, hv, q⟩
theorem Inv.lnew {its : List Value} {t' : Nat} (I : Inv X pins σ H s) (hv : aG ys its) (hz : ys.length <= sizeLine) :
  Inv X pins σ (upd H s.heap.objs.size (.lst ys)) { s with heap := s.heap.push { cls := .type "list", data := .seq its.toArray }, toks := t' } :=
 I.laid (fun _ _ q => Heap.get?_push_of_some _ q) (Nat.le_refl _) ⟨hz, its, 0, hv, Heap.get?_push_size _ rfl⟩
theorem Inv.fresh (I : Inv X pins σ H s) : H s.heap.objs.size = none := I.hok.fresh (Nat.le_refl _)
theorem Inv.lstM (I : Inv X pins σ H s) (hH : H l = some (.lst xs)) : xs.length <= sizeLine /\ ∃ (its : List Value) (n : Nat), aG xs its /\ xs.length = its.length /\ s.heap.get? l = some { cls := .type "list", data := .seq its.toArray n } := by
 obtain ⟨z, its, n, r, e⟩ := I.hok l _ hH
 exact ⟨z, its, n, r, r.length, e⟩
end
section
variable {X : Cx}
def nu : V -> List V -> Hp -> VK -> Prop := fun x vs H Q => ∃ l xs y, x = .ref l /\ vs = [y] /\ H l = some (.lst xs) /\ xs.length < sizeLine /\ Q .non (upd H l (.lst (xs ++ [y])))
theorem cT : MtM X "list.append" nu := by
 intro pins s σ H x vs v us Q I rx rv h
 obtain ⟨l, xs, y, rfl, rfl, hH, hz, q⟩ := h
 cases rx
 obtain ⟨u, rfl, ru⟩ := rv.one
 obtain ⟨z, its, n, r, hl, e⟩ := I.lstM hH
 refine call_meets F.slot_list_append ⟨_, e, rfl⟩ F.entry_list_append (F.args_list_append_2 _ _) (PySem.list_append l its.toArray n u (by rw [List.size_toArray]; omega)) ⟨e, ?_⟩
 refine ⟨.non, _, I.lset (its' := its ++ [u]) hH e (by simp) (r.append (.cons ru .nil)) ?_, rfl, q⟩
 rw [List.length_append, List.length_singleton]
 omega
end
section
variable {prog : Program} {w : World} {A : Around} {E : Value -> Shared -> Prop} {s : Shared}
end
section
variable {X : Cx}
end
end L2
namespace Att
open PySem PySem.W PySem.Calls PyProof.Rows
theorem fZ {P : Params} {h : Heap} : ∀ (ns : List Int) (vs : List Value), WellAll P h vs (ns.map WData.int) -> IntsAre vs ns := by
 intro ns
 induction ns with
 | nil =>
  intro vs w
  rw [List.map_nil] at w
  cases w
  exact .nil
 | cons n ns ih =>
  intro vs w
  rw [List.map_cons] at w
  cases w with
  | cons a b =>
   cases a
   exact .cons _ _ (ih _ b)
theorem oN {l : OpenLaw} {n : Nat} (hn : l.most = some n) {P : Params} {h : Heap} {args : List WData} {vals : List Value}
  (hpre : l.row.toRowW.claim.pre args = true) (hwl : WellAll P h vals args) :
  ∃ a vs ns, vals = [Value.ref a] /\ args = [WData.list (ns.map WData.int)] /\ h.get? a = some { cls := .type "list", data := .seq vs.toArray } /\ IntsAre vs ns /\ ns.length <= n := by
 have hsh : WShape.hasAll [] args [.list .int] = true := (pre_splitW hpre).1
 have hc : l.pre.holds [] { args := args } = true := (pre_splitW hpre).2
 obtain ⟨d, r, rfl, h1, h2⟩ := hasAllW_cons hsh
 obtain rfl := hasAllW_nil h2
 obtain ⟨xs, rfl, h3⟩ := hasW_list h1
 obtain ⟨ns, rfl⟩ := items_int h3
 have hlen : ns.length <= n := by
  unfold OpenLaw.pre at hc
  have h4 : (WTm.not (.lt (.lit (.int (n : Int))) (.len (.arg 0)))).holds [] { args := [.list (ns.map .int)] } = true := by
   have h4 := (holds_andW hc).1
   rw [hn] at h4
   exact h4
  have h5 := condW_of h4 (w_not (w_lt w_lit (w_len_list (w_arg rfl))))
  rw [List.length_map] at h5
  refine Nat.le_of_not_lt fun q => ?_
  have q' : (n : Int) < ((ns.length : Nat) : Int) := by omega
  first
   | (rw [decide_eq_true q'] at h5; exact absurd h5 (by decide))
   | (simp at h5; omega)
 cases hwl with
 | cons w1 w2 =>
  cases w2
  cases w1 with
  | list ho hall => exact ⟨_, _, ns, rfl, rfl, ho, fZ ns _ hall, hlen⟩
theorem pK (l : OpenLaw) (args : List WData) : l.row.toRowW.claim.post args (.bool true) args = true :=
 postW_of (r := l.row.toRowW) (X := (true == true))
  (show WShape.has [] (.bool true) .bool = true by first | rfl | decide | simp [WShape.has, WShape.arms, WShape.armsAll])
  (show (WTm.eq .res (.lit (.bool true))).value [] { args := args, res := some (.bool true), after := args } = some (.bool (true == true)) from w_eq_bool (w_res rfl) w_lit) rfl
theorem attach_call {l : OpenLaw} {n : Nat} {q : Program} {loose : List Str} {XP : (Str -> Option Value) -> Heap -> Prop} {YP : World -> Heap -> Prop} {d : DefRec}
  (hn : l.most = some n) (hdf : d.params.defaults = [])
  (call : ∀ (w : World) (s₀ s₁ : Shared) (mg mb : Str -> Option Value) (fa : Addr) (o : Obj) (pm cd doc : Value) (a : Addr) (vs : List Value) (ns : List Int),
   Ground q loose [] XP w s₀ mg mb s₁.heap -> YP w s₁.heap ->
   s₁.heap.get? fa = some o -> o.data = .func (docDef d.name d.params d.body d.scope pm cd doc) -> s₁.heap.CodeRec cd d.name -> mg d.name = some (.ref fa) ->
   s₁.heap.get? a = some { cls := .type "list", data := .seq vs.toArray } -> IntsAre vs ns -> ns.length <= n -> s₁.gens = #[] ->
   codeAny (model l.prog w) callerA (.call (.ref fa) ⟨[.ref a], []⟩) (fun r s' => r = .ok (.ret (.bool true)) /\ OldK s₁.heap s'.heap /\ s'.os = s₁.os /\ AllBare s'.gens) s₁) :
  WalkO q loose XP YP l.row.toRowW d [] (fun f vs => PySem.call f vs) := by
 intro w s₀ s₁ mg mb G Y fa o pm cd doc dV kV ho hd hcd hD hmg hg args vals as hpre hlay hrd hwl hlo
 obtain rfl : dV = .none := Dflts.none hD hdf
 obtain rfl : kV = .none := Dflts.noKw hD
 obtain ⟨a, vs, ns, rfl, rfl, hobj, hints, hlen⟩ := oN hn hpre hwl
 refine enter_call (codeAny_mono (call w s₀ s₁ mg mb fa o pm cd doc a vs ns G Y ho (fd_plain hd) hcd hmg hobj hints hlen hg) fun r s' hq => ?_)
 obtain ⟨rfl, h2, h3, h4⟩ := hq
 exact ⟨.inl ⟨.bool true, .bool true, [], rfl, fun _ => rfl, .bool true, pK l _, fun _ => ⟨List.Pairwise.nil, fun _ hm => (nomatch hm)⟩⟩, h2, h3, h4⟩
section
variable {prog : Program} {w : World} {A : Around} {E : Value -> Shared -> Prop} {s : Shared} {K : Frag}
def noObjs (h : Heap) : Heap := { h with objs := #[] }
theorem noObjs_get (h : Heap) (b : Addr) : (noObjs h).get? b = none := by
 cases e : (noObjs h).get? b with
 | none => rfl
 | some o => exact absurd (Heap.lt_size e) (Nat.not_lt_zero _)
theorem fr_all {h : Heap} {L : Addr} {m : Str -> Option Value} (n : h.Ns L m) : Fr (noObjs h) L h m :=
 ⟨n, fun b o e => (by rw [noObjs_get] at e; cases e), Nat.zero_le _⟩
end
end Att
namespace L2
open PySem PySem.Spec PyProof.Rows
theorem iM : ∀ {vs : List Value} {ns : List Int}, IntsAre vs ns -> aG (ns.map V.int) vs
 | _, _, .nil => .nil
 | _, _, .cons n t h => .cons ⟨t, rfl⟩ (iM h)
def uE (H : Hp) : Prop := ∀ b, H b = none \/ ∃ o xs, H b = some (.frz o (.lst xs))
theorem rC {P : Program} {w : World} {K : PySem.W.Frag} {mg mb : Str -> Option Value} {CX : CXT} {k : Nat} {fa a : Addr} {fd : FuncData} {x : Str} {sp : Sp} {s₁ : Shared} {vs : List Value} {ns : List Int}
  (KX : K.In s₁.heap) (hns : s₁.heap.Ns mainGlobals mg) (hb : s₁.heap.Ns builtinsNs mb) (hbb : ∀ x : Str, x ≠ "__name__" -> mb x = bootBuiltins x) (hlim : s₁.heap.NoLimit) (hg : s₁.gens = #[])
  (ha : s₁.heap.get? a = some { cls := .type "list", data := .seq vs.toArray }) (hi : IntsAre vs ns) (hl : ns.length <= sizeLine) (hr : cX k callerA)
  (F : ∀ base : Heap, K.In base -> base.Ns mainGlobals mg -> bu P w K mg base CX k fa fd [x] sp) (hbind : ∀ (s : Shared) (u : Value), BindsTo s fd ⟨[u], []⟩ [(x, u)])
  (hsp : ∀ H : Hp, uE H -> SqL K H a (ns.map V.int) -> sp [.ref a] H (fun v _ => v = .bl true) fun _ _ _ => False)
  (hCX : ∀ H e s', CX [] H s₁ (fun _ _ _ => False) e s' -> False) :
  codeAny (model P w) callerA (.call (.ref fa) ⟨[.ref a], []⟩) (fun r s' => r = .ok (.ret (.bool true)) /\ OldK s₁.heap s'.heap /\ s'.os = s₁.os /\ AllBare s'.gens) s₁ := by
 have rv := iM hi
 have lenV := hi.length
 have core : ∀ H : Hp, uE H -> SqL K H a (ns.map V.int) -> HOk P w H s₁.heap -> (∀ b, H b ≠ none -> b = a) -> (H a ≠ none -> K.lookup a = none) ->
   codeAny (model P w) callerA (.call (.ref fa) ⟨[.ref a], []⟩) (fun r s' => r = .ok (.ret (.bool true)) /\ OldK s₁.heap s'.heap /\ s'.os = s₁.os /\ AllBare s'.gens) s₁ := by
  intro H hO hS hok hA hK
  have base_of : ∀ {b : Addr} {o : Obj}, s₁.heap.get? b = some o -> H b = none -> (jn s₁.heap H).get? b = some o := fun e n => qD e n
  have noA : ∀ {b : Addr} {o : Obj} {es : Array DictEntry} {ep : Nat}, s₁.heap.get? b = some o -> o.data = .dict es ep -> H b = none := fun {b o es ep} e d => by
   cases q : H b with
   | none => rfl
   | some u =>
    have e' : b = a := hA b (by rw [q]; simp)
    subst e'
    rw [ha] at e; cases e
    have d' : Data.seq vs.toArray _ = Data.dict es ep := d
    cases d'
  have nsK : ∀ {b : Addr} {m : Str -> Option Value}, s₁.heap.Ns b m -> (jn s₁.heap H).Ns b m := fun {b m} ⟨o, es, ep, e, d, r⟩ => ⟨o, es, ep, base_of e (noA e d), d, r⟩
  have hKb : K.In (jn s₁.heap H) := fun b o e => base_of (KX b o e) (by
   cases q : H b with
   | none => rfl
   | some u =>
    have e' : b = a := hA b (by rw [q]; simp)
    subst e'
    rw [hK (by rw [q]; simp)] at e; cases e)
  have hM : Mod K mg (jn s₁.heap H) := ⟨hKb, nsK hns, ⟨mb, nsK hb, hbb⟩, let ⟨mc, h1, h2⟩ := hlim; ⟨mc, nsK h1, h2⟩⟩
  have e0 : sj P w K mg (jn s₁.heap H) callerA [] s₁ H := ⟨rfl, hM, fun b o e => sC e, Nat.le_of_eq (pA _ _), trivial, fun b hb => absurd (show b ∈ ([] : List Addr) from hb) (by simp), hok, .of_eq hg⟩
  refine codeAny_mono ((F _ hKb (nsK hns)).run callerA [] s₁ H ⟨[.ref a], []⟩ [.ref a] [.ref a] _ _ hr e0 (hbind s₁ (.ref a)) (.cons rfl .nil) (hsp H hO hS)) fun r s' h => ?_
  cases r with
  | error e => exact (hCX H e s' h).elim
  | ok fl =>
   cases fl with
   | next => exact False.elim h
   | brk => exact False.elim h
   | cont => exact False.elim h
   | ret u =>
    obtain ⟨v, H', os, bare, un, hok', r', q⟩ := h
    have q' : v = .bl true := q
    subst q'
    obtain rfl : u = Value.bool true := r'
    refine ⟨rfl, OldK.of_keep fun b o e => ?_, os, bare⟩
    cases q : H b with
    | none => exact un.keep b o e q (by intro z; exact absurd (show b ∈ ([] : List Addr) from z) (by simp)) (by simp)
    | some u =>
     rcases hO b with z | ⟨ob, xs, z⟩
     ·rw [q] at z; cases z
     ·have z2 := un.frzs b ob _ z
      obtain ⟨e1, _⟩ := hok b _ z
      obtain ⟨e2, _⟩ := hok' b _ z2
      rw [e] at e1; cases e1
      exact e2
 cases hk : K.lookup a with
 | some o =>
  have e := KX a o hk
  rw [ha] at e
  cases e
  refine core (fun _ => none) (fun _ => .inl rfl) (.inr ⟨_, vs.toArray, _, hk, rfl, rfl, rfl, by rw [List.size_toArray, lenV]; exact hl, by simpa using rv⟩) (fun b u z => by have z' : (none : Option HO) = some u := z; cases z') (fun b z => absurd rfl z) fun z => absurd rfl z
 | none =>
  refine core (fun b => if b = a then some (.frz { cls := .type "list", data := .seq vs.toArray } (.lst (ns.map V.int))) else none) (fun b => ?_) (.inl (.inr ⟨{ cls := .type "list", data := .seq vs.toArray }, if_pos rfl⟩)) (fun b u z => ?_) (fun b z => ?_) fun _ => hk
  ·by_cases hb : b = a
   ·exact .inr ⟨_, _, if_pos hb⟩
   ·exact .inl (if_neg hb)
  ·by_cases hb : b = a
   ·have z' := (if_pos hb).symm.trans z
    cases z'
    subst hb
    exact ⟨ha, by rw [List.length_map]; exact hl, vs, _, rv, ha⟩
   ·have z' := (if_neg hb).symm.trans z
    cases z'
  ·by_cases hb : b = a
   ·exact hb
   ·exact absurd (if_neg hb) z
theorem walk_of {l : PySem.W.OpenLaw} {n k : Nat} {q : Program} {loose : List Str} {XP : (Str -> Option Value) -> Heap -> Prop} {YP : World -> Heap -> Prop} {d : DefRec} {K : Params -> PySem.W.Frag} {CX : World -> CXT} {sp : World -> Sp} {x : Str}
  (hn : l.most = some n) (hn2 : n <= sizeLine) (hdf : d.params.defaults = []) (hr : cX k callerA)
  (hY : ∀ (w : World) (h : Heap), YP w h -> (K w.params).In h)
  (F : ∀ (w : World) (mg : Str -> Option Value) (fa : Addr) (h : Heap), (K w.params).In h -> h.Ns mainGlobals mg -> mg d.name = some (.ref fa) ->
   ∃ fd : FuncData, (∀ (s : Shared) (u : Value), BindsTo s fd ⟨[u], []⟩ [(x, u)]) /\
    ∀ base : Heap, (K w.params).In base -> base.Ns mainGlobals mg -> bu l.prog w (K w.params) mg base (CX w) k fa fd [x] (sp w))
  (hsp : ∀ (w : World) (H : Hp) (a : Addr) (ns : List Int), ns.length <= n -> uE H -> SqL (K w.params) H a (ns.map V.int) -> sp w [.ref a] H (fun v _ => v = .bl true) fun _ _ _ => False)
  (hCX : ∀ (w : World) (H : Hp) (s : Shared) (e : Value) (s' : Shared), CX w [] H s (fun _ _ _ => False) e s' -> False) :
  PySem.W.WalkO q loose XP YP l.row.toRowW d [] (fun f vs => PySem.call f vs) := by
 refine Att.attach_call hn hdf fun w s₀ s₁ mg mb fa o pm cd doc a vs ns G Y ho hd hcd hmg hobj hints hlen hg => ?_
 have KX := hY w _ Y
 obtain ⟨fd, hb, hF⟩ := F w mg fa _ KX G.T.g hmg
 exact rC KX G.T.g G.T.b G.T.builtins G.T.nolimit hg hobj hints (Nat.le_trans hlen hn2) hr hF hb (fun H hO hS => hsp w H a ns hlen hO hS) fun H e s' => hCX w H s₁ e s'
def aM (s : Stmt) : Arguments := match s with
 | .FunctionDef _ a _ _ _ _ _ _ _ _ => a
 | _ => { posonlyargs := [], args := [], vararg := none, kwonlyargs := [], kw_defaults := [], kwarg := none, defaults := [] }
def aK (s : Stmt) : List Stmt := match s with
 | .FunctionDef _ _ b _ _ _ _ _ _ _ => b
 | _ => []
def aj (s : Stmt) : Scope := match s with
 | .FunctionDef _ _ _ _ _ _ sc _ _ _ => sc
 | _ => { kind := .function, names := [], isGenerator := false, isCoroutine := false }
abbrev CX0 : CXT := fun _ _ _ _ _ _ => False
abbrev E0 : XK := fun _ _ _ => False
theorem vF {X : Cx} : mS CX0 X E0 := fun _ _ _ _ _ _ _ h => h.elim
structure Fun (K : PySem.W.Frag) (x qual : Str) (st : Stmt) (f : Addr) (fd : FuncData) : Prop where
 ex : ∃ (oc : Value) (od : Option Addr) (kV doc pm : Value) (an : Option Addr) (cdv ct : Value) (osl : Array (Option Value)),
  fd = PySem.W.fnOf x qual (aM st) (aK st) (aj st) .none kV doc pm an cdv ct /\ K.lookup f = some ⟨oc, od, .func fd, osl⟩ /\ PySem.W.codeIn K cdv qual = true
 kp : PySem.W.keepIn K (.ref f) = true
section
variable {P : Program} {w : World} {K : PySem.W.Frag} {mg : Str -> Option Value} {base : Heap}
theorem Fun.ok {x qual : Str} {st : Stmt} {f : Addr} {fd : FuncData} {N ps : List Str} {k : Nat} {sp : Sp} (F : Fun K x qual st f fd) (S : aR N ps (aj st)) (len : ∀ vs H Q E, sp vs H Q E -> vs.length = ps.length)
  (hbody : ∀ (cdv : Value) (A : Around) (outer : List Env) (s : Shared) (H : Hp) (vs : List V) (Q : VK) (E : XK), cX k (A.deeper (envOfC qual (aj st) s.heap.objs.size f cdv)) -> sp vs H Q E ->
   ∃ t, PSs (pj CX0 P w K mg base N qual (aj st) f cdv A outer s H E).nox (aK st) t /\ t { nx := fun _ H' => Q .non H', rt := Q } (fW N vs) H) : bu P w K mg base CX0 (k + 1) f fd ps sp := by
 obtain ⟨oc, od, kV, doc, pm, an, cdv, ct, osl, rfl, lk, hcd⟩ := F.ex
 refine wz lk hcd S len fun A outer s H vs Q E hr hsp => ?_
 obtain ⟨t, h, q⟩ := hbody cdv A outer s H vs Q E hr hsp
 exact ⟨t, h.nox, q⟩
theorem Fun.binds {x qual : Str} {st : Stmt} {f : Addr} {fd : FuncData} {ps : List Str} (F : Fun K x qual st f fd)
  (h : ∀ (kV doc pm : Value) (an : Option Addr) (cdv ct : Value) (us : List Value), us.length = ps.length -> bindArgs (PySem.W.fnOf x qual (aM st) (aK st) (aj st) .none kV doc pm an cdv ct) ⟨us, []⟩ = pure (ps.zip us)) : iq K fd ps [] := by
 obtain ⟨oc, od, kV, doc, pm, an, cdv, ct, osl, rfl, lk, hcd⟩ := F.ex
 exact .all (h kV doc pm an cdv ct)
theorem bn {x qual : Str} {st : Stmt} {f : Addr} {oc : Value} {od an : Option Addr} {osl : Array (Option Value)} {kV doc pm cdv ct : Value} (l : K.lookup f = some ⟨oc, od, .func (PySem.W.fnOf x qual (aM st) (aK st) (aj st) .none kV doc pm an cdv ct), osl⟩)
  (c : PySem.W.codeIn K cdv qual = true) (k : PySem.W.keepIn K (.ref f) = true) : Fun K x qual st f (PySem.W.fnOf x qual (aM st) (aK st) (aj st) .none kV doc pm an cdv ct) := ⟨⟨oc, od, kV, doc, pm, an, cdv, ct, osl, rfl, l, c⟩, k⟩
end
theorem eO {A : Around} {k : Nat} (hr : cX k A) : A.units + 1 < cLine := Nat.lt_of_le_of_lt (Nat.add_le_add_left (by decide : 1 <= 64) _) hr.units
section
variable {X : Cx}
theorem pv (i : Nat) {x : Str} {pos : Pos} (hN : X.N[i]? = some x := by rfl) (hv : Vis X.env.scope x := by first | exact Or.inl rfl | exact Or.inr (Or.inl rfl) | exact Or.inr (Or.inr rfl)) (hd : (x == ("__debug__" : Str)) = false := by decide)
  (hcd : (x == ("__classdict__" : Str)) = false := by decide) : PE X (.Name x pos) (vY i) := uY hN hv hd hcd
end
theorem hX {A B : Prop} (h : B) : if false = true then A else B := by
 rw [if_neg Bool.false_ne_true]
 exact h
theorem pi {A B : Prop} (h : A) : if true = true then A else B := by
 rw [if_pos rfl]
 exact h
theorem hW {c A B : Prop} [Decidable c] (h1 : c -> A) (h2 : ¬ c -> B) : if c then A else B := by
 by_cases h : c
 ·rw [if_pos h]
  exact h1 h
 ·rw [if_neg h]
  exact h2 h
def ao (H H' : Hp) : Prop := ∀ b o, H b = some o -> H' b = some o
theorem ao.refl (H : Hp) : ao H H := fun _ _ h => h
theorem ao.trans {H H1 H2 : Hp} (a : ao H H1) (b : ao H1 H2) : ao H H2 := fun c o h => b c o (a c o h)
theorem ao.seq {K : PySem.W.Frag} {H H' : Hp} {a : Addr} {xs : List V} (e : ao H H') (h : SqL K H a xs) : SqL K H' a xs := by
 rcases h with (h | ⟨o, h⟩) | h
 ·exact .inl (.inl (e _ _ h))
 ·exact .inl (.inr ⟨o, e _ _ h⟩)
 ·exact .inr h
section
variable {κ : Type} [DecidableEq κ]
end
theorem tq {prog : Program} {w : World} {A : Around} {R : Result -> Shared -> Prop} {s : Shared} {elt target iter : Expr} {ifs : List Expr} {scope : Scope} {pos : Pos} {it acc : Value} {env : Env} (I : Nat -> Shared -> Prop)
  (turn : ∀ n s, I n s -> wpAny (model prog w) A (pyNext it) (fun r s₁ => match r with
   | none => R (.ok .next) s₁
   | some v => wpAny (model prog w) A (letOwnedTupleGo target it v) (fun _ s₁' => wpAny (model prog w) A (assign target env v) (fun _ s₂ =>
     wpAny (model prog w) A (forIn ifs true fun c r => if r = true then do let ok <- isTrue c env (eval c env); pure (ForInStep.yield ok) else pure (ForInStep.yield r)) (fun ok s₃ =>
      if ok = true then wpAny (model prog w) A (eval elt env) (fun x s₄ =>
       wpAny (model prog w) A (call (.builtin "list.append") [acc, x]) (fun _ s₅ => ∃ m, m < n /\ I m s₅) (fun _ _ => False) s₄) (fun _ _ => False) s₃
      else ∃ m, m < n /\ I m s₃) (fun _ _ => False) s₂) (fun _ _ => False) s₁') (fun _ _ => False) s₁) (fun _ _ => False) s)
  (n : Nat) (h : I n s) :
  codeAny (model prog w) A (.compLoop (.ListComp elt [⟨target, iter, ifs, 0⟩] scope pos) 0 it acc env) R s := by
 refine codeAny_loop rfl I (fun n s hI => ?_) n h
 show wpAny _ A ((compTurn (.ListComp elt [⟨target, iter, ifs, 0⟩] scope pos) 0 it acc env).onRaise (fun x => do noteFrame x env; theTreesLotGoes x)) _ _ s
 refine wpAny_noted ?_
 rw [compTurn_list]
 have no : ∀ {E : Value -> Shared -> Prop} (x : Value) (s : Shared), False -> E x s := fun _ _ z => z.elim
 refine wpAny_bind (wpAny_standAt (wpAny_bind (wpAny_mono (turn n s hI) (fun r s₁ h₁ => ?_) no)))
 cases r with
 | none => exact wpAny_pure h₁
 | some v =>
  refine wpAny_bind (wpAny_mono h₁ (fun _ s₁' h₁' => ?_) no)
  refine wpAny_bind (wpAny_mono h₁' (fun _ s₂ h₂ => wpAny_bind (wpAny_mono h₂ (fun ok s₃ h₃ => ?_) no)) no)
  cases ok with
  | false => exact wpAny_pure ⟨rfl, h₃⟩
  | true =>
   exact wpAny_bind (wpAny_bind (wpAny_mono h₃ (fun x s₄ h₄ => wpAny_bind (wpAny_mono h₄ (fun _ s₅ h₅ => wpAny_pure (wpAny_pure ⟨rfl, h₅⟩)) no)) no))
def aO (env : Env) : List (Str × NameKind) -> List (Str × Addr) -> List (Str × Addr)
 | [], acc => acc
 | (n, k) :: r, acc => if k = .free then aO env r (match env.cells.lookup n with | some c => (n, c) :: acc | none => acc) else aO env r acc
theorem lK {env : Env} {scope : Scope} (h : ∀ x ∈ scope.names, x.2 = .free -> ∃ c, env.cells.lookup x.1 = some c) : closureFor scope env = pure (aO env scope.names []) := by
 have all : ∀ (l : List (Str × NameKind)) (acc : List (Str × Addr)), (∀ x ∈ l, x.2 = NameKind.free -> ∃ c, env.cells.lookup x.1 = some c) ->
   (forIn l acc fun x cs => (do
    if x.2 == NameKind.free then
     let a <- cellOf env x.1
     pure (ForInStep.yield ((x.1, a) :: cs))
    else pure (ForInStep.yield cs) : Sem _)) = pure (aO env l acc) := by
  intro l
  induction l with
  | nil => intro acc _; rfl
  | cons x r ih =>
   intro acc hl
   obtain ⟨n, k⟩ := x
   have hr := fun y hy => hl y (List.mem_cons_of_mem _ hy)
   rw [List.forIn_cons]
   by_cases hk : k = .free
   ·subst hk
    obtain ⟨c, hc⟩ := hl (n, .free) List.mem_cons_self rfl
    simp only [beq_self_eq_true, if_true, aO]
    have e : cellOf env n = pure c := by unfold cellOf; rw [show env.cells.lookup n = some c from hc]
    rw [e]
    simp only [pure_bind]
    rw [ih _ hr, show env.cells.lookup n = some c from hc]
   ·have hb : (k == NameKind.free) = false := by simpa using hk
    simp only [hb, Bool.false_eq_true, if_false, aO, if_neg hk, pure_bind]
    exact ih _ hr
 unfold closureFor
 exact (congrArg (fun t : Sem (List (Str × Addr)) => t >>= pure) (all scope.names [] h)).trans (by simp)
theorem bm {env : Env} : ∀ (l : List (Str × NameKind)) (acc : List (Str × Addr)), (∀ n c, acc.lookup n = some c -> env.cells.lookup n = some c) -> ∀ n c, (aO env l acc).lookup n = some c -> env.cells.lookup n = some c
 | [], acc, h, n, c, e => h n c e
 | (m, k) :: r, acc, h, n, c, e => by
  unfold aO at e
  split at e
  ·refine bm r _ ?_ n c e
   intro n' c' e'
   split at e'
   ·rename_i c0 hc0
    rw [List.lookup_cons] at e'
    split at e'
    ·rename_i hb
     have : n' = m := by simpa using hb
     subst this
     cases e'
     exact hc0
    ·exact h n' c' e'
   ·exact h n' c' e'
  ·exact bm r _ h n c e
theorem cW {env : Env} {n : Str} : ∀ (l : List (Str × NameKind)) (acc : List (Str × Addr)), (∃ c, acc.lookup n = some c) -> ∃ c, (aO env l acc).lookup n = some c
 | [], acc, h => h
 | (m, k) :: r, acc, h => by
  unfold aO
  split
  ·refine cW r _ ?_
   obtain ⟨c, hc⟩ := h
   split
   ·rw [List.lookup_cons]
    split
    ·exact ⟨_, rfl⟩
    ·exact ⟨c, hc⟩
   ·exact ⟨c, hc⟩
  ·exact cW r _ h
theorem cg {env : Env} {n : Str} (hc : ∃ c, env.cells.lookup n = some c) : ∀ (l : List (Str × NameKind)) (acc : List (Str × Addr)), (n, NameKind.free) ∈ l -> ∃ c, (aO env l acc).lookup n = some c
 | [], _, h => by cases h
 | (m, k) :: r, acc, h => by
  obtain ⟨c, hc⟩ := hc
  unfold aO
  rcases List.mem_cons.mp h with e | h
  ·cases e
   rw [if_pos rfl, hc]
   exact cW r _ ⟨c, by simp⟩
  ·split
   ·exact cg ⟨c, hc⟩ r _ h
   ·exact cg ⟨c, hc⟩ r _ h
def Cx.comp (X : Cx) (N : List Str) (scope : Scope) (fp : List Addr) (s : Shared) (H : Hp) : Cx where
 prog := X.prog
 w := X.w
 K := X.K
 mg := X.mg
 base := X.base
 A := X.A
 N := N
 s₀ := s
 H₀ := H
 env := compEnvC scope (aO X.env scope.names []) (s.heap.objs.size + 1) X.env
 outer := X.stack
 stack := X.stack
 ex := fp
 calm := X.calm
 fn := fun _ => false
 pn := []
 xe := fun _ _ => False
def cS (k : Nat) (ix : List Nat) (σ : St) : St := List.replicate k none ++ ix.map fun j => (σ[j]?).join
structure cv (N : List Str) (sc : Scope) (scope : Scope) (own : List Str) (ix : List Nat) : Prop where
 kind : scope.kind = .function
 nocell : ∀ y ∈ scope.names, y.2 ≠ .cell
 names : ∀ y ∈ scope.names, y.2 = .local -> scope.names.lookup y.1 = some .local
 free : ∀ y ∈ scope.names, y.2 = .free -> sc.names.lookup y.1 = some .cell \/ sc.names.lookup y.1 = some .free
 cap : ∀ j ∈ ix, ∀ x, N[j]? = some x -> (x, NameKind.free) ∈ scope.names /\ (scope.names.lookup x = some .free)
 inN : ∀ j ∈ ix, j < N.length
abbrev lcN (N own : List Str) (ix : List Nat) : List Str := own ++ ix.filterMap fun j => N[j]?
theorem sS {N own : List Str} {ix : List Nat} (h : ∀ j ∈ ix, j < N.length) : (lcN N own ix).length = own.length + ix.length := by
 unfold lcN
 rw [List.length_append]
 congr 1
 induction ix with
 | nil => rfl
 | cons j r ih =>
  have hj : j < N.length := h j List.mem_cons_self
  rw [List.filterMap_cons, List.getElem?_eq_getElem hj]
  show _ + 1 = _ + 1
  rw [ih fun i hi => h i (List.mem_cons_of_mem _ hi)]
theorem eh {N : List Str} : ∀ {ix : List Nat}, (∀ j ∈ ix, j < N.length) -> ∀ {i : Nat} {x : Str}, (ix.filterMap fun j => N[j]?)[i]? = some x -> ∃ j, ix[i]? = some j /\ N[j]? = some x
 | [], _, i, x, e => by simp at e
 | j :: r, h, i, x, e => by
  have hj : j < N.length := h j List.mem_cons_self
  rw [List.filterMap_cons, List.getElem?_eq_getElem hj] at e
  cases i with
  | zero =>
   refine ⟨j, rfl, ?_⟩
   rw [List.getElem?_eq_getElem hj]
   exact e
  | succ i =>
   obtain ⟨j', e1, e2⟩ := eh (fun i hi => h i (List.mem_cons_of_mem _ hi)) (i := i) (x := x) (by simpa using e)
   exact ⟨j', by simpa using e1, e2⟩
theorem iA {k : Nat} {ix : List Nat} {σ : St} {i : Nat} {v : V} (h : (cS k ix σ)[i]? = some (some v)) : ∃ i' j, i = k + i' /\ ix[i']? = some j /\ σ[j]? = some (some v) := by
 unfold cS at h
 by_cases hi : i < k
 ·rw [List.getElem?_append_left (by simpa using hi), List.getElem?_replicate, if_pos hi] at h
  cases h
 ·rw [List.getElem?_append_right (by simpa using hi), List.length_replicate, List.getElem?_map] at h
  refine ⟨i - k, ?_⟩
  cases e : ix[i - k]? with
  | none => rw [e] at h; cases h
  | some j =>
   rw [e] at h
   refine ⟨j, by omega, rfl, ?_⟩
   have h' : (σ[j]?).join = some v := by simpa using h
   cases q : σ[j]? with
   | none => rw [q] at h'; cases h'
   | some o =>
    rw [q] at h'
    exact congrArg some h'
theorem cc {env : Env} {x : Str} : ∀ {names : List (Str × NameKind)}, names.lookup x = some .free ->
  (names.map fun (n, k) => if (k == NameKind.free && env.scope.kind == .function && env.kindOf n == some .cell) then (n, NameKind.cell) else (n, k)).lookup x = some .cell \/
  (names.map fun (n, k) => if (k == NameKind.free && env.scope.kind == .function && env.kindOf n == some .cell) then (n, NameKind.cell) else (n, k)).lookup x = some .free
 | [], h => by simp at h
 | (n, k) :: r, h => by
  have ih := @cc env x r
  rw [List.map_cons]
  show List.lookup x ((if (k == NameKind.free && env.scope.kind == .function && env.kindOf n == some .cell) = true then (n, NameKind.cell) else (n, k)) :: _) = _ \/ List.lookup x ((if (k == NameKind.free && env.scope.kind == .function && env.kindOf n == some .cell) = true then (n, NameKind.cell) else (n, k)) :: _) = _
  cases hx : x == n with
  | true =>
   simp only [List.lookup_cons, hx] at h
   cases h
   by_cases hc : (NameKind.free == NameKind.free && env.scope.kind == .function && env.kindOf n == some .cell) = true
   ·rw [if_pos hc]; left; simp only [List.lookup_cons, hx]
   ·rw [if_neg hc]; right; simp only [List.lookup_cons, hx]
  | false =>
   simp only [List.lookup_cons, hx] at h
   by_cases hc : (k == NameKind.free && env.scope.kind == .function && env.kindOf n == some .cell) = true
   ·rw [if_pos hc]; simp only [List.lookup_cons, hx]; exact ih h
   ·rw [if_neg hc]; simp only [List.lookup_cons, hx]; exact ih h
theorem bW {env : Env} {x : Str} {kd : NameKind} : ∀ {names : List (Str × NameKind)},
  (names.map fun (n, k) => if (k == NameKind.free && env.scope.kind == .function && env.kindOf n == some .cell) then (n, NameKind.cell) else (n, k)).lookup x = some kd -> (kd = .cell \/ kd = .free) -> (∀ y ∈ names, y.2 ≠ .cell) ->
  (x, NameKind.free) ∈ names
 | [], h, _, _ => by simp at h
 | (n, k) :: r, h, hk, hc => by
  have ih := @bW env x kd r
  rw [List.map_cons] at h
  have hcr : ∀ y ∈ r, y.2 ≠ .cell := fun y hy => hc y (List.mem_cons_of_mem _ hy)
  by_cases hf : k = .free
  ·subst hf
   cases hx : x == n with
   | true =>
    have : x = n := by simpa using hx
    subst this
    exact List.mem_cons_self
   | false =>
    refine List.mem_cons_of_mem _ (ih ?_ hk hcr)
    by_cases hcc : (NameKind.free == NameKind.free && env.scope.kind == .function && env.kindOf n == some .cell) = true
    ·have h2 : List.lookup x ((if (NameKind.free == NameKind.free && env.scope.kind == .function && env.kindOf n == some .cell) = true then (n, NameKind.cell) else (n, NameKind.free)) :: r.map fun (n, k) => if (k == NameKind.free && env.scope.kind == .function && env.kindOf n == some .cell) then (n, NameKind.cell) else (n, k)) = some kd := h
     rw [if_pos hcc, List.lookup_cons, hx] at h2
     exact h2
    ·have h2 : List.lookup x ((if (NameKind.free == NameKind.free && env.scope.kind == .function && env.kindOf n == some .cell) = true then (n, NameKind.cell) else (n, NameKind.free)) :: r.map fun (n, k) => if (k == NameKind.free && env.scope.kind == .function && env.kindOf n == some .cell) then (n, NameKind.cell) else (n, k)) = some kd := h
     rw [if_neg hcc, List.lookup_cons, hx] at h2
     exact h2
  ·have hb : (k == NameKind.free) = false := by simpa using hf
   have h2 : List.lookup x ((if (k == NameKind.free && env.scope.kind == .function && env.kindOf n == some .cell) = true then (n, NameKind.cell) else (n, k)) :: r.map fun (n, k) => if (k == NameKind.free && env.scope.kind == .function && env.kindOf n == some .cell) then (n, NameKind.cell) else (n, k)) = some kd := h
   rw [hb, Bool.false_and, Bool.false_and, if_neg Bool.false_ne_true, List.lookup_cons] at h2
   cases hx : x == n with
   | true =>
    rw [hx] at h2
    cases h2
    rcases hk with z | z
    ·exact absurd z (hc (n, _) List.mem_cons_self)
    ·exact absurd z hf
   | false =>
    rw [hx] at h2
    exact List.mem_cons_of_mem _ (ih h2 hk hcr)
theorem nlt {a b : Nat} (h : a < b) : a ≠ b := Nat.ne_of_lt h
theorem ngt {a b : Nat} (h : a < b) : b ≠ a := Nat.ne_of_gt h
theorem jH {a b : Nat} (h : a < b) : a ≠ b + 1 := Nat.ne_of_lt (Nat.lt_succ_of_lt h)
theorem wV {a b : Nat} (h : a < b) : b + 1 ≠ a := Nat.ne_of_gt (Nat.lt_succ_of_lt h)
theorem nss (a : Nat) : a ≠ a + 1 := Nat.ne_of_lt (Nat.lt_succ_self a)
theorem xc (a : Nat) : a + 1 ≠ a := Nat.ne_of_gt (Nat.lt_succ_self a)
section
variable {X : Cx} {pins : List (Addr × Obj)} {σ : St} {H : Hp} {s : Shared} {scope : Scope} {own : List Str} {ix : List Nat} {fp : List Addr}
theorem Inv.compOk {N : List Str} (I : Inv X pins σ H s) (L : cv X.N X.env.scope scope own ix) (hf : ∀ b ∈ fp, gM X pins H b) (hlt : ∀ b ∈ fp, b < s.heap.objs.size) : (X.comp N scope fp s H).Ok where
 mod := I.ok.mod
 kind := L.kind
 glob := I.ok.glob
 blt := I.ok.blt
 above := Nat.le_succ _
 inj := fun x y c h1 h2 => I.ok.inj x y c (bm _ _ (fun _ _ z => by simp at z) x c h1) (bm _ _ (fun _ _ z => by simp at z) y c h2)
 has := fun x hx => by
  have hm : (x, NameKind.free) ∈ scope.names := by
   rcases hx with hx | hx
   ·exact bW (env := X.env) (x := x) (names := scope.names) hx (.inl rfl) L.nocell
   ·exact bW (env := X.env) (x := x) (names := scope.names) hx (.inr rfl) L.nocell
  exact cg (I.ok.has x (L.free _ hm rfl)) _ _ hm
 cab := fun x c h => by cases h
 hd := I.ok.hd
 frames := I.ok.frames
 stk := .inl rfl
 exf := fun b hb => ⟨jH (hlt b hb), fun x c e => (hf b hb).2.2.2.2.1 x c (bm _ _ (fun _ _ z => by simp at z) x c e)⟩
 bs := I.bs
 bsz := Nat.le_trans I.ok.bsz I.sz
 noex := fun b o e hb => by
  rcases (hf b hb).2.2.2.1 with z | z
  ·exact I.ok.noex b o e z
  ·exact absurd (Nat.lt_of_lt_of_le (Heap.lt_size e) (Nat.le_trans I.ok.bsz z)) (Nat.lt_irrefl _)
 exfs := fun b hb z => by
  rcases List.mem_cons.mp (I.stkSub b z) with e | e
  ·exact (hf b hb).2.1 e
  ·exact (hf b hb).2.2.1 e
 funs := I.stack
 frf := I.stkFree
theorem Inv.compStart {h1 : Heap} {tk : Nat} (I : Inv X pins σ H s) (L : cv X.N X.env.scope scope own ix) (hf : ∀ b ∈ fp, gM X pins H b) (hlt : ∀ b ∈ fp, b < s.heap.objs.size)
  (k : ∀ b o, s.heap.get? b = some o -> h1.get? b = some o) {m : Str -> Option Value} (hn : h1.Ns (s.heap.objs.size + 1) m) :
  Inv (X.comp (lcN X.N own ix) scope fp s H) [] (cS own.length ix σ) H { s with heap := h1, toks := tk } := by
 have sub := fun x c => bm (env := X.env) scope.names [] (fun _ _ z => by simp at z) x c
 refine ⟨I.compOk L hf hlt, rfl, I.bare, Un.kept k, ⟨m, hn, fun i x v e1 e2 e3 => ?_⟩, fun x c e => ?_, I.hok.fresh (Nat.le_succ _), fun x c e => I.freeC x c (sub x c e), fun p hp => absurd (show p ∈ ([] : List (Addr × Obj)) from hp) (by simp), I.hok.kept k, ?_⟩
 ·obtain ⟨i', j, rfl, hj, hv⟩ := iA e2
  have e1' : (lcN X.N own ix)[own.length + i']? = some x := e1
  unfold lcN at e1'
  rw [List.getElem?_append_right (Nat.le_add_right _ _), Nat.add_sub_cancel_left] at e1'
  obtain ⟨j', hj', hN⟩ := eh L.inN e1'
  rw [hj] at hj'
  cases hj'
  have hjm : j ∈ ix := List.mem_of_getElem? hj
  obtain ⟨hmem, hlk⟩ := L.cap j hjm x hN
  have hkind := L.free _ hmem rfl
  obtain ⟨m0, hn0, hl0⟩ := I.loc
  obtain ⟨u, r, l⟩ := hl0 j x v hN hv (by rcases hkind with z | z; exact .inr (.inl z); exact .inr (.inr z))
  refine ⟨u, r, .inr ⟨?_, ?_⟩⟩
  ·exact cc (env := X.env) hlk
  ·rcases l with ⟨kl, _⟩ | ⟨_, c, hc, hcell⟩
   ·have kl' : X.env.scope.names.lookup x = some .local := kl
    rcases hkind with z | z
    ·rw [kl'] at z; cases z
    ·rw [kl'] at z; cases z
   ·obtain ⟨c', hc'⟩ := cg (env := X.env) ⟨c, hc⟩ scope.names [] hmem
    have : c' = c := by
     have q := sub x c' hc'
     rw [hc] at q
     exact (Option.some.inj q).symm
    subst this
    obtain ⟨o, ho, hd⟩ := hcell
    exact ⟨c', hc', o, k _ _ ho, hd⟩
 ·obtain ⟨v, o, ho, hd⟩ := I.cell x c (sub x c e)
  exact ⟨v, o, k _ _ ho, hd⟩
 ·show (cS own.length ix σ).length = (lcN X.N own ix).length
  rw [sS L.inN]
  unfold cS
  rw [List.length_append, List.length_replicate, List.length_map]
def GW (k : Nat) (g : TG) : Prop := ∀ x (σ : St) H (Q : St -> Hp -> Prop), g x σ H Q -> g x σ H fun σ2 H2 => Q σ2 H2 /\ σ2.length = σ.length /\ ∀ j, k <= j -> σ2[j]? = σ[j]?
theorem iX {k i : Nat} (h : i < k) : GW k (cP i) := fun x σ H Q q => ⟨q, by simp, fun j hj => by rw [List.getElem?_set_ne (by omega)]⟩
def GWs (k : Nat) (g : TGs) : Prop := ∀ x (σ : St) H (Q : St -> Hp -> Prop), g x σ H Q -> g x σ H fun σ2 H2 => Q σ2 H2 /\ σ2.length = σ.length /\ ∀ j, k <= j -> σ2[j]? = σ[j]?
def GM (g : TG) : Prop := ∀ x (σ : St) H (Q Q' : St -> Hp -> Prop), (∀ s h, Q s h -> Q' s h) -> g x σ H Q -> g x σ H Q'
theorem jh {i : Nat} : GM (cP i) := fun _ _ _ _ _ h q => h _ _ q
theorem tK {k : Nat} : GWs k mE := fun x σ H Q q => ⟨q.1, q.2, rfl, fun _ _ => rfl⟩
theorem kC {k : Nat} {t : TG} {u : TGs} (ht : GW k t) (hu : GWs k u) (mt : GM t) (mu : ∀ x (σ : St) H (Q Q' : St -> Hp -> Prop), (∀ s h, Q s h -> Q' s h) -> u x σ H Q -> u x σ H Q') : GWs k (dY t u) := fun x σ H Q q => by
 obtain ⟨v, r, e, q⟩ := q
 refine ⟨v, r, e, mt _ _ _ _ _ ?_ (ht _ _ _ _ q)⟩
 rintro σ1 H1 ⟨q1, l1, j1⟩
 refine mu _ _ _ _ _ ?_ (hu _ _ _ _ q1)
 rintro σ2 H2 ⟨q2, l2, j2⟩
 exact ⟨q2, l2.trans l1, fun j hj => (j2 j hj).trans (j1 j hj)⟩
theorem oI : ∀ x (σ : St) H (Q Q' : St -> Hp -> Prop), (∀ s h, Q s h -> Q' s h) -> mE x σ H Q -> mE x σ H Q' := fun _ _ _ _ _ h q => ⟨q.1, h _ _ q.2⟩
theorem qO {t : TG} {u : TGs} (mt : GM t) (mu : ∀ x (σ : St) H (Q Q' : St -> Hp -> Prop), (∀ s h, Q s h -> Q' s h) -> u x σ H Q -> u x σ H Q') : ∀ x (σ : St) H (Q Q' : St -> Hp -> Prop), (∀ s h, Q s h -> Q' s h) -> dY t u x σ H Q -> dY t u x σ H Q' :=
 fun _ _ _ _ _ h ⟨v, r, e, q⟩ => ⟨v, r, e, mt _ _ _ _ _ (fun _ _ q1 => mu _ _ _ _ _ h q1) q⟩
theorem vy {k : Nat} {K : PySem.W.Frag} {n : Nat} {t : TGs} (ht : GWs k t) : GW k (rq K n t) := fun x σ H Q q => by
 obtain ⟨a, xs, e, hq, hl, q⟩ := q
 exact ⟨a, xs, e, hq, hl, ht _ _ _ _ q⟩
theorem rD {K : PySem.W.Frag} {i j k : Nat} (hi : i < k) (hj : j < k) : GW k (rq K 2 (dY (cP i) (dY (cP j) mE))) :=
 vy (kC (iX hi) (kC (iX hj) tK jh oI) jh (qO jh oI))
def PIf (X : Cx) (ifs : List Expr) (t : TT) : Prop :=
 ∀ (pins : List (Addr × Obj)) (s : Shared) (σ : St) (H : Hp) (Q : Bool -> Hp -> Prop), Inv X pins σ H s -> t σ H Q ->
  wpAny (model X.prog X.w) X.A (forIn ifs true fun c r => if r = true then do let ok <- isTrue c X.env (eval c X.env); pure (ForInStep.yield ok) else pure (ForInStep.yield r)) (TP X pins σ Q) X.xe s
def tL : TT := fun _ H Q => Q true H
theorem jM : PIf X [] tL := fun _ _ _ H _ I h => wpAny_tests_nil ⟨H, I, h⟩
def rLC (J : It) (k : Nat) (ix : List Nat) (g : TG) (tt : TT) (te : TE) (σ : St) (H1 : Hp) (Q : List V -> Hp -> Prop) : Prop :=
 ∃ W : Nat -> Nat -> List V -> Hp -> Prop, (∃ m, W 0 m [] H1) /\ ∀ i m ys H, W i m ys H ->
  (J.stop i H /\ Q ys H) \/
  (J.go i H /\ ∃ N : List V -> Hp -> Prop, (∀ ys' H', N ys' H' -> ∃ m', m' < m /\ W (i + 1) m' ys' H') /\ ∀ x H', J.yld i H x H' -> g x (cS k ix σ) H' fun σ2 H2 => tt σ2 H2 fun c H3 =>
   if c = true then te σ2 H3 fun y H4 => ys.length < sizeLine /\ N (ys ++ [y]) H4
   else N ys H3)
theorem lW {elt tg iter : Expr} {ifs : List Expr} {pos : Pos} {it : Addr} {tn : Nat -> Heap -> Prop} {J : It} {g : TG} {tt : TT} {te : TE} {E : Value -> Shared -> Prop} {Qf : List V -> Hp -> Prop} {RR : Value -> Addr -> Result -> Shared -> Prop}
  (L : cv X.N X.env.scope scope own ix) (hc : X.calm = true) (hg : ∀ fp s H, PG (X.comp (lcN X.N own ix) scope fp s H) tg g) (gw : GW own.length g)
  (ht : ∀ fp s H, PIf (X.comp (lcN X.N own ix) scope fp s H) ifs tt) (he : ∀ fp s H, PE (X.comp (lcN X.N own ix) scope fp s H) elt te)
  (I : Inv X pins σ H s) (T : nk X.prog X.w X.K tg J fp it tn) (st : tn 0 s.heap) (hf : ∀ b ∈ fp, gM X pins H b)
  (hw : rLC J own.length ix g tt te σ H Qf)
  (hRR : ∀ (D C : Addr) (s' : Shared) (ys : List V) (H' : Hp) (m : Str -> Option Value), s'.heap.Ns C m -> C ≠ X.env.locals -> (∀ x c, X.env.cells.lookup x = some c -> c ≠ C) -> X.s₀.heap.objs.size <= C -> (∀ p ∈ X.pn ++ pins, p.1 ≠ C) -> upd H' D (.lst ys) C = none -> H' D = none ->
   Inv X pins σ (upd H' D (.lst ys)) s' -> Qf ys H' -> RR (.ref D) C (.ok .next) s') :
  wpAny (model X.prog X.w) X.A (newList []) (fun acc s₃ => wpAny (model X.prog X.w) X.A (newFunctionEnv scope X.env.globals (aO X.env scope.names []) [] X.env.qual none .none (some X.env)) (fun cenv s₄ =>
   codeAny (model X.prog X.w) X.A (.compStart (.ListComp elt [⟨tg, iter, ifs, 0⟩] scope pos) 0 (.ref it) acc { cenv with scope := relabel scope X.env }) (RR acc cenv.locals) s₄) E s₃) E s := by
 obtain ⟨W, ⟨m0, w0⟩, turn⟩ := hw
 have hlt : ∀ b ∈ fp, b < s.heap.objs.size := fun b hb => by
  obtain ⟨o, e, _⟩ := T.obj 0 s.heap st b hb
  exact Heap.lt_size e
 refine wpAny_newObj_type (wpAny_newFunctionEnv L.nocell (by intro y hy; simp at hy) (fun h₁ hns₁ hsb₁ => ?_) L.kind)
 dsimp only at hns₁ hsb₁ ⊢
 generalize hH2 : s.heap.push { cls := .type "list", dict := none, data := .seq ([] : List Value).toArray } = h2 at hns₁ hsb₁ ⊢
 have hC : h2.objs.size = s.heap.objs.size + 1 := by rw [<- hH2, Heap.size_push]
 have old : ∀ b o, s.heap.get? b = some o -> h₁.get? b = some o := fun b o e => by
  exact hsb₁.extBut b o (by rw [hC]; exact jH (Heap.lt_size e)) (Heap.get?_push_of_some _ (hH2 ▸ Heap.get?_push_of_some _ e))
 have hacc : h₁.PlainList s.heap.objs.size #[] := ⟨_, hsb₁.extBut _ _ (by rw [hC]; exact nss _) (Heap.get?_push_of_some _ (hH2 ▸ Heap.get?_push_size _ rfl))⟩
 have hD0 : H s.heap.objs.size = none := I.hok.fresh (Nat.le_refl _)
 rw [hC] at hns₁
 have I0 := I.compStart (tk := s.toks + ([] : List (Str × Value)).length) L hf hlt old hns₁
 have sub := fun x c => bm (env := X.env) scope.names [] (fun _ _ z => by simp at z) x c
 have cellLt : ∀ x c, X.env.cells.lookup x = some c -> c < s.heap.objs.size := fun x c e => by
  obtain ⟨v, q⟩ := I.cell x c e
  exact q.lt
 have stkLt : ∀ b ∈ frs X.stack, b < s.heap.objs.size := fun b hb => by
  obtain ⟨_, o, ho, _⟩ := I.stack.mem hb
  exact Heap.lt_size ho
 have env_eq : ({ newEnv scope h2.objs.size X.env.globals (aO X.env scope.names []) X.env.qual none .none (some X.env) builtinsNs with scope := relabel scope X.env } : Env) = (X.comp (lcN X.N own ix) scope fp s H).env := by
  show compEnvC scope (aO X.env scope.names []) h2.objs.size X.env = compEnvC scope (aO X.env scope.names []) (s.heap.objs.size + 1) X.env
  rw [hC]
 have loop : codeAny (model X.prog X.w) X.A (.compLoop (.ListComp elt [⟨tg, iter, ifs, 0⟩] scope pos) 0 (.ref it) (.ref s.heap.objs.size) (X.comp (lcN X.N own ix) scope fp s H).env) (RR (.ref s.heap.objs.size) (s.heap.objs.size + 1))
   { s with heap := h₁, toks := s.toks + ([] : List (Str × Value)).length } := by
  refine tq (fun n s' => ∃ i ys H', Inv (X.comp (lcN X.N own ix) scope fp s H) [] (cS own.length ix σ) H' s' /\ tn i s'.heap /\ (∀ b ∈ fp, H' b = none) /\ H' s.heap.objs.size = none /\
   (∃ its : List Value, aG ys its /\ s'.heap.PlainList s.heap.objs.size its.toArray) /\ ys.length <= sizeLine /\ W i n ys H') ?_ m0
   ⟨0, [], H, I0, T.keep _ _ _ st (fun b _ o e => old b o e), fun b hb => (hf b hb).1, hD0, ⟨[], .nil, hacc⟩, Nat.zero_le _, w0⟩
  rintro n s3 ⟨i, ys, H3, I3, st3, fr3, d3, ⟨its, rv, n3, hp3⟩, hz, w3⟩
  have Ip := I3.pins_of (pins' := [(s.heap.objs.size, { cls := .type "list", data := .seq its.toArray n3 })]) (fun p hp => by
   have e : p = (s.heap.objs.size, { cls := .type "list", data := .seq its.toArray n3 }) := by simpa using hp
   subst e
   exact ⟨hp3, d3, nss _, fun z => absurd (stkLt _ z) (Nat.lt_irrefl _), fun v z => by cases z⟩)
  have stat : ∀ {H' : Hp}, (∀ b ∈ fp, H' b = none) -> ∀ b ∈ fp, gM (X.comp (lcN X.N own ix) scope fp s H) [(s.heap.objs.size, { cls := .type "list", data := .seq its.toArray n3 })] H' b := fun hn b hb =>
   ⟨hn b hb, jH (hlt b hb), I3.ok.exfs b hb, .inl hb, fun x c e => (I3.ok.exf b hb).2 x c e, fun p hp => by
    have e : p = (s.heap.objs.size, { cls := .type "list", data := .seq its.toArray n3 }) := by simpa using (show p ∈ ([] : List (Addr × Obj)) ++ [(s.heap.objs.size, { cls := .type "list", data := .seq its.toArray n3 })] from hp)
    subst e
    exact ngt (hlt b hb)⟩
  rcases turn i n ys H3 w3 with ⟨stop, qf⟩ | ⟨go, N, hN, step⟩
  ·refine thn (T.done (X.comp (lcN X.N own ix) scope fp s H) rfl rfl rfl hc i _ s3 _ H3 _ Ip (stat fr3) st3 stop) fun r s4 ⟨hr, I4⟩ => ?_
   subst hr
   obtain ⟨e4, d4, _⟩ := I4.pin (s.heap.objs.size, { cls := .type "list", data := .seq its.toArray n3 }) (List.mem_append_right _ List.mem_cons_self)
   obtain ⟨mC, hnC, _⟩ := I4.loc
   have hok : HOk X.prog X.w (upd H3 s.heap.objs.size (.lst ys)) s4.heap := fun b u e => by
    by_cases hb : b = s.heap.objs.size
    ·subst hb
     rw [ad] at e
     cases e
     exact ⟨hz, its, n3, rv, e4⟩
    ·rw [ap hb] at e
     exact (I4.hok b u e).stay (fun c v _ q => q) (fun c q => by rw [ap (ag q d4)]; exact q) fun c xs q => by rw [ap (ag q d4)]; exact q
   have ub := I4.base
   have un : Un (frs X.stack) fp H (upd H3 s.heap.objs.size (.lst ys)) s.heap s4.heap :=
    ⟨ub.keep, ub.slot, fun b o e n hx => by rw [ap (Nat.ne_of_lt (Heap.lt_size e))]; exact ub.free b o e n hx, ub.there,
     fun b xs e => by rw [ap (ag (ub.tups b xs e) d4)]; exact ub.tups b xs e, fun b o u e => by rw [ap (ag (ub.frzs b o u e) d4)]; exact ub.frzs b o u e,
     fun b ps e => by
      obtain ⟨more, q⟩ := ub.tbls b ps e
      exact ⟨more, by rw [ap (ag q d4)]; exact q⟩⟩
   have I5 : Inv X pins σ (upd H3 s.heap.objs.size (.lst ys)) s4 := I.call' I4.os un hok I4.bare fun b hb => by
    obtain ⟨f0, f1, f2, f3, f4, f5⟩ := hf b hb
    exact ⟨f3, f1, f4, f5⟩
   refine hRR _ _ s4 ys H3 mC hnC ?_ ?_ ?_ ?_ ?_ d4 I5 qf
   ·exact wV I.lt
   ·intro x c e
    exact jH (cellLt x c e)
   ·exact Nat.le_trans I.sz (Nat.le_succ _)
   ·intro p hp
    exact jH (Heap.lt_size (I.pin p hp).1)
   ·rw [ap (xc _)]
    exact I4.free
  ·refine thn (T.item (X.comp (lcN X.N own ix) scope fp s H) rfl rfl rfl hc i _ s3 _ H3 _ Ip (stat fr3) st3 go) fun r s4 ⟨u, hr, h4⟩ => ?_
   subst hr
   refine thn h4 fun _ s5 ⟨x, H5, I5, r5, y5, st5, fr5⟩ => ?_
   have I5' := I5.pinned (stat fr5) (T.obj _ _ st5)
   refine thn (hg fp s H _ s5 _ H5 x u _ I5' r5 (gw _ _ _ _ (step x H5 y5))) fun _ s6 ⟨σ6, H6, I6, q6, l6, k6⟩ => ?_
   refine thn (ht fp s H _ s6 σ6 H6 _ I6 q6) fun c s7 ⟨H7, I7, q7⟩ => ?_
   have again : ∀ {s8 : Shared} {H8 : Hp}, Inv (X.comp (lcN X.N own ix) scope fp s H) ([(s.heap.objs.size, { cls := .type "list", data := .seq its.toArray n3 })] ++ gZ fp s5.heap) σ6 H8 s8 ->
     Inv (X.comp (lcN X.N own ix) scope fp s H) [] (cS own.length ix σ) H8 s8 /\ tn (i + 1) s8.heap /\ (∀ b ∈ fp, H8 b = none) /\ H8 s.heap.objs.size = none /\ s8.heap.get? s.heap.objs.size = some { cls := .type "list", data := .seq its.toArray n3 } := fun {s8 H8} I8 => by
    obtain ⟨e8, d8, _⟩ := I8.pin (s.heap.objs.size, { cls := .type "list", data := .seq its.toArray n3 }) (List.mem_append_right _ (List.mem_append_left _ List.mem_cons_self))
    refine ⟨(I8.pins_of (pins' := []) fun p hp => by cases hp).weak l6.symm fun j v e => ?_, T.keep _ _ _ st5 fun b hb o e => (I8.pin (b, o) (List.mem_append_right _ (List.mem_append_right _ (dg hb e)))).1, fun b hb => ?_, d8, e8⟩
    ·obtain ⟨i', j', rfl, _, _⟩ := iA e
     rw [k6 _ (Nat.le_add_right _ _)]
     exact e
    ·obtain ⟨o, e, d⟩ := T.obj _ _ st5 b hb
     exact (I8.pin (b, o) (List.mem_append_right _ (List.mem_append_right _ (dg hb e)))).2.1
   cases c with
   | false =>
    rw [if_neg Bool.false_ne_true] at q7 ⊢
    obtain ⟨m', hm, w7⟩ := hN _ _ q7
    obtain ⟨a1, a2, a3, a4, a5⟩ := again I7
    exact ⟨m', hm, i + 1, ys, H7, a1, a2, a3, a4, ⟨its, rv, n3, a5⟩, hz, w7⟩
   | true =>
    rw [if_pos rfl] at q7 ⊢
    refine thn (he fp s H _ s7 σ6 H7 _ I7 q7) fun v s8 ⟨y, H8, I8, r8, hz8, q8⟩ => ?_
    obtain ⟨m', hm, w8⟩ := hN _ _ q8
    obtain ⟨a1, a2, a3, a4, a5⟩ := again I8
    refine wpAny_list_append_plain (s := s8) (l := s.heap.objs.size) (items := its.toArray) ⟨n3, a5⟩ (fun h9 hl9 hs9 => ?_) (by have := rv.length; simp; omega)
    have I9 : Inv (X.comp (lcN X.N own ix) scope fp s H) [] (cS own.length ix σ) H8 { s8 with heap := h9 } := a1.turned (t' := s8.toks) (it := s.heap.objs.size) (fun b o hb e => hs9.extBut b o hb e) a4 (nss _)
     (.inr (Nat.le_refl _)) (fun x c e => nlt (cellLt x c (sub x c e))) (fun p hp => absurd (show p ∈ ([] : List (Addr × Obj)) from hp) (by simp))
    refine ⟨m', hm, i + 1, ys ++ [y], H8, I9, T.keep _ _ _ a2 (fun b hb o e => hs9.extBut b o (nlt (hlt b hb)) e), a3, a4, ⟨its ++ [v], aG.append rv (.cons r8 .nil), ?_⟩, ?_, w8⟩
    ·have e : (its ++ [v]).toArray = its.toArray.push v := by simp
     rw [e]
     exact hl9
    ·rw [List.length_append]
     show _ + 1 <= _
     omega
 show codeAny _ _ (.compStart _ 0 (.ref it) (.ref s.heap.objs.size) _) (RR (.ref s.heap.objs.size) h2.objs.size) _
 rw [hC]
 have e2 := env_eq
 rw [hC] at e2
 refine Eq.mpr (congrArg (fun e => codeAny (model X.prog X.w) X.A (.compStart (.ListComp elt [⟨tg, iter, ifs, 0⟩] scope pos) 0 (.ref it) (.ref s.heap.objs.size) e) (RR (.ref s.heap.objs.size) (s.heap.objs.size + 1)) { s with heap := h₁, toks := s.toks + ([] : List (Str × Value)).length }) e2) ?_
 exact codeAny_compStart_list loop (T.self X.A 0 _ _ _ (T.keep _ _ _ st fun b _ o e => old b o e) loop)
end
section
variable {X : Cx} {scope : Scope} {own : List Str} {ix : List Nat}
def tLC (wi : TI) (k : Nat) (ix : List Nat) (g : TG) (tt : TT) (te : TE) : TE := fun σ H Q => wi σ H fun J H1 => rLC J k ix g tt te σ H1 fun ys H' => ∀ a, H' a = none -> Q (.ref a) (upd H' a (.lst ys))
theorem Inv.clos {pins : List (Addr × Obj)} {σ : St} {H : Hp} {s : Shared} (I : Inv X pins σ H s) (L : cv X.N X.env.scope scope own ix) : closureFor scope X.env = pure (aO X.env scope.names []) :=
 lK fun x hx hf => I.ok.has x.1 (L.free x hx hf)
theorem tW {elt tg iter : Expr} {ifs : List Expr} {pos : Pos} {wi : TI} {g : TG} {tt : TT} {te : TE} (hi : PI X tg iter wi) (L : cv X.N X.env.scope scope own ix) (hc : X.calm = true)
  (hg : ∀ fp s H, PG (X.comp (lcN X.N own ix) scope fp s H) tg g) (gw : GW own.length g) (ht : ∀ fp s H, PIf (X.comp (lcN X.N own ix) scope fp s H) ifs tt) (he : ∀ fp s H, PE (X.comp (lcN X.N own ix) scope fp s H) elt te)
  (hs : ∀ x, foldedSetIterable iter X.env x = pure x := by intro _; rfl) : PE X (.ListComp elt [⟨tg, iter, ifs, 0⟩] scope pos) (tLC wi own.length ix g tt te) := by
 intro pins s σ H Q I h
 rw [eval_ListComp]
 refine wpAny_comprehension_free (use := none) rfl hs (I.clos L) L.kind L.names (thn (hi pins s σ H _ I h) fun v s1 h1 => thn h1 fun itv s2 h2 => ?_)
 obtain ⟨it, fp, tn, J, H2, e, I2, T, st2, f2, hw⟩ := h2
 subst e
 refine lW (RR := fun acc C => compPost (model X.prog X.w) X.A X.xe none (EP X pins σ Q) acc C) L hc hg gw ht he I2 T st2 f2 hw ?_
 intro D C s' ys H' m hn c1 c2 c3 c4 c5 d I' q
 exact ⟨m, hn, fun h' hs' => ⟨.ref D, _, I'.turned (t' := s'.toks) (it := C) (fun b o hb e => hs'.extBut b o hb e) c5 c1 (.inr c3) c2 c4, rfl, q D d⟩⟩
theorem vS {elt tg iter : Expr} {ifs : List Expr} {pos spos py : Pos} {wi : TI} {g : TG} {tt : TT} {te : TE} {i : Nat} {y : Str} (hN : X.N.Nodup) (hy : X.N[i]? = some y) (hx : X.env.scope.names.lookup y = some .local) (hi : PI X tg iter wi) (L : cv X.N X.env.scope scope own ix) (hc : X.calm = true)
  (hg : ∀ fp s H, PG (X.comp (lcN X.N own ix) scope fp s H) tg g) (gw : GW own.length g) (ht : ∀ fp s H, PIf (X.comp (lcN X.N own ix) scope fp s H) ifs tt) (he : ∀ fp s H, PE (X.comp (lcN X.N own ix) scope fp s H) elt te)
  (hsw : swapsWith (.ListComp elt [⟨tg, iter, ifs, 0⟩] scope pos) (some (.Name y py)) spos.line X.env = pure true := by rfl)
  (hs : ∀ x, foldedSetIterable iter X.env x = pure x := by intro _; rfl) : PS X (.Assign [.Name y py] (.ListComp elt [⟨tg, iter, ifs, 0⟩] scope pos) spos) (ur (tLC wi own.length ix g tt te) (cP i)) := by
 intro pins s σ H Dn I h
 rw [exec_Assign_Name_used _ _ _ _ hsw]
 refine wpAny_bind (wpAny_standAt (wpAny_bind ?_))
 show wpAny _ X.A (do let _ <- comprehension (.ListComp elt [⟨tg, iter, ifs, 0⟩] scope pos) scope X.env _ (newList []) false (eval iter X.env) (some (assign (.Name y py) X.env))) _ _ s
 refine wpAny_bind (thn (wpAny_comprehension_free (use := some (assign (.Name y py) X.env)) (Q := fun _ s' => SP X pins Dn .next s') rfl hs (I.clos L) L.kind L.names
  (thn (hi pins s σ H _ I h) fun v s1 h1 => thn h1 fun itv s2 h2 => ?_)) fun _ s' hq => wpAny_pure (wpAny_pure hq))
 obtain ⟨it, fp, tn, J, H2, e, I2, T, st2, f2, hw⟩ := h2
 subst e
 refine lW (RR := fun acc C => compPost (model X.prog X.w) X.A X.xe (some (assign (.Name y py) X.env)) (fun _ s' => SP X pins Dn .next s') acc C) L hc hg gw ht he I2 T st2 f2 hw ?_
 intro D C s' ys H' m hn c1 c2 c3 c4 c5 d I' q
 show wpAny _ X.A (assign (.Name y py) X.env (.ref D)) _ _ s'
 refine wpAny_assign_Name (iR I' hN hy (.inl hx) (v := .ref D) rfl (fun s2 I2 ⟨a, hs2, ha⟩ => ?_) (.inr hx))
 have aC : a ≠ C := by
  rcases ha with rfl | ha
  ·exact Ne.symm c1
  ·exact c2 y a ha
 refine ⟨m, hn.sameBut hs2 (Ne.symm aC), fun h' hs' => ?_⟩
 exact ⟨_, _, I2.turned (t' := s2.toks) (it := C) (fun b o hb e => hs'.extBut b o hb e) c5 c1 (.inr c3) c2 c4, q D d⟩
end
section
variable {k : Nat} {ix : List Nat} {g : TG} {tt : TT} {te : TE} {σ : St} {H1 : Hp} {Q : List V -> Hp -> Prop}
def fM (k : Nat) (ix : List Nat) (g : TG) (tt : TT) (te : TE) (σ : St) (x : V) (ys : List V) (H : Hp) (N : List V -> Hp -> Prop) : Prop :=
 g x (cS k ix σ) H fun σ2 H2 => tt σ2 H2 fun c H3 => if c = true then te σ2 H3 fun y H4 => ys.length < sizeLine /\ N (ys ++ [y]) H4 else N ys H3
theorem ua {J : It} {n : Nat} (Pv : Nat -> List V -> Hp -> Prop) (h0 : Pv 0 [] H1) (hgo : ∀ i ys H, i < n -> Pv i ys H -> J.go i H) (hst : ∀ ys H, Pv n ys H -> J.stop n H)
  (hs : ∀ i ys H x H', i < n -> Pv i ys H -> J.yld i H x H' -> fM k ix g tt te σ x ys H' (Pv (i + 1))) (hd : ∀ ys H, Pv n ys H -> Q ys H) : rLC J k ix g tt te σ H1 Q := by
 refine ⟨fun i m ys H => m = n - i /\ i <= n /\ Pv i ys H, ⟨n, by simp, Nat.zero_le _, h0⟩, ?_⟩
 rintro i m ys H ⟨rfl, hi, p⟩
 by_cases hlt : i < n
 ·exact .inr ⟨hgo i ys H hlt p, Pv (i + 1), fun ys' H' q => ⟨n - (i + 1), by omega, rfl, hlt, q⟩, fun x H' y => hs i ys H x H' hlt p y⟩
 ·have e : i = n := by omega
  subst e
  exact .inl ⟨hst ys H p, hd ys H p⟩
theorem rO {lo : Int} {n : Nat} (Pv : Nat -> List V -> Hp -> Prop) (h0 : Pv 0 [] H1) (hs : ∀ i ys H, i < n -> Pv i ys H -> fM k ix g tt te σ (.int (lo + i)) ys H (Pv (i + 1)))
  (hd : ∀ ys H, Pv n ys H -> Q ys H) : rLC (Itr lo n) k ix g tt te σ H1 Q :=
 ua (n := n) Pv h0 (fun i _ _ h _ => h) (fun _ _ _ => Nat.le_refl _) (fun i ys H x H' h p y => by
  obtain ⟨e, y⟩ := y
  subst e y
  exact hs i ys _ h p) hd
theorem qp {K : PySem.W.Frag} {a : Addr} {xs : List V} (Pv : Nat -> List V -> Hp -> Prop) (h0 : Pv 0 [] H1) (hl : ∀ i ys H, i <= xs.length -> Pv i ys H -> SqT K H a xs)
  (hs : ∀ i ys H x, xs[i]? = some x -> Pv i ys H -> fM k ix g tt te σ x ys H (Pv (i + 1))) (hd : ∀ ys H, Pv xs.length ys H -> Q ys H) : rLC (Itt K a) k ix g tt te σ H1 Q :=
 ua (n := xs.length) Pv h0 (fun i ys H h p => ⟨xs, xs[i], hl i ys H (Nat.le_of_lt h) p, by simp [h]⟩) (fun ys H p => ⟨xs, hl _ ys H (Nat.le_refl _) p, Nat.le_refl _⟩) (fun i ys H x H' h p y => by
  obtain ⟨e, y⟩ := y
  subst e
  exact hs i ys _ x (y xs (hl i ys _ (Nat.le_of_lt h) p)) p) hd
end
section
variable {X : Cx} {tg : Expr}
theorem Inv.fp1 {pins : List (Addr × Obj)} {σ : St} {H : Hp} {s : Shared} (I : Inv X pins σ H s) : ∀ b ∈ [s.heap.objs.size], gM X pins H b := fun b hb => by
 have e : b = s.heap.objs.size := by simpa using hb
 subst e
 exact I.fpOk (Nat.le_refl _) (I.hok.fresh (Nat.le_refl _))
theorem KV.at {kvs : List (Key × V)} {vs : List (Key × Value)} (r : KV kvs vs) {i : Nat} {k : Key} {v : Value} (e : vs[i]? = some (k, v)) : ∃ x, kvs[i]? = some (k, x) /\ aJ x v := by
 induction r generalizing i with
 | nil => simp at e
 | @cons p q ps qs h t ih =>
  cases i with
  | zero =>
   have e' : q = (k, v) := by simpa using e
   obtain ⟨p1, p2⟩ := p
   subst e'
   obtain ⟨h1, h2⟩ := h
   have h1' : p1 = k := h1
   subst h1'
   exact ⟨p2, rfl, h2⟩
  | succ i => exact ih (by simpa using e)
theorem qZ {P : Program} {w : World} {k : Key} {u : Value} (h : (am P w).is k u = true) : aJ (kV k) u := by
 rcases aV (k := k) (v := u) h with ⟨i, t, rfl, rfl⟩ | ⟨x, t, rfl, rfl⟩
 ·exact ⟨t, rfl⟩
 ·exact ⟨t, rfl⟩
end
section
variable {X : Cx}
theorem mn : OpR X (binaryOp .Mult) (fun x y H Q => ∃ i n, x = .str i /\ y = .int n /\ i.length <= 1000 /\ 0 <= n /\ n <= 1000 /\ Q (.str (Txt.mul i n)) H) := by
 intro pins s σ H x y v u Q I rx ry h
 obtain ⟨i, n, rfl, rfl, h1, h2, h3, q⟩ := h
 obtain ⟨t, rfl⟩ := rx
 obtain ⟨t', rfl⟩ := ry
 exact SB.mul (PyProof.Rows.mulOk_of 1000 1000 h1 (by omega) (by omega) (by decide) (by decide)) fun t' k => ⟨.str _, H, I.tok _, ⟨_, rfl⟩, q⟩
theorem gG : bB X (.builtin "isinstance") (fun xs H Q => ∃ x t n b, xs = [x, .ty n] /\ dU X.K H x t /\ PySem.W.kitOne X.K t (.type n) = some b /\ Q (.bl b) H) := by
 intro pins s σ H xs us Q I r h
 obtain ⟨x, t, n, b, rfl, ty, e, q⟩ := h
 obtain ⟨u, w', rfl, rx, rn⟩ := tQ r
 cases rn
 exact pI I rx ty e fun tk => ⟨.bl b, H, I.tok tk, rfl, q⟩
theorem jC : ∀ {ys : List Str} {us : List Value}, aG (ys.map V.str) us -> StrsAre us ys
 | [], _, .nil => .nil
 | y :: ys, u :: us, .cons r t => by
  obtain ⟨k, rfl⟩ := r
  exact .cons y k (jC t)
theorem jy : SlR X (fun x lo hi H Q => ∃ z, x = .str z /\ z.length <= sizeLine /\ Q (.str (Txt.slice z lo hi)) H) := by
 intro pins s σ H x v vl vu lo hi sl Q I rx hs pl pu h
 obtain ⟨z, rfl, hz, q⟩ := h
 obtain ⟨t, rfl⟩ := rx
 refine ⟨"str", _, slot_str_getitem.lookup, typeIs_str _ _ _, ?_⟩
 have fin : (Txt.slice z lo hi).length <= sizeLine /\ ∀ t' k, EP X pins σ Q (.str (Txt.slice z lo hi) t') { s with toks := k } := ⟨Nat.le_trans (Txt.slice_le z _ _) hz, fun t' k => ⟨.str _, H, I.tok _, ⟨_, rfl⟩, q⟩⟩
 cases pl with
 | none =>
  cases pu with
  | none => exact wpAny_getItem_str_slice (l := none) (u := none) (st := none) hs rfl (post_val_or_str fin)
  | int j uj => exact wpAny_getItem_str_slice (l := none) (u := some (j, uj)) (st := none) hs rfl (post_val_or_str fin)
 | int i ui =>
  cases pu with
  | none => exact wpAny_getItem_str_slice (l := some (i, ui)) (u := none) (st := none) hs rfl (post_val_or_str fin)
  | int j uj => exact wpAny_getItem_str_slice (l := some (i, ui)) (u := some (j, uj)) (st := none) hs rfl (post_val_or_str fin)
end
open PySem PySem.Spec PyProof.Rows PySem.W
section
variable {cmp : Nat -> Nat -> (Bool -> Shared -> Prop) -> Shared -> Prop} {lt : Nat -> Nat -> Bool} {n : Nat} {s : Shared}
structure Ord (cmp : Nat -> Nat -> (Bool -> Shared -> Prop) -> Shared -> Prop) (lt : Nat -> Nat -> Bool) (n : Nat) (s : Shared) : Prop where
 ask : ∀ i j C, i < n -> j < n -> i ≠ j -> C (lt i j) s -> cmp i j C s
 tr : ∀ i j k, lt i j = true -> lt j k = true -> lt i k = true
 tot : ∀ i j, i < n -> j < n -> i ≠ j -> lt i j = false -> lt j i = true
 asym : ∀ i j, lt i j = true -> lt j i = false
structure Re (n : Nat) (p : Array Nat) : Prop where
 size : p.size = n
 lt : ∀ i, i < n -> p.getD i 0 < n
 inj : ∀ i j, i < n -> j < n -> i ≠ j -> p.getD i 0 ≠ p.getD j 0
 perm : p.Perm (List.toArray (List.range n))
theorem Re.of_perm {p : Array Nat} (h : p.Perm (List.toArray (List.range n))) : Re n p := by
 have hs : p.size = n := by have := h.size_eq; simpa using this
 have hl : p.toList.Perm (List.range n) := by simpa using Array.perm_iff_toList_perm.mp h
 have nd : p.toList.Nodup := (List.Perm.nodup_iff hl).mpr List.nodup_range
 have get : ∀ i, (hi : i < n) -> p.getD i 0 = p.toList[i]'(by simpa [hs] using hi) := fun i hi => by
  simp [Array.getD, hs, hi]
 refine ⟨hs, fun i hi => ?_, fun i j hi hj hij e => ?_, h⟩
 ·have hm : p.getD i 0 ∈ p.toList := by rw [get i hi]; exact List.getElem_mem _
  exact List.mem_range.mp ((List.Perm.mem_iff hl).mp hm)
 ·rw [get i hi, get j hj] at e
  exact hij ((List.getElem_inj nd).mp e)
def Up (lt : Nat -> Nat -> Bool) (p : Array Nat) (m : Nat) : Prop := ∀ i j, i < j -> j < m -> lt (p.getD i 0) (p.getD j 0) = true
def Dn (lt : Nat -> Nat -> Bool) (p : Array Nat) (m : Nat) : Prop := ∀ i j, i < j -> j < m -> lt (p.getD j 0) (p.getD i 0) = true
theorem Up.next {p : Array Nat} {m : Nat} (O : Ord cmp lt n s) (h : Up lt p m) (h1 : 1 <= m) (hq : lt (p.getD (m - 1) 0) (p.getD m 0) = true) : Up lt p (m + 1) := fun i j hij hj => by
 by_cases e : j = m
 ·subst e
  by_cases e2 : i = j - 1
  ·subst e2; exact hq
  ·exact O.tr _ _ _ (h i (j - 1) (by omega) (by omega)) hq
 ·exact h i j hij (by omega)
theorem Dn.next {p : Array Nat} {m : Nat} (O : Ord cmp lt n s) (h : Dn lt p m) (h1 : 1 <= m) (hq : lt (p.getD m 0) (p.getD (m - 1) 0) = true) : Dn lt p (m + 1) := fun i j hij hj => by
 by_cases e : j = m
 ·subst e
  by_cases e2 : i = j - 1
  ·subst e2; exact hq
  ·exact O.tr _ _ _ hq (h i (j - 1) (by omega) (by omega))
 ·exact h i j hij (by omega)
theorem fR {p : Array Nat} {Q : Nat -> Shared -> Prop} (O : Ord cmp lt n s) (r : Re n p) : ∀ (f m : Nat), 1 <= m -> m + f <= n -> Up lt p m -> (∀ m', m <= m' -> m' <= m + f -> Up lt p m' -> (m' = m + f \/ lt (p.getD m' 0) (p.getD (m' - 1) 0) = true) -> Q m' s) -> (kas_asc p f m).kasWp cmp Q s
 | 0, m, h1, hm, u, q => q m (Nat.le_refl _) (Nat.le_refl _) u (.inl rfl)
 | f + 1, m, h1, hm, u, q => by
  show cmp _ _ _ s
  refine O.ask _ _ _ (r.lt m (by omega)) (r.lt (m - 1) (by omega)) (r.inj _ _ (by omega) (by omega) (by omega)) ?_
  cases c : lt (p.getD m 0) (p.getD (m - 1) 0) with
  | true =>
   show (KasT.ret m).kasWp cmp Q s
   exact q m (Nat.le_refl _) (by omega) u (.inr c)
  | false =>
   show (kas_asc p f (m + 1)).kasWp cmp Q s
   have hq := O.tot _ _ (r.lt m (by omega)) (r.lt (m - 1) (by omega)) (r.inj _ _ (by omega) (by omega) (by omega)) c
   refine fR O r f (m + 1) (by omega) (by omega) (u.next O h1 hq) fun m' a b c d => q m' (by omega) (by omega) c ?_
   rcases d with d | d
   ·exact .inl (by omega)
   ·exact .inr d
theorem oe {p : Array Nat} {Q : Array Nat × Nat × Nat -> Shared -> Prop} (O : Ord cmp lt n s) (r : Re n p) : ∀ (f m : Nat), 1 <= m -> m + f <= n -> Dn lt p m -> (∀ m', m <= m' -> m' <= m + f -> Dn lt p m' -> Q (p, m', 0) s) -> (kas_desc f p m 0).kasWp cmp Q s
 | 0, m, h1, hm, u, q => q m (Nat.le_refl _) (Nat.le_refl _) u
 | f + 1, m, h1, hm, u, q => by
  show cmp _ _ _ s
  refine O.ask _ _ _ (r.lt m (by omega)) (r.lt (m - 1) (by omega)) (r.inj _ _ (by omega) (by omega) (by omega)) ?_
  cases c : lt (p.getD m 0) (p.getD (m - 1) 0) with
  | true =>
   show (kas_desc f p (m + 1) 0).kasWp cmp Q s
   exact oe O r f (m + 1) (by omega) (by omega) (u.next O h1 c) fun m' a b c => q m' (by omega) (by omega) c
  | false =>
   show cmp _ _ _ s
   refine O.ask _ _ _ (r.lt (m - 1) (by omega)) (r.lt m (by omega)) (r.inj _ _ (by omega) (by omega) (by omega)) ?_
   rw [O.tot _ _ (r.lt m (by omega)) (r.lt (m - 1) (by omega)) (r.inj _ _ (by omega) (by omega) (by omega)) c]
   show (KasT.ret (p, m, 0)).kasWp cmp Q s
   exact q m (Nat.le_refl _) (by omega) u
theorem nQ {p : Array Nat} {m k : Nat} (hm : m <= p.size) : (kas_rev p 0 m).getD k 0 = if k < m then p.getD (m - 1 - k) 0 else p.getD k 0 := by
 have h := getElem?_mirror_all (xs := p) (i := 0) (j := m) hm k
 have e1 : ∀ (a : Array Nat) (i : Nat), a.getD i 0 = (a[i]?).getD 0 := fun a i => by rw [Array.getD_eq_getD_getElem?]
 rw [e1]
 unfold kas_rev
 rw [h]
 by_cases hk : k < m
 ·rw [if_pos hk]
  simp only [e1]
  rw [if_pos (by omega)]
  congr 2
  omega
 ·rw [if_neg hk]
  simp only [e1]
  rw [if_neg (by omega)]
theorem qV {p : Array Nat} {m : Nat} (r : Re n p) : Re n (kas_rev p 0 m) := Re.of_perm ((mirror_perm p 0 m _).trans r.perm)
theorem gK {Q : Nat × Array Nat -> Shared -> Prop} {p : Array Nat} (O : Ord cmp lt n s) (r : Re n p) (h2 : 2 <= n) (q : ∀ m p', Re n p' -> 1 <= m -> m <= n -> Up lt p' m -> Q (m, p') s) : (kas_count n p).kasWp cmp Q s := by
 unfold kas_count
 rw [KasT.kasWp_bind]
 refine fR O r (n - 1) 1 (Nat.le_refl _) (by omega) (fun i j h1 h2 => by omega) fun m a b u e => ?_
 by_cases hm : (m == n) = true
 ·rw [if_pos hm]
  exact q m p r a (by omega) u
 ·rw [if_neg hm]
  have hmn : m ≠ n := by simpa using hm
  by_cases h1 : m > 1
  ·rw [if_pos h1]
   show cmp _ _ _ s
   refine O.ask _ _ _ (r.lt 0 (by omega)) (r.lt (m - 1) (by omega)) (r.inj _ _ (by omega) (by omega) (by omega)) ?_
   rw [u 0 (m - 1) (by omega) (by omega)]
   show (KasT.ret (m, p)).kasWp cmp Q s
   exact q m p r a (by omega) u
  ·rw [if_neg h1]
   have e1 : m = 1 := by omega
   subst e1
   have hd : lt (p.getD 1 0) (p.getD 0 0) = true := by
    rcases e with e | e
    ·omega
    ·exact e
   unfold kas_descPart
   rw [KasT.kasWp_bind]
   refine oe O r (n - (1 + 1)) (1 + 1) (by omega) (by omega) (fun i j h1 h2 => ?_) fun m' a' b' dn => ?_
   ·have : i = 0 := by omega
    have : j = 1 := by omega
    subst_vars
    exact hd
   ·show (if (0 : Nat) > 0 then _ else kas_tail3 m' n p).kasWp cmp Q s
    rw [if_neg (by omega)]
    unfold kas_tail3
    rw [KasT.kasWp_bind]
    have up : Up lt (kas_rev p 0 m') m' := fun i j hij hj => by
     rw [nQ (by rw [r.size]; omega), nQ (by rw [r.size]; omega), if_pos (by omega), if_pos (by omega)]
     exact dn _ _ (by omega) (by omega)
    refine fR O (qV r) (n - m') m' (by omega) (by omega) up fun m2 a2 b2 u2 _ => ?_
    exact q m2 _ (qV r) (by omega) (by omega) u2
theorem gH {p : Array Nat} {k : Nat} {Q : Nat -> Shared -> Prop} (O : Ord cmp lt n s) (r : Re n p) (hk : k < n) (u : Up lt p k) (q : ∀ l, l <= k -> (∀ i, i < l -> lt (p.getD i 0) (p.getD k 0) = true) -> (∀ i, l <= i -> i < k -> lt (p.getD k 0) (p.getD i 0) = true) -> Q l s) :
  ∀ (f l e : Nat), l <= e -> e <= k -> e - l <= f -> (∀ i, i < l -> lt (p.getD i 0) (p.getD k 0) = true) -> (∀ i, e <= i -> i < k -> lt (p.getD k 0) (p.getD i 0) = true) -> (kas_place p k f l e).kasWp cmp Q s
 | 0, l, e, h1, h2, h3, a, b => q l (by omega) a fun i hi hk' => b i (by omega) hk'
 | f + 1, l, e, h1, h2, h3, a, b => by
  show (if l >= e then KasT.ret l else _).kasWp cmp Q s
  by_cases h : l >= e
  ·rw [if_pos h]
   exact q l (by omega) a fun i hi hk' => b i (by omega) hk'
  ·rw [if_neg h]
   show cmp _ _ _ s
   have hm : (l + e) / 2 < k := by omega
   refine O.ask _ _ _ (r.lt k hk) (r.lt _ (by omega)) (r.inj _ _ hk (by omega) (by omega)) ?_
   cases c : lt (p.getD k 0) (p.getD ((l + e) / 2) 0) with
   | true =>
    show (kas_place p k f l ((l + e) / 2)).kasWp cmp Q s
    refine gH O r hk u q f l _ (by omega) (by omega) (by omega) a fun i hi hk' => ?_
    by_cases ei : i = (l + e) / 2
    ·subst ei; exact c
    ·exact O.tr _ _ _ c (u _ i (by omega) hk')
   | false =>
    show (kas_place p k f ((l + e) / 2 + 1) e).kasWp cmp Q s
    have c' := O.tot _ _ (r.lt k hk) (r.lt _ (by omega)) (r.inj _ _ hk (by omega) (by omega)) c
    refine gH O r hk u q f _ e (by omega) h2 (by omega) (fun i hi => ?_) b
    by_cases ei : i = (l + e) / 2
    ·subst ei; exact c'
    ·exact O.tr _ _ _ (u i _ (by omega) hm) c'
theorem nB {p : Array Nat} {k d j : Nat} (hk : k < p.size) (hd : d <= k) : (bubble p k d).getD j 0 = if j < k - d \/ k < j then p.getD j 0 else if j = k - d then p.getD k 0 else p.getD (j - 1) 0 := by
 have e1 : ∀ (a : Array Nat) (i : Nat), a.getD i 0 = (a[i]?).getD 0 := fun a i => by rw [Array.getD_eq_getD_getElem?]
 have h := getElem?_bubble (xs := p) (src := k) hk d hd j
 rw [e1, h]
 by_cases a : j = k - d
 ·rw [if_pos a, if_neg (by omega), if_pos a, e1]
 ·rw [if_neg a]
  by_cases b : k - d < j /\ j <= k
  ·rw [if_pos b, if_neg (by omega), if_neg a, e1]
  ·rw [if_neg b, if_pos (by omega), e1]
theorem gU {Q : Array Nat -> Shared -> Prop} (O : Ord cmp lt n s) (q : ∀ p, Re n p -> Up lt p n -> Q p s) : ∀ (f k : Nat) (p : Array Nat), Re n p -> 1 <= k -> k + f = n -> Up lt p k -> (kas_bin f p k).kasWp cmp Q s
 | 0, k, p, r, h1, hn, u => q p r (by rw [<- hn]; exact u)
 | f + 1, k, p, r, h1, hn, u => by
  show ((kas_place p k k 0 k).bind fun l => kas_bin f (bubble p k (k - l)) (k + 1)).kasWp cmp Q s
  rw [KasT.kasWp_bind]
  refine gH O r (by omega) u (fun l hl a b => ?_) k 0 k (Nat.zero_le _) (Nat.le_refl _) (by omega) (fun i hi => by omega) (fun i h1 h2 => by omega)
  have hks : k < p.size := by rw [r.size]; omega
  refine gU O q f (k + 1) _ (Re.of_perm ((bubble_perm p k _).trans r.perm)) (by omega) (by omega) fun i j hij hj => ?_
  rw [nB hks (by omega), nB hks (by omega)]
  have ek : k - (k - l) = l := by omega
  rw [ek]
  by_cases hi : i < l
  ·rw [if_pos (.inl hi)]
   by_cases hj2 : j < l
   ·rw [if_pos (.inl hj2)]; exact u i j hij (by omega)
   ·rw [if_neg (by omega)]
    by_cases hj3 : j = l
    ·rw [if_pos hj3]; exact a i hi
    ·rw [if_neg hj3]; exact u i (j - 1) (by omega) (by omega)
  ·rw [if_neg (by omega)]
   by_cases hi2 : i = l
   ·rw [if_pos hi2, if_neg (by omega), if_neg (by omega)]
    exact b (j - 1) (by omega) (by omega)
   ·rw [if_neg hi2, if_neg (by omega), if_neg (by omega)]
    exact u (i - 1) (j - 1) (by omega) (by omega)
theorem oA {Q : Array Nat -> Shared -> Prop} (O : Ord cmp lt n s) (h2 : 2 <= n) (q : ∀ p, Re n p -> Up lt p n -> Q p s) : (kas_sort n).kasWp cmp Q s := by
 unfold kas_sort
 rw [KasT.kasWp_bind]
 refine gK O (Re.of_perm (Array.Perm.refl _)) h2 fun m p r h1 hm u => ?_
 show (if m < n then kas_bin (n - max m 1) p (max m 1) else .ret p).kasWp cmp Q s
 have em : max m 1 = m := by omega
 rw [em]
 by_cases h : m < n
 ·rw [if_pos h]
  exact gU O q (n - m) m p r h1 (by omega) u
 ·rw [if_neg h]
  have : m = n := by omega
  subst this
  exact q p r u
end
theorem bS {prog : Program} {w : World} {A : Around} {E : Value -> Shared -> Prop} {st : Shared} {l : Addr} {us : List Value} {ep : Nat} {R : PySem.Fin -> Shared -> Prop} (at0 : st.heap.get? l = some (seqObj "list" us.toArray ep)) (few : us.length < 2)
  (fin : ∀ hp ep', (∀ b o, b ≠ l -> st.heap.get? b = some o -> hp.get? b = some o) -> hp.get? l = some (seqObj "list" us.toArray ep') -> R (.done (.ret .none)) { st with heap := hp }) :
  wpAny (model prog w) A (Builtin.«list.sort» ⟨[.ref l], []⟩) R E st := by
 have sz : us.toArray.size = us.length := by simp
 have lt0 : l < st.heap.objs.size := Heap.lt_size at0
 have line : us.length <= sizeLine := by rw [sizeLine_eq]; omega
 rw [list_sort_plain]
 refine wpAny_bind (listItems_at at0 rfl (wpAny_bind (listUpdate_at at0 rfl ?_ (by rw [sz]; exact line) (Nat.zero_le _))))
 have at1 := get?_update_seq at0 (fun _ => (#[] : Array Value))
 refine wpAny_bind (seqEpoch_at at1 rfl (wpAny_bind (wpAny_newTuple ?_ (by show us.length <= _; exact line))))
 refine wpAny_bind (wpAny_newList ?_ (Nat.zero_le _))
 refine wpAny_holding ?_
 rw [if_pos (by rw [sz]; exact few), if_pos (by rw [sz]; exact few)]
 show wpAny (model prog w) A _ R E { st with heap := ((st.heap.update l (Obj.mapSeq fun _ => (#[] : Array Value))).push (seqObj "tuple" us.toArray 0)).push (seqObj "list" #[] 0) }
 have at2 : (((st.heap.update l (Obj.mapSeq fun _ => (#[] : Array Value))).push (seqObj "tuple" us.toArray 0)).push (seqObj "list" #[] 0)).get? l = some (seqObj "list" #[] (if ((#[] : Array Value).size == us.toArray.size) = true then ep else ep + 1)) := by
  rw [Heap.get?_push_ne _ _ _ (by rw [size_push', Heap.size_update]; exact jH lt0), Heap.get?_push_ne _ _ _ (by rw [Heap.size_update]; exact nlt lt0)]
  exact at1
 have all : (arrOf (SortSt.mk' general' (us.toArray.zip us.toArray) #[] 7 none)).map (·.2) = us.toArray := by
  show (us.toArray.zip us.toArray).map (·.2) = us.toArray
  apply Array.ext'
  simp [List.map_snd_zip]
 have at3 := get?_update_seq at2 (fun _ => us.toArray)
 refine wpAny_bind (wpAny_pure ?_)
 dsimp only
 rw [StateT.run_pure]
 refine wpAny_bind (wpAny_pure ?_)
 dsimp only
 refine wpAny_bind (seqEpoch_at at2 rfl ?_)
 refine wpAny_bind (listUpdate_at at2 rfl ?_ (Nat.zero_le _) (by rw [all, sz]; omega))
 simp only [bne_self_eq_false, Bool.false_eq_true, if_false]
 rw [all]
 refine wpAny_pure (fin _ _ (fun b o hb e => ?_) at3)
 rw [Heap.get?_update_ne _ _ _ _ hb, Heap.get?_push_ne _ _ _ (by rw [size_push', Heap.size_update]; exact jH (Heap.lt_size e)), Heap.get?_push_ne _ _ _ (by rw [Heap.size_update]; exact nlt (Heap.lt_size e)), Heap.get?_update_ne _ _ _ _ hb]
 exact e
theorem uw {h : Heap} {a : Addr} {m m' : Str -> Option Value} (x : h.Ns a m) (y : h.Ns a m') : m = m' := by
 obtain ⟨o, es, ep, e, d, _, f⟩ := x
 obtain ⟨o', es', ep', e', d', _, f'⟩ := y
 rw [e] at e'
 cases e'
 rw [d] at d'
 cases d'
 funext z
 rw [<- f z, f' z]
theorem gf {a b : List Nat} (h : ¬ a < b) (h2 : a ≠ b) : b < a := by
 by_cases h3 : b < a
 ·exact h3
 ·exact absurd (List.le_antisymm (List.not_lt.mp h3) (List.not_lt.mp h)) h2
theorem jw {a b : Str} (h : a.cps.toList = b.cps.toList) : a = b := by
 cases a
 cases b
 congr 1
 exact Array.ext' h
section
variable {X : Cx} {pins : List (Addr × Obj)} {σ : St} {H : Hp} {s : Shared}
abbrev TK := Addr × Str × List V
def qz (p q : TK) : Prop := p.2.1.cps.toList < q.2.1.cps.toList
theorem rT (ps : List TK) : ∀ (us : List Value), aG (ps.map fun p => V.ref p.1) us -> us = ps.map fun p => Value.ref p.1 := by
 induction ps with
 | nil =>
  intro us r
  cases r
  rfl
 | cons p ps ih =>
  intro us r
  rw [List.map_cons] at r ⊢
  cases r with
  | cons r t =>
   rw [ih _ t, show _ = Value.ref p.1 from r]
theorem fL (ps : List TK) : aG (ps.map fun p => V.ref p.1) (ps.map fun p => Value.ref p.1) := by
 induction ps with
 | nil => exact .nil
 | cons p ps ih => exact .cons rfl ih
theorem qk (I : Inv X pins σ H s) {a : Addr} {x : Str} {r : List V} (h : H a = some (.tup (.str x :: r))) : ∃ (o : Obj) (us : List Value) (n : Nat) (t : Tok), s.heap.get? a = some o /\ o.cls = .type "tuple" /\ o.data = .seq (Value.str x t :: us).toArray n := by
 obtain ⟨_, its, rv, ⟨o, e, c, n, d⟩, _⟩ := (show aF X.prog X.w H s.heap a (.tup (.str x :: r)) from I.hok a _ h)
 cases rv with
 | cons r1 r2 =>
  obtain ⟨t, rfl⟩ := r1
  exact ⟨o, _, n, t, e, c, d⟩
theorem iz {n : Nat} {p : Array Nat} {α : Type} {d : α} {ps : List α} (hn : ps.length = n) (r : Re n p) : (p.toList.map fun i => ps.getD i d).Perm ps := by
 have hl : p.toList.Perm (List.range n) := by simpa using Array.perm_iff_toList_perm.mp r.perm
 refine (hl.map _).trans ?_
 have e : (List.range n).map (fun i => ps.getD i d) = ps := by
  apply List.ext_getElem?
  intro i
  rw [List.getElem?_map]
  by_cases hi : i < n
  ·rw [List.getElem?_range hi]
   simp [List.getD, show i < ps.length by omega]
  ·rw [List.getElem?_eq_none (by simpa using hi), List.getElem?_eq_none (by omega)]
   rfl
 rw [e]
theorem el {n : Nat} {p : Array Nat} {α : Type} {d : α} {ps : List α} {R : α -> α -> Prop} {lt : Nat -> Nat -> Bool} (hlt : ∀ i j, i < n -> j < n -> lt i j = true -> R (ps.getD i d) (ps.getD j d)) (r : Re n p) (u : Up lt p n) : (p.toList.map fun i => ps.getD i d).Pairwise R := by
 rw [List.pairwise_iff_getElem]
 intro i j hi hj hij
 rw [List.length_map, Array.length_toList, r.size] at hi hj
 have get : ∀ k (hk : k < n) h, (p.toList.map fun i => ps.getD i d)[k]'h = ps.getD (p.getD k 0) d := fun k hk h => by
  rw [List.getElem_map]
  congr 1
  simp [Array.getD, r.size, hk]
 rw [get i hi, get j hj]
 exact hlt _ _ (r.lt i hi) (r.lt j hj) (u i j hij hj)
end
open PySem PySem.Spec PyProof.Rows
def vX (N : List Str) (sc scope : Scope) (ix : List Nat) : Bool :=
 decide (scope.kind = .function) && scope.names.all (fun y => decide (y.2 ≠ .cell)) && scope.names.all (fun y => decide (y.2 = .local -> scope.names.lookup y.1 = some .local)) &&
 scope.names.all (fun y => decide (y.2 = .free -> sc.names.lookup y.1 = some .cell \/ sc.names.lookup y.1 = some .free)) &&
 ix.all (fun j => decide (j < N.length) && match N[j]? with | some x => scope.names.any (fun y => decide (y.1 = x) && decide (y.2 = .free)) && decide (scope.names.lookup x = some .free) | none => false)
theorem cv.of {N : List Str} {sc scope : Scope} {own : List Str} {ix : List Nat} (h : vX N sc scope ix = true) : cv N sc scope own ix := by
 unfold vX at h
 simp only [Bool.and_eq_true, decide_eq_true_eq, List.all_eq_true] at h
 obtain ⟨⟨⟨⟨h1, h2⟩, h3⟩, h4⟩, h5⟩ := h
 refine ⟨h1, h2, h3, h4, fun j hj x hx => ?_, fun j hj => (h5 j hj).1⟩
 have := (h5 j hj).2
 rw [hx] at this
 simp only [Bool.and_eq_true, decide_eq_true_eq, List.any_eq_true] at this
 obtain ⟨⟨⟨n, k⟩, hy, e1, e2⟩, e3⟩ := this
 have e1' : n = x := e1
 have e2' : k = .free := e2
 subst e1' e2'
 exact ⟨hy, e3⟩
theorem kO {l N : List Str} (h : l.Nodup) (e : N = l) : N.Nodup := by rw [e]; exact h
structure Def (P : Program) (w : World) (K : PySem.W.Frag) (mg : Str -> Option Value) (base : Heap) (k : Nat) (x : Str) (ps : List Str) (sp : Sp) : Prop where
 ex : ∃ f fd, bu P w K mg base CX0 k f fd ps sp /\ iq K fd ps [] /\ PySem.W.keepIn K (.ref f) = true /\ mg x = some (.ref f)
theorem Def.up {P : Program} {w : World} {K : PySem.W.Frag} {mg : Str -> Option Value} {base : Heap} {j k : Nat} {x : Str} {ps : List Str} {sp : Sp} (d : Def P w K mg base j x ps sp) (h : j <= k) : Def P w K mg base k x ps sp :=
 let ⟨f, fd, F, b, kp, m⟩ := d.ex
 ⟨f, fd, F.mono h, b, kp, m⟩
theorem av {X : Cx} {k : Nat} {x : Str} {ps : List Str} {sp : Sp} {p pos : Pos} {e : Expr} {es : List Expr} {t : TA} (d : Def X.prog X.w X.K X.mg X.base k x ps sp) (hr : cX k X.A) (hg : Gl X x) (ha : PA X (e :: es) t) (hdb : (x == ("__debug__" : Str)) = false := by decide)
  (he : starEach (e :: es) X.env = (false, eval e X.env) :: starEach es X.env := by rfl) (hpl : (backTo pos (starEach es X.env)).any (·.1) = false := by rfl) : PE X (.Call (.Name x p) (e :: es) [] pos) (tX sp [] E0 t) := by
 obtain ⟨f, fd, F, b, kp, m⟩ := d.ex
 exact tz F hr hg m kp b .nil vF ha hdb he hpl
inductive Dv where
 | non | bl (b : Bool) | int (i : Int) | str (x : Str) | tup (xs : List Dv) | lst (xs : List Dv) | dct
mutual
def Rep (H : Hp) : Dv -> V -> Prop
 | .non, v => v = .non
 | .bl b, v => v = .bl b
 | .int i, v => v = .int i
 | .str x, v => v = .str x
 | .tup ds, v => ∃ a vs, v = .ref a /\ H a = some (.tup vs) /\ Reps H ds vs
 | .lst ds, v => ∃ a vs, v = .ref a /\ H a = some (.lst vs) /\ Reps H ds vs
 | .dct, v => ∃ a, v = .ref a /\ H a = some (.dK [])
def Reps (H : Hp) : List Dv -> List V -> Prop
 | [], vs => vs = []
 | d :: ds, vs => ∃ v r, vs = v :: r /\ Rep H d v /\ Reps H ds r
end
mutual
theorem Rep.mono {H H' : Hp} (s : ao H H') : ∀ {d : Dv} {v : V}, Rep H d v -> Rep H' d v
 | .non, _, h => by simpa only [Rep] using h
 | .bl b, _, h => by simpa only [Rep] using h
 | .int i, _, h => by simpa only [Rep] using h
 | .str x, _, h => by simpa only [Rep] using h
 | .tup ds, _, h => by
  simp only [Rep] at h ⊢
  obtain ⟨a, vs, e, h1, h2⟩ := h
  exact ⟨a, vs, e, s _ _ h1, Reps.mono s h2⟩
 | .lst ds, _, h => by
  simp only [Rep] at h ⊢
  obtain ⟨a, vs, e, h1, h2⟩ := h
  exact ⟨a, vs, e, s _ _ h1, Reps.mono s h2⟩
 | .dct, _, h => by
  simp only [Rep] at h ⊢
  obtain ⟨a, e, h1⟩ := h
  exact ⟨a, e, s _ _ h1⟩
theorem Reps.mono {H H' : Hp} (s : ao H H') : ∀ {ds : List Dv} {vs : List V}, Reps H ds vs -> Reps H' ds vs
 | [], _, h => by simpa only [Reps] using h
 | d :: ds, _, h => by
  simp only [Reps] at h ⊢
  obtain ⟨v, r, e, h1, h2⟩ := h
  exact ⟨v, r, e, Rep.mono s h1, Reps.mono s h2⟩
end
theorem Reps.length {H : Hp} : ∀ {ds : List Dv} {vs : List V}, Reps H ds vs -> vs.length = ds.length
 | [], _, h => by simp only [Reps] at h; subst h; rfl
 | d :: ds, _, h => by
  simp only [Reps] at h
  obtain ⟨v, r, e, h1, h2⟩ := h
  subst e
  rw [List.length_cons, List.length_cons, Reps.length h2]
theorem Reps.get {H : Hp} : ∀ {ds : List Dv} {vs : List V}, Reps H ds vs -> ∀ {i : Nat} {v : V}, vs[i]? = some v -> ∃ d, ds[i]? = some d /\ Rep H d v
 | [], _, h, i, v, e => by simp only [Reps] at h; subst h; simp at e
 | d :: ds, _, h, i, v, e => by
  simp only [Reps] at h
  obtain ⟨v', r, e', h1, h2⟩ := h
  subst e'
  cases i with
  | zero => exact ⟨d, rfl, by have : v' = v := by simpa using e
                              subst this; exact h1⟩
  | succ i => obtain ⟨d', e1, e2⟩ := Reps.get h2 (i := i) (v := v) (by simpa using e); exact ⟨d', by simpa using e1, e2⟩
def Dv.tn : Dv -> String
 | .non => "NoneType" | .bl _ => "bool" | .int _ => "int" | .str _ => "str" | .tup _ => "tuple" | .lst _ => "list" | .dct => "dict"
def isT (d : Dv) (n : String) : Bool := d.tn == n || (d.tn == "bool" && n == "int")
theorem sr (K : PySem.W.Frag) (d : Dv) : PySem.W.kitOne K (.type d.tn) (.type "int") = some (isT d "int") := by
 unfold PySem.W.kitOne PySem.W.kitCls
 cases d <;> kernel_rfl
theorem qw (K : PySem.W.Frag) (d : Dv) : PySem.W.kitOne K (.type d.tn) (.type "bool") = some (isT d "bool") := by
 unfold PySem.W.kitOne PySem.W.kitCls
 cases d <;> kernel_rfl
theorem pE (K : PySem.W.Frag) (d : Dv) : PySem.W.kitOne K (.type d.tn) (.type "tuple") = some (isT d "tuple") := by
 unfold PySem.W.kitOne PySem.W.kitCls
 cases d <;> kernel_rfl
section
variable {k : Nat} {ix : List Nat} {g : TG} {tt : TT} {te : TE} {σ : St} {H1 : Hp} {Q : List V -> Hp -> Prop}
theorem pV {i : Nat} {x : V} {ys : List V} {H : Hp} {N : List V -> Hp -> Prop} (h : te ((cS k ix σ).set i (some x)) H fun y H4 => ys.length < sizeLine /\ N (ys ++ [y]) H4) : fM k ix (cP i) tL te σ x ys H N := by
 exact pi (B := N ys H) h
theorem pY {i j : Nat} {K : PySem.W.Frag} {a : Addr} {x y : V} {ys : List V} {H : Hp} {N : List V -> Hp -> Prop} (ha : H a = some (.tup [x, y])) (h : te (((cS k ix σ).set i (some x)).set j (some y)) H fun y H4 => ys.length < sizeLine /\ N (ys ++ [y]) H4) :
  fM k ix (rq K 2 (dY (cP i) (dY (cP j) mE))) tL te σ (.ref a) ys H N := by
 refine ⟨a, _, rfl, SqT.of ha, rfl, _, _, rfl, _, _, rfl, rfl, ?_⟩
 exact pi (B := N ys H) h
end
mutual
def Dv.small : Dv -> Bool
 | .str x => decide (x.cps.size <= 1000)
 | .tup xs => smalls xs && decide (xs.length <= 1000)
 | .lst xs => smalls xs && decide (xs.length <= 1000)
 | _ => true
def smalls : List Dv -> Bool
 | [] => true
 | d :: ds => d.small && smalls ds
end
theorem ae {H : Hp} {p : Addr} (h : H p = none) (o : HO) : ao H (upd H p o) := fun b u q => by rw [ap (ag q h)]; exact q
section
variable {X : Cx}
theorem qt (K : PySem.W.Frag) (h : X.K = K) : IxR X (wD K) := by subst h; exact aN
end
section
variable {X : Cx}
def wa (K : PySem.W.Frag) : R2 := fun x y H Q => ∃ a b xs ys, x = .ref a /\ y = .ref b /\ SqT K H a xs /\ SqT K H b ys /\ xs.length + ys.length <= sizeLine /\
 (xs = [] -> Q (.ref b) H) /\ (ys = [] -> Q (.ref a) H) /\ (∀ p, H p = none -> Q (.ref p) (upd H p (.tup (xs ++ ys))))
theorem jg : OpR X (binaryOp .Add) (wa X.K) := by
 intro pins s σ H x y v u Q I rx ry h
 obtain ⟨a, b, xs, ys, rfl, rfl, ha, hb, hz, q0, q1, q2⟩ := h
 by_cases hx : xs = []
 ·cases rx
  cases ry
  obtain ⟨its, r1, p1, _⟩ := I.tuple ha
  obtain ⟨its2, r2, p2, _⟩ := I.tuple hb
  subst hx
  cases r1
  obtain ⟨⟨cls, dd, data, sl⟩, ho, hc, n, hd⟩ := id p1
  obtain ⟨⟨cls2, dd2, data2, sl2⟩, ho2, hc2, n2, hd2⟩ := id p2
  simp only at hc hd hc2 hd2
  subst hc hd hc2 hd2
  exact concat_meets ⟨_, ho, rfl⟩ ⟨_, ho2, rfl⟩ noFill_tuple_add seq_tuple_add PySem.F.slot_tuple_add PySem.F.entry_tuple_add (PySem.F.args_tuple_add_2 _ _) (tuple_addW0 a b _ _ n n2 dd dd2 sl sl2 rfl) ⟨ho, ho2, ⟨.ref b, H, I, rfl, q0 rfl⟩⟩
 ·exact tO pins s σ H (.ref a) (.ref b) v u Q I rx ry ⟨a, b, xs, ys, rfl, rfl, ha, hb, hx, hz, q1, fun _ => q2⟩
end
section
variable {σ : St} {H : Hp} {d e : Dv} {ds es : List Dv} {ta tb : TE} {t : TA}
theorem Reps.append {H : Hp} : ∀ {ds es : List Dv} {vs ws : List V}, Reps H ds vs -> Reps H es ws -> Reps H (ds ++ es) (vs ++ ws)
 | [], _, _, _, h, g => by simp only [Reps] at h; subst h; exact g
 | d :: ds, es, vs, ws, h, g => by
  simp only [Reps] at h
  obtain ⟨v, r, rfl, h1, h2⟩ := h
  simp only [List.cons_append, Reps]
  exact ⟨v, r ++ ws, rfl, h1, Reps.append h2 g⟩
end
section
variable {σ : St} {H : Hp} {d e : Dv} {ds es : List Dv} {ta tb : TE} {t : TA} {l : Addr}
variable {i : Nat} {u : TS} {D : eE}
end
section
variable {X : Cx}
theorem ss : OpR X (binaryOp .Add) (fun x y H Q => ∃ (l b : Addr) (xs zs : List V), x = .ref l /\ y = .ref b /\ SqL X.K H l xs /\ SqL X.K H b zs /\ xs.length + zs.length <= sizeLine /\ ∀ p, H p = none -> Q (.ref p) (upd H p (.lst (xs ++ zs)))) := by
 intro pins s σ H x y v u Q I rx ry h
 obtain ⟨l, b, xs, zs, rfl, rfl, hl, hb, hz, q⟩ := h
 cases rx
 cases ry
 obtain ⟨its, r1, ⟨⟨c1, d1, dt1, sl1⟩, n1, e1, hc1, hd1, hdt1⟩, _⟩ := I.list hl
 obtain ⟨its2, r2, ⟨⟨c2, d2, dt2, sl2⟩, n2, e2, hc2, hd2, hdt2⟩, _⟩ := I.list hb
 simp only at hc1 hd1 hdt1 hc2 hd2 hdt2
 subst hc1 hd1 hdt1 hc2 hd2 hdt2
 refine concat_meets ⟨_, e1, rfl⟩ ⟨_, e2, rfl⟩ noFill_list_add seq_list_add PySem.F.slot_list_add PySem.F.entry_list_add (PySem.F.args_list_add_2 _ _) (list_addW l b its.toArray its2.toArray n1 n2 none none sl1 sl2 (by rw [List.size_toArray, List.size_toArray, <- r1.length, <- r2.length]; exact hz)) ⟨e1, e2, ?_⟩
 have ea : its.toArray ++ its2.toArray = (its ++ its2).toArray := by simp
 rw [ea]
 refine ⟨.ref s.heap.objs.size, _, I.laid (t' := s.toks) (o := .lst (xs ++ zs)) (fun b ob q => Heap.get?_push_of_some _ q) (Nat.le_refl _) ?_, rfl, q _ (I.hok.fresh (Nat.le_refl _))⟩
 exact ⟨by rw [List.length_append]; exact hz, _, 0, r1.append r2, Heap.get?_push_size _ rfl⟩
end
section
variable {prog : Program} {w : World} {K : Type} [DecidableEq K] {knd : PySem.KeyKind prog w K} {A : Around} {R : Result -> Shared -> Prop} {I d : Addr} {fp wr : List Addr} {n : Nat} {P : Nat -> Value -> Prop} {St : Nat -> Heap -> Prop}
end
section
variable {prog : Program} {w : World} {K : Type} [DecidableEq K] {knd : PySem.KeyKind prog w K} {A : Around} {E : Value -> Shared -> Prop} {s : Shared}
end
section
variable {X : Cx}
end
theorem fY (ns : List Int) : ∀ k, k <= ns.length -> preSum (fun i => (ns[i]?).getD 0) k = (ns.take k).sum
 | 0, _ => by simp [preSum]
 | k + 1, h => by
  have e : ns[k]? = some ns[k] := List.getElem?_eq_getElem (by omega)
  rw [preSum, fY ns k (by omega), List.take_add_one, List.sum_append, e]
  simp
theorem ja : ∀ {ns : List Int} {us : List Value}, aG (ns.map V.int) us -> ∀ (i : Nat) (v : Value), us[i]? = some v -> ∃ t, v = .int ((ns[i]?).getD 0) t := fun {ns us} r i v e => by
 have hl := r.length
 have hi : i < ns.length := by rw [List.length_map] at hl; rw [hl]; exact (List.getElem?_eq_some_iff.mp e).1
 obtain ⟨u, hu, ru⟩ := aG.get (i := i) (x := V.int ns[i]) r (by rw [List.getElem?_map, List.getElem?_eq_getElem hi]; rfl)
 obtain rfl : u = v := Option.some.inj (hu.symm.trans e)
 obtain ⟨t, rfl⟩ := (show ∃ t, u = Value.int ns[i] t from ru)
 exact ⟨t, by rw [List.getElem?_eq_getElem hi]; rfl⟩
section
variable {X : Cx}
theorem pP (hc : X.calm = true) : bB X (.builtin "sum") (fun xs H Q => ∃ (a : Addr) (ns : List Int), xs = [.ref a] /\ SqL X.K H a (ns.map V.int) /\ Q (.int ns.sum) H) := by
 intro pins s σ H xs us Q I r h
 obtain ⟨a, ns, rfl, hq, q⟩ := h
 obtain ⟨u, rfl, ru⟩ := bN r
 cases ru
 obtain ⟨its, rv, p, hz⟩ := I.list hq
 have hl := p.isList
 have hlt : a < s.heap.objs.size := by obtain ⟨_, e, _⟩ := hl; exact Heap.lt_size e
 have hlen : its.length = ns.length := by have := rv.length; rw [List.length_map] at this; exact this.symm
 refine call_sum_walkAnyS (wpAny_pyIter_list hl ?_)
 refine ⟨s.heap.objs.size, [s.heap.objs.size, a], [s.heap.objs.size], _, its.toArray.size, _, _, fun i => (ns[i]?).getD 0, rfl, (Walks.list (A := X.A.in1) (I.ok.hd hc) _ a (Nat.ne_of_lt hlt) its.toArray).toS,
  ⟨⟨_, Heap.get?_push_size _ rfl, rfl, rfl⟩, hl.push _⟩, fun b hb => ?_, fun i v hP => ja rv i v (by simpa using hP), fun s' t' hm => ?_⟩
 ·obtain ⟨_, e, _⟩ := hl
  rcases List.mem_cons.mp hb with rfl | hb
  ·exact Heap.lt_size (Heap.get?_push_size _ rfl)
  ·obtain rfl := List.mem_singleton.mp hb
   exact Heap.lt_size (Heap.get?_push_of_some _ e)
 ·obtain ⟨h', g', d', tk', os'⟩ := s'
  have e1 : g' = s.gens := hm.gens
  have e2 : d' = s.drawn := hm.drawn
  have e3 : os' = s.os := hm.os
  subst e1 e2 e3
  rw [List.size_toArray, hlen, fY ns _ (Nat.le_refl _), List.take_length]
  exact ⟨.int ns.sum, H, I.kept fun b o e => hm.heap b o (fun hb => absurd (Heap.lt_size e) ((List.mem_singleton.mp hb) ▸ Nat.lt_irrefl _)) (Heap.get?_push_of_some _ e), ⟨t', rfl⟩, q⟩
end
open PySem PySem.Spec PyProof.Rows PySem.W
section
variable {X : Cx} {pins : List (Addr × Obj)} {σ : St} {H : Hp} {s : Shared}
theorem Inv.setList {D : Addr} {ys0 ys : List V} {its : List Value} {c : Nat} {h' : Heap} {m : Str -> Option Value} (I : Inv X pins σ H s) (hm : s.heap.Ns X.env.locals m) (hD : H D = some (.lst ys0)) (rv : aG ys its) (hz : ys.length <= sizeLine)
  (F : h'.Ns X.env.locals m) (k : ∀ b o, b ≠ X.env.locals -> b ≠ D -> s.heap.get? b = some o -> h'.get? b = some o) (e : h'.get? D = some { cls := .type "list", data := .seq its.toArray c }) : Inv X pins σ (upd H D (.lst ys)) { s with heap := h' } := by
 have nl : ∀ b v, H b = some v -> b ≠ X.env.locals := fun b v q z => by rw [z, I.free] at q; cases q
 have nD : ∀ b, H b = none -> b ≠ D := fun b q z => by rw [z, hD] at q; cases q
 have nT : ∀ b v, H b = some v -> v ≠ .lst ys0 -> b ≠ D := fun b v q n z => by rw [z, hD] at q; cases q; exact n rfl
 refine I.step (g' := s.gens) (d' := s.drawn) (t' := s.toks) (ch := []) (fun b hb => by cases hb) (fun b o hL _ _ q n => k b o hL (nD b n) q) (fun b o hL _ _ q n => ⟨o.slots, k b o hL (nD b n) q⟩) (fun b o _ q n => by rw [ap (nD b n)]; exact n) (fun b o _ q => ?_)
  (fun b xs q => by rw [ap (nT b _ q nofun)]; exact q) (fun b o v q => by rw [ap (nT b _ q nofun)]; exact q) (fun b ps q => ⟨#[], by rw [ap (nT b _ q nofun), q]; simp⟩) (fun m' hm' => by rw [uw hm' hm]; exact F) (fun b v q => ?_) I.bare
 ·by_cases hb : b = X.env.locals
  ·subst hb
   obtain ⟨o', _, _, q', _⟩ := F
   exact ⟨o', q'⟩
  ·by_cases hd : b = D
   ·subst hd; exact ⟨_, e⟩
   ·exact ⟨o, k b o hb hd q⟩
 ·by_cases hb : b = D
  ·subst hb
   rw [ad] at q
   cases q
   exact ⟨hz, its, c, rv, e⟩
  ·rw [ap hb] at q
   refine (I.hok b v q).stay (fun c w' hc q' => ?_) (fun c q' => by rw [ap (nT c _ q' nofun)]; exact q') fun c xs q' => by rw [ap (nT c _ q' nofun)]; exact q'
   rcases hc with z | z
   ·subst z; exact k c w' (nl c v q) hb q'
   ·exact k c w' (nl c _ z) (nT c _ z nofun) q'
theorem rm {A : Around} {E : Value -> Shared -> Prop} {l : Addr} {ps : List TK} {Q : Value -> Shared -> Prop} (I : Inv X pins σ H s) (hq : H l = some (.lst (ps.map fun p => V.ref p.1))) (ht : ∀ p ∈ ps, H p.1 = some (.tup (.str p.2.1 :: p.2.2)))
  (nd : (ps.map (·.2.1)).Nodup) (h64 : ps.length < 64) (q : ∀ (qs : List TK) (h' : Heap), qs.Perm ps -> qs.Pairwise qz -> Inv X pins σ (upd H l (.lst (qs.map fun p => V.ref p.1))) { s with heap := h' } -> Q .none { s with heap := h' }) :
  wpAny (model X.prog X.w) A (call (.builtin "list.sort") [.ref l]) Q E s := by
 obtain ⟨hz, its, n, rv, at0⟩ := (show aF X.prog X.w H s.heap l (.lst (ps.map fun p => V.ref p.1)) from I.hok l _ hq)
 have ei := rT ps its rv
 subst ei
 obtain ⟨m, hm, _⟩ := I.loc
 have nL : l ≠ X.env.locals := fun z => by rw [z, I.free] at hq; cases hq
 have lne : ∀ p ∈ ps, p.1 ≠ l /\ p.1 ≠ X.env.locals := fun p hp => by
  refine ⟨fun z => ?_, fun z => ?_⟩
  ·have t := ht p hp
   rw [z, hq] at t
   cases t
  ·have t := ht p hp
   rw [z, I.free] at t
   cases t
 by_cases few : ps.length < 2
 ·refine wpAny_call_entry slot_list_sort ⟨_, at0, rfl⟩ entry_list_sort (bS at0 (by simpa using few) fun hp ep k2 e2 => ⟨_, rfl, ?_⟩) (args_list_sort _)
  refine q ps hp (List.Perm.refl _) ?_ (I.setList hm hq (fL ps) hz (hm.at' fun o e => k2 _ o (Ne.symm nL) e) (fun b o _ hb z => k2 b o hb z) e2)
  match ps, few with
  | [], _ => exact .nil
  | [p], _ => exact List.pairwise_singleton _ _
 ·have hlen : (ps.map fun p => Value.ref p.1).length = ps.length := List.length_map _
  have F0 : Fr (Att.noObjs s.heap) X.env.locals s.heap m := Att.fr_all hm
  generalize hN : (eT (Att.noObjs s.heap) s.heap X.env.locals).filter (fun p => decide (p.1 ≠ l)) = nw
  have N0 : News (Att.noObjs s.heap) X.env.locals s.heap nw := fun p hp => by rw [<- hN] at hp; exact ka p (List.mem_filter.mp hp).1
  have nl0 : ∀ p ∈ nw, p.1 ≠ l := fun p hp => by rw [<- hN] at hp; exact of_decide_eq_true (List.mem_filter.mp hp).2
  refine wpAny_call_entry slot_list_sort ⟨_, at0, rfl⟩ entry_list_sort (kat_list_sort F0 N0 at0 nL (Att.noObjs_get _ _) nl0 (by rw [hlen]; omega) (by rw [hlen]; exact h64) fun e1 h' F' N' => ?_) (args_list_sort _)
  have keep : ∀ (g : Heap) (x : Obj), News (Att.noObjs s.heap) X.env.locals g ((l, x) :: nw) -> ∀ b o, b ≠ X.env.locals -> b ≠ l -> s.heap.get? b = some o -> g.get? b = some o := fun g x N b o hb hl e =>
   (N (b, o) (List.mem_cons_of_mem _ (by rw [<- hN]; exact List.mem_filter.mpr ⟨fV hb (Att.noObjs_get _ _) e, decide_eq_true hl⟩))).1
  have kp := keep h' _ N'
  have atv : ∀ i, i < ps.length -> (ps.map fun p => Value.ref p.1).getD i .none = Value.ref (ps.getD i (0, default, [])).1 := fun i hi => by
   simp [List.getD, hi]
  have item : ∀ i, i < ps.length -> ∃ (o : Obj) (us : List Value) (n : Nat) (t : Tok), h'.get? (ps.getD i (0, default, [])).1 = some o /\ o.cls = .type "tuple" /\ o.data = .seq (Value.str (ps.getD i (0, default, [])).2.1 t :: us).toArray n := fun i hi => by
   have hm' : ps.getD i (0, default, []) ∈ ps := by
    have e : ps.getD i (0, default, []) = ps[i] := by simp [List.getD, hi]
    rw [e]; exact List.getElem_mem hi
   obtain ⟨o, us, n, t, e, c, d⟩ := qk I (ht _ hm')
   exact ⟨o, us, n, t, kp _ o (lne _ hm').2 (lne _ hm').1 e, c, d⟩
  have firsts : ∀ (qs : List TK), (∀ p ∈ qs, p ∈ ps) -> ∃ fs : List Value, KatTups h' (qs.map fun p => Value.ref p.1) fs /\ fs.length = qs.length /\ ∀ v ∈ fs, ∃ x t, v = Value.str x t := by
   intro qs
   induction qs with
   | nil => intro _; exact ⟨[], KatTups.nil, rfl, by simp⟩
   | cons p qs ih =>
    intro hs
    obtain ⟨fs, t1, t2, t3⟩ := ih fun x hx => hs x (List.mem_cons_of_mem _ hx)
    have hp := hs p List.mem_cons_self
    obtain ⟨o, us, n, t, e, c, d⟩ := qk I (ht _ hp)
    refine ⟨Value.str p.2.1 t :: fs, KatTups.cons (kp _ o (lne _ hp).2 (lne _ hp).1 e) c d (by simp) t1, by simp [t2], fun v hv => ?_⟩
    rcases List.mem_cons.mp hv with rfl | hv
    ·exact ⟨_, _, rfl⟩
    ·exact t3 v hv
  obtain ⟨fs, t1, t2, t3⟩ := firsts ps fun p hp => hp
  refine kat_kind (T := .type "str") (s := { s with heap := h' }) t1 (by rw [t2]; omega) (fun v hv => ?_) (by decide) ?_
  ·obtain ⟨x, t, rfl⟩ := t3 v hv
   exact Looks.of_pure rfl
  rw [hlen]
  have O : Ord (kas_ask X.prog X.w A.in1 (tuples' (Value.type "str" != Value.type "tuple")) (ps.map fun p => Value.ref p.1)) (fun i j => decide ((ps.getD i (0, default, [])).2.1.cps.toList < (ps.getD j (0, default, [])).2.1.cps.toList)) ps.length { s with heap := h' } := by
   have unlike : ∀ i j, i < ps.length -> j < ps.length -> i ≠ j -> (ps.getD i (0, default, [])).2.1 ≠ (ps.getD j (0, default, [])).2.1 := fun i j hi hj hij e => by
    have ei : ps.getD i (0, default, []) = ps[i] := by simp [List.getD, hi]
    have ej : ps.getD j (0, default, []) = ps[j] := by simp [List.getD, hj]
    rw [ei, ej] at e
    exact hij ((List.getElem_inj (h₀ := by simpa using hi) (h₁ := by simpa using hj) nd).mp (by simpa using e))
   refine ⟨fun i j C hi hj hij hC => ?_, fun i j k h1 h2 => ?_, fun i j hi hj hij h1 => ?_, fun i j h1 => ?_⟩
   ·show wpAny _ _ (keyLt' _ _ _) C _ _
    rw [atv i hi, atv j hj]
    obtain ⟨o, us, n, t, e, c, d⟩ := item i hi
    obtain ⟨o2, us2, n2, t2', e2, c2, d2⟩ := item j hj
    refine kat_lt (s := { s with heap := h' }) e d e2 d2 ?_
    show KatLex _ _ _ _ _ _ ((Value.str _ t, Value.str _ t2') :: _) 0 _
    refine kat_cons (wpAny_eqBool_str ?_)
    rw [decide_eq_false (unlike i j hi hj hij)]
    exact kat_no (oneLt_str hC)
   ·exact decide_eq_true (List.lt_trans (of_decide_eq_true h1) (of_decide_eq_true h2))
   ·exact decide_eq_true (gf (of_decide_eq_false h1) fun e => unlike i j hi hj hij (jw e))
   ·exact decide_eq_false (List.lt_asymm (of_decide_eq_true h1))
  refine oA O (by omega) fun p re up => ?_
  have outs : (p.toList.map fun i => (ps.map fun p => Value.ref p.1).getD i .none) = (p.toList.map fun i => ps.getD i (0, default, [])).map fun p => Value.ref p.1 := by
   rw [List.map_map]
   refine List.map_congr_left fun i hi => ?_
   have hl2 : p.toList.Perm (List.range ps.length) := by simpa using Array.perm_iff_toList_perm.mp re.perm
   exact atv i (List.mem_range.mp ((List.Perm.mem_iff hl2).mp hi))
  rw [outs]
  refine KasFin.intro (news := (l, seqObj "list" #[] e1) :: nw) (g := fun o' => (l, o') :: nw) F' N' (.head nl0) fun h2 c F2 N2 => ?_
  have pq := iz (d := (0, default, [])) rfl re
  have I2 := I.setList (D := l) (ys := (p.toList.map fun i => ps.getD i (0, default, [])).map fun p => V.ref p.1) hm hq (fL _) (by rw [List.length_map, pq.length_eq]; simpa using hz) F2.ns (keep h2 _ N2) (N2 (l, _) List.mem_cons_self).1
  exact ⟨_, rfl, q _ h2 pq (el (R := qz) (fun i j _ _ h => (of_decide_eq_true h : (ps.getD i (0, default, [])).2.1.cps.toList < (ps.getD j (0, default, [])).2.1.cps.toList)) re up) I2⟩
def bj (v d : Addr) : HO := .ext fun h => h.IsItemsView v d
theorem lB : MtR X "dict.items" (fun x xs H Q => ∃ d kvs, x = .ref d /\ xs = [] /\ H d = some (.dK kvs) /\ ∀ v, H v = none -> Q (.ref v) (upd H v (bj v d))) := by
 intro pins s σ H x xs u us Q I rx rv h
 obtain ⟨d, kvs, rfl, rfl, hd, q⟩ := h
 cases rx
 cases rv
 obtain ⟨z, hdm, vs, rel, dd⟩ := nG I.hok hd
 refine call_meetsIn PySem.F.slot_dict_items dd.typeIs PySem.F.entry_dict_items (PySem.F.args_dict_items_1 _) (meets_dict_items (am X.prog X.w) d hdm) ⟨⟨vs, dd⟩, ?_⟩
 refine ⟨.ref s.heap.objs.size, _, I.laid (t' := s.toks) (a := s.heap.objs.size) (o := bj s.heap.objs.size d) (fun b u q => Heap.get?_push_of_some _ q) (Nat.le_refl _) ?_, rfl, q _ I.fresh⟩
 exact ⟨⟨_, Heap.get?_push_size _ rfl, rfl, rfl⟩, ⟨_, Heap.get?_push_size _ rfl⟩, fun h1 h2 ⟨o, e, r⟩ k => ⟨o, k o e, r⟩⟩
def lays (H : Hp) (rs : List TK) : Hp := fun b => match rs.find? (fun r => decide (r.1 = b)) with | some r => some (.tup (.str r.2.1 :: r.2.2)) | none => H b
theorem hZ {rs : List TK} {b : Addr} (h : ∀ r ∈ rs, r.1 ≠ b) : lays H rs b = H b := by
 unfold lays
 rw [List.find?_eq_none.mpr (fun r hr e => h r hr (of_decide_eq_true e))]
theorem nR {rs : List TK} (nd : (rs.map (·.1)).Nodup) {r : TK} (hr : r ∈ rs) : lays H rs r.1 = some (.tup (.str r.2.1 :: r.2.2)) := by
 unfold lays
 cases e : rs.find? (fun x => decide (x.1 = r.1)) with
 | none => exact absurd (decide_eq_true rfl) (List.find?_eq_none.mp e r hr)
 | some x =>
  have hx := List.mem_of_find?_eq_some e
  have e1 : x.1 = r.1 := of_decide_eq_true (List.find?_some (p := fun x : TK => decide (x.1 = r.1)) e)
  obtain ⟨i, hi, rfl⟩ := List.getElem_of_mem hx
  obtain ⟨j, hj, rfl⟩ := List.getElem_of_mem hr
  have : i = j := (List.getElem_inj (h₀ := by simpa using hi) (h₁ := by simpa using hj) nd).mp (by simpa using e1)
  subst this
  rfl
theorem Inv.lays {h' : Heap} {tk : Nat} {rs : List TK} (I : Inv X pins σ H s) (k : ∀ b u, s.heap.get? b = some u -> h'.get? b = some u) (nd : (rs.map (·.1)).Nodup) (hp : ∀ r ∈ rs, s.heap.objs.size <= r.1)
  (new : ∀ r ∈ rs, aF X.prog X.w (L2.lays H rs) h' r.1 (.tup (.str r.2.1 :: r.2.2))) : Inv X pins σ (L2.lays H rs) { s with heap := h', toks := tk } := by
 have out : ∀ b, b < s.heap.objs.size -> L2.lays H rs b = H b := fun b hb => hZ fun r hr e => absurd hb (Nat.not_lt.mpr (e ▸ hp r hr))
 refine I.un (t' := tk) ⟨fun b u q _ _ _ => k b u q, fun b u q _ _ _ => ⟨u.slots, k b u q⟩, fun b u q n _ => by rw [out b (Heap.lt_size q)]; exact n, fun b u q _ => ⟨u, k b u q⟩, fun b xs q => by rw [out b (I.hok.lt q)]; exact q, fun b u xs q => by rw [out b (I.hok.lt q)]; exact q,
  fun b ps q => ⟨#[], by rw [out b (I.hok.lt q), q]; simp⟩⟩ fun b u e => ?_
 by_cases hb : ∃ r ∈ rs, r.1 = b
 ·obtain ⟨r, hr, rfl⟩ := hb
  rw [nR nd hr] at e
  cases e
  exact new r hr
 ·rw [hZ fun r hr z => hb ⟨r, hr, z⟩] at e
  exact (I.hok b u e).stay (fun c v _ q => k c v q) (fun c q => by rw [out c (I.hok.lt q)]; exact q) fun c xs q => by rw [out c (I.hok.lt q)]; exact q
theorem eW (hc : X.calm = true) : bB X (.builtin "sorted") (fun xs H Q => ∃ (v d : Addr) (m : List (Str × V)), xs = [.ref v] /\ H v = some (bj v d) /\ H d = some (.dK (m.map fun p => ((Sum.inr p.1 : Key), p.2))) /\ m.length < 64 /\
  ∀ (H' : Hp) (l : Addr) (qs : List TK), ao H H' -> H l = none -> (∀ r ∈ qs, H' r.1 = some (.tup (.str r.2.1 :: r.2.2)) /\ H r.1 = none) -> H' l = some (.lst (qs.map fun r => V.ref r.1)) -> (qs.map (·.2)).Perm (m.map fun p => (p.1, [p.2])) -> qs.Pairwise qz -> Q (.ref l) H') := by
 intro pins s σ H xs us Q I r h
 obtain ⟨v, d, m, rfl, hv, hd, h64, q⟩ := h
 obtain ⟨u, rfl, ru⟩ := bN r
 cases ru
 obtain ⟨vw, _, _⟩ := (show aF X.prog X.w H s.heap v (bj v d) from I.hok v _ hv)
 obtain ⟨z, hdm, vs, rel, dd⟩ := nG I.hok hd
 have hvl : vs.length = m.length := by have := rel.length; rw [List.length_map] at this; exact this.symm
 obtain ⟨ep, da⟩ := dd.dictAt
 have ndk : (vs.map (·.1)).Nodup := by obtain ⟨_, _, _, _, _, _, _, nd⟩ := da; exact nd
 refine Calls.call_function_entry kind_sorted plain_sorted entry_sorted (args_sorted1 _) ?_
 unfold Builtin.«sorted»
 refine wpAny_bind (m := checkCount "sorted" 1 1 _) (wpAny_pure (wpAny_bind (kdx_collect (A := X.A.in1) (knd := am X.prog X.w) (kvs := vs) (ep := ep) (I.ok.hd hc) vw da (by rw [<- rel.length]; exact z) fun h' tk as hk hl hG => ?_)))
 have hlm : as.length = m.length := by omega
 have e1 : ((as.zip m).map fun p => ((p.1, p.2.1, [p.2.2]) : TK)).map (·.1) = as := by
  rw [List.map_map]
  have : ((fun x : TK => x.1) ∘ fun p : Addr × Str × V => ((p.1, p.2.1, [p.2.2]) : TK)) = Prod.fst := rfl
  rw [this, List.map_fst_zip (by omega)]
 have e2 : ((as.zip m).map fun p => ((p.1, p.2.1, [p.2.2]) : TK)).map (·.2) = m.map fun p => (p.1, [p.2]) := by
  rw [List.map_map]
  have : ((fun x : TK => x.2) ∘ fun p : Addr × Str × V => ((p.1, p.2.1, [p.2.2]) : TK)) = (fun p : Str × V => (p.1, [p.2])) ∘ Prod.snd := rfl
  rw [this, <- List.map_map, List.map_snd_zip (by omega)]
 have e3 : ((as.zip m).map fun p => ((p.1, p.2.1, [p.2.2]) : TK)).map (fun r => V.ref r.1) = as.map V.ref := by
  have : (fun r : TK => V.ref r.1) = V.ref ∘ (fun r : TK => r.1) := rfl
  rw [this, <- List.map_map, e1]
 have pairs : ∀ r ∈ (as.zip m).map fun p => ((p.1, p.2.1, [p.2.2]) : TK), ∃ (x : Str) (y : V) (u w' : Value), r.2 = (x, [y]) /\ aJ (.str x) u /\ aJ y w' /\ h'.get? r.1 = some { cls := .type "tuple", data := .seq #[u, w'] } := fun r hr => by
  obtain ⟨⟨a, x, y⟩, hp, rfl⟩ := List.mem_map.mp hr
  obtain ⟨j, hj⟩ := List.getElem?_of_mem hp
  obtain ⟨ha, hm⟩ := List.getElem?_zip_eq_some.mp hj
  obtain ⟨key, k, w', g1, g2, g3⟩ := hG.pairs j a ha
  obtain ⟨y', hy, ry⟩ := rel.at g1
  rw [List.getElem?_map, hm] at hy
  have hy' : ((Sum.inr x : Key), y) = (k, y') := Option.some.inj hy
  injection hy' with k1 k2
  subst k1 k2
  exact ⟨x, y, key, w', rfl, qZ g2, ry, g3⟩
 generalize hrs : (as.zip m).map (fun p => ((p.1, p.2.1, [p.2.2]) : TK)) = rs at e1 e2 e3 pairs
 have lrs : rs.length = m.length := by rw [<- hrs, List.length_map, List.length_zip]; omega
 have nda : (rs.map (·.1)).Nodup := by rw [e1]; exact hG.rise.imp fun h => Nat.ne_of_lt h
 have above : ∀ r ∈ rs, s.heap.objs.size <= r.1 := fun r hr => Nat.le_of_lt (hG.above r.1 (by rw [<- e1]; exact List.mem_map_of_mem hr))
 have tup : ∀ (Hx : Hp) (r : TK), r ∈ rs -> aF X.prog X.w Hx h' r.1 (.tup (.str r.2.1 :: r.2.2)) := fun Hx r hr => by
  obtain ⟨x, y, u, w', er, r1, r2, g⟩ := pairs r hr
  rw [er]
  exact ⟨by show 2 <= sizeLine; rw [sizeLine_eq]; decide, [u, w'], .cons r1 (.cons r2 .nil), ⟨_, g, rfl, 0, rfl⟩, ⟨_, g, rfl⟩⟩
 have I1 : Inv X pins σ (lays H rs) { s with heap := h', toks := tk } := I.lays hk nda above fun r hr => tup _ r hr
 have s1 : ao H (lays H rs) := fun b o e => by
  have ho : ∀ r ∈ rs, r.1 ≠ b := fun r hr z' => by
   have h1 := above r hr
   rw [z'] at h1
   exact absurd (I.hok.lt e) (Nat.not_lt.mpr h1)
  rw [hZ ho]; exact e
 refine wpAny_bind (wpAny_newList ?_ (by rw [List.length_map, hlm, sizeLine_eq]; omega))
 have rvals : aG (rs.map fun r => V.ref r.1) (as.map Value.ref) := by
  have := fL rs
  have e4 : rs.map (fun p => Value.ref p.1) = as.map Value.ref := by
   rw [<- e1, List.map_map]; rfl
  rwa [e4] at this
 have I2 := I1.lnew (t' := tk) (its := as.map Value.ref) rvals (by rw [List.length_map, lrs, sizeLine_eq]; omega)
 have fr : lays H rs h'.objs.size = none := I1.fresh
 have s2 : ao (lays H rs) (upd (lays H rs) h'.objs.size (.lst (rs.map fun r => V.ref r.1))) := ae fr _
 have inr : ∀ r ∈ rs, lays H rs r.1 = some (.tup (.str r.2.1 :: r.2.2)) := fun r hr => nR nda hr
 have hnone : H h'.objs.size = none := by
  cases e : H h'.objs.size with
  | none => rfl
  | some o => have := s1 _ _ e; rw [fr] at this; cases this
 have nd2 : (rs.map (·.2.1)).Nodup := by
  have e5 : rs.map (·.2.1) = m.map (·.1) := by
   have := congrArg (List.map Prod.fst) e2
   simpa [List.map_map, Function.comp_def] using this
  have e6 : (m.map (·.1)).map (Sum.inr : Str -> Key) = vs.map (·.1) := by
   rw [<- rel.keys, List.map_map, List.map_map]; rfl
  rw [e5]
  rw [<- e6] at ndk
  rw [List.Nodup, List.pairwise_map] at ndk
  exact ndk.imp fun h e => h (by rw [e])
 refine wpAny_bind (wpAny_holding (rm (A := X.A.in1) (l := h'.objs.size) (ps := rs) I2 ad (fun r hr => s2 _ _ (inr r hr)) nd2 (by omega) fun qs h2 pq pw I3 => ?_))
 refine wpAny_pure ⟨_, rfl, .ref h'.objs.size, _, I3, rfl, q _ _ qs (fun b o e => ?_) hnone (fun r hr => ⟨?_, I.hok.fresh (above r (pq.mem_iff.mp hr))⟩) ad (by rw [<- e2]; exact pq.map _) pw⟩
 ·have := s2 _ _ (s1 _ _ e)
  rw [ap (fun z' => by rw [z', hnone] at e; cases e)]
  exact this
 ·have hm := pq.mem_iff.mp hr
  rw [ap (ag (inr r hm) fr)]
  exact s2 _ _ (inr r hm)
end
open PySem PySem.Spec PyProof.Rows
section
variable {X : Cx} {pins : List (Addr × Obj)} {σ : St} {H : Hp} {s : Shared}
end
section
variable {X : Cx}
end
section
variable {P : Program} {w : World} {K : PySem.W.Frag} {mg : Str -> Option Value} {base : Heap}
end
open PySem PySem.Spec PyProof.Rows PySem.W
section
variable {X : Cx} {e st : Expr} {te : TE} {ts : TO} {p2 pos : Pos}
end
section
variable {X : Cx}
theorem mT : bB X (.type "dict") (fun xs H Q => ∃ (d : Addr) (m : List (Key × V)), xs = [.ref d] /\ Rd H d (.dK m) /\ ∀ e, H e = none -> Q (.ref e) (upd H e (.dK m))) := by
 intro pins s σ H xs us Q I r h
 obtain ⟨d, m, rfl, hd, q⟩ := h
 obtain ⟨u, rfl, ru⟩ := bN r
 cases ru
 obtain ⟨z, hdm, vs, rel, dd⟩ := iJ I.hok hd
 refine kt_call_dict (knd := am X.prog X.w) hdm dd (by rw [<- rel.length]; exact z) fun h' dd' sb => ?_
 refine ⟨.ref s.heap.objs.size, _, I.laid (t' := s.toks) (a := s.heap.objs.size) (o := .dK m) (fun b u e => ?_) (Nat.le_refl _) (mj z (beq_eq_false_iff_ne.mpr (Ne.symm (Nat.ne_of_lt I.big))) rel dd'), rfl, q _ I.fresh⟩
 rw [sb.2 b (Nat.ne_of_lt (Heap.lt_size e))]
 exact Heap.get?_push_of_some _ e
theorem kS {A : Around} {s : Shared} {kb : List (Key × Value)} : ∀ (l : List (Key × Value)), (∀ p ∈ l, ∃ y, valueAt kb p.1 = some y /\ SeqAt.EqAt A s p.2 y true) -> KeqHits A s kb l true
 | [], _ => .nil
 | (k, v) :: l, h => by
  obtain ⟨y, hy, he⟩ := h (k, v) List.mem_cons_self
  exact KeqHits.hit (e := true) (b := true) hy he (kS l fun p hp => h p (List.mem_cons_of_mem _ hp))
theorem oj : OpR X (binaryOp .Mult) (rI IntMulOk fun i j => .int (i * j)) := opI fun _ _ _ _ _ _ _ hc q => mul_int q hc
theorem nv {k : Int} {n : Nat} (h1 : -(2 ^ n) < k) (h2 : k < 2 ^ n) : Builtin.Int.intBits k <= n := by
 unfold Builtin.Int.intBits
 split
 ·exact Nat.zero_le _
 ·have hn : k.natAbs < 2 ^ n := by
   have e : ((2 ^ n : Nat) : Int) = (2 : Int) ^ n := by simp
   omega
  have : k.natAbs.log2 < n := by
   rcases Nat.eq_zero_or_pos k.natAbs with h0 | hp
   ·rename_i hne
    have : k = 0 := Int.natAbs_eq_zero.mp h0
    simp [this] at hne
   ·exact (Nat.log2_lt (Nat.ne_of_gt hp)).mpr hn
  omega
theorem nr {i j : Int} (h1 : -(2 ^ 1000) < i) (h2 : i < 2 ^ 1000) (h3 : -(2 ^ 1000) < j) (h4 : j < 2 ^ 1000) : IntMulOk i j := by
 have a := nv h1 h2
 have b := nv h3 h4
 unfold IntMulOk Builtin.Int.intTooBig
 have e : decide (((Builtin.Int.intBits i + Builtin.Int.intBits j : Nat) : Int) > (bitsLine : Int)) = false := decide_eq_false (by
  have : (bitsLine : Int) = 134217728 := by decide +kernel
  omega)
 simp only [Int.natCast_add] at e
 rw [e]
 simp
end
theorem lP (t : SetTable) (n : Nat) : (t.orStandIn n).led = t.led /\ ((t.orStandIn n).plain = true -> t.plain = true) := by
 unfold SetTable.orStandIn
 split
 ·exact ⟨rfl, fun h => h⟩
 ·exact ⟨rfl, fun h => by cases h⟩
theorem sX (t : SetTable) (es : Array (Int × Value)) (h : Int) (x : Value) : (layNew t es h x).2.1.led = t.led /\ ((layNew t es h x).2.1.plain = true -> t.plain = true) := by
 unfold layNew
 split
 ·rename_i slot wd _
  obtain ⟨a, b⟩ := lP (t.put slot).1 (SetTable.insertAt es (t.put slot).2 (h, x)).size
  exact ⟨a, b⟩
 ·exact ⟨rfl, fun h => by cases h⟩
theorem mq {t t' : SetTable} {hs : Array Int} {n : Nat} {o : Array Nat} (h : t.relaid hs n = some (t', o)) : t'.led = t.led /\ t'.plain = t.plain := by
 unfold SetTable.relaid SetTable.laid at h
 cases e : SetTable.layClean (SetTable.sizeAbove n - 1) hs with
 | none => rw [e] at h; cases h
 | some ow =>
  rw [e] at h
  have h2 := Option.some.inj h
  injection h2 with h3 h4
  subst h3
  exact ⟨rfl, rfl⟩
theorem pR (t : SetTable) (es : Array (Int × Value)) (n : Nat) : (relayAll t es n).2.1.led = t.led /\ ((relayAll t es n).2.1.plain = true -> t.plain = true) := by
 unfold relayAll
 split
 ·rename_i t' o h
  obtain ⟨a, b⟩ := mq h
  dsimp only
  split
  ·exact ⟨a, fun z => by rw [<- b]; exact z⟩
  ·exact ⟨rfl, fun z => by cases z⟩
 ·exact ⟨rfl, fun z => by cases z⟩
def cM (e : Int × Value) : Str := match e.2 with | .str x _ => x | _ => default
def bY (P : Program) (w : World) (h : Heap) (a : Addr) (xs : List Str) : Prop :=
 ∃ o es ep t, h.get? a = some o /\ o.ExactSet /\ o.data = .set es ep t /\ ElemsOf (PySem.strKind P w) es.toList /\ es.size < scanBound /\ t.fits es.size = true /\ t.led = (!w.params.followText "set-order") /\ (t.plain = true -> es.size = 0) /\ (es.toList.map cM).Perm xs
section
variable {P : Program} {w : World} {A : Around} {E : Value -> Shared -> Prop} {s : Shared}
theorem fN {y : Str} {e : Int × Value} (h : (PySem.strKind P w).is y e.2 = true) : cM e = y := by
 obtain ⟨t, ht⟩ := Value.isStrOf_shape h
 unfold cM
 rw [ht]
theorem oS {e : Int × Value} (h : ∃ k, (PySem.strKind P w).is k e.2 = true) : (PySem.strKind P w).is (cM e) e.2 = true := by
 obtain ⟨k, hk⟩ := h
 rw [fN hk]; exact hk
theorem bY.put {h : Heap} {a : Addr} {o : Obj} {es es' : Array (Int × Value)} {ep : Nat} {t t' : SetTable} {xs : List Str} (ho : h.get? a = some o) (hex : o.ExactSet) (hd : o.data = .set es ep t) (hel : ElemsOf (PySem.strKind P w) es'.toList)
  (hb : es'.size < scanBound) (hf : t'.fits es'.size = true) (hl : t'.led = (!w.params.followText "set-order")) (hp : t'.plain = true -> es'.size = 0) (hx : (es'.toList.map cM).Perm xs) :
  (h.update a (Obj.putSet es' t')).get? a = some { o with data := .set es' (ep + 1) t' } /\ bY P w (h.update a (Obj.putSet es' t')) a xs := by
 have hg : (h.update a (Obj.putSet es' t')).get? a = some { o with data := .set es' (ep + 1) t' } := by
  have := Heap.get?_update_self (Obj.putSet es' t') ho (by rw [putSet_of es' t' hd]; rfl)
  rw [putSet_of es' t' hd] at this; exact this
 exact ⟨hg, _, es', ep + 1, t', hg, hex, rfl, hel, hb, hf, hl, hp, hx⟩
theorem kW {g : Bool -> Sem Unit} (hg : ∀ (b : Bool) (s₁ : Shared) (Q' : Unit -> Shared -> Prop), Q' () s₁ -> wpAny (model P w) A (g b) Q' E s₁) {a : Addr} {o : Obj} {es es1 : Array (Int × Value)} {ep : Nat} {t t2 : SetTable} {xs : List Str} {wd : Bool} {R : Option Bool -> Shared -> Prop}
  (ho : s.heap.get? a = some o) (hex : o.ExactSet) (hd : o.data = .set es ep t) (hel : ElemsOf (PySem.strKind P w) es1.toList) (hb : es1.size < scanBound) (hf : t2.fits es1.size = true) (hl : t2.led = (!w.params.followText "set-order")) (hp : t2.plain = false) (hx : (es1.toList.map cM).Perm xs)
  (h : ∀ h', Heap.SameBut a s.heap h' -> bY P w h' a xs -> R (some true) { s with heap := h' }) :
  wpAny (model P w) A (do
    storeSet a es1 t2
    if (!wd && t2.tooFull) = true then do
        g (relayAll t2 es1 (SetTable.grown es1.size)).2.2
        storeSet a (relayAll t2 es1 (SetTable.grown es1.size)).1 (relayAll t2 es1 (SetTable.grown es1.size)).2.1
        pure (some true)
     else pure (some true)) R E s := by
 refine wpAny_bind (wpAny_storeSet_of ho hd ?_ (fits_of_scanBound hb))
 obtain ⟨ho1, hS1⟩ := bY.put (P := P) (w := w) ho hex hd hel hb hf hl (fun z => by rw [hp] at z; cases z) hx
 have sb1 := Heap.SameBut.update s.heap a (Obj.putSet es1 t2)
 split
 ·have pm := relayAll_perm t2 es1 (SetTable.grown es1.size)
  have ft := relayAll_fits t2 es1 (SetTable.grown es1.size)
  have ld := pR t2 es1 (SetTable.grown es1.size)
  generalize relayAll t2 es1 (SetTable.grown es1.size) = Rl at pm ft ld ⊢
  obtain ⟨es2, t3, gave⟩ := Rl
  dsimp only at pm ft ld ⊢
  have sz : es2.size = es1.size := by rw [<- Array.length_toList, pm.length_eq, Array.length_toList]
  refine wpAny_bind (hg _ _ _ (wpAny_bind (wpAny_storeSet_of ho1 rfl ?_ (fits_of_scanBound (by rw [sz]; exact hb)))))
  obtain ⟨_, hS2⟩ := bY.put (P := P) (w := w) (xs := xs) ho1 hex rfl (hel.perm pm) (by rw [sz]; exact hb) ft (by rw [ld.1]; exact hl) (fun z => by have := ld.2 z; rw [hp] at this; cases this) ((pm.map _).trans hx)
  exact wpAny_pure (h _ (sb1.trans (Heap.SameBut.update _ a _)) hS2)
 ·exact wpAny_pure (h _ sb1 hS1)
theorem kh {a : Addr} {xs : List Str} {y : Str} {tk : Tok} {Q : Bool -> Shared -> Prop} (hS : bY P w s.heap a xs) (hlen : xs.length + 1 < scanBound)
  (h : ∀ h' b, Heap.SameBut a s.heap h' -> bY P w h' a (if y ∈ xs then xs else xs ++ [y]) -> Q b { s with heap := h' }) : wpAny (model P w) A (setAddHashed a (.str y tk) ((PySem.strKind P w).hash y)) Q E s := by
 obtain ⟨o, es, ep, t, ho, hex, hd, hel, hb, hf, hl, hpl, hx⟩ := hS
 have hkey : (PySem.strKind P w).is y (.str y tk) = true := strKind_is _ _ _ _
 have hsc : (Value.str y tk).scannable = true := rfl
 have sz : es.size = xs.length := by rw [<- hx.length_eq, List.length_map, Array.length_toList]
 unfold setAddHashed setAddHashedIn
 refine wpAny_holding (wpAny_bind (wpAny_setState_of ho hd hf ?_))
 dsimp only
 rw [byScan_of hsc hb hel]
 simp only [↓reduceIte]
 unfold setAddByScan
 refine wpAny_bind (wpAny_bind (wpAny_rule (wpAny_bind (wpAny_setScan_of hkey ho hd hf hel ?_))))
 cases hr : List.findIdx? (fun e => (PySem.strKind P w).is y e.2) es.toList with
 | some j =>
  dsimp only
  obtain ⟨hj, hpj, _⟩ := List.findIdx?_eq_some_iff_getElem.mp hr
  have hy : y ∈ xs := hx.mem_iff.mp (List.mem_map.mpr ⟨es.toList[j], List.getElem_mem hj, fN hpj⟩)
  have e : s = { s with heap := s.heap } := by cases s; rfl
  have q := h s.heap false (Heap.SameBut.refl a s.heap) (by rw [if_pos hy]; exact ⟨o, es, ep, t, ho, hex, hd, hel, hb, hf, hl, hpl, hx⟩)
  rw [<- e] at q
  exact wpAny_pure (wpAny_pure q)
 | none =>
  dsimp only
  have hy : y ∉ xs := fun z => by
   obtain ⟨e, he, e1⟩ := List.mem_map.mp (hx.mem_iff.mpr z)
   have := List.findIdx?_eq_none_iff.mp hr e he
   rw [<- e1, oS (hel.keys e he)] at this
   cases this
  rw [if_neg hy] at h
  have hgw : ∀ (b : Bool) {s₁ : Shared} {Q' : Unit -> Shared -> Prop}, Q' () s₁ -> wpAny (model P w) A (match b with | true => rule "set.scan.the-table-gave-way" | false => pure ()) Q' E s₁ :=
   fun b s₁ Q' hq => by cases b <;> first | exact wpAny_pure hq | exact wpAny_rule hq
  have pm := layNew_perm t es ((PySem.strKind P w).hash y) (.str y tk)
  have ft := layNew_fits t es ((PySem.strKind P w).hash y) (.str y tk)
  have ld := sX t es ((PySem.strKind P w).hash y) (.str y tk)
  generalize layNew t es ((PySem.strKind P w).hash y) (.str y tk) = L at pm ft ld ⊢
  obtain ⟨es1, t1, wd, gave⟩ := L
  dsimp only at pm ft ld ⊢
  rw [Array.toList_push] at pm
  have hel1 : ElemsOf (PySem.strKind P w) es1.toList := (hel.push hkey hsc).perm pm
  have sz1 : es1.size = es.size + 1 := by rw [<- Array.length_toList, pm.length_eq, List.length_append, Array.length_toList]; rfl
  have hb1 : es1.size < scanBound := by rw [sz1, sz]; exact hlen
  have hx1 : (es1.toList.map cM).Perm (xs ++ [y]) := by
   refine (pm.map cM).trans ?_
   rw [List.map_append]
   exact hx.append (List.Perm.refl _)
  refine wpAny_bind (hgw _ ?_)
  split
  ·refine wpAny_bind ?_
   rw [hashByValue_scannable 8 hsc]
   refine wpAny_pure ?_
   refine kW ?_ ho hex hd hel1 hb1 (t2 := { t1 with plain := false }) (SetTable.fits_plain_off ft) (by rw [<- hl]; exact ld.1) rfl hx1 ?_
   ·intro b s₁ Q' hq; cases b <;> first | exact wpAny_pure hq | exact wpAny_rule hq
   ·intro h' sb hS'; dsimp only; exact wpAny_pure (h h' true sb hS')
  ·rename_i hnp
   refine wpAny_bind (wpAny_pure ?_)
   simp only [↓reduceIte]
   refine kW ?_ ho hex hd hel1 hb1 ft (by rw [<- hl]; exact ld.1) (by cases z : t1.plain with | false => rfl | true => exact absurd z hnp) hx1 ?_
   ·intro b s₁ Q' hq; cases b <;> first | exact wpAny_pure hq | exact wpAny_rule hq
   ·intro h' sb hS'; dsimp only; exact wpAny_pure (h h' true sb hS')
end
def kK (acc : List Str) (y : Str) : List Str := if y ∈ acc then acc else acc ++ [y]
def uq (val : Nat -> Str) (i : Nat) : List Str := ((List.range i).map val).foldl kK []
theorem gc (val : Nat -> Str) (i : Nat) : uq val (i + 1) = kK (uq val i) (val i) := by
 unfold uq
 rw [List.range_succ, List.map_append, List.foldl_append]
 rfl
theorem jj (val : Nat -> Str) : ∀ i, (uq val i).length <= i
 | 0 => Nat.le_refl _
 | i + 1 => by
  have ih := jj val i
  rw [gc]
  unfold kK
  split
  ·omega
  ·rw [List.length_append, List.length_singleton]; omega
theorem fc (val : Nat -> Str) : ∀ i, (uq val i).Nodup
 | 0 => List.nodup_nil
 | i + 1 => by
  rw [gc]
  unfold kK
  split
  ·exact fc val i
  ·rename_i h
   exact List.nodup_append.mpr ⟨fc val i, by simp, fun a ha b hb e => h (by rw [List.mem_singleton.mp hb] at e; rw [<- e]; exact ha)⟩
theorem mJ (val : Nat -> Str) (x : Str) : ∀ i, x ∈ uq val i ↔ ∃ j, j < i /\ val j = x
 | 0 => ⟨(fun h => nomatch h), (fun ⟨j, h, _⟩ => absurd h (Nat.not_lt_zero _))⟩
 | i + 1 => by
  rw [gc]
  unfold kK
  have ih := mJ val x i
  constructor
  ·intro h
   split at h
   ·obtain ⟨j, hj, e⟩ := ih.mp h
    exact ⟨j, by omega, e⟩
   ·rcases List.mem_append.mp h with h | h
    ·obtain ⟨j, hj, e⟩ := ih.mp h
     exact ⟨j, by omega, e⟩
    ·exact ⟨i, by omega, (List.mem_singleton.mp h).symm⟩
  ·rintro ⟨j, hj, e⟩
   split
   ·rename_i h
    by_cases hji : j = i
    ·rw [<- e, hji]; exact h
    ·exact ih.mpr ⟨j, by omega, e⟩
   ·by_cases hji : j = i
    ·rw [<- e, hji]; exact List.mem_append_right _ (List.mem_singleton.mpr rfl)
    ·exact List.mem_append_left _ (ih.mpr ⟨j, by omega, e⟩)
section
variable {P : Program} {w : World} {A : Around} {R : Result -> Shared -> Prop} {I : Addr} {fp wr : List Addr} {G : Array GenState -> Array GenState -> Prop} {n : Nat} {Pv : Nat -> Value -> Prop} {St : Nat -> Shared -> Prop}
theorem bY.at' {h h' : Heap} {a : Addr} {xs : List Str} (x : bY P w h a xs) (k : ∀ o, h.get? a = some o -> h'.get? a = some o) : bY P w h' a xs := let ⟨o, es, ep, t, ho, r⟩ := x; ⟨o, es, ep, t, k o ho, r⟩
theorem kE (W : WalksS P w A.in1 I fp wr G n Pv St) (S : Addr) (hSf : S ∉ fp) (val : Nat -> Str) (hval : ∀ i v, Pv i v -> ∃ t, v = .str (val i) t) (hb : n + 1 < scanBound) :
  ∀ (k i : Nat) (s : Shared), n - i = k -> i <= n -> St i s -> bY P w s.heap S (uq val i) -> (∀ s', Moved (S :: wr) G s s' -> bY P w s'.heap S (uq val n) -> R (.ok (.ret .none)) s') ->
   codeAny (model P w) A (.builtin "set.update.loop" ⟨[.ref S, .ref I], []⟩) R s := by
 have hSw : S ∉ wr := fun h => hSf (W.sub _ h)
 have more : ∀ b ∈ wr, b ∈ S :: wr := fun b hb => List.mem_cons_of_mem _ hb
 intro k
 induction k with
 | zero =>
  intro i s hk hi st hS fin
  obtain rfl : i = n := by omega
  refine codeAny_builtin F.entry_set_update_loop ?_
  rw [Around.under_plainId F.plain_set_update_loop _]
  show wpAny _ A.in1 (pyNext (.ref I) >>= _) _ _ s
  refine wpAny_bind (W.done s _ _ st fun s' hm => ?_)
  show wpAny _ A.in1 (ret Value.none) _ _ s'
  exact wpAny_pure (fin s' (hm.mono more) (hS.at' fun o e => hm.heap S _ hSw e))
 | succ k ih =>
  intro i s hk hi st hS fin
  have hlt : i < n := by omega
  refine codeAny_builtin F.entry_set_update_loop ?_
  rw [Around.under_plainId F.plain_set_update_loop _]
  show wpAny _ A.in1 (pyNext (.ref I) >>= _) _ _ s
  refine wpAny_bind (W.item i s _ _ hlt st fun v s' hP st' hm => ?_)
  obtain ⟨t, rfl⟩ := hval i v hP
  have hS' : bY P w s'.heap S (uq val i) := hS.at' fun o e => hm.heap S _ hSw e
  show wpAny _ A.in1 (holding [Value.str (val i) t] (setAdd S (.str (val i) t)) >>= _) _ _ s'
  refine wpAny_bind (wpAny_holding ?_)
  unfold setAdd
  refine wpAny_holding (wpAny_bind ((PySem.strKind P w).pyHash (k := val i) (strKind_is _ _ _ _) ?_))
  have room : (uq val i).length + 1 < scanBound := by have := jj val i; omega
  refine kh (s := { s' with toks := s'.toks + 1 }) hS' room fun h' b sb hS2 => ?_
  have hSi : bY P w h' S (uq val (i + 1)) := by rw [gc]; exact hS2
  refine wpAny_pure ⟨plainId_quiet F.plain_set_update_loop _, ih (i + 1) _ (by omega) hlt (W.frame _ s' _ _ st' (Nat.le_succ _) fun b hb o e => ?_) hSi fun s'' hm'' hS'' => ?_⟩
  ·rw [sb.2 b (fun h : b = S => hSf (by rw [<- h]; exact hb))]; exact e
  ·refine fin s'' (Moved.trans W.gtrans ((hm.mono more).then_heap (Nat.le_succ _) fun b o hb e => ?_) hm'') hS''
   rw [sb.2 b (fun h : b = S => hb (by rw [h]; exact List.mem_cons_self))]; exact e
end
def aZ (w : World) : Obj := { cls := .type "set", dict := none, data := .set #[] 0 (.fresh 0 0 (!w.params.followText "set-order")) }
section
variable {P : Program} {w : World} {A : Around} {E : Value -> Shared -> Prop} {s : Shared}
theorem dW (a : Value) {Q₁ : Value -> Shared -> Prop} (h : Q₁ (.ref s.heap.objs.size) { s with heap := s.heap.push (aZ w) }) :
  codeAny (model P w) A (.call (.builtin "set.__new__") ⟨[.type "set", a], []⟩) (wants Q₁ E) s := by
 refine codeAny_of_tree ?_
 show wpAny _ A.in1 (do checkBuiltinCall "set.__new__" ⟨[.type "set", a], []⟩; again (.builtin "set.__new__" ⟨[.type "set", a], []⟩)) _ _ s
 refine wpAny_bind (wpAny_of_eq (PySem.F.newCall_set_1 a) (wpAny_pure ⟨plainId_quiet PySem.F.plain_set_new _, codeAny_builtin PySem.F.entry_set_new ?_⟩))
 rw [Around.under_plainId PySem.F.plain_set_new _]
 unfold Builtin.«set.__new__» Builtin.Frozenset.newClass
 have hsub := sub_set_self
 obtain ⟨hp, g, d, tk, os⟩ := s
 dsimp only
 wp_walk
 refine wpAny_askSetting (wpAny_pure ?_)
 dsimp only
 simp only [newObj]
 refine wpAny_bind (wpAny_alloc (wpAny_pure ?_))
 exact wpAny_pure h
theorem ib (h : Heap) : bY P w (h.push (aZ w)) h.objs.size [] :=
 ⟨_, #[], 0, _, Heap.get?_push_size _ rfl, ⟨rfl, rfl, rfl⟩, rfl, fun e he => by simp at he, by decide, rfl, rfl, fun _ => rfl, List.Perm.refl _⟩
theorem ig {l : Addr} {items : Array Value} {ys : List Str} {Q : Value -> Shared -> Prop} (hh : A.handled = none) (hl : s.heap.IsList l items) (hi : ∀ (i : Nat) (v : Value), items[i]? = some v -> ∃ t, v = .str (ys.getD i default) t) (hb : items.size + 1 < scanBound)
  (h : ∀ (h' : Heap) (tk : Nat), bY P w h' s.heap.objs.size (uq (fun i => ys.getD i default) items.size) -> (∀ b o, b < s.heap.objs.size -> s.heap.get? b = some o -> h'.get? b = some o) -> Q (.ref s.heap.objs.size) { s with heap := h', toks := tk }) :
  wpAny (model P w) A (call (.type "set") [.ref l]) Q E s := by
 obtain ⟨c, tl, hmro⟩ := PySem.F.called_set.mro
 have hmade := PySem.F.called_set.made
 have hsub := PySem.F.called_set.sub
 refine wpAny_call (codeAny_of_tree ?_)
 show wpAny _ _ (callAny (.type "set") _) _ _ _
 refine wpAny_pure ⟨Code.quiet_builtin _ (by decide +kernel), codeAny_builtin PySem.F.entry_type_call ?_⟩
 rw [Around.under_plain (weight_type_call_type "set" [.ref l] []) rfl]
 have h1 := PySem.F.called_set.notType
 have h2 := PySem.F.called_set.canCreate
 have hct := PySem.F.typeCall_set_1 (.ref l)
 repeat (any_goals (first | assumption | wp_step))
 refine codeAny_mono (dW (.ref l) (E := E) (Q₁ := fun obj s₁ => obj = .ref s.heap.objs.size /\ s₁ = { s with heap := s.heap.push (aZ w) }) ⟨rfl, rfl⟩) fun r s₁ hr => ?_
 cases r with
 | error e => exact hr
 | ok fl =>
  cases fl with
  | ret obj =>
   obtain ⟨rfl, rfl⟩ := hr
   have hS : (s.heap.push (aZ w)).get? s.heap.objs.size = some (aZ w) := Heap.get?_push_size _ rfl
   have hT : Shared.TypeIs { s with heap := s.heap.push (aZ w) } (.ref s.heap.objs.size) "set" := ⟨_, hS, rfl⟩
   have hli := PySem.F.called_set.init.lookup
   have hbi := PySem.F.called_set.init.bind (.ref s.heap.objs.size)
   repeat (any_goals (first | assumption | wp_step))
   refine codeAny_mono (codeAny_call_builtin (R := wants (fun r s₂ => r = .none /\ ∃ h' tk, s₂ = { s with heap := h', toks := tk } /\ bY P w h' s.heap.objs.size (uq (fun i => ys.getD i default) items.size) /\ (∀ b o, b < s.heap.objs.size -> s.heap.get? b = some o -> h'.get? b = some o)) E)
    PySem.F.called_set.init.plain PySem.F.entry_set_init (check_set_init_1 hT ?_)) fun r₂ s₂ hr₂ => ?_
   ·obtain ⟨ol, hol, hcl, nl, hdl⟩ := hl
    obtain ⟨ocls, odict, odata, oslots⟩ := ol
    simp only at hcl hdl
    subst hcl; subst hdl
    have hol' : (s.heap.push (aZ w)).get? l = some { cls := .type "list", dict := odict, data := .seq items nl, slots := oslots } := Heap.get?_push_of_some _ hol
    have hsls := PySem.F.sub_list_set
    have hslf := PySem.F.sub_list_frozenset
    have hne : (Value.type "list" == Value.type "dict") = false := by decide
    have hl1 : (s.heap.push (aZ w)).IsList l items := ⟨_, hol', rfl, nl, rfl⟩
    unfold aZ at hS hT hol' hl1 ⊢
    unfold Builtin.«set.__init__» noKeywords Builtin.Frozenset.updateFrom
    generalize hPI : pyIter = PI
    wp_walk
    subst hPI
    refine wpAny_pyIter_list hl1 ?_
    refine wpAny_bind (wpAny_runValue ?_)
    have hlS : l < s.heap.objs.size := Heap.lt_size hol
    have hh3 : A.in1.in1.in1.handled = none := by simp [hh]
    have hneI : l ≠ (s.heap.push (aZ w)).objs.size := by
     rw [Heap.size_push]; exact Nat.ne_of_lt (Nat.lt_succ_of_lt hlS)
    have hSf : s.heap.objs.size ∉ [(s.heap.push (aZ w)).objs.size, l] := by
     rw [Heap.size_push]; simp only [List.mem_cons, List.mem_singleton, List.not_mem_nil, or_false, not_or]
     exact ⟨Nat.ne_of_lt (Nat.lt_succ_self _), Nat.ne_of_gt hlS⟩
    refine kE ((Walks.list hh3 _ l hneI items).toS) s.heap.objs.size hSf (fun i => ys.getD i default) hi hb (items.size - 0) 0 _ (by omega) (Nat.zero_le _)
     ⟨⟨_, Heap.get?_push_size _ rfl, rfl, rfl⟩, (hl1.push _)⟩ ?hS0 ?hR
    case hS0 => exact (ib s.heap).at' fun o e => Heap.get?_push_of_some _ e
    case hR =>
     intro s' hm hS'
     obtain ⟨h', g', d', tk', os'⟩ := s'
     have eg : g' = s.gens := hm.gens
     have ed : d' = s.drawn := hm.drawn
     have eo : os' = s.os := hm.os
     subst eg; subst ed; subst eo
     show wpAny _ _ _ _ _ _
     refine wpAny_pure ?_
     show wpAny _ _ (ret Value.none) _ _ _
     refine wpAny_pure ⟨rfl, h', tk', rfl, hS', fun b o hb e => ?_⟩
     have hb1 : b ≠ s.heap.objs.size := Nat.ne_of_lt hb
     have hb2 : b ≠ (s.heap.push (aZ w)).objs.size := by
      rw [Heap.size_push]; exact Nat.ne_of_lt (Nat.lt_succ_of_lt hb)
     exact hm.heap b o (by simp only [List.mem_cons, List.mem_singleton, List.not_mem_nil, or_false, not_or]; exact ⟨hb1, hb2⟩) (Heap.get?_push_of_some _ (Heap.get?_push_of_some _ e))
   ·cases r₂ with
    | error e => exact hr₂
    | ok fl₂ =>
     cases fl₂ with
     | ret r =>
      obtain ⟨rfl, h', tk, rfl, hS', hk'⟩ := hr₂
      repeat (any_goals (first | assumption | wp_step))
      exact h _ _ hS' hk'
     | _ => exact hr₂.elim
  | _ => exact hr.elim
end
theorem ic : entryFor table "set.__iter__" = some Builtin.«frozenset.__iter__» := entryFor_alias (id' := "frozenset.__iter__") (by kernel_rfl) rfl (by decide +kernel) (by kernel_rfl)
theorem bz : Slot "set_iterator" "__next__" "set_iterator.__next__" := .of (owner := "set_iterator") (n := "__next__") (by rw [typeLookup_type, builtinLookup_eq_fast]; kernel_rfl) (by decide +kernel) (by decide +kernel) (by decide +kernel) (by first | exact .inl (by decide +kernel) | exact .inr (by decide +kernel)) (by rw [isSubtype_type]; kernel_rfl)
theorem dM : entryFor table "set_iterator.__next__" = some Builtin.«set_iterator.__next__» := entryFor_of_tree (by kernel_rfl)
theorem fu (a : Value) : argsOk "set_iterator.__next__" ⟨[a], []⟩ := by
 unfold argsOk; kernel_rfl
theorem eD {α : Type} : ∀ (l : List α) (i : Nat) (h : i < l.length), (l[i] :: l.eraseIdx i).Perm l
 | a :: l, 0, _ => .refl _
 | a :: l, i + 1, h => by
  have := eD l i (by simpa using h)
  rw [List.eraseIdx_cons_succ, List.getElem_cons_succ]
  exact (List.Perm.swap _ _ _).trans (this.cons a)
section
variable {P : Program} {w : World} {A : Around} {E : Value -> Shared -> Prop}
theorem mh {s : Shared} {n : Nat} {Q : Nat -> Shared -> Prop} (h0 : n ≠ 0) (h : ∀ i d, i < n -> Q i { s with drawn := d }) : wpAny (model P w) A (choose .order n) Q E s := fun Γ p hΓ => by
 unfold choose
 rw [Sem.wp_choose]
 exact ⟨h0, h _ _ (Nat.mod_lt _ (Nat.pos_of_ne_zero h0))⟩
theorem lT {α : Type} : ∀ (n : Nat) (xs : List α) (s : Shared) {Q : List α -> Shared -> Prop}, xs.length = n -> (∀ ys d, ys.Perm xs -> Q ys { s with drawn := d }) -> wpAny (model P w) A (drawOrder n xs) Q E s
 | 0, [], s, Q, _, h => by
  unfold drawOrder
  exact wpAny_pure (h [] s.drawn (.refl _))
 | n + 1, x :: xs, s, Q, hl, h => by
  unfold drawOrder
  refine wpAny_bind (mh (by simp) fun i d hi => ?_)
  rw [List.getElem?_eq_getElem hi]
  dsimp only
  refine wpAny_bind (lT n ((x :: xs).eraseIdx i) _ (by rw [List.length_eraseIdx_of_lt hi]; simpa using hl) fun ys d' hp => ?_)
  exact wpAny_pure (h _ d' ((hp.cons _).trans (eD _ i hi)))
theorem oC {α : Type} (next : Nat -> Nat) : ∀ (n k : Nat) (left : List α) (out : Array α), left.length = n -> (pickOrder.go next n k left out).toList.Perm (out.toList ++ left)
 | 0, k, left, out, h => by
  rw [List.eq_nil_of_length_eq_zero h, List.append_nil]
  exact .refl _
 | n + 1, k, left, out, h => by
  have hi : next k % left.length < left.length := Nat.mod_lt _ (by omega)
  unfold pickOrder.go
  rw [List.getElem?_eq_getElem hi]
  dsimp only
  refine (oC next n (k + 1) _ _ (by rw [List.length_eraseIdx_of_lt hi]; omega)).trans ?_
  rw [Array.toList_push, List.append_assoc]
  exact List.Perm.append_left _ (eD left _ hi)
theorem me {α : Type} (next : Nat -> Nat) (xs : Array α) : (pickOrder next xs).toList.Perm xs.toList := by
 have := oC next xs.size 0 xs.toList #[] (by simp)
 simpa [pickOrder] using this
abbrev SIt (h : Heap) (it S : Addr) (first : Value) (i n ep : Nat) : Prop := h.get? it = some { cls := .type "set_iterator", dict := none, data := .fields #[first, .int i 0, .ref S, .int n 0, .int ep 0], slots := #[] }
variable {s : Shared} {it S : Addr} {o : Obj} {es : Array (Int × Value)} {ep n i : Nat} {t : SetTable}
theorem lO {slot slot' : Nat} {x : Value} {Q : Option Value -> Shared -> Prop} (hit : SIt s.heap it S (rawInt slot) i n ep) (ho : s.heap.get? S = some o) (hd : o.data = .set es ep t) (hf : t.fits es.size = true) (hn : es.size = n)
  (hnext : ∀ (A : Around) (E : Value -> Shared -> Prop) (Q' : Option (Value × Nat) -> Shared -> Prop), Q' (some (x, slot')) s -> wpAny (model P w) A (setNext S slot i ep) Q' E s)
  (hQ : ∀ h', SIt h' it S (rawInt slot') (i + 1) n ep -> Heap.SameBut it s.heap h' -> Q (some x) { s with heap := h' }) : wpAny (model P w) A (pyNext (.ref it)) Q E s := by
 have hT : s.TypeIs (.ref it) "set_iterator" := ⟨_, hit, rfl⟩
 unfold pyNext
 refine wpAny_bind (wpAny_attempt (wpAny_callSpecial?_slot (name := Str.ofString "__next__") hT bz (wpAny_call_entry bz hT dM ?_ (fu _))))
 unfold Builtin.«set_iterator.__next__»
 refine wpAny_bind (wpAny_pure ?_)
 refine wpAny_bind (wpAny_fieldsOf hit rfl ?_)
 show wpAny _ _ (setEntries S >>= _) _ _ _
 refine wpAny_bind (wpAny_setEntries_of ho hd hf ?_)
 rw [if_neg (by rw [hn]; simp)]
 show wpAny _ _ (setNext S ((slot : Int).toNat) ((i : Int).toNat) ((ep : Int).toNat) >>= _) _ _ _
 rw [Int.toNat_natCast, Int.toNat_natCast, Int.toNat_natCast]
 refine wpAny_bind (hnext _ _ _ ?_)
 dsimp only
 refine wpAny_bind (wpAny_setField_rec hit (by simp) fun h1 e1 s1 => ?_)
 refine wpAny_bind (wpAny_setField_rec e1 (by simp) fun h2 e2 s2 => ?_)
 refine wpAny_pure ⟨_, rfl, wpAny_pure (hQ h2 ?_ (s1.trans s2))⟩
 have e : ((i + 1 : Nat) : Int) = (i : Int) + 1 := by omega
 show h2.get? it = _
 rw [e]
 simpa [rawInt] using e2
end
section
variable {P : Program} {w : World} {A : Around} {E : Value -> Shared -> Prop} {s : Shared} {it S : Addr} {o : Obj} {es : Array (Int × Value)} {ep n i : Nat} {t : SetTable}
theorem kN {h0 : Heap} {Q : Option Value -> Shared -> Prop} (hh : A.handled = none) (hQ : ∀ h', (∀ b u, h0.get? b = some u -> h'.get? b = some u) -> Q none { s with heap := h' }) :
  wpAny (model P w) A.in1 (newExc (.type "StopIteration") [] >>= fun e => (raiseNew e : Sem PySem.Fin)) (fun _ _ => False) (fun e s' => wpAny (model P w) A (isInstance e (.type "StopIteration")) (fun b s2 => b = true /\ Q none s2) E s') { s with heap := h0 } := by
 refine wpAny_bind ?_
 simp only [newExc, newTuple]
 refine wpAny_bind (wpAny_newObj_type ?_ (by size_fits))
 refine wpAny_bind (m := firstArgMember _ _) (wpAny_of_eq (a := Value.none) (by first | rfl | (simp only [firstArgMember]; rfl)) ?_)
 refine wpAny_newObj_type ?_ (by size_fits)
 simp only [raiseNew]
 refine wpAny_bind (wpAny_handled ?_)
 rw [show A.in1.handled = none from hh]
 refine wpAny_bind (wpAny_pure (wpAny_throw ?_))
 refine wpAny_isInstance (T := "StopIteration") (b := true) ⟨_, Heap.get?_push_size _ rfl, rfl⟩ isSubtype_stop ⟨rfl, ?_⟩
 exact hQ _ fun b u e => Heap.get?_push_of_some _ (Heap.get?_push_of_some _ e)
theorem fe {slot : Nat} {Q : Option Value -> Shared -> Prop} (hh : A.handled = none) (hit : SIt s.heap it S (rawInt slot) i n ep) (ho : s.heap.get? S = some o) (hd : o.data = .set es ep t) (hf : t.fits es.size = true) (hn : es.size = n)
  (hnext : ∀ (A : Around) (E : Value -> Shared -> Prop) (Q' : Option (Value × Nat) -> Shared -> Prop), Q' none s -> wpAny (model P w) A (setNext S slot i ep) Q' E s)
  (hQ : ∀ h', (∀ b u, b ≠ it -> s.heap.get? b = some u -> h'.get? b = some u) -> Q none { s with heap := h' }) : wpAny (model P w) A (pyNext (.ref it)) Q E s := by
 have hT : s.TypeIs (.ref it) "set_iterator" := ⟨_, hit, rfl⟩
 unfold pyNext
 refine wpAny_bind (wpAny_attempt (wpAny_callSpecial?_slot (name := Str.ofString "__next__") hT bz (wpAny_call_entry bz hT dM ?_ (fu _))))
 unfold Builtin.«set_iterator.__next__»
 refine wpAny_bind (wpAny_pure ?_)
 refine wpAny_bind (wpAny_fieldsOf hit rfl ?_)
 show wpAny _ _ (setEntries S >>= _) _ _ _
 refine wpAny_bind (wpAny_setEntries_of ho hd hf ?_)
 rw [if_neg (by rw [hn]; simp)]
 show wpAny _ _ (setNext S ((slot : Int).toNat) ((i : Int).toNat) ((ep : Int).toNat) >>= _) _ _ _
 rw [Int.toNat_natCast, Int.toNat_natCast, Int.toNat_natCast]
 refine wpAny_bind (hnext _ _ _ ?_)
 show wpAny _ _ (setField (.ref it) 2 .none >>= _) _ _ s
 refine wpAny_bind (wpAny_setField hit rfl (by simp) ?_)
 refine wpAny_mono (kN (P := P) (w := w) (A := A) (E := E) (s := s) (Q := Q) hh fun h' k => hQ h' fun b u hb e => k b u ?_) (fun _ _ z => z.elim) fun e s' z => ?_
 ·exact (Heap.SameBut.update ..).extBut b u hb e
 ·refine wpAny_bind (wpAny_mono z (fun b s2 ⟨e1, e2⟩ => ?_) fun _ _ y => y)
  subst e1
  exact wpAny_pure e2
end
section
variable {P : Program} {w : World} {A : Around} {E : Value -> Shared -> Prop} {s : Shared} {it S tp : Addr} {o ot : Obj} {es : Array (Int × Value)} {ep n i m : Nat} {t : SetTable} {pl : Array Value}
theorem rB {p : Nat} {h : Int} {x : Value} {Q : Value -> Shared -> Prop} (ho : s.heap.get? S = some o) (hd : o.data = .set es ep t) (hf : t.fits es.size = true) (he : es[p]? = some (h, x)) (q : Q x s) : wpAny (model P w) A (setNextDrawn S p ep) Q E s := by
 unfold setNextDrawn
 refine wpAny_bind (wpAny_setState_of ho hd hf ?_)
 dsimp only
 rw [if_neg (by simp)]
 rw [he]
 exact wpAny_pure q
theorem qJ {p : Nat} {h : Int} {x : Value} {Q : Option Value -> Shared -> Prop} (hit : SIt s.heap it S (.ref tp) i n ep) (htp : s.heap.get? tp = some ot) (hdt : ot.data = .seq pl m) (ho : s.heap.get? S = some o) (hd : o.data = .set es ep t) (hf : t.fits es.size = true) (hn : es.size = n)
  (hp : pl[i]? = some (rawInt p)) (he : es[p]? = some (h, x)) (hQ : ∀ h', SIt h' it S (.ref tp) (i + 1) n ep -> Heap.SameBut it s.heap h' -> Q (some x) { s with heap := h' }) : wpAny (model P w) A (pyNext (.ref it)) Q E s := by
 have hT : s.TypeIs (.ref it) "set_iterator" := ⟨_, hit, rfl⟩
 unfold pyNext
 refine wpAny_bind (wpAny_attempt (wpAny_callSpecial?_slot (name := Str.ofString "__next__") hT bz (wpAny_call_entry bz hT dM ?_ (fu _))))
 unfold Builtin.«set_iterator.__next__»
 refine wpAny_bind (wpAny_pure ?_)
 refine wpAny_bind (wpAny_fieldsOf hit rfl ?_)
 show wpAny _ _ (setEntries S >>= _) _ _ _
 refine wpAny_bind (wpAny_setEntries_of ho hd hf ?_)
 rw [if_neg (by rw [hn]; simp)]
 show wpAny _ _ (seqItems? (.ref tp) >>= _) _ _ _
 refine wpAny_bind (wpAny_seqItems htp hdt ?_)
 show wpAny _ _ (match pl[(i : Int).toNat]? with | some (.int place _) => _ | some _ => _ | none => _) _ _ _
 rw [Int.toNat_natCast, hp]
 show wpAny _ _ (setNextDrawn S ((p : Int).toNat) ((ep : Int).toNat) >>= _) _ _ _
 rw [Int.toNat_natCast, Int.toNat_natCast]
 refine wpAny_bind (rB ho hd hf he ?_)
 refine wpAny_bind (wpAny_setField_rec hit (by simp) fun h2 e2 s2 => ?_)
 refine wpAny_pure ⟨_, rfl, wpAny_pure (hQ h2 ?_ s2)⟩
 have e : ((i + 1 : Nat) : Int) = (i : Int) + 1 := by omega
 show h2.get? it = _
 rw [e]
 simpa [rawInt] using e2
theorem jJ {Q : Option Value -> Shared -> Prop} (hh : A.handled = none) (hit : SIt s.heap it S (.ref tp) i n ep) (htp : s.heap.get? tp = some ot) (hdt : ot.data = .seq pl m) (ho : s.heap.get? S = some o) (hd : o.data = .set es ep t) (hf : t.fits es.size = true) (hn : es.size = n)
  (hp : pl[i]? = none) (hQ : ∀ h', (∀ b u, b ≠ it -> s.heap.get? b = some u -> h'.get? b = some u) -> Q none { s with heap := h' }) : wpAny (model P w) A (pyNext (.ref it)) Q E s := by
 have hT : s.TypeIs (.ref it) "set_iterator" := ⟨_, hit, rfl⟩
 unfold pyNext
 refine wpAny_bind (wpAny_attempt (wpAny_callSpecial?_slot (name := Str.ofString "__next__") hT bz (wpAny_call_entry bz hT dM ?_ (fu _))))
 unfold Builtin.«set_iterator.__next__»
 refine wpAny_bind (wpAny_pure ?_)
 refine wpAny_bind (wpAny_fieldsOf hit rfl ?_)
 show wpAny _ _ (setEntries S >>= _) _ _ _
 refine wpAny_bind (wpAny_setEntries_of ho hd hf ?_)
 rw [if_neg (by rw [hn]; simp)]
 show wpAny _ _ (seqItems? (.ref tp) >>= _) _ _ _
 refine wpAny_bind (wpAny_seqItems htp hdt ?_)
 show wpAny _ _ (match pl[(i : Int).toNat]? with | some (.int place _) => _ | some _ => _ | none => _) _ _ _
 rw [Int.toNat_natCast, hp]
 show wpAny _ _ (setField (.ref it) 0 (rawInt 0) >>= _) _ _ s
 refine wpAny_bind (wpAny_setField_rec hit (by simp) fun h2 e2 s2 => ?_)
 refine wpAny_bind (wpAny_setField e2 rfl (by simp) ?_)
 refine wpAny_mono (kN (P := P) (w := w) (A := A) (E := E) (s := s) (Q := Q) hh fun h' k => hQ h' fun b u hb e => k b u ?_) (fun _ _ z => z.elim) fun e s' z => ?_
 ·exact (Heap.SameBut.update ..).extBut b u hb (s2.extBut b u hb e)
 ·refine wpAny_bind (wpAny_mono z (fun b s2 ⟨e1, e2⟩ => ?_) fun _ _ y => y)
  subst e1
  exact wpAny_pure e2
theorem iB {slot g : Nat} {Q : Option (Value × Nat) -> Shared -> Prop} (hbt : w.params.followText "set-order" = true) (ho : s.heap.get? S = some o) (hd : o.data = .set es ep t) (hf : t.fits es.size = true)
  (q : Q (((pickOrder (w.params.setOrder S ep) es)[g]?).map fun e => (e.2, slot)) s) : wpAny (model P w) A (setNext S slot g ep) Q E s := by
 unfold setNext setWalk setsByText
 refine wpAny_bind (wpAny_setState_of ho hd hf ?_)
 dsimp only
 refine wpAny_bind (wpAny_bind (wpAny_askSetting (wpAny_pure ?_)))
 refine wpAny_ite_split (fun _ => ?_) (fun z => absurd hbt z)
 refine wpAny_ite_split (fun z => absurd z (by simp)) (fun _ => ?_)
 refine wpAny_bind (wpAny_bind (wpAny_setState_of ho hd hf ?_))
 dsimp only
 refine wpAny_bind (wpAny_bind (wpAny_askSetting (wpAny_pure ?_)))
 refine wpAny_ite_split (fun _ => ?_) (fun z => absurd hbt z)
 refine wpAny_bind (wpAny_askSetting (wpAny_pure ?_))
 exact wpAny_pure q
theorem lV {slot g : Nat} {Q : Option (Value × Nat) -> Shared -> Prop} (hbt : w.params.followText "set-order" = false) (ho : s.heap.get? S = some o) (hd : o.data = .set es ep t) (hf : t.fits es.size = true) (hl : t.led = true) (h1 : es.size <= 1)
  (q : Q (match es[SetTable.below t.place slot]?, t.place[SetTable.below t.place slot]? with | some (_, x), some j => some (x, j + 1) | _, _ => none) s) : wpAny (model P w) A (setNext S slot g ep) Q E s := by
 unfold setNext setsByText
 refine wpAny_bind (wpAny_setState_of ho hd hf ?_)
 dsimp only
 refine wpAny_bind (wpAny_bind (wpAny_askSetting (wpAny_pure ?_)))
 refine wpAny_ite_split (fun z => absurd (hbt.symm.trans z) (fun y => nomatch y)) (fun _ => ?_)
 refine wpAny_ite_split (fun z => absurd z ?_) (fun _ => ?_)
 ·show ¬ ((!t.plain && decide (es.size > 1)) = true)
  rw [decide_eq_false (by omega), Bool.and_false]
  exact Bool.false_ne_true
 refine wpAny_bind ?_
 show wpAny _ _ (if (!t.led && !es.isEmpty) = true then _ else _) _ _ _
 rw [if_neg (by rw [hl]; simp)]
 refine wpAny_pure ?_
 exact wpAny_pure q
end
section
variable {P : Program} {w : World} {A : Around} {E : Value -> Shared -> Prop} {s : Shared} {S : Addr} {o : Obj} {es : Array (Int × Value)} {ep : Nat} {t : SetTable}
theorem qS {Q : Bool -> Shared -> Prop} (ho : s.heap.get? S = some o) (hd : o.data = .set es ep t) (hf : t.fits es.size = true) (q : Q (!w.params.followText "set-order" && (!t.plain && decide (es.size > 1))) s) : wpAny (model P w) A (setDrawn S) Q E s := by
 unfold setDrawn setsByText
 refine wpAny_bind (wpAny_setState_of ho hd hf ?_)
 dsimp only
 refine wpAny_bind (wpAny_bind (wpAny_askSetting (wpAny_pure ?_)))
 exact wpAny_pure q
theorem rM {Q : Value -> Shared -> Prop} (ho : s.heap.get? S = some o) (hex : o.ExactSet) (hd : o.data = .set es ep t) (hf : t.fits es.size = true) (hz : es.size <= 1000)
  (q0 : (!w.params.followText "set-order" && (!t.plain && decide (es.size > 1))) = false -> Q (.ref s.heap.objs.size) { s with heap := s.heap.push { cls := .type "set_iterator", data := .fields #[rawInt 0, .int 0 0, .ref S, .int es.size 0, .int ep 0] } })
  (q1 : (!w.params.followText "set-order" && (!t.plain && decide (es.size > 1))) = true -> ∀ (ys : List Nat) (d : Drawn), ys.Perm (List.range es.size) -> Q (.ref (s.heap.objs.size + 1)) { s with heap := (s.heap.push { cls := .type "tuple", data := .seq (ys.map fun (i : Nat) => rawInt i).toArray }).push { cls := .type "set_iterator", data := .fields #[.ref s.heap.objs.size, .int 0 0, .ref S, .int es.size 0, .int ep 0] }, drawn := d }) :
  wpAny (model P w) A (pyIter (.ref S)) Q E s := by
 have hT : s.TypeIs (.ref S) "set" := ⟨o, ho, hex.1⟩
 refine wpAny_pyIter_slot hT PySem.F.slot_set_iter (wpAny_call_entry PySem.F.slot_set_iter hT ic ?_ (PySem.F.args_set_iter_1 _))
 unfold Builtin.«frozenset.__iter__» Builtin.Frozenset.slot0 slotArgs
 simp only [List.isEmpty_nil, Bool.not_true, Bool.false_eq_true, ↓reduceIte, bind_assoc, List.length_nil, bne_self_eq_false]
 unfold Builtin.Frozenset.addrOf Builtin.Frozenset.sizeOf
 refine wpAny_bind (wpAny_pure ?_)
 try dsimp only
 refine wpAny_bind (wpAny_pure ?_)
 refine wpAny_bind (wpAny_bind (wpAny_setEntries_of ho hd hf (wpAny_pure ?_)))
 refine wpAny_bind (qS ho hd hf ?_)
 cases hb : (!w.params.followText "set-order" && (!t.plain && decide (es.size > 1))) with
 | false =>
  simp only [Bool.false_eq_true, if_false]
  refine wpAny_bind (wpAny_pure ?_)
  refine wpAny_bind (wpAny_setEpoch_of ho hd hf ?_)
  refine wpAny_bind (wpAny_newObj_type (wpAny_pure ⟨_, rfl, "set_iterator", _, ⟨_, Heap.get?_push_size _ rfl, rfl⟩, bz.lookup, ?_⟩) ?_)
  ·exact q0 hb
  ·simp only [sizeOk, List.size_toArray, List.length_cons, List.length_nil, sizeLine_eq]; omega
 | true =>
  simp only [if_true]
  refine wpAny_bind (lT es.size (List.range es.size) _ List.length_range fun ys d hp => ?_)
  have hl : ys.length <= 1000 := by rw [hp.length_eq]; simpa using hz
  refine wpAny_bind (wpAny_newTuple ?_ (by rw [List.length_map, sizeLine_eq]; omega))
  have ho' : (s.heap.push { cls := .type "tuple", data := .seq (ys.map fun (i : Nat) => rawInt i).toArray }).get? S = some o := Heap.get?_push_of_some _ ho
  refine wpAny_bind (wpAny_setEpoch_of ho' hd hf ?_)
  refine wpAny_bind (wpAny_newObj_type (wpAny_pure ⟨_, rfl, "set_iterator", _, ⟨_, Heap.get?_push_size _ rfl, rfl⟩, bz.lookup, ?_⟩) ?_)
  ·have := q1 hb ys d hp
   rw [Heap.size_push]
   exact this
  ·simp only [sizeOk, List.size_toArray, List.length_cons, List.length_nil, sizeLine_eq]; omega
end
structure Wk (P : Program) (w : World) (it : Addr) (fp : List Addr) (vs : List Value) (St : Nat -> Heap -> Prop) : Prop where
 keep : ∀ i h h', St i h -> (∀ b ∈ fp, ∀ u, h.get? b = some u -> h'.get? b = some u) -> St i h'
 item : ∀ (i : Nat) (s : Shared) (A : Around) (Q : Option Value -> Shared -> Prop) (E : Value -> Shared -> Prop) (x : Value), St i s.heap -> vs[i]? = some x ->
  (∀ h', St (i + 1) h' -> (∀ b u, b ≠ it -> s.heap.get? b = some u -> h'.get? b = some u) -> Q (some x) { s with heap := h' }) -> wpAny (model P w) A (pyNext (.ref it)) Q E s
 done : ∀ (s : Shared) (A : Around) (Q : Option Value -> Shared -> Prop) (E : Value -> Shared -> Prop), A.handled = none -> St vs.length s.heap ->
  (∀ h', (∀ b u, b ≠ it -> s.heap.get? b = some u -> h'.get? b = some u) -> Q none { s with heap := h' }) -> wpAny (model P w) A (pyNext (.ref it)) Q E s
section
variable {P : Program} {w : World} {it S tp : Addr} {o ot : Obj} {es : Array (Int × Value)} {ep m : Nat} {t : SetTable}
theorem sP (hbt : w.params.followText "set-order" = true) (hd : o.data = .set es ep t) (hf : t.fits es.size = true) (hne : S ≠ it) :
  Wk P w it [it, S] ((pickOrder (w.params.setOrder S ep) es).toList.map (·.2)) (fun i h => SIt h it S (rawInt 0) i es.size ep /\ h.get? S = some o) where
 keep := fun i h h' st k => ⟨k it (by simp) _ st.1, k S (by simp) _ st.2⟩
 item := fun i s A Q E x st hx hQ => by
  have hx' : ((pickOrder (w.params.setOrder S ep) es)[i]?).map (fun e => (e.2, 0)) = some (x, 0) := by
   rw [List.getElem?_map, Array.getElem?_toList] at hx
   cases e : (pickOrder (w.params.setOrder S ep) es)[i]? with
   | none => rw [e] at hx; cases hx
   | some y => rw [e] at hx; have := Option.some.inj hx; rw [<- this]; rfl
  exact lO (slot' := 0) st.1 st.2 hd hf rfl (fun A E Q' q => iB hbt st.2 hd hf (by rw [hx']; exact q)) fun h' hit' sb => hQ h' ⟨hit', (sb.2 S hne).trans st.2⟩ fun b u hb e => (sb.2 b hb).trans e
 done := fun s A Q E hh st hQ => by
  refine fe hh st.1 st.2 hd hf rfl (fun A E Q' q => iB hbt st.2 hd hf ?_) hQ
  have e : (pickOrder (w.params.setOrder S ep) es)[((pickOrder (w.params.setOrder S ep) es).toList.map (·.2)).length]? = none := by
   rw [List.length_map, Array.length_toList]
   exact Array.getElem?_eq_none (Nat.le_refl _)
  rw [e]; exact q
theorem jt {α : Type} {a : Array α} (h : a.size = 1) : ∃ x, a = #[x] := by
 cases a with
 | mk l => match l, h with | [x], _ => exact ⟨x, rfl⟩
theorem im (j k : Nat) : SetTable.below #[j] k = if j < k then 1 else 0 := by
 unfold SetTable.below
 show SetTable.below.go #[j] k 1 0 1 = _
 unfold SetTable.below.go
 rw [if_pos (by decide)]
 show (if j < k then SetTable.below.go #[j] k 0 1 1 else SetTable.below.go #[j] k 0 0 0) = _
 split
 ·rfl
 ·rfl
theorem vz (hbt : w.params.followText "set-order" = false) (hd : o.data = .set es ep t) (hf : t.fits es.size = true) (hl : t.led = true) (h1 : es.size <= 1) (hne : S ≠ it) :
  Wk P w it [it, S] (es.toList.map (·.2)) (fun i h => SIt h it S (rawInt ((if i = 0 then 0 else t.place.getD 0 0 + 1 : Nat))) i es.size ep /\ h.get? S = some o) where
 keep := fun i h h' st k => ⟨k it (by simp) _ st.1, k S (by simp) _ st.2⟩
 item := fun i s A Q E x st hx hQ => by
  have hi : i < es.size := by have := (List.getElem?_eq_some_iff.mp hx).1; simpa using this
  have i0 : i = 0 := by omega
  subst i0
  have n1 : es.size = 1 := by omega
  have ps : t.place.size = 1 := by
   have := hf
   simp only [SetTable.fits, Bool.and_eq_true, beq_iff_eq] at this
   rw [this.1, n1]
  obtain ⟨j, hj⟩ := jt ps
  obtain ⟨y, hy⟩ := jt n1
  have ex : y.2 = x := by
   rw [hy] at hx
   simpa using hx
  refine lO (slot := 0) (slot' := j + 1) st.1 st.2 hd hf rfl (fun A E Q' q => lV hbt st.2 hd hf hl h1 ?_) fun h' hit' sb => hQ h' ⟨?_, (sb.2 S hne).trans st.2⟩ fun b u hb e => (sb.2 b hb).trans e
  ·have b0 : SetTable.below t.place 0 = 0 := by rw [hj, im, if_neg (Nat.not_lt_zero _)]
   rw [b0, hj, hy]
   show Q' (some (y.2, j + 1)) s
   rw [ex]; exact q
  ·have e : t.place.getD 0 0 = j := by rw [hj]; rfl
   show SIt h' it S (rawInt ((if (0 + 1 : Nat) = 0 then 0 else t.place.getD 0 0 + 1 : Nat))) (0 + 1) es.size ep
   rw [if_neg (by decide), e]
   exact hit'
 done := fun s A Q E hh st hQ => by
  refine fe hh st.1 st.2 hd hf rfl (fun A E Q' q => lV hbt st.2 hd hf hl h1 ?_) hQ
  have ps : t.place.size = es.size := by
   have := hf
   simp only [SetTable.fits, Bool.and_eq_true, beq_iff_eq] at this
   exact this.1
  have e : es[SetTable.below t.place (if (es.toList.map (·.2)).length = 0 then 0 else t.place.getD 0 0 + 1)]? = none := by
   rw [List.length_map, Array.length_toList]
   by_cases z : es.size = 0
   ·exact Array.getElem?_eq_none (by omega)
   ·have n1 : es.size = 1 := by omega
    rw [n1] at ps
    obtain ⟨j, hj⟩ := jt ps
    rw [if_neg z, hj]
    have e2 : (#[j] : Array Nat).getD 0 0 = j := rfl
    rw [e2, im, if_pos (Nat.lt_succ_self _)]
    exact Array.getElem?_eq_none (by omega)
  rw [e]; exact q
theorem tu {ys : List Nat} (hp : ys.Perm (List.range es.size)) (hdt : ot.data = .seq (ys.map fun (i : Nat) => rawInt i).toArray m) (hd : o.data = .set es ep t) (hf : t.fits es.size = true) (hne : S ≠ it) (hte : tp ≠ it) :
  Wk P w it [it, S, tp] (ys.map fun p => (es.getD p (0, Value.none)).2) (fun i h => SIt h it S (.ref tp) i es.size ep /\ h.get? S = some o /\ h.get? tp = some ot) where
 keep := fun i h h' st k => ⟨k it (by simp) _ st.1, k S (by simp) _ st.2.1, k tp (by simp) _ st.2.2⟩
 item := fun i s A Q E x st hx hQ => by
  rw [List.getElem?_map] at hx
  cases e : ys[i]? with
  | none => rw [e] at hx; cases hx
  | some p =>
   rw [e] at hx
   have hx' : (es.getD p (0, Value.none)).2 = x := Option.some.inj hx
   have hlt : p < es.size := List.mem_range.mp (hp.mem_iff.mp (List.mem_of_getElem? e))
   have he : es[p]? = some ((es.getD p (0, Value.none)).1, x) := by
    rw [<- hx']
    simp [Array.getD, hlt]
   refine qJ st.1 st.2.2 hdt st.2.1 hd hf rfl (p := p) ?_ he fun h' hit' sb => hQ h' ⟨hit', (sb.2 S hne).trans st.2.1, (sb.2 tp hte).trans st.2.2⟩ fun b u hb e => (sb.2 b hb).trans e
   rw [List.getElem?_toArray, List.getElem?_map, e]; rfl
 done := fun s A Q E hh st hQ => by
  refine jJ hh st.1 st.2.2 hdt st.2.1 hd hf rfl ?_ hQ
  rw [List.getElem?_toArray]
  exact List.getElem?_eq_none (by simp)
end
section
variable {P : Program} {w : World} {A : Around} {E : Value -> Shared -> Prop} {s : Shared} {S : Addr} {xs : List Str}
theorem eK : ∀ {l : List (Int × Value)}, ElemsOf (PySem.strKind P w) l -> aG ((l.map cM).map V.str) (l.map (·.2))
 | [], _ => .nil
 | e :: l, h => by
  obtain ⟨⟨k, hk, _⟩, _⟩ := h.head
  obtain ⟨tk, ht⟩ := Value.isStrOf_shape hk
  refine .cons ?_ (eK h.tail)
  show ∃ t, e.2 = Value.str (cM e) t
  exact ⟨tk, by rw [fN hk]; exact ht⟩
theorem oQ {Q : Value -> Shared -> Prop} (hS : bY P w s.heap S xs) (hx : xs.length <= 1000)
  (q : ∀ (h' : Heap) (d : Drawn) (it : Addr) (fp : List Addr) (vs : List Value) (os : List Str) (St : Nat -> Heap -> Prop), (∀ b u, s.heap.get? b = some u -> h'.get? b = some u) -> Wk P w it fp vs St -> St 0 h' -> (∀ b ∈ fp, b = S \/ s.heap.objs.size <= b) -> s.heap.objs.size <= it -> aG (os.map V.str) vs -> os.Perm xs -> Q (.ref it) { s with heap := h', drawn := d }) :
  wpAny (model P w) A (pyIter (.ref S)) Q E s := by
 obtain ⟨o, es, ep, t, ho, hex, hd, hel, hb, hf, hl, hpl, hp⟩ := hS
 have sz : es.size = xs.length := by rw [<- hp.length_eq, List.length_map, Array.length_toList]
 have hlt : S < s.heap.objs.size := Heap.lt_size ho
 refine rM ho hex hd hf (by omega) (fun hb0 => ?_) (fun hb1 ys d hys => ?_)
 ·have e0 : s = { s with drawn := s.drawn } := by cases s; rfl
  have ne : S ≠ s.heap.objs.size := Nat.ne_of_lt hlt
  have go := q (s.heap.push { cls := .type "set_iterator", data := .fields #[rawInt 0, .int 0 0, .ref S, .int es.size 0, .int ep 0] }) s.drawn s.heap.objs.size [s.heap.objs.size, S]
  have fpo : ∀ b ∈ [s.heap.objs.size, S], b = S \/ s.heap.objs.size <= b := fun b hb => by
   rcases List.mem_cons.mp hb with rfl | hb
   ·exact .inr (Nat.le_refl _)
   ·exact .inl (List.mem_singleton.mp hb)
  cases hbt : w.params.followText "set-order" with
  | true =>
   have pm := me (w.params.setOrder S ep) es
   exact go _ ((pickOrder (w.params.setOrder S ep) es).toList.map cM) _ (fun b u e => Heap.get?_push_of_some _ e) (sP hbt hd hf ne) ⟨Heap.get?_push_size _ rfl, Heap.get?_push_of_some _ ho⟩ fpo (Nat.le_refl _) (eK (hel.perm pm)) ((pm.map _).trans hp)
  | false =>
   have h1 : es.size <= 1 := by
    rw [hbt] at hb0
    by_cases z : es.size > 1
    ·rw [decide_eq_true z] at hb0
     cases pz : t.plain with
     | true => have := hpl pz; omega
     | false => rw [pz] at hb0; cases hb0
    ·omega
   exact go _ (es.toList.map cM) _ (fun b u e => Heap.get?_push_of_some _ e) (vz hbt hd hf (by rw [hl, hbt]; rfl) h1 ne) ⟨Heap.get?_push_size _ rfl, Heap.get?_push_of_some _ ho⟩ fpo (Nat.le_refl _) (eK hel) hp
 ·have hsz : (s.heap.push { cls := .type "tuple", data := .seq (ys.map fun (i : Nat) => rawInt i).toArray }).objs.size = s.heap.objs.size + 1 := Heap.size_push ..
  have ne : S ≠ s.heap.objs.size + 1 := Nat.ne_of_lt (Nat.lt_succ_of_lt hlt)
  have ne2 : s.heap.objs.size ≠ s.heap.objs.size + 1 := Nat.ne_of_lt (Nat.lt_succ_self _)
  have itAt : ((s.heap.push { cls := .type "tuple", data := .seq (ys.map fun (i : Nat) => rawInt i).toArray }).push { cls := .type "set_iterator", data := .fields #[.ref s.heap.objs.size, .int 0 0, .ref S, .int es.size 0, .int ep 0] }).get? (s.heap.objs.size + 1) = some { cls := .type "set_iterator", dict := none, data := .fields #[.ref s.heap.objs.size, .int 0 0, .ref S, .int es.size 0, .int ep 0], slots := #[] } := by
   rw [<- hsz]; exact Heap.get?_push_size _ rfl
  have perm2 : (ys.map fun p => es.getD p (0, Value.none)).Perm es.toList := by
   refine (hys.map _).trans ?_
   have e : (List.range es.size).map (fun p => es.getD p (0, Value.none)) = es.toList := by
    apply List.ext_getElem
    ·simp
    ·intro i h1 h2
     have hi : i < es.size := by simpa using h1
     simp [Array.getD, hi]
   rw [e]
  have vs := eK (hel.perm perm2)
  rw [List.map_map (g := fun x : Int × Value => x.2)] at vs
  refine q _ d (s.heap.objs.size + 1) [s.heap.objs.size + 1, S, s.heap.objs.size] _ ((ys.map fun p => es.getD p (0, Value.none)).map cM) _ (fun b u e => Heap.get?_push_of_some _ (Heap.get?_push_of_some _ e)) (tu (tp := s.heap.objs.size) (m := 0) (ot := { cls := .type "tuple", data := .seq (ys.map fun (i : Nat) => rawInt i).toArray }) hys rfl hd hf ne ne2)
   ⟨itAt, Heap.get?_push_of_some _ (Heap.get?_push_of_some _ ho), Heap.get?_push_of_some _ (Heap.get?_push_size _ rfl)⟩ (fun b hb => ?_) (Nat.le_succ _) vs ((perm2.map _).trans hp)
  simp only [List.mem_cons, List.not_mem_nil, or_false] at hb
  rcases hb with rfl | rfl | rfl
  ·exact .inr (Nat.le_succ _)
  ·exact .inl rfl
  ·exact .inr (Nat.le_refl _)
variable {R : Result -> Shared -> Prop} {it L : Addr} {fp : List Addr} {vs : List Value} {St : Nat -> Heap -> Prop}
theorem rJ (W : Wk P w it fp vs St) (hh : A.handled = none) (hL : L ∉ fp) (hLi : L ≠ it) (hn : vs.length <= 1000) (res : Value) {h₁ : Heap}
  (hR : ∀ h' tk c acc, (∀ b u, b ≠ L -> b ≠ it -> h₁.get? b = some u -> h'.get? b = some u) -> h'.get? L = some { cls := .type "list", dict := none, data := .seq acc c, slots := #[] } -> acc.toList = vs -> R (.ok (.ret res)) { s with heap := h', toks := tk }) :
  ∀ (k i : Nat) (h : Heap) (tk c : Nat) (acc : Array Value), vs.length - i = k -> i <= vs.length -> St i h -> (∀ b u, b ≠ L -> b ≠ it -> h₁.get? b = some u -> h.get? b = some u) -> h.get? L = some { cls := .type "list", dict := none, data := .seq acc c, slots := #[] } -> acc.toList = vs.take i ->
   codeAny (model P w) A (.builtin "list.extend.loop" ⟨[.ref L, .ref it, res], []⟩) R { s with heap := h, toks := tk } := by
 intro k
 induction k with
 | zero =>
  intro i h tk c acc hk hi st kp hl ha
  obtain rfl : i = vs.length := by omega
  refine codeAny_builtin PySem.F.entry_extend_loop ?_
  rw [Around.under_plainId PySem.F.plain_extend_loop _]
  show wpAny _ A.in1 (pyNext (.ref it) >>= _) _ _ _
  refine wpAny_bind (W.done { s with heap := h, toks := tk } A.in1 _ _ hh st fun h' k' => ?_)
  exact wpAny_pure (hR h' tk c acc (fun b u h1 h2 e => k' b u h2 (kp b u h1 h2 e)) (k' L _ hLi hl) (by rw [ha, List.take_length]))
 | succ k ih =>
  intro i h tk c acc hk hi st kp hl ha
  have hlt : i < vs.length := by omega
  have hsz : acc.size = i := by rw [<- Array.length_toList, ha, List.length_take]; omega
  refine codeAny_builtin PySem.F.entry_extend_loop ?_
  rw [Around.under_plainId PySem.F.plain_extend_loop _]
  show wpAny _ A.in1 (pyNext (.ref it) >>= _) _ _ _
  refine wpAny_bind (W.item i { s with heap := h, toks := tk } A.in1 _ _ vs[i] st (List.getElem?_eq_getElem hlt) fun h' st' k' => ?_)
  dsimp only at k' ⊢
  have hl' := k' L _ hLi hl
  have up : ∀ b u, b ≠ L -> h'.get? b = some u -> (h'.update L (Obj.mapSeq (·.push vs[i]))).get? b = some u := fun b u hb e => (Heap.get?_update_other _ _ (Ne.symm hb)).trans e
  show wpAny _ A.in1 (updateSeq L (·.push vs[i]) >>= _) _ _ _
  refine wpAny_bind ?_
  refine wpAny_updateSeq hl' rfl (wpAny_pure ⟨plainId_quiet PySem.F.plain_extend_loop _, ih (i + 1) _ tk _ (acc.push vs[i]) (by omega) hlt (W.keep _ _ _ st' fun b hb u e => up b u (fun z => hL (z ▸ hb)) e) (fun b u h1 h2 e => up b u h1 (k' b u h2 (kp b u h1 h2 e))) (Heap.get?_update_self _ hl' rfl) ?_⟩) (by rw [hsz, sizeLine_eq]; omega) (by show (acc.push vs[i]).size <= sizeLine + 1; rw [Array.size_push, hsz, sizeLine_eq]; omega)
  rw [Array.toList_push, ha, List.take_add_one, List.getElem?_eq_getElem hlt]; rfl
theorem qH (hT : s.TypeIs (.ref S) "set") {Q : Bool -> Shared -> Prop} (h : Q false s) : wpAny (model P w) A (Builtin.List.listLengthHint (.ref S)) Q E s := by
 unfold Builtin.List.listLengthHint
 refine wpAny_bind (wpAny_specialOf hT PySem.F.slot_set_len.lookup ?_)
 generalize hid : ("set.__len__" : String) = id0
 wp_delta
 rw [show splitId id0 = some ("set", "__len__") from by subst hid; decide +kernel]
 subst hid
 refine wpAny_bind (wpAny_isInstance (T := "set") (b := true) hT (by rw [isSubtype_type]; kernel_rfl) ?_)
 refine wpAny_ite_split (fun hab => absurd hab (by decide)) (fun _ => ?_)
 refine wpAny_ite_split (fun _ => ?_) (fun hab => absurd (by decide +kernel) hab)
 refine wpAny_bind (wpAny_typeOf hT ?_)
 exact wpAny_pure h
end
section
variable {P : Program} {w : World} {A : Around} {E : Value -> Shared -> Prop} {s : Shared} {S : Addr} {xs : List Str}
theorem sN {R : Result -> Shared -> Prop} (hh : A.handled = none) (hS : bY P w s.heap S xs) (hx : xs.length <= 1000) (L : Addr) (hLS : L ≠ S) (res : Value) (hL : s.heap.get? L = some { cls := .type "list", data := .seq #[] })
  (hR : ∀ (h' : Heap) (d : Drawn) (tk c : Nat) (acc : Array Value) (os : List Str), (∀ b u, b ≠ L -> s.heap.get? b = some u -> h'.get? b = some u) -> h'.get? L = some { cls := .type "list", dict := none, data := .seq acc c, slots := #[] } -> aG (os.map V.str) acc.toList -> os.Perm xs -> R (.ok (.ret res)) { s with heap := h', toks := tk, drawn := d }) :
  wpAny (model P w) A.in1 (Builtin.List.listExtendWith (.ref L) (.ref S) res) (fun fin s' => match fin with | .done f => R (.ok f) s' | .again c' => c'.quiet = true /\ codeAny (model P w) A c' R s') (fun e s' => R (.error e) s') s := by
 have hT : s.TypeIs (.ref S) "set" := let ⟨o, _, _, _, ho, hex, _⟩ := hS; ⟨o, ho, hex.1⟩
 have lL : L < s.heap.objs.size := Heap.lt_size hL
 unfold Builtin.List.listExtendWith
 refine wpAny_bind (wpAny_typeOf (T := "set") hT ?_)
 have h1 : Builtin.List.listSameRef (.ref L) (.ref S) = false := by simp [Builtin.List.listSameRef, hLS]
 have h2 : (Value.type "set" == Value.type "list") = false := by decide
 have h3 : (Value.type "set" == Value.type "tuple") = false := by decide
 simp only [h1, h2, h3, Bool.or_false, Bool.false_eq_true, if_false]
 refine wpAny_bind (oQ hS hx fun h1 d it fp vs os St k1 W st hfp hit rv hp => ?_)
 have hLf : L ∉ fp := fun z => by
  rcases hfp L z with e | e
  ·exact hLS e
  ·exact absurd lL (Nat.not_lt.mpr e)
 have hLi : L ≠ it := fun z => absurd lL (Nat.not_lt.mpr (z ▸ hit))
 have hvs : vs.length <= 1000 := by
  have := rv.length
  rw [List.length_map] at this
  rw [<- this, hp.length_eq]; exact hx
 have key : ∀ (h : Heap) (c tk : Nat), (∀ b u, b ≠ L -> h1.get? b = some u -> h.get? b = some u) -> h.get? L = some { cls := .type "list", data := .seq #[] c } -> codeAny (model P w) A (.builtin "list.extend.loop" ⟨[.ref L, .ref it, res], []⟩) R { s with heap := h, toks := tk, drawn := d } := by
  intro h c tk hk hL1
  refine rJ (s := { s with drawn := d }) W hh hLf hLi hvs res (h₁ := s.heap) (fun h' tk' c' acc k' hl' ha => ?_) vs.length 0 h tk c #[] (Nat.sub_zero _) (Nat.zero_le _) (W.keep _ _ _ st fun b hb u e => hk b u (fun z => hLf (z ▸ hb)) e) (fun b u hb _ e => hk b u hb (k1 b u e)) hL1 rfl
  refine hR h' d tk' c' acc os (fun b u hb e => k' b u hb (fun z => absurd (Heap.lt_size e) (Nat.not_lt.mpr (z ▸ hit))) e) hl' (by rw [ha]; exact rv) hp
 have hL1 := k1 L _ hL
 have hT1 : Shared.TypeIs { s with heap := h1, drawn := d } (.ref S) "set" := let ⟨o, ho, hc⟩ := hT; ⟨o, k1 S o ho, hc⟩
 refine wpAny_bind (wpAny_holding (qH hT1 ?_))
 refine wpAny_ite_split (fun _ => ?_) (fun _ => wpAny_pure ⟨plainId_quiet PySem.F.plain_extend_loop _, key _ _ _ (fun b u _ e => e) hL1⟩)
 refine wpAny_bind (wpAny_rule ?_)
 refine wpAny_bind ?_
 show wpAny _ _ (updateSeq L (·.push .none) >>= fun _ => updateSeq L (·.pop)) _ _ _
 refine wpAny_bind (wpAny_updateSeq hL1 rfl ?_)
 have hL2 := Heap.get?_update_self (Obj.mapSeq (·.push Value.none)) hL1 rfl
 refine wpAny_updateSeq (hz := by seq_fits) hL2 rfl ?_
 have hL3 := Heap.get?_update_self (Obj.mapSeq (·.pop)) hL2 rfl
 refine wpAny_pure ⟨plainId_quiet PySem.F.plain_extend_loop _, key _ _ _ (fun b u hb e => ?_) hL3⟩
 exact (Heap.get?_update_other _ _ (Ne.symm hb)).trans ((Heap.get?_update_other _ _ (Ne.symm hb)).trans e)
theorem kH {R : List Value -> Shared -> Prop} (hh : A.handled = none) (hS : bY P w s.heap S xs) (hx : xs.length <= 1000)
  (h : ∀ (h' : Heap) (d : Drawn) (tk : Nat) (vs : List Value) (os : List Str), (∀ b u, s.heap.get? b = some u -> h'.get? b = some u) -> aG (os.map V.str) vs -> os.Perm xs -> R vs { s with heap := h', toks := tk, drawn := d }) :
  wpAny (model P w) A (collect (.ref S)) R E s := by
 have hlt : S < s.heap.objs.size := let ⟨o, _, _, _, ho, _⟩ := hS; Heap.lt_size ho
 unfold collect
 refine wpAny_bind (wpAny_runValue (codeAny_builtin entry_proto_collect' ?_))
 rw [Around.under_plainId PySem.F.plain_proto_collect _]
 show wpAny _ A.in1 (newList [] >>= fun l => again (.builtin "list.__iadd__" ⟨[l, .ref S], []⟩)) _ _ s
 refine wpAny_bind (wpAny_newObj_type ?_)
 refine wpAny_pure ⟨plainId_quiet PySem.F.plain_list_iadd _, codeAny_builtin entry_list_iadd' ?_⟩
 rw [Around.under_plainId PySem.F.plain_list_iadd _]
 have hL1 : (s.heap.push { cls := .type "list", data := .seq ([] : List Value).toArray }).get? s.heap.objs.size = some { cls := .type "list", data := .seq #[] } := Heap.get?_push_size _ rfl
 show wpAny _ A.in1 (Builtin.List.listExtendWith (.ref s.heap.objs.size) (.ref S) (.ref s.heap.objs.size)) _ _ _
 have key := sN (A := A) (s := { s with heap := s.heap.push { cls := .type "list", data := .seq ([] : List Value).toArray } })
  (R := fun (q : Result) (s' : Shared) => ∃ (h' : Heap) (d : Drawn) (tk c : Nat) (acc : Array Value) (os : List Str), q = .ok (.ret (.ref s.heap.objs.size)) /\ s' = { s with heap := h', toks := tk, drawn := d } /\ (∀ b u, s.heap.get? b = some u -> h'.get? b = some u) /\ h'.get? s.heap.objs.size = some { cls := .type "list", dict := none, data := .seq acc c, slots := #[] } /\ aG (os.map V.str) acc.toList /\ os.Perm xs)
  hh (hS.at' fun o e => Heap.get?_push_of_some _ e) hx s.heap.objs.size (Nat.ne_of_gt hlt) (.ref s.heap.objs.size) hL1
  (fun h' d tk c acc os k hl rv hp => ⟨h', d, tk, c, acc, os, rfl, rfl, fun b u e => k b u (Nat.ne_of_lt (Heap.lt_size e)) (Heap.get?_push_of_some _ e), hl, rv, hp⟩)
 refine wpAny_mono key (fun fin s' x => ?_) fun e s' x => ?_
 ·cases fin with
  | done f =>
   obtain ⟨h', d, tk, c, acc, os, e, rfl, k, hl, rv, hp⟩ := x
   cases e
   show wpAny _ A (load s.heap.objs.size >>= _) _ _ _
   refine wpAny_bind (wpAny_load hl ?_)
   exact wpAny_pure (h h' d tk acc.toList os k rv hp)
  | again c₁ =>
   refine ⟨x.1, codeAny_mono x.2 fun q s₂ y => ?_⟩
   obtain ⟨h', d, tk, c, acc, os, rfl, rfl, k, hl, rv, hp⟩ := y
   show wpAny _ A (load s.heap.objs.size >>= _) _ _ _
   refine wpAny_bind (wpAny_load hl ?_)
   exact wpAny_pure (h h' d tk acc.toList os k rv hp)
 ·obtain ⟨_, _, _, _, _, _, e', _⟩ := x
  cases e'
end
def lA (a b : Str) : Prop := a.cps.toList < b.cps.toList
section
variable {X : Cx} {pins : List (Addr × Obj)} {σ : St} {H : Hp} {s : Shared}
theorem dc {ps : List Str} {its : List Value} (rv : aG (ps.map V.str) its) (i : Nat) (hi : i < ps.length) : ∃ t, its.getD i .none = Value.str (ps.getD i default) t := by
 obtain ⟨u, hu, ru⟩ := aG.get (i := i) (x := V.str ps[i]) rv (by rw [List.getElem?_map, List.getElem?_eq_getElem hi]; rfl)
 obtain ⟨t, rfl⟩ := (show ∃ t, u = Value.str ps[i] t from ru)
 exact ⟨t, by simp [List.getD, hu, hi]⟩
theorem pU {A : Around} {E : Value -> Shared -> Prop} {l : Addr} {ps : List Str} {Q : Value -> Shared -> Prop} (I : Inv X pins σ H s) (hq : H l = some (.lst (ps.map V.str))) (nd : ps.Nodup) (h64 : ps.length < 64)
  (q : ∀ (qs : List Str) (h' : Heap), qs.Perm ps -> qs.Pairwise lA -> Inv X pins σ (upd H l (.lst (qs.map V.str))) { s with heap := h' } -> Q .none { s with heap := h' }) : wpAny (model X.prog X.w) A (call (.builtin "list.sort") [.ref l]) Q E s := by
 obtain ⟨hz, its, n, rv, at0⟩ := (show aF X.prog X.w H s.heap l (.lst (ps.map V.str)) from I.hok l _ hq)
 have li : its.length = ps.length := by have := rv.length; rw [List.length_map] at this; exact this.symm
 obtain ⟨m, hm, _⟩ := I.loc
 have nL : l ≠ X.env.locals := fun z => by rw [z, I.free] at hq; cases hq
 by_cases few : ps.length < 2
 ·refine wpAny_call_entry slot_list_sort ⟨_, at0, rfl⟩ entry_list_sort (bS at0 (by omega) fun hp ep k2 e2 => ⟨_, rfl, ?_⟩) (args_list_sort _)
  refine q ps hp (List.Perm.refl _) ?_ (I.setList hm hq rv hz (hm.at' fun o e => k2 _ o (Ne.symm nL) e) (fun b o _ hb z => k2 b o hb z) e2)
  match ps, few with
  | [], _ => exact .nil
  | [p], _ => exact List.pairwise_singleton _ _
 ·have F0 : Fr (Att.noObjs s.heap) X.env.locals s.heap m := Att.fr_all hm
  generalize hN : (eT (Att.noObjs s.heap) s.heap X.env.locals).filter (fun p => decide (p.1 ≠ l)) = nw
  have N0 : News (Att.noObjs s.heap) X.env.locals s.heap nw := fun p hp => by rw [<- hN] at hp; exact ka p (List.mem_filter.mp hp).1
  have nl0 : ∀ p ∈ nw, p.1 ≠ l := fun p hp => by rw [<- hN] at hp; exact of_decide_eq_true (List.mem_filter.mp hp).2
  refine wpAny_call_entry slot_list_sort ⟨_, at0, rfl⟩ entry_list_sort (kat_list_sort F0 N0 at0 nL (Att.noObjs_get _ _) nl0 (by omega) (by omega) fun e1 h' F' N' => ?_) (args_list_sort _)
  have keep : ∀ (g : Heap) (x : Obj), News (Att.noObjs s.heap) X.env.locals g ((l, x) :: nw) -> ∀ b o, b ≠ X.env.locals -> b ≠ l -> s.heap.get? b = some o -> g.get? b = some o := fun g x N b o hb hl e =>
   (N (b, o) (List.mem_cons_of_mem _ (by rw [<- hN]; exact List.mem_filter.mpr ⟨fV hb (Att.noObjs_get _ _) e, decide_eq_true hl⟩))).1
  have kk : keyKind' its.toArray = pure oneType' := by
   have st := jC rv
   match its, li, st with
   | v1 :: v2 :: r, _, st => exact keyKind_strs st
   | [_], li, _ => simp at li; omega
   | [], li, _ => simp at li; omega
  rw [kk]
  refine wpAny_pure ?_
  rw [li]
  have unlike : ∀ i j, i < ps.length -> j < ps.length -> i ≠ j -> ps.getD i default ≠ ps.getD j default := fun i j hi hj hij e => by
   have ei : ps.getD i default = ps[i] := by simp [List.getD, hi]
   have ej : ps.getD j default = ps[j] := by simp [List.getD, hj]
   rw [ei, ej] at e
   exact hij ((List.getElem_inj nd).mp e)
  have O : Ord (kas_ask X.prog X.w A.in1 oneType' its) (fun i j => decide ((ps.getD i default).cps.toList < (ps.getD j default).cps.toList)) ps.length { s with heap := h' } := by
   refine ⟨fun i j C hi hj hij hC => ?_, fun i j k h1 h2 => ?_, fun i j hi hj hij h1 => ?_, fun i j h1 => ?_⟩
   ·show wpAny _ _ (keyLt' _ _ _) C _ _
    obtain ⟨t1, e1⟩ := dc rv i hi
    obtain ⟨t2, e2⟩ := dc rv j hj
    rw [e1, e2]
    exact kas_lt_str hC
   ·exact decide_eq_true (List.lt_trans (of_decide_eq_true h1) (of_decide_eq_true h2))
   ·exact decide_eq_true (gf (of_decide_eq_false h1) fun e => unlike i j hi hj hij (jw e))
   ·exact decide_eq_false (List.lt_asymm (of_decide_eq_true h1))
  refine oA O (by omega) fun p re up => ?_
  have hl2 : p.toList.Perm (List.range ps.length) := by simpa using Array.perm_iff_toList_perm.mp re.perm
  have outs : ∀ il : List Nat, (∀ i ∈ il, i < ps.length) -> aG ((il.map fun i => ps.getD i default).map V.str) (il.map fun i => its.getD i .none) := by
   intro il
   induction il with
   | nil => intro _; exact .nil
   | cons i il ih =>
    intro h
    obtain ⟨t1, e1⟩ := dc rv i (h i List.mem_cons_self)
    refine .cons ?_ (ih fun x hx => h x (List.mem_cons_of_mem _ hx))
    exact ⟨t1, e1⟩
  have rv2 := outs p.toList fun i hi => List.mem_range.mp ((List.Perm.mem_iff hl2).mp hi)
  refine KasFin.intro (news := (l, seqObj "list" #[] e1) :: nw) (g := fun o' => (l, o') :: nw) F' N' (.head nl0) fun h2 c F2 N2 => ?_
  have pq := iz (d := default) rfl re
  have I2 := I.setList (D := l) hm hq rv2 (by rw [List.length_map, pq.length_eq]; simpa using hz) F2.ns (keep h2 _ N2) (N2 (l, _) List.mem_cons_self).1
  exact ⟨_, rfl, q _ h2 pq (el (R := lA) (fun i j _ _ h => (of_decide_eq_true h : (ps.getD i default).cps.toList < (ps.getD j default).cps.toList)) re up) I2⟩
end
section
variable {X : Cx}
def SetO (P : Program) (w : World) (a : Addr) (xs : List Str) : HO := .ext fun h => bY P w h a xs
theorem oP (hc : X.calm = true) : bB X (.type "set") (fun xs H Q => ∃ (l : Addr) (ys : List Str), xs = [.ref l] /\ SqL X.K H l (ys.map V.str) /\ ys.length <= 1000 /\
  ∀ (a : Addr) (zs : List Str), H a = none -> zs.Nodup -> (∀ x, x ∈ zs ↔ x ∈ ys) -> zs.length <= ys.length -> Q (.ref a) (upd H a (SetO X.prog X.w a zs))) := by
 intro pins s σ H xs us Q I r h
 obtain ⟨l, ys, rfl, hq, hy, q⟩ := h
 obtain ⟨u, rfl, ru⟩ := bN r
 cases ru
 obtain ⟨its, rv, p, hz⟩ := I.list hq
 have li : its.length = ys.length := by have := rv.length; rw [List.length_map] at this; exact this.symm
 have hb : its.toArray.size + 1 < scanBound := by rw [List.size_toArray, li]; unfold scanBound; omega
 refine ig (ys := ys) (I.ok.hd hc) p.isList (fun i v hv => ?_) hb fun h' tk hS k => ?_
 ·have hv' : its[i]? = some v := by simpa using hv
  have hi : i < ys.length := by rw [<- li]; exact (List.getElem?_eq_some_iff.mp hv').1
  obtain ⟨t, e⟩ := dc rv i hi
  refine ⟨t, ?_⟩
  rw [<- e]
  simp [List.getD, hv']
 ·have sz : its.toArray.size = ys.length := by rw [List.size_toArray, li]
  rw [sz] at hS
  refine ⟨.ref s.heap.objs.size, _, I.laid (a := s.heap.objs.size) (o := SetO X.prog X.w s.heap.objs.size (uq (fun i => ys.getD i default) ys.length)) (t' := tk) (fun b u e => k b u (Heap.lt_size e) e) (Nat.le_refl _) ?_, rfl, q _ _ I.fresh (fc _ _) (fun x => ?_) (jj _ _)⟩
  ·refine ⟨hS, ?_, fun h1 h2 x kk => bY.at' x kk⟩
   obtain ⟨o, _, _, _, ho, _⟩ := hS
   exact ⟨o, ho⟩
  ·rw [mJ]
   constructor
   ·rintro ⟨j, hj, rfl⟩
    have e : ys.getD j default = ys[j] := by simp [List.getD, hj]
    rw [e]; exact List.getElem_mem hj
   ·intro hx
    obtain ⟨j, hj, rfl⟩ := List.getElem_of_mem hx
    exact ⟨j, hj, by simp [List.getD, hj]⟩
theorem jL (hc : X.calm = true) : bB X (.builtin "sorted") (fun xs H Q => ∃ (a : Addr) (zs : List Str), xs = [.ref a] /\ H a = some (SetO X.prog X.w a zs) /\ zs.Nodup /\ zs.length < 64 /\
  ∀ (l : Addr) (qs : List Str), H l = none -> qs.Perm zs -> qs.Pairwise lA -> Q (.ref l) (upd H l (.lst (qs.map V.str)))) := by
 intro pins s σ H xs us Q I r h
 obtain ⟨a, zs, rfl, ha, nd, h64, q⟩ := h
 obtain ⟨u, rfl, ru⟩ := bN r
 cases ru
 obtain ⟨hS, _, _⟩ := (show aF X.prog X.w H s.heap a (SetO X.prog X.w a zs) from I.hok a _ ha)
 refine Calls.call_function_entry kind_sorted plain_sorted entry_sorted (args_sorted1 _) ?_
 unfold Builtin.«sorted»
 refine wpAny_bind (m := checkCount "sorted" 1 1 _) (wpAny_pure (wpAny_bind (kH (A := X.A.in1) (I.ok.hd hc) hS (by omega) fun h' d tk vs os k rv hp => ?_)))
 have I1 : Inv X pins σ H { s with heap := h', gens := s.gens, drawn := d, toks := tk } := I.call (ch := []) (Un.kept k) (I.hok.kept k) I.bare fun b hb => nomatch hb
 have lv : vs.length = zs.length := by have := rv.length; rw [List.length_map, hp.length_eq] at this; exact this.symm
 refine wpAny_bind (wpAny_newList ?_ (by rw [lv, sizeLine_eq]; omega))
 have I2 := I1.lnew (t' := tk) rv (by rw [List.length_map, hp.length_eq, sizeLine_eq]; omega)
 refine wpAny_bind (wpAny_holding (pU (A := X.A.in1) (l := h'.objs.size) (ps := os) I2 ad (hp.nodup_iff.mpr nd) (by rw [hp.length_eq]; exact h64) fun qs h2 pq pw I3 => ?_))
 rw [dL] at I3
 exact wpAny_pure ⟨_, rfl, .ref h'.objs.size, _, I3, rfl, q _ qs I1.fresh (pq.trans hp) pw⟩
end
section
variable {X : Cx}
theorem si {j : Int} (h0 : 0 < j) (h1 : j < 10 ^ 60) : j.natAbs.log2 < 9000 := by
 have hn : j.natAbs < 2 ^ 200 := by omega
 have := (Nat.log2_lt (n := j.natAbs) (k := 200) (by omega)).mpr hn
 omega
def vJ (i j : Int) : Prop := 0 < j /\ j < 10 ^ 60
theorem kY : OpR X (binaryOp .FloorDiv) (rI vJ fun i j => .int (i / j)) := opI fun i j _ _ _ _ _ hc q => by
 have h1 : (0 : Int) < j := hc.1
 exact floordiv_int (by omega) (by rw [Int.fdiv_eq_ediv_of_nonneg i (by omega)]; exact q) (.inl (PyProof.noPylong_of_log2 (si hc.1 hc.2)))
end
section
variable {X : Cx}
end
open PySem PySem.Spec PyProof.Rows
section
variable {prog : Program} {w : World} {A : Around} {E : Value -> Shared -> Prop} {s : Shared}
end
section
variable {X : Cx}
end
open PySem PySem.Spec PyProof.Rows PySem.W
section
variable {X : Cx}
variable {tg : Expr}
end
noncomputable def fA (p : Prop) : Bool := @decide p (Classical.propDecidable p)
theorem eV {p : Prop} : fA p = true ↔ p := by unfold fA; exact @decide_eq_true_iff p (Classical.propDecidable p)
theorem cF {p : Prop} {b : Bool} (h : b = true ↔ p) : b = fA p := by rw [Bool.eq_iff_iff, eV]; exact h
theorem bZ {p : Prop} (h : ¬ p) : false = fA p := cF ⟨fun z => (nomatch z), fun z => absurd z h⟩
mutual
theorem Rep.inj {H : Hp} : ∀ (d e : Dv) (v : V), Rep H d v -> Rep H e v -> d = e
 | .tup ds, e, v, h1, h2 => by
  simp only [Rep] at h1
  obtain ⟨a, vs, rfl, ha, rs⟩ := h1
  cases e with
  | tup es => simp only [Rep] at h2; obtain ⟨b, ws, eb, hb, rs2⟩ := h2; cases eb; rw [ha] at hb; cases hb; rw [Reps.inj ds es vs rs rs2]
  | lst es => simp only [Rep] at h2; obtain ⟨b, ws, eb, hb, rs2⟩ := h2; cases eb; rw [ha] at hb; cases hb
  | dct => simp only [Rep] at h2; obtain ⟨b, eb, hb⟩ := h2; cases eb; rw [ha] at hb; cases hb
  | _ => simp only [Rep] at h2; cases h2
 | .lst ds, e, v, h1, h2 => by
  simp only [Rep] at h1
  obtain ⟨a, vs, rfl, ha, rs⟩ := h1
  cases e with
  | lst es => simp only [Rep] at h2; obtain ⟨b, ws, eb, hb, rs2⟩ := h2; cases eb; rw [ha] at hb; cases hb; rw [Reps.inj ds es vs rs rs2]
  | tup es => simp only [Rep] at h2; obtain ⟨b, ws, eb, hb, rs2⟩ := h2; cases eb; rw [ha] at hb; cases hb
  | dct => simp only [Rep] at h2; obtain ⟨b, eb, hb⟩ := h2; cases eb; rw [ha] at hb; cases hb
  | _ => simp only [Rep] at h2; cases h2
 | .dct, e, v, h1, h2 => by
  simp only [Rep] at h1
  obtain ⟨a, rfl, ha⟩ := h1
  cases e with
  | dct => rfl
  | tup es => simp only [Rep] at h2; obtain ⟨b, ws, eb, hb, rs2⟩ := h2; cases eb; rw [ha] at hb; cases hb
  | lst es => simp only [Rep] at h2; obtain ⟨b, ws, eb, hb, rs2⟩ := h2; cases eb; rw [ha] at hb; cases hb
  | _ => simp only [Rep] at h2; cases h2
 | .non, e, v, h1, h2 => by
  simp only [Rep] at h1; subst h1
  cases e with
  | non => rfl
  | tup es => simp only [Rep] at h2; obtain ⟨b, ws, eb, _⟩ := h2; cases eb
  | lst es => simp only [Rep] at h2; obtain ⟨b, ws, eb, _⟩ := h2; cases eb
  | dct => simp only [Rep] at h2; obtain ⟨b, eb, _⟩ := h2; cases eb
  | _ => simp only [Rep] at h2; cases h2
 | .bl _, e, v, h1, h2 => by
  simp only [Rep] at h1; subst h1
  cases e with
  | bl b => simp only [Rep] at h2; cases h2; rfl
  | tup es => simp only [Rep] at h2; obtain ⟨b, ws, eb, _⟩ := h2; cases eb
  | lst es => simp only [Rep] at h2; obtain ⟨b, ws, eb, _⟩ := h2; cases eb
  | dct => simp only [Rep] at h2; obtain ⟨b, eb, _⟩ := h2; cases eb
  | _ => simp only [Rep] at h2; cases h2
 | .int _, e, v, h1, h2 => by
  simp only [Rep] at h1; subst h1
  cases e with
  | int b => simp only [Rep] at h2; cases h2; rfl
  | tup es => simp only [Rep] at h2; obtain ⟨b, ws, eb, _⟩ := h2; cases eb
  | lst es => simp only [Rep] at h2; obtain ⟨b, ws, eb, _⟩ := h2; cases eb
  | dct => simp only [Rep] at h2; obtain ⟨b, eb, _⟩ := h2; cases eb
  | _ => simp only [Rep] at h2; cases h2
 | .str _, e, v, h1, h2 => by
  simp only [Rep] at h1; subst h1
  cases e with
  | str b => simp only [Rep] at h2; cases h2; rfl
  | tup es => simp only [Rep] at h2; obtain ⟨b, ws, eb, _⟩ := h2; cases eb
  | lst es => simp only [Rep] at h2; obtain ⟨b, ws, eb, _⟩ := h2; cases eb
  | dct => simp only [Rep] at h2; obtain ⟨b, eb, _⟩ := h2; cases eb
  | _ => simp only [Rep] at h2; cases h2
theorem Reps.inj {H : Hp} : ∀ (ds es : List Dv) (vs : List V), Reps H ds vs -> Reps H es vs -> ds = es
 | [], es, vs, h1, h2 => by
  simp only [Reps] at h1; subst h1
  cases es with
  | nil => rfl
  | cons e es => simp only [Reps] at h2; obtain ⟨v, r, e2, _⟩ := h2; cases e2
 | d :: ds, es, vs, h1, h2 => by
  simp only [Reps] at h1
  obtain ⟨v, r, rfl, r1, rs1⟩ := h1
  cases es with
  | nil => simp only [Reps] at h2; cases h2
  | cons e es =>
   simp only [Reps] at h2
   obtain ⟨v2, r2, e2, r3, rs3⟩ := h2
   cases e2
   rw [Rep.inj d e v r1 r3, Reps.inj ds es r rs1 rs3]
end
inductive Pl : Nat -> Dv -> Prop
 | int {n : Nat} {i : Int} : Pl n (.int i)
 | str {n : Nat} {x : Str} : Pl n (.str x)
 | non {n : Nat} : Pl n .non
 | tup {n : Nat} {ds : List Dv} : (∀ d ∈ ds, Pl n d) -> Pl (n + 1) (.tup ds)
theorem gY {ds es : List Dv} : ((List.range (min ds.length es.length)).all (fun j => fA (ds[j]? = es[j]?)) && ds.length == es.length) = fA (Dv.tup ds = .tup es) := by
 refine cF ?_
 rw [Bool.and_eq_true, List.all_eq_true, beq_iff_eq]
 constructor
 ·rintro ⟨h, hl⟩
  congr 1
  refine List.ext_getElem? fun j => ?_
  by_cases hj : j < ds.length
  ·exact eV.mp (h j (List.mem_range.mpr (by omega)))
  ·rw [List.getElem?_eq_none (by omega), List.getElem?_eq_none (by omega)]
 ·intro h
  cases h
  exact ⟨fun j _ => eV.mpr rfl, rfl⟩
section
variable {X : Cx} {pins : List (Addr × Obj)} {σ : St} {H : Hp} {s : Shared}
theorem gp (I : Inv X pins σ H s) {A : Around} {n : Nat} {ds es : List Dv} {vs ws : List V} {its its2 : List Value}
  (h : ∀ d ∈ ds, ∀ e ∈ es, ∀ (v w : V) (a b : Value), Rep H d v -> Rep H e w -> aJ v a -> aJ w b -> SeqAt.EqAt A s a b (fA (d = e))) (rs1 : Reps H ds vs) (rs2 : Reps H es ws) (rv1 : aG vs its) (rv2 : aG ws its2) :
  its.toArray.size = ds.length /\ its2.toArray.size = es.length /\ ∀ j (h1 : j < its.toArray.size) (h2 : j < its2.toArray.size), SeqAt.EqAt A s its.toArray[j] its2.toArray[j] (fA (ds[j]? = es[j]?)) := by
 have l1 := rs1.length
 have l2 := rs2.length
 have l3 := rv1.length
 have l4 := rv2.length
 refine ⟨by simp; omega, by simp; omega, fun j h1 h2 => ?_⟩
 have hj : j < its.length := by simpa using h1
 have hj2 : j < its2.length := by simpa using h2
 obtain ⟨u, hu1, ru⟩ := aG.get (i := j) (x := vs[j]'(by omega)) rv1 (List.getElem?_eq_getElem _)
 obtain ⟨u2, hu2, ru2⟩ := aG.get (i := j) (x := ws[j]'(by omega)) rv2 (List.getElem?_eq_getElem _)
 obtain ⟨d, hd, Rd⟩ := rs1.get (i := j) (v := vs[j]'(by omega)) (List.getElem?_eq_getElem _)
 obtain ⟨d2, hd2, Rd2⟩ := rs2.get (i := j) (v := ws[j]'(by omega)) (List.getElem?_eq_getElem _)
 have e1 : its.toArray[j] = u := by
  rw [List.getElem?_eq_getElem hj] at hu1
  simpa using Option.some.inj hu1
 have e2 : its2.toArray[j] = u2 := by
  rw [List.getElem?_eq_getElem hj2] at hu2
  simpa using Option.some.inj hu2
 rw [e1, e2, hd, hd2]
 have e3 : fA (some d = some d2) = fA (d = d2) := cF (by rw [eV]; exact ⟨Option.some.inj, fun z => by rw [z]⟩)
 rw [e3]
 exact h d (List.mem_of_getElem? hd) d2 (List.mem_of_getElem? hd2) _ _ _ _ Rd Rd2 ru ru2
theorem tF (I : Inv X pins σ H s) {n : Nat} {d : Dv} (h : Pl n d) : ∀ {e : Dv}, Pl n e -> ∀ {A : Around} {v w : V} {a b : Value}, A.units + n < cLine -> Rep H d v -> Rep H e w -> aJ v a -> aJ w b -> SeqAt.EqAt A s a b (fA (d = e)) := by
 induction h with
 | @int n i =>
  intro e he A v w a b hu r1 r2 q1 q2
  simp only [Rep] at r1
  subst r1
  obtain ⟨t, rfl⟩ := (show ∃ t, a = Value.int i t from q1)
  cases he with
  | @int _ j => simp only [Rep] at r2; subst r2; obtain ⟨u, rfl⟩ := (show ∃ t, b = Value.int j t from q2); rw [<- cF (b := (i == j)) (by rw [beq_iff_eq]; exact ⟨fun z => by rw [z], fun z => Dv.int.inj z⟩)]; exact SeqAt.EqAt.int_int i t j u
  | @str _ x => simp only [Rep] at r2; subst r2; obtain ⟨u, rfl⟩ := (show ∃ t, b = Value.str x t from q2); rw [<- bZ nofun]; exact SeqAt.EqAt.int_str i t x u
  | non => simp only [Rep] at r2; subst r2; cases q2; rw [<- bZ nofun]; exact SeqAt.EqAt.int_none i t
  | @tup n es _ => simp only [Rep] at r2; obtain ⟨l, ws, rfl, hl, _⟩ := r2; cases q2; obtain ⟨its, _, p, _⟩ := I.tuple (SqT.of hl); rw [<- bZ nofun]; exact SeqAt.EqAt.int_tuple i t p (by omega)
 | @str n x =>
  intro e he A v w a b hu r1 r2 q1 q2
  simp only [Rep] at r1
  subst r1
  obtain ⟨t, rfl⟩ := (show ∃ t, a = Value.str x t from q1)
  cases he with
  | @int _ j => simp only [Rep] at r2; subst r2; obtain ⟨u, rfl⟩ := (show ∃ t, b = Value.int j t from q2); rw [<- bZ nofun]; exact SeqAt.EqAt.str_int x t j u
  | @str _ y => simp only [Rep] at r2; subst r2; obtain ⟨u, rfl⟩ := (show ∃ t, b = Value.str y t from q2); rw [<- cF (b := (x == y)) (by rw [beq_iff_eq]; exact ⟨fun z => by rw [z], fun z => Dv.str.inj z⟩)]; exact SeqAt.EqAt.str_str x t y u
  | non => simp only [Rep] at r2; subst r2; cases q2; rw [<- bZ nofun]; exact SeqAt.EqAt.str_none x t
  | @tup n es _ => simp only [Rep] at r2; obtain ⟨l, ws, rfl, hl, _⟩ := r2; cases q2; obtain ⟨its, _, p, _⟩ := I.tuple (SqT.of hl); rw [<- bZ nofun]; exact SeqAt.EqAt.str_tuple x t p (by omega)
 | @non n =>
  intro e he A v w a b hu r1 r2 q1 q2
  simp only [Rep] at r1
  subst r1
  cases q1
  cases he with
  | @int _ j => simp only [Rep] at r2; subst r2; obtain ⟨u, rfl⟩ := (show ∃ t, b = Value.int j t from q2); rw [<- bZ nofun]; exact SeqAt.EqAt.none_int j u
  | @str _ y => simp only [Rep] at r2; subst r2; obtain ⟨u, rfl⟩ := (show ∃ t, b = Value.str y t from q2); rw [<- bZ nofun]; exact SeqAt.EqAt.none_str y u
  | non => simp only [Rep] at r2; subst r2; cases q2; rw [<- cF (b := true) ⟨fun _ => rfl, fun _ => rfl⟩]; exact SeqAt.EqAt.same _
  | @tup n es _ => simp only [Rep] at r2; obtain ⟨l, ws, rfl, hl, _⟩ := r2; cases q2; obtain ⟨its, _, p, _⟩ := I.tuple (SqT.of hl); rw [<- bZ nofun]; exact SeqAt.EqAt.none_tuple p (by omega)
 | @tup n ds hds ih =>
  intro e he A v w a b hu r1 r2 q1 q2
  have r1' := r1
  simp only [Rep] at r1
  obtain ⟨l, vs, rfl, h1, rs1⟩ := r1
  cases q1
  obtain ⟨its, rv1, p1, _⟩ := I.tuple (SqT.of h1)
  cases he with
  | @int _ j => simp only [Rep] at r2; subst r2; obtain ⟨u, rfl⟩ := (show ∃ t, b = Value.int j t from q2); rw [<- bZ nofun]; exact SeqAt.EqAt.tuple_int j u p1 (by omega)
  | @str _ y => simp only [Rep] at r2; subst r2; obtain ⟨u, rfl⟩ := (show ∃ t, b = Value.str y t from q2); rw [<- bZ nofun]; exact SeqAt.EqAt.tuple_str y u p1 (by omega)
  | non => simp only [Rep] at r2; subst r2; cases q2; rw [<- bZ nofun]; exact SeqAt.EqAt.tuple_none p1 (by omega)
  | @tup _ es hes =>
   have r2' := r2
   simp only [Rep] at r2
   obtain ⟨b', ws, rfl, h2, rs2⟩ := r2
   cases q2
   obtain ⟨its2, rv2, p2, _⟩ := I.tuple (SqT.of h2)
   have hu' : A.in1.units + n < cLine := by show A.units + 1 + n < cLine; omega
   obtain ⟨z1, z2, q⟩ := gp I (A := A.in1) (n := n) (fun d hd e he v w a b r1 r2 q1 q2 => ih d hd (hes e he) hu' r1 r2 q1 q2) rs1 rs2 rv1 rv2
   by_cases hlb : l = b'
   ·subst hlb
    rw [<- cF (b := true) ⟨fun _ => Rep.inj _ _ _ r1' r2', fun _ => rfl⟩]
    exact SeqAt.EqAt.same _
   ·have r := SeqAt.RcAt.tuples (e := fun j => fA (ds[j]? = es[j]?)) p1 p2 (by omega) q
    rw [z1, z2, gY] at r
    exact SeqAt.EqAt.of_refs hlb r
end
section
variable {X : Cx}
theorem pF {pins : List (Addr × Obj)} {σ : St} {H : Hp} {s : Shared} {ma mb : List (Key × V)} {va vb : List (Key × Value)} (ra : KV ma va) (rb : KV mb vb) (hm : ∀ p ∈ ma, ∃ i : Int, p.2 = .int i /\ dj mb p.1 = some (.int i)) : KeqHits X.A.in1 s vb va true := kS va fun p hp => by
 obtain ⟨i, hi⟩ := List.getElem?_of_mem hp
 obtain ⟨k, w⟩ := p
 obtain ⟨x, hx, rx⟩ := ra.at hi
 obtain ⟨j, e, hv⟩ := hm _ (List.mem_of_getElem? hx)
 have e' : x = .int j := e
 subst e'
 obtain ⟨y, hy, ry⟩ := ga.some_of (v := .int j) (o := valueAt vb k) (by rw [<- hv]; exact rb.val k)
 refine ⟨y, hy, ?_⟩
 obtain ⟨t, rfl⟩ := (show ∃ t, w = Value.int j t from rx)
 obtain ⟨t', rfl⟩ := (show ∃ t, y = Value.int j t from ry)
 have e := SeqAt.EqAt.int_int (A := X.A.in1) (s := s) j t j t'
 rwa [beq_self_eq_true] at e
theorem uZ (hu : X.A.units + 8 < cLine) : OpR X (compareOp .Eq) (fun x y H Q => ∃ (a b : Addr) (ma mb : List (Key × V)), x = .ref a /\ y = .ref b /\ Rd H a (.dK ma) /\ Rd H b (.dK mb) /\ ma.length = mb.length /\ (∀ p ∈ ma, ∃ i : Int, p.2 = .int i /\ dj mb p.1 = some (.int i)) /\ Q (.bl true) H) := by
 intro pins s σ H x y v u Q I rx ry h
 obtain ⟨a, b, ma, mb, rfl, rfl, ha, hb, hl, hm, q⟩ := h
 cases rx
 cases ry
 obtain ⟨z, hda, va, ra, da⟩ := iJ I.hok ha
 obtain ⟨_, hdb, vb, rb, db⟩ := iJ I.hok hb
 have la := ra.length
 have lb := rb.length
 refine keq_eq (r := true) hda hdb da db (by omega) (fun _ => pF (pins := pins) (σ := σ) (H := H) ra rb hm) ?_
 have e : (va.length == vb.length && true) = true := by simp; omega
 rw [e]
 exact ⟨.bl true, H, I, rfl, q⟩
end
section
variable {X : Cx} {k : Nat} {f : Addr} {fd : FuncData} {ps : List Str} {sp : Sp} {x : Str} {p pos : Pos} {e : Expr} {es : List Expr} {t : TA}
end
section
variable {prog : Program} {w : World} {A : Around} {E : Value -> Shared -> Prop} {s : Shared} {r l S : Addr} {items : Array Value}
end
section
variable {X : Cx} {e : Expr} {te : TE} {p p1 pos pos1 : Pos}
end
section
variable {X : Cx}
end
section
variable {X : Cx} {pins : List (Addr × Obj)} {s : Shared} {σ : St} {H : Hp}
end
section
variable {X : Cx}
end
section
end
section
variable {prog : Program} {w : World} {A : Around} {E : Value -> Shared -> Prop} {s : Shared}
end
section
variable {X : Cx} {tg e : Expr} {ta : TA} {p pos : Pos}
end
section
variable {X : Cx}
end
section
variable {X : Cx}
end
open PySem PySem.Spec PyProof.Rows
section
variable {σ : St} {H : Hp} {d e : Dv} {ds es : List Dv} {ta tb : TE} {t : TA} {l : Addr}
variable {i : Nat} {u : TS} {D : eE}
end
open PySem PySem.Spec PyProof.Rows PySem.W
section
variable {X : Cx}
end
section
variable {prog : Program} {w : World} {A : Around} {E : Value -> Shared -> Prop} {s : Shared}
end
section
variable {X : Cx}
end
section
variable {prog : Program} {w : World} {A : Around} {E : Value -> Shared -> Prop} {s : Shared}
end
section
variable {X : Cx}
end
section
variable {X : Cx} {pins : List (Addr × Obj)} {s : Shared} {σ : St} {H : Hp} {a : Addr} {kvs : List (Str × Addr)}
end
section
variable {prog : Program} {w : World} {A : Around} {E : Value -> Shared -> Prop} {s : Shared}
end
section
variable {X : Cx}
end
section
variable {X : Cx}
end
section
variable {prog : Program} {w : World} {A : Around} {E : Value -> Shared -> Prop} {s : Shared}
end
section
variable {X : Cx}
end
section
variable {X : Cx}
end
section
variable {X : Cx}
end
section
variable {prog : Program} {w : World} {A : Around} {E : Value -> Shared -> Prop}
end
section
variable {X : Cx} {pos : Pos}
end
end L2
namespace KB
open PySem L2
abbrev Pr := Str × Int
def kP (p q : Pr) : Prop := p.1.cps.toList < q.1.cps.toList
def tm : List Pr -> Str -> Int
 | [], _ => 0
 | p :: ps, x => if p.1 = x then p.2 else tm ps x
def bK : List Pr -> Str -> Int
 | [], _ => 0
 | p :: ps, x => (if p.1 = x then p.2 else 0) + bK ps x
structure ce (ps : List Pr) : Prop where
 pw : ps.Pairwise kP
 ge : ∀ p ∈ ps, 1 <= p.2
theorem gn (a : List Nat) : ¬ a < a := fun h => List.lt_irrefl a h
theorem hB {a b : Str} (h : a.cps.toList = b.cps.toList) : a = b := by
 cases a
 cases b
 congr 1
 exact Array.ext' h
theorem eR {a b : List Nat} (h : ¬ a < b) (h2 : a ≠ b) : b < a := by
 by_cases h3 : b < a
 ·exact h3
 ·exact absurd (List.le_antisymm (List.not_lt.mp h3) (List.not_lt.mp h)) h2
theorem dI : ∀ {ps : List Pr} {x : Str}, (∀ p ∈ ps, p.1 ≠ x) -> tm ps x = 0
 | [], _, _ => rfl
 | p :: ps, x, h => by
  show (if p.1 = x then p.2 else tm ps x) = 0
  rw [if_neg (h p List.mem_cons_self)]
  exact dI fun q hq => h q (List.mem_cons_of_mem _ hq)
theorem jx : ∀ {ps : List Pr}, (ps.map (·.1)).Nodup -> ∀ {p : Pr}, p ∈ ps -> tm ps p.1 = p.2
 | [], _, _, h => nomatch h
 | q :: ps, nd, p, h => by
  rw [List.map_cons, List.nodup_cons] at nd
  show (if q.1 = p.1 then q.2 else tm ps p.1) = p.2
  rcases List.mem_cons.mp h with rfl | h
  ·rw [if_pos rfl]
  ·rw [if_neg (fun e : q.1 = p.1 => nd.1 (by rw [e]; exact List.mem_map_of_mem h))]
   exact jx nd.2 h
theorem cC {ps : List Pr} (h : ps.Pairwise kP) : (ps.map (·.1)).Nodup := by
 rw [List.Nodup, List.pairwise_map]
 exact h.imp fun {a b} hab e => by
  have hab' : a.1.cps.toList < b.1.cps.toList := hab
  rw [e] at hab'
  exact gn _ hab'
theorem sA {ps qs : List Pr} (nd : (ps.map (·.1)).Nodup) (h : ps.Perm qs) (x : Str) : tm ps x = tm qs x := by
 have nd' : (qs.map (·.1)).Nodup := (h.map _).nodup_iff.mp nd
 by_cases hx : ∃ p ∈ ps, p.1 = x
 ·obtain ⟨p, hp, rfl⟩ := hx
  rw [jx nd hp, jx nd' (h.mem_iff.mp hp)]
 ·rw [dI fun p hp e => hx ⟨p, hp, e⟩, dI fun p hp e => hx ⟨p, h.mem_iff.mpr hp, e⟩]
theorem ik : ∀ {ps qs : List Pr}, ce ps -> ce qs -> (∀ x, tm ps x = tm qs x) -> ps = qs
 | [], [], _, _, _ => rfl
 | [], q :: qs, _, hq, h => by
  have e := h q.1
  have : tm (q :: qs) q.1 = q.2 := by show (if q.1 = q.1 then q.2 else _) = q.2; rw [if_pos rfl]
  rw [this] at e
  have := hq.ge q List.mem_cons_self
  have e' : (0 : Int) = q.2 := e
  omega
 | p :: ps, [], hp, _, h => by
  have e := h p.1
  have : tm (p :: ps) p.1 = p.2 := by show (if p.1 = p.1 then p.2 else _) = p.2; rw [if_pos rfl]
  rw [this] at e
  have := hp.ge p List.mem_cons_self
  have e' : p.2 = (0 : Int) := e
  omega
 | p :: ps, q :: qs, hp, hq, h => by
  have pp := List.pairwise_cons.mp hp.pw
  have qq := List.pairwise_cons.mp hq.pw
  have hp' : ce ps := ⟨pp.2, fun x hx => hp.ge x (List.mem_cons_of_mem _ hx)⟩
  have hq' : ce qs := ⟨qq.2, fun x hx => hq.ge x (List.mem_cons_of_mem _ hx)⟩
  have self : ∀ (a : Pr) (l : List Pr), tm (a :: l) a.1 = a.2 := fun a l => by show (if a.1 = a.1 then a.2 else _) = a.2; rw [if_pos rfl]
  have less : ∀ (a b : Pr) (l : List Pr), kP a b -> (∀ x ∈ l, kP b x) -> tm (b :: l) a.1 = 0 := fun a b l hab hl => dI fun x hx e => by
   have : kP a x := by
    rcases List.mem_cons.mp hx with rfl | hx
    ·exact hab
    ·exact List.lt_trans (show a.1.cps.toList < b.1.cps.toList from hab) (hl x hx)
   have h2 : a.1.cps.toList < x.1.cps.toList := this
   rw [e] at h2
   exact gn _ h2
  have e1 : p.1 = q.1 := by
   apply hB
   by_cases h1 : p.1.cps.toList < q.1.cps.toList
   ·have := h p.1
    rw [self, less p q qs h1 qq.1] at this
    have h2 := hp.ge p List.mem_cons_self
    omega
   ·by_cases h3 : p.1.cps.toList = q.1.cps.toList
    ·exact h3
    ·have h4 : kP q p := eR h1 h3
     have := h q.1
     rw [self, less q p ps h4 pp.1] at this
     have h2 := hq.ge q List.mem_cons_self
     omega
  have e2 : p.2 = q.2 := by
   have := h p.1
   rw [self] at this
   rw [e1, self] at this
   exact this
  have e3 : p = q := by
   cases p; cases q
   simp only at e1 e2
   rw [e1, e2]
  subst e3
  congr 1
  refine ik hp' hq' fun x => ?_
  by_cases hx : p.1 = x
  ·subst hx
   have z : ∀ (l : List Pr), (∀ y ∈ l, kP p y) -> tm l p.1 = 0 := fun l hl => dI fun y hy e => by
    have h2 : p.1.cps.toList < y.1.cps.toList := hl y hy
    rw [e] at h2
    exact gn _ h2
   rw [z ps pp.1, z qs qq.1]
  ·have := h x
   have u : ∀ l : List Pr, tm (p :: l) x = tm l x := fun l => by show (if p.1 = x then p.2 else tm l x) = tm l x; rw [if_neg hx]
   rwa [u, u] at this
theorem cE (ps qs : List Pr) (x : Str) : bK (ps ++ qs) x = bK ps x + bK qs x := by
 induction ps with
 | nil => show bK qs x = 0 + bK qs x; omega
 | cons p ps ih =>
  show (if p.1 = x then p.2 else 0) + bK (ps ++ qs) x = (if p.1 = x then p.2 else 0) + bK ps x + bK qs x
  rw [ih]; omega
theorem iF : ∀ {ps : List Pr} {x : Str}, (∀ p ∈ ps, p.1 ≠ x) -> bK ps x = 0
 | [], _, _ => rfl
 | p :: ps, x, h => by
  show (if p.1 = x then p.2 else 0) + bK ps x = 0
  rw [if_neg (h p List.mem_cons_self), iF fun q hq => h q (List.mem_cons_of_mem _ hq)]
  rfl
theorem jF : ∀ {ps : List Pr}, (ps.map (·.1)).Nodup -> ∀ x, bK ps x = tm ps x
 | [], _, _ => rfl
 | p :: ps, nd, x => by
  rw [List.map_cons, List.nodup_cons] at nd
  show (if p.1 = x then p.2 else 0) + bK ps x = if p.1 = x then p.2 else tm ps x
  by_cases h : p.1 = x
  ·rw [if_pos h, if_pos h, iF (x := x) fun q hq e => nd.1 (h ▸ e ▸ List.mem_map_of_mem hq)]
   omega
  ·rw [if_neg h, if_neg h, jF nd.2 x]
   omega
def bi (kvs : List Pr) (x : Str) (n : Int) : List Pr := if (kvs.any fun p => decide (p.1 = x)) = true then kvs.map (fun p => if p.1 = x then (p.1, n) else p) else kvs ++ [(x, n)]
theorem mw {ps : List Pr} {x y : Str} {n : Int} (h : ∀ p ∈ ps, p.1 ≠ y) : tm (ps ++ [(x, n)]) y = if x = y then n else 0 := by
 induction ps with
 | nil => rfl
 | cons p ps ih =>
  show (if p.1 = y then p.2 else tm (ps ++ [(x, n)]) y) = _
  rw [if_neg (h p List.mem_cons_self), ih fun q hq => h q (List.mem_cons_of_mem _ hq)]
theorem jp {ps : List Pr} {x y : Str} {n : Int} (h : x ≠ y) : tm (ps ++ [(x, n)]) y = tm ps y := by
 induction ps with
 | nil => show (if x = y then n else 0) = 0; rw [if_neg h]
 | cons p ps ih =>
  show (if p.1 = y then p.2 else tm (ps ++ [(x, n)]) y) = if p.1 = y then p.2 else tm ps y
  rw [ih]
theorem iW {ps : List Pr} {x y : Str} {n : Int} (h : x ≠ y) : tm (ps.map fun p => if p.1 = x then (p.1, n) else p) y = tm ps y := by
 induction ps with
 | nil => rfl
 | cons p ps ih =>
  rw [List.map_cons]
  by_cases hp : p.1 = x
  ·rw [if_pos hp]
   show (if p.1 = y then n else tm _ y) = if p.1 = y then p.2 else tm ps y
   rw [if_neg (fun e => h (hp.symm.trans e)), if_neg (fun e => h (hp.symm.trans e)), ih]
  ·rw [if_neg hp]
   show (if p.1 = y then p.2 else tm _ y) = if p.1 = y then p.2 else tm ps y
   rw [ih]
theorem ku {ps : List Pr} {x : Str} {n : Int} (h : ∃ p ∈ ps, p.1 = x) : tm (ps.map fun p => if p.1 = x then (p.1, n) else p) x = n := by
 induction ps with
 | nil => obtain ⟨p, hp, _⟩ := h; nomatch hp
 | cons p ps ih =>
  rw [List.map_cons]
  by_cases hp : p.1 = x
  ·rw [if_pos hp]
   show (if p.1 = x then n else _) = n
   rw [if_pos hp]
  ·rw [if_neg hp]
   show (if p.1 = x then p.2 else tm _ x) = n
   rw [if_neg hp]
   refine ih ?_
   obtain ⟨q, hq, e⟩ := h
   rcases List.mem_cons.mp hq with rfl | hq
   ·exact absurd e hp
   ·exact ⟨q, hq, e⟩
theorem qu (kvs : List Pr) (x : Str) (n : Int) (y : Str) : tm (bi kvs x n) y = if x = y then n else tm kvs y := by
 unfold bi
 split
 ·rename_i h
  rw [List.any_eq_true] at h
  obtain ⟨p, hp, e⟩ := h
  by_cases hy : x = y
  ·subst hy; rw [if_pos rfl, ku ⟨p, hp, of_decide_eq_true e⟩]
  ·rw [if_neg hy, iW hy]
 ·rename_i h
  have no : ∀ p ∈ kvs, p.1 ≠ x := fun p hp e => h (List.any_eq_true.mpr ⟨p, hp, decide_eq_true e⟩)
  by_cases hy : x = y
  ·subst hy; rw [mw no, if_pos rfl, if_pos rfl]
  ·rw [if_neg hy, jp hy]
theorem dZ {ps qs : List Pr} (pw : ps.Pairwise kP) (h : ps.Perm qs) (x : Str) : tm ps x = tm qs x := sA (cC pw) h x
theorem fI {ps : List Pr} (h : ∀ p ∈ ps, 0 <= p.2) (x : Str) : 0 <= tm ps x := by
 induction ps with
 | nil => exact Int.le_refl 0
 | cons p ps ih =>
  show 0 <= if p.1 = x then p.2 else tm ps x
  split
  ·exact h p List.mem_cons_self
  ·exact ih fun q hq => h q (List.mem_cons_of_mem _ hq)
def nmB (x : Str) : Bool := decide (1 <= x.cps.size) && decide (x.cps.size <= 8) && x.cps.toList.all fun c => decide (97 <= c) && decide (c <= 122)
def azB (c : Nat) : Bool := decide (97 <= c) && decide (c <= 122)
theorem Rep.tup_inv {H : Hp} {ds : List Dv} {v : V} (h : Rep H (.tup ds) v) : ∃ a vs, v = .ref a /\ H a = some (.tup vs) /\ Reps H ds vs := by simpa only [Rep] using h
theorem Reps.two {H : Hp} {d e : Dv} {vs : List V} (h : Reps H [d, e] vs) : ∃ x y, vs = [x, y] /\ Rep H d x /\ Rep H e y := by
 simp only [Reps] at h
 obtain ⟨x, r, rfl, h1, y, r2, rfl, h2, rfl⟩ := h
 exact ⟨x, y, rfl, h1, h2⟩
def Az (x : Str) (n : Nat) : Prop := x.cps.toList.length = n /\ ∀ c ∈ x.cps.toList, azB c = true
theorem Az.len {x : Str} {n : Nat} (h : Az x n) : x.length = n := by
 have e : x.cps.toList.length = x.length := Array.length_toList
 rw [<- e]; exact h.1
theorem nh {x y : Str} {n m : Nat} (h : Az x n) (g : Az y m) : Az (x ++ y) (n + m) := by
 have e := PySem.W.KT.app_list x y
 refine ⟨by rw [e, List.length_append, h.1, g.1], fun c hc => ?_⟩
 rw [e] at hc
 rcases List.mem_append.mp hc with hc | hc
 ·exact h.2 c hc
 ·exact g.2 c hc
theorem jb {c : Nat} (h : azB c = true) : Az ⟨#[c]⟩ 1 := ⟨rfl, fun d hd => by
 have e : d = c := by simpa using hd
 rw [e]; exact h⟩
theorem kc : Az Str.empty 0 := ⟨rfl, fun d hd => by cases hd⟩
theorem sB {x : Str} {n : Nat} {i : Int} (h : Az x n) (h0 : 0 <= i) (h1 : i <= n) : Az (Txt.slice x (some i) none) (n - i.toNat) := by
 have e := PyProof.Rows.slice_from_eq (x := x) (i := i) (b := (x.length : Int)) h0 (by rw [h.len]; exact h1) rfl
 rw [e]
 refine ⟨?_, fun c hc => ?_⟩
 ·show ((x.cps.toList.drop i.toNat).take ((x.length : Int) - i).toNat).toArray.toList.length = _
  simp only [List.length_take, List.length_drop, h.1, h.len]
  omega
 ·have hc' : c ∈ (x.cps.toList.drop i.toNat).take ((x.length : Int) - i).toNat := by simpa using hc
  exact h.2 c (List.mem_of_mem_drop (List.mem_of_mem_take hc'))
theorem wE {x : Str} {n : Nat} {i : Int} (h : Az x n) (h0 : 0 <= i) (h1 : i <= n) : Az (Txt.slice x none (some i)) i.toNat := by
 have e := eq_of_beq (PyProof.Rows.slice_closes_toL (x := x) (j := i) h0 (by rw [h.len]; exact h1))
 rw [e]
 refine ⟨?_, fun c hc => ?_⟩
 ·show ((x.cps.toList.drop (0 : Int).toNat).take (i - 0).toNat).toArray.toList.length = _
  simp only [List.length_take, List.length_drop, h.1]
  have : (0 : Int).toNat = 0 := rfl
  omega
 ·have hc' : c ∈ (x.cps.toList.drop (0 : Int).toNat).take (i - 0).toNat := by simpa using hc
  exact h.2 c (List.mem_of_mem_drop (List.mem_of_mem_take hc'))
theorem sW {x : Str} {n : Nat} (h : Az x n) : Az (Txt.mul x 1) n := by
 have e : Txt.mul x 1 = x := by
  unfold Txt.mul
  rw [if_neg (by decide)]
  exact if_pos rfl
 rw [e]; exact h
theorem sJ {x : Str} : Az (Txt.mul x 0) 0 := kc
theorem wJ {x : Str} {n : Nat} (h : Az x n) (h1 : 1 <= n) (h8 : n <= 8) : nmB x = true := by
 unfold nmB
 have e : x.cps.size = n := by have := h.1; simpa using this
 rw [e, decide_eq_true h1, decide_eq_true h8, Bool.and_self, Bool.true_and]
 exact List.all_eq_true.mpr fun c hc => h.2 c hc
def dk (kvs : List (Str × Int)) : List (Key × V) := kvs.map fun p => (Sum.inr p.1, V.int p.2)
theorem rH : ∀ {kvs : List (Str × Int)}, (kvs.map (·.1)).Nodup -> ∀ {i : Nat} {p : Str × Int}, kvs[i]? = some p -> dj (dk kvs) (Sum.inr p.1) = some (.int p.2)
 | [], _, i, p, e => by simp at e
 | x :: r, nd, i, p, e => by
  rw [List.map_cons, List.nodup_cons] at nd
  cases i with
  | zero =>
   have e' : x = p := by simpa using e
   subst e'
   exact dC (p := (Sum.inr x.1, V.int x.2)) rfl
  | succ i =>
   have hm : p ∈ r := List.mem_of_getElem? (show r[i]? = some p by simpa using e)
   have hne : ¬ (Sum.inr x.1 : Key) = Sum.inr p.1 := fun z => nd.1 (by injection z with z; rw [z]; exact List.mem_map_of_mem hm)
   exact (dH (p := (Sum.inr x.1, V.int x.2)) hne).trans (rH nd.2 (i := i) (by simpa using e))
def iu (c : Int) (ps : List (Str × Int)) : Dv := .tup [.int c, .tup (ps.map fun p => .tup [.str p.1, .int p.2])]
def tkV (r : TK) : Str × Int := (r.2.1, match r.2.2 with | [.int n] => n | _ => 0)
theorem fC {H : Hp} : ∀ {rs : List TK}, (∀ r ∈ rs, H r.1 = some (.tup [.str (tkV r).1, .int (tkV r).2])) -> Reps H ((rs.map tkV).map fun p => Dv.tup [.str p.1, .int p.2]) (rs.map fun r => V.ref r.1)
 | [], _ => by simp [Reps]
 | r :: rs, h => by
  simp only [List.map_cons, Reps]
  refine ⟨_, _, rfl, ?_, fC fun x hx => h x (List.mem_cons_of_mem _ hx)⟩
  simp only [Rep, Reps]
  exact ⟨r.1, _, rfl, h r List.mem_cons_self, _, _, rfl, rfl, _, _, rfl, rfl, rfl⟩
theorem nU {a b : Str} : ((Sum.inr a : Key) = Sum.inr b) ↔ a = b := ⟨fun h => by injection h, fun h => by rw [h]⟩
theorem mV (kvs : List (Str × Int)) (x : Str) (n : Int) : dk (bi kvs x n) = bU (dk kvs) (Sum.inr x) (.int n) := by
 unfold bi bU dk
 have e : ((kvs.map fun p => ((Sum.inr p.1 : Key), V.int p.2)).any fun kv => decide (kv.1 = Sum.inr x)) = kvs.any fun p => decide (p.1 = x) := by
  rw [List.any_map]
  congr 1
  funext p
  simp [Function.comp]
 rw [e]
 split
 ·rw [List.map_map, List.map_map]
  refine List.map_congr_left fun p _ => ?_
  simp only [Function.comp]
  by_cases h : p.1 = x
  ·rw [if_pos h, if_pos (nU.mpr h)]
  ·rw [if_neg h, if_neg (fun z => h (nU.mp z))]
 ·rw [List.map_append]
  rfl
theorem dR {kvs : List (Str × Int)} {x : Str} {n : Int} (nd : (kvs.map (·.1)).Nodup) : ((bi kvs x n).map (·.1)).Nodup := by
 unfold bi
 split
 ·have e : (kvs.map (fun p => if p.1 = x then (p.1, n) else p)).map (·.1) = kvs.map (·.1) := by
   rw [List.map_map]
   refine List.map_congr_left fun p _ => ?_
   simp only [Function.comp]
   split <;> rfl
  rw [e]; exact nd
 ·rename_i h
  rw [List.map_append, List.nodup_append]
  refine ⟨nd, by simp, fun a ha b hb => ?_⟩
  have hb' : b = x := by simpa using hb
  subst hb'
  intro e
  subst e
  obtain ⟨p, hp, e⟩ := List.mem_map.mp ha
  exact h (List.any_eq_true.mpr ⟨p, hp, decide_eq_true e⟩)
theorem eL (kvs : List (Str × Int)) (x : Str) (n : Int) : (bi kvs x n).length <= kvs.length + 1 := by
 unfold bi
 split
 ·rw [List.length_map]; omega
 ·rw [List.length_append]; simp
theorem fg {R : Str × Int -> Prop} {kvs : List (Str × Int)} {x : Str} {n : Int} (h : ∀ p ∈ kvs, R p) (hx : R (x, n)) : ∀ p ∈ bi kvs x n, R p := by
 intro p hp
 unfold bi at hp
 split at hp
 ·obtain ⟨q, hq, e⟩ := List.mem_map.mp hp
  by_cases z : q.1 = x
  ·rw [if_pos z] at e
   rw [<- e, z]; exact hx
  ·rw [if_neg z] at e
   rw [<- e]; exact h q hq
 ·rcases List.mem_append.mp hp with hp | hp
  ·exact h p hp
  ·rw [List.mem_singleton.mp hp]; exact hx
abbrev aD (ps : List Pr) : List Dv := ps.map fun p => .tup [.str p.1, .int p.2]
theorem gk {H : Hp} {ps : List Pr} {us : List V} (ru : Reps H (aD ps) us) {i : Nat} {x : V} (hx : us[i]? = some x) : ∃ p b, ps[i]? = some p /\ x = .ref b /\ H b = some (.tup [.str p.1, .int p.2]) := by
 obtain ⟨d, hd, Rd⟩ := ru.get hx
 rw [List.getElem?_map] at hd
 cases e : ps[i]? with
 | none => rw [e] at hd; cases hd
 | some p =>
  rw [e] at hd
  obtain rfl : Dv.tup [.str p.1, .int p.2] = d := Option.some.inj hd
  obtain ⟨b, zs, rfl, hb, rz⟩ := Rep.tup_inv Rd
  obtain ⟨y, z, rfl, Ry, Rz⟩ := Reps.two rz
  simp only [Rep] at Ry Rz
  subst Ry Rz
  exact ⟨p, b, rfl, rfl, hb⟩
theorem nH {H : Hp} {c : Int} {ps : List Pr} {v : V} (R : Rep H (iu c ps) v) : ∃ a b us, v = .ref a /\ H a = some (.tup [.int c, .ref b]) /\ H b = some (.tup us) /\ Reps H (aD ps) us /\ us.length = ps.length := by
 obtain ⟨a, tv, rfl, ha, rt⟩ := Rep.tup_inv R
 obtain ⟨x, y, rfl, R0, R1⟩ := Reps.two rt
 simp only [Rep] at R0
 subst R0
 obtain ⟨b, us, rfl, hb, ru⟩ := Rep.tup_inv R1
 have := ru.length
 rw [List.length_map] at this
 exact ⟨a, b, us, rfl, ha, hb, ru, this⟩
theorem sF {H : Hp} {c : Int} {ps : List Pr} {a b : Addr} {us : List V} (ha : H a = some (.tup [.int c, .ref b])) (hb : H b = some (.tup us)) (ru : Reps H (aD ps) us) : Rep H (iu c ps) (.ref a) := by
 simp only [iu, Rep, Reps]
 exact ⟨a, _, rfl, ha, _, _, rfl, rfl, _, _, rfl, ⟨b, us, rfl, hb, ru⟩, rfl⟩
theorem nX : ∀ (kvs : List Pr) (x : Str), (dj (dk kvs) (Sum.inr x)).getD (.int 0) = V.int (tm kvs x)
 | [], x => rfl
 | p :: r, x => by
  by_cases h : p.1 = x
  ·have e1 : dj (dk (p :: r)) (Sum.inr x) = some (.int p.2) := dC (p := (Sum.inr p.1, V.int p.2)) (by rw [h])
   rw [e1]
   show V.int p.2 = V.int (if p.1 = x then p.2 else tm r x)
   rw [if_pos h]
  ·have e1 : dj (dk (p :: r)) (Sum.inr x) = dj (dk r) (Sum.inr x) := dH (p := (Sum.inr p.1, V.int p.2)) (fun z => h (by injection z))
   rw [e1, nX r x]
   show _ = V.int (if p.1 = x then p.2 else tm r x)
   rw [if_neg h]
theorem pW {ps : List Pr} {i : Nat} {p : Pr} (h : ps[i]? = some p) (x : Str) : bK (ps.take (i + 1)) x = bK (ps.take i) x + if p.1 = x then p.2 else 0 := by
 rw [List.take_add_one, h, cE]
 show _ + ((if p.1 = x then p.2 else 0) + 0) = _
 omega
theorem eqI {i j : Int} (h : decide (V.int i = V.int j) = true) : i = j := by
 have := of_decide_eq_true h
 injection this
theorem z2 : 2 <= sizeLine := by rw [sizeLine_eq]; decide
theorem z1 : 1 <= sizeLine := by rw [sizeLine_eq]; decide
theorem z3 : 3 <= sizeLine := by rw [sizeLine_eq]; decide
theorem qh {kvs : List Pr} {x : Str} {n : Int} (h : x ∉ kvs.map (·.1)) : bi kvs x n = kvs ++ [(x, n)] := by
 unfold bi
 rw [if_neg]
 intro e
 rw [List.any_eq_true] at e
 obtain ⟨p, hp, e⟩ := e
 exact h (List.mem_map.mpr ⟨p, hp, of_decide_eq_true e⟩)
theorem ip {kvs : List Pr} {x : Str} {n : Int} (h : x ∈ kvs.map (·.1)) : (bi kvs x n).map (·.1) = kvs.map (·.1) := by
 unfold bi
 obtain ⟨p, hp, rfl⟩ := List.mem_map.mp h
 rw [if_pos (List.any_eq_true.mpr ⟨p, hp, decide_eq_true rfl⟩), List.map_map]
 refine List.map_congr_left fun r _ => ?_
 show (if r.1 = p.1 then (r.1, n) else r).1 = r.1
 split <;> rfl
section
variable {K : PySem.W.Frag}
end
theorem tnx {D : eE} {σ : St} {H : Hp} (h : D.nx σ H) : tR D σ H := h
theorem ja {ns : List Int} {k : Int} (h0 : 0 <= k) (h : k < (ns.length : Int)) : ∃ v : Int, atI (ns.map V.int) k = some (.int v) := by
 have hk : k.toNat < ns.length := by omega
 have q : atI (ns.map V.int) ((k.toNat : Nat) : Int) = some (.int ns[k.toNat]) := aq (by rw [List.getElem?_map, List.getElem?_eq_getElem hk] <;> rfl)
 have ek : k = ((k.toNat : Nat) : Int) := by omega
 rw [<- ek] at q
 exact ⟨_, q⟩
theorem mod_lt {a : Int} (n : Int) (h : 0 < n) : 0 <= a % n /\ a % n < n := ⟨Int.emod_nonneg _ (by omega), Int.emod_lt_of_pos _ h⟩
def aA (a : Addr) (H H' : Hp) : Prop := ∀ g o, g ≠ a -> H g = some o -> H' g = some o
theorem aA.trans {a : Addr} {H H1 H2 : Hp} (s : aA a H H1) (t : aA a H1 H2) : aA a H H2 := fun g o hg e => t g o hg (s g o hg e)
theorem ao.b {H H' : Hp} (a : Addr) (s : ao H H') : aA a H H' := fun g o _ e => s g o e
theorem aA.upd (H : Hp) (a : Addr) (o : HO) : aA a H (upd H a o) := fun g u hg e => by rw [ap hg]; exact e
def eJ (H H' : Hp) : Prop := ∀ b zs, H b = some (.tup zs) -> H' b = some (.tup zs)
theorem ao.tups {H H' : Hp} (s : ao H H') : eJ H H' := fun b zs e => s b _ e
theorem eJ.trans {H H1 H2 : Hp} (s : eJ H H1) (t : eJ H1 H2) : eJ H H2 := fun b zs e => t b zs (s b zs e)
theorem aA.tups {a : Addr} {H H' : Hp} {xs : List V} (s : aA a H H') (h : H a = some (.lst xs)) : eJ H H' := fun b zs e => s b _ (fun z => by rw [z, h] at e; cases e) e
theorem fO {H H' : Hp} : ∀ {ds : List Dv} {vs : List V}, (∀ d ∈ ds, ∀ v, Rep H d v -> Rep H' d v) -> Reps H ds vs -> Reps H' ds vs
 | [], vs, _, h => by simpa only [Reps] using h
 | d :: ds, vs, f, h => by
  simp only [Reps] at h ⊢
  obtain ⟨v, r, rfl, h1, h2⟩ := h
  exact ⟨v, r, rfl, f d List.mem_cons_self v h1, fO (fun e he => f e (List.mem_cons_of_mem _ he)) h2⟩
theorem ki {H H' : Hp} (t : eJ H H') {n : Nat} {d : Dv} (h : L2.Pl n d) : ∀ {v : V}, Rep H d v -> Rep H' d v := by
 induction h with
 | int => intro v r; simpa only [Rep] using r
 | str => intro v r; simpa only [Rep] using r
 | non => intro v r; simpa only [Rep] using r
 | tup _ ih =>
  intro v r
  simp only [Rep] at r ⊢
  obtain ⟨a, vs, rfl, ha, rs⟩ := r
  exact ⟨a, vs, rfl, t _ _ ha, fO (fun d hd v r => ih d hd r) rs⟩
theorem sn {c : TT} {tb : TS} {D : eE} {σ : St} {H : Hp} (Pv : Nat -> St -> Hp -> Prop) (m : Nat) (h0 : Pv m σ H)
  (hs : ∀ m σ H, Pv m σ H -> c σ H fun b H1 => if b = true then tb { D with nx := fun σ' H' => ∃ m', m' < m /\ Pv m' σ' H', ct := fun σ' H' => ∃ m', m' < m /\ Pv m' σ' H', bk := D.nx } σ H1 else D.nx σ H1)
  (mono : ∀ σ H Q Q', (∀ b H1, Q b H1 -> Q' b H1) -> c σ H Q -> c σ H Q') : qA c tb D σ H := by
 refine ⟨Pv, ⟨m, h0⟩, fun m σ H p => mono σ H _ _ (fun b H1 q => ?_) (hs m σ H p)⟩
 cases b with
 | true => exact ⟨_, fun σ' H' q' => q', q⟩
 | false => exact q
theorem kF {G H2 : Hp} {kvs : List Pr} {qs : List TK} (hq : ∀ r ∈ qs, H2 r.1 = some (.tup (.str r.2.1 :: r.2.2)) /\ G r.1 = none) (pq : (qs.map (·.2)).Perm ((kvs.map fun p => (p.1, V.int p.2)).map fun p => (p.1, [p.2]))) (pw : qs.Pairwise qz) (hall : ∀ p ∈ kvs, 1 <= p.2) :
  (qs.map tkV).Perm kvs /\ ce (qs.map tkV) /\ ∀ t, H2 t = none -> Rep (upd H2 t (.tup (qs.map fun r => V.ref r.1))) (.tup (aD (qs.map tkV))) (.ref t) := by
 have shape : ∀ r ∈ qs, ∃ p ∈ kvs, r.2 = (p.1, [V.int p.2]) := fun r hr' => by
  have := pq.mem_iff.mp (List.mem_map_of_mem (f := (·.2)) hr')
  rw [List.map_map] at this
  obtain ⟨p, hp, e⟩ := List.mem_map.mp this
  exact ⟨p, hp, e.symm⟩
 have tk : ∀ r ∈ qs, r.2.1 = (tkV r).1 /\ r.2.2 = [V.int (tkV r).2] := fun r hr' => by
  obtain ⟨p, _, e⟩ := shape r hr'
  unfold tkV
  rw [e]
  exact ⟨rfl, rfl⟩
 have perm : (qs.map tkV).Perm kvs := by
  have e1 : qs.map tkV = (qs.map (·.2)).map fun z => (z.1, match z.2 with | [.int n] => n | _ => 0) := by
   rw [List.map_map]; rfl
  have e2 : kvs = ((kvs.map fun p => (p.1, V.int p.2)).map fun p => (p.1, [p.2])).map fun z => (z.1, match z.2 with | [.int n] => n | _ => 0) := by
   rw [List.map_map, List.map_map]
   exact (List.map_id kvs).symm
  rw [e1]
  rw [e2]
  exact pq.map _
 refine ⟨perm, ⟨List.pairwise_map.mpr (pw.imp fun {x y} h => h), fun p hp => hall p (perm.mem_iff.mp hp)⟩, fun t ht => ?_⟩
 simp only [Rep]
 refine ⟨t, _, rfl, ad, fC fun r hr' => ?_⟩
 have := (hq r hr').1
 rw [(tk r hr').1, (tk r hr').2] at this
 exact ae ht _ _ _ this
theorem qR {H : Hp} {c : Int} {ps : List Pr} {p : Addr} {w : V} (hp : H p = some (.tup [.int c, w])) (R : Rep H (.tup (aD ps)) w) : Rep H (iu c ps) (.ref p) := by
 obtain ⟨b, us, rfl, hb, ru⟩ := Rep.tup_inv R
 exact sF hp hb ru
theorem gnm {i : Nat} {x : V} {σ : St} {H : Hp} {N : St -> Hp -> Prop} (h : N (σ.set i (some x)) H) : cP i x σ H N := h
end KB
namespace L2
open PySem PySem.Spec PyProof.Rows PySem.W
section
variable {X : Cx}
end
end L2
namespace KB
open PySem L2
end KB
namespace L2
open PySem PySem.Spec PyProof.Rows PySem.W
section
variable {P : Program} {w : World} {A : Around} {E : Value -> Shared -> Prop} {s : Shared}
theorem gC {l : Addr} {items : Array Value} {ys : List Str} {Q : Value -> Shared -> Prop} (hh : A.handled = none) (hl : s.heap.IsTuple l items) (hi : ∀ (i : Nat) (v : Value), items[i]? = some v -> ∃ t, v = .str (ys.getD i default) t) (hb : items.size + 1 < scanBound)
  (h : ∀ (h' : Heap) (tk : Nat), bY P w h' s.heap.objs.size (uq (fun i => ys.getD i default) items.size) -> (∀ b o, b < s.heap.objs.size -> s.heap.get? b = some o -> h'.get? b = some o) -> Q (.ref s.heap.objs.size) { s with heap := h', toks := tk }) :
  wpAny (model P w) A (call (.type "set") [.ref l]) Q E s := by
 obtain ⟨c, tl, hmro⟩ := PySem.F.called_set.mro
 have hmade := PySem.F.called_set.made
 have hsub := PySem.F.called_set.sub
 refine wpAny_call (codeAny_of_tree ?_)
 show wpAny _ _ (callAny (.type "set") _) _ _ _
 refine wpAny_pure ⟨Code.quiet_builtin _ (by decide +kernel), codeAny_builtin PySem.F.entry_type_call ?_⟩
 rw [Around.under_plain (weight_type_call_type "set" [.ref l] []) rfl]
 have h1 := PySem.F.called_set.notType
 have h2 := PySem.F.called_set.canCreate
 have hct := PySem.F.typeCall_set_1 (.ref l)
 repeat (any_goals (first | assumption | wp_step))
 refine codeAny_mono (dW (.ref l) (E := E) (Q₁ := fun obj s₁ => obj = .ref s.heap.objs.size /\ s₁ = { s with heap := s.heap.push (aZ w) }) ⟨rfl, rfl⟩) fun r s₁ hr => ?_
 cases r with
 | error e => exact hr
 | ok fl =>
  cases fl with
  | ret obj =>
   obtain ⟨rfl, rfl⟩ := hr
   have hS : (s.heap.push (aZ w)).get? s.heap.objs.size = some (aZ w) := Heap.get?_push_size _ rfl
   have hT : Shared.TypeIs { s with heap := s.heap.push (aZ w) } (.ref s.heap.objs.size) "set" := ⟨_, hS, rfl⟩
   have hli := PySem.F.called_set.init.lookup
   have hbi := PySem.F.called_set.init.bind (.ref s.heap.objs.size)
   repeat (any_goals (first | assumption | wp_step))
   refine codeAny_mono (codeAny_call_builtin (R := wants (fun r s₂ => r = .none /\ ∃ h' tk, s₂ = { s with heap := h', toks := tk } /\ bY P w h' s.heap.objs.size (uq (fun i => ys.getD i default) items.size) /\ (∀ b o, b < s.heap.objs.size -> s.heap.get? b = some o -> h'.get? b = some o)) E)
    PySem.F.called_set.init.plain PySem.F.entry_set_init (check_set_init_1 hT ?_)) fun r₂ s₂ hr₂ => ?_
   ·obtain ⟨ol, hol, hcl, nl, hdl⟩ := hl
    obtain ⟨ocls, odict, odata, oslots⟩ := ol
    simp only at hcl hdl
    subst hcl; subst hdl
    have hol' : (s.heap.push (aZ w)).get? l = some { cls := .type "tuple", dict := odict, data := .seq items nl, slots := oslots } := Heap.get?_push_of_some _ hol
    have hsls := PySem.F.sub_tuple_set
    have hslf := PySem.F.sub_tuple_frozenset
    have hne : (Value.type "tuple" == Value.type "dict") = false := by decide
    have hl1 : (s.heap.push (aZ w)).IsTuple l items := ⟨_, hol', rfl, nl, rfl⟩
    unfold aZ at hS hT hol' hl1 ⊢
    unfold Builtin.«set.__init__» noKeywords Builtin.Frozenset.updateFrom
    generalize hPI : pyIter = PI
    wp_walk
    subst hPI
    refine wpAny_pyIter_tuple hl1 ?_
    refine wpAny_bind (wpAny_runValue ?_)
    have hlS : l < s.heap.objs.size := Heap.lt_size hol
    have hh3 : A.in1.in1.in1.handled = none := by simp [hh]
    have hneI : l ≠ (s.heap.push (aZ w)).objs.size := by
     rw [Heap.size_push]; exact Nat.ne_of_lt (Nat.lt_succ_of_lt hlS)
    have hSf : s.heap.objs.size ∉ [(s.heap.push (aZ w)).objs.size, l] := by
     rw [Heap.size_push]; simp only [List.mem_cons, List.mem_singleton, List.not_mem_nil, or_false, not_or]
     exact ⟨Nat.ne_of_lt (Nat.lt_succ_self _), Nat.ne_of_gt hlS⟩
    refine kE ((Walks.tuple hh3 _ l hneI items).toS) s.heap.objs.size hSf (fun i => ys.getD i default) hi hb (items.size - 0) 0 _ (by omega) (Nat.zero_le _)
     ⟨⟨_, Heap.get?_push_size _ rfl, rfl, rfl⟩, (hl1.push _)⟩ ?hS0 ?hR
    case hS0 => exact (ib s.heap).at' fun o e => Heap.get?_push_of_some _ e
    case hR =>
     intro s' hm hS'
     obtain ⟨h', g', d', tk', os'⟩ := s'
     have eg : g' = s.gens := hm.gens
     have ed : d' = s.drawn := hm.drawn
     have eo : os' = s.os := hm.os
     subst eg; subst ed; subst eo
     show wpAny _ _ _ _ _ _
     refine wpAny_pure ?_
     show wpAny _ _ (ret Value.none) _ _ _
     refine wpAny_pure ⟨rfl, h', tk', rfl, hS', fun b o hb e => ?_⟩
     have hb1 : b ≠ s.heap.objs.size := Nat.ne_of_lt hb
     have hb2 : b ≠ (s.heap.push (aZ w)).objs.size := by
      rw [Heap.size_push]; exact Nat.ne_of_lt (Nat.lt_succ_of_lt hb)
     exact hm.heap b o (by simp only [List.mem_cons, List.mem_singleton, List.not_mem_nil, or_false, not_or]; exact ⟨hb1, hb2⟩) (Heap.get?_push_of_some _ (Heap.get?_push_of_some _ e))
   ·cases r₂ with
    | error e => exact hr₂
    | ok fl₂ =>
     cases fl₂ with
     | ret r =>
      obtain ⟨rfl, h', tk, rfl, hS', hk'⟩ := hr₂
      repeat (any_goals (first | assumption | wp_step))
      exact h _ _ hS' hk'
     | _ => exact hr₂.elim
  | _ => exact hr.elim
end
section
variable {X : Cx}
theorem pB (hc : X.calm = true) : bB X (.type "set") (fun xs H Q => ∃ (l : Addr) (ys : List Str), xs = [.ref l] /\ (SqL X.K H l (ys.map V.str) \/ SqT X.K H l (ys.map V.str)) /\ ys.length <= 1000 /\
  ∀ (a : Addr) (zs : List Str), H a = none -> zs.Nodup -> (∀ x, x ∈ zs ↔ x ∈ ys) -> zs.length <= ys.length -> Q (.ref a) (upd H a (SetO X.prog X.w a zs))) := by
 intro pins s σ H xs us Q I r h
 obtain ⟨l, ys, rfl, hq | hq, hy, q⟩ := h
 ·exact oP hc pins s σ H _ us Q I r ⟨l, ys, rfl, hq, hy, q⟩
 obtain ⟨u, rfl, ru⟩ := bN r
 cases ru
 obtain ⟨its, rv, p, hz⟩ := I.tuple hq
 have li : its.length = ys.length := by have := rv.length; rw [List.length_map] at this; exact this.symm
 have hb : its.toArray.size + 1 < scanBound := by rw [List.size_toArray, li]; unfold scanBound; omega
 refine gC (ys := ys) (I.ok.hd hc) p (fun i v hv => ?_) hb fun h' tk hS k => ?_
 ·have hv' : its[i]? = some v := by simpa using hv
  have hi : i < ys.length := by rw [<- li]; exact (List.getElem?_eq_some_iff.mp hv').1
  obtain ⟨t, e⟩ := dc rv i hi
  refine ⟨t, ?_⟩
  rw [<- e]
  simp [List.getD, hv']
 ·have sz : its.toArray.size = ys.length := by rw [List.size_toArray, li]
  rw [sz] at hS
  refine ⟨.ref s.heap.objs.size, _, I.laid (a := s.heap.objs.size) (o := SetO X.prog X.w s.heap.objs.size (uq (fun i => ys.getD i default) ys.length)) (t' := tk) (fun b u e => k b u (Heap.lt_size e) e) (Nat.le_refl _) ?_, rfl, q _ _ I.fresh (fc _ _) (fun x => ?_) (jj _ _)⟩
  ·refine ⟨hS, ?_, fun h1 h2 x kk => bY.at' x kk⟩
   obtain ⟨o, _, _, _, ho, _⟩ := hS
   exact ⟨o, ho⟩
  ·rw [mJ]
   constructor
   ·rintro ⟨j, hj, rfl⟩
    have e : ys.getD j default = ys[j] := by simp [List.getD, hj]
    rw [e]; exact List.getElem_mem hj
   ·intro hx
    obtain ⟨j, hj, rfl⟩ := List.getElem_of_mem hx
    exact ⟨j, hj, by simp [List.getD, hj]⟩
end
section
variable {X : Cx}
end
section
variable {X : Cx}
end
section
variable {X : Cx}
end
section
variable {X : Cx}
end
section
variable {prog : Program} {w : World} {A : Around} {E : Value -> Shared -> Prop} {s : Shared} {r l : Addr} {items : Array Value}
end
section
variable {X : Cx} {e : Expr} {te : TE} {p p1 pos pos1 : Pos}
end
section
variable {X : Cx}
end
section
variable {X : Cx}
theorem qb {j : Int} (h0 : 0 < j) (h1 : j < 10 ^ 61) : j.natAbs.log2 < 9000 := by
 have hn : j.natAbs < 2 ^ 204 := by omega
 have := (Nat.log2_lt (n := j.natAbs) (k := 204) (by omega)).mpr hn
 omega
def wb (i j : Int) : Prop := 0 < j /\ j < 10 ^ 61
theorem wG : OpR X (binaryOp .FloorDiv) (rI wb fun i j => .int (i / j)) := opI fun i j _ _ _ _ _ hc q => by
 have h1 : (0 : Int) < j := hc.1
 exact floordiv_int (by omega) (by rw [Int.fdiv_eq_ediv_of_nonneg i (by omega)]; exact q) (.inl (PyProof.noPylong_of_log2 (qb hc.1 hc.2)))
def xr (te : TE) : TE := fun σ H Q => te σ H fun x H1 => ∃ i : Int, x = .int i /\ i.natAbs.log2 < 1920 /\ Q (.str (toString i)) H1
theorem wR {e : Expr} {te : TE} {pos : Pos} (he : PE X e te) : PE X (.FormattedValue e (-1) none pos) (xr te) := fun pins s σ H Q I h =>
 wpAny_FormattedValue_plain (thn (he pins s σ H _ I h) fun v s1 ⟨x, H1, I1, r1, i, ex, hd, q⟩ => by
  subst ex
  obtain ⟨k, rfl⟩ := r1
  exact wpAny_formatField_int hd ⟨.str (toString i), H1, I1.tok _, ⟨_, rfl⟩, q⟩)
theorem uL : MtR X "str.startswith" (fun x xs H Q => ∃ (a b : Str) (i : Int), x = .str a /\ xs = [.str b, .int i] /\ Q (.bl (Txt.startswith3 a b i)) H) := by
 intro pins s σ H x xs v us Q I rx r h
 obtain ⟨a, b, i, rfl, rfl, q⟩ := h
 obtain ⟨t, rfl⟩ := rx
 cases r with
 | cons r1 rr =>
  cases rr with
  | cons r2 rr =>
   cases rr
   obtain ⟨t1, rfl⟩ := r1
   obtain ⟨t2, rfl⟩ := r2
   exact SC.startswith3 ⟨.bl _, H, I, rfl, q⟩
theorem rR : bB X (.type "int") (fun xs H Q => ∃ (a : Str) (n : Int), xs = [.str a] /\ PySem.intText? a = some n /\ a.length <= 640 /\ Q (.int n) H) := by
 intro pins s σ H xs us Q I r h
 obtain ⟨a, n, rfl, hn, hl, q⟩ := h
 obtain ⟨u, rfl, t, rfl⟩ := bN r
 exact KIN.call_text hn hl ⟨.int n, H, I.tok _, ⟨_, rfl⟩, q⟩
theorem gS : ∀ l : List (Str × Tok), aG ((l.map (·.1)).map V.str) (strValues l)
 | [] => .nil
 | (x, t) :: l => .cons ⟨t, rfl⟩ (gS l)
theorem wl : MtR X "str.split" (fun x xs H Q => ∃ a b : Str, x = .str a /\ xs = [.str b] /\ (b.length == 0) = false /\ a.length <= sizeLine /\ (Txt.split a b).length <= sizeLine /\ ∀ p, H p = none -> Q (.ref p) (upd H p (.lst ((Txt.split a b).map V.str)))) := by
 intro pins s σ H x xs v us Q I rx r h
 obtain ⟨a, b, rfl, rfl, hb, ha, hz, q⟩ := h
 obtain ⟨t, rfl⟩ := rx
 obtain ⟨u, rfl, t1, rfl⟩ := bN r
 have fin : ∀ (l : List (Str × Tok)) (tk : Nat), l.map (·.1) = Txt.split a b -> EP X pins σ Q (.ref s.heap.objs.size) { s with heap := s.heap.push { cls := .type "list", data := .seq (strValues l).toArray }, toks := tk } := fun l tk e => by
  refine ⟨.ref _, _, I.laid (t' := tk) (o := .lst ((Txt.split a b).map V.str)) (fun b ob q => Heap.get?_push_of_some _ q) (Nat.le_refl _) ?_, rfl, q _ (I.hok.fresh (Nat.le_refl _))⟩
  refine ⟨by rw [List.length_map]; exact hz, strValues l, 0, ?_, Heap.get?_push_size _ rfl⟩
  rw [<- e]; exact gS l
 cases h1 : (decide (a.length < b.length) || decide (Builtin.Str.strKind a < Builtin.Str.strKind b))
 ·cases hf : (Builtin.Str.occurrences a b 0 a.length (a.length + 1)).isEmpty
  ·have es : Txt.split a b = Builtin.Str.partsBetween a (Builtin.Str.occurrences a b 0 a.length (a.length + 1)) b.length := (if_neg (ne_true_of_eq_false h1)).trans (if_neg (ne_true_of_eq_false hf))
   refine call_meets F.slot_str_split (typeIs_str _ _ _) F.entry_str_split (F.args_str_split_2 _ _) (meets_str_split_sep a b t t1 h1 hb hf ha (by rw [<- es]; exact hz)) ?_
   show wants (EP X pins σ Q) X.xe _ { s with toks := _, heap := s.heap.push { cls := .type "list", data := .seq (strsFrom s.toks (Builtin.Str.partsBetween a (Builtin.Str.occurrences a b 0 a.length (a.length + 1)) b.length)).toArray } }
   rw [strsFrom_eq]
   exact fin (numbered s.toks _) _ ((numbered_texts _ _).trans es.symm)
  ·exact call_meets F.slot_str_split (typeIs_str _ _ _) F.entry_str_split (F.args_str_split_2 _ _) (meets_str_split_not_found a b t t1 h1 hb hf) (fin [(a, t)] s.toks ((if_neg (ne_true_of_eq_false h1)).trans (if_pos hf)).symm)
 ·exact call_meets F.slot_str_split (typeIs_str _ _ _) F.entry_str_split (F.args_str_split_2 _ _) (meets_str_split_cannot_occur a b t t1 h1) (fin [(a, t)] s.toks (if_pos h1).symm)
end
end L2
namespace L2.TS
open PySem PySem.Spec PyProof.Rows
def gal : Bool -> Keyed -> Array Keyed -> Nat -> Nat -> Nat -> StateT SortSt Sem (Option Nat) := sortPriv% PySem.Builtin.gallop
def jo : Nat -> StateT SortSt Sem Unit := sortPriv% PySem.Builtin.setMinGallop
def mLo : Array Keyed -> Array Keyed -> StateT SortSt Sem (Array Keyed) := sortPriv% PySem.Builtin.mergeLo
def mHi : Array Keyed -> Array Keyed -> StateT SortSt Sem (Array Keyed) := sortPriv% PySem.Builtin.mergeHi
theorem uh (left : Bool) (key : Keyed) (xs : Array Keyed) (b n h : Nat) : gal left key xs b n h = (do
  let q (i : Nat) : StateT SortSt Sem (Option Bool) := do
   let x <- elem' xs (b + i)
   if left then lt' x key else return (<- lt' key x).map (!·)
  let mut last := 0
  let mut o := 1
  let mut l := 0
  let mut r := 0
  let some up <- q h | return none
  if up then
   let top := n - h
   for _ in [0:n] do
    if o >= top then break
    let some m <- q (h + o) | return none
    if !m then break
    last := o
    o := 2 * o + 1
   l := h + last + 1
   r := h + min o top
  else
   let top := h + 1
   for _ in [0:n] do
    if o >= top then break
    let some m <- q (h - o) | return none
    if m then break
    last := o
    o := 2 * o + 1
   l := h + 1 - min o top
   r := h - last
  for _ in [0:n] do
   if l >= r then break
   let m := l + (r - l) / 2
   let some c <- q m | return none
   if c then l := m + 1 else r := m
  return some r) := rfl
def Ask (prog : Program) (w : World) (A : Around) (s : Shared) (kd : SortKind) (M : Keyed -> Prop) (rk : Keyed -> Nat) : Prop :=
 ∀ (x y : Keyed) (C : Bool -> Shared -> Prop) (E : Value -> Shared -> Prop), M x -> M y -> C (decide (rk x < rk y)) s -> wpAny (model prog w) A (keyLt' kd x.1 y.1) C E s
section
variable {prog : Program} {w : World} {A : Around} {E : Value -> Shared -> Prop} {s : Shared} {kd : SortKind} {M : Keyed -> Prop} {rk : Keyed -> Nat}
theorem lJ {x y : Keyed} {Q : Option Bool -> SortSt -> Prop} {st : SortSt} (O : Ask prog w A s kd M rk) (hk : kindOf st = kd) (hx : M x) (hy : M y) (h : Q (some (decide (rk x < rk y))) st) : wpS (model prog w) A E s (lt' x y) Q st := by
 rw [lt'_eq]
 refine wpS_bind (wpS_get ?_)
 rw [hk]
 refine wpS_bind (wpS_lift (wpAny_attempt (O x y _ _ hx hy ⟨rfl, ?_⟩)))
 exact wpS_pure h
theorem bt {xs : Array Keyed} {i : Nat} {x : Keyed} {Q : Keyed -> SortSt -> Prop} {st : SortSt} (hx : xs[i]? = some x) (h : Q x st) : wpS (model prog w) A E s (elem' xs i) Q st := by
 rw [elem'_eq, hx]
 exact wpS_pure h
def R (rk : Keyed -> Nat) (xs : Array Keyed) (i : Nat) : Nat := match xs[i]? with | some x => rk x | none => 0
theorem bM {xs : Array Keyed} {i : Nat} {x : Keyed} (h : xs[i]? = some x) : R rk xs i = rk x := by unfold R; rw [h]
def Bq (left : Bool) (k r : Nat) : Bool := if left then decide (r < k) else decide (r <= k)
theorem wk {left : Bool} {k r r' : Nat} (h : r' <= r) (e : Bq left k r = true) : Bq left k r' = true := by
 unfold Bq at e ⊢
 cases left <;> simp at e ⊢ <;> omega
theorem wQ {left : Bool} {key x : Keyed} {xs : Array Keyed} {i : Nat} {Q : Option Bool -> SortSt -> Prop} {st : SortSt} (O : Ask prog w A s kd M rk) (hk : kindOf st = kd) (hm : M key) (hx : xs[i]? = some x) (hmx : M x) (h : Q (some (Bq left (rk key) (R rk xs i))) st) :
  wpS (model prog w) A E s (do
   let x <- elem' xs i
   if left then lt' x key else return (<- lt' key x).map (!·)) Q st := by
 refine wpS_bind (bt hx ?_)
 rw [bM hx] at h
 cases left with
 | true => exact lJ O hk hmx hm h
 | false =>
  refine wpS_bind (lJ O hk hm hmx (wpS_pure ?_))
  have e : (some (decide (rk key < rk x))).map (!·) = some (Bq false (rk key) (rk x)) := by
   show some (!decide (rk key < rk x)) = some (decide (rk x <= rk key))
   congr 1
   by_cases z : rk key < rk x
   ·rw [decide_eq_true z, decide_eq_false (by omega)]; rfl
   ·rw [decide_eq_false z, decide_eq_true (by omega)]; rfl
  rw [e]
  exact h
theorem gU {q : Nat -> StateT SortSt Sem (Option Bool)} {P : Nat -> Bool} {n l r : Nat} {Q : Option Nat -> SortSt -> Prop} {st : SortSt} (hq : ∀ i, i < n -> ∀ Q, Q (some (P i)) st -> wpS (model prog w) A E s (q i) Q st) (mo : ∀ i j, i <= j -> j < n -> P j = true -> P i = true)
  (h1 : l <= r) (h2 : r <= n) (h3 : ∀ i, i < l -> P i = true) (h4 : ∀ i, r <= i -> i < n -> P i = false) (k : ∀ k, k <= n -> (∀ i, i < k -> P i = true) -> (∀ i, k <= i -> i < n -> P i = false) -> Q (some k) st) :
  wpS (model prog w) A E s (do
   let mut l := l
   let mut r := r
   for _ in [0:n] do
    if l >= r then break
    let m := l + (r - l) / 2
    let some c <- q m | return none
    if c then l := m + 1 else r := m
   return some r) Q st := by
 refine wpS_bind (wpS_mono (wpS_forRange (I := fun x c st' => st' = st /\ ∃ l r, c = (none, l, r) /\ l <= r /\ r <= n /\ r - l <= n - x /\ (∀ i, i < l -> P i = true) /\ (∀ i, r <= i -> i < n -> P i = false))
  (Q := fun c st' => st' = st /\ ∃ l r, c = (none, l, r) /\ l = r /\ r <= n /\ (∀ i, i < l -> P i = true) /\ (∀ i, r <= i -> i < n -> P i = false)) ?step ?fin ⟨rfl, l, r, rfl, h1, h2, by omega, h3, h4⟩) ?post)
 case fin =>
  rintro c st' ⟨rfl, l, r, rfl, a1, a2, a3, a4, a5⟩
  exact ⟨rfl, l, r, rfl, by omega, a2, a4, a5⟩
 case post =>
  rintro c st' ⟨rfl, l, r, rfl, rfl, a2, a4, a5⟩
  exact wpS_pure (k l a2 a4 a5)
 case step =>
  rintro x c st' _ hx ⟨rfl, l, r, rfl, a1, a2, a3, a4, a5⟩
  dsimp only
  by_cases ge : l >= r
  ·rw [if_pos ge]
   exact wpS_pure ⟨rfl, l, r, rfl, by omega, a2, a4, a5⟩
  ·rw [if_neg ge]
   refine wpS_bind (hq _ (by omega) _ ?_)
   cases e : P (l + (r - l) / 2) with
   | true =>
    dsimp only
    rw [if_pos rfl]
    exact wpS_pure ⟨rfl, _, r, rfl, by omega, a2, by omega, fun i hi => mo i (l + (r - l) / 2) (by omega) (by omega) e, a5⟩
   | false =>
    dsimp only
    rw [if_neg (by decide)]
    refine wpS_pure ⟨rfl, l, _, rfl, by omega, by omega, by omega, a4, fun i hi hn => ?_⟩
    cases z : P i with
    | false => rfl
    | true => rw [mo _ i hi hn z] at e; cases e
theorem fU {left : Bool} {key : Keyed} {xs : Array Keyed} {b n h : Nat} {Q : Option Nat -> SortSt -> Prop} {st : SortSt} (O : Ask prog w A s kd M rk) (hk : kindOf st = kd) (hm : M key) (hx : ∀ i, i < n -> ∃ x, xs[b + i]? = some x /\ M x)
  (so : ∀ i j, i <= j -> j < n -> R rk xs (b + i) <= R rk xs (b + j)) (hh : h < n)
  (k : ∀ k, k <= n -> (∀ i, i < k -> Bq left (rk key) (R rk xs (b + i)) = true) -> (∀ i, k <= i -> i < n -> Bq left (rk key) (R rk xs (b + i)) = false) -> Q (some k) st) :
  wpS (model prog w) A E s (gal left key xs b n h) Q st := by
 rw [uh]
 dsimp only
 have hq : ∀ i, i < n -> ∀ Q : Option Bool -> SortSt -> Prop, Q (some (Bq left (rk key) (R rk xs (b + i)))) st -> wpS (model prog w) A E s (do
   let x <- elem' xs (b + i)
   if left then lt' x key else return (<- lt' key x).map (!·)) Q st := fun i hi Q q => by
  obtain ⟨x, e, mx⟩ := hx i hi
  exact wQ O hk hm e mx q
 have mo : ∀ i j, i <= j -> j < n -> Bq left (rk key) (R rk xs (b + j)) = true -> Bq left (rk key) (R rk xs (b + i)) = true := fun i j hij hj e => wk (so i j hij hj) e
 obtain ⟨P, hP⟩ : ∃ P : Nat -> Bool, ∀ i, Bq left (rk key) (R rk xs (b + i)) = P i := ⟨fun i => Bq left (rk key) (R rk xs (b + i)), fun _ => rfl⟩
 simp only [hP] at hq mo k
 have fl : ∀ {i j}, P i = false -> i <= j -> j < n -> P j = false := fun {i j} e hij hj => by
  cases z : P j with
  | false => rfl
  | true => rw [mo i j hij hj z] at e; cases e
 refine wpS_bind (hq h hh _ ?_)
 cases e : P h with
 | true =>
  dsimp only
  rw [if_pos rfl]
  refine wpS_bind (wpS_mono (wpS_forRange (I := fun x c st' => st' = st /\ ∃ la o, c = (none, la, o) /\ x + 1 <= o /\ la < o /\ h + la < n /\ P (h + la) = true)
   (Q := fun c st' => st' = st /\ ∃ la o, c = (none, la, o) /\ la < o /\ h + la < n /\ P (h + la) = true /\ (n - h <= o \/ (h + o < n /\ P (h + o) = false))) ?step ?fin ⟨rfl, 0, 1, rfl, by omega, by omega, by omega, e⟩) ?post)
  case fin =>
   rintro c st' ⟨rfl, la, o, rfl, a1, a2, a3, a4⟩
   exact ⟨rfl, la, o, rfl, a2, a3, a4, .inl (by omega)⟩
  case step =>
   rintro x c st' _ hx ⟨rfl, la, o, rfl, a1, a2, a3, a4⟩
   dsimp only
   by_cases ge : o >= n - h
   ·rw [if_pos ge]
    exact wpS_pure ⟨rfl, la, o, rfl, a2, a3, a4, .inl ge⟩
   ·rw [if_neg ge]
    refine wpS_bind (hq _ (by omega) _ ?_)
    cases e2 : P (h + o) with
    | true =>
     dsimp only
     rw [if_neg (by decide)]
     exact wpS_pure ⟨rfl, o, _, rfl, by omega, by omega, by omega, e2⟩
    | false =>
     dsimp only
     rw [if_pos (by decide)]
     exact wpS_pure ⟨rfl, la, o, rfl, a2, a3, a4, .inr ⟨by omega, e2⟩⟩
  case post =>
   rintro c st' ⟨rfl, la, o, rfl, a2, a3, a4, a5⟩
   dsimp only
   refine gU hq mo (by omega) (by omega) (fun i hi => mo i (h + la) (by omega) a3 a4) (fun i hi hn => ?_) k
   rcases a5 with a5 | ⟨a5, a6⟩
   ·omega
   ·exact fl a6 (by omega) hn
 | false =>
  dsimp only
  rw [if_neg (by decide)]
  refine wpS_bind (wpS_mono (wpS_forRange (I := fun x c st' => st' = st /\ ∃ la o, c = (none, la, o) /\ x + 1 <= o /\ la < o /\ la <= h /\ P (h - la) = false)
   (Q := fun c st' => st' = st /\ ∃ la o, c = (none, la, o) /\ la < o /\ la <= h /\ P (h - la) = false /\ (h + 1 <= o \/ (o <= h /\ P (h - o) = true))) ?step ?fin ⟨rfl, 0, 1, rfl, by omega, by omega, by omega, e⟩) ?post)
  case fin =>
   rintro c st' ⟨rfl, la, o, rfl, a1, a2, a3, a4⟩
   exact ⟨rfl, la, o, rfl, a2, a3, a4, .inl (by omega)⟩
  case step =>
   rintro x c st' _ hx ⟨rfl, la, o, rfl, a1, a2, a3, a4⟩
   dsimp only
   by_cases ge : o >= h + 1
   ·rw [if_pos ge]
    exact wpS_pure ⟨rfl, la, o, rfl, a2, a3, a4, .inl ge⟩
   ·rw [if_neg ge]
    refine wpS_bind (hq _ (by omega) _ ?_)
    cases e2 : P (h - o) with
    | true =>
     dsimp only
     rw [if_pos rfl]
     exact wpS_pure ⟨rfl, la, o, rfl, a2, a3, a4, .inr ⟨by omega, e2⟩⟩
    | false =>
     dsimp only
     rw [if_neg (by decide)]
     exact wpS_pure ⟨rfl, o, _, rfl, by omega, by omega, by omega, e2⟩
  case post =>
   rintro c st' ⟨rfl, la, o, rfl, a2, a3, a4, a5⟩
   dsimp only
   refine gU hq mo (by omega) (by omega) (fun i hi => ?_) (fun i hi hn => fl a4 (by omega) hn) k
   rcases a5 with a5 | ⟨a5, a6⟩
   ·omega
   ·exact mo i (h - o) (by omega) (by omega) a6
end
end L2.TS
namespace L2.TS
open PySem PySem.Spec PyProof.Rows
abbrev Up (rk : Keyed -> Nat) (l : List Keyed) : Prop := l.Pairwise fun u v => rk u <= rk v
structure Two (rk : Keyed -> Nat) (M : Keyed -> Prop) (xs ys : List Keyed) : Prop where
 sx : Up rk xs
 sy : Up rk ys
 mx : ∀ u ∈ xs, M u
 my : ∀ u ∈ ys, M u
 nx : xs ≠ []
 ny : ys ≠ []
structure MI (rk : Keyed -> Nat) (xs ys o : List Keyed) (i j : Nat) : Prop where
 pm : o.Perm (xs.take i ++ ys.take j)
 so : Up rk o
 bx : ∀ u ∈ o, ∀ v ∈ xs.drop i, rk u <= rk v
 by_ : ∀ u ∈ o, ∀ v ∈ ys.drop j, rk u <= rk v
section
variable {rk : Keyed -> Nat} {M : Keyed -> Prop} {xs ys o : List Keyed} {i j : Nat}
theorem bH {l : List Keyed} {i : Nat} {u : Keyed} (h : l[i]? = some u) : l.drop i = u :: l.drop (i + 1) := by
 obtain ⟨hi, e⟩ := List.getElem?_eq_some_iff.mp h
 rw [List.drop_eq_getElem_cons hi, e]
theorem bJ {l : List Keyed} {i : Nat} {u : Keyed} (h : l[i]? = some u) : l.take (i + 1) = l.take i ++ [u] := by
 rw [List.take_add_one, h]; rfl
theorem MI.tx {u : Keyed} (h : MI rk xs ys o i j) (T : Up rk xs) (hu : xs[i]? = some u) (le : ∀ v ∈ ys.drop j, rk u <= rk v) : MI rk xs ys (o ++ [u]) (i + 1) j := by
 have e := bH hu
 refine ⟨?_, List.pairwise_append.mpr ⟨h.so, List.pairwise_singleton _ _, fun a ha b hb => ?_⟩, fun a ha v hv => ?_, fun a ha v hv => ?_⟩
 ·rw [bJ hu]
  refine (h.pm.append_right [u]).trans ?_
  rw [List.append_assoc, List.append_assoc]
  exact List.Perm.append_left _ List.perm_append_comm
 ·rw [List.mem_singleton.mp hb]
  exact h.bx a ha u (by rw [e]; exact List.mem_cons_self)
 ·rcases List.mem_append.mp ha with ha | ha
  ·exact h.bx a ha v (by rw [e]; exact List.mem_cons_of_mem _ hv)
  ·rw [List.mem_singleton.mp ha]
   have p : Up rk (xs.drop i) := T.sublist (List.drop_sublist _ _)
   rw [e] at p
   exact (List.pairwise_cons.mp p).1 v hv
 ·rcases List.mem_append.mp ha with ha | ha
  ·exact h.by_ a ha v hv
  ·rw [List.mem_singleton.mp ha]; exact le v hv
theorem MI.swap (h : MI rk xs ys o i j) : MI rk ys xs o j i := ⟨h.pm.trans List.perm_append_comm, h.so, h.by_, h.bx⟩
theorem MI.ty {u : Keyed} (h : MI rk xs ys o i j) (T : Up rk ys) (hu : ys[j]? = some u) (le : ∀ v ∈ xs.drop i, rk u <= rk v) : MI rk xs ys (o ++ [u]) i (j + 1) := (h.swap.tx T hu le).swap
theorem MI.gx (T : Up rk xs) : ∀ (c : Nat), MI rk xs ys o i j -> i + c <= xs.length -> (∀ k u, k < c -> xs[i + k]? = some u -> ∀ v ∈ ys.drop j, rk u <= rk v) -> MI rk xs ys (o ++ (xs.drop i).take c) (i + c) j
 | 0, h, _, _ => by rw [List.take_zero, List.append_nil]; exact h
 | c + 1, h, hl, le => by
  have p := MI.gx T c h (by omega) fun k u hk => le k u (by omega)
  have hc : xs[i + c]? = some xs[i + c] := List.getElem?_eq_getElem (by omega)
  have e : (xs.drop i)[c]? = some xs[i + c] := by rw [List.getElem?_drop]; exact hc
  rw [bJ e, <- List.append_assoc]
  exact p.tx T hc (le c _ (by omega) hc)
theorem MI.gy (T : Up rk ys) (c : Nat) (h : MI rk xs ys o i j) (hl : j + c <= ys.length) (le : ∀ k u, k < c -> ys[j + k]? = some u -> ∀ v ∈ xs.drop i, rk u <= rk v) : MI rk xs ys (o ++ (ys.drop j).take c) i (j + c) := (MI.gx T c h.swap hl le).swap
def Res (rk : Keyed -> Nat) (xs ys r : List Keyed) : Prop := r.Perm (xs ++ ys) /\ Up rk r
theorem je (l : List Keyed) (i : Nat) : l.take i ++ l.drop i = l := List.take_append_drop i l
theorem MI.end2 (h : MI rk xs ys o i j) {r : List Keyed} (hr : r.Perm (xs.drop i ++ ys.drop j)) (up : Up rk r) : Res rk xs ys (o ++ r) := by
 refine ⟨?_, List.pairwise_append.mpr ⟨h.so, up, fun a ha b hb => ?_⟩⟩
 ·refine (h.pm.append hr).trans ?_
  conv => rhs; rw [<- je xs i, <- je ys j]
  rw [List.append_assoc, List.append_assoc]
  refine List.Perm.append_left _ ?_
  rw [<- List.append_assoc, <- List.append_assoc]
  exact List.Perm.append_right _ List.perm_append_comm
 ·rcases List.mem_append.mp (hr.mem_iff.mp hb) with hb | hb
  ·exact h.bx a ha b hb
  ·exact h.by_ a ha b hb
theorem MI.fin (h : MI rk xs ys o i j) (sx : Up rk xs) (sy : Up rk ys) (e : j = ys.length \/ i = xs.length) : Res rk xs ys (o ++ xs.drop i ++ ys.drop j) := by
 rw [List.append_assoc]
 refine h.end2 (List.Perm.refl _) ?_
 rcases e with rfl | rfl
 ·rw [List.drop_length, List.append_nil]; exact sx.sublist (List.drop_sublist _ _)
 ·rw [List.drop_length, List.nil_append]; exact sy.sublist (List.drop_sublist _ _)
theorem MI.end1 (h : MI rk xs ys o i j) (sy : Up rk ys) (e : i + 1 = xs.length) (la : ∀ u, xs[i]? = some u -> ∀ v ∈ ys, rk v <= rk u) : Res rk xs ys (o ++ ys.drop j ++ xs.drop i) := by
 rw [List.append_assoc]
 have hi : xs[i]? = some xs[i] := List.getElem?_eq_getElem (by omega)
 have ed := bH hi
 rw [e, List.drop_length] at ed
 refine h.end2 List.perm_append_comm (List.pairwise_append.mpr ⟨sy.sublist (List.drop_sublist _ _), ?_, fun a ha b hb => ?_⟩)
 ·rw [ed]; exact List.pairwise_singleton _ _
 ·rw [ed] at hb; rw [List.mem_singleton.mp hb]
  exact la _ hi a (List.mem_of_mem_drop ha)
theorem dA {l : List Keyed} (h : Up rk l) {i j : Nat} {u v : Keyed} (hij : i <= j) (hu : l[i]? = some u) (hv : l[j]? = some v) : rk u <= rk v := by
 obtain ⟨h1, e1⟩ := List.getElem?_eq_some_iff.mp hu
 obtain ⟨h2, e2⟩ := List.getElem?_eq_some_iff.mp hv
 rw [<- e1, <- e2]
 by_cases e : i = j
 ·subst e; exact Nat.le_refl _
 ·exact List.pairwise_iff_getElem.mp h i j h1 h2 (by omega)
theorem eU {l : List Keyed} (h : Up rk l) {i : Nat} {u v : Keyed} (hu : l[i]? = some u) (hv : v ∈ l.drop i) : rk u <= rk v := by
 obtain ⟨k, hk⟩ := List.mem_iff_getElem?.mp hv
 rw [List.getElem?_drop] at hk
 exact dA h (by omega) hu hk
end
theorem fH {a : Array Keyed} {i n : Nat} : (a.extract i n).toList = (a.toList.drop i).take (n - i) := by rw [Array.toList_extract]
theorem jU {a : Array Keyed} {i : Nat} : (a.extract i a.size).toList = a.toList.drop i := by
 rw [fH, List.take_of_length_le]
 rw [List.length_drop, Array.length_toList]; omega
theorem bL {a : Array Keyed} {i : Nat} : a[i]? = a.toList[i]? := by rw [Array.getElem?_toList]
end L2.TS
namespace L2.TS
open PySem PySem.Spec PyProof.Rows
abbrev SG : Type := Option (Array Keyed) × Array Keyed × Nat × Nat × Nat × Nat × Nat
abbrev SI : Type := Option (Array Keyed) × Array Keyed × Nat × Nat × Nat × Nat
abbrev SO : Type := Option (Array Keyed) × Array Keyed × Nat × Nat × Nat
def fk (xs ys o : Array Keyed) (i j : Nat) : Array Keyed := o ++ xs.extract i xs.size ++ ys.extract j ys.size
def jd (xs ys o : Array Keyed) (i j : Nat) : Array Keyed := o ++ ys.extract j ys.size ++ xs.extract i xs.size
def lo3 (xs ys o : Array Keyed) (i j mg ac bc : Nat) : StateT SortSt Sem (ForInStep SG) := do
 let x <- elem' xs i
 if (i + 1 + 1 == xs.size) = true then pure (.done (some (jd xs ys (o.push x) (i + 1) j), o.push x, i + 1, j, mg, ac, bc))
 else if (decide (ac < 7) && decide (bc < 7)) = true then pure (.done (none, o.push x, i + 1, j, mg, ac, bc))
 else pure (.yield (none, o.push x, i + 1, j, mg, ac, bc))
def lo2 (xs ys o : Array Keyed) (i j mg ac bc : Nat) : StateT SortSt Sem (ForInStep SG) := do
 let y <- elem' ys j
 if (j + 1 == ys.size) = true then pure (.done (some (fk xs ys (o.push y) i (j + 1)), o.push y, i, j + 1, mg, ac, bc))
 else do
  let x <- elem' xs i
  match <- gal true x ys (j + 1) (ys.size - (j + 1)) 0 with
  | some c =>
   if c > 0 then
    if (j + 1 + c == ys.size) = true then pure (.done (some (fk xs ys (o.push y ++ ys.extract (j + 1) (j + 1 + c)) i (j + 1 + c)), o.push y ++ ys.extract (j + 1) (j + 1 + c), i, j + 1 + c, mg, ac, c))
    else lo3 xs ys (o.push y ++ ys.extract (j + 1) (j + 1 + c)) i (j + 1 + c) mg ac c
   else lo3 xs ys (o.push y) i (j + 1) mg ac c
  | _ => pure (.done (some (fk xs ys (o.push y) i (j + 1)), o.push y, i, j + 1, mg, ac, bc))
def lo1 (xs ys o : Array Keyed) (i j mg ac bc : Nat) : StateT SortSt Sem (ForInStep SG) := do
 jo mg
 let y <- elem' ys j
 match <- gal false y xs i (xs.size - i) 0 with
 | some c =>
  if c > 0 then
   if (i + c + 1 == xs.size) = true then pure (.done (some (jd xs ys (o ++ xs.extract i (i + c)) (i + c) j), o ++ xs.extract i (i + c), i + c, j, mg, c, bc))
   else if (i + c == xs.size) = true then pure (.done (some (fk xs ys (o ++ xs.extract i (i + c)) (i + c) j), o ++ xs.extract i (i + c), i + c, j, mg, c, bc))
   else lo2 xs ys (o ++ xs.extract i (i + c)) (i + c) j mg c bc
  else lo2 xs ys o i j mg c bc
 | _ => pure (.done (some (fk xs ys o i j), o, i, j, mg, ac, bc))
def loA (xs ys : Array Keyed) (mg : Nat) (c : SI) : StateT SortSt Sem (ForInStep SI) := do
 let y <- elem' ys c.2.2.2.1
 let x <- elem' xs c.2.2.1
 match <- lt' y x with
 | some yw =>
  if yw = true then do
   let y <- elem' ys c.2.2.2.1
   if (c.2.2.2.1 + 1 == ys.size) = true then pure (.done (some (fk xs ys (c.2.1.push y) c.2.2.1 (c.2.2.2.1 + 1)), c.2.1.push y, c.2.2.1, c.2.2.2.1 + 1, 0, c.2.2.2.2.2 + 1))
   else if c.2.2.2.2.2 + 1 >= mg then pure (.done (none, c.2.1.push y, c.2.2.1, c.2.2.2.1 + 1, 0, c.2.2.2.2.2 + 1))
   else pure (.yield (none, c.2.1.push y, c.2.2.1, c.2.2.2.1 + 1, 0, c.2.2.2.2.2 + 1))
  else do
   let x <- elem' xs c.2.2.1
   if (c.2.2.1 + 1 + 1 == xs.size) = true then pure (.done (some (jd xs ys (c.2.1.push x) (c.2.2.1 + 1) c.2.2.2.1), c.2.1.push x, c.2.2.1 + 1, c.2.2.2.1, c.2.2.2.2.1 + 1, 0))
   else if c.2.2.2.2.1 + 1 >= mg then pure (.done (none, c.2.1.push x, c.2.2.1 + 1, c.2.2.2.1, c.2.2.2.2.1 + 1, 0))
   else pure (.yield (none, c.2.1.push x, c.2.2.1 + 1, c.2.2.2.1, c.2.2.2.2.1 + 1, 0))
 | _ => pure (.done (some (fk xs ys c.2.1 c.2.2.1 c.2.2.2.1), c.2.1, c.2.2.1, c.2.2.2.1, c.2.2.2.2.1, c.2.2.2.2.2))
def loB (xs ys : Array Keyed) (d : SO) : StateT SortSt Sem (ForInStep SO) := do
 let c <- forIn [0:xs.size + ys.size] ((none, d.2.1, d.2.2.1, d.2.2.2.1, 0, 0) : SI) fun _ c => loA xs ys d.2.2.2.2 c
 match c.1 with
 | some r => pure (.done (some r, c.2.1, c.2.2.1, c.2.2.2.1, d.2.2.2.2))
 | none => do
  rule "list.sort.gallop"
  let e <- forIn [0:xs.size + ys.size] ((none, c.2.1, c.2.2.1, c.2.2.2.1, d.2.2.2.2 + 1, c.2.2.2.2.1, c.2.2.2.2.2) : SG) fun _ e =>
   if e.2.2.2.2.1 > 1 then lo1 xs ys e.2.1 e.2.2.1 e.2.2.2.1 (e.2.2.2.2.1 - 1) e.2.2.2.2.2.1 e.2.2.2.2.2.2
   else lo1 xs ys e.2.1 e.2.2.1 e.2.2.2.1 e.2.2.2.2.1 e.2.2.2.2.2.1 e.2.2.2.2.2.2
  match e.1 with
  | some r => pure (.done (some r, e.2.1, e.2.2.1, e.2.2.2.1, e.2.2.2.2.1))
  | none => do
   jo (e.2.2.2.2.1 + 1)
   pure (.yield (none, e.2.1, e.2.2.1, e.2.2.2.1, e.2.2.2.2.1 + 1))
theorem bv {β γ : Type} {r : Std.Legacy.Range} {c : β} {f g : Nat -> β -> StateT SortSt Sem (ForInStep β)} {h k : β -> StateT SortSt Sem γ} (h1 : ∀ x d, f x d = g x d) (h2 : ∀ d, h d = k d) : (forIn r c f >>= h) = (forIn r c g >>= k) := by rw [show f = g from funext fun x => funext (h1 x), show h = k from funext h2]
theorem tw (xs ys : Array Keyed) : mLo xs ys = (do
  rule "list.sort.merge-lo"
  let all := xs.size + ys.size
  let fin (o : Array Keyed) (i j : Nat) := o ++ xs.extract i xs.size ++ ys.extract j ys.size
  let end1 (o : Array Keyed) (i j : Nat) := o ++ ys.extract j ys.size ++ xs.extract i xs.size
  let mut o : Array Keyed := #[<- elem' ys 0]
  let mut i := 0
  let mut j := 1
  if j == ys.size then return fin o i j
  if i + 1 == xs.size then return end1 o i j
  let mut mg := gallopOf (<- get)
  for _ in [0:all] do
   let mut ac := 0
   let mut bc := 0
   for _ in [0:all] do
    let some yw <- lt' (<- elem' ys j) (<- elem' xs i) | return fin o i j
    if yw then
     o := o.push (<- elem' ys j); j := j + 1; bc := bc + 1; ac := 0
     if j == ys.size then return fin o i j
     if bc >= mg then break
    else
     o := o.push (<- elem' xs i); i := i + 1; ac := ac + 1; bc := 0
     if i + 1 == xs.size then return end1 o i j
     if ac >= mg then break
   rule "list.sort.gallop"
   mg := mg + 1
   for _ in [0:all] do
    if mg > 1 then mg := mg - 1
    jo mg
    let some c <- gal false (<- elem' ys j) xs i (xs.size - i) 0 | return fin o i j
    ac := c
    if c > 0 then
     o := o ++ xs.extract i (i + c); i := i + c
     if i + 1 == xs.size then return end1 o i j
     if i == xs.size then return fin o i j
    o := o.push (<- elem' ys j); j := j + 1
    if j == ys.size then return fin o i j
    let some c <- gal true (<- elem' xs i) ys j (ys.size - j) 0 | return fin o i j
    bc := c
    if c > 0 then
     o := o ++ ys.extract j (j + c); j := j + c
     if j == ys.size then return fin o i j
    o := o.push (<- elem' xs i); i := i + 1
    if i + 1 == xs.size then return end1 o i j
    if ac < 7 && bc < 7 then break
   mg := mg + 1
   jo mg
  unsupported "internal:list.sort.merge-bound") := rfl
theorem vc (xs ys : Array Keyed) : mLo xs ys = (do
  rule "list.sort.merge-lo"
  let y <- elem' ys 0
  if (1 == ys.size) = true then pure (fk xs ys #[y] 0 1)
  else if (0 + 1 == xs.size) = true then pure (jd xs ys #[y] 0 1)
  else do
   let g <- get
   let d <- forIn [0:xs.size + ys.size] ((none, #[y], 0, 1, gallopOf g) : SO) fun _ d => loB xs ys d
   match d.1 with
   | some r => pure r
   | none => unsupported "internal:list.sort.merge-bound") := by
 rw [tw]
 refine bind_congr fun _ => ?_
 refine bind_congr fun y => ?_
 refine ite_congr rfl (fun _ => rfl) fun _ => ?_
 refine ite_congr rfl (fun _ => rfl) fun _ => ?_
 refine bind_congr fun g => ?_
 refine bv (fun x d => ?_) (fun d => by obtain ⟨r, d⟩ := d; cases r <;> rfl)
 unfold loB
 refine bv (fun x c => rfl) (fun c => ?_)
 obtain ⟨r, o, i, j, ac, bc⟩ := c
 cases r with
 | some r => rfl
 | none =>
  refine bind_congr fun _ => ?_
  refine bv (fun x e => ?_) (fun d => ?_)
  ·refine ite_congr rfl (fun _ => ?_) fun _ => ?_
   ·unfold lo1
    refine bind_congr fun _ => ?_
    refine bind_congr fun y => ?_
    refine bind_congr fun c => ?_
    cases c with
    | none => rfl
    | some c =>
     refine ite_congr rfl (fun _ => ?_) fun _ => ?_
     ·refine ite_congr rfl (fun _ => rfl) fun _ => ?_
      refine ite_congr rfl (fun _ => rfl) fun _ => ?_
      unfold lo2
      rfl
     ·rfl
   ·rfl
  ·obtain ⟨r, d⟩ := d; cases r <;> rfl
theorem gj (g : Nat) : jo g = modify fun st => SortSt.mk' (kindOf st) (arrOf st) (pendingOf st) g (failedOf st) := rfl
structure Ok (st st' : SortSt) : Prop where
 kd : kindOf st' = kindOf st
 ar : arrOf st' = arrOf st
 pe : pendingOf st' = pendingOf st
 fa : failedOf st' = failedOf st
theorem Ok.refl (st : SortSt) : Ok st st := ⟨rfl, rfl, rfl, rfl⟩
theorem Ok.trans {a b c : SortSt} (h : Ok a b) (k : Ok b c) : Ok a c := ⟨k.kd.trans h.kd, k.ar.trans h.ar, k.pe.trans h.pe, k.fa.trans h.fa⟩
def Aft (rk : Keyed -> Nat) (xs ys : Array Keyed) (n : Nat) (st : SortSt) {α : Type} (r : Option (Array Keyed)) (o : Array Keyed) (i j : Nat) (st' : SortSt) : Prop :=
 Ok st st' /\ match r with
  | some r => Res rk xs.toList ys.toList r.toList
  | none => MI rk xs.toList ys.toList o.toList i j /\ i + 1 < xs.size /\ j < ys.size /\ n < i + j
def pX (rk : Keyed -> Nat) (xs ys : Array Keyed) (n : Nat) (st : SortSt) (r : ForInStep SG) (st' : SortSt) : Prop := match r with
 | .done e => Aft (α := Unit) rk xs ys n st e.1 e.2.1 e.2.2.1 e.2.2.2.1 st'
 | .yield e => e.1 = none /\ Aft (α := Unit) rk xs ys n st e.1 e.2.1 e.2.2.1 e.2.2.2.1 st'
section
variable {prog : Program} {w : World} {A : Around} {E : Value -> Shared -> Prop} {s : Shared} {kd : SortKind} {M : Keyed -> Prop} {rk : Keyed -> Nat} {xs ys o : Array Keyed} {i j mg ac bc n : Nat} {st : SortSt}
theorem dD {u : Keyed} : (o.push u).toList = o.toList ++ [u] := Array.toList_push
theorem qB {c : Nat} : (o ++ xs.extract i (i + c)).toList = o.toList ++ (xs.toList.drop i).take c := by rw [Array.toList_append, fH, Nat.add_sub_cancel_left]
theorem eQ : (fk xs ys o i j).toList = o.toList ++ xs.toList.drop i ++ ys.toList.drop j := by unfold fk; rw [Array.toList_append, Array.toList_append, jU, jU]
theorem gm : (jd xs ys o i j).toList = o.toList ++ ys.toList.drop j ++ xs.toList.drop i := by unfold jd; rw [Array.toList_append, Array.toList_append, jU, jU]
theorem aI {a : Array Keyed} {k : Nat} (h : k < a.size) : ∃ u, a[k]? = some u /\ a.toList[k]? = some u := ⟨a[k], getElem?_pos a k h, by rw [<- bL]; exact getElem?_pos a k h⟩
theorem ql (T : Two rk M xs.toList ys.toList) (la : ∀ u, xs.toList[xs.size - 1]? = some u -> ∀ v ∈ ys.toList, rk v <= rk u) (h : MI rk xs.toList ys.toList o.toList i j) (hi : i + 1 < xs.size) (hj : j < ys.size) (hn : n <= i + j)
  (le : ∀ u, xs.toList[i]? = some u -> ∀ v ∈ ys.toList.drop j, rk u <= rk v) : wpS (model prog w) A E s (lo3 xs ys o i j mg ac bc) (pX rk xs ys n st) st := by
 unfold lo3
 obtain ⟨x, e1, e2⟩ := aI (a := xs) (k := i) (by omega)
 refine wpS_bind (bt e1 ?_)
 have h1 := h.tx T.sx e2 (le x e2)
 rw [<- dD] at h1
 by_cases c1 : (i + 1 + 1 == xs.size) = true
 ·rw [if_pos c1]
  have c1' : i + 1 + 1 = xs.size := by simpa using c1
  refine wpS_pure ⟨Ok.refl _, ?_⟩
  show Res _ _ _ (jd _ _ _ _ _).toList
  rw [gm]
  exact h1.end1 T.sy (by rw [Array.length_toList]; exact c1') fun u hu => la u (by rw [<- c1']; exact hu)
 ·rw [if_neg c1]
  have c1' : ¬ i + 1 + 1 = xs.size := by simpa using c1
  have z : Aft (α := Unit) rk xs ys n st none (o.push x) (i + 1) j st := ⟨Ok.refl _, h1, by omega, hj, by omega⟩
  by_cases c2 : (decide (ac < 7) && decide (bc < 7)) = true
  ·rw [if_pos c2]; exact wpS_pure z
  ·rw [if_neg c2]; exact wpS_pure ⟨rfl, z⟩
theorem qN (O : Ask prog w A s kd M rk) (hk : kindOf st = kd) (T : Two rk M xs.toList ys.toList) (la : ∀ u, xs.toList[xs.size - 1]? = some u -> ∀ v ∈ ys.toList, rk v <= rk u) (h : MI rk xs.toList ys.toList o.toList i j) (hi : i + 1 < xs.size) (hj : j < ys.size) (hn : n <= i + j)
  (le : ∀ u, ys.toList[j]? = some u -> ∀ v ∈ xs.toList.drop i, rk u <= rk v) : wpS (model prog w) A E s (lo2 xs ys o i j mg ac bc) (pX rk xs ys n st) st := by
 unfold lo2
 obtain ⟨y, e1, e2⟩ := aI (a := ys) (k := j) hj
 refine wpS_bind (bt e1 ?_)
 have h1 := h.ty T.sy e2 (le y e2)
 rw [<- dD] at h1
 by_cases c1 : (j + 1 == ys.size) = true
 ·rw [if_pos c1]
  have c1' : j + 1 = ys.size := by simpa using c1
  refine wpS_pure ⟨Ok.refl _, ?_⟩
  show Res _ _ _ (fk _ _ _ _ _).toList
  rw [eQ]
  exact h1.fin T.sx T.sy (.inl (by rw [Array.length_toList]; exact c1'))
 ·rw [if_neg c1]
  have c1' : ¬ j + 1 = ys.size := by simpa using c1
  obtain ⟨x, f1, f2⟩ := aI (a := xs) (k := i) (by omega)
  refine wpS_bind (bt f1 ?_)
  refine wpS_bind (fU O hk (T.mx x (List.mem_of_getElem? f2)) (fun k hk' => ?_) (fun a b hab hb => ?_) (by omega) fun c hc lo hi' => ?_)
  ·obtain ⟨u, g1, g2⟩ := aI (a := ys) (k := j + 1 + k) (by omega)
   exact ⟨u, g1, T.my u (List.mem_of_getElem? g2)⟩
  ·obtain ⟨u, g1, g2⟩ := aI (a := ys) (k := j + 1 + a) (by omega)
   obtain ⟨v, k1, k2⟩ := aI (a := ys) (k := j + 1 + b) (by omega)
   rw [bM g1, bM k1]
   exact dA T.sy (by omega) g2 k2
  dsimp only
  have bl : ∀ k u, k < c -> ys.toList[j + 1 + k]? = some u -> rk u < rk x := fun k u hk' hu => by
   have := lo k hk'
   rw [bM (by rw [bL]; exact hu)] at this
   exact of_decide_eq_true this
  have ab : ∀ v ∈ ys.toList.drop (j + 1 + c), rk x <= rk v := fun v hv => by
   obtain ⟨k, hk'⟩ := List.mem_iff_getElem?.mp hv
   rw [List.getElem?_drop] at hk'
   have hl := (List.getElem?_eq_some_iff.mp hk').1
   rw [Array.length_toList] at hl
   have := hi' (c + k) (by omega) (by omega)
   rw [bM (x := v) (by rw [bL, <- hk']; congr 1; omega)] at this
   have := of_decide_eq_false this
   omega
  have h2 := MI.gy T.sy c h1 (by rw [Array.length_toList]; omega) fun k u hk' hu v hv => Nat.le_trans (Nat.le_of_lt (bl k u hk' hu)) (eU T.sx f2 hv)
  rw [<- qB] at h2
  by_cases c2 : c > 0
  ·rw [if_pos c2]
   by_cases c3 : (j + 1 + c == ys.size) = true
   ·rw [if_pos c3]
    have c3' : j + 1 + c = ys.size := by simpa using c3
    refine wpS_pure ⟨Ok.refl _, ?_⟩
    show Res _ _ _ (fk _ _ _ _ _).toList
    rw [eQ]
    exact h2.fin T.sx T.sy (.inl (by rw [Array.length_toList]; exact c3'))
   ·rw [if_neg c3]
    have c3' : ¬ j + 1 + c = ys.size := by simpa using c3
    exact ql T la h2 hi (by omega) (by omega) fun u hu v hv => by rw [f2] at hu; cases hu; exact ab v hv
  ·rw [if_neg c2]
   have c0 : c = 0 := by omega
   subst c0
   exact ql T la h1 hi (by omega) (by omega) fun u hu v hv => by rw [f2] at hu; cases hu; exact ab v hv
theorem rN (O : Ask prog w A s kd M rk) (hk : kindOf st = kd) (T : Two rk M xs.toList ys.toList) (la : ∀ u, xs.toList[xs.size - 1]? = some u -> ∀ v ∈ ys.toList, rk v <= rk u) (h : MI rk xs.toList ys.toList o.toList i j) (hi : i + 1 < xs.size) (hj : j < ys.size) (hn : n <= i + j) :
  wpS (model prog w) A E s (lo1 xs ys o i j mg ac bc) (pX rk xs ys n st) st := by
 unfold lo1
 rw [gj]
 refine wpS_bind (wpS_modify ?_)
 generalize hst : SortSt.mk' (kindOf st) (arrOf st) (pendingOf st) mg (failedOf st) = st1
 have ok1 : Ok st st1 := by rw [<- hst]; exact ⟨rfl, rfl, rfl, rfl⟩
 have hk1 : kindOf st1 = kd := ok1.kd.trans hk
 obtain ⟨y, e1, e2⟩ := aI (a := ys) (k := j) hj
 refine wpS_bind (bt e1 ?_)
 have lift : ∀ r st', pX rk xs ys n st1 r st' -> pX rk xs ys n st r st' := fun r st' z => by
  cases r with
  | done e => exact ⟨ok1.trans z.1, z.2⟩
  | yield e => exact ⟨z.1, ok1.trans z.2.1, z.2.2⟩
 refine wpS_bind (fU O hk1 (T.my y (List.mem_of_getElem? e2)) (fun k hk' => ?_) (fun a b hab hb => ?_) (by omega) fun c hc lo hi' => ?_)
 ·obtain ⟨u, g1, g2⟩ := aI (a := xs) (k := i + k) (by omega)
  exact ⟨u, g1, T.mx u (List.mem_of_getElem? g2)⟩
 ·obtain ⟨u, g1, g2⟩ := aI (a := xs) (k := i + a) (by omega)
  obtain ⟨v, k1, k2⟩ := aI (a := xs) (k := i + b) (by omega)
  rw [bM g1, bM k1]
  exact dA T.sx (by omega) g2 k2
 dsimp only
 have bl : ∀ k u, k < c -> xs.toList[i + k]? = some u -> rk u <= rk y := fun k u hk' hu => by
  have := lo k hk'
  rw [bM (by rw [bL]; exact hu)] at this
  exact of_decide_eq_true this
 have ab : ∀ v ∈ xs.toList.drop (i + c), rk y <= rk v := fun v hv => by
  obtain ⟨k, hk'⟩ := List.mem_iff_getElem?.mp hv
  rw [List.getElem?_drop] at hk'
  have hl := (List.getElem?_eq_some_iff.mp hk').1
  rw [Array.length_toList] at hl
  have := hi' (c + k) (by omega) (by omega)
  rw [bM (x := v) (by rw [bL, <- hk']; congr 1; omega)] at this
  have := of_decide_eq_false this
  omega
 have h2 := MI.gx T.sx c h (by rw [Array.length_toList]; omega) fun k u hk' hu v hv => Nat.le_trans (bl k u hk' hu) (eU T.sy e2 hv)
 rw [<- qB] at h2
 by_cases c2 : c > 0
 ·rw [if_pos c2]
  by_cases c3 : (i + c + 1 == xs.size) = true
  ·rw [if_pos c3]
   have c3' : i + c + 1 = xs.size := by simpa using c3
   refine wpS_pure ⟨ok1, ?_⟩
   show Res _ _ _ (jd _ _ _ _ _).toList
   rw [gm]
   exact h2.end1 T.sy (by rw [Array.length_toList]; exact c3') fun u hu => la u (by rw [<- c3']; exact hu)
  ·rw [if_neg c3]
   have c3' : ¬ i + c + 1 = xs.size := by simpa using c3
   by_cases c4 : (i + c == xs.size) = true
   ·rw [if_pos c4]
    have c4' : i + c = xs.size := by simpa using c4
    refine wpS_pure ⟨ok1, ?_⟩
    show Res _ _ _ (fk _ _ _ _ _).toList
    rw [eQ]
    exact h2.fin T.sx T.sy (.inr (by rw [Array.length_toList]; exact c4'))
   ·rw [if_neg c4]
    have c4' : ¬ i + c = xs.size := by simpa using c4
    exact wpS_mono (qN O hk1 T la h2 (by omega) hj (by omega) fun u hu v hv => by rw [e2] at hu; cases hu; exact ab v hv) lift
 ·rw [if_neg c2]
  have c0 : c = 0 := by omega
  subst c0
  exact wpS_mono (qN O hk1 T la h hi hj hn fun u hu v hv => by rw [e2] at hu; cases hu; exact ab v hv) lift
def wX (rk : Keyed -> Nat) (xs ys : Array Keyed) (n : Nat) (st : SortSt) (r : ForInStep SI) (st' : SortSt) : Prop := match r with
 | .done e => Aft (α := Unit) rk xs ys n st e.1 e.2.1 e.2.2.1 e.2.2.2.1 st'
 | .yield e => e.1 = none /\ Aft (α := Unit) rk xs ys n st e.1 e.2.1 e.2.2.1 e.2.2.2.1 st'
theorem vn (O : Ask prog w A s kd M rk) (hk : kindOf st = kd) (T : Two rk M xs.toList ys.toList) (la : ∀ u, xs.toList[xs.size - 1]? = some u -> ∀ v ∈ ys.toList, rk v <= rk u) (h : MI rk xs.toList ys.toList o.toList i j) (hi : i + 1 < xs.size) (hj : j < ys.size) (hn : n <= i + j) :
  wpS (model prog w) A E s (loA xs ys mg (none, o, i, j, ac, bc)) (wX rk xs ys n st) st := by
 unfold loA
 dsimp only
 obtain ⟨y, e1, e2⟩ := aI (a := ys) (k := j) hj
 obtain ⟨x, f1, f2⟩ := aI (a := xs) (k := i) (by omega)
 refine wpS_bind (bt e1 (wpS_bind (bt f1 (wpS_bind (lJ O hk (T.my y (List.mem_of_getElem? e2)) (T.mx x (List.mem_of_getElem? f2)) ?_)))))
 dsimp only
 by_cases c0 : rk y < rk x
 ·rw [decide_eq_true c0, if_pos rfl]
  refine wpS_bind (bt e1 ?_)
  have h1 := h.ty T.sy e2 fun v hv => Nat.le_trans (Nat.le_of_lt c0) (eU T.sx f2 hv)
  rw [<- dD] at h1
  by_cases c1 : (j + 1 == ys.size) = true
  ·rw [if_pos c1]
   have c1' : j + 1 = ys.size := by simpa using c1
   refine wpS_pure ⟨Ok.refl _, ?_⟩
   show Res _ _ _ (fk _ _ _ _ _).toList
   rw [eQ]
   exact h1.fin T.sx T.sy (.inl (by rw [Array.length_toList]; exact c1'))
  ·rw [if_neg c1]
   have c1' : ¬ j + 1 = ys.size := by simpa using c1
   have z : Aft (α := Unit) rk xs ys n st none (o.push y) i (j + 1) st := ⟨Ok.refl _, h1, hi, by omega, by omega⟩
   by_cases c2 : bc + 1 >= mg
   ·rw [if_pos c2]; exact wpS_pure z
   ·rw [if_neg c2]; exact wpS_pure ⟨rfl, z⟩
 ·rw [decide_eq_false c0, if_neg (by decide)]
  refine wpS_bind (bt f1 ?_)
  have h1 := h.tx T.sx f2 fun v hv => Nat.le_trans (Nat.le_of_not_lt c0) (eU T.sy e2 hv)
  rw [<- dD] at h1
  by_cases c1 : (i + 1 + 1 == xs.size) = true
  ·rw [if_pos c1]
   have c1' : i + 1 + 1 = xs.size := by simpa using c1
   refine wpS_pure ⟨Ok.refl _, ?_⟩
   show Res _ _ _ (jd _ _ _ _ _).toList
   rw [gm]
   exact h1.end1 T.sy (by rw [Array.length_toList]; exact c1') fun u hu => la u (by rw [<- c1']; exact hu)
  ·rw [if_neg c1]
   have c1' : ¬ i + 1 + 1 = xs.size := by simpa using c1
   have z : Aft (α := Unit) rk xs ys n st none (o.push x) (i + 1) j st := ⟨Ok.refl _, h1, by omega, hj, by omega⟩
   by_cases c2 : ac + 1 >= mg
   ·rw [if_pos c2]; exact wpS_pure z
   ·rw [if_neg c2]; exact wpS_pure ⟨rfl, z⟩
def wM (rk : Keyed -> Nat) (xs ys : Array Keyed) (n : Nat) (st : SortSt) (r : ForInStep SO) (st' : SortSt) : Prop := match r with
 | .done e => e.1 ≠ none /\ Aft (α := Unit) rk xs ys n st e.1 e.2.1 e.2.2.1 e.2.2.2.1 st'
 | .yield e => e.1 = none /\ Aft (α := Unit) rk xs ys n st e.1 e.2.1 e.2.2.1 e.2.2.2.1 st'
theorem vo (O : Ask prog w A s kd M rk) (hk : kindOf st = kd) (T : Two rk M xs.toList ys.toList) (la : ∀ u, xs.toList[xs.size - 1]? = some u -> ∀ v ∈ ys.toList, rk v <= rk u) (h : MI rk xs.toList ys.toList o.toList i j) (hi : i + 1 < xs.size) (hj : j < ys.size) (hn : n <= i + j) :
  wpS (model prog w) A E s (loB xs ys (none, o, i, j, mg)) (wM rk xs ys n st) st := by
 unfold loB
 dsimp only
 refine wpS_bind (wpS_mono (wpS_forRange (I := fun x c st' => c.1 = none /\ Ok st st' /\ MI rk xs.toList ys.toList c.2.1.toList c.2.2.1 c.2.2.2.1 /\ c.2.2.1 + 1 < xs.size /\ c.2.2.2.1 < ys.size /\ n + x <= c.2.2.1 + c.2.2.2.1)
  (Q := fun c st' => Aft (α := Unit) rk xs ys n st c.1 c.2.1 c.2.2.1 c.2.2.2.1 st') ?s1 ?f1 ⟨rfl, Ok.refl _, h, hi, hj, hn⟩) ?p1)
 case f1 =>
  rintro ⟨r, o, i, j, ac, bc⟩ st' ⟨rfl, ok, m, a1, a2, a3⟩
  dsimp only at a1 a2 a3
  omega
 case s1 =>
  rintro x ⟨r, o, i, j, ac, bc⟩ st' _ hx ⟨e, ok, m, a1, a2, a3⟩
  obtain rfl : r = none := e
  refine wpS_mono (vn (n := n + x) O (ok.kd.trans hk) T la m a1 a2 a3) fun r st2 z => ?_
  cases r with
  | done e =>
   obtain ⟨r, o, i, j, ac, bc⟩ := e
   refine ⟨ok.trans z.1, ?_⟩
   cases r with
   | some r => exact z.2
   | none => exact ⟨z.2.1, z.2.2.1, z.2.2.2.1, by have := z.2.2.2.2; dsimp only at this ⊢; omega⟩
  | yield e =>
   obtain ⟨r, o, i, j, ac, bc⟩ := e
   obtain ⟨e, ok2, z⟩ := z
   obtain rfl : r = none := e
   exact ⟨rfl, ok.trans ok2, z.1, z.2.1, z.2.2.1, by have := z.2.2.2; dsimp only at this ⊢; omega⟩
 case p1 =>
  rintro ⟨r, o, i, j, ac, bc⟩ st1 ⟨ok1, z⟩
  cases r with
  | some r => exact wpS_pure ⟨by simp, ok1, z⟩
  | none =>
   obtain ⟨m, a1, a2, a3⟩ := z
   dsimp only at m a1 a2 a3 ⊢
   refine wpS_bind (wpS_lift (wpAny_rule ⟨rfl, ?_⟩))
   refine wpS_bind (wpS_mono (wpS_forRange (I := fun x c st' => c.1 = none /\ Ok st st' /\ MI rk xs.toList ys.toList c.2.1.toList c.2.2.1 c.2.2.2.1 /\ c.2.2.1 + 1 < xs.size /\ c.2.2.2.1 < ys.size /\ n + 1 + x <= c.2.2.1 + c.2.2.2.1)
    (Q := fun c st' => Aft (α := Unit) rk xs ys n st c.1 c.2.1 c.2.2.1 c.2.2.2.1 st') ?s2 ?f2 ⟨rfl, ok1, m, a1, a2, by dsimp only; omega⟩) ?p2)
   case f2 =>
    rintro ⟨r, o, i, j, mg, ac, bc⟩ st' ⟨rfl, ok, m, a1, a2, a3⟩
    dsimp only at a1 a2 a3
    omega
   case s2 =>
    rintro x ⟨r, o, i, j, mg, ac, bc⟩ st' _ hx ⟨e, ok, m, a1, a2, a3⟩
    obtain rfl : r = none := e
    have fin : ∀ r st2, pX rk xs ys (n + 1 + x) st' r st2 -> (match r with | .done c' => Aft (α := Unit) rk xs ys n st c'.1 c'.2.1 c'.2.2.1 c'.2.2.2.1 st2 | .yield c' => c'.1 = none /\ Ok st st2 /\ MI rk xs.toList ys.toList c'.2.1.toList c'.2.2.1 c'.2.2.2.1 /\ c'.2.2.1 + 1 < xs.size /\ c'.2.2.2.1 < ys.size /\ n + 1 + (x + 1) <= c'.2.2.1 + c'.2.2.2.1) := fun r st2 z => by
     cases r with
     | done e =>
      obtain ⟨r, o, i, j, mg, ac, bc⟩ := e
      refine ⟨ok.trans z.1, ?_⟩
      cases r with
      | some r => exact z.2
      | none => exact ⟨z.2.1, z.2.2.1, z.2.2.2.1, by have := z.2.2.2.2; dsimp only at this ⊢; omega⟩
     | yield e =>
      obtain ⟨r, o, i, j, mg, ac, bc⟩ := e
      obtain ⟨e, ok2, z⟩ := z
      obtain rfl : r = none := e
      exact ⟨rfl, ok.trans ok2, z.1, z.2.1, z.2.2.1, by have := z.2.2.2; dsimp only at this ⊢; omega⟩
    dsimp only
    by_cases c : mg > 1
    ·rw [if_pos c]; exact wpS_mono (rN (n := n + 1 + x) O (ok.kd.trans hk) T la m a1 a2 a3) fun r st2 z => by have := fin r st2 z; cases r <;> exact this
    ·rw [if_neg c]; exact wpS_mono (rN (n := n + 1 + x) O (ok.kd.trans hk) T la m a1 a2 a3) fun r st2 z => by have := fin r st2 z; cases r <;> exact this
   case p2 =>
    rintro ⟨r, o, i, j, mg, ac, bc⟩ st2 ⟨ok2, z⟩
    cases r with
    | some r => exact wpS_pure ⟨by simp, ok2, z⟩
    | none =>
     dsimp only
     rw [gj]
     exact wpS_bind (wpS_modify (wpS_pure ⟨rfl, ok2.trans ⟨rfl, rfl, rfl, rfl⟩, z⟩))
theorem uM {Q : Array Keyed -> SortSt -> Prop} (O : Ask prog w A s kd M rk) (hk : kindOf st = kd) (T : Two rk M xs.toList ys.toList) (la : ∀ u, xs.toList[xs.size - 1]? = some u -> ∀ v ∈ ys.toList, rk v <= rk u) (h0 : ∀ u, ys.toList[0]? = some u -> ∀ v ∈ xs.toList, rk u <= rk v)
  (q : ∀ r st', Ok st st' -> Res rk xs.toList ys.toList r.toList -> Q r st') : wpS (model prog w) A E s (mLo xs ys) Q st := by
 rw [vc]
 refine wpS_bind (wpS_lift (wpAny_rule ⟨rfl, ?_⟩))
 have lx : 0 < xs.size := by have := List.length_pos_iff.mpr T.nx; rwa [Array.length_toList] at this
 have ly : 0 < ys.size := by have := List.length_pos_iff.mpr T.ny; rwa [Array.length_toList] at this
 obtain ⟨y, e1, e2⟩ := aI (a := ys) (k := 0) ly
 refine wpS_bind (bt e1 ?_)
 have ed := bH e2
 rw [List.drop_zero] at ed
 have m : MI rk xs.toList ys.toList (#[y] : Array Keyed).toList 0 1 := by
  refine ⟨?_, List.pairwise_singleton _ _, fun u hu v hv => ?_, fun u hu v hv => ?_⟩
  ·rw [bJ e2]; simp
  ·rw [List.mem_singleton.mp hu]; exact h0 y e2 v (by simpa using hv)
  ·rw [List.mem_singleton.mp hu]
   have p := T.sy
   rw [ed] at p
   exact (List.pairwise_cons.mp p).1 v hv
 by_cases c1 : (1 == ys.size) = true
 ·rw [if_pos c1]
  have c1' : 1 = ys.size := by simpa using c1
  refine wpS_pure (q _ _ (Ok.refl _) ?_)
  rw [eQ]
  exact m.fin T.sx T.sy (.inl (by rw [Array.length_toList]; exact c1'))
 ·rw [if_neg c1]
  have c1' : ¬ 1 = ys.size := by simpa using c1
  by_cases c2 : (0 + 1 == xs.size) = true
  ·rw [if_pos c2]
   have c2' : 0 + 1 = xs.size := by simpa using c2
   refine wpS_pure (q _ _ (Ok.refl _) ?_)
   rw [gm]
   exact m.end1 T.sy (by rw [Array.length_toList]; exact c2') fun u hu => la u (by rw [<- c2']; exact hu)
  ·rw [if_neg c2]
   have c2' : ¬ 0 + 1 = xs.size := by simpa using c2
   refine wpS_bind (wpS_get ?_)
   refine wpS_bind (wpS_mono (wpS_forRange (I := fun x c st' => c.1 = none /\ Ok st st' /\ MI rk xs.toList ys.toList c.2.1.toList c.2.2.1 c.2.2.2.1 /\ c.2.2.1 + 1 < xs.size /\ c.2.2.2.1 < ys.size /\ 1 + x <= c.2.2.1 + c.2.2.2.1)
    (Q := fun c st' => ∃ r, c.1 = some r /\ Ok st st' /\ Res rk xs.toList ys.toList r.toList) ?s1 ?f1 ⟨rfl, Ok.refl _, m, by dsimp only; omega, by dsimp only; omega, by dsimp only; omega⟩) ?p1)
   case f1 =>
    rintro ⟨r, o, i, j, mg⟩ st' ⟨rfl, ok, m, a1, a2, a3⟩
    dsimp only at a1 a2 a3
    omega
   case s1 =>
    rintro x ⟨r, o, i, j, mg⟩ st' _ hx ⟨e, ok, m, a1, a2, a3⟩
    obtain rfl : r = none := e
    refine wpS_mono (vo (n := 1 + x) O (ok.kd.trans hk) T la m a1 a2 a3) fun r st2 z => ?_
    cases r with
    | done e =>
     obtain ⟨r, o, i, j, mg⟩ := e
     obtain ⟨ne, ok2, z⟩ := z
     cases r with
     | some r => exact ⟨r, rfl, ok.trans ok2, z⟩
     | none => exact absurd rfl ne
    | yield e =>
     obtain ⟨r, o, i, j, mg⟩ := e
     obtain ⟨e, ok2, z⟩ := z
     obtain rfl : r = none := e
     exact ⟨rfl, ok.trans ok2, z.1, z.2.1, z.2.2.1, by have := z.2.2.2; dsimp only at this ⊢; omega⟩
   case p1 =>
    rintro ⟨r, o, i, j, mg⟩ st' ⟨r', e, ok, z⟩
    obtain rfl : r = some r' := e
    exact wpS_pure (q _ _ ok z)
end
end L2.TS
namespace L2.TS
open PySem PySem.Spec PyProof.Rows
structure MH (rk : Keyed -> Nat) (xs ys t : List Keyed) (i j : Nat) : Prop where
 pm : t.Perm (xs.drop i ++ ys.drop j)
 so : Up rk t
 bx : ∀ u ∈ t, ∀ v ∈ xs.take i, rk v <= rk u
 by_ : ∀ u ∈ t, ∀ v ∈ ys.take j, rk v <= rk u
section
variable {rk : Keyed -> Nat} {M : Keyed -> Prop} {xs ys t : List Keyed} {i j : Nat}
theorem MH.tx {u : Keyed} (h : MH rk xs ys t (i + 1) j) (T : Up rk xs) (hu : xs[i]? = some u) (le : ∀ v ∈ ys.take j, rk v <= rk u) : MH rk xs ys (u :: t) i j := by
 have e := bJ hu
 refine ⟨?_, List.pairwise_cons.mpr ⟨fun a ha => h.bx a ha u (by rw [e]; exact List.mem_append_right _ (List.mem_singleton.mpr rfl)), h.so⟩, fun a ha v hv => ?_, fun a ha v hv => ?_⟩
 ·rw [bH hu]
  exact List.Perm.cons u h.pm
 ·rcases List.mem_cons.mp ha with rfl | ha
  ·have p : Up rk (xs.take (i + 1)) := T.sublist (List.take_sublist _ _)
   rw [e] at p
   exact (List.pairwise_append.mp p).2.2 v hv a (List.mem_singleton.mpr rfl)
  ·exact h.bx a ha v (by rw [e]; exact List.mem_append_left _ hv)
 ·rcases List.mem_cons.mp ha with rfl | ha
  ·exact le v hv
  ·exact h.by_ a ha v hv
theorem MH.swap (h : MH rk xs ys t i j) : MH rk ys xs t j i := ⟨h.pm.trans List.perm_append_comm, h.so, h.by_, h.bx⟩
theorem MH.gx (T : Up rk xs) : ∀ (k : Nat) (t : List Keyed), MH rk xs ys t (i + k) j -> i + k <= xs.length -> (∀ m u, i <= m -> m < i + k -> xs[m]? = some u -> ∀ v ∈ ys.take j, rk v <= rk u) -> MH rk xs ys ((xs.drop i).take k ++ t) i j
 | 0, t, h, _, _ => by rw [List.take_zero, List.nil_append]; exact h
 | k + 1, t, h, hl, le => by
  have hc : xs[i + k]? = some xs[i + k] := List.getElem?_eq_getElem (by omega)
  have e : (xs.drop i)[k]? = some xs[i + k] := by rw [List.getElem?_drop]; exact hc
  rw [bJ e, List.append_assoc]
  exact MH.gx T k _ (h.tx T hc (le _ _ (by omega) (by omega) hc)) (by omega) fun m u h1 h2 => le m u h1 (by omega)
theorem MH.gy (T : Up rk ys) (k : Nat) (h : MH rk xs ys t i (j + k)) (hl : j + k <= ys.length) (le : ∀ m u, j <= m -> m < j + k -> ys[m]? = some u -> ∀ v ∈ xs.take i, rk v <= rk u) : MH rk xs ys ((ys.drop j).take k ++ t) i j := (MH.gx T k t h.swap hl le).swap
theorem MH.end2 (h : MH rk xs ys t i j) {r : List Keyed} (hr : r.Perm (xs.take i ++ ys.take j)) (up : Up rk r) : Res rk xs ys (r ++ t) := by
 refine ⟨?_, List.pairwise_append.mpr ⟨up, h.so, fun a ha b hb => ?_⟩⟩
 ·refine (hr.append h.pm).trans ?_
  conv => rhs; rw [<- je xs i, <- je ys j]
  rw [List.append_assoc, List.append_assoc]
  refine List.Perm.append_left _ ?_
  rw [<- List.append_assoc, <- List.append_assoc]
  exact List.Perm.append_right _ List.perm_append_comm
 ·rcases List.mem_append.mp (hr.mem_iff.mp ha) with ha | ha
  ·exact h.bx b hb a ha
  ·exact h.by_ b hb a ha
theorem MH.fin (h : MH rk xs ys t i j) (sx : Up rk xs) (sy : Up rk ys) (e : i = 0 \/ j = 0) : Res rk xs ys (xs.take i ++ ys.take j ++ t) := by
 refine h.end2 (List.Perm.refl _) ?_
 rcases e with rfl | rfl
 ·rw [List.take_zero, List.nil_append]; exact sy.sublist (List.take_sublist _ _)
 ·rw [List.take_zero, List.append_nil]; exact sx.sublist (List.take_sublist _ _)
theorem MH.fst (h : MH rk xs ys t i 1) (sx : Up rk xs) (h0 : ∀ u, ys[0]? = some u -> ∀ v ∈ xs, rk u <= rk v) : Res rk xs ys (ys.take 1 ++ xs.take i ++ t) := by
 refine h.end2 List.perm_append_comm (List.pairwise_append.mpr ⟨?_, sx.sublist (List.take_sublist _ _), fun a ha b hb => ?_⟩)
 ·cases ys with
  | nil => exact List.Pairwise.nil
  | cons y ys => exact List.pairwise_singleton _ _
 ·cases ys with
  | nil => cases ha
  | cons y ys =>
   rw [show (y :: ys).take 1 = [y] from rfl] at ha
   rw [List.mem_singleton.mp ha]
   exact h0 y rfl b (List.mem_of_mem_take hb)
theorem sR {l : List Keyed} (h : Up rk l) {i : Nat} {u v : Keyed} (hu : l[i]? = some u) (hv : v ∈ l.take (i + 1)) : rk v <= rk u := by
 obtain ⟨k, hk⟩ := List.mem_iff_getElem?.mp hv
 have hl := (List.getElem?_eq_some_iff.mp hk).1
 rw [List.length_take] at hl
 rw [List.getElem?_take, if_pos (by omega)] at hk
 exact dA h (by omega) hk hu
end
def ff (xs ys o : Array Keyed) (i j : Nat) : Array Keyed := xs.extract 0 i ++ ys.extract 0 j ++ o.reverse
def jA (xs ys o : Array Keyed) (i j : Nat) : Array Keyed := ys.extract 0 j ++ xs.extract 0 i ++ o.reverse
abbrev HG : Type := Option (Array Keyed) × Nat × Nat × Array Keyed × Nat × Nat × Nat
abbrev HI : Type := Option (Array Keyed) × Nat × Nat × Array Keyed × Nat × Nat
abbrev HQ : Type := Option (Array Keyed) × Nat × Nat × Array Keyed × Nat
def hi3 (xs ys o : Array Keyed) (i j mg ac bc : Nat) : StateT SortSt Sem (ForInStep HG) := do
 let x <- elem' xs (i - 1)
 if (i - 1 == 0) = true then pure (.done (some (ff xs ys (o.push x) (i - 1) j), i - 1, j, o.push x, mg, ac, bc))
 else if (decide (ac < 7) && decide (bc < 7)) = true then pure (.done (none, i - 1, j, o.push x, mg, ac, bc))
 else pure (.yield (none, i - 1, j, o.push x, mg, ac, bc))
def hi2 (xs ys o : Array Keyed) (i j mg ac bc : Nat) : StateT SortSt Sem (ForInStep HG) := do
 let y <- elem' ys (j - 1)
 if (j - 1 == 1) = true then pure (.done (some (jA xs ys (o.push y) i (j - 1)), i, j - 1, o.push y, mg, ac, bc))
 else do
  let x <- elem' xs (i - 1)
  match <- gal true x ys 0 (j - 1) (j - 1 - 1) with
  | some p =>
   if j - 1 - p > 0 then
    if (p == 1) = true then pure (.done (some (jA xs ys (o.push y ++ (ys.extract p (j - 1)).reverse) i p), i, p, o.push y ++ (ys.extract p (j - 1)).reverse, mg, ac, j - 1 - p))
    else if (p == 0) = true then pure (.done (some (ff xs ys (o.push y ++ (ys.extract p (j - 1)).reverse) i p), i, p, o.push y ++ (ys.extract p (j - 1)).reverse, mg, ac, j - 1 - p))
    else hi3 xs ys (o.push y ++ (ys.extract p (j - 1)).reverse) i p mg ac (j - 1 - p)
   else hi3 xs ys (o.push y) i (j - 1) mg ac (j - 1 - p)
  | _ => pure (.done (some (ff xs ys (o.push y) i (j - 1)), i, j - 1, o.push y, mg, ac, bc))
def hi1 (xs ys o : Array Keyed) (i j mg ac bc : Nat) : StateT SortSt Sem (ForInStep HG) := do
 jo mg
 let y <- elem' ys (j - 1)
 match <- gal false y xs 0 i (i - 1) with
 | some p =>
  if i - p > 0 then
   if (p == 0) = true then pure (.done (some (ff xs ys (o ++ (xs.extract p i).reverse) p j), p, j, o ++ (xs.extract p i).reverse, mg, i - p, bc))
   else hi2 xs ys (o ++ (xs.extract p i).reverse) p j mg (i - p) bc
  else hi2 xs ys o i j mg (i - p) bc
 | _ => pure (.done (some (ff xs ys o i j), i, j, o, mg, ac, bc))
def hiA (xs ys : Array Keyed) (mg : Nat) (c : HI) : StateT SortSt Sem (ForInStep HI) := do
 let y <- elem' ys (c.2.2.1 - 1)
 let x <- elem' xs (c.2.1 - 1)
 match <- lt' y x with
 | some xw =>
  if xw = true then do
   let x <- elem' xs (c.2.1 - 1)
   if (c.2.1 - 1 == 0) = true then pure (.done (some (ff xs ys (c.2.2.2.1.push x) (c.2.1 - 1) c.2.2.1), c.2.1 - 1, c.2.2.1, c.2.2.2.1.push x, c.2.2.2.2.1 + 1, 0))
   else if c.2.2.2.2.1 + 1 >= mg then pure (.done (none, c.2.1 - 1, c.2.2.1, c.2.2.2.1.push x, c.2.2.2.2.1 + 1, 0))
   else pure (.yield (none, c.2.1 - 1, c.2.2.1, c.2.2.2.1.push x, c.2.2.2.2.1 + 1, 0))
  else do
   let y <- elem' ys (c.2.2.1 - 1)
   if (c.2.2.1 - 1 == 1) = true then pure (.done (some (jA xs ys (c.2.2.2.1.push y) c.2.1 (c.2.2.1 - 1)), c.2.1, c.2.2.1 - 1, c.2.2.2.1.push y, 0, c.2.2.2.2.2 + 1))
   else if c.2.2.2.2.2 + 1 >= mg then pure (.done (none, c.2.1, c.2.2.1 - 1, c.2.2.2.1.push y, 0, c.2.2.2.2.2 + 1))
   else pure (.yield (none, c.2.1, c.2.2.1 - 1, c.2.2.2.1.push y, 0, c.2.2.2.2.2 + 1))
 | _ => pure (.done (some (ff xs ys c.2.2.2.1 c.2.1 c.2.2.1), c.2.1, c.2.2.1, c.2.2.2.1, c.2.2.2.2.1, c.2.2.2.2.2))
def hiB (xs ys : Array Keyed) (d : HQ) : StateT SortSt Sem (ForInStep HQ) := do
 let c <- forIn [0:xs.size + ys.size] ((none, d.2.1, d.2.2.1, d.2.2.2.1, 0, 0) : HI) fun _ c => hiA xs ys d.2.2.2.2 c
 match c.1 with
 | some r => pure (.done (some r, c.2.1, c.2.2.1, c.2.2.2.1, d.2.2.2.2))
 | none => do
  rule "list.sort.gallop"
  let e <- forIn [0:xs.size + ys.size] ((none, c.2.1, c.2.2.1, c.2.2.2.1, d.2.2.2.2 + 1, c.2.2.2.2.1, c.2.2.2.2.2) : HG) fun _ e =>
   if e.2.2.2.2.1 > 1 then hi1 xs ys e.2.2.2.1 e.2.1 e.2.2.1 (e.2.2.2.2.1 - 1) e.2.2.2.2.2.1 e.2.2.2.2.2.2
   else hi1 xs ys e.2.2.2.1 e.2.1 e.2.2.1 e.2.2.2.2.1 e.2.2.2.2.2.1 e.2.2.2.2.2.2
  match e.1 with
  | some r => pure (.done (some r, e.2.1, e.2.2.1, e.2.2.2.1, e.2.2.2.2.1))
  | none => do
   jo (e.2.2.2.2.1 + 1)
   pure (.yield (none, e.2.1, e.2.2.1, e.2.2.2.1, e.2.2.2.2.1 + 1))
theorem tj (xs ys : Array Keyed) : mHi xs ys = (do
  rule "list.sort.merge-hi"
  let all := xs.size + ys.size
  let fin (o : Array Keyed) (i j : Nat) := xs.extract 0 i ++ ys.extract 0 j ++ o.reverse
  let fst (o : Array Keyed) (i j : Nat) := ys.extract 0 j ++ xs.extract 0 i ++ o.reverse
  let mut i := xs.size - 1
  let mut j := ys.size
  let mut o : Array Keyed := #[<- elem' xs i]
  if i == 0 then return fin o i j
  if j == 1 then return fst o i j
  let mut mg := gallopOf (<- get)
  for _ in [0:all] do
   let mut ac := 0
   let mut bc := 0
   for _ in [0:all] do
    let some xw <- lt' (<- elem' ys (j - 1)) (<- elem' xs (i - 1)) | return fin o i j
    if xw then
     i := i - 1; o := o.push (<- elem' xs i); ac := ac + 1; bc := 0
     if i == 0 then return fin o i j
     if ac >= mg then break
    else
     j := j - 1; o := o.push (<- elem' ys j); bc := bc + 1; ac := 0
     if j == 1 then return fst o i j
     if bc >= mg then break
   rule "list.sort.gallop"
   mg := mg + 1
   for _ in [0:all] do
    if mg > 1 then mg := mg - 1
    jo mg
    let some p <- gal false (<- elem' ys (j - 1)) xs 0 i (i - 1) | return fin o i j
    let k := i - p
    ac := k
    if k > 0 then
     o := o ++ (xs.extract p i).reverse; i := p
     if i == 0 then return fin o i j
    j := j - 1; o := o.push (<- elem' ys j)
    if j == 1 then return fst o i j
    let some p <- gal true (<- elem' xs (i - 1)) ys 0 j (j - 1) | return fin o i j
    let k := j - p
    bc := k
    if k > 0 then
     o := o ++ (ys.extract p j).reverse; j := p
     if j == 1 then return fst o i j
     if j == 0 then return fin o i j
    i := i - 1; o := o.push (<- elem' xs i)
    if i == 0 then return fin o i j
    if ac < 7 && bc < 7 then break
   mg := mg + 1
   jo mg
  unsupported "internal:list.sort.merge-bound") := rfl
theorem uH (xs ys : Array Keyed) : mHi xs ys = (do
  rule "list.sort.merge-hi"
  let x <- elem' xs (xs.size - 1)
  if (xs.size - 1 == 0) = true then pure (ff xs ys #[x] (xs.size - 1) ys.size)
  else if (ys.size == 1) = true then pure (jA xs ys #[x] (xs.size - 1) ys.size)
  else do
   let g <- get
   let d <- forIn [0:xs.size + ys.size] ((none, xs.size - 1, ys.size, #[x], gallopOf g) : HQ) fun _ d => hiB xs ys d
   match d.1 with
   | some r => pure r
   | none => unsupported "internal:list.sort.merge-bound") := by
 rw [tj]
 refine bind_congr fun _ => ?_
 refine bind_congr fun y => ?_
 refine ite_congr rfl (fun _ => rfl) fun _ => ?_
 refine ite_congr rfl (fun _ => rfl) fun _ => ?_
 refine bind_congr fun g => ?_
 refine bv (fun x d => ?_) (fun d => by obtain ⟨r, d⟩ := d; cases r <;> rfl)
 unfold hiB
 refine bv (fun x c => rfl) (fun c => ?_)
 obtain ⟨r, i, j, o, ac, bc⟩ := c
 cases r with
 | some r => rfl
 | none =>
  refine bind_congr fun _ => ?_
  refine bv (fun x e => ?_) (fun d => ?_)
  ·refine ite_congr rfl (fun _ => ?_) fun _ => ?_
   ·unfold hi1
    refine bind_congr fun _ => ?_
    refine bind_congr fun y => ?_
    refine bind_congr fun c => ?_
    cases c with
    | none => rfl
    | some c =>
     refine ite_congr rfl (fun _ => ?_) fun _ => ?_
     ·refine ite_congr rfl (fun _ => rfl) fun _ => ?_
      unfold hi2
      rfl
     ·rfl
   ·rfl
  ·obtain ⟨r, d⟩ := d; cases r <;> rfl
def AfH (rk : Keyed -> Nat) (xs ys : Array Keyed) (n : Nat) (st : SortSt) (r : Option (Array Keyed)) (o : Array Keyed) (i j : Nat) (st' : SortSt) : Prop :=
 Ok st st' /\ match r with
  | some r => Res rk xs.toList ys.toList r.toList
  | none => MH rk xs.toList ys.toList o.toList.reverse i j /\ 1 <= i /\ 2 <= j /\ i <= xs.size /\ j <= ys.size /\ i + j < n
def pJ (rk : Keyed -> Nat) (xs ys : Array Keyed) (n : Nat) (st : SortSt) (r : ForInStep HG) (st' : SortSt) : Prop := match r with
 | .done e => AfH rk xs ys n st e.1 e.2.2.2.1 e.2.1 e.2.2.1 st'
 | .yield e => e.1 = none /\ AfH rk xs ys n st e.1 e.2.2.2.1 e.2.1 e.2.2.1 st'
section
variable {prog : Program} {w : World} {A : Around} {E : Value -> Shared -> Prop} {s : Shared} {kd : SortKind} {M : Keyed -> Prop} {rk : Keyed -> Nat} {xs ys o : Array Keyed} {i j mg ac bc n : Nat} {st : SortSt}
theorem fq {u : Keyed} : (o.push u).toList.reverse = u :: o.toList.reverse := by rw [dD, List.reverse_append]; rfl
theorem pZ {k : Nat} : (o ++ (xs.extract i k).reverse).toList.reverse = (xs.toList.drop i).take (k - i) ++ o.toList.reverse := by rw [Array.toList_append, List.reverse_append, Array.toList_reverse, List.reverse_reverse, fH]
theorem ex0 {k : Nat} : (xs.extract 0 k).toList = xs.toList.take k := by rw [fH, List.drop_zero, Nat.sub_zero]
theorem dw : (ff xs ys o i j).toList = xs.toList.take i ++ ys.toList.take j ++ o.toList.reverse := by unfold ff; rw [Array.toList_append, Array.toList_append, ex0, ex0, Array.toList_reverse]
theorem eS : (jA xs ys o i j).toList = ys.toList.take j ++ xs.toList.take i ++ o.toList.reverse := by unfold jA; rw [Array.toList_append, Array.toList_append, ex0, ex0, Array.toList_reverse]
theorem MH.pred_x {t : List Keyed} {xs ys : List Keyed} {u : Keyed} (h : MH rk xs ys t i j) (h1 : 1 <= i) (T : Up rk xs) (hu : xs[i - 1]? = some u) (le : ∀ v ∈ ys.take j, rk v <= rk u) : MH rk xs ys (u :: t) (i - 1) j := by
 obtain ⟨k, rfl⟩ : ∃ k, i = k + 1 := ⟨i - 1, by omega⟩
 exact h.tx T hu le
theorem MH.pred_y {t : List Keyed} {xs ys : List Keyed} {u : Keyed} (h : MH rk xs ys t i j) (h1 : 1 <= j) (T : Up rk ys) (hu : ys[j - 1]? = some u) (le : ∀ v ∈ xs.take i, rk v <= rk u) : MH rk xs ys (u :: t) i (j - 1) := (h.swap.pred_x h1 T hu le).swap
theorem fy {l : List Keyed} {k : Nat} (h : Up rk l) {u v : Keyed} (h1 : 1 <= k) (hu : l[k - 1]? = some u) (hv : v ∈ l.take k) : rk v <= rk u := by
 obtain ⟨m, rfl⟩ : ∃ m, k = m + 1 := ⟨k - 1, by omega⟩
 exact sR h hu hv
theorem rG (T : Two rk M xs.toList ys.toList) (h : MH rk xs.toList ys.toList o.toList.reverse i j) (h1 : 1 <= i) (h2 : 2 <= j) (hi : i <= xs.size) (hj : j <= ys.size) (hn : i + j <= n)
  (le : ∀ u, xs.toList[i - 1]? = some u -> ∀ v ∈ ys.toList.take j, rk v <= rk u) : wpS (model prog w) A E s (hi3 xs ys o i j mg ac bc) (pJ rk xs ys n st) st := by
 unfold hi3
 obtain ⟨x, e1, e2⟩ := aI (a := xs) (k := i - 1) (by omega)
 refine wpS_bind (bt e1 ?_)
 have m := h.pred_x h1 T.sx e2 (le x e2)
 rw [<- fq] at m
 by_cases c1 : (i - 1 == 0) = true
 ·rw [if_pos c1]
  have c1' : i - 1 = 0 := by simpa using c1
  refine wpS_pure ⟨Ok.refl _, ?_⟩
  show Res _ _ _ (ff _ _ _ _ _).toList
  rw [dw]
  exact m.fin T.sx T.sy (.inl c1')
 ·rw [if_neg c1]
  have c1' : ¬ i - 1 = 0 := by simpa using c1
  have z : AfH rk xs ys n st none (o.push x) (i - 1) j st := ⟨Ok.refl _, m, by omega, h2, by omega, hj, by omega⟩
  by_cases c2 : (decide (ac < 7) && decide (bc < 7)) = true
  ·rw [if_pos c2]; exact wpS_pure z
  ·rw [if_neg c2]; exact wpS_pure ⟨rfl, z⟩
theorem qg (O : Ask prog w A s kd M rk) (hk : kindOf st = kd) (T : Two rk M xs.toList ys.toList) (h0 : ∀ u, ys.toList[0]? = some u -> ∀ v ∈ xs.toList, rk u <= rk v) (h : MH rk xs.toList ys.toList o.toList.reverse i j) (h1 : 1 <= i) (h2 : 2 <= j) (hi : i <= xs.size) (hj : j <= ys.size) (hn : i + j <= n)
  (le : ∀ u, ys.toList[j - 1]? = some u -> ∀ v ∈ xs.toList.take i, rk v <= rk u) : wpS (model prog w) A E s (hi2 xs ys o i j mg ac bc) (pJ rk xs ys n st) st := by
 unfold hi2
 obtain ⟨y, e1, e2⟩ := aI (a := ys) (k := j - 1) (by omega)
 refine wpS_bind (bt e1 ?_)
 have m := h.pred_y (by omega) T.sy e2 (le y e2)
 rw [<- fq] at m
 by_cases c1 : (j - 1 == 1) = true
 ·rw [if_pos c1]
  have c1' : j - 1 = 1 := by simpa using c1
  refine wpS_pure ⟨Ok.refl _, ?_⟩
  show Res _ _ _ (jA _ _ _ _ _).toList
  rw [eS, c1']
  rw [c1'] at m
  exact m.fst T.sx h0
 ·rw [if_neg c1]
  have c1' : ¬ j - 1 = 1 := by simpa using c1
  obtain ⟨x, f1, f2⟩ := aI (a := xs) (k := i - 1) (by omega)
  refine wpS_bind (bt f1 ?_)
  refine wpS_bind (fU O hk (T.mx x (List.mem_of_getElem? f2)) (fun k hk' => ?_) (fun a b hab hb => ?_) (by omega) fun p hp lo hi' => ?_)
  ·obtain ⟨u, g1, g2⟩ := aI (a := ys) (k := 0 + k) (by omega)
   exact ⟨u, g1, T.my u (List.mem_of_getElem? g2)⟩
  ·obtain ⟨u, g1, g2⟩ := aI (a := ys) (k := 0 + a) (by omega)
   obtain ⟨v, k1, k2⟩ := aI (a := ys) (k := 0 + b) (by omega)
   rw [bM g1, bM k1]
   exact dA T.sy (by omega) g2 k2
  dsimp only
  have bl : ∀ v ∈ ys.toList.take p, rk v <= rk x := fun v hv => by
   obtain ⟨k, hk'⟩ := List.mem_iff_getElem?.mp hv
   have hl := (List.getElem?_eq_some_iff.mp hk').1
   rw [List.length_take] at hl
   rw [List.getElem?_take, if_pos (by omega)] at hk'
   have := lo k (by omega)
   rw [bM (x := v) (by rw [bL, Nat.zero_add]; exact hk')] at this
   exact Nat.le_of_lt (of_decide_eq_true this)
  have ab : ∀ m u, p <= m -> m < j - 1 -> ys.toList[m]? = some u -> rk x <= rk u := fun m u a1 a2 hu => by
   have := hi' m a1 a2
   rw [bM (x := u) (by rw [bL, Nat.zero_add]; exact hu)] at this
   have := of_decide_eq_false this
   omega
  have ej : p + (j - 1 - p) = j - 1 := by omega
  have m2 : MH rk xs.toList ys.toList (o.push y ++ (ys.extract p (j - 1)).reverse).toList.reverse i p := by
   rw [pZ]
   exact MH.gy T.sy (j - 1 - p) (by rw [ej]; exact m) (by rw [Array.length_toList]; omega) fun m' u a1 a2 hu v hv => Nat.le_trans (fy T.sx h1 f2 hv) (ab m' u a1 (by omega) hu)
  by_cases c2 : j - 1 - p > 0
  ·rw [if_pos c2]
   by_cases c3 : (p == 1) = true
   ·rw [if_pos c3]
    have c3' : p = 1 := by simpa using c3
    subst c3'
    refine wpS_pure ⟨Ok.refl _, ?_⟩
    show Res _ _ _ (jA _ _ _ _ _).toList
    rw [eS]
    exact m2.fst T.sx h0
   ·rw [if_neg c3]
    have c3' : ¬ p = 1 := by simpa using c3
    by_cases c4 : (p == 0) = true
    ·rw [if_pos c4]
     have c4' : p = 0 := by simpa using c4
     refine wpS_pure ⟨Ok.refl _, ?_⟩
     show Res _ _ _ (ff _ _ _ _ _).toList
     rw [dw]
     exact m2.fin T.sx T.sy (.inr c4')
    ·rw [if_neg c4]
     have c4' : ¬ p = 0 := by simpa using c4
     exact rG T m2 h1 (by omega) hi (by omega) (by omega) fun u hu v hv => by rw [f2] at hu; cases hu; exact bl v hv
  ·rw [if_neg c2]
   have c0 : p = j - 1 := by omega
   subst c0
   exact rG T m h1 (by omega) hi (by omega) (by omega) fun u hu v hv => by rw [f2] at hu; cases hu; exact bl v hv
theorem rg (O : Ask prog w A s kd M rk) (hk : kindOf st = kd) (T : Two rk M xs.toList ys.toList) (h0 : ∀ u, ys.toList[0]? = some u -> ∀ v ∈ xs.toList, rk u <= rk v) (h : MH rk xs.toList ys.toList o.toList.reverse i j) (h1 : 1 <= i) (h2 : 2 <= j) (hi : i <= xs.size) (hj : j <= ys.size) (hn : i + j <= n) :
  wpS (model prog w) A E s (hi1 xs ys o i j mg ac bc) (pJ rk xs ys n st) st := by
 unfold hi1
 rw [gj]
 refine wpS_bind (wpS_modify ?_)
 generalize hst : SortSt.mk' (kindOf st) (arrOf st) (pendingOf st) mg (failedOf st) = st1
 have ok1 : Ok st st1 := by rw [<- hst]; exact ⟨rfl, rfl, rfl, rfl⟩
 have hk1 : kindOf st1 = kd := ok1.kd.trans hk
 obtain ⟨y, e1, e2⟩ := aI (a := ys) (k := j - 1) (by omega)
 refine wpS_bind (bt e1 ?_)
 have lift : ∀ r st', pJ rk xs ys n st1 r st' -> pJ rk xs ys n st r st' := fun r st' z => by
  cases r with
  | done e => exact ⟨ok1.trans z.1, z.2⟩
  | yield e => exact ⟨z.1, ok1.trans z.2.1, z.2.2⟩
 refine wpS_bind (fU O hk1 (T.my y (List.mem_of_getElem? e2)) (fun k hk' => ?_) (fun a b hab hb => ?_) (by omega) fun p hp lo hi' => ?_)
 ·obtain ⟨u, g1, g2⟩ := aI (a := xs) (k := 0 + k) (by omega)
  exact ⟨u, g1, T.mx u (List.mem_of_getElem? g2)⟩
 ·obtain ⟨u, g1, g2⟩ := aI (a := xs) (k := 0 + a) (by omega)
  obtain ⟨v, k1, k2⟩ := aI (a := xs) (k := 0 + b) (by omega)
  rw [bM g1, bM k1]
  exact dA T.sx (by omega) g2 k2
 dsimp only
 have bl : ∀ v ∈ xs.toList.take p, rk v <= rk y := fun v hv => by
  obtain ⟨k, hk'⟩ := List.mem_iff_getElem?.mp hv
  have hl := (List.getElem?_eq_some_iff.mp hk').1
  rw [List.length_take] at hl
  rw [List.getElem?_take, if_pos (by omega)] at hk'
  have := lo k (by omega)
  rw [bM (x := v) (by rw [bL, Nat.zero_add]; exact hk')] at this
  exact of_decide_eq_true this
 have ab : ∀ m u, p <= m -> m < i -> xs.toList[m]? = some u -> rk y <= rk u := fun m u a1 a2 hu => by
  have := hi' m a1 a2
  rw [bM (x := u) (by rw [bL, Nat.zero_add]; exact hu)] at this
  have := of_decide_eq_false this
  omega
 have ei : p + (i - p) = i := by omega
 have m2 : MH rk xs.toList ys.toList (o ++ (xs.extract p i).reverse).toList.reverse p j := by
  rw [pZ]
  exact MH.gx T.sx (i - p) _ (by rw [ei]; exact h) (by rw [Array.length_toList]; omega) fun m' u a1 a2 hu v hv => Nat.le_trans (fy T.sy (by omega) e2 hv) (ab m' u a1 (by omega) hu)
 by_cases c2 : i - p > 0
 ·rw [if_pos c2]
  by_cases c3 : (p == 0) = true
  ·rw [if_pos c3]
   have c3' : p = 0 := by simpa using c3
   refine wpS_pure ⟨ok1, ?_⟩
   show Res _ _ _ (ff _ _ _ _ _).toList
   rw [dw]
   exact m2.fin T.sx T.sy (.inl c3')
  ·rw [if_neg c3]
   have c3' : ¬ p = 0 := by simpa using c3
   exact wpS_mono (qg O hk1 T h0 m2 (by omega) h2 (by omega) hj (by omega) fun u hu v hv => by rw [e2] at hu; cases hu; exact bl v hv) lift
 ·rw [if_neg c2]
  have c0 : p = i := by omega
  subst c0
  exact wpS_mono (qg O hk1 T h0 h h1 h2 hi hj hn fun u hu v hv => by rw [e2] at hu; cases hu; exact bl v hv) lift
def wO (rk : Keyed -> Nat) (xs ys : Array Keyed) (n : Nat) (st : SortSt) (r : ForInStep HI) (st' : SortSt) : Prop := match r with
 | .done e => AfH rk xs ys n st e.1 e.2.2.2.1 e.2.1 e.2.2.1 st'
 | .yield e => e.1 = none /\ AfH rk xs ys n st e.1 e.2.2.2.1 e.2.1 e.2.2.1 st'
theorem uB (O : Ask prog w A s kd M rk) (hk : kindOf st = kd) (T : Two rk M xs.toList ys.toList) (h0 : ∀ u, ys.toList[0]? = some u -> ∀ v ∈ xs.toList, rk u <= rk v) (h : MH rk xs.toList ys.toList o.toList.reverse i j) (h1 : 1 <= i) (h2 : 2 <= j) (hi : i <= xs.size) (hj : j <= ys.size) (hn : i + j <= n) :
  wpS (model prog w) A E s (hiA xs ys mg (none, i, j, o, ac, bc)) (wO rk xs ys n st) st := by
 unfold hiA
 dsimp only
 obtain ⟨y, e1, e2⟩ := aI (a := ys) (k := j - 1) (by omega)
 obtain ⟨x, f1, f2⟩ := aI (a := xs) (k := i - 1) (by omega)
 refine wpS_bind (bt e1 (wpS_bind (bt f1 (wpS_bind (lJ O hk (T.my y (List.mem_of_getElem? e2)) (T.mx x (List.mem_of_getElem? f2)) ?_)))))
 dsimp only
 by_cases c0 : rk y < rk x
 ·rw [decide_eq_true c0, if_pos rfl]
  refine wpS_bind (bt f1 ?_)
  have m := h.pred_x h1 T.sx f2 fun v hv => Nat.le_trans (fy T.sy (by omega) e2 hv) (Nat.le_of_lt c0)
  rw [<- fq] at m
  by_cases c1 : (i - 1 == 0) = true
  ·rw [if_pos c1]
   have c1' : i - 1 = 0 := by simpa using c1
   refine wpS_pure ⟨Ok.refl _, ?_⟩
   show Res _ _ _ (ff _ _ _ _ _).toList
   rw [dw]
   exact m.fin T.sx T.sy (.inl c1')
  ·rw [if_neg c1]
   have c1' : ¬ i - 1 = 0 := by simpa using c1
   have z : AfH rk xs ys n st none (o.push x) (i - 1) j st := ⟨Ok.refl _, m, by omega, h2, by omega, hj, by omega⟩
   by_cases c2 : ac + 1 >= mg
   ·rw [if_pos c2]; exact wpS_pure z
   ·rw [if_neg c2]; exact wpS_pure ⟨rfl, z⟩
 ·rw [decide_eq_false c0, if_neg (by decide)]
  refine wpS_bind (bt e1 ?_)
  have m := h.pred_y (by omega) T.sy e2 fun v hv => Nat.le_trans (fy T.sx h1 f2 hv) (Nat.le_of_not_lt c0)
  rw [<- fq] at m
  by_cases c1 : (j - 1 == 1) = true
  ·rw [if_pos c1]
   have c1' : j - 1 = 1 := by simpa using c1
   refine wpS_pure ⟨Ok.refl _, ?_⟩
   show Res _ _ _ (jA _ _ _ _ _).toList
   rw [eS, c1']
   rw [c1'] at m
   exact m.fst T.sx h0
  ·rw [if_neg c1]
   have c1' : ¬ j - 1 = 1 := by simpa using c1
   have z : AfH rk xs ys n st none (o.push y) i (j - 1) st := ⟨Ok.refl _, m, h1, by omega, hi, by omega, by omega⟩
   by_cases c2 : bc + 1 >= mg
   ·rw [if_pos c2]; exact wpS_pure z
   ·rw [if_neg c2]; exact wpS_pure ⟨rfl, z⟩
def wS (rk : Keyed -> Nat) (xs ys : Array Keyed) (n : Nat) (st : SortSt) (r : ForInStep HQ) (st' : SortSt) : Prop := match r with
 | .done e => e.1 ≠ none /\ AfH rk xs ys n st e.1 e.2.2.2.1 e.2.1 e.2.2.1 st'
 | .yield e => e.1 = none /\ AfH rk xs ys n st e.1 e.2.2.2.1 e.2.1 e.2.2.1 st'
structure HeH (rk : Keyed -> Nat) (xs ys o : Array Keyed) (i j n : Nat) (st st' : SortSt) : Prop where
 ok : Ok st st'
 m : MH rk xs.toList ys.toList o.toList.reverse i j
 h1 : 1 <= i
 h2 : 2 <= j
 hi : i <= xs.size
 hj : j <= ys.size
 hn : i + j <= n
theorem uz (O : Ask prog w A s kd M rk) (hk : kindOf st = kd) (T : Two rk M xs.toList ys.toList) (h0 : ∀ u, ys.toList[0]? = some u -> ∀ v ∈ xs.toList, rk u <= rk v) (h : HeH rk xs ys o i j n st st) (nn : n <= xs.size + ys.size) :
  wpS (model prog w) A E s (hiB xs ys (none, i, j, o, mg)) (wS rk xs ys n st) st := by
 unfold hiB
 dsimp only
 refine wpS_bind (wpS_mono (wpS_forRange (I := fun x c st' => c.1 = none /\ HeH rk xs ys c.2.2.2.1 c.2.1 c.2.2.1 (n - x) st st' /\ x <= n)
  (Q := fun c st' => AfH rk xs ys n st c.1 c.2.2.2.1 c.2.1 c.2.2.1 st') ?s1 ?f1 ⟨rfl, h, Nat.zero_le _⟩) ?p1)
 case f1 =>
  rintro ⟨r, i, j, o, ac, bc⟩ st' ⟨rfl, z, _⟩
  have := z.hn; have := z.h1
  dsimp only at *
  omega
 case s1 =>
  rintro x ⟨r, i, j, o, ac, bc⟩ st' _ hx ⟨e, z, hx2⟩
  obtain rfl : r = none := e
  refine wpS_mono (uB (n := n - x) O (z.ok.kd.trans hk) T h0 z.m z.h1 z.h2 z.hi z.hj z.hn) fun r st2 y => ?_
  cases r with
  | done e =>
   obtain ⟨r, i, j, o, ac, bc⟩ := e
   refine ⟨z.ok.trans y.1, ?_⟩
   cases r with
   | some r => exact y.2
   | none =>
    obtain ⟨_, b0, b1, b2, b3, b4, b5⟩ := y
    exact ⟨b0, b1, b2, b3, b4, by dsimp only at b5 ⊢; omega⟩
  | yield e =>
   obtain ⟨r, i, j, o, ac, bc⟩ := e
   obtain ⟨e, ok2, y⟩ := y
   obtain rfl : r = none := e
   obtain ⟨b0, b1, b2, b3, b4, b5⟩ := y
   exact ⟨rfl, ⟨z.ok.trans ok2, b0, b1, b2, b3, b4, by dsimp only at b5 ⊢; omega⟩, by dsimp only at b1 b2 b5; omega⟩
 case p1 =>
  rintro ⟨r, i, j, o, ac, bc⟩ st1 ⟨ok1, z⟩
  cases r with
  | some r => exact wpS_pure ⟨by simp, ok1, z⟩
  | none =>
   obtain ⟨b0, b1, b2, b3, b4, b5⟩ := z
   dsimp only at b0 b1 b2 b3 b4 b5 ⊢
   refine wpS_bind (wpS_lift (wpAny_rule ⟨rfl, ?_⟩))
   refine wpS_bind (wpS_mono (wpS_forRange (I := fun x c st' => c.1 = none /\ HeH rk xs ys c.2.2.2.1 c.2.1 c.2.2.1 (n - 1 - x) st st' /\ x + 1 <= n)
    (Q := fun c st' => AfH rk xs ys n st c.1 c.2.2.2.1 c.2.1 c.2.2.1 st') ?s2 ?f2 ⟨rfl, ⟨ok1, b0, b1, b2, b3, b4, by dsimp only; omega⟩, by omega⟩) ?p2)
   case f2 =>
    rintro ⟨r, i, j, o, mg, ac, bc⟩ st' ⟨rfl, z, _⟩
    have := z.hn; have := z.h1
    dsimp only at *
    omega
   case s2 =>
    rintro x ⟨r, i, j, o, mg, ac, bc⟩ st' _ hx ⟨e, z, hx2⟩
    obtain rfl : r = none := e
    have fin : ∀ r st2, pJ rk xs ys (n - 1 - x) st' r st2 -> (match r with | .done c' => AfH rk xs ys n st c'.1 c'.2.2.2.1 c'.2.1 c'.2.2.1 st2 | .yield c' => c'.1 = none /\ HeH rk xs ys c'.2.2.2.1 c'.2.1 c'.2.2.1 (n - 1 - (x + 1)) st st2 /\ x + 1 + 1 <= n) := fun r st2 y => by
     cases r with
     | done e =>
      obtain ⟨r, i, j, o, mg, ac, bc⟩ := e
      refine ⟨z.ok.trans y.1, ?_⟩
      cases r with
      | some r => exact y.2
      | none =>
       obtain ⟨_, b0, b1, b2, b3, b4, b5⟩ := y
       exact ⟨b0, b1, b2, b3, b4, by dsimp only at b5 ⊢; omega⟩
     | yield e =>
      obtain ⟨r, i, j, o, mg, ac, bc⟩ := e
      obtain ⟨e, ok2, y⟩ := y
      obtain rfl : r = none := e
      obtain ⟨b0, b1, b2, b3, b4, b5⟩ := y
      exact ⟨rfl, ⟨z.ok.trans ok2, b0, b1, b2, b3, b4, by dsimp only at b5 ⊢; omega⟩, by dsimp only at b1 b2 b5; omega⟩
    dsimp only
    by_cases c : mg > 1
    ·rw [if_pos c]; exact wpS_mono (rg (n := n - 1 - x) O (z.ok.kd.trans hk) T h0 z.m z.h1 z.h2 z.hi z.hj z.hn) fun r st2 y => by have := fin r st2 y; cases r <;> exact this
    ·rw [if_neg c]; exact wpS_mono (rg (n := n - 1 - x) O (z.ok.kd.trans hk) T h0 z.m z.h1 z.h2 z.hi z.hj z.hn) fun r st2 y => by have := fin r st2 y; cases r <;> exact this
   case p2 =>
    rintro ⟨r, i, j, o, mg, ac, bc⟩ st2 ⟨ok2, z⟩
    cases r with
    | some r => exact wpS_pure ⟨by simp, ok2, z⟩
    | none =>
     dsimp only
     rw [gj]
     exact wpS_bind (wpS_modify (wpS_pure ⟨rfl, ok2.trans ⟨rfl, rfl, rfl, rfl⟩, z⟩))
theorem uA {Q : Array Keyed -> SortSt -> Prop} (O : Ask prog w A s kd M rk) (hk : kindOf st = kd) (T : Two rk M xs.toList ys.toList) (la : ∀ u, xs.toList[xs.size - 1]? = some u -> ∀ v ∈ ys.toList, rk v <= rk u) (h0 : ∀ u, ys.toList[0]? = some u -> ∀ v ∈ xs.toList, rk u <= rk v)
  (q : ∀ r st', Ok st st' -> Res rk xs.toList ys.toList r.toList -> Q r st') : wpS (model prog w) A E s (mHi xs ys) Q st := by
 rw [uH]
 refine wpS_bind (wpS_lift (wpAny_rule ⟨rfl, ?_⟩))
 have lx : 0 < xs.size := by have := List.length_pos_iff.mpr T.nx; rwa [Array.length_toList] at this
 have ly : 0 < ys.size := by have := List.length_pos_iff.mpr T.ny; rwa [Array.length_toList] at this
 obtain ⟨x, e1, e2⟩ := aI (a := xs) (k := xs.size - 1) (by omega)
 refine wpS_bind (bt e1 ?_)
 have m : MH rk xs.toList ys.toList (#[x] : Array Keyed).toList.reverse (xs.size - 1) ys.size := by
  refine ⟨?_, List.pairwise_singleton _ _, fun u hu v hv => ?_, fun u hu v hv => ?_⟩
  ·rw [bH e2, List.drop_eq_nil_of_le (by rw [Array.length_toList]; omega), List.drop_eq_nil_of_le (by rw [Array.length_toList]; omega)]
   exact List.Perm.refl _
  ·rw [show u = x from List.mem_singleton.mp hu]
   obtain ⟨k, hk'⟩ := List.mem_iff_getElem?.mp hv
   have hl := (List.getElem?_eq_some_iff.mp hk').1
   rw [List.length_take] at hl
   rw [List.getElem?_take, if_pos (by omega)] at hk'
   exact dA T.sx (by omega) hk' e2
  ·rw [show u = x from List.mem_singleton.mp hu]
   exact la x e2 v (List.mem_of_mem_take hv)
 by_cases c1 : (xs.size - 1 == 0) = true
 ·rw [if_pos c1]
  have c1' : xs.size - 1 = 0 := by simpa using c1
  refine wpS_pure (q _ _ (Ok.refl _) ?_)
  rw [dw]
  exact m.fin T.sx T.sy (.inl c1')
 ·rw [if_neg c1]
  have c1' : ¬ xs.size - 1 = 0 := by simpa using c1
  by_cases c2 : (ys.size == 1) = true
  ·rw [if_pos c2]
   have c2' : ys.size = 1 := by simpa using c2
   refine wpS_pure (q _ _ (Ok.refl _) ?_)
   rw [eS, c2']
   rw [c2'] at m
   exact m.fst T.sx h0
  ·rw [if_neg c2]
   have c2' : ¬ ys.size = 1 := by simpa using c2
   refine wpS_bind (wpS_get ?_)
   refine wpS_bind (wpS_mono (wpS_forRange (I := fun x c st' => c.1 = none /\ HeH rk xs ys c.2.2.2.1 c.2.1 c.2.2.1 (xs.size + ys.size - 1 - x) st st')
    (Q := fun c st' => ∃ r, c.1 = some r /\ Ok st st' /\ Res rk xs.toList ys.toList r.toList) ?s1 ?f1 ⟨rfl, Ok.refl _, m, by dsimp only; omega, by dsimp only; omega, by dsimp only; omega, by dsimp only; omega, by dsimp only; omega⟩) ?p1)
   case f1 =>
    rintro ⟨r, i, j, o, mg⟩ st' ⟨rfl, z⟩
    have := z.hn; have := z.h1
    dsimp only at *
    omega
   case s1 =>
    rintro x ⟨r, i, j, o, mg⟩ st' _ hx ⟨e, z⟩
    obtain rfl : r = none := e
    refine wpS_mono (uz (n := xs.size + ys.size - 1 - x) O (z.ok.kd.trans hk) T h0 ⟨Ok.refl _, z.m, z.h1, z.h2, z.hi, z.hj, z.hn⟩ (by omega)) fun r st2 y => ?_
    cases r with
    | done e =>
     obtain ⟨r, i, j, o, mg⟩ := e
     obtain ⟨ne, ok2, y⟩ := y
     cases r with
     | some r => exact ⟨r, rfl, z.ok.trans ok2, y⟩
     | none => exact absurd rfl ne
    | yield e =>
     obtain ⟨r, i, j, o, mg⟩ := e
     obtain ⟨e, ok2, y⟩ := y
     obtain rfl : r = none := e
     obtain ⟨b0, b1, b2, b3, b4, b5⟩ := y
     exact ⟨rfl, z.ok.trans ok2, b0, b1, b2, b3, b4, by dsimp only at b5 ⊢; omega⟩
   case p1 =>
    rintro ⟨r, i, j, o, mg⟩ st' ⟨r', e, ok, z⟩
    obtain rfl : r = some r' := e
    exact wpS_pure (q _ _ ok z)
end
end L2.TS
namespace L2.TS
open PySem PySem.Spec PyProof.Rows
theorem oG (b : Nat) : ∀ (l : List Keyed) (n : Nat) (a : Array Keyed), b + n + l.length <= a.size -> ((l.zipIdx n).foldl (fun a p => a.setIfInBounds (b + p.2) p.1) a).toList = a.toList.take (b + n) ++ l ++ a.toList.drop (b + n + l.length)
 | [], n, a, _ => by simp
 | x :: l, n, a, h => by
  rw [List.length_cons] at h
  rw [List.zipIdx_cons, List.foldl_cons, oG b l (n + 1) _ (by rw [Array.size_setIfInBounds]; omega)]
  have hl : b + n < a.toList.length := by rw [Array.length_toList]; omega
  rw [Array.toList_setIfInBounds, List.length_cons]
  have e1 : (a.toList.set (b + n) x).take (b + (n + 1)) = a.toList.take (b + n) ++ [x] := by
   rw [show b + (n + 1) = b + n + 1 by omega, List.take_add_one, List.take_set_of_le (Nat.le_refl _), List.getElem?_set_self hl]; rfl
  have e2 : (a.toList.set (b + n) x).drop (b + (n + 1) + l.length) = a.toList.drop (b + n + (l.length + 1)) := by
   rw [List.drop_set_of_lt (by omega)]; congr 1; omega
  rw [e1, e2]
  simp
theorem uU (i : Nat) : mergeAt' i = (do
  let z <- get
  let (some (sa, na, pw), some (sb, nb, _)) := ((pendingOf z)[i]?, (pendingOf z)[i + 1]?) | unsupported "internal:list.sort.pending"
  set (setPending z (((pendingOf z).setIfInBounds i (sa, na + nb, pw)).eraseIdxIfInBounds (i + 1)))
  let some k <- gal false (<- elem' (arrOf z) sb) (arrOf z) sa na 0 | return false
  if na - k == 0 then return true
  let some m <- gal true (<- elem' (arrOf z) (sa + k + (na - k) - 1)) (arrOf z) sb nb (nb - 1) | return false
  if m == 0 then return true
  let l <- if na - k <= m then mLo ((arrOf z).extract (sa + k) sb) ((arrOf z).extract sb (sb + m)) else mHi ((arrOf z).extract (sa + k) sb) ((arrOf z).extract sb (sb + m))
  modify fun y => setArr y (l.toList.zipIdx.foldl (fun a (p, j) => a.setIfInBounds (sa + k + j) p) (arrOf y))
  return (failedOf (<- get)).isNone) := rfl
section
variable {prog : Program} {w : World} {A : Around} {E : Value -> Shared -> Prop} {s : Shared} {kd : SortKind} {M : Keyed -> Prop} {rk : Keyed -> Nat} {st : SortSt} {i : Nat}
theorem tN {σ : Type} {Mo : Model} {x : σ} {Q : PUnit -> σ -> Prop} {st : σ} (h : Q ⟨⟩ x) : wpS Mo A E s (set x : StateT σ Sem PUnit) Q st := by
 unfold wpS; rw [StateT.run_set]; exact wpAny_pure ⟨rfl, h⟩
theorem jI {a b : List Keyed} (ha : Up rk a) (hb : Up rk b) (h : ∀ u ∈ a, ∀ v ∈ b, rk u <= rk v) : Up rk (a ++ b) := List.pairwise_append.mpr ⟨ha, hb, h⟩
theorem lc (a b : List Keyed) (n : Nat) : (a ++ b).drop (a.length + n) = b.drop n := by rw [<- List.drop_drop, List.drop_left' rfl]
theorem dE {l : List Keyed} {u : Keyed} (h : u ∈ l) : ∃ t, t < l.length /\ l[t]? = some u := by
 obtain ⟨t, ht⟩ := List.mem_iff_getElem?.mp h
 exact ⟨t, (List.getElem?_eq_some_iff.mp ht).1, ht⟩
theorem vd {Q : Bool -> SortSt -> Prop} {P X Y S : List Keyed} {pw pv : Nat} (O : Ask prog w A s kd M rk) (hk : kindOf st = kd) (hf : failedOf st = none) (ha : (arrOf st).toList = P ++ (X ++ (Y ++ S))) (hm : ∀ u ∈ (arrOf st).toList, M u)
  (sx : Up rk X) (sy : Up rk Y) (nx : X ≠ []) (ny : Y ≠ []) (p1 : (pendingOf st)[i]? = some (P.length, X.length, pw)) (p2 : (pendingOf st)[i + 1]? = some (P.length + X.length, Y.length, pv))
  (q : ∀ Z st', kindOf st' = kd -> failedOf st' = none -> pendingOf st' = ((pendingOf st).setIfInBounds i (P.length, X.length + Y.length, pw)).eraseIdxIfInBounds (i + 1) -> (arrOf st').toList = P ++ (Z ++ S) -> Z.Perm (X ++ Y) -> Up rk Z -> Q true st') :
  wpS (model prog w) A E s (mergeAt' i) Q st := by
 rw [uU]
 refine wpS_bind (wpS_get ?_)
 rw [p1, p2]
 dsimp only
 refine wpS_bind (tN ?_)
 generalize hst : setPending st (((pendingOf st).setIfInBounds i (P.length, X.length + Y.length, pw)).eraseIdxIfInBounds (i + 1)) = st1
 have ar1 : arrOf st1 = arrOf st := by rw [<- hst]
 have kd1 : kindOf st1 = kd := by rw [<- hst]; exact hk
 have fa1 : failedOf st1 = none := by rw [<- hst]; exact hf
 have pe1 : pendingOf st1 = ((pendingOf st).setIfInBounds i (P.length, X.length + Y.length, pw)).eraseIdxIfInBounds (i + 1) := by rw [<- hst]
 have lX : 0 < X.length := List.length_pos_iff.mpr nx
 have lY : 0 < Y.length := List.length_pos_iff.mpr ny
 have aX : ∀ t, t < X.length -> (arrOf st)[P.length + t]? = X[t]? := fun t ht => by
  rw [bL, ha, List.getElem?_append_right (by omega), Nat.add_sub_cancel_left, List.getElem?_append_left ht]
 have aY : ∀ t, t < Y.length -> (arrOf st)[P.length + X.length + t]? = Y[t]? := fun t ht => by
  rw [bL, ha, Nat.add_assoc, List.getElem?_append_right (by omega), Nat.add_sub_cancel_left, List.getElem?_append_right (by omega), Nat.add_sub_cancel_left, List.getElem?_append_left ht]
 have mX : ∀ u ∈ X, M u := fun u hu => hm u (by rw [ha]; exact List.mem_append_right _ (List.mem_append_left _ hu))
 have mY : ∀ u ∈ Y, M u := fun u hu => hm u (by rw [ha]; exact List.mem_append_right _ (List.mem_append_right _ (List.mem_append_left _ hu)))
 obtain ⟨y0, hy0⟩ : ∃ y0, Y[0]? = some y0 := ⟨Y[0], List.getElem?_eq_getElem lY⟩
 refine wpS_bind (bt (x := y0) (by rw [<- Nat.add_zero (P.length + X.length), aY 0 lY]; exact hy0) ?_)
 refine wpS_bind (fU O kd1 (mY y0 (List.mem_of_getElem? hy0)) (fun t ht => ?_) (fun a b hab hb => ?_) lX fun k hkX lo hi => ?_)
 ·rw [aX t ht]; exact ⟨X[t], List.getElem?_eq_getElem ht, mX _ (List.getElem_mem ht)⟩
 ·have e1 : X[a]? = some X[a] := List.getElem?_eq_getElem (by omega)
  have e2 : X[b]? = some X[b] := List.getElem?_eq_getElem hb
  rw [bM ((aX a (by omega)).trans e1), bM ((aX b hb).trans e2)]
  exact dA sx hab e1 e2
 dsimp only
 have lo' : ∀ t u, t < k -> X[t]? = some u -> rk u <= rk y0 := fun t u ht hu => by
  have := lo t ht
  rw [bM ((aX t (by omega)).trans hu)] at this
  exact of_decide_eq_true this
 have hi' : ∀ t u, k <= t -> X[t]? = some u -> rk y0 < rk u := fun t u ht hu => by
  have hl := (List.getElem?_eq_some_iff.mp hu).1
  have := hi t ht hl
  rw [bM ((aX t hl).trans hu)] at this
  have := of_decide_eq_false this
  omega
 have y0le : ∀ v ∈ Y, rk y0 <= rk v := fun v hv => eU sy hy0 (by rw [List.drop_zero]; exact hv)
 by_cases c1 : (X.length - k == 0) = true
 ·rw [if_pos c1]
  have c1' : X.length - k = 0 := by simpa using c1
  refine wpS_pure (q (X ++ Y) st1 kd1 fa1 pe1 (by rw [ar1, ha, List.append_assoc]) (List.Perm.refl _) (jI sx sy fun u hu v hv => ?_))
  obtain ⟨t, ht, hu⟩ := dE hu
  exact Nat.le_trans (lo' t u (by omega) hu) (y0le v hv)
 rw [if_neg c1]
 have c1' : ¬ X.length - k = 0 := by simpa using c1
 obtain ⟨xl, hxl⟩ : ∃ xl, X[X.length - 1]? = some xl := ⟨X[X.length - 1], List.getElem?_eq_getElem (by omega)⟩
 have leX : ∀ u ∈ X, rk u <= rk xl := fun u hu => by
  obtain ⟨t, ht, hu⟩ := dE hu
  exact dA sx (by omega) hu hxl
 refine wpS_bind (bt (x := xl) (by rw [show P.length + k + (X.length - k) - 1 = P.length + (X.length - 1) by omega, aX _ (by omega)]; exact hxl) ?_)
 refine wpS_bind (fU O kd1 (mX xl (List.mem_of_getElem? hxl)) (fun t ht => ?_) (fun a b hab hb => ?_) (by omega) fun m hmY lo2 hi2 => ?_)
 ·rw [aY t ht]; exact ⟨Y[t], List.getElem?_eq_getElem ht, mY _ (List.getElem_mem ht)⟩
 ·have e1 : Y[a]? = some Y[a] := List.getElem?_eq_getElem (by omega)
  have e2 : Y[b]? = some Y[b] := List.getElem?_eq_getElem hb
  rw [bM ((aY a (by omega)).trans e1), bM ((aY b hb).trans e2)]
  exact dA sy hab e1 e2
 dsimp only
 have lo2' : ∀ t u, t < m -> Y[t]? = some u -> rk u < rk xl := fun t u ht hu => by
  have := lo2 t ht
  rw [bM ((aY t (by omega)).trans hu)] at this
  exact of_decide_eq_true this
 have hi2' : ∀ t u, m <= t -> Y[t]? = some u -> rk xl <= rk u := fun t u ht hu => by
  have hl := (List.getElem?_eq_some_iff.mp hu).1
  have := hi2 t ht hl
  rw [bM ((aY t hl).trans hu)] at this
  have := of_decide_eq_false this
  omega
 by_cases c2 : (m == 0) = true
 ·rw [if_pos c2]
  have c2' : m = 0 := by simpa using c2
  refine wpS_pure (q (X ++ Y) st1 kd1 fa1 pe1 (by rw [ar1, ha, List.append_assoc]) (List.Perm.refl _) (jI sx sy fun u hu v hv => ?_))
  obtain ⟨t, ht, hv⟩ := dE hv
  exact Nat.le_trans (leX u hu) (hi2' t v (by omega) hv)
 rw [if_neg c2]
 have c2' : ¬ m = 0 := by simpa using c2
 have eX : ((arrOf st).extract (P.length + k) (P.length + X.length)).toList = X.drop k := by
  rw [fH, ha, List.drop_append, List.drop_eq_nil_of_le (by omega), List.nil_append, Nat.add_sub_cancel_left, List.drop_append_of_le_length (by omega), List.take_append_of_le_length (by rw [List.length_drop]; omega), List.take_of_length_le (by rw [List.length_drop]; omega)]
 have eY : ((arrOf st).extract (P.length + X.length) (P.length + X.length + m)).toList = Y.take m := by
  rw [fH, ha, Nat.add_sub_cancel_left, <- List.drop_drop, List.drop_left' rfl, List.drop_left' rfl, List.take_append_of_le_length hmY]
 have zX : ((arrOf st).extract (P.length + k) (P.length + X.length)).size = X.length - k := by rw [<- Array.length_toList, eX, List.length_drop]
 generalize (arrOf st).extract (P.length + k) (P.length + X.length) = ax at eX zX
 generalize (arrOf st).extract (P.length + X.length) (P.length + X.length + m) = ay at eY
 have T : Two rk M ax.toList ay.toList := by
  rw [eX, eY]
  refine ⟨sx.sublist (List.drop_sublist _ _), sy.sublist (List.take_sublist _ _), fun u hu => mX u (List.mem_of_mem_drop hu), fun u hu => mY u (List.mem_of_mem_take hu), fun z => ?_, fun z => ?_⟩
  ·have := congrArg List.length z; rw [List.length_drop, List.length_nil] at this; omega
  ·have := congrArg List.length z; rw [List.length_take, List.length_nil] at this; omega
 have la : ∀ u, ax.toList[ax.size - 1]? = some u -> ∀ v ∈ ay.toList, rk v <= rk u := fun u hu v hv => by
  rw [eX, zX, List.getElem?_drop, show k + (X.length - k - 1) = X.length - 1 by omega, hxl] at hu
  cases hu
  rw [eY] at hv
  obtain ⟨t, ht, hv⟩ := dE hv
  rw [List.length_take] at ht
  rw [List.getElem?_take, if_pos (by omega)] at hv
  exact Nat.le_of_lt (lo2' t v (by omega) hv)
 have h0 : ∀ u, ay.toList[0]? = some u -> ∀ v ∈ ax.toList, rk u <= rk v := fun u hu v hv => by
  rw [eY, List.getElem?_take, if_pos (by omega), hy0] at hu
  cases hu
  rw [eX] at hv
  obtain ⟨t, ht, hv⟩ := dE hv
  rw [List.getElem?_drop] at hv
  exact Nat.le_of_lt (hi' _ v (by omega) hv)
 have fin : ∀ (l : Array Keyed) (st2 : SortSt), Ok st1 st2 -> Res rk ax.toList ay.toList l.toList -> wpS (model prog w) A E s (do
   modify fun y => setArr y (l.toList.zipIdx.foldl (fun a (p, j) => a.setIfInBounds (P.length + k + j) p) (arrOf y))
   return (failedOf (<- get)).isNone) Q st2 := fun l st2 ok ⟨pm, up⟩ => by
  refine wpS_bind (wpS_modify (wpS_bind (wpS_get ?_)))
  have hfa : failedOf st2 = none := ok.fa.trans fa1
  have e0 : (failedOf (setArr st2 (l.toList.zipIdx.foldl (fun a (p, j) => a.setIfInBounds (P.length + k + j) p) (arrOf st2)))).isNone = true := by
   show (failedOf st2).isNone = true
   rw [hfa]; rfl
  rw [e0]
  rw [eX, eY] at pm
  have ll : l.toList.length = X.length - k + m := by rw [pm.length_eq, List.length_append, List.length_drop, List.length_take]; omega
  have es := oG (P.length + k) l.toList 0 (arrOf st2) (by
   rw [ll, ok.ar, ar1, <- Array.length_toList, ha]
   simp only [List.length_append]
   omega)
  have hml : ∀ u ∈ l.toList, u ∈ X.drop k \/ u ∈ Y.take m := fun u hu => List.mem_append.mp (pm.mem_iff.mp hu)
  refine wpS_pure (q (X.take k ++ (l.toList ++ Y.drop m)) _ (ok.kd.trans kd1) hfa (ok.pe.trans pe1) ?_ ?_ ?_)
  ·refine Eq.trans es ?_
   rw [ok.ar, ar1, ha, ll, Nat.add_zero, show P.length + k + (X.length - k + m) = P.length + (X.length + m) by omega, lc, lc, List.drop_append_of_le_length hmY, List.take_append, List.take_of_length_le (by omega), Nat.add_sub_cancel_left, List.take_append_of_le_length hkX]
   simp
  ·refine ((List.Perm.append_left _ (pm.append_right _))).trans ?_
   rw [List.append_assoc, List.take_append_drop, <- List.append_assoc, List.take_append_drop]
  ·refine jI (sx.sublist (List.take_sublist _ _)) (jI up (sy.sublist (List.drop_sublist _ _)) fun u hu v hv => ?_) fun u hu v hv => ?_
   ·rcases hml u hu with hu | hu
    ·obtain ⟨t, ht, hv⟩ := dE hv
     rw [List.getElem?_drop] at hv
     exact Nat.le_trans (leX u (List.mem_of_mem_drop hu)) (hi2' _ v (by omega) hv)
    ·have p := sy
     rw [<- List.take_append_drop m Y] at p
     exact (List.pairwise_append.mp p).2.2 u hu v hv
   ·obtain ⟨t, ht, hu⟩ := dE hu
    rw [List.length_take] at ht
    rw [List.getElem?_take, if_pos (by omega)] at hu
    have huy := lo' t u (by omega) hu
    have toY : ∀ v ∈ Y, rk u <= rk v := fun v hv => Nat.le_trans huy (y0le v hv)
    rcases List.mem_append.mp hv with hv | hv
    ·rcases hml v hv with hv | hv
     ·obtain ⟨t2, ht2, hv⟩ := dE hv
      rw [List.getElem?_drop] at hv
      exact dA sx (by omega) hu hv
     ·exact toY v (List.mem_of_mem_take hv)
    ·exact toY v (List.mem_of_mem_drop hv)
 by_cases c3 : X.length - k <= m
 ·rw [if_pos c3]
  exact wpS_bind (uM O kd1 T la h0 fin)
 ·rw [if_neg c3]
  exact wpS_bind (uA O kd1 T la h0 fin)
end
end L2.TS
namespace L2.TS
open PySem PySem.Spec PyProof.Rows
structure SB (kd : SortKind) (a0 : List Keyed) (pe : Array (Nat × Nat × Nat)) (st : SortSt) : Prop where
 pm : (arrOf st).toList.Perm a0
 kd : kindOf st = kd
 fa : failedOf st = none
 pe : pendingOf st = pe
structure Set0 (M : Keyed -> Prop) (rk : Keyed -> Nat) (a0 : List Keyed) : Prop where
 m : ∀ u ∈ a0, M u
theorem qx {α : Type} {a b : Array α} (h : a.Perm b) : a.toList.Perm b.toList := Array.perm_iff_toList_perm.mp h
def SU (rk : Keyed -> Nat) (a : Array Keyed) (lo k : Nat) : Prop := ∀ i j, i <= j -> j < k -> R rk a (lo + i) <= R rk a (lo + j)
def Pre (lo : Nat) (a b : Array Keyed) : Prop := ∀ k, k < lo -> b[k]? = a[k]?
theorem fh {rk : Keyed -> Nat} {a b : Array Keyed} {i j : Nat} (h : a[i]? = b[j]?) : R rk a i = R rk b j := by unfold R; rw [h]
theorem gO {rk : Keyed -> Nat} {a : Array Keyed} {i j : Nat} (hj : j <= a.size) (k : Nat) : R rk (mirror a i j ((j - i) / 2)) k = if i <= k /\ k < j then R rk a (i + j - 1 - k) else R rk a k := by
 have e := getElem?_mirror_all (i := i) hj k
 by_cases h1 : i <= k /\ k < j
 ·rw [if_pos h1] at e ⊢; exact fh e
 ·rw [if_neg h1] at e ⊢; exact fh e
theorem lM {rk : Keyed -> Nat} {a : Array Keyed} {src d : Nat} (hs : src < a.size) (hd : d <= src) (k : Nat) : R rk (bubble a src d) k = if k = src - d then R rk a src else if src - d < k /\ k <= src then R rk a (k - 1) else R rk a k := by
 have e := getElem?_bubble hs d hd k
 by_cases h1 : k = src - d
 ·rw [if_pos h1] at e ⊢; exact fh e
 ·rw [if_neg h1] at e ⊢
  by_cases h2 : src - d < k /\ k <= src
  ·rw [if_pos h2] at e ⊢; exact fh e
  ·rw [if_neg h2] at e ⊢; exact fh e
section
variable {prog : Program} {w : World} {A : Around} {E : Value -> Shared -> Prop} {s : Shared} {kd : SortKind} {M : Keyed -> Prop} {rk : Keyed -> Nat} {st : SortSt} {a0 : List Keyed} {pe : Array (Nat × Nat × Nat)} {lo n : Nat}
theorem SB.size (B : SB kd a0 pe st) : (arrOf st).size = a0.length := by rw [<- Array.length_toList]; exact B.pm.length_eq
theorem SB.at (B : SB kd a0 pe st) (Z : Set0 M rk a0) {i : Nat} (h : i < a0.length) : ∃ u, (arrOf st)[i]? = some u /\ M u := by
 obtain ⟨u, e1, e2⟩ := aI (a := arrOf st) (k := i) (by rw [B.size]; exact h)
 exact ⟨u, e1, Z.m u (B.pm.mem_iff.mp (List.mem_of_getElem? e2))⟩
theorem SB.arr {a : Array Keyed} (B : SB kd a0 pe st) (h : a.Perm (arrOf st)) : SB kd a0 pe (setArr st a) := ⟨(qx h).trans B.pm, B.kd, B.fa, B.pe⟩
theorem fm {i j : Nat} {Q : Option Bool -> SortSt -> Prop} (O : Ask prog w A s kd M rk) (Z : Set0 M rk a0) (B : SB kd a0 pe st) (hi : i < a0.length) (hj : j < a0.length) (h : Q (some (decide (R rk (arrOf st) i < R rk (arrOf st) j))) st) : wpS (model prog w) A E s (ltAt' i j) Q st := by
 obtain ⟨u, e1, mu⟩ := B.at Z hi
 obtain ⟨v, e2, mv⟩ := B.at Z hj
 rw [bM e1, bM e2] at h
 rw [ltAt'_eq]
 exact wpS_bind (wpS_get (wpS_bind (bt e1 (wpS_bind (bt e2 (lJ O B.kd mu mv h))))))
theorem fR {a : Nat} {Q : Option (Option Nat) × Nat -> SortSt -> Prop} (O : Ask prog w A s kd M rk) (Z : Set0 M rk a0) (B : SB kd a0 pe st) (hn : lo + n <= a0.length) (h1 : 1 <= a) (han : a <= n) (su : SU rk (arrOf st) lo a)
  (q : ∀ m, a <= m -> m <= n -> SU rk (arrOf st) lo m -> (m = n \/ R rk (arrOf st) (lo + m) < R rk (arrOf st) (lo + m - 1)) -> Q (none, m) st) :
  wpS (model prog w) A E s (forIn [a:n] ((none, a) : Option (Option Nat) × Nat) fun _ c => do
   match <- ltAt' (lo + c.2) (lo + c.2 - 1) with
   | some sm => if sm = true then pure (.done (none, c.2)) else pure (.yield (none, c.2 + 1))
   | _ => pure (.done (some none, c.2))) Q st := by
 refine wpS_forRange (I := fun x c st' => st' = st /\ c = (none, x) /\ SU rk (arrOf st) lo x) ?step ?fin ⟨rfl, rfl, su⟩
 case fin =>
  rintro c st' ⟨rfl, rfl, su'⟩
  rw [show max a n = n by omega] at su' ⊢
  exact q n han (Nat.le_refl _) su' (.inl rfl)
 case step =>
  rintro x c st' hax hxn ⟨rfl, rfl, su'⟩
  dsimp only
  refine wpS_bind (fm O Z B (by omega) (by omega) ?_)
  dsimp only
  by_cases c0 : R rk (arrOf st') (lo + x) < R rk (arrOf st') (lo + x - 1)
  ·rw [decide_eq_true c0, if_pos rfl]
   exact wpS_pure (q x hax (by omega) su' (.inr c0))
  ·rw [decide_eq_false c0, if_neg (by decide)]
   refine wpS_pure ⟨rfl, rfl, fun i j hij hj => ?_⟩
   by_cases hjx : j < x
   ·exact su' i j hij hjx
   ·obtain rfl : j = x := by omega
    by_cases hi' : i = j
    ·subst hi'; exact Nat.le_refl _
    ·have h1 := su' i (j - 1) (by omega) (by omega)
     rw [show lo + (j - 1) = lo + j - 1 by omega] at h1
     omega
theorem qY {a : Array Keyed} {i j : Nat} (hj : j <= a.size) (h : ∀ k, i <= k -> k < j -> R rk a k = R rk a (j - 1)) (k : Nat) : R rk (mirror a i j ((j - i) / 2)) k = R rk a k := by
 rw [gO hj]
 by_cases c : i <= k /\ k < j
 ·rw [if_pos c, h (i + j - 1 - k) (by omega) (by omega), h k c.1 c.2]
 ·rw [if_neg c]
theorem eG {a : Array Keyed} {i j : Nat} (hj : j <= a.size) (h : lo <= i) : Pre lo a (mirror a i j ((j - i) / 2)) := fun k hk => by rw [getElem?_mirror_all hj, if_neg (by omega)]
theorem Pre.trans {a b c : Array Keyed} (h1 : Pre lo a b) (h2 : Pre lo b c) : Pre lo a c := fun k hk => (h2 k hk).trans (h1 k hk)
theorem gK {Q : Option Nat -> SortSt -> Prop} (O : Ask prog w A s kd M rk) (Z : Set0 M rk a0) (B : SB kd a0 pe st) (hn : lo + n <= a0.length) (h1 : 1 <= n)
  (q : ∀ m st', SB kd a0 pe st' -> 1 <= m -> m <= n -> Pre lo (arrOf st) (arrOf st') -> SU rk (arrOf st') lo m -> Q (some m) st') : wpS (model prog w) A E s (countRun' lo n) Q st := by
 rw [countRun'_eq]
 dsimp only
 refine wpS_bind (fR O Z B hn (Nat.le_refl _) h1 (fun i j _ _ => by rw [show i = j by omega]; exact Nat.le_refl _) fun m hm1 hm2 su e => ?_)
 dsimp only
 by_cases c1 : (m == n) = true
 ·rw [if_pos c1]
  exact wpS_pure (q m st B hm1 hm2 (fun _ _ => rfl) su)
 rw [if_neg c1]
 have c1' : ¬ m = n := by simpa using c1
 have hd : R rk (arrOf st) (lo + m) < R rk (arrOf st) (lo + m - 1) := by
  rcases e with e | e
  ·omega
  ·exact e
 refine (fun (tail : ∀ st1, SB kd a0 pe st1 -> Pre lo (arrOf st) (arrOf st1) -> (∀ i j, i <= j -> j < m + 1 -> R rk (arrOf st1) (lo + j) <= R rk (arrOf st1) (lo + i)) -> wpS (model prog w) A E s ?T Q st1) => ?main) ?tail
 case main =>
  by_cases c2 : m > 1
  ·rw [if_pos c2]
   refine wpS_bind (fm O Z B (by omega) (by omega) ?_)
   dsimp only
   by_cases c3 : R rk (arrOf st) lo < R rk (arrOf st) (lo + m - 1)
   ·rw [decide_eq_true c3, if_pos rfl]
    exact wpS_pure (q m st B hm1 hm2 (fun _ _ => rfl) su)
   ·rw [decide_eq_false c3, if_neg (by decide)]
    refine wpS_bind (wpS_reverse ?_)
    have sz : lo + m <= (arrOf st).size := by rw [B.size]; omega
    have eqs : ∀ k, lo <= k -> k < lo + m -> R rk (arrOf st) k = R rk (arrOf st) (lo + m - 1) := fun k h1 h2 => by
     have a1 := su 0 (k - lo) (by omega) (by omega)
     have a2 := su (k - lo) (m - 1) (by omega) (by omega)
     rw [Nat.add_zero, show lo + (k - lo) = k by omega] at a1
     rw [show lo + (k - lo) = k by omega, show lo + (m - 1) = lo + m - 1 by omega] at a2
     omega
    have rs := qY (rk := rk) sz eqs
    refine tail _ (B.arr (mirror_perm _ _ _ _)) (eG sz (Nat.le_refl _)) fun i j hij hj => ?_
    show R rk (mirror (arrOf st) lo (lo + m) ((lo + m - lo) / 2)) (lo + j) <= R rk (mirror (arrOf st) lo (lo + m) ((lo + m - lo) / 2)) (lo + i)
    rw [rs, rs]
    by_cases hj' : j = m
    ·by_cases hi' : i = m
     ·rw [hi', hj']; exact Nat.le_refl _
     ·rw [hj', eqs (lo + i) (by omega) (by omega)]; exact Nat.le_of_lt hd
    ·rw [eqs (lo + i) (by omega) (by omega), eqs (lo + j) (by omega) (by omega)]; exact Nat.le_refl _
  ·rw [if_neg c2]
   refine tail st B (fun _ _ => rfl) fun i j hij hj => ?_
   obtain rfl : m = 1 := by omega
   by_cases e : i = j
   ·subst e; exact Nat.le_refl _
   ·have : i = 0 := by omega
    have : j = 1 := by omega
    subst_vars
    rw [Nat.add_sub_cancel] at hd
    exact Nat.le_of_lt hd
 case tail =>
  intro st1 B1 P1 dn1
  refine wpS_bind (wpS_lift (wpAny_rule ⟨rfl, ?_⟩))
  have segs : ∀ (st' : SortSt) (x ne : Nat), SB kd a0 pe st' -> x <= n -> ne + 1 <= x -> (∀ k, x - (ne + 1) <= k -> k < x -> R rk (arrOf st') (lo + k) = R rk (arrOf st') (lo + x - 1)) -> (∀ k, R rk (mirror (arrOf st') (lo + x - (ne + 1)) (lo + x) ((lo + x - (lo + x - (ne + 1))) / 2)) k = R rk (arrOf st') k) /\ Pre lo (arrOf st') (mirror (arrOf st') (lo + x - (ne + 1)) (lo + x) ((lo + x - (lo + x - (ne + 1))) / 2)) := fun st' x ne B' hx hne eq => by
   have sz : lo + x <= (arrOf st').size := by rw [B'.size]; omega
   refine ⟨qY sz fun k h1 h2 => ?_, eG sz (by omega)⟩
   have := eq (k - lo) (by omega) (by omega)
   rwa [show lo + (k - lo) = k by omega] at this
  refine wpS_bind (wpS_mono (wpS_forRange (I := fun x c st' => ∃ ne, c = (none, x, ne) /\ SB kd a0 pe st' /\ Pre lo (arrOf st) (arrOf st') /\ (∀ i j, i <= j -> j < x -> R rk (arrOf st') (lo + j) <= R rk (arrOf st') (lo + i)) /\ ne + 1 <= x /\ ∀ k, x - (ne + 1) <= k -> k < x -> R rk (arrOf st') (lo + k) = R rk (arrOf st') (lo + x - 1))
   (Q := fun c st' => ∃ x ne, c = (none, x, ne) /\ 2 <= x /\ x <= n /\ SB kd a0 pe st' /\ Pre lo (arrOf st) (arrOf st') /\ (∀ i j, i <= j -> j < x -> R rk (arrOf st') (lo + j) <= R rk (arrOf st') (lo + i)) /\ ne + 1 <= x /\ ∀ k, x - (ne + 1) <= k -> k < x -> R rk (arrOf st') (lo + k) = R rk (arrOf st') (lo + x - 1)) ?step ?fin ⟨0, rfl, B1, P1, dn1, by omega, fun k h1 h2 => by rw [show k = m by omega]; rfl⟩) ?post)
  case fin =>
   rintro c st' ⟨ne, rfl, B', P', dn, hne, eq⟩
   have mx : max (m + 1) n = n := by omega
   rw [mx] at dn hne eq ⊢
   exact ⟨n, ne, rfl, by omega, Nat.le_refl _, B', P', dn, hne, eq⟩
  case step =>
   rintro x c st' hax hxn ⟨ne, rfl, B', P', dn, hne, eq⟩
   dsimp only
   refine wpS_bind (fm O Z B' (by omega) (by omega) ?_)
   dsimp only
   by_cases c0 : R rk (arrOf st') (lo + x) < R rk (arrOf st') (lo + x - 1)
   ·rw [decide_eq_true c0, if_pos rfl]
    have go : ∀ st2, SB kd a0 pe st2 -> Pre lo (arrOf st') (arrOf st2) -> (∀ k, R rk (arrOf st2) k = R rk (arrOf st') k) -> ∃ ne', ((none, x + 1, 0) : Option (Option Nat) × Nat × Nat) = (none, x + 1, ne') /\ SB kd a0 pe st2 /\ Pre lo (arrOf st) (arrOf st2) /\ (∀ i j, i <= j -> j < x + 1 -> R rk (arrOf st2) (lo + j) <= R rk (arrOf st2) (lo + i)) /\ ne' + 1 <= x + 1 /\ ∀ k, x + 1 - (ne' + 1) <= k -> k < x + 1 -> R rk (arrOf st2) (lo + k) = R rk (arrOf st2) (lo + (x + 1) - 1) := fun st2 B2 P2 rs => by
     refine ⟨0, rfl, B2, P'.trans P2, fun i j hij hj => ?_, by omega, fun k h1 h2 => by rw [show k = x by omega]; rfl⟩
     rw [rs, rs]
     by_cases hjx : j < x
     ·exact dn i j hij hjx
     ·obtain rfl : j = x := by omega
      by_cases hi' : i = j
      ·subst hi'; exact Nat.le_refl _
      ·have h1 := dn i (j - 1) (by omega) (by omega)
       rw [show lo + (j - 1) = lo + j - 1 by omega] at h1
       omega
    by_cases c4 : ne > 0
    ·rw [if_pos c4]
     obtain ⟨rs, p2⟩ := segs st' x ne B' (by omega) hne eq
     refine wpS_bind (wpS_reverse ?_)
     exact wpS_pure (go _ (B'.arr (mirror_perm _ _ _ _)) p2 rs)
    ·rw [if_neg c4]
     exact wpS_pure (go st' B' (fun _ _ => rfl) fun _ => rfl)
   ·rw [decide_eq_false c0, if_neg (by decide)]
    refine wpS_bind (fm O Z B' (by omega) (by omega) ?_)
    dsimp only
    by_cases c5 : R rk (arrOf st') (lo + x - 1) < R rk (arrOf st') (lo + x)
    ·rw [decide_eq_true c5, if_pos rfl]
     exact wpS_pure ⟨x, ne, rfl, by omega, by omega, B', P', dn, hne, eq⟩
    ·rw [decide_eq_false c5, if_neg (by decide)]
     have e1 : R rk (arrOf st') (lo + x) = R rk (arrOf st') (lo + x - 1) := by omega
     refine wpS_pure ⟨ne + 1, rfl, B', P', fun i j hij hj => ?_, by omega, fun k h1 h2 => ?_⟩
     ·by_cases hjx : j < x
      ·exact dn i j hij hjx
      ·obtain rfl : j = x := by omega
       by_cases hi' : i = j
       ·subst hi'; exact Nat.le_refl _
       ·have h1 := dn i (j - 1) (by omega) (by omega)
        rw [show lo + (j - 1) = lo + j - 1 by omega] at h1
        omega
     ·show _ = R rk (arrOf st') (lo + x)
      by_cases hk : k = x
      ·rw [hk]
      ·rw [e1, eq k (by omega) (by omega)]
  case post =>
   rintro c st' ⟨x, ne, rfl, x2, xn, B', P', dn, hne, eq⟩
   dsimp only
   refine (fun (t2 : ∀ st2, SB kd a0 pe st2 -> Pre lo (arrOf st) (arrOf st2) -> (∀ i j, i <= j -> j < x -> R rk (arrOf st2) (lo + j) <= R rk (arrOf st2) (lo + i)) -> wpS (model prog w) A E s ?T2 Q st2) => ?main2) ?t2
   case main2 =>
    by_cases c4 : ne > 0
    ·rw [if_pos c4]
     obtain ⟨rs, p2⟩ := segs st' x ne B' xn hne eq
     refine wpS_bind (wpS_reverse ?_)
     refine t2 _ (B'.arr (mirror_perm _ _ _ _)) (P'.trans p2) fun i j hij hj => ?_
     have r1 := rs (lo + j)
     have r2 := rs (lo + i)
     have := dn i j hij hj
     exact Nat.le_trans (Nat.le_of_eq r1) (Nat.le_trans this (Nat.le_of_eq r2.symm))
    ·rw [if_neg c4]
     exact t2 st' B' P' dn
   case t2 =>
    intro st2 B2 P2 dn2
    refine wpS_bind (wpS_reverse ?_)
    have sz : lo + x <= (arrOf st2).size := by rw [B2.size]; omega
    have B3 : SB kd a0 pe (setArr st2 (mirror (arrOf st2) lo (lo + x) ((lo + x - lo) / 2))) := B2.arr (mirror_perm _ _ _ _)
    refine wpS_bind (fR O Z B3 hn (by omega) xn (fun i j hij hj => ?_) fun m' hm1' hm2' su' _ => ?_)
    ·show R rk (mirror (arrOf st2) lo (lo + x) ((lo + x - lo) / 2)) (lo + i) <= R rk (mirror (arrOf st2) lo (lo + x) ((lo + x - lo) / 2)) (lo + j)
     rw [gO sz, gO sz, if_pos (by omega), if_pos (by omega), show lo + (lo + x) - 1 - (lo + i) = lo + (x - 1 - i) by omega, show lo + (lo + x) - 1 - (lo + j) = lo + (x - 1 - j) by omega]
     exact dn2 _ _ (by omega) (by omega)
    ·exact wpS_pure (q m' _ B3 (by omega) hm2' (P2.trans (eG sz (Nat.le_refl _))) su')
theorem tE {ok : Nat} {Q : Bool -> SortSt -> Prop} (O : Ask prog w A s kd M rk) (Z : Set0 M rk a0) (B : SB kd a0 pe st) (hn : lo + n <= a0.length) (hok : ok <= n) (su : SU rk (arrOf st) lo ok)
  (q : ∀ st', SB kd a0 pe st' -> Pre lo (arrOf st) (arrOf st') -> SU rk (arrOf st') lo n -> Q true st') : wpS (model prog w) A E s (binarySort' lo n ok) Q st := by
 rw [binarySort'_eq]
 dsimp only
 refine wpS_bind (wpS_mono (wpS_forRange (I := fun k c st' => c = (none, ()) /\ SB kd a0 pe st' /\ Pre lo (arrOf st) (arrOf st') /\ SU rk (arrOf st') lo (min k n))
  (Q := fun c st' => c = (none, ()) /\ SB kd a0 pe st' /\ Pre lo (arrOf st) (arrOf st') /\ SU rk (arrOf st') lo n) ?step ?fin ?init) ?post)
 case post =>
  rintro c st' ⟨rfl, B', p, su'⟩
  exact wpS_pure (q st' B' p su')
 case init =>
  refine ⟨rfl, B, fun _ _ => rfl, fun i j hij hj => ?_⟩
  by_cases h1 : ok = 0
  ·rw [show i = j by omega]; exact Nat.le_refl _
  ·exact su i j hij (by omega)
 case fin =>
  rintro c st' ⟨hc, B', p, su'⟩
  refine ⟨hc, B', p, ?_⟩
  rwa [show min (max (max ok 1) n) n = n by omega] at su'
 case step =>
  rintro k c st' hak hkn ⟨rfl, B', p, su'⟩
  rw [show min k n = k by omega] at su'
  refine wpS_bind (wpS_mono (wpS_forRange (I := fun x c st'' => st'' = st' /\ ∃ l r, c = (none, l, r) /\ l <= r /\ r <= k /\ r - l <= k - x /\
    (∀ i, i < l -> R rk (arrOf st') (lo + i) <= R rk (arrOf st') (lo + k)) /\ (∀ i, r <= i -> i < k -> R rk (arrOf st') (lo + k) <= R rk (arrOf st') (lo + i)))
   (Q := fun c st'' => st'' = st' /\ ∃ l r, c = (none, l, r) /\ l <= k /\
    (∀ i, i < l -> R rk (arrOf st') (lo + i) <= R rk (arrOf st') (lo + k)) /\ (∀ i, l <= i -> i < k -> R rk (arrOf st') (lo + k) <= R rk (arrOf st') (lo + i))) ?istep ?ifin ⟨rfl, 0, k, rfl, by omega, by omega, by omega, fun i hi => by omega, fun i h1 h2 => by omega⟩) ?ipost)
  case ifin =>
   rintro c st'' ⟨rfl, l, r, rfl, a1, a2, a3, a4, a5⟩
   obtain rfl : l = r := by omega
   exact ⟨rfl, l, l, rfl, a2, a4, a5⟩
  case istep =>
   rintro x c st'' _ hxk ⟨rfl, l, r, rfl, a1, a2, a3, a4, a5⟩
   dsimp only
   by_cases ge : l >= r
   ·rw [if_pos ge]
    obtain rfl : l = r := by omega
    exact wpS_pure ⟨rfl, l, l, rfl, a2, a4, a5⟩
   ·rw [if_neg ge]
    refine wpS_bind (fm O Z B' (by omega) (by omega) ?_)
    dsimp only
    by_cases c0 : R rk (arrOf st'') (lo + k) < R rk (arrOf st'') (lo + (l + r) / 2)
    ·rw [decide_eq_true c0, if_pos rfl]
     exact wpS_pure ⟨rfl, l, (l + r) / 2, rfl, by omega, by omega, by omega, a4, fun i h1 h2 => Nat.le_trans (Nat.le_of_lt c0) (su' _ _ h1 h2)⟩
    ·rw [decide_eq_false c0, if_neg (by decide)]
     exact wpS_pure ⟨rfl, (l + r) / 2 + 1, r, rfl, by omega, by omega, by omega, fun i h1 => Nat.le_trans (su' i ((l + r) / 2) (by omega) (by omega)) (Nat.le_of_not_lt c0), a5⟩
  case ipost =>
   rintro c st'' ⟨rfl, l, r, rfl, a1, a4, a5⟩
   dsimp only
   rw [moveDown'_eq]
   have hks : lo + k < (arrOf st'').size := by rw [B'.size]; omega
   refine wpS_bind (wpS_modify (wpS_pure ⟨rfl, B'.arr (bubble_perm _ _ _), fun i hi => ?_, ?_⟩))
   ·show (bubble (arrOf st'') (lo + k) (lo + k - (lo + l)))[i]? = _
    rw [getElem?_bubble hks _ (by omega), if_neg (by omega), if_neg (by omega)]
    exact p i hi
   ·rw [show min (k + 1) n = k + 1 by omega]
    intro i j hij hj
    show R rk (bubble (arrOf st'') (lo + k) (lo + k - (lo + l))) (lo + i) <= R rk (bubble (arrOf st'') (lo + k) (lo + k - (lo + l))) (lo + j)
    rw [lM hks (by omega), lM hks (by omega), show lo + k - (lo + k - (lo + l)) = lo + l by omega]
    by_cases i1 : i < l
    ·rw [if_neg (by omega), if_neg (by omega)]
     by_cases j1 : j < l
     ·rw [if_neg (by omega), if_neg (by omega)]; exact su' i j hij (by omega)
     ·by_cases j2 : j = l
      ·rw [if_pos (by omega)]; exact a4 i i1
      ·rw [if_neg (by omega), if_pos (by omega), show lo + j - 1 = lo + (j - 1) by omega]; exact su' _ _ (by omega) (by omega)
    ·by_cases i2 : i = l
     ·rw [if_pos (by omega)]
      by_cases j2 : j = l
      ·rw [if_pos (by omega)]; exact Nat.le_refl _
      ·rw [if_neg (by omega), if_pos (by omega), show lo + j - 1 = lo + (j - 1) by omega]; exact a5 _ (by omega) (by omega)
     ·rw [if_neg (by omega), if_pos (by omega), if_neg (by omega), if_pos (by omega), show lo + i - 1 = lo + (i - 1) by omega, show lo + j - 1 = lo + (j - 1) by omega]
      exact su' _ _ (by omega) (by omega)
end
end L2.TS
namespace L2.TS
open PySem PySem.Spec PyProof.Rows
def PM : Nat -> List (Nat × Nat × Nat) -> List (List Keyed) -> Prop
 | _, [], [] => True
 | b, p :: ps, r :: rs => p.1 = b /\ p.2.1 = r.length /\ PM (b + r.length) ps rs
 | _, _, _ => False
theorem PM.len : ∀ {b : Nat} {ps : List (Nat × Nat × Nat)} {rs : List (List Keyed)}, PM b ps rs -> ps.length = rs.length
 | _, [], [], _ => rfl
 | _, p :: ps, r :: rs, h => by rw [List.length_cons, List.length_cons, PM.len h.2.2]
 | _, [], _ :: _, h => h.elim
 | _, _ :: _, [], h => h.elim
theorem PM.split : ∀ {b : Nat} {ps : List (Nat × Nat × Nat)} {r1 r2 : List (List Keyed)}, PM b ps (r1 ++ r2) -> ∃ p1 p2, ps = p1 ++ p2 /\ PM b p1 r1 /\ PM (b + r1.flatten.length) p2 r2
 | b, ps, [], r2, h => ⟨[], ps, rfl, trivial, h⟩
 | b, p :: ps, r :: r1, r2, h => by
  obtain ⟨p1, p2, rfl, h1, h2⟩ := PM.split (r1 := r1) h.2.2
  refine ⟨p :: p1, p2, rfl, ⟨h.1, h.2.1, h1⟩, ?_⟩
  rw [List.flatten_cons, List.length_append, <- Nat.add_assoc]; exact h2
 | b, [], r :: r1, r2, h => h.elim
theorem PM.app : ∀ {b : Nat} {p1 p2 : List (Nat × Nat × Nat)} {r1 r2 : List (List Keyed)}, PM b p1 r1 -> PM (b + r1.flatten.length) p2 r2 -> PM b (p1 ++ p2) (r1 ++ r2)
 | b, [], p2, [], r2, _, h2 => h2
 | b, p :: p1, p2, r :: r1, r2, h1, h2 => by
  refine ⟨h1.1, h1.2.1, PM.app h1.2.2 ?_⟩
  rw [List.flatten_cons, List.length_append, <- Nat.add_assoc] at h2; exact h2
 | _, [], _, _ :: _, _, h, _ => h.elim
 | _, _ :: _, _, [], _, h, _ => h.elim
theorem PM.pows {f : Nat × Nat × Nat -> Nat × Nat × Nat} (hf : ∀ p, (f p).1 = p.1 /\ (f p).2.1 = p.2.1) : ∀ {b : Nat} {ps : List (Nat × Nat × Nat)} {rs : List (List Keyed)} (i : Nat), PM b ps rs -> PM b (ps.modify i f) rs
 | _, [], [], i, _ => by cases i <;> exact trivial
 | b, p :: ps, r :: rs, 0, h => by
  show PM b (f p :: ps) (r :: rs)
  exact ⟨(hf p).1.trans h.1, (hf p).2.trans h.2.1, h.2.2⟩
 | b, p :: ps, r :: rs, i + 1, h => by
  show PM b (p :: ps.modify i f) (r :: rs)
  exact ⟨h.1, h.2.1, PM.pows hf i h.2.2⟩
 | _, [], _ :: _, _, h => h.elim
 | _, _ :: _, [], _, h => h.elim
structure RS (kd : SortKind) (rk : Keyed -> Nat) (a0 : List Keyed) (st : SortSt) (rs : List (List Keyed)) (rest : List Keyed) : Prop where
 pm : (arrOf st).toList.Perm a0
 kd : kindOf st = kd
 fa : failedOf st = none
 ar : (arrOf st).toList = rs.flatten ++ rest
 pe : PM 0 (pendingOf st).toList rs
 up : ∀ r ∈ rs, Up rk r /\ r ≠ []
section
variable {prog : Program} {w : World} {A : Around} {E : Value -> Shared -> Prop} {s : Shared} {kd : SortKind} {M : Keyed -> Prop} {rk : Keyed -> Nat} {st : SortSt} {a0 rest : List Keyed} {rs : List (List Keyed)} {lo n : Nat}
theorem RS.sb (I : RS kd rk a0 st rs rest) : SB kd a0 (pendingOf st) st := ⟨I.pm, I.kd, I.fa, rfl⟩
theorem RS.psz (I : RS kd rk a0 st rs rest) : (pendingOf st).size = rs.length := by rw [<- Array.length_toList]; exact I.pe.len
theorem RS.len (I : RS kd rk a0 st rs rest) : rs.flatten.length + rest.length = a0.length := by rw [<- I.pm.length_eq, I.ar, List.length_append]
theorem rP : ∀ (i : Nat) (rs : List (List Keyed)), i + 1 < rs.length -> ∃ r0 X Y r1, rs = r0 ++ X :: Y :: r1 /\ r0.length = i
 | 0, [], h => by simp at h
 | 0, [_], h => by simp at h
 | 0, X :: Y :: r1, _ => ⟨[], X, Y, r1, rfl, rfl⟩
 | i + 1, [], h => by simp at h
 | i + 1, r :: rs, h => by
  obtain ⟨r0, X, Y, r1, rfl, e⟩ := rP i rs (by simpa using h)
  exact ⟨r :: r0, X, Y, r1, rfl, by simp [e]⟩
theorem lg {i : Nat} {Q : Bool -> SortSt -> Prop} (O : Ask prog w A s kd M rk) (Z : Set0 M rk a0) (I : RS kd rk a0 st rs rest) (hi : i + 1 < rs.length) (q : ∀ st' rs', RS kd rk a0 st' rs' rest -> rs'.length + 1 = rs.length -> Q true st') : wpS (model prog w) A E s (mergeAt' i) Q st := by
 obtain ⟨r0, X, Y, r1, rfl, e⟩ := rP i rs hi
 obtain ⟨p0, p', ep, h0, h'⟩ := I.pe.split
 match p', h' with
 | a :: b :: p1, h' =>
  obtain ⟨a1, a2, b1, b2, h1⟩ := h'
  have l0 : p0.length = i := h0.len.trans e
  obtain ⟨ux, nx⟩ := I.up X (by simp)
  obtain ⟨uy, ny⟩ := I.up Y (by simp)
  obtain ⟨as, al, aw⟩ := a
  obtain ⟨bs, bl, bw⟩ := b
  dsimp only at a1 a2 b1 b2
  rw [Nat.zero_add] at a1 b1 h1
  subst a1 a2 b1 b2
  refine vd (P := r0.flatten) (X := X) (Y := Y) (S := r1.flatten ++ rest) (pw := aw) (pv := bw) O I.kd I.fa (by rw [I.ar]; simp) (fun u hu => Z.m u (I.pm.mem_iff.mp hu)) ux uy nx ny ?_ ?_ fun W st' k1 k2 k3 k4 k5 k6 => ?_
  ·rw [<- Array.getElem?_toList, ep, <- l0, List.getElem?_append_right (Nat.le_refl _), Nat.sub_self]; rfl
  ·rw [<- Array.getElem?_toList, ep, <- l0, List.getElem?_append_right (Nat.le_succ _), show p0.length.succ - p0.length = 1 by omega]; rfl
  ·refine q st' (r0 ++ W :: r1) ⟨?_, k1, k2, by rw [k4]; simp, ?_, fun r hr => ?_⟩ (by simp; omega)
   ·rw [k4]
    refine List.Perm.trans ?_ I.pm
    rw [I.ar]
    simp only [List.flatten_append, List.flatten_cons, List.append_assoc]
    refine List.Perm.append_left _ ?_
    rw [<- List.append_assoc X Y]
    exact k5.append_right _
   ·rw [k3, Array.toList_eraseIdxIfInBounds, Array.toList_setIfInBounds, ep, <- l0]
    have e1 : ((p0 ++ (r0.flatten.length, X.length, aw) :: (r0.flatten.length + X.length, Y.length, bw) :: p1).set p0.length (r0.flatten.length, X.length + Y.length, aw)).eraseIdx (p0.length + 1) = p0 ++ (r0.flatten.length, X.length + Y.length, aw) :: p1 := by
     rw [List.set_append_right _ _ (Nat.le_refl _), Nat.sub_self, List.eraseIdx_append_of_length_le (Nat.le_succ _), show p0.length.succ - p0.length = 1 by omega]; rfl
    rw [e1]
    refine h0.app ?_
    rw [Nat.zero_add]
    have lw : W.length = X.length + Y.length := by rw [k5.length_eq, List.length_append]
    refine ⟨rfl, lw.symm, ?_⟩
    rw [lw, <- Nat.add_assoc]; exact h1
   ·rcases List.mem_append.mp hr with hr | hr
    ·exact I.up r (List.mem_append_left _ hr)
    ·rcases List.mem_cons.mp hr with rfl | hr
     ·refine ⟨k6, fun z => ?_⟩
      have := k5.length_eq
      rw [z, List.length_nil, List.length_append] at this
      have := List.length_pos_iff.mpr nx
      omega
     ·exact I.up r (by simp [hr])
def jp1 (size lo n : Nat) : StateT SortSt Sem (ForInStep (Option Unit × Nat)) := do
 let z <- get
 match (pendingOf z).back? with
 | some (s1, n1, _) => do
  let c <- forIn [0:size] ((none, ()) : Option Unit × Unit) fun _ _ => do
   let z <- get
   match if (pendingOf z).size > 1 then (pendingOf z)[(pendingOf z).size - 2]? else none with
   | some (_, _, old) =>
    if old <= power' size (2 * s1 + n1) (2 * s1 + n1 + n1 + n) size then pure (.done (none, ()))
    else do
     let b <- mergeAt' ((pendingOf z).size - 2)
     if (!b) = true then pure (.done (some (), ())) else pure (.yield (none, ()))
   | _ => pure (.done (none, ()))
  match c.1 with
  | some r => pure (.done (some r, lo))
  | none => do
   modify fun y => setPending y ((pendingOf y).modify ((pendingOf y).size - 1) fun x => match x with | (t, l, _) => (t, l, power' size (2 * s1 + n1) (2 * s1 + n1 + n1 + n) size))
   modify fun y => setPending y ((pendingOf y).push (lo, n, 0))
   pure (.yield (none, lo + n))
 | _ => do
  modify fun y => setPending y ((pendingOf y).push (lo, n, 0))
  pure (.yield (none, lo + n))
theorem RS.push {r : List Keyed} (I : RS kd rk a0 st rs (r ++ rest)) (u : Up rk r) (ne : r ≠ []) (hl : lo = rs.flatten.length) (hn : n = r.length) : RS kd rk a0 (setPending st ((pendingOf st).push (lo, n, 0))) (rs ++ [r]) rest := by
 refine ⟨I.pm, I.kd, I.fa, by show (arrOf st).toList = _; rw [I.ar]; simp, ?_, fun x hx => ?_⟩
 ·show PM 0 ((pendingOf st).push (lo, n, 0)).toList (rs ++ [r])
  rw [Array.toList_push]
  exact I.pe.app ⟨by rw [Nat.zero_add]; exact hl, hn, trivial⟩
 ·rcases List.mem_append.mp hx with hx | hx
  ·exact I.up x hx
  ·rw [List.mem_singleton.mp hx]; exact ⟨u, ne⟩
theorem vQ {size : Nat} {Q : ForInStep (Option Unit × Nat) -> SortSt -> Prop} {r : List Keyed} (O : Ask prog w A s kd M rk) (Z : Set0 M rk a0) (I : RS kd rk a0 st rs (r ++ rest)) (u : Up rk r) (ne : r ≠ []) (hl : lo = rs.flatten.length) (hn : n = r.length)
  (q : ∀ st' rs', RS kd rk a0 st' rs' rest -> lo + n = rs'.flatten.length -> Q (.yield (none, lo + n)) st') : wpS (model prog w) A E s (jp1 size lo n) Q st := by
 have fl : ∀ {st' rs'}, RS kd rk a0 st' rs' (r ++ rest) -> lo = rs'.flatten.length := fun {st' rs'} J => by have := J.len; have := I.len; omega
 have last : ∀ {st' rs'}, RS kd rk a0 st' rs' (r ++ rest) -> RS kd rk a0 (setPending st' ((pendingOf st').push (lo, n, 0))) (rs' ++ [r]) rest := fun {st' rs'} J => J.push u ne (fl J) hn
 have lf : ∀ {st' rs'}, RS kd rk a0 st' rs' (r ++ rest) -> lo + n = (rs' ++ [r]).flatten.length := fun {st' rs'} J => by have := fl J; rw [List.flatten_append, List.length_append, List.flatten_cons, List.flatten_nil, List.append_nil]; omega
 unfold jp1
 refine wpS_bind (wpS_get ?_)
 cases hb : (pendingOf st).back? with
 | none => exact wpS_bind (wpS_modify (wpS_pure (q _ _ (last I) (lf I))))
 | some b =>
  obtain ⟨s1, n1, b3⟩ := b
  dsimp only
  generalize power' size (2 * s1 + n1) (2 * s1 + n1 + n1 + n) size = pw
  refine wpS_bind (wpS_mono (wpS_forRange (I := fun _ c st' => c = (none, ()) /\ ∃ rs', RS kd rk a0 st' rs' (r ++ rest)) (Q := fun c st' => c = (none, ()) /\ ∃ rs', RS kd rk a0 st' rs' (r ++ rest)) ?step (fun c st' h => h) ⟨rfl, rs, I⟩) ?post)
  case step =>
   rintro x c st' _ _ ⟨rfl, rs', J⟩
   refine wpS_bind (wpS_get ?_)
   by_cases c1 : (pendingOf st').size > 1
   ·rw [if_pos c1]
    have sz := J.psz
    cases hp : (pendingOf st')[(pendingOf st').size - 2]? with
    | none => exact wpS_pure ⟨rfl, rs', J⟩
    | some p =>
     obtain ⟨p1, p2, old⟩ := p
     dsimp only
     by_cases c2 : old <= pw
     ·rw [if_pos c2]; exact wpS_pure ⟨rfl, rs', J⟩
     ·rw [if_neg c2]
      refine wpS_bind (lg O Z J (by omega) fun st2 rs2 J2 _ => ?_)
      rw [if_neg (by decide)]
      exact wpS_pure ⟨rfl, rs2, J2⟩
   ·rw [if_neg c1]
    exact wpS_pure ⟨rfl, rs', J⟩
  case post =>
   rintro c st' ⟨rfl, rs', J⟩
   dsimp only
   refine wpS_bind (wpS_modify ?_)
   have J2 : RS kd rk a0 (setPending st' ((pendingOf st').modify ((pendingOf st').size - 1) fun x => match x with | (t, l, _) => (t, l, pw))) rs' (r ++ rest) := by
    refine ⟨J.pm, J.kd, J.fa, J.ar, ?_, J.up⟩
    show PM 0 ((pendingOf st').modify ((pendingOf st').size - 1) fun x => match x with | (t, l, _) => (t, l, pw)).toList rs'
    rw [Array.toList_modify]
    exact PM.pows (f := fun x => match x with | (t, l, _) => (t, l, pw)) (fun p => ⟨rfl, rfl⟩) _ J.pe
   exact wpS_bind (wpS_modify (wpS_pure (q _ _ (last J2) (lf J2))))
theorem vG : sortRuns' = (do
  let z <- get
  let c <- forIn [0:(arrOf z).size] ((none, 0) : Option Unit × Nat) fun _ c =>
   if c.2 >= (arrOf z).size then pure (.done (none, c.2))
   else do
    match <- countRun' c.2 ((arrOf z).size - c.2) with
    | some n =>
     if n < minRun' (arrOf z).size (arrOf z).size 0 then do
      rule "list.sort.binary-insertion"
      let b <- binarySort' c.2 (min ((arrOf z).size - c.2) (minRun' (arrOf z).size (arrOf z).size 0)) n
      if (!b) = true then pure (.done (some (), c.2)) else jp1 (arrOf z).size c.2 (min ((arrOf z).size - c.2) (minRun' (arrOf z).size (arrOf z).size 0))
     else jp1 (arrOf z).size c.2 n
    | _ => pure (.done (some (), c.2))
  match c.1 with
  | some r => pure r
  | none => do
   let d <- forIn [0:(arrOf z).size] ((none, ()) : Option Unit × Unit) fun _ _ => do
    let y <- get
    if (pendingOf y).size <= 1 then pure (.done (none, ()))
    else do
     let b <- mergeAt' (if Option.any (fun x => decide (x < (pendingOf y)[(pendingOf y).size - 2 + 1]?.elim 0 fun x => x.snd.fst)) (if (pendingOf y).size - 2 > 0 then Option.map (fun x => x.snd.fst) (pendingOf y)[(pendingOf y).size - 2 - 1]? else none) = true then (pendingOf y).size - 2 - 1 else (pendingOf y).size - 2)
     if (!b) = true then pure (.done (some (), ())) else pure (.yield (none, ()))
   match d.1 with
   | some r => pure r
   | none => pure ()) := by
 rw [sortRuns'_eq]
 refine bind_congr fun z => ?_
 refine bv (fun x c => ?_) (fun c => ?_)
 ·refine ite_congr rfl (fun _ => rfl) fun _ => ?_
  refine bind_congr fun f => ?_
  cases f with
  | none => rfl
  | some f =>
   refine ite_congr rfl (fun _ => ?_) fun _ => ?_
   ·refine bind_congr fun _ => ?_
    refine bind_congr fun b => ?_
    refine ite_congr rfl (fun _ => rfl) fun _ => ?_
    unfold jp1
    refine bind_congr fun g => ?_
    cases (pendingOf g).back? with
    | none => rfl
    | some p =>
     obtain ⟨s1, n1, p3⟩ := p
     refine bv (fun x c => ?_) (fun c => ?_)
     ·rfl
     ·obtain ⟨r, c⟩ := c
      cases r <;> rfl
   ·unfold jp1
    refine bind_congr fun g => ?_
    cases (pendingOf g).back? with
    | none => rfl
    | some p =>
     obtain ⟨s1, n1, p3⟩ := p
     refine bv (fun x c => ?_) (fun c => ?_)
     ·rfl
     ·obtain ⟨r, c⟩ := c
      cases r <;> rfl
 ·obtain ⟨r, lo⟩ := c
  cases r with
  | some r => rfl
  | none =>
   refine bv (fun x c => rfl) (fun c => ?_)
   obtain ⟨r, c⟩ := c
   cases r <;> rfl
theorem nF : ∀ (rs : List (List Keyed)), (∀ r ∈ rs, r ≠ []) -> rs.length <= rs.flatten.length
 | [], _ => Nat.zero_le _
 | r :: rs, h => by
  have := nF rs fun x hx => h x (List.mem_cons_of_mem _ hx)
  have := List.length_pos_iff.mpr (h r List.mem_cons_self)
  rw [List.length_cons, List.flatten_cons, List.length_append]; omega
theorem qi {a : Array Keyed} {lo n : Nat} (h : SU rk a lo n) (hn : lo + n <= a.size) : Up rk ((a.toList.drop lo).take n) := by
 rw [Up, List.pairwise_iff_getElem]
 intro i j hi hj hij
 rw [List.length_take] at hi hj
 have g : ∀ k (hk : k < ((a.toList.drop lo).take n).length), rk ((a.toList.drop lo).take n)[k] = R rk a (lo + k) := fun k hk => by
  have hk2 := hk
  rw [List.length_take] at hk2
  rw [bM (x := ((a.toList.drop lo).take n)[k])]
  rw [bL, <- List.getElem?_drop, <- List.getElem?_eq_getElem hk, List.getElem?_take, if_pos (by omega)]
 rw [g, g]
 exact h i j (by omega) (by omega)
theorem runs_ok {Q : Unit -> SortSt -> Prop} (O : Ask prog w A s kd M rk) (Z : Set0 M rk a0) (B : SB kd a0 #[] st) (q : ∀ st', (arrOf st').toList.Perm a0 -> failedOf st' = none -> Up rk (arrOf st').toList -> Q () st') : wpS (model prog w) A E s sortRuns' Q st := by
 rw [vG]
 refine wpS_bind (wpS_get ?_)
 have sz := B.size
 rw [sz]
 generalize minRun' a0.length a0.length 0 = mr
 refine wpS_bind (wpS_mono (wpS_forRange (I := fun x c st' => ∃ rs rest, c.1 = none /\ RS kd rk a0 st' rs rest /\ c.2 = rs.flatten.length /\ x <= c.2)
  (Q := fun c st' => c.1 = none /\ ∃ rs, RS kd rk a0 st' rs []) ?step ?fin ⟨[], (arrOf st).toList, rfl, ⟨B.pm, B.kd, B.fa, rfl, by rw [B.pe]; trivial, by simp⟩, rfl, Nat.zero_le _⟩) ?post)
 case fin =>
  rintro ⟨c, lo⟩ st' ⟨rs, rest, e, I, hl, hx⟩
  have := I.len
  dsimp only at hl hx
  obtain rfl : rest = [] := List.length_eq_zero_iff.mp (by omega)
  exact ⟨e, rs, I⟩
 case step =>
  rintro x ⟨c, lo⟩ st' _ hx ⟨rs, rest, e, I, hl, hxl⟩
  obtain rfl : c = none := e
  dsimp only at hl hxl ⊢
  have il := I.len
  by_cases c1 : lo >= a0.length
  ·rw [if_pos c1]
   obtain rfl : rest = [] := List.length_eq_zero_iff.mp (by omega)
   exact wpS_pure ⟨rfl, rs, I⟩
  rw [if_neg c1]
  have nxt : ∀ (n : Nat) (st2 : SortSt), SB kd a0 (pendingOf st') st2 -> 1 <= n -> n <= a0.length - lo -> Pre lo (arrOf st') (arrOf st2) -> SU rk (arrOf st2) lo n -> wpS (model prog w) A E s (jp1 a0.length lo n) (fun r st'' => match r with | .done c' => c'.1 = none /\ ∃ rs, RS kd rk a0 st'' rs [] | .yield c' => ∃ rs rest, c'.1 = none /\ RS kd rk a0 st'' rs rest /\ c'.2 = rs.flatten.length /\ x + 1 <= c'.2) st2 := fun n st2 B2 n1 n2 pre su => by
   have z2 : (arrOf st2).toList.length = a0.length := B2.pm.length_eq
   have et : (arrOf st2).toList.take lo = rs.flatten := by
    have e1 : (arrOf st').toList.take lo = rs.flatten := by rw [I.ar, hl, List.take_left' rfl]
    rw [<- e1]
    apply List.ext_getElem?
    intro k
    rw [List.getElem?_take, List.getElem?_take]
    by_cases hk : k < lo
    ·rw [if_pos hk, if_pos hk, <- bL, <- bL]; exact pre k hk
    ·rw [if_neg hk, if_neg hk]
   have ea : (arrOf st2).toList = rs.flatten ++ ((((arrOf st2).toList.drop lo).take n) ++ (arrOf st2).toList.drop (lo + n)) := by
    rw [<- et, <- List.drop_drop, List.take_append_drop, List.take_append_drop]
   have lr : (((arrOf st2).toList.drop lo).take n).length = n := by rw [List.length_take, List.length_drop, z2]; omega
   have J : RS kd rk a0 st2 rs ((((arrOf st2).toList.drop lo).take n) ++ (arrOf st2).toList.drop (lo + n)) := ⟨B2.pm, B2.kd, B2.fa, ea, by rw [B2.pe]; exact I.pe, I.up⟩
   refine vQ O Z J (qi su (by rw [<- Array.length_toList, z2]; omega)) (fun z => by rw [z, List.length_nil] at lr; omega) hl lr.symm fun st3 rs3 J3 h3 => ?_
   exact ⟨rs3, _, rfl, J3, h3, by dsimp only; omega⟩
  refine wpS_bind (gK O Z I.sb (by omega) (by omega) fun m st2 B2 m1 m2 pre su => ?_)
  dsimp only
  by_cases c2 : m < mr
  ·rw [if_pos c2]
   refine wpS_bind (wpS_lift (wpAny_rule ⟨rfl, ?_⟩))
   refine wpS_bind (tE (n := min (a0.length - lo) mr) O Z B2 (by omega) (by omega) su fun st3 B3 pre3 su3 => ?_)
   rw [if_neg (by decide)]
   exact wpS_mono (nxt _ st3 B3 (by omega) (by omega) (fun k hk => (pre3 k hk).trans (pre k hk)) su3) fun r st4 y => by cases r <;> exact y
  ·rw [if_neg c2]
   exact wpS_mono (nxt m st2 B2 m1 m2 pre su) fun r st4 y => by cases r <;> exact y
 case post =>
  rintro ⟨c, lo⟩ st' ⟨e, rs, I⟩
  obtain rfl : c = none := e
  dsimp only
  have il := I.len
  have rl := nF rs fun r hr => (I.up r hr).2
  rw [List.length_nil] at il
  refine wpS_bind (wpS_mono (wpS_forRange (I := fun x c st' => c = (none, ()) /\ ∃ rs, RS kd rk a0 st' rs [] /\ (rs.length <= 1 \/ rs.length + x <= a0.length)) (Q := fun c st' => c = (none, ()) /\ ∃ rs, RS kd rk a0 st' rs [] /\ rs.length <= 1) ?s2 ?f2 ⟨rfl, rs, I, .inr (by omega)⟩) ?p2)
  case f2 =>
   rintro c st' ⟨rfl, rs, I, h⟩
   exact ⟨rfl, rs, I, by omega⟩
  case s2 =>
   rintro x c st' _ hx ⟨rfl, rs, I, h⟩
   refine wpS_bind (wpS_get ?_)
   have psz := I.psz
   by_cases c1 : (pendingOf st').size <= 1
   ·rw [if_pos c1]; exact wpS_pure ⟨rfl, rs, I, by omega⟩
   ·rw [if_neg c1]
    have go : ∀ i, i + 1 < rs.length -> wpS (model prog w) A E s (mergeAt' i) (fun b st2 => b = true /\ ∃ rs2, RS kd rk a0 st2 rs2 [] /\ rs2.length + 1 = rs.length) st' := fun i hi => lg O Z I hi fun st2 rs2 J2 l2 => ⟨rfl, rs2, J2, l2⟩
    refine wpS_bind (wpS_mono (go _ ?_) fun b st2 ⟨eb, rs2, J2, l2⟩ => ?_)
    ·have key : ∀ (b : Bool), (if b = true then (pendingOf st').size - 2 - 1 else (pendingOf st').size - 2) + 1 < rs.length := fun b => by cases b <;> simp <;> omega
     exact key _
    ·subst eb
     rw [if_neg (by decide)]
     exact wpS_pure ⟨rfl, rs2, J2, by omega⟩
  case p2 =>
   rintro c st' ⟨rfl, rs, I, h⟩
   refine wpS_pure (q st' I.pm I.fa ?_)
   rw [I.ar, List.append_nil]
   match rs, h, I with
   | [], _, _ => exact List.Pairwise.nil
   | [r], _, I => rw [List.flatten_cons, List.flatten_nil, List.append_nil]; exact (I.up r List.mem_cons_self).1
end
end L2.TS
namespace L2
open PySem PySem.Spec PyProof.Rows PySem.W KB
def prK (p : Pr) : List Key := [Sum.inr p.1, Sum.inl p.2]
theorem jG {p q : Pr} (h : prK p = prK q) : p = q := by
 unfold prK at h
 injection h with h1 h2
 injection h2 with h2 _
 injection h1 with h1
 injection h2 with h2
 exact Prod.ext h1 h2
section
variable (prog : Program) (w : World)
inductive bh (h : Heap) : List Pr -> List Value -> Prop
 | nil : bh h [] []
 | cons {p : Pr} {b : Addr} {ps : List Pr} {vs : List Value} : IsTupleKey (am prog w) h (prK p) b -> bh h ps vs -> bh h (p :: ps) (.ref b :: vs)
def bV (h : Heap) (ps : List Pr) (a : Addr) : Prop := ∃ o items n, h.get? a = some o /\ o.cls = .type "tuple" /\ o.data = .seq items n /\ bh prog w h ps items.toList
def nj (ps : List Pr) : Int := reduceHash (Builtin.Tuple.tupleHashOf (ps.map fun p => tupleKeyHash (am prog w) (prK p)))
end
section
variable {prog : Program} {w : World} {A : Around} {E : Value -> Shared -> Prop} {s : Shared} {ps qs : List Pr} {a b : Addr} {h h' : Heap}
theorem bh.inj : ∀ {ps qs : List Pr} {vs : List Value}, bh prog w h ps vs -> bh prog w h qs vs -> ps = qs
 | _, _, _, .nil, .nil => rfl
 | _, _, _, .cons x y, .cons z t => by rw [jG (x.inj z), bh.inj y t]
theorem bV.typeIs (x : bV prog w s.heap ps a) : s.TypeIs (.ref a) "tuple" := let ⟨o, _, _, e, c, _⟩ := x; ⟨o, e, c⟩
theorem bV.inj (x : bV prog w h ps a) (y : bV prog w h qs a) : ps = qs := by
 obtain ⟨o, its, n, e, _, d, i⟩ := x
 obtain ⟨o', its', n', e', _, d', i'⟩ := y
 cases e.symm.trans e'
 rw [d] at d'
 cases d'
 exact i.inj i'
theorem bh.keeps {d : Addr} {o : Obj} {es : Array DictEntry} {ep : Nat} (ho : h.get? d = some o) (hd : o.data = .dict es ep) (hs : Heap.SameBut d h h') : ∀ {ps : List Pr} {vs : List Value}, bh prog w h ps vs -> bh prog w h' ps vs
 | _, _, .nil => .nil
 | _, _, .cons x y => .cons (x.keeps ho hd hs) (bh.keeps ho hd hs y)
theorem bV.keeps {d : Addr} {o : Obj} {es : Array DictEntry} {ep : Nat} (x : bV prog w h ps a) (ho : h.get? d = some o) (hd : o.data = .dict es ep) (hs : Heap.SameBut d h h') : bV prog w h' ps a := by
 obtain ⟨o', its, n, e, c, d', i⟩ := x
 refine ⟨o', its, n, (hs.2 a fun z => ?_).trans e, c, d', i.keeps ho hd hs⟩
 subst z
 cases e.symm.trans ho
 rw [hd] at d'; cases d'
theorem bh.tup : ∀ {ps : List Pr} {vs : List Value}, bh prog w s.heap ps vs -> ps.length = vs.length
 | _, _, .nil => rfl
 | _, _, .cons _ y => by rw [List.length_cons, List.length_cons, bh.tup y]
theorem rZ {Q : Int -> Shared -> Prop} (hu : A.units + 1 < cLine) (hk : bV prog w s.heap ps a) (q : Q (nj prog w ps) { s with toks := s.toks + (ps.length * 3 + 1) }) : wpAny (model prog w) A (pyHash (.ref a)) Q E s := by
 have T := hk.typeIs
 obtain ⟨o, items, n, ho, _, hd, hi⟩ := hk
 unfold pyHash
 first | unfold pyHashByItsType | skip
 first | refine wpAny_bind (wpAny_cRoomFor_or (.inr (Nat.lt_of_succ_lt hu)) ?_) | skip
 refine wpAny_bind (wpAny_specialOf T F.slot_tuple_hash.lookup ?_)
 show wpAny _ _ (if (some (Value.builtin "tuple.__hash__") == some Value.none) = true then _ else _) Q E s
 rw [if_neg (by rw [beq_builtin_none]; decide)]
 refine wpAny_bind (wpAny_specialOf T F.slot_tuple_hash.lookup ?_)
 show wpAny _ _ (callSpecialIfBoundUnlessNone? (.ref a) "__hash__" _ >>= _) Q E s
 refine wpAny_bind (wpAny_callSpecialIfBoundUnlessNone?_slot T F.slot_tuple_hash (wpAny_call_entry F.slot_tuple_hash T F.entry_tuple_hash ?_ (F.args_tuple_hash_1 _)))
 show wpAny _ _ (Builtin.Tuple.tupleItemsOf (.ref a) >>= _) _ _ s
 refine wpAny_bind (wpAny_tupleItemsOf ho hd (wpAny_bind ?_)); rw [<- Array.forIn_toList]
 refine wpAny_forIn_list _ (fun rest (b : Array Int) s' => ∃ dn left, ps = dn ++ left /\ bh prog w s.heap left rest /\ b.toList = dn.map (fun p => tupleKeyHash (am prog w) (prK p)) /\ s' = { s with toks := s.toks + dn.length * 3 }) _ ?_ ?_ _ _ ⟨[], ps, rfl, hi, rfl, rfl⟩
 ·rintro x rest b s' ⟨dn, left, rfl, hl, hb, rfl⟩
  cases hl with
  | @cons p c ps' _ h1 hl' =>
   refine wpAny_bind (wpAny_pyHash_tuple (knd := am prog w) (s := { s with toks := s.toks + dn.length * 3 }) hu h1 ?_)
   have nx : ∃ dn' left', dn ++ p :: ps' = dn' ++ left' /\ bh prog w s.heap left' rest /\ (b.push (tupleKeyHash (am prog w) (prK p))).toList = dn'.map (fun p => tupleKeyHash (am prog w) (prK p)) /\ ({ s with toks := s.toks + dn.length * 3 + ((prK p).length + 1) } : Shared) = { s with toks := s.toks + dn'.length * 3 } :=
    ⟨dn ++ [p], ps', by simp, hl', by simp [hb], by rw [List.length_append, List.length_singleton, show (prK p).length = 2 from rfl]; congr 1; omega⟩
   first
    | exact wpAny_pure nx
    | exact wpAny_bind (wpAny_pure (wpAny_pure nx))
 ·rintro b s' ⟨dn, left, rfl, hl, hb, rfl⟩
  cases hl
  rw [List.append_nil] at q
  show wpAny _ _ (retInt (Builtin.Tuple.tupleHashOf b.toList)) _ _ _
  rw [hb]
  refine wpAny_ret_mkInt ?_
  show wpAny _ _ (if (decide (-(2 : Int) ^ 63 <= Builtin.Tuple.tupleHashOf (dn.map fun p => tupleKeyHash (am prog w) (prK p))) && decide (Builtin.Tuple.tupleHashOf (dn.map fun p => tupleKeyHash (am prog w) (prK p)) < 2 ^ 63)) = true then _ else _) Q E _
  unfold nj reduceHash at q
  by_cases c : (decide (-(2 : Int) ^ 63 <= Builtin.Tuple.tupleHashOf (dn.map fun p => tupleKeyHash (am prog w) (prK p))) && decide (Builtin.Tuple.tupleHashOf (dn.map fun p => tupleKeyHash (am prog w) (prK p)) < 2 ^ 63)) = true
  ·rw [if_pos c] at q ⊢
   exact wpAny_pure (by simpa [Nat.add_assoc] using q)
  ·rw [if_neg c] at q ⊢
   exact wpAny_bind (wpAny_rule (wpAny_pure (by simpa [Nat.add_assoc] using q)))
theorem mZ {P : PySem.Fin -> Shared -> Prop} (hu : A.units < cLine) (hx : bV prog w s.heap ps a) (hy : bV prog w s.heap qs b) (q : P (.done (.ret (.bool (decide (ps = qs))))) s) : wpAny (model prog w) A (Builtin.«tuple.__eq__» ⟨[.ref a, .ref b], []⟩) P E s := by
 have Tb := hy.typeIs
 obtain ⟨oa, xs, na, hoa, _, hda, hia⟩ := hx
 obtain ⟨ob, ys, nb, hob, _, hdb, hib⟩ := hy
 show wpAny _ _ (isInstance (.ref b) (.type "tuple") >>= _) _ _ s
 refine wpAny_bind (wpAny_isInstance Tb isSubtype_tuple_tuple ?_); simp only [Bool.not_true, Bool.false_eq_true, if_false]
 refine wpAny_bind (wpAny_tupleItemsOf hoa hda (wpAny_bind (wpAny_tupleItemsOf hob hdb (wpAny_bind ?_))))
 refine wpAny_forIn_list _ (fun rest r s' => r.1 = none /\ s' = s /\ ∃ x' y' xs' ys', rest = List.zip xs' ys' /\ bh prog w s.heap x' xs' /\ bh prog w s.heap y' ys' /\ decide (x' = y') = decide (ps = qs) /\ (xs'.length == ys'.length) = (xs.size == ys.size)) _ ?_ ?_ _ _ ⟨rfl, rfl, ps, qs, xs.toList, ys.toList, rfl, hia, hib, rfl, by simp⟩
 ·rintro ⟨u, v⟩ rest r s' ⟨hr, rfl, x', y', xs', ys', hz, hx', hy', hdec, hlen⟩
  cases hx' with
  | nil => simp at hz
  | @cons p1 c1 x'' xs'' h1 hx'' =>
   cases hy' with
   | nil => simp at hz
   | @cons p2 c2 y'' ys'' h2 hy'' =>
    simp only [List.zip_cons_cons, List.cons.injEq, Prod.mk.injEq] at hz
    obtain ⟨⟨rfl, rfl⟩, rfl⟩ := hz
    refine wpAny_bind (wpAny_eqBool_tuple (knd := am prog w) hu h1 h2 ?_)
    by_cases hk : p1 = p2
    ·subst hk
     rw [decide_eq_true rfl]
     simp only [Bool.not_true, Bool.false_eq_true, if_false]
     refine wpAny_pure ⟨rfl, rfl, x'', y'', xs'', ys'', rfl, hx'', hy'', ?_, by simpa using hlen⟩
     rw [<- hdec]
     by_cases hxy : x'' = y'' <;> simp [hxy]
    ·rw [decide_eq_false (fun z => hk (jG z))]
     simp only [Bool.not_false, if_true]
     have hf : decide (ps = qs) = false := by rw [<- hdec]; simp [hk]
     rw [hf] at q
     exact wpAny_bind (wpAny_pure (wpAny_pure (wpAny_pure q)))
 ·rintro ⟨r1, r2⟩ s' ⟨hr, rfl, x', y', xs', ys', hz, hx', hy', hdec, hlen⟩
  obtain rfl : r1 = none := hr
  refine wpAny_pure ?_
  have hfin : (xs.size == ys.size) = decide (ps = qs) := by
   rw [<- hdec, <- hlen]
   cases hx' with
   | nil => cases hy' <;> simp
   | cons _ _ =>
    cases hy' with
    | nil => simp
    | cons _ _ => simp at hz
  show P (.done (.ret (.bool (xs.size == ys.size)))) s'
  rw [hfin]; exact q
theorem tV {Q : Bool -> Shared -> Prop} (hu : A.units + 1 < cLine) (hx : bV prog w s.heap ps a) (hy : bV prog w s.heap qs b) (q : Q (decide (ps = qs)) s) : wpAny (model prog w) A (eqBool (.ref a) (.ref b)) Q E s := by
 unfold eqBool
 try with_reducible refine wpAny_holding ?_
 show wpAny _ _ (if (Value.ref a == Value.ref b) = true then _ else _) Q E s
 by_cases hab : (Value.ref a == Value.ref b) = true
 ·rw [if_pos hab]
  have e : a = b := by have := eq_of_beq hab; injection this
  subst e
  cases hx.inj hy
  exact wpAny_bind (wpAny_rule (wpAny_pure (by simpa using q)))
 ·rw [if_neg hab]
  exact wpAny_bind (wpAny_richCompare_same_room (op := .Eq) hx.typeIs hy.typeIs F.slot_tuple_eq (wpAny_call_entry F.slot_tuple_eq hx.typeIs F.entry_tuple_eq (mZ hu hx hy ⟨_, rfl, nofun, wpAny_truthy_bool q⟩) (F.args_tuple_eq_2 _ _)) (Nat.lt_of_succ_lt hu))
theorem lZ {ks : List Key} {n : Nat} {Q : Bool -> Shared -> Prop} (hk : IsTupleKey (am prog w) s.heap ks a) (q : Q true s) : wpAny (model prog w) A (eqIsQuiet (n + 1) (.ref a)) Q E s := by
 have T := hk.typeIs
 obtain ⟨o, items, m, ho, _, hd, hi⟩ := hk
 unfold eqIsQuiet
 refine wpAny_bind (wpAny_specialOf T F.slot_tuple_eq.lookup ?_)
 show wpAny _ _ (isInstance (.ref a) (.type "tuple") >>= _) _ _ s
 refine wpAny_bind (wpAny_isInstance T isSubtype_tuple_tuple ?_); simp only [Bool.not_true, Bool.false_eq_true, if_false]
 refine wpAny_bind (wpAny_seqItems ho hd (wpAny_bind ?_)); show wpAny _ _ (forIn items _ _) _ _ s
 rw [<- Array.forIn_toList]
 refine wpAny_forIn_list _ (fun rest r s' => r.1 = none /\ s' = s /\ ∀ v ∈ rest, carriedByValue v = true) _ ?_ ?_ _ _ ⟨rfl, rfl, hi.byValue⟩
 ·rintro v rest r s' ⟨hr, rfl, all⟩
  rw [eqIsQuiet_byValue _ (all v List.mem_cons_self)]
  refine wpAny_bind (wpAny_pure ?_); simp only [Bool.not_true, Bool.false_eq_true, if_false]
  exact wpAny_pure ⟨rfl, rfl, fun u hu => all u (List.mem_cons_of_mem _ hu)⟩
 ·rintro ⟨r1, r2⟩ s' ⟨hr, rfl, _⟩
  obtain rfl : r1 = none := hr
  exact wpAny_pure q
theorem qF {Q : Bool -> Shared -> Prop} (hk : bV prog w s.heap ps a) (q : Q true s) : wpAny (model prog w) A (eqIsQuiet 8 (.ref a)) Q E s := by
 have T := hk.typeIs
 obtain ⟨o, items, m, ho, _, hd, hi⟩ := hk
 unfold eqIsQuiet
 refine wpAny_bind (wpAny_specialOf T F.slot_tuple_eq.lookup ?_)
 show wpAny _ _ (isInstance (.ref a) (.type "tuple") >>= _) _ _ s
 refine wpAny_bind (wpAny_isInstance T isSubtype_tuple_tuple ?_); simp only [Bool.not_true, Bool.false_eq_true, if_false]
 refine wpAny_bind (wpAny_seqItems ho hd (wpAny_bind ?_)); show wpAny _ _ (forIn items _ _) _ _ s
 rw [<- Array.forIn_toList]
 refine wpAny_forIn_list _ (fun rest r s' => r.1 = none /\ s' = s /\ ∃ x', bh prog w s.heap x' rest) _ ?_ ?_ _ _ ⟨rfl, rfl, ps, hi⟩
 ·rintro v rest r s' ⟨hr, rfl, x', all⟩
  cases all with
  | @cons p c x'' _ h1 all' =>
   refine wpAny_bind (lZ (n := 6) h1 ?_); simp only [Bool.not_true, Bool.false_eq_true, if_false]
   exact wpAny_pure ⟨rfl, rfl, x'', all'⟩
 ·rintro ⟨r1, r2⟩ s' ⟨hr, rfl, _⟩
  obtain rfl : r1 = none := hr
  exact wpAny_pure q
end
def eA (prog : Program) (w : World) : HeapKind prog w (List Pr) where
 is := bV prog w
 hash := nj prog w
 draws := fun ps => ps.length * 3 + 1
 room := fun A => A.units + 1 < cLine
 inj := fun x y => x.inj y
 keeps := fun x a b c => x.keeps a b c
 pyHash := fun a b c => rZ a b c
 eqBool := fun a b c d => tV a b c d
 quiet := fun a b => qF a b
open PySem PySem.Spec PyProof.Rows PySem.W PySem.Calls
def DE (h : Heap) (d : Addr) (es : Array DictEntry) (ep : Nat) : Prop := ∃ o, h.get? d = some o /\ o.ExactDict /\ o.data = .dict es ep
theorem DE.at {h h' : Heap} {d : Addr} {es : Array DictEntry} {ep : Nat} (x : DE h d es ep) (k : ∀ o, h.get? d = some o -> h'.get? d = some o) : DE h' d es ep := let ⟨o, e, r⟩ := x; ⟨o, k o e, r⟩
theorem DE.lt {h : Heap} {d : Addr} {es : Array DictEntry} {ep : Nat} (x : DE h d es ep) : d < h.objs.size := let ⟨_, e, _⟩ := x; Heap.lt_size e
abbrev IR (h : Heap) (t d : Addr) (i n ep : Nat) (f0 f1 ok ov : Value) : Prop :=
 h.get? t = some { cls := .type "dict_itemiterator", dict := none, data := .fields #[f0, f1, .ref d, .int i 0, .int n 0, .int ep 0, ok, ov], slots := #[] }
def ItS (h : Heap) (t d : Addr) (i n ep : Nat) : Prop := ∃ f0 f1 ok ov, IR h t d i n ep f0 f1 ok ov /\ ((f0 = .none /\ f1 = .bool false) \/ ∃ (a : Addr) (oa : Obj) (f : Bool), f0 = rawInt a /\ f1 = .bool f /\ h.get? a = some oa /\ a ≠ t)
section
variable {prog : Program} {w : World} {A : Around} {E : Value -> Shared -> Prop} {s : Shared} {t d v : Addr} {es : Array DictEntry} {i ep : Nat}
theorem gI {Q : Value -> Shared -> Prop} (hv : s.heap.IsItemsView v d) (hm : DE s.heap d es ep) (q : Q (.ref s.heap.objs.size) { s with heap := s.heap.push { cls := .type "dict_itemiterator", data := .fields #[.none, .bool false, .ref d, .int 0 0, .int es.size 0, .int ep 0, .none, .none] } }) :
  wpAny (model prog w) A (pyIter (.ref v)) Q E s := by
 obtain ⟨o1, e1, _, d1⟩ := id hv
 obtain ⟨o2, e2, _, d2⟩ := hm
 refine wpAny_pyIter_slot hv.typeIs F.slot_dict_items_iter (wpAny_call_entry F.slot_dict_items_iter hv.typeIs F.entry_dict_items_iter ?_ (F.args_dict_items_iter_1 _))
 unfold Builtin.«dict_items.__iter__»; refine wpAny_bind (wpAny_pure (wpAny_bind ?_)); unfold Builtin.Dict_items.dictOf
 refine wpAny_bind (wpAny_field e1 d1 (x := .ref d) rfl (wpAny_pure (wpAny_bind ?_))); unfold Builtin.Dict_items.newIterator
 refine wpAny_bind (wpAny_dictEntries e2 d2 (wpAny_bind (wpAny_dictEpoch e2 d2 ?_)))
 simp only [show Builtin.Dict_items.ownsTuple "dict_itemiterator" = true by decide, if_true]
 refine wpAny_newObj_type (wpAny_pure ⟨_, rfl, "dict_itemiterator", _, ⟨_, Heap.get?_push_size _ rfl, rfl⟩, F.slot_dict_itemiterator_next.lookup, ?_⟩) (by simp only [sizeOk, Builtin.Dict_items.ownedTupleFields, List.size_toArray, List.length_append, List.length_cons, List.length_nil, sizeLine_eq]; omega)
 simpa [rawInt, Builtin.Dict_items.ownedTupleFields] using q
theorem mN {e : DictEntry} {Q : Option Value -> Shared -> Prop} (st : ItS s.heap t d i es.size ep) (hm : DE s.heap d es ep) (hx : es[i]? = some e)
  (q : ∀ h', ItS h' t d (i + 1) es.size ep -> h'.get? s.heap.objs.size = some { cls := .type "tuple", data := .seq #[e.key, e.val] } -> h'.objs.size = s.heap.objs.size + 1 -> (∀ b o, b ≠ t -> s.heap.get? b = some o -> h'.get? b = some o) -> Q (some (.ref s.heap.objs.size)) { s with heap := h' }) :
  wpAny (model prog w) A (pyNext (.ref t)) Q E s := by
 obtain ⟨f0, f1, ok, ov, hit, al⟩ := st
 obtain ⟨hp, g, dr, tk, os⟩ := s
 obtain ⟨od, e2, _, d2⟩ := hm
 have T : Shared.TypeIs ⟨hp, g, dr, tk, os⟩ (.ref t) "dict_itemiterator" := ⟨_, hit, rfl⟩
 obtain ⟨hi, ei⟩ := Array.getElem?_eq_some_iff.mp hx
 unfold pyNext
 refine wpAny_bind (wpAny_attempt (wpAny_callSpecial?_slot (name := Str.ofString "__next__") T F.slot_dict_itemiterator_next (wpAny_call_entry F.slot_dict_itemiterator_next T F.entry_dict_itemiterator_next ?_ (F.args_dict_itemiterator_next_1 _))))
 refine wpAny_bind (wpAny_pure (wpAny_bind (wpAny_bind ?_)))
 first | refine wpAny_bind (wpAny_typeNameOfWhole_itemiter T (wpAny_pure ?_)) | refine wpAny_bind (wpAny_typeNameOf_itemiter T (wpAny_pure ?_))
 refine wpAny_bind (wpAny_fieldsOf hit rfl ?_); simp only [show Builtin.Dict_items.ownsTuple "dict_itemiterator" = true by decide, if_true]
 show wpAny _ _ (if (Value.ref d == Value.none) = true then _ else _) _ _ _; rw [if_neg (show ¬ ((Value.ref d == Value.none) = true) by intro z; cases z)]
 refine wpAny_bind (wpAny_pure (wpAny_bind (wpAny_dictEntries e2 d2 ?_))); rw [if_neg (by simp)]
 refine wpAny_bind (wpAny_pure (wpAny_bind (wpAny_dictEpoch e2 d2 ?_))); rw [if_neg (by simp)]; refine wpAny_pure ?_
 simp only [show ¬ ((i : Int) < 0) by omega, if_false, Int.toNat_natCast, hx]; refine wpAny_bind ?_
 first | refine wpAny_bind (wpAny_typeNameOfWhole_itemiter T (wpAny_pure ?_)) | refine wpAny_bind (wpAny_typeNameOf_itemiter T (wpAny_pure ?_))
 refine wpAny_bind (wpAny_isOneOf_itemiter T ?_); show wpAny _ _ (setField (.ref t) 3 (rawInt ((i : Int) + 1)) >>= _) _ _ ⟨hp, g, dr, tk, os⟩
 refine wpAny_bind (wpAny_setField_rec hit (by simp) fun h1 i1 s1 => ?_)
 replace s1 : Heap.SameBut t hp h1 := s1
 replace i1 : IR h1 t d (i + 1) es.size ep f0 f1 ok ov := by
  have c : ((i + 1 : Nat) : Int) = (i : Int) + 1 := by omega
  unfold IR; rw [c]; simpa [rawInt] using i1
 have T1 : Shared.TypeIs ⟨h1, g, dr, tk, os⟩ (.ref t) "dict_itemiterator" := ⟨_, i1, rfl⟩
 refine wpAny_bind (wpAny_holding (wpAny_bind (wpAny_isOneOf_itemiter T1 (wpAny_bind (wpAny_isOneOf_itemiter T1 ?_)))))
 show wpAny _ _ (Builtin.Dict_items.pairFromOwner (.ref t) 6 e.key e.val) _ _ ⟨h1, g, dr, tk, os⟩
 unfold Builtin.Dict_items.pairFromOwner; refine wpAny_bind (wpAny_newTuple ?_)
 have i2 : IR (h1.push { cls := .type "tuple", data := .seq #[e.key, e.val] }) t d (i + 1) es.size ep f0 f1 ok ov := Heap.get?_push_of_some _ i1
 generalize e2' : h1.push { cls := .type "tuple", data := .seq #[e.key, e.val] } = h2 at i2
 have z1 : h1.objs.size = hp.objs.size := s1.1
 have tl : t < hp.objs.size := Heap.lt_size hit
 have t2 : h2.get? hp.objs.size = some { cls := .type "tuple", data := .seq #[e.key, e.val] } := by rw [<- e2', <- z1]; exact Heap.get?_push_size _ rfl
 have z2 : h2.objs.size = hp.objs.size + 1 := by rw [<- e2', Heap.size_push, z1]
 have k2 : ∀ b o, b ≠ t -> hp.get? b = some o -> h2.get? b = some o := fun b o hb x => by rw [<- e2']; exact Heap.get?_push_of_some _ (s1.extBut b o hb x)
 show wpAny _ _ (Builtin.Dict_items.ownedTupleIsFree (.ref t) >>= _) _ _ ⟨h2, g, dr, tk, os⟩; rw [z1]
 clear e2' i1 s1 T1 z1 h1
 have fin : ∀ h3 : Heap, ItS h3 t d (i + 1) es.size ep -> Heap.SameBut t h2 h3 -> Q (some (.ref hp.objs.size)) ⟨h3, g, dr, tk, os⟩ := fun h3 st3 s3 =>
  q h3 st3 (s3.extBut _ _ (Nat.ne_of_gt tl) t2) (by show h3.objs.size = hp.objs.size + 1; rw [s3.1, z2]) fun b o hb x => s3.extBut b o hb (k2 b o hb x)
 refine wpAny_bind ?_; unfold Builtin.Dict_items.ownedTupleIsFree
 rcases al with ⟨rfl, rfl⟩ | ⟨a, oa, f, rfl, rfl, ha, hat⟩
 ·refine wpAny_bind (wpAny_field i2 rfl (x := .none) rfl (wpAny_pure ?_)); simp only [if_true]
  refine wpAny_bind (wpAny_field i2 rfl (x := ok) rfl (wpAny_bind (wpAny_field i2 rfl (x := ov) rfl ?_)))
  refine wpAny_bind (wpAny_setField_rec i2 (by simp) fun h3 i3 s3 => ?_)
  replace s3 : Heap.SameBut t h2 h3 := s3
  replace i3 : IR h3 t d (i + 1) es.size ep .none (.bool false) e.key ov := i3
  refine wpAny_bind (wpAny_setField_rec i3 (by simp) fun h4 i4 s4 => ?_)
  replace s4 : Heap.SameBut t h3 h4 := s4
  replace i4 : IR h4 t d (i + 1) es.size ep .none (.bool false) e.key e.val := i4
  refine wpAny_bind (wpAny_setField_rec i4 (by simp) fun h5 i5 s5 => ?_)
  replace s5 : Heap.SameBut t h4 h5 := s5
  replace i5 : IR h5 t d (i + 1) es.size ep (rawInt hp.objs.size) (.bool false) e.key e.val := i5
  refine wpAny_bind (wpAny_setField_rec i5 (by simp) fun h6 i6 s6 => ?_)
  replace s6 : Heap.SameBut t h5 h6 := s6
  replace i6 : IR h6 t d (i + 1) es.size ep (rawInt hp.objs.size) (.bool false) e.key e.val := i6
  have sa : Heap.SameBut t h2 h6 := ⟨by rw [s6.1, s5.1, s4.1, s3.1], fun b hb => by rw [s6.2 b hb, s5.2 b hb, s4.2 b hb, s3.2 b hb]⟩
  exact wpAny_bind (wpAny_letGo (wpAny_pure (wpAny_pure ⟨_, rfl, wpAny_pure (fin h6 ⟨_, _, _, _, i6, .inr ⟨_, _, _, rfl, rfl, sa.extBut _ _ (Nat.ne_of_gt tl) t2, Nat.ne_of_gt tl⟩⟩ sa)⟩)))
 ·have a2 : h2.get? a = some oa := k2 a oa hat ha
  refine wpAny_bind (wpAny_field i2 rfl (x := rawInt a) rfl ?_); show wpAny _ _ (loadIfAlive ((a : Int).toNat) >>= _) _ _ _
  rw [Int.toNat_natCast]; refine wpAny_bind (kdx_alive a2 ?_); simp only [Option.isNone_some, Bool.false_eq_true, if_false]
  refine wpAny_bind (wpAny_field i2 rfl (x := .bool f) rfl ?_)
  cases f with
  | true =>
   rw [if_neg (show ¬ ((Value.bool true != Value.bool true) = true) by decide)]; refine wpAny_pure ?_; simp only [Bool.false_eq_true, if_false]
   exact wpAny_pure (wpAny_pure ⟨_, rfl, wpAny_pure (fin h2 ⟨_, _, _, _, i2, .inr ⟨a, oa, _, rfl, rfl, a2, hat⟩⟩ (Heap.SameBut.refl _ _))⟩)
  | false =>
   rw [if_pos (show (Value.bool false != Value.bool true) = true from rfl)]
   refine wpAny_bind (wpAny_setField_rec i2 (by simp) fun h3 i3 s3 => ?_)
   replace s3 : Heap.SameBut t h2 h3 := s3
   replace i3 : IR h3 t d (i + 1) es.size ep (rawInt a) (.bool true) ok ov := i3
   refine wpAny_pure ?_; simp only [Bool.false_eq_true, if_false]
   exact wpAny_pure (wpAny_pure ⟨_, rfl, wpAny_pure (fin h3 ⟨_, _, _, _, i3, .inr ⟨a, oa, _, rfl, rfl, s3.extBut _ _ hat a2, hat⟩⟩ s3)⟩)
theorem iE {Q : Option Value -> Shared -> Prop} (hh : A.handled = none) (st : ItS s.heap t d i es.size ep) (hm : DE s.heap d es ep) (hx : es[i]? = none) (q : ∀ h', Heap.ExtBut t s.heap h' -> Q none { s with heap := h' }) : wpAny (model prog w) A (pyNext (.ref t)) Q E s := by
 obtain ⟨f0, f1, ok, ov, hit, _⟩ := st
 obtain ⟨od, e2, _, d2⟩ := hm
 have T : s.TypeIs (.ref t) "dict_itemiterator" := ⟨_, hit, rfl⟩
 unfold pyNext
 refine wpAny_bind (wpAny_attempt (wpAny_callSpecial?_slot (name := Str.ofString "__next__") T F.slot_dict_itemiterator_next (wpAny_call_entry F.slot_dict_itemiterator_next T F.entry_dict_itemiterator_next ?_ (F.args_dict_itemiterator_next_1 _))))
 refine wpAny_bind (wpAny_pure (wpAny_bind (wpAny_bind ?_)))
 first | refine wpAny_bind (wpAny_typeNameOfWhole_itemiter T (wpAny_pure ?_)) | refine wpAny_bind (wpAny_typeNameOf_itemiter T (wpAny_pure ?_))
 refine wpAny_bind (wpAny_fieldsOf hit rfl ?_); simp only [show Builtin.Dict_items.ownsTuple "dict_itemiterator" = true by decide, if_true]
 show wpAny _ _ (if (Value.ref d == Value.none) = true then _ else _) _ _ s; rw [if_neg (show ¬ ((Value.ref d == Value.none) = true) by intro z; cases z)]
 refine wpAny_bind (wpAny_pure (wpAny_bind (wpAny_dictEntries e2 d2 ?_))); rw [if_neg (by simp)]
 refine wpAny_bind (wpAny_pure (wpAny_bind (wpAny_dictEpoch e2 d2 ?_))); rw [if_neg (by simp)]; refine wpAny_pure ?_
 simp only [show ¬ ((i : Int) < 0) by omega, if_false, Int.toNat_natCast, hx]; refine wpAny_bind ?_
 first | refine wpAny_bind (wpAny_typeNameOfWhole_itemiter T (wpAny_pure ?_)) | refine wpAny_bind (wpAny_typeNameOf_itemiter T (wpAny_pure ?_))
 show wpAny _ _ (setField (.ref t) 2 .none >>= _) _ _ s; refine wpAny_bind (wpAny_setField hit rfl (by simp) ?_)
 show wpAny _ _ (newExc (.type "StopIteration") [] >>= _) _ _ _; refine wpAny_bind ?_; simp only [newExc, newTuple]
 refine wpAny_bind (wpAny_newObj_type ?_ (by size_fits)); refine wpAny_bind (m := firstArgMember _ _) (wpAny_of_eq (a := Value.none) (by first | rfl | (simp only [firstArgMember]; rfl)) ?_)
 refine wpAny_newObj_type ?_ (by size_fits); simp only [raiseNew]
 refine wpAny_bind (wpAny_handled ?_); rw [show A.in1.handled = none from hh]; refine wpAny_bind (wpAny_pure (wpAny_throw ?_))
 exact wpAny_bind (wpAny_isInstance (T := "StopIteration") (b := true) ⟨_, Heap.get?_push_size _ rfl, rfl⟩ isSubtype_stop (wpAny_pure (q _ (((Heap.SameBut.update ..).extBut.push _).push _))))
end
theorem ItS.keep {h h' : Heap} {t d S : Addr} {i n ep : Nat} (x : ItS h t d i n ep) (k : ∀ b o, b ≠ S -> h.get? b = some o -> h'.get? b = some o) (hs : ∃ o, h'.get? S = some o) (ht : t ≠ S) : ItS h' t d i n ep := by
 obtain ⟨f0, f1, ok, ov, ir, al⟩ := x
 refine ⟨f0, f1, ok, ov, k _ _ ht ir, ?_⟩
 rcases al with al | ⟨a, oa, f, e1, e2, ha, hat⟩
 ·exact .inl al
 ·by_cases z : a = S
  ·obtain ⟨o, ho⟩ := hs
   exact .inr ⟨a, o, f, e1, e2, by rw [z]; exact ho, hat⟩
  ·exact .inr ⟨a, oa, f, e1, e2, k _ _ z ha, hat⟩
structure ItG (es : Array DictEntry) (lo : Addr) (h : Heap) (as : List Addr) : Prop where
 rise : as.Pairwise (· < ·)
 above : ∀ a ∈ as, lo < a
 pairs : ∀ (j : Nat) (a : Addr), as[j]? = some a -> ∃ e, es[j]? = some e /\ h.get? a = some { cls := .type "tuple", data := .seq #[e.key, e.val] }
theorem ItG.lt {es : Array DictEntry} {lo : Addr} {h : Heap} {as : List Addr} (g : ItG es lo h as) {a : Addr} (ha : a ∈ as) : a < h.objs.size := by
 obtain ⟨j, hj⟩ := List.mem_iff_getElem?.mp ha
 obtain ⟨_, _, e⟩ := g.pairs j a hj
 exact Heap.lt_size e
section
variable {prog : Program} {w : World} {A : Around} {s : Shared} {R : Result -> Shared -> Prop} {es : Array DictEntry} {ep : Nat}
theorem gP {S I d : Addr} (hh : A.handled = none) (hSI : S < I) (hSd : d ≠ S) (hId : d ≠ I) (hn : es.size <= sizeLine) (res : Value) {h1 : Heap}
  (q : ∀ h' tk acc c as, (∀ b o, b ≠ S -> b ≠ I -> h1.get? b = some o -> h'.get? b = some o) -> h'.get? S = some { cls := .type "list", dict := none, data := .seq acc c, slots := #[] } -> as.length = es.size -> ItG es I h' as -> acc.toList = as.map Value.ref -> R (.ok (.ret res)) { s with heap := h', toks := tk }) :
  ∀ (k i : Nat) (h : Heap) (tk c : Nat) (acc : Array Value) (as : List Addr), es.size - i = k -> i <= es.size -> ItS h I d i es.size ep -> DE h d es ep -> (∀ b o, b ≠ S -> b ≠ I -> h1.get? b = some o -> h.get? b = some o) ->
   h.get? S = some { cls := .type "list", dict := none, data := .seq acc c, slots := #[] } -> acc.toList = as.map Value.ref -> as.length = i -> ItG es I h as -> I < h.objs.size ->
   codeAny (model prog w) A (.builtin "list.extend.loop" ⟨[.ref S, .ref I, res], []⟩) R { s with heap := h, toks := tk }
 | 0, i, h, tk, c, acc, as, hk, hi, st, D, kp, hS, ea, la, G, lI => by
  have ne : S ≠ I := Nat.ne_of_lt hSI
  refine codeAny_builtin PySem.F.entry_extend_loop ?_; rw [Around.under_plainId PySem.F.plain_extend_loop _]
  show wpAny _ A.in1 (pyNext (.ref I) >>= _) _ _ _; refine wpAny_bind (iE (s := { s with heap := h, toks := tk }) (A := A.in1) hh st D (Array.getElem?_eq_none (by omega)) fun h' x => ?_)
  refine wpAny_pure (q h' tk acc c as (fun b o a1 a2 e => x b o a2 (kp b o a1 a2 e)) (x S _ ne hS) (by omega) ⟨G.rise, G.above, fun j a hj => ?_⟩ ea)
  obtain ⟨e, e1, e2⟩ := G.pairs j a hj
  exact ⟨e, e1, x a _ (Nat.ne_of_gt (G.above a (List.mem_of_getElem? hj))) e2⟩
 | k + 1, i, h, tk, c, acc, as, hk, hi, st, D, kp, hS, ea, la, G, lI => by
  have ne : S ≠ I := Nat.ne_of_lt hSI
  have lt : i < es.size := by omega
  have sz : acc.size = i := by rw [<- Array.length_toList, ea, List.length_map, la]
  have lS : S < h.objs.size := Heap.lt_size hS
  refine codeAny_builtin PySem.F.entry_extend_loop ?_; rw [Around.under_plainId PySem.F.plain_extend_loop _]
  show wpAny _ A.in1 (pyNext (.ref I) >>= _) _ _ _; refine wpAny_bind (mN (s := { s with heap := h, toks := tk }) (e := es[i]) st D (Array.getElem?_eq_getElem lt) fun h' st' ht hz hkp => ?_)
  dsimp only at ht hz hkp ⊢
  have hS' := hkp S _ ne hS
  have up : ∀ b o, b ≠ S -> h'.get? b = some o -> (h'.update S (Obj.mapSeq (·.push (Value.ref h.objs.size)))).get? b = some o := fun b o hb e => (Heap.get?_update_other _ _ (Ne.symm hb)).trans e
  have us := Heap.get?_update_self (Obj.mapSeq (·.push (Value.ref h.objs.size))) hS' rfl
  show wpAny _ A.in1 (updateSeq S (·.push (Value.ref h.objs.size)) >>= _) _ _ _; refine wpAny_bind ?_
  refine wpAny_updateSeq hS' rfl (wpAny_pure ⟨plainId_quiet PySem.F.plain_extend_loop _, gP hh hSI hSd hId hn res q k (i + 1) _ tk _ (acc.push (Value.ref h.objs.size)) (as ++ [h.objs.size]) (by omega) lt (st'.keep up ⟨_, us⟩ (Ne.symm ne)) (D.at fun o e => up d o hSd (hkp d o hId e))
   (fun b o a1 a2 e => up b o a1 (hkp b o a2 (kp b o a1 a2 e))) us (by rw [Array.toList_push, ea, List.map_append]; rfl) (by rw [List.length_append, la]; rfl) ⟨?_, ?_, ?_⟩ ?_⟩) (by rw [sz]; omega) (by show (acc.push (Value.ref h.objs.size)).size <= sizeLine + 1; rw [Array.size_push, sz]; omega)
  ·refine List.pairwise_append.mpr ⟨G.rise, List.pairwise_singleton _ _, fun a ha b hb => ?_⟩
   rw [List.mem_singleton.mp hb]; exact G.lt ha
  ·intro a ha
   rcases List.mem_append.mp ha with ha | ha
   ·exact G.above a ha
   ·rw [List.mem_singleton.mp ha]; exact lI
  ·intro j b hj
   by_cases h1 : j < as.length
   ·rw [List.getElem?_append_left h1] at hj
    obtain ⟨e, e1, e2⟩ := G.pairs j b hj
    have hb := G.above b (List.mem_of_getElem? hj)
    exact ⟨e, e1, up b _ (Nat.ne_of_gt (Nat.lt_trans hSI hb)) (hkp b _ (Nat.ne_of_gt hb) e2)⟩
   ·have h2 := (List.getElem?_eq_some_iff.mp hj).1
    rw [List.length_append, List.length_singleton] at h2
    obtain rfl : j = as.length := by omega
    obtain rfl : h.objs.size = b := by simpa using hj
    exact ⟨es[i], by rw [la]; exact Array.getElem?_eq_getElem lt, up _ _ (Nat.ne_of_gt lS) ht⟩
  ·have e : (h'.update S (Obj.mapSeq (·.push (Value.ref h.objs.size)))).get? h.objs.size = _ := up _ _ (Nat.ne_of_gt lS) ht
   exact Nat.lt_trans lI (Heap.lt_size e)
end
section
variable {prog : Program} {w : World} {A : Around} {E : Value -> Shared -> Prop} {s : Shared} {r d : Addr} {es : Array DictEntry} {ep : Nat}
theorem fo {R : Result -> Shared -> Prop} (hh : A.handled = none) (hv : s.heap.IsItemsView r d) (hm : DE s.heap d es ep) (S : Addr) (hSr : S ≠ r) (hSd : d ≠ S) (res : Value) (c0 : Nat) (hS : s.heap.get? S = some { cls := .type "list", data := .seq #[] c0 })
  (q : ∀ h' tk acc c as, (∀ b o, b ≠ S -> s.heap.get? b = some o -> h'.get? b = some o) -> h'.get? S = some { cls := .type "list", dict := none, data := .seq acc c, slots := #[] } -> as.length = es.size -> ItG es s.heap.objs.size h' as -> acc.toList = as.map Value.ref -> R (.ok (.ret res)) { s with heap := h', toks := tk }) (hn : es.size <= sizeLine) :
  wpAny (model prog w) A.in1 (Builtin.List.listExtendWith (.ref S) (.ref r) res) (fun fin s' => match fin with | .done f => R (.ok f) s' | .again c' => c'.quiet = true /\ codeAny (model prog w) A c' R s') (fun e s' => R (.error e) s') s := by
 have lS : S < s.heap.objs.size := Heap.lt_size hS
 have go : ∀ (h : Heap) (c1 tk : Nat), (∀ b o, b ≠ S -> (s.heap.push { cls := .type "dict_itemiterator", data := .fields #[.none, .bool false, .ref d, .int 0 0, .int es.size 0, .int ep 0, .none, .none] }).get? b = some o -> h.get? b = some o) -> h.get? S = some { cls := .type "list", data := .seq #[] c1 } ->
   codeAny (model prog w) A (.builtin "list.extend.loop" ⟨[.ref S, .ref s.heap.objs.size, res], []⟩) R { s with heap := h, toks := tk } := fun h c1 tk hk hS1 => by
  have hI := hk s.heap.objs.size _ (Nat.ne_of_gt lS) (Heap.get?_push_size _ rfl)
  exact gP (ep := ep) (s := s) (h1 := s.heap) hh lS hSd (Nat.ne_of_lt hm.lt) hn res (fun h' tk' acc c as k' a1 a2 a3 a4 => q h' tk' acc c as (fun b o hb e => k' b o hb (Nat.ne_of_lt (Heap.lt_size e)) e) a1 a2 a3 a4)
   es.size 0 h tk c1 #[] [] (Nat.sub_zero _) (Nat.zero_le _) ⟨_, _, _, _, hI, .inl ⟨rfl, rfl⟩⟩ (hm.at fun o e => hk d o hSd (Heap.get?_push_of_some _ e)) (fun b o hb _ e => hk b o hb (Heap.get?_push_of_some _ e)) hS1 rfl rfl ⟨List.Pairwise.nil, (fun _ z => nomatch z), (fun j a hj => by simp at hj)⟩ (Heap.lt_size hI)
 unfold Builtin.List.listExtendWith; refine wpAny_bind (wpAny_typeOf (T := "dict_items") hv.typeIs ?_)
 simp only [show Builtin.List.listSameRef (.ref S) (.ref r) = false by simp [Builtin.List.listSameRef, hSr], show (Value.type "dict_items" == Value.type "list") = false by decide, show (Value.type "dict_items" == Value.type "tuple") = false by decide, Bool.or_false, Bool.false_eq_true, if_false]
 refine wpAny_bind (gI hv hm ?_)
 have hS1 := Heap.get?_push_of_some { cls := .type "dict_itemiterator", data := .fields #[.none, .bool false, .ref d, .int 0 0, .int es.size 0, .int ep 0, .none, .none] } hS
 refine wpAny_bind (wpAny_holding (kdx_hint (let ⟨o, x, y, _⟩ := hv; ⟨o, Heap.get?_push_of_some _ x, y⟩) ?_))
 refine wpAny_ite_split (fun _ => ?_) (fun _ => wpAny_pure ⟨plainId_quiet PySem.F.plain_extend_loop _, go _ c0 _ (fun b o _ e => e) hS1⟩)
 refine wpAny_bind (wpAny_rule (wpAny_bind ?_)); show wpAny _ _ (updateSeq S (·.push .none) >>= fun _ => updateSeq S (·.pop)) _ _ _
 refine wpAny_bind (wpAny_updateSeq hS1 rfl ?_)
 have hS2 := Heap.get?_update_self (Obj.mapSeq (·.push Value.none)) hS1 rfl
 refine wpAny_updateSeq (hz := by seq_fits) hS2 rfl (wpAny_pure ⟨plainId_quiet PySem.F.plain_extend_loop _, go _ _ _ (fun b o hb e => ?_) (Heap.get?_update_self (Obj.mapSeq (·.pop)) hS2 rfl)⟩)
 exact (Heap.get?_update_other _ _ (Ne.symm hb)).trans ((Heap.get?_update_other _ _ (Ne.symm hb)).trans e)
theorem ie {R : List Value -> Shared -> Prop} (hh : A.handled = none) (hv : s.heap.IsItemsView r d) (hm : DE s.heap d es ep) (hn : es.size <= sizeLine)
  (q : ∀ (h' : Heap) (tk : Nat) (as : List Addr), (∀ b o, s.heap.get? b = some o -> h'.get? b = some o) -> as.length = es.size -> ItG es s.heap.objs.size h' as -> R (as.map Value.ref) { s with heap := h', toks := tk }) : wpAny (model prog w) A (collect (.ref r)) R E s := by
 have lr : r < s.heap.objs.size := let ⟨_, ho, _⟩ := hv; Heap.lt_size ho
 unfold collect; refine wpAny_bind (wpAny_runValue (codeAny_builtin entry_proto_collect' ?_)); rw [Around.under_plainId PySem.F.plain_proto_collect _]
 show wpAny _ A.in1 (newList [] >>= fun l => again (.builtin "list.__iadd__" ⟨[l, .ref r], []⟩)) _ _ s; refine wpAny_bind (wpAny_newObj_type ?_)
 refine wpAny_pure ⟨plainId_quiet PySem.F.plain_list_iadd _, codeAny_builtin entry_list_iadd' ?_⟩; rw [Around.under_plainId PySem.F.plain_list_iadd _]
 have hS1 : (s.heap.push { cls := .type "list", data := .seq ([] : List Value).toArray }).get? s.heap.objs.size = some { cls := .type "list", data := .seq #[] } := Heap.get?_push_size _ rfl
 show wpAny _ A.in1 (Builtin.List.listExtendWith (.ref s.heap.objs.size) (.ref r) (.ref s.heap.objs.size)) _ _ _
 have key := fo (A := A) (s := { s with heap := s.heap.push { cls := .type "list", data := .seq ([] : List Value).toArray } }) (es := es) (ep := ep) (prog := prog) (w := w)
  (R := fun (c : Result) (s' : Shared) => ∃ (h' : Heap) (tk : Nat) (acc' : Array Value) (c' : Nat) (as : List Addr), c = .ok (.ret (.ref s.heap.objs.size)) /\ s' = { s with heap := h', toks := tk } /\ (∀ b o, s.heap.get? b = some o -> h'.get? b = some o) /\ h'.get? s.heap.objs.size = some { cls := .type "list", dict := none, data := .seq acc' c', slots := #[] } /\ as.length = es.size /\ ItG es s.heap.objs.size h' as /\ acc'.toList = as.map Value.ref)
  hh (let ⟨o, x, y⟩ := hv; ⟨o, Heap.get?_push_of_some _ x, y⟩) (hm.at fun o e => Heap.get?_push_of_some _ e) s.heap.objs.size (Nat.ne_of_gt lr) (Nat.ne_of_lt hm.lt) (.ref s.heap.objs.size) 0 hS1
  (fun h' tk acc' c' as k' a1 a2 a3 a4 => ⟨h', tk, acc', c', as, rfl, rfl, fun b o e => k' b o (Nat.ne_of_lt (Heap.lt_size e)) (Heap.get?_push_of_some _ e), a1, a2, ⟨a3.rise, fun a ha => Nat.lt_trans (Nat.lt_succ_self _) (by have := a3.above a ha; rw [show ({ s with heap := s.heap.push { cls := .type "list", data := .seq ([] : List Value).toArray } } : Shared).heap.objs.size = s.heap.objs.size + 1 from Heap.size_push _ _] at this; exact this), a3.pairs⟩, a4⟩) hn
 have fin : ∀ (h' : Heap) (tk : Nat) (acc' : Array Value) (c' : Nat) (as : List Addr), (∀ b o, s.heap.get? b = some o -> h'.get? b = some o) -> h'.get? s.heap.objs.size = some { cls := .type "list", dict := none, data := .seq acc' c', slots := #[] } -> as.length = es.size -> ItG es s.heap.objs.size h' as -> acc'.toList = as.map Value.ref -> R acc'.toList { s with heap := h', toks := tk } := fun h' tk acc' c' as a1 _ a2 a3 a4 => by rw [a4]; exact q h' tk as a1 a2 a3
 refine wpAny_mono key (fun f s' x => ?_) fun e s' x => by obtain ⟨_, _, _, _, _, z, _⟩ := x; cases z
 cases f with
 | done f =>
  obtain ⟨h', tk, acc', c', as, e, rfl, a1, a2, a3, a4, a5⟩ := x
  cases e
  exact wpAny_bind (wpAny_load a2 (wpAny_pure (fin h' tk acc' c' as a1 a2 a3 a4 a5)))
 | again c1 =>
  refine ⟨x.1, codeAny_mono x.2 fun c s2 y => ?_⟩
  obtain ⟨h', tk, acc', c', as, rfl, rfl, a1, a2, a3, a4, a5⟩ := y
  exact wpAny_bind (wpAny_load a2 (wpAny_pure (fin h' tk acc' c' as a1 a2 a3 a4 a5)))
end
open PySem PySem.Spec PyProof.Rows PySem.W KB
abbrev PM := List Pr × Int
abbrev PX := List Pr × Addr × Value
def DpP (P : Program) (w : World) (a : Addr) (xs : List PX) (h : Heap) : Prop := ∃ o es ep, h.get? a = some o /\ o.ExactDict /\ o.data = .dict es ep /\ es.toList = xs.map (entryOfKey (eA P w))
def DpO (P : Program) (w : World) (a : Addr) (xs : List PX) : HO := .ext (DpP P w a xs)
def Tp (K : PySem.W.Frag) (H : Hp) (a : Addr) (xs : List V) : Prop := H a = some (.tup xs) \/ ∃ (o : Obj) (its : Array Value) (n : Nat), K.lookup a = some o /\ o.cls = .type "tuple" /\ o.data = .seq its n /\ its.size <= sizeLine /\ aG xs its.toList
def bT (K : PySem.W.Frag) (H : Hp) (ps : List Pr) (b : Addr) : Prop := Rep H (.tup (aD ps)) (.ref b) \/ (ps = [] /\ Tp K H b [])
def TmR (K : PySem.W.Frag) (H : Hp) (p : PM) (v : V) : Prop := ∃ a b, v = .ref a /\ Tp K H a [.ref b, .int p.2] /\ bT K H p.1 b
def SmR (K : PySem.W.Frag) (H : Hp) (m : List PM) (v : V) : Prop := ∃ a us, v = .ref a /\ Tp K H a us /\ Paired (TmR K H) m us
section
variable {K : PySem.W.Frag} {H H' : Hp} {a b : Addr} {xs : List V} {ps : List Pr} {p : PM} {m : List PM} {v : V}
theorem Tp.sq (h : Tp K H a xs) : SqT K H a xs := by
 rcases h with h | h
 ·exact SqT.of h
 ·exact .inr h
theorem Tp.of (h : H a = some (.tup xs)) : Tp K H a xs := .inl h
theorem Tp.tups (t : ∀ c zs, H c = some (.tup zs) -> H' c = some (.tup zs)) (h : Tp K H a xs) : Tp K H' a xs := h.imp (t _ _) id
theorem gL (ps : List Pr) : L2.Pl 3 (.tup (aD ps)) := .tup fun d hd => by
 obtain ⟨p, _, rfl⟩ := List.mem_map.mp hd
 exact .tup fun e he => by
  rcases List.mem_cons.mp he with rfl | he
  ·exact .str
  ·rw [List.mem_singleton.mp he]; exact .int
theorem bT.tups (t : ∀ c zs, H c = some (.tup zs) -> H' c = some (.tup zs)) (h : bT K H ps b) : bT K H' ps b := h.imp (ki t (gL ps)) fun ⟨e, h⟩ => ⟨e, h.tups t⟩
theorem bT.mono (t : ao H H') (h : bT K H ps b) : bT K H' ps b := h.tups fun _ _ e => t _ _ e
theorem TmR.tups (t : ∀ c zs, H c = some (.tup zs) -> H' c = some (.tup zs)) : TmR K H p v -> TmR K H' p v := fun ⟨a, b, e, h, k⟩ => ⟨a, b, e, h.tups t, k.tups t⟩
theorem cn (t : ∀ c zs, H c = some (.tup zs) -> H' c = some (.tup zs)) : ∀ {m : List PM} {us : List V}, Paired (TmR K H) m us -> Paired (TmR K H') m us
 | _, _, .nil => .nil
 | _, _, .cons r q => .cons (r.tups t) (cn t q)
end
def pvR (K : PySem.W.Frag) (H : Hp) (p : PM) (x : PX) : Prop := p.1 = x.1 /\ bT K H p.1 x.2.1 /\ ∃ t, x.2.2 = .int p.2 t
def Dp (K : PySem.W.Frag) (P : Program) (w : World) (H : Hp) (a : Addr) (m : List PM) : Prop := ∃ xs : List PX, H a = some (DpO P w a xs) /\ (a == sysModules) = false /\ m.length <= 100000 /\ (m.map (·.1)).Nodup /\ Paired (pvR K H) m xs
def dh (m : List PM) (k : List Pr) : Option Int := (m.find? fun p => decide (p.1 = k)).map (·.2)
def di (m : List PM) (k : List Pr) (n : Int) : List PM := if (dh m k).isSome then m.map (fun p => if p.1 = k then (p.1, n) else p) else m ++ [(k, n)]
theorem vK {P : Program} {w : World} {H : Hp} {h : Heap} {ps : List Pr} {b : Addr} (ok : HOk P w H h) (r : Rep H (.tup (aD ps)) (.ref b)) : bV P w h ps b := by
 obtain ⟨a, vs, e, ha, rv⟩ := Rep.tup_inv r
 cases e
 obtain ⟨zz, its, vr, ⟨o, h1, h2, n, h3⟩, _⟩ := (show aF P w H h b (.tup vs) from ok b _ ha)
 refine ⟨o, its.toArray, n, h1, h2, h3, ?_⟩
 show bh P w h ps its
 clear h3 h2 h1 ha r zz
 induction ps generalizing vs its with
 | nil =>
  obtain rfl : vs = [] := by simpa only [aD, List.map_nil, Reps] using rv
  cases vr
  exact .nil
 | cons p ps ih =>
  rw [show aD (p :: ps) = .tup [.str p.1, .int p.2] :: aD ps from rfl] at rv
  simp only [Reps] at rv
  obtain ⟨v, vs', rfl, r1, r2⟩ := rv
  obtain ⟨c, us, rfl, hc, ru⟩ := Rep.tup_inv r1
  obtain ⟨x, y, rfl, rx, ry⟩ := Reps.two ru
  obtain rfl : x = .str p.1 := by simpa only [Rep] using rx
  obtain rfl : y = .int p.2 := by simpa only [Rep] using ry
  cases vr with
  | cons r1 r2' =>
   cases r1
   exact .cons (hV (ks := prK p) ok hc) (ih _ r2 _ r2')
theorem jm {X : Cx} {pins : List (Addr × Obj)} {σ : St} {H : Hp} {s : Shared} {ps : List Pr} {b : Addr} (I : Inv X pins σ H s) (r : bT X.K H ps b) : bV X.prog X.w s.heap ps b := by
 rcases r with r | ⟨rfl, r⟩
 ·exact vK I.hok r
 ·obtain ⟨its, vr, ⟨o, h1, h2, n, h3⟩, _⟩ := I.tuple r.sq
  cases vr
  exact ⟨o, #[], n, h1, h2, h3, .nil⟩
section
variable {K : PySem.W.Frag} {P : Program} {w : World} {H H' : Hp} {h : Heap} {a b : Addr} {m : List PM} {xs : List PX} {k : List Pr} {n : Int}
theorem jD : ∀ {m : List PM} {xs : List PX}, Paired (pvR K H) m xs -> m.map (·.1) = xs.map (·.1)
 | _, _, .nil => rfl
 | _, _, .cons r t => by rw [List.map_cons, List.map_cons, r.1, jD t]
theorem qC (r : Paired (pvR K H) m xs) : m.length = xs.length := by have := congrArg List.length (jD r); simpa using this
theorem mQ (k : List Pr) : ∀ {m : List PM} {xs : List PX}, Paired (pvR K H) m xs -> (dh m k = none /\ atKey xs k = none) \/ ∃ n c t, dh m k = some n /\ atKey xs k = some (c, .int n t)
 | _, _, .nil => .inl ⟨rfl, rfl⟩
 | p :: m, x :: xs, .cons r t => by
  unfold dh atKey
  rw [List.find?_cons, List.find?_cons]
  obtain ⟨e, _, tk, ev⟩ := r
  rw [<- e]
  by_cases z : p.1 = k
  ·rw [decide_eq_true z]
   refine .inr ⟨p.2, x.2.1, tk, rfl, ?_⟩
   rw [<- ev]; rfl
  ·rw [decide_eq_false z]
   exact mQ k t
theorem qX (k : List Pr) (n : Int) (tk : Tok) : ∀ {m : List PM} {xs : List PX}, Paired (pvR K H) m xs -> Paired (pvR K H) (m.map fun p => if p.1 = k then (p.1, n) else p) (xs.map (putAt k (.int n tk)))
 | _, _, .nil => .nil
 | p :: m, x :: xs, .cons r t => by
  rw [List.map_cons, List.map_cons]
  refine .cons ?_ (qX k n tk t)
  unfold putAt
  obtain ⟨e, rr, ev⟩ := r
  rw [<- e]
  by_cases z : p.1 = k
  ·rw [if_pos z, if_pos z]; exact ⟨rfl, rr, tk, rfl⟩
  ·rw [if_neg z, if_neg z]; exact ⟨e, rr, ev⟩
theorem oK {p : PM} {x : PX} : ∀ {m : List PM} {xs : List PX}, Paired (pvR K H) m xs -> pvR K H p x -> Paired (pvR K H) (m ++ [p]) (xs ++ [x])
 | _, _, .nil, h => .cons h .nil
 | _, _, .cons r t, h => .cons r (oK t h)
theorem vq (r : Paired (pvR K H) m xs) (rk : bT K H k b) (tk : Tok) : Paired (pvR K H) (di m k n) (storedH xs k b (.int n tk)) := by
 unfold di storedH
 rcases mQ k r with ⟨e1, e2⟩ | ⟨n', c, t, e1, e2⟩
 ·rw [e1, e2, if_neg (by decide), if_neg (by decide)]
  exact oK r ⟨rfl, rk, tk, rfl⟩
 ·rw [e1, e2, if_pos (show (some n').isSome = true from rfl), if_pos (show (some (c, Value.int n' t)).isSome = true from rfl)]
  exact qX k n tk r
theorem jO (k : ∀ c zs, H c = some (.tup zs) -> H' c = some (.tup zs)) : ∀ {m : List PM} {xs : List PX}, Paired (pvR K H) m xs -> Paired (pvR K H') m xs
 | _, _, .nil => .nil
 | _, _, .cons r t => .cons ⟨r.1, r.2.1.tups k, r.2.2⟩ (jO k t)
theorem tU {X : Cx} {pins : List (Addr × Obj)} {σ : St} {H : Hp} {s : Shared} (I : Inv X pins σ H s) : ∀ {m : List PM} {xs : List PX}, Paired (pvR X.K H) m xs -> ∀ x ∈ xs, (eA X.prog X.w).is s.heap x.1 x.2.1
 | _, _, .nil, x, hx => by cases hx
 | _, _, .cons r t, x, hx => by
  rcases List.mem_cons.mp hx with rfl | hx
  ·have q := jm I r.2.1
   rw [r.1] at q; exact q
  ·exact tU I t x hx
theorem iN {X : Cx} {pins : List (Addr × Obj)} {σ : St} {H : Hp} {s : Shared} (I : Inv X pins σ H s) (x : Dp X.K X.prog X.w H a m) : ∃ xs, H a = some (DpO X.prog X.w a xs) /\ (a == sysModules) = false /\ m.length <= 100000 /\ Paired (pvR X.K H) m xs /\ s.heap.DictOfH (eA X.prog X.w) a xs /\ (xs.map (·.1)).Nodup := by
 obtain ⟨xs, e, sm, l, nd, r⟩ := x
 obtain ⟨⟨o, es, ep, h1, h2, h3, h4⟩, _, _⟩ := (show aF X.prog X.w H s.heap a (DpO X.prog X.w a xs) from I.hok a _ e)
 have nd' : (xs.map (·.1)).Nodup := by rw [<- jD r]; exact nd
 refine ⟨xs, e, sm, l, r, ⟨o, es, ep, h1, h2, h3, h4, fun x hx => ?_, nd'⟩, nd'⟩
 exact tU I r x hx
theorem oY (nd : (m.map (·.1)).Nodup) : ((di m k n).map (·.1)).Nodup := by
 unfold di
 split
 ·have e : (m.map fun p => if p.1 = k then (p.1, n) else p).map (·.1) = m.map (·.1) := by
   rw [List.map_map]
   refine List.map_congr_left fun p _ => ?_
   show (if p.1 = k then (p.1, n) else p).1 = p.1
   split <;> rfl
  rw [e]; exact nd
 ·next h =>
  rw [List.map_append]
  refine List.nodup_append.mpr ⟨nd, List.pairwise_singleton _ _, fun x hx y hy => ?_⟩
  obtain ⟨p, hp, rfl⟩ := List.mem_map.mp hx
  rw [List.map_singleton, List.mem_singleton] at hy
  rw [hy]
  intro z
  apply h
  unfold dh
  rw [Option.isSome_map, List.find?_isSome]
  exact ⟨p, hp, decide_eq_true z⟩
theorem gr : (di m k n).length <= m.length + 1 := by
 unfold di
 split
 ·rw [List.length_map]; omega
 ·rw [List.length_append]; exact Nat.le_refl _
end
section
variable {X : Cx} {o e f i value : Expr} {apos cpos pos pos' : Pos} {td ty tx tv : TE}
def vp (K : PySem.W.Frag) (P : Program) (w : World) : TE := fun _ H Q => ∀ (p : Addr) (H' : Hp), H p = none -> aA p H H' -> Dp K P w H' p [] -> Q (.ref p) H'
theorem kD : PE X (.Dict [] [] pos) (vp X.K X.prog X.w) := fun pins s σ H Q I h => by
 have hn := I.hok.fresh (Nat.le_refl s.heap.objs.size)
 refine wpAny_Dict_empty ⟨.ref s.heap.objs.size, _, I.laid (a := s.heap.objs.size) (o := DpO X.prog X.w s.heap.objs.size []) (t' := s.toks) (fun _ _ q => Heap.get?_push_of_some _ q) (Nat.le_refl _) ?_, rfl, h _ _ hn (aA.upd _ _ _) ?_⟩
 ·exact ⟨⟨_, #[], 0, Heap.get?_push_size _ rfl, ⟨rfl, rfl, rfl⟩, rfl, rfl⟩, ⟨_, Heap.get?_push_size _ rfl⟩, fun h1 h2 ⟨o, es, ep, q, r⟩ k => ⟨o, es, ep, k o q, r⟩⟩
 ·refine ⟨[], ad, ?_, Nat.zero_le _, List.nodup_nil, .nil⟩
  have := I.big
  cases z : (s.heap.objs.size == sysModules) with
  | false => rfl
  | true => rw [eq_of_beq z] at this; exact absurd this (Nat.lt_irrefl _)
def sG (K : PySem.W.Frag) (P : Program) (w : World) (td ty tx : TE) : TE := fun σ H Q => td σ H fun x H1 => ∃ a m0, x = .ref a /\ Dp K P w H1 a m0 /\ ty σ H1 fun y H2 => tx σ H2 fun z H3 => ∃ m ps b n, Dp K P w H3 a m /\ y = .ref b /\ bT K H3 ps b /\ z = .int n /\ Q (.int ((dh m ps).getD n)) H3
theorem iL (hu : X.A.units + 2 < cLine) (ho : PE X o td) (he : PE X e ty) (hf : PE X f tx) (mm : M2 X o "get" apos e f cpos) : PE X (.Call (.Attribute o "get" apos) [e, f] [] cpos) (sG X.K X.prog X.w td ty tx) := by
 intro pins s σ H Q I h
 refine wpAny_Call_method mm.base mm.few mm.line PySem.F.plainAttrs_dict PySem.F.slot_dict_get PySem.F.type_dict_get (thn (ho pins s σ H _ I h) fun u s1 ⟨x, H1, I1, rx, a, m0, ex, d0, q1⟩ => ?_)
 subst ex
 obtain rfl : u = Value.ref a := rx
 obtain ⟨xs0, _, _, _, _, dd0, _⟩ := iN I1 d0
 refine ⟨dd0.typeIs, fun b q => by cases q; obtain ⟨ob, _, _, h1, h2, _⟩ := dd0; exact ⟨ob, h1, h2.2.1⟩, ?_⟩
 rw [mm.trees]
 refine Calls.callWith_builtin rfl (Calls.evalArgs_plain (Calls.spliced_cons (thn (he pins s1 σ H1 _ I1 q1) fun iv s2 ⟨y, H2, I2, ry, q2⟩ =>
  Calls.spliced_cons (thn (hf pins s2 σ H2 _ I2 q2) fun fv s3 ⟨z, H3, I3, rz, m, ps, b, n, d3, ey, rk, ez, q3⟩ => Calls.spliced_nil ?_))))
 subst ey ez
 cases (show iv = Value.ref b from ry)
 obtain ⟨xs, _, sm, _, r, dd, _⟩ := iN I3 d3
 refine call_meetsIn PySem.F.slot_dict_get dd.typeIs PySem.F.entry_dict_get (PySem.F.args_dict_get_3 _ _ _) (meetsH_dict_get_default (eA X.prog X.w) a b sm fv) ⟨hu, ps, xs, jm I3 rk, dd, .int ((dh m ps).getD n), H3, I3.tok _, ?_, q3⟩
 rcases mQ ps r with ⟨e1, e2⟩ | ⟨n', c, t, e1, e2⟩
 ·rw [e1, e2]; exact rz
 ·rw [e1, e2]; exact ⟨t, rfl⟩
def uD (K : PySem.W.Frag) (P : Program) (w : World) (td ty tv : TE) : TS := fun D σ H => tv σ H fun v H1 => td σ H1 fun x H2 => ty σ H2 fun y H3 => ∃ a m ps b n, x = .ref a /\ Dp K P w H3 a m /\ y = .ref b /\ bT K H3 ps b /\ v = .int n /\ m.length < 100000 /\ ∀ H4, aA a H3 H4 -> Dp K P w H4 a (di m ps n) -> D.nx σ H4
theorem lN (hu : X.A.units + 2 < cLine) (ho : PE X o td) (hi : PE X i ty) (hv : PE X value tv) (hs : swapsWith value (some (.Subscript o i pos')) pos.line X.env = pure false) : PS X (.Assign [.Subscript o i pos'] value pos) (uD X.K X.prog X.w td ty tv) := by
 intro pins s σ H D I h
 refine wpAny_Assign_Subscript (thn (hv pins s σ H _ I h) fun r s1 ⟨v, H1, I1, rv, q1⟩ => thn (ho pins s1 σ H1 _ I1 q1) fun u s2 ⟨x, H2, I2, rx, q2⟩ => thn (hi pins s2 σ H2 _ I2 q2) fun iv s3 ⟨y, H3, I3, ry, a, m, ps, b, n, ex, d3, ey, rk, ev, lm, q3⟩ => ?_) hs
 subst ex ey ev
 obtain rfl : u = Value.ref a := rx
 cases (show iv = Value.ref b from ry)
 obtain ⟨t, rfl⟩ := rv
 obtain ⟨xs, ea, sm, _, pr, dd, nd⟩ := iN I3 d3
 have lx : xs.length <= sizeLine := by rw [<- qC pr, sizeLine_eq]; omega
 refine wpAny_setItem_heap (hsz := lx) (knd := eA X.prog X.w) hu (jm I3 rk) dd fun h' dd' hs' => ?_
 obtain ⟨ob, es, ep, h1, h2, h3, h4, _, h5⟩ := dd'
 have I4 := dQ (t' := s3.toks + (eA X.prog X.w).draws ps) (ob := DpO X.prog X.w a (storedH xs ps b (.int n t))) I3 (by rw [ea]; exact True.intro) hs' ⟨ob, h1⟩ ⟨⟨ob, es, ep, h1, h2, h3, h4⟩, ⟨ob, h1⟩, fun g1 g2 ⟨o, es, ep, q, r⟩ k => ⟨o, es, ep, k o q, r⟩⟩
 have tt : ∀ c zs, H3 c = some (.tup zs) -> upd H3 a (DpO X.prog X.w a (storedH xs ps b (.int n t))) c = some (.tup zs) := fun c zs ec => by rw [ap (on ec ea (fun z => nomatch z))]; exact ec
 refine ⟨σ, _, I4, q3 _ (aA.upd _ _ _) ⟨_, ad, sm, Nat.le_trans gr lm, ?_, jO tt (vq pr rk t)⟩⟩
 obtain ⟨_, _, _, _, nm, _⟩ := d3
 exact oY nm
end
section
variable {X : Cx}
theorem pN : MtR X "dict.items" (fun x xs H Q => ∃ d m, x = .ref d /\ xs = [] /\ Dp X.K X.prog X.w H d m /\ ∀ v, H v = none -> Q (.ref v) (upd H v (bj v d))) := by
 intro pins s σ H x xs u us Q I rx rv h
 obtain ⟨d, m, rfl, rfl, hd, q⟩ := h
 cases rx
 cases rv
 obtain ⟨ys, _, sm, _, _, dd, _⟩ := iN I hd
 refine wpAny_call_entry PySem.F.slot_dict_items dd.typeIs PySem.F.entry_dict_items ?_ (PySem.F.args_dict_items_1 _)
 unfold Builtin.«dict.items»; refine wpAny_bind ?_; unfold Builtin.Dict.noArgs
 refine wpAny_bind (wpAny_notOrdered_dict dd.typeIs ?_); show wpAny _ _ (pure d) _ _ s; refine wpAny_pure ?_
 show wpAny _ _ (Builtin.Dict.showsAll d >>= _) _ _ s; unfold Builtin.Dict.showsAll; rw [if_neg (by rw [sm]; decide)]
 refine wpAny_bind (wpAny_pure (wpAny_bind (wpAny_newObj_type (wpAny_pure ⟨_, rfl, .ref s.heap.objs.size, _, I.laid (t' := s.toks) (a := s.heap.objs.size) (o := bj s.heap.objs.size d) (fun b u q => Heap.get?_push_of_some _ q) (Nat.le_refl _) ?_, rfl, q _ I.fresh⟩))))
 exact ⟨⟨_, Heap.get?_push_size _ rfl, rfl, rfl⟩, ⟨_, Heap.get?_push_size _ rfl⟩, fun h1 h2 ⟨o, e, r⟩ k => ⟨o, k o e, r⟩⟩
end
def ltP (p q : Pr) : Bool := if p.1 = q.1 then decide (p.2 < q.2) else decide (p.1.cps.toList < q.1.cps.toList)
def ltK : List Pr -> List Pr -> Bool
 | [], [] => false
 | [], _ :: _ => true
 | _ :: _, [] => false
 | p :: ps, q :: qs => if p = q then ltK ps qs else ltP p q
theorem sT (p : Pr) : ltP p p = false := by unfold ltP; rw [if_pos rfl]; exact decide_eq_false (Int.lt_irrefl _)
theorem uR {p q r : Pr} (h1 : ltP p q = true) (h2 : ltP q r = true) : ltP p r = true := by
 unfold ltP at h1 h2 ⊢
 by_cases a : p.1 = q.1
 ·rw [if_pos a] at h1
  by_cases b : q.1 = r.1
  ·rw [if_pos b] at h2
   rw [if_pos (a.trans b)]
   exact decide_eq_true (Int.lt_trans (of_decide_eq_true h1) (of_decide_eq_true h2))
  ·rw [if_neg b] at h2
   rw [a, if_neg b]; exact h2
 ·rw [if_neg a] at h1
  by_cases b : q.1 = r.1
  ·rw [<- b, if_neg a]; exact h1
  ·rw [if_neg b] at h2
   have l := List.lt_trans (of_decide_eq_true h1) (of_decide_eq_true h2)
   rw [if_neg (fun z => by rw [z] at l; exact absurd l (List.lt_irrefl _))]
   exact decide_eq_true l
theorem rV {p q : Pr} (ne : p ≠ q) (h : ltP p q = false) : ltP q p = true := by
 unfold ltP at h ⊢
 by_cases a : p.1 = q.1
 ·rw [if_pos a] at h
  rw [if_pos a.symm]
  have := of_decide_eq_false h
  have n2 : p.2 ≠ q.2 := fun z => ne (Prod.ext a z)
  exact decide_eq_true (by omega)
 ·rw [if_neg a] at h
  rw [if_neg (Ne.symm a)]
  exact decide_eq_true (gf (of_decide_eq_false h) fun z => a (jw z))
theorem uC {p q : Pr} (h : ltP p q = true) : p ≠ q := fun z => by rw [z, sT] at h; cases h
theorem cw : ∀ a : List Pr, ltK a a = false
 | [] => rfl
 | p :: a => by rw [ltK, if_pos rfl]; exact cw a
theorem jR : ∀ {a b c : List Pr}, ltK a b = true -> ltK b c = true -> ltK a c = true
 | [], [], _, h, _ => by cases h
 | [], _ :: _, [], _, h => by cases h
 | [], _ :: _, _ :: _, _, _ => rfl
 | _ :: _, [], _, h, _ => by cases h
 | _ :: _, _ :: _, [], _, h => by cases h
 | p :: a, q :: b, r :: c, h1, h2 => by
  rw [ltK] at h1 h2 ⊢
  by_cases e1 : p = q
  ·subst e1
   rw [if_pos rfl] at h1
   by_cases e2 : p = r
   ·rw [if_pos e2] at h2 ⊢; exact jR h1 h2
   ·rw [if_neg e2] at h2 ⊢; exact h2
  ·rw [if_neg e1] at h1
   by_cases e2 : q = r
   ·subst e2
    rw [if_neg e1]; exact h1
   ·rw [if_neg e2] at h2
    have l := uR h1 h2
    rw [if_neg (uC l)]; exact l
theorem gb : ∀ {a b : List Pr}, a ≠ b -> ltK a b = false -> ltK b a = true
 | [], [], h, _ => absurd rfl h
 | [], _ :: _, _, h => by cases h
 | _ :: _, [], _, _ => rfl
 | p :: a, q :: b, ne, h => by
  rw [ltK] at h ⊢
  by_cases e : p = q
  ·subst e
   rw [if_pos rfl] at h ⊢
   exact gb (fun z => ne (by rw [z])) h
  ·rw [if_neg e] at h
   rw [if_neg (Ne.symm e)]
   exact rV e h
theorem hU {α : Type} {p q : α -> Bool} : ∀ {l : List α} {a : α}, (∀ z ∈ l, p z = true -> q z = true) -> a ∈ l -> q a = true -> p a = false -> l.countP p < l.countP q
 | x :: l, a, h, ha, qa, pa => by
  have m := List.countP_mono_left (p := p) (q := q) (l := l) fun z hz => h z (List.mem_cons_of_mem _ hz)
  rw [List.countP_cons, List.countP_cons]
  rcases List.mem_cons.mp ha with rfl | ha
  ·rw [qa, pa]; simp; omega
  ·have ih := hU (fun z hz => h z (List.mem_cons_of_mem _ hz)) ha qa pa
   have := h x List.mem_cons_self
   cases hp : p x with
   | false => simp; omega
   | true => rw [this hp]; simp; omega
theorem sv {l : List (List Pr)} {a b : List Pr} (ha : a ∈ l) (hb : b ∈ l) : decide (l.countP (fun z => ltK z a) < l.countP (fun z => ltK z b)) = ltK a b := by
 cases h : ltK a b with
 | true => exact decide_eq_true (hU (fun z _ hz => jR hz h) ha h (cw a))
 | false =>
  refine decide_eq_false (Nat.not_lt.mpr ?_)
  by_cases e : a = b
  ·subst e; exact Nat.le_refl _
  ·exact Nat.le_of_lt (hU (fun z _ hz => jR hz (gb e h)) hb (gb e h) (cw b))
section
variable {prog : Program} {w : World} {A : Around} {E : Value -> Shared -> Prop} {s : Shared}
def qP (prog : Program) (w : World) (A : Around) (fin : Bool) (Q : Value -> Shared -> Prop) : List (Value × Value) -> Shared -> Prop
 | [], s => Q (.bool fin) s
 | (x, y) :: r, s => wpAny (model prog w) A (eqBool x y) (fun e s' => if e = true then qP prog w A fin Q r s' else wpAny (model prog w) A (richCompare .Lt x y) (fun v s2 => v ≠ .notImplemented /\ Q v s2) (fun _ _ => False) s') (fun _ _ => False) s
theorem og {a b : Addr} {oa ob : Obj} {xs ys : Array Value} {n k : Nat} {Q : Value -> Shared -> Prop} (hu : A.units < cLine) (ha : s.heap.get? a = some oa) (ca : oa.cls = .type "tuple") (da : oa.data = .seq xs n) (hb : s.heap.get? b = some ob) (cb : ob.cls = .type "tuple") (db : ob.data = .seq ys k)
  (h : qP prog w A.in1 (decide (xs.size < ys.size)) Q (xs.toList.zip ys.toList) s) : wpAny (model prog w) A (richCompare .Lt (.ref a) (.ref b)) Q E s := by
 have Ta : s.TypeIs (.ref a) "tuple" := ⟨oa, ha, ca⟩
 have Tb : s.TypeIs (.ref b) "tuple" := ⟨ob, hb, cb⟩
 refine wpAny_richCompare_same_room (op := .Lt) Ta Tb PySem.F.slot_tuple_lt (wpAny_call_entry PySem.F.slot_tuple_lt Ta PySem.F.entry_tuple_lt ?_ (PySem.F.args_tuple_lt_2 _ _)) hu
 show wpAny _ _ (isInstance (.ref b) (.type "tuple") >>= _) _ _ s; refine wpAny_bind (wpAny_isInstance Tb isSubtype_tuple_tuple ?_)
 simp only [Bool.not_true, Bool.false_eq_true, if_false]
 refine wpAny_bind (wpAny_tupleItemsOf ha da (wpAny_bind (wpAny_tupleItemsOf hb db (wpAny_bind ?_))))
 refine wpAny_forIn_list _ (fun rest r s' => r.1 = none /\ qP prog w A.in1 (decide (xs.size < ys.size)) Q rest s') _ ?_ ?_ _ _ ⟨rfl, h⟩
 ·rintro ⟨x, y⟩ rest r s' ⟨hr, hl⟩
  refine wpAny_bind (wpAny_mono hl (fun e s2 he => ?_) fun _ _ z => z.elim)
  cases e with
  | true =>
   simp only [Bool.not_true, Bool.false_eq_true, if_false, if_true] at he ⊢
   exact wpAny_pure ⟨rfl, he⟩
  | false =>
   simp only [Bool.not_false, if_true, Bool.false_eq_true, if_false] at he ⊢
   refine wpAny_bind (wpAny_rule (wpAny_bind (wpAny_mono he (fun v s3 hv => ?_) fun _ _ z => z.elim)))
   exact wpAny_bind (wpAny_pure (wpAny_pure (wpAny_pure ⟨v, rfl, hv⟩)))
 ·rintro ⟨r1, r2⟩ s' ⟨hr, hl⟩
  obtain rfl : r1 = none := hr
  exact wpAny_pure ⟨_, rfl, nofun, hl⟩
theorem vO {p q : Pr} {a b : Addr} {Q : Value -> Shared -> Prop} (hu : A.units + 1 < cLine) (ha : IsTupleKey (am prog w) s.heap (prK p) a) (hb : IsTupleKey (am prog w) s.heap (prK q) b) (h : Q (.bool (ltP p q)) s) : wpAny (model prog w) A (richCompare .Lt (.ref a) (.ref b)) Q E s := by
 obtain ⟨oa, xs, n, h1, h2, h3, h4⟩ := ha
 obtain ⟨ob, ys, k, g1, g2, g3, g4⟩ := hb
 have shape : ∀ {p : Pr} {us : List Value}, ItemsAre (am prog w) (prK p) us -> ∃ t t', us = [.str p.1 t, .int p.2 t'] := fun {p us} hi => by
  unfold prK at hi
  cases hi with
  | cons i1 r1 =>
   cases r1 with
   | cons i2 r2 =>
    cases r2
    obtain ⟨t, rfl⟩ := qZ i1
    obtain ⟨t', rfl⟩ := qZ i2
    exact ⟨t, t', rfl⟩
 obtain ⟨t1, t2, e1⟩ := shape h4
 obtain ⟨t3, t4, e2⟩ := shape g4
 have sx : xs.size = 2 := by rw [<- Array.length_toList, e1]; rfl
 have sy : ys.size = 2 := by rw [<- Array.length_toList, e2]; rfl
 refine og (Nat.lt_of_succ_lt hu) h1 h2 h3 g1 g2 g3 ?_
 rw [e1, e2]
 show qP prog w A.in1 _ Q [(.str p.1 t1, .str q.1 t3), (.int p.2 t2, .int q.2 t4)] s
 refine wpAny_eqBool_str ?_
 unfold ltP at h
 by_cases c : p.1 = q.1
 ·rw [if_pos c] at h
  rw [decide_eq_true c, if_pos rfl]
  refine wpAny_eqBool_int ?_
  by_cases d : p.2 = q.2
  ·rw [d, decide_eq_false (Int.lt_irrefl _)] at h
   rw [show (p.2 == q.2) = true by rw [d]; exact beq_self_eq_true _, if_pos rfl]
   show Q (.bool (decide (xs.size < ys.size))) s
   rw [sx, sy]; exact h
  ·rw [show (p.2 == q.2) = false from beq_eq_false_iff_ne.mpr d, if_neg (by decide)]
   exact wpAny_lt_int ⟨nofun, h⟩
 ·rw [if_neg c] at h
  rw [decide_eq_false c, if_neg (by decide)]
  exact wpAny_richCompare_same (op := .Lt) (T := "str") (typeIs_str s _ _) (typeIs_str s _ _) PyProof.Rows.slot_str_lt (call_str_lt ⟨nofun, nofun, h⟩)
theorem wm {ps qs : List Pr} {a b : Addr} {Q : Value -> Shared -> Prop} (hu : A.units + 2 < cLine) (ha : bV prog w s.heap ps a) (hb : bV prog w s.heap qs b) (h : Q (.bool (ltK ps qs)) s) : wpAny (model prog w) A (richCompare .Lt (.ref a) (.ref b)) Q E s := by
 obtain ⟨oa, xs, n, h1, h2, h3, h4⟩ := ha
 obtain ⟨ob, ys, k, g1, g2, g3, g4⟩ := hb
 refine og (by omega) h1 h2 h3 g1 g2 g3 ?_
 have lx := h4.tup
 have ly := g4.tup
 have ef : decide (xs.size < ys.size) = decide (ps.length < qs.length) := by rw [lx, ly, Array.length_toList, Array.length_toList]
 rw [ef]
 have key : ∀ {ps qs : List Pr} {us vs : List Value} {f : Bool}, bh prog w s.heap ps us -> bh prog w s.heap qs vs -> f = decide (ps.length < qs.length) -> Q (.bool (ltK ps qs)) s -> qP prog w A.in1 f Q (us.zip vs) s := by
  intro ps
  induction ps with
  | nil =>
   intro qs us vs f i1 i2 e q
   cases i1
   cases i2 with
   | nil => rw [e]; exact q
   | cons _ _ => rw [e]; exact q
  | cons p ps ih =>
   intro qs us vs f i1 i2 e q
   cases i1 with
   | @cons _ c _ us' x1 y1 =>
    cases i2 with
    | nil => rw [e]; exact q
    | @cons p2 c2 qs' vs' x2 y2 =>
     rw [List.zip_cons_cons]
     refine wpAny_eqBool_tuple (knd := am prog w) (by show A.units + 1 < cLine; omega) x1 x2 ?_
     rw [ltK] at q
     by_cases z : p = p2
     ·rw [if_pos z] at q
      rw [decide_eq_true (by rw [z]), if_pos rfl]
      exact ih y1 y2 (by rw [e, List.length_cons, List.length_cons]; simp) q
     ·rw [if_neg z] at q
      rw [decide_eq_false (fun y => z (jG y)), if_neg (by decide)]
      exact vO (by show A.units + 1 + 1 < cLine; omega) x1 x2 ⟨nofun, q⟩
 exact key h4 g4 rfl h
theorem wc {x y a b : Addr} {ox oy : Obj} {n k : Nat} {ps qs : List Pr} {i j : Int} {t u : Tok} {Q : Bool -> Shared -> Prop} (hu : A.units + 2 < cLine) (hx : s.heap.get? x = some ox) (dx : ox.data = .seq #[.ref a, .int i t] n) (hy : s.heap.get? y = some oy) (dy : oy.data = .seq #[.ref b, .int j u] k) (ha : bV prog w s.heap ps a) (hb : bV prog w s.heap qs b)
  (same : ps = qs -> i = j) (h : Q (ltK ps qs) s) : wpAny (model prog w) A (keyLt' (tuples' false) (.ref x) (.ref y)) Q E s := by
 refine kat_lt hx dx hy dy ?_
 show KatLex _ _ _ _ _ _ [(Value.ref a, Value.ref b), (Value.int i t, Value.int j u)] 0 s
 refine kat_cons (tV (by omega) ha hb ?_)
 by_cases e : ps = qs
 ·rw [decide_eq_true e]
  refine kat_yes (kat_cons (wpAny_eqBool_int ?_))
  rw [show (i == j) = true by rw [same e]; exact beq_self_eq_true _]
  refine kat_yes (kat_nil ?_)
  rw [e, cw] at h
  exact h
 ·rw [decide_eq_false e]
  refine kat_no ?_
  rw [show (false && (0 == 0)) = false from rfl, oneLt'_eq]
  simp only [Bool.false_eq_true, if_false]
  exact wpAny_bind (wm hu ha hb (wpAny_truthy_bool h))
end
theorem fb {prog : Program} {w : World} {A : Around} {E : Value -> Shared -> Prop} {st : Shared} {l : Addr} {us : List Value} {ep : Nat} {R : PySem.Fin -> Shared -> Prop} {kd : SortKind} {M : Keyed -> Prop} {rk : Keyed -> Nat} (at0 : st.heap.get? l = some (seqObj "list" us.toArray ep)) (h2 : 2 <= us.length) (line : us.length <= sizeLine)
  (hk : ∀ hp : Heap, (∀ b o, b ≠ l -> st.heap.get? b = some o -> hp.get? b = some o) -> wpAny (model prog w) A (keyKind' us.toArray) (fun k s' => k = kd /\ s' = { st with heap := hp }) E { st with heap := hp } /\ TS.Ask prog w A { st with heap := hp } kd M rk) (Z : TS.Set0 M rk (us.zip us))
  (fin : ∀ hp ep' (ks : List Keyed), (∀ b o, b ≠ l -> st.heap.get? b = some o -> hp.get? b = some o) -> ks.Perm (us.zip us) -> TS.Up rk ks -> hp.get? l = some (seqObj "list" (ks.map (·.2)).toArray ep') -> R (.done (.ret .none)) { st with heap := hp }) :
  wpAny (model prog w) A (Builtin.«list.sort» ⟨[.ref l], []⟩) R E st := by
 have sz : us.toArray.size = us.length := by simp
 have lt0 : l < st.heap.objs.size := Heap.lt_size at0
 rw [list_sort_plain]
 refine wpAny_bind (listItems_at at0 rfl (wpAny_bind (listUpdate_at at0 rfl ?_ (by rw [sz]; exact line) (Nat.zero_le _))))
 have at1 := get?_update_seq at0 (fun _ => (#[] : Array Value))
 refine wpAny_bind (seqEpoch_at at1 rfl (wpAny_bind (wpAny_newTuple ?_ (by show us.length <= _; exact line))))
 refine wpAny_bind (wpAny_newList ?_ (Nat.zero_le _))
 refine wpAny_holding ?_
 rw [if_neg (by rw [sz]; omega), if_neg (by rw [sz]; omega)]
 show wpAny (model prog w) A _ R E { st with heap := ((st.heap.update l (Obj.mapSeq fun _ => (#[] : Array Value))).push (seqObj "tuple" us.toArray 0)).push (seqObj "list" #[] 0) }
 have at2 : (((st.heap.update l (Obj.mapSeq fun _ => (#[] : Array Value))).push (seqObj "tuple" us.toArray 0)).push (seqObj "list" #[] 0)).get? l = some (seqObj "list" #[] (if ((#[] : Array Value).size == us.toArray.size) = true then ep else ep + 1)) := by
  rw [Heap.get?_push_ne _ _ _ (by rw [size_push', Heap.size_update]; exact jH lt0), Heap.get?_push_ne _ _ _ (by rw [Heap.size_update]; exact nlt lt0)]
  exact at1
 have kp : ∀ b o, b ≠ l -> st.heap.get? b = some o -> (((st.heap.update l (Obj.mapSeq fun _ => (#[] : Array Value))).push (seqObj "tuple" us.toArray 0)).push (seqObj "list" #[] 0)).get? b = some o := fun b o hb e => by
  rw [Heap.get?_push_ne _ _ _ (by rw [size_push', Heap.size_update]; exact jH (Heap.lt_size e)), Heap.get?_push_ne _ _ _ (by rw [Heap.size_update]; exact nlt (Heap.lt_size e)), Heap.get?_update_ne _ _ _ _ hb]
  exact e
 generalize ((st.heap.update l (Obj.mapSeq fun _ => (#[] : Array Value))).push (seqObj "tuple" us.toArray 0)).push (seqObj "list" #[] 0) = hp at at2 kp
 obtain ⟨k1, O⟩ := hk hp kp
 refine wpAny_bind (wpAny_mono k1 (fun k s' hks => ?_) fun _ _ e => e)
 obtain ⟨rfl, rfl⟩ := hks
 have B : TS.SB k (us.zip us) #[] (SortSt.mk' k (us.toArray.zip us.toArray) #[] 7 none) := ⟨by show (us.toArray.zip us.toArray).toList.Perm (us.zip us); rw [show (us.toArray.zip us.toArray).toList = us.zip us from pairsOf_toList us], rfl, rfl, rfl⟩
 refine wpAny_bind (wpAny_mono (TS.runs_ok (Q := fun _ st' => (arrOf st').toList.Perm (us.zip us) /\ failedOf st' = none /\ TS.Up rk (arrOf st').toList) O Z B fun st' a1 a2 a3 => ⟨a1, a2, a3⟩) ?_ fun _ _ e => e)
 rintro ⟨⟨⟩, st'⟩ s' ⟨rfl, pm, hf, up⟩
 dsimp only
 refine wpAny_bind (seqEpoch_at at2 rfl ?_)
 have lo : ((arrOf st').map (·.2)).size = us.length := by rw [Array.size_map, <- Array.length_toList, pm.length_eq, List.length_zip, Nat.min_self]
 have at3 := get?_update_seq at2 (fun _ => (arrOf st').map (·.2))
 refine wpAny_bind (listUpdate_at at2 rfl ?_ (Nat.zero_le _) (by rw [lo]; omega))
 rw [hf]
 simp only [bne_self_eq_false, Bool.false_eq_true, if_false]
 have e3 : (arrOf st').map (·.2) = ((arrOf st').toList.map (·.2)).toArray := by apply Array.ext'; simp
 rw [e3] at at3 ⊢
 refine wpAny_pure (fin _ _ (arrOf st').toList (fun b o hb e => ?_) pm up at3)
 rw [Heap.get?_update_ne _ _ _ _ hb]
 exact kp b o hb e
section
variable {X : Cx} {pins : List (Addr × Obj)} {σ : St} {H : Hp} {s : Shared}
abbrev TV := Addr × List V
def laysV (H : Hp) (rs : List TV) : Hp := fun b => match rs.find? (fun r => decide (r.1 = b)) with | some r => some (.tup r.2) | none => H b
theorem cm {rs : List TV} {b : Addr} (h : ∀ r ∈ rs, r.1 ≠ b) : laysV H rs b = H b := by
 unfold laysV
 rw [List.find?_eq_none.mpr (fun r hr e => h r hr (of_decide_eq_true e))]
theorem fw {rs : List TV} (nd : (rs.map (·.1)).Nodup) {r : TV} (hr : r ∈ rs) : laysV H rs r.1 = some (.tup r.2) := by
 unfold laysV
 cases e : rs.find? (fun x => decide (x.1 = r.1)) with
 | none => exact absurd (decide_eq_true rfl) (List.find?_eq_none.mp e r hr)
 | some x =>
  have hx := List.mem_of_find?_eq_some e
  have e1 : x.1 = r.1 := of_decide_eq_true (List.find?_some (p := fun x : TV => decide (x.1 = r.1)) e)
  obtain ⟨i, hi, rfl⟩ := List.getElem_of_mem hx
  obtain ⟨j, hj, rfl⟩ := List.getElem_of_mem hr
  have : i = j := (List.getElem_inj (h₀ := by simpa using hi) (h₁ := by simpa using hj) nd).mp (by simpa using e1)
  subst this
  rfl
theorem Inv.laysV {h' : Heap} {tk : Nat} {rs : List TV} (I : Inv X pins σ H s) (k : ∀ b u, s.heap.get? b = some u -> h'.get? b = some u) (nd : (rs.map (·.1)).Nodup) (hp : ∀ r ∈ rs, s.heap.objs.size <= r.1)
  (new : ∀ r ∈ rs, aF X.prog X.w (L2.laysV H rs) h' r.1 (.tup r.2)) : Inv X pins σ (L2.laysV H rs) { s with heap := h', toks := tk } := by
 have out : ∀ b, b < s.heap.objs.size -> L2.laysV H rs b = H b := fun b hb => cm fun r hr e => absurd hb (Nat.not_lt.mpr (e ▸ hp r hr))
 refine I.un (t' := tk) ⟨fun b u q _ _ _ => k b u q, fun b u q _ _ _ => ⟨u.slots, k b u q⟩, fun b u q n _ => by rw [out b (Heap.lt_size q)]; exact n, fun b u q _ => ⟨u, k b u q⟩, fun b xs q => by rw [out b (I.hok.lt q)]; exact q, fun b u xs q => by rw [out b (I.hok.lt q)]; exact q,
  fun b ps q => ⟨#[], by rw [out b (I.hok.lt q), q]; simp⟩⟩ fun b u e => ?_
 by_cases hb : ∃ r ∈ rs, r.1 = b
 ·obtain ⟨r, hr, rfl⟩ := hb
  rw [fw nd hr] at e
  cases e
  exact new r hr
 ·rw [cm fun r hr z => hb ⟨r, hr, z⟩] at e
  exact (I.hok b u e).stay (fun c v _ q => k c v q) (fun c q => by rw [out c (I.hok.lt q)]; exact q) fun c xs q => by rw [out c (I.hok.lt q)]; exact q
theorem md (rs : List TV) : aG (rs.map fun p => V.ref p.1) (rs.map fun p => Value.ref p.1) := by
 induction rs with
 | nil => exact .nil
 | cons p ps ih => exact .cons rfl ih
end
theorem bh.mv {P : Program} {w : World} {h h' : Heap} (k : ∀ b o, h.get? b = some o -> o.cls = .type "tuple" -> h'.get? b = some o) : ∀ {ps : List Pr} {vs : List Value}, bh P w h ps vs -> bh P w h' ps vs
 | _, _, .nil => .nil
 | _, _, .cons x y => .cons (let ⟨o, its, n, e, c, d⟩ := x; ⟨o, its, n, k _ _ e c, c, d⟩) (bh.mv k y)
theorem bV.mv {P : Program} {w : World} {h h' : Heap} {ps : List Pr} {a : Addr} (x : bV P w h ps a) (k : ∀ b o, h.get? b = some o -> o.cls = .type "tuple" -> h'.get? b = some o) : bV P w h' ps a := by
 obtain ⟨o, its, n, e, c, d, i⟩ := x
 exact ⟨o, its, n, k _ _ e c, c, d, i.mv k⟩
theorem lQ {α β : Type} (f : α -> β) {l k : List β} (h : l.Perm k) : ∀ {m : List α}, k = m.map f -> ∃ m' : List α, m'.Perm m /\ l = m'.map f := by
 induction h with
 | nil => intro m e; exact ⟨[], by rw [List.map_eq_nil_iff.mp e.symm], rfl⟩
 | cons x _ ih =>
  intro m e
  cases m with
  | nil => cases e
  | cons a m =>
   injection e with e1 e2
   obtain ⟨m', p, rfl⟩ := ih e2
   exact ⟨a :: m', p.cons a, by rw [List.map_cons, e1]⟩
 | swap x y l =>
  intro m e
  match m, e with
  | a :: b :: m, e =>
   injection e with e1 e2
   injection e2 with e2 e3
   exact ⟨b :: a :: m, List.Perm.swap a b m, by rw [List.map_cons, List.map_cons, e1, e2, e3]⟩
 | trans _ _ ih1 ih2 =>
  intro m e
  obtain ⟨m2, p2, e2⟩ := ih2 e
  obtain ⟨m1, p1, e1⟩ := ih1 e2
  exact ⟨m1, p1.trans p2, e1⟩
abbrev IT := Addr × Addr × PM
structure nc (K : PySem.W.Frag) (H : Hp) (t : IT) : Prop where
 at_ : H t.1 = some (.tup [.ref t.2.1, .int t.2.2.2])
 key : bT K H t.2.2.1 t.2.1
section
variable {X : Cx} {pins : List (Addr × Obj)} {σ : St} {H : Hp} {s : Shared}
theorem lG {A : Around} {E : Value -> Shared -> Prop} {l : Addr} {ts : List IT} {Q : Value -> Shared -> Prop} (hu : A.units + 3 < cLine) (I : Inv X pins σ H s) (hq : H l = some (.lst (ts.map fun t => V.ref t.1))) (hT : ∀ t ∈ ts, nc X.K H t) (nd : (ts.map fun t => t.2.2.1).Nodup) (hl : ts.length <= 100000)
  (q : ∀ (ts' : List IT) (h' : Heap), ts'.Perm ts -> ts'.Pairwise (fun a b => ltK a.2.2.1 b.2.2.1 = true) -> Inv X pins σ (upd H l (.lst (ts'.map fun t => V.ref t.1))) { s with heap := h' } -> Q .none { s with heap := h' }) :
  wpAny (model X.prog X.w) A (call (.builtin "list.sort") [.ref l]) Q E s := by
 obtain ⟨hz, its, n, rv, at0⟩ := (show aF X.prog X.w H s.heap l (.lst (ts.map fun t => V.ref t.1)) from I.hok l _ hq)
 have ei : its = ts.map fun t => Value.ref t.1 := by
  have : ∀ (ts : List IT) (us : List Value), aG (ts.map fun p => V.ref p.1) us -> us = ts.map fun p => Value.ref p.1 := by
   intro ts
   induction ts with
   | nil => intro us r; cases r; rfl
   | cons p ps ih =>
    intro us r
    rw [List.map_cons] at r ⊢
    cases r with
    | cons r t => rw [ih _ t, show _ = Value.ref p.1 from r]
  exact this ts its rv
 subst ei
 have vr : ∀ ts : List IT, aG (ts.map fun p => V.ref p.1) (ts.map fun p => Value.ref p.1) := by
  intro ts
  induction ts with
  | nil => exact .nil
  | cons p ps ih => exact .cons rfl ih
 obtain ⟨m, hm, _⟩ := I.loc
 have nL : l ≠ X.env.locals := fun z => by rw [z, I.free] at hq; cases hq
 have ll : (ts.map fun t => Value.ref t.1).length = ts.length := List.length_map _
 by_cases few : ts.length < 2
 ·refine wpAny_call_entry slot_list_sort ⟨_, at0, rfl⟩ entry_list_sort (bS at0 (by simpa using few) fun hp ep k2 e2 => ⟨_, rfl, ?_⟩) (args_list_sort _)
  refine q ts hp (List.Perm.refl _) ?_ (I.setList hm hq (vr ts) hz (hm.at' fun o e => k2 _ o (Ne.symm nL) e) (fun b o _ hb z => k2 b o hb z) e2)
  match ts, few with
  | [], _ => exact .nil
  | [p], _ => exact List.pairwise_singleton _ _
 have obj : ∀ t ∈ ts, ∃ (o : Obj) (k : Nat) (tk : Tok), s.heap.get? t.1 = some o /\ o.cls = .type "tuple" /\ o.data = .seq #[.ref t.2.1, .int t.2.2.2 tk] k /\ t.1 ≠ l := fun t ht => by
  have x := hT t ht
  obtain ⟨_, us, ru, ⟨o, e, c, k, d⟩, _⟩ := (show aF X.prog X.w H s.heap t.1 (.tup [.ref t.2.1, .int t.2.2.2]) from I.hok _ _ x.at_)
  cases ru with
  | cons r1 r2 =>
   cases r2 with
   | cons r2 r3 =>
    cases r3
    cases r1
    obtain ⟨tk, rfl⟩ := r2
    exact ⟨o, k, tk, e, c, d, fun z => by have y := x.at_; rw [z, hq] at y; cases y⟩
 have pk : ∀ t ∈ ts, bV X.prog X.w s.heap t.2.2.1 t.2.1 := fun t ht => jm I (hT t ht).key
 have uniq : ∀ t ∈ ts, ∀ t' ∈ ts, t.1 = t'.1 -> t.2.2 = t'.2.2 := fun t ht t' ht' e => by
  have a1 := (hT t ht).at_
  have a2 := (hT t' ht').at_
  rw [e, a2] at a1
  injection a1 with a1
  injection a1 with a1
  injection a1 with a1 a3
  injection a1 with a1
  injection a3 with a3 _
  injection a3 with a3
  have p1 := pk t ht
  rw [<- a1] at p1
  exact Prod.ext (p1.inj (pk t' ht')) a3.symm
 have kuniq : ∀ t ∈ ts, ∀ t' ∈ ts, t.2.2.1 = t'.2.2.1 -> t = t' := fun t ht t' ht' e => by
  obtain ⟨i, hi, rfl⟩ := List.getElem_of_mem ht
  obtain ⟨j, hj, rfl⟩ := List.getElem_of_mem ht'
  have : i = j := (List.getElem_inj (h₀ := by simpa using hi) (h₁ := by simpa using hj) nd).mp (by simpa using e)
  subst this; rfl
 obtain ⟨key, hkey⟩ : ∃ key : Keyed -> List Pr, ∀ t ∈ ts, key (Value.ref t.1, Value.ref t.1) = t.2.2.1 := by
  refine ⟨fun x => open Classical in if h : ∃ t ∈ ts, x.1 = Value.ref t.1 then (Classical.choose h).2.2.1 else [], fun t ht => ?_⟩
  have h : ∃ t' ∈ ts, (Value.ref t.1, Value.ref t.1).1 = Value.ref t'.1 := ⟨t, ht, rfl⟩
  dsimp only
  rw [dif_pos h]
  obtain ⟨h1, h2⟩ := Classical.choose_spec h
  injection h2 with h2
  rw [uniq t ht _ h1 h2]
 generalize hks : ts.map (fun t => t.2.2.1) = ks at nd
 have mk : ∀ t ∈ ts, t.2.2.1 ∈ ks := fun t ht => by rw [<- hks]; exact List.mem_map_of_mem (f := fun t : IT => t.2.2.1) ht
 let rk : Keyed -> Nat := fun x => ks.countP fun z => ltK z (key x)
 have hrk : ∀ t ∈ ts, ∀ t' ∈ ts, decide (rk (Value.ref t.1, Value.ref t.1) < rk (Value.ref t'.1, Value.ref t'.1)) = ltK t.2.2.1 t'.2.2.1 := fun t ht t' ht' => by
  show decide (ks.countP (fun z => ltK z (key _)) < ks.countP fun z => ltK z (key _)) = _
  rw [hkey t ht, hkey t' ht']
  exact sv (mk t ht) (mk t' ht')
 have ez : (ts.map fun t => Value.ref t.1).zip (ts.map fun t => Value.ref t.1) = ts.map fun t => (Value.ref t.1, Value.ref t.1) := by
  rw [List.zip_map', ]
 refine wpAny_call_entry slot_list_sort ⟨_, at0, rfl⟩ entry_list_sort (fb (kd := tuples' false) (M := fun x => ∃ t ∈ ts, x = (Value.ref t.1, Value.ref t.1)) (rk := rk) at0 (by rw [ll]; omega) (by rw [ll, sizeLine_eq]; omega) (fun hp kp => ⟨?K, ?O⟩) ?Z fun hp ep ks' k2 pm up e2 => ⟨_, rfl, ?F⟩) (args_list_sort _)
 case K =>
  have firsts : ∀ (qs : List IT), (∀ t ∈ qs, t ∈ ts) -> KatTups hp (qs.map fun t => Value.ref t.1) (qs.map fun t => Value.ref t.2.1) := by
   intro qs
   induction qs with
   | nil => intro _; exact KatTups.nil
   | cons t qs ih =>
    intro hs
    obtain ⟨o, k, tk, e, c, d, ne⟩ := obj t (hs t List.mem_cons_self)
    exact KatTups.cons (kp _ o ne e) c d rfl (ih fun x hx => hs x (List.mem_cons_of_mem _ hx))
  refine kat_kind (T := .type "tuple") (s := { s with heap := hp }) (firsts ts fun _ h => h) (by rw [List.length_map]; omega) (fun v hv => ?_) (by decide) ⟨rfl, rfl⟩
  obtain ⟨t, ht, rfl⟩ := List.mem_map.mp hv
  obtain ⟨o, _, _, e, c, _⟩ := pk t ht
  have nl : t.2.1 ≠ l := fun z => by rw [z, at0] at e; injection e with e; rw [<- e] at c; exact absurd (show Value.type "list" = Value.type "tuple" from c) (by decide)
  exact fun A Q E s' kk q => wpAny_typeOf (T := "tuple") ⟨o, kk _ _ (kp _ o nl e), c⟩ q
 case O =>
  rintro x y C E' ⟨t, ht, rfl⟩ ⟨t', ht', rfl⟩ hC
  obtain ⟨o, k, tk, e, c, d, ne⟩ := obj t ht
  obtain ⟨o', k', tk', e', c', d', ne'⟩ := obj t' ht'
  have mv : ∀ b o, s.heap.get? b = some o -> o.cls = .type "tuple" -> hp.get? b = some o := fun b o e c => kp b o (fun z => by rw [z, at0] at e; injection e with e; rw [<- e] at c; exact absurd (show Value.type "list" = Value.type "tuple" from c) (by decide)) e
  refine wc (s := { s with heap := hp }) (by show A.units + 1 + 2 < cLine; omega) (kp _ o ne e) d (kp _ o' ne' e') d' ((pk t ht).mv mv) ((pk t' ht').mv mv) (fun z => by rw [kuniq t ht t' ht' z]) ?_
  rw [hrk t ht t' ht'] at hC
  exact hC
 case Z =>
  rw [ez]
  refine ⟨fun u hu => ?_⟩
  obtain ⟨t, ht, rfl⟩ := List.mem_map.mp hu
  exact ⟨t, ht, rfl⟩
 case F =>
  rw [ez] at pm
  obtain ⟨ts', p', rfl⟩ := lQ (fun t : IT => (Value.ref t.1, Value.ref t.1)) pm rfl
  have e3 : (ts'.map fun t => (Value.ref t.1, Value.ref t.1)).map (·.2) = ts'.map fun t => Value.ref t.1 := by rw [List.map_map]; rfl
  rw [e3] at e2
  refine q ts' hp p' ?_ (I.setList hm hq (vr ts') (by rw [List.length_map, p'.length_eq, sizeLine_eq]; omega) (hm.at' fun o e => k2 _ o (Ne.symm nL) e) (fun b o _ hb z => k2 b o hb z) e2)
  rw [TS.Up, List.pairwise_map] at up
  have nd' : (ts'.map fun t => t.2.2.1).Nodup := (p'.map fun t : IT => t.2.2.1).nodup_iff.mpr (by rw [hks]; exact nd)
  rw [List.pairwise_iff_getElem] at up ⊢
  intro i j hi hj hij
  have m1 : ts'[i] ∈ ts := p'.mem_iff.mp (List.getElem_mem hi)
  have m2 : ts'[j] ∈ ts := p'.mem_iff.mp (List.getElem_mem hj)
  have u := up i j hi hj hij
  cases h : ltK ts'[i].2.2.1 ts'[j].2.2.1 with
  | true => rfl
  | false =>
   have ne : ts'[i].2.2.1 ≠ ts'[j].2.2.1 := fun z => by
    have : i = j := (List.getElem_inj (h₀ := by simpa using hi) (h₁ := by simpa using hj) nd').mp (by simpa using z)
    omega
   have a := hrk _ m2 _ m1
   rw [gb ne h] at a
   exact absurd (of_decide_eq_true a) (Nat.not_lt.mpr u)
end
section
variable {X : Cx}
theorem jP {K : PySem.W.Frag} {H : Hp} : ∀ {ts : List IT}, (∀ t ∈ ts, nc K H t) -> Paired (TmR K H) (ts.map fun t => t.2.2) (ts.map fun t => V.ref t.1)
 | [], _ => .nil
 | t :: ts, h => by
  have x := h t List.mem_cons_self
  exact .cons ⟨t.1, t.2.1, rfl, .of x.at_, x.key⟩ (jP fun x hx => h x (List.mem_cons_of_mem _ hx))
theorem eZ (hc : X.calm = true) (hu : X.A.units + 10 < cLine) : bB X (.builtin "sorted") (fun xs H Q => ∃ (v d : Addr) (m : List PM), xs = [.ref v] /\ H v = some (bj v d) /\ Dp X.K X.prog X.w H d m /\
  ∀ (H' : Hp) (l : Addr) (us : List V) (m' : List PM), ao H H' -> H l = none -> H' l = some (.lst us) -> Paired (TmR X.K H') m' us -> m'.Perm m -> m'.Pairwise (fun p q => ltK p.1 q.1 = true) -> Q (.ref l) H') := by
 intro pins s σ H xs us Q I r h
 obtain ⟨v, d, m, rfl, hv, hd, q⟩ := h
 obtain ⟨u, rfl, ru⟩ := bN r
 cases ru
 obtain ⟨vw, _, _⟩ := (show aF X.prog X.w H s.heap v (bj v d) from I.hok v _ hv)
 obtain ⟨ys, _, sm, lm, pv, ⟨od, es, ep, o1, o2, o3, o4, _, _⟩, ndy⟩ := iN I hd
 obtain ⟨_, _, _, _, ndm, _⟩ := id hd
 have ly := qC pv
 have le : es.size = m.length := by rw [<- Array.length_toList, o4, List.length_map, ly]
 refine Calls.call_function_entry kind_sorted plain_sorted entry_sorted (args_sorted1 _) ?_
 unfold Builtin.«sorted»
 refine wpAny_bind (m := checkCount "sorted" 1 1 _) (wpAny_pure (wpAny_bind (ie (A := X.A.in1) (es := es) (ep := ep) (I.ok.hd hc) vw ⟨od, o1, o2, o3⟩ (by rw [le, sizeLine_eq]; omega) fun h' tk as hk hl hG => ?_)))
 have la : as.length = m.length := by rw [hl, le]
 generalize hts : (as.zip (m.zip ys)).map (fun z => ((z.1, z.2.2.2.1, z.2.1) : IT)) = ts
 have lts : ts.length = m.length := by rw [<- hts, List.length_map, List.length_zip, List.length_zip]; omega
 have e1 : ts.map (·.1) = as := by
  rw [<- hts, List.map_map]
  have : ((fun x : IT => x.1) ∘ fun z : Addr × PM × PX => ((z.1, z.2.2.2.1, z.2.1) : IT)) = Prod.fst := rfl
  rw [this, List.map_fst_zip (by rw [List.length_zip]; omega)]
 have e2 : ts.map (·.2.2) = m := by
  rw [<- hts, List.map_map]
  have : ((fun x : IT => x.2.2) ∘ fun z : Addr × PM × PX => ((z.1, z.2.2.2.1, z.2.1) : IT)) = (fun z : PM × PX => z.1) ∘ Prod.snd := rfl
  rw [this, <- List.map_map, List.map_snd_zip (by rw [List.length_zip]; omega)]
  exact List.map_fst_zip (by omega)
 have pairs : ∀ t ∈ ts, ∃ tk' : Tok, h'.get? t.1 = some { cls := .type "tuple", data := .seq #[.ref t.2.1, .int t.2.2.2 tk'] } /\ bT X.K H t.2.2.1 t.2.1 := fun t ht => by
  rw [<- hts] at ht
  obtain ⟨⟨a, p, y⟩, hz, rfl⟩ := List.mem_map.mp ht
  obtain ⟨j, hj⟩ := List.getElem?_of_mem hz
  obtain ⟨ha, hz2⟩ := List.getElem?_zip_eq_some.mp hj
  obtain ⟨hm, hy⟩ := List.getElem?_zip_eq_some.mp hz2
  obtain ⟨e, g1, g2⟩ := hG.pairs j a ha
  have ge : es[j]? = some (entryOfKey (eA X.prog X.w) y) := by rw [<- Array.getElem?_toList, o4, List.getElem?_map, hy]; rfl
  rw [ge] at g1
  cases g1
  have at_ : ∀ {m : List PM} {ys : List PX}, Paired (pvR X.K H) m ys -> ∀ {j : Nat} {p : PM} {y : PX}, m[j]? = some p -> ys[j]? = some y -> pvR X.K H p y := by
   intro m ys pv
   induction pv with
   | nil => intro j p y h _; simp at h
   | cons r t ih =>
    intro j p y h1 h2
    cases j with
    | zero => cases h1; cases h2; exact r
    | succ j => exact ih h1 h2
  obtain ⟨_, rr, tk', ev⟩ := at_ pv hm hy
  refine ⟨tk', ?_, rr⟩
  show h'.get? a = some { cls := .type "tuple", data := .seq #[.ref y.2.1, .int p.2 tk'] }
  rw [g2, <- ev]; rfl
 have nda : (ts.map (·.1)).Nodup := by rw [e1]; exact hG.rise.imp fun h => Nat.ne_of_lt h
 have above : ∀ t ∈ ts, s.heap.objs.size <= t.1 := fun t ht => Nat.le_of_lt (hG.above t.1 (by rw [<- e1]; exact List.mem_map_of_mem (f := fun t : IT => t.1) ht))
 generalize hrs : ts.map (fun t => ((t.1, [V.ref t.2.1, V.int t.2.2.2]) : TV)) = rs
 have er : rs.map (·.1) = ts.map (·.1) := by rw [<- hrs, List.map_map]; rfl
 have inr : ∀ r ∈ rs, ∃ t ∈ ts, r = (t.1, [V.ref t.2.1, V.int t.2.2.2]) := fun r hr => by rw [<- hrs] at hr; obtain ⟨t, ht, rfl⟩ := List.mem_map.mp hr; exact ⟨t, ht, rfl⟩
 have I1 : Inv X pins σ (laysV H rs) { s with heap := h', toks := tk } := I.laysV hk (by rw [er]; exact nda) (fun r hr => by obtain ⟨t, ht, rfl⟩ := inr r hr; exact above t ht) fun r hr => by
  obtain ⟨t, ht, rfl⟩ := inr r hr
  obtain ⟨tk', g, _⟩ := pairs t ht
  exact ⟨by show 2 <= sizeLine; rw [sizeLine_eq]; decide, [.ref t.2.1, .int t.2.2.2 tk'], .cons rfl (.cons ⟨tk', rfl⟩ .nil), ⟨_, g, rfl, 0, rfl⟩, ⟨_, g, rfl⟩⟩
 have s1 : ao H (laysV H rs) := fun b o e => by
  rw [cm fun r hr z' => by
   obtain ⟨t, ht, rfl⟩ := inr r hr
   have h1 := above t ht
   rw [show t.1 = b from z'] at h1
   exact absurd (I.hok.lt e) (Nat.not_lt.mpr h1)]
  exact e
 refine wpAny_bind (wpAny_newList ?_ (by rw [List.length_map, la, sizeLine_eq]; omega))
 have ev : as.map Value.ref = rs.map fun p => Value.ref p.1 := by rw [<- e1, <- er, List.map_map]; rfl
 rw [ev]
 have I2 := I1.lnew (t' := tk) (its := rs.map fun p => Value.ref p.1) (md rs) (by rw [List.length_map, <- List.length_map (f := (·.1)) (as := rs), er, List.length_map, lts, sizeLine_eq]; omega)
 have fr : laysV H rs h'.objs.size = none := I1.fresh
 have hnone : H h'.objs.size = none := by
  cases e : H h'.objs.size with
  | none => rfl
  | some o => have := s1 _ _ e; rw [fr] at this; cases this
 have ev2 : (rs.map fun p => V.ref p.1) = ts.map fun t => V.ref t.1 := by rw [<- hrs, List.map_map]; rfl
 rw [ev2] at I2
 have okT : ∀ t ∈ ts, nc X.K (laysV H rs) t := fun t ht => by
  obtain ⟨_, _, rr⟩ := pairs t ht
  refine ⟨?_, rr.mono s1⟩
  have := fw (H := H) (by rw [er]; exact nda) (r := (t.1, [V.ref t.2.1, V.int t.2.2.2])) (by rw [<- hrs]; exact List.mem_map_of_mem (f := fun t : IT => ((t.1, [V.ref t.2.1, V.int t.2.2.2]) : TV)) ht)
  exact this
 have s2 : ∀ o, ao (laysV H rs) (upd (laysV H rs) h'.objs.size o) := fun o => ae fr _
 have okS : ∀ o, ∀ t ∈ ts, nc X.K (upd (laysV H rs) h'.objs.size o) t := fun o t ht => ⟨s2 o _ _ (okT t ht).at_, (okT t ht).key.mono (s2 o)⟩
 have ndk : (ts.map fun t => t.2.2.1).Nodup := by
  have : ts.map (fun t => t.2.2.1) = m.map (·.1) := by rw [<- e2, List.map_map]; rfl
  rw [this]; exact ndm
 refine wpAny_bind (wpAny_holding (lG (A := X.A.in1) (l := h'.objs.size) (ts := ts) (by show X.A.units + 1 + 3 < cLine; omega) I2 ad (okS _) ndk (by omega) fun ts' h2 pq pw I3 => ?_))
 rw [dL] at I3
 refine wpAny_pure ⟨_, rfl, .ref h'.objs.size, _, I3, rfl, q _ _ _ (ts'.map (·.2.2)) (s1.trans (s2 _)) hnone ad ?_ (by rw [<- e2]; exact pq.map _) (by rw [List.pairwise_map]; exact pw)⟩
 exact jP fun t ht => okS _ t (pq.mem_iff.mp ht)
end
open PySem PySem.Spec PyProof.Rows PySem.W
section
variable {prog : Program} {w : World} {A : Around} {E : Value -> Shared -> Prop} {s : Shared} {r l S : Addr} {items : Array Value}
end
section
variable {X : Cx} {e : Expr} {te : TE} {p p1 pos pos1 : Pos}
def sZ (K : PySem.W.Frag) (P : Program) (w : World) (to : TE) : TE := fun σ H Q => to σ H fun x H1 => ∃ d m, x = .ref d /\ Dp K P w H1 d m /\ ∀ v, H1 v = none -> Q (.ref v) (upd H1 v (bj v d))
theorem iP {o : Expr} {to : TE} {apos cpos : Pos} (ho : PE X o to) (hbase : attributeBase o "items" X.env (eval o X.env) = eval o X.env := by rfl) (hline : (apos.endLine == cpos.line) = true := by rfl) : PE X (.Call (.Attribute o "items" apos) [] [] cpos) (sZ X.K X.prog X.w to) := by
 intro pins s σ H Q I h
 refine wpAny_Call_method0_late hbase hline (thn (ho pins s σ H _ I h) fun v s1 ⟨x, H1, I1, r1, d, m, ex, hd, q1⟩ => ?_)
 subst ex
 obtain rfl : v = Value.ref d := r1
 obtain ⟨ys, _, _, _, _, dd, _⟩ := iN I1 hd
 have h2 : ∀ a, Value.ref d = .ref a -> ∃ ob, s1.heap.get? a = some ob /\ ob.dict = none := fun b q => by cases q; obtain ⟨ob, _, _, h1, h2, _⟩ := dd; exact ⟨ob, h1, h2.2.1⟩
 exact ⟨"dict", "dict.items", PySem.F.plainAttrs_dict, PySem.F.slot_dict_items, PySem.F.type_dict_items, dd.typeIs, h2, Calls.callWith_builtin rfl (PySem.evalArgs_none (pN pins s1 σ H1 (.ref d) [] (.ref d) [] Q I1 rfl .nil ⟨d, m, rfl, rfl, hd, q1⟩))⟩
end
def cf : Value -> Str
 | .str x _ => x
 | _ => Str.ofString ""
def xo (ps : List Str) (x : Keyed) : Nat := ps.countP fun z => decide (z.cps.toList < (cf x.1).cps.toList)
theorem nP {ps : List Str} {a b : Str} (ha : a ∈ ps) (hb : b ∈ ps) : decide (ps.countP (fun z => decide (z.cps.toList < a.cps.toList)) < ps.countP fun z => decide (z.cps.toList < b.cps.toList)) = decide (a.cps.toList < b.cps.toList) := by
 by_cases h : a.cps.toList < b.cps.toList
 ·rw [decide_eq_true h]
  exact decide_eq_true (hU (fun z _ hz => decide_eq_true (List.lt_trans (of_decide_eq_true hz) h)) ha (decide_eq_true h) (decide_eq_false (List.lt_irrefl _)))
 ·rw [decide_eq_false h]
  refine decide_eq_false (Nat.not_lt.mpr ?_)
  by_cases e : a.cps.toList = b.cps.toList
  ·rw [e]; exact Nat.le_refl _
  ·have h2 := gf h e
   exact Nat.le_of_lt (hU (fun z _ hz => decide_eq_true (List.lt_trans (of_decide_eq_true hz) h2)) hb (decide_eq_true h2) (decide_eq_false (List.lt_irrefl _)))
section
variable {X : Cx} {pins : List (Addr × Obj)} {σ : St} {H : Hp} {s : Shared}
theorem fP : ∀ {ps : List Str} {its : List Value}, aG (ps.map V.str) its -> its.map cf = ps /\ ∀ u ∈ its, ∃ t, u = Value.str (cf u) t
 | [], _, .nil => ⟨rfl, by simp⟩
 | p :: ps, u :: its, .cons r t => by
  obtain ⟨k, rfl⟩ := (show ∃ k, u = Value.str p k from r)
  obtain ⟨h1, h2⟩ := fP t
  refine ⟨by rw [List.map_cons, h1]; rfl, fun v hv => ?_⟩
  rcases List.mem_cons.mp hv with rfl | hv
  ·exact ⟨k, rfl⟩
  ·exact h2 v hv
theorem iG : ∀ {its : List Value}, (∀ u ∈ its, ∃ t, u = Value.str (cf u) t) -> aG ((its.map cf).map V.str) its
 | [], _ => .nil
 | u :: its, h => .cons (h u List.mem_cons_self) (iG fun v hv => h v (List.mem_cons_of_mem _ hv))
theorem gD {A : Around} {E : Value -> Shared -> Prop} {l : Addr} {ps : List Str} {Q : Value -> Shared -> Prop} (I : Inv X pins σ H s) (hq : H l = some (.lst (ps.map V.str))) (hl : ps.length <= 100000)
  (q : ∀ (qs : List Str) (h' : Heap), qs.Perm ps -> qs.Pairwise (fun a b => ¬ lA b a) -> Inv X pins σ (upd H l (.lst (qs.map V.str))) { s with heap := h' } -> Q .none { s with heap := h' }) : wpAny (model X.prog X.w) A (call (.builtin "list.sort") [.ref l]) Q E s := by
 obtain ⟨hz, its, n, rv, at0⟩ := (show aF X.prog X.w H s.heap l (.lst (ps.map V.str)) from I.hok l _ hq)
 have li : its.length = ps.length := by have := rv.length; rw [List.length_map] at this; exact this.symm
 obtain ⟨m, hm, _⟩ := I.loc
 have nL : l ≠ X.env.locals := fun z => by rw [z, I.free] at hq; cases hq
 by_cases few : ps.length < 2
 ·refine wpAny_call_entry slot_list_sort ⟨_, at0, rfl⟩ entry_list_sort (bS at0 (by omega) fun hp ep k2 e2 => ⟨_, rfl, ?_⟩) (args_list_sort _)
  refine q ps hp (List.Perm.refl _) ?_ (I.setList hm hq rv hz (hm.at' fun o e => k2 _ o (Ne.symm nL) e) (fun b o _ hb z => k2 b o hb z) e2)
  match ps, few with
  | [], _ => exact .nil
  | [p], _ => exact List.pairwise_singleton _ _
 ·obtain ⟨tx, ty⟩ := fP rv
  have ez : its.zip its = its.map fun u => (u, u) := by
   have := List.zip_map' (f := fun u : Value => u) (g := fun u : Value => u) (l := its)
   simpa using this
  refine wpAny_call_entry slot_list_sort ⟨_, at0, rfl⟩ entry_list_sort (fb (kd := oneType') (M := fun x => ∃ u ∈ its, x = (u, u)) (rk := xo ps) at0 (by omega) (by rw [sizeLine_eq]; omega) (fun hp kp => ⟨?K, ?O⟩) ?Z fun hp ep ks k2 pm up e2 => ⟨_, rfl, ?F⟩) (args_list_sort _)
  case K =>
   have kk : keyKind' its.toArray = pure oneType' := by
    have st := jC rv
    match its, li, st with
    | v1 :: v2 :: r, _, st => exact keyKind_strs st
    | [_], li, _ => simp at li; omega
    | [], li, _ => simp at li; omega
   rw [kk]
   exact wpAny_pure ⟨rfl, rfl⟩
  case O =>
   rintro x y C E' ⟨u, hu, rfl⟩ ⟨v, hv, rfl⟩ hC
   obtain ⟨t1, e1⟩ := ty u hu
   obtain ⟨t2, e2⟩ := ty v hv
   have ma : cf u ∈ ps := by rw [<- tx]; exact List.mem_map_of_mem (f := cf) hu
   have mb : cf v ∈ ps := by rw [<- tx]; exact List.mem_map_of_mem (f := cf) hv
   have er := nP ma mb
   have hC' : C (decide ((cf u).cps.toList < (cf v).cps.toList)) { s with heap := hp } := by rw [<- er]; exact hC
   show wpAny _ _ (keyLt' oneType' u v) C _ _
   generalize cf u = a at e1 hC'
   generalize cf v = b at e2 hC'
   subst e1 e2
   exact kas_lt_str hC'
  case Z =>
   rw [ez]
   exact ⟨fun u hu => by obtain ⟨v, hv, rfl⟩ := List.mem_map.mp hu; exact ⟨v, hv, rfl⟩⟩
  case F =>
   rw [ez] at pm
   obtain ⟨vs, p', rfl⟩ := lQ (fun u : Value => (u, u)) pm rfl
   have e3 : (vs.map fun u => (u, u)).map (·.2) = vs := by rw [List.map_map]; exact List.map_id _
   rw [e3] at e2
   have tv : ∀ u ∈ vs, ∃ t, u = Value.str (cf u) t := fun u hu => ty u (p'.mem_iff.mp hu)
   have pq : (vs.map cf).Perm ps := by rw [<- tx]; exact p'.map _
   refine q (vs.map cf) hp pq ?_ (I.setList hm hq (iG tv) (by rw [List.length_map, pq.length_eq, sizeLine_eq]; omega) (hm.at' fun o e => k2 _ o (Ne.symm nL) e) (fun b o _ hb z => k2 b o hb z) e2)
   rw [TS.Up, List.pairwise_map] at up
   rw [List.pairwise_map]
   rw [List.pairwise_iff_getElem] at up ⊢
   intro i j hi hj hij
   have u := up i j hi hj hij
   intro z
   have ma : cf vs[i] ∈ ps := pq.mem_iff.mp (List.mem_map_of_mem (f := cf) (List.getElem_mem hi))
   have mb : cf vs[j] ∈ ps := pq.mem_iff.mp (List.mem_map_of_mem (f := cf) (List.getElem_mem hj))
   have er := nP mb ma
   rw [decide_eq_true (show (cf vs[j]).cps.toList < (cf vs[i]).cps.toList from z)] at er
   exact absurd (of_decide_eq_true er) (Nat.not_lt.mpr u)
end
section
variable {X : Cx}
theorem iV : bB X (.builtin "sorted") (fun xs H Q => ∃ (a : Addr) (ps : List Str), xs = [.ref a] /\ H a = some (.lst (ps.map V.str)) /\ ps.length <= 100000 /\
  ∀ (l : Addr) (qs : List Str), H l = none -> qs.Perm ps -> qs.Pairwise (fun a b => ¬ lA b a) -> Q (.ref l) (upd H l (.lst (qs.map V.str)))) := by
 intro pins s σ H xs us Q I r h
 obtain ⟨a, ps, rfl, ha, h64, q⟩ := h
 obtain ⟨u, rfl, ru⟩ := bN r
 cases ru
 obtain ⟨hz, its, n, rv, at0⟩ := (show aF X.prog X.w H s.heap a (.lst (ps.map V.str)) from I.hok a _ ha)
 have li : its.length = ps.length := by have := rv.length; rw [List.length_map] at this; exact this.symm
 have line : its.length <= sizeLine := by rw [sizeLine_eq]; omega
 refine Calls.call_function_entry kind_sorted plain_sorted entry_sorted (args_sorted1 _) ?_
 unfold Builtin.«sorted»
 refine wpAny_bind (m := checkCount "sorted" 1 1 _) (wpAny_pure (wpAny_bind (collect_list (vs := its) ⟨_, at0, rfl, _, rfl⟩ ?_ line)))
 have kp : ∀ b o, s.heap.get? b = some o -> ((s.heap.push (seqObj "list" #[] 0)).update s.heap.objs.size (Obj.mapSeq (· ++ its.toArray))).get? b = some o := fun b o e => by
  rw [Heap.get?_update_ne _ _ _ _ (nlt (Heap.lt_size e)), Heap.get?_push_ne _ _ _ (nlt (Heap.lt_size e))]
  exact e
 generalize (s.heap.push (seqObj "list" #[] 0)).update s.heap.objs.size (Obj.mapSeq (· ++ its.toArray)) = h' at kp ⊢
 have I1 : Inv X pins σ H { s with heap := h' } := I.call (ch := []) (Un.kept kp) (I.hok.kept kp) I.bare fun b hb => nomatch hb
 refine wpAny_bind (wpAny_newList ?_ line)
 have I2 := I1.lnew (t' := s.toks) rv (by rw [List.length_map, sizeLine_eq]; omega)
 refine wpAny_bind (wpAny_holding (gD (A := X.A.in1) (l := h'.objs.size) (ps := ps) I2 ad h64 fun qs h2 pq pw I3 => ?_))
 rw [dL] at I3
 exact wpAny_pure ⟨_, rfl, .ref h'.objs.size, _, I3, rfl, q _ qs I1.fresh pq pw⟩
end
section
variable {X : Cx} {o e : Expr} {apos cpos : Pos} {to te : TE}
def ul (to te : TE) : TE := fun σ H Q => to σ H fun x H1 => ∃ a xs, x = .ref a /\ H1 a = some (.tup xs) /\ te σ H1 fun y H2 => ∃ (ps : List Str) (z : Str), y = .str z /\ H2 a = some (.tup (ps.map V.str)) /\ Q (.int (ps.count z : Nat)) H2
theorem qo (ho : PE X o to) (he : PE X e te) (m : M1 X o "count" apos e cpos) : PE X (.Call (.Attribute o "count" apos) [e] [] cpos) (ul to te) := by
 intro pins s σ H Q I h
 refine wpAny_Call_method m.base m.few m.line PySem.F.plainAttrs_tuple PySem.F.slot_tuple_count PySem.F.type_tuple_count (thn (ho pins s σ H _ I h) fun u s1 ⟨x, H1, I1, rx, a, xs, ex, hx, q1⟩ => ?_)
 subst ex
 obtain rfl : u = Value.ref a := rx
 obtain ⟨_, its0, _, ⟨o0, h1, h2, n0, h3⟩, nd⟩ := (show aF X.prog X.w H1 s1.heap a (.tup xs) from I1.hok a _ hx)
 refine ⟨⟨o0, h1, h2⟩, fun b q => ?_, ?_⟩
 ·cases q
  exact nd
 rw [m.trees]
 refine Calls.callWith_builtin rfl (Calls.evalArgs_plain (Calls.spliced_cons (thn (he pins s1 σ H1 _ I1 q1) fun iv s2 ⟨y, H2, I2, ry, ps, z, ey, h2', q2⟩ => Calls.spliced_nil ?_)))
 subst ey
 obtain ⟨t, rfl⟩ := (show ∃ t, iv = Value.str z t from ry)
 obtain ⟨_, its, vr, ⟨o1, g1, g2, n1, g3⟩, _⟩ := (show aF X.prog X.w H2 s2.heap a (.tup (ps.map V.str)) from I2.hok a _ h2')
 obtain ⟨tx, ty⟩ := fP vr
 obtain ⟨c1, d1, da1, sl1⟩ := o1
 cases (show c1 = _ from g2)
 cases (show da1 = _ from g3)
 refine call_meets PySem.F.slot_tuple_count ⟨_, g1, rfl⟩ PySem.F.entry_tuple_count (PySem.F.args_tuple_count_2 _ _) (SeqAt.tuple_countAt a its.toArray n1 d1 sl1 (.str z t) fun v => cf v == z) ⟨g1, fun v hv => ?_, ?_⟩
 ·obtain ⟨t', e'⟩ := ty v (by simpa using hv)
  rw [e']
  exact SeqAt.EqAt.str_str _ _ _ _
 ·have e : its.toArray.toList.countP (fun v => cf v == z) = ps.count z := by
   rw [<- tx, List.count, List.countP_map]; rfl
  rw [e]
  exact ⟨.int (ps.count z : Nat), H2, I2.tok _, ⟨_, rfl⟩, q2⟩
end
open PySem PySem.Spec PyProof.Rows PySem.W KB
abbrev TM := List Str × Int
def sk (x : List Str) : List Key := x.map Sum.inr
theorem mi {x y : List Str} (h : sk x = sk y) : x = y := (List.map_inj_right (fun _ _ e => Sum.inr.inj e)).mp h
theorem xp (x : List Str) : (sk x).map kV = x.map V.str := by unfold sk; rw [List.map_map]; rfl
abbrev TX := List Key × Addr × Value
def DtP (P : Program) (w : World) (a : Addr) (o : Obj) (xs : List TX) (h : Heap) : Prop := ∃ es ep, h.get? a = some o /\ o.ExactDict /\ o.data = .dict es ep /\ es.toList = xs.map (entryOfKey (tupleKind (am P w)))
def DtO (P : Program) (w : World) (a : Addr) (o : Obj) (xs : List TX) : HO := .ext (DtP P w a o xs)
def tvR (H : Hp) (p : TM) (x : TX) : Prop := sk p.1 = x.1 /\ H x.2.1 = some (.tup (p.1.map V.str)) /\ ∃ t, x.2.2 = .int p.2 t
def Dz (P : Program) (w : World) (H : Hp) (a : Addr) (o : Obj) (xs : List TX) (m : List TM) : Prop := H a = some (DtO P w a o xs) /\ (a == sysModules) = false /\ m.length <= 100000 /\ (m.map (·.1)).Nodup /\ Paired (tvR H) m xs
def Dt (P : Program) (w : World) (H : Hp) (a : Addr) (m : List TM) : Prop := ∃ (o : Obj) (xs : List TX), Dz P w H a o xs m
def bF (m : List TM) (k : List Str) : Option Int := (m.find? fun p => decide (p.1 = k)).map (·.2)
def cr (m : List TM) (k : List Str) (n : Int) : List TM := if (bF m k).isSome then m.map (fun p => if p.1 = k then (p.1, n) else p) else m ++ [(k, n)]
theorem kf {X : Cx} {pins : List (Addr × Obj)} {σ : St} {H : Hp} {s : Shared} {ps : List Str} {b : Addr} (I : Inv X pins σ H s) (r : H b = some (.tup (ps.map V.str))) : (tupleKind (am X.prog X.w)).is s.heap (sk ps) b := hV I.hok (by rw [xp]; exact r)
section
variable {P : Program} {w : World} {H H' : Hp} {h : Heap} {a b : Addr} {m : List TM} {xs : List TX} {k : List Str} {n : Int}
theorem jf : ∀ {m : List TM} {xs : List TX}, Paired (tvR H) m xs -> (m.map (·.1)).map sk = xs.map (·.1)
 | _, _, .nil => rfl
 | _, _, .cons r t => by rw [List.map_cons, List.map_cons, List.map_cons, r.1, jf t]
theorem fE (r : Paired (tvR H) m xs) : m.length = xs.length := by have := congrArg List.length (jf r); simpa using this
theorem iZ (k : List Str) : ∀ {m : List TM} {xs : List TX}, Paired (tvR H) m xs -> (bF m k = none /\ atKey xs (sk k) = none) \/ ∃ n c t, bF m k = some n /\ atKey xs (sk k) = some (c, .int n t)
 | _, _, .nil => .inl ⟨rfl, rfl⟩
 | p :: m, x :: xs, .cons r t => by
  unfold bF atKey
  rw [List.find?_cons, List.find?_cons]
  obtain ⟨e, _, tk, ev⟩ := r
  rw [<- e]
  by_cases z : p.1 = k
  ·rw [decide_eq_true z, decide_eq_true (congrArg sk z)]
   refine .inr ⟨p.2, x.2.1, tk, rfl, ?_⟩
   rw [<- ev]; rfl
  ·rw [decide_eq_false z, decide_eq_false (fun q => z (mi q))]
   exact iZ k t
theorem rE (k : List Str) (n : Int) (tk : Tok) : ∀ {m : List TM} {xs : List TX}, Paired (tvR H) m xs -> Paired (tvR H) (m.map fun p => if p.1 = k then (p.1, n) else p) (xs.map (putAt (sk k) (.int n tk)))
 | _, _, .nil => .nil
 | p :: m, x :: xs, .cons r t => by
  rw [List.map_cons, List.map_cons]
  refine .cons ?_ (rE k n tk t)
  unfold putAt
  obtain ⟨e, rr, ev⟩ := r
  rw [<- e]
  by_cases z : p.1 = k
  ·rw [if_pos z, if_pos (congrArg sk z)]; exact ⟨rfl, rr, tk, rfl⟩
  ·rw [if_neg z, if_neg (fun q => z (mi q))]; exact ⟨e, rr, ev⟩
theorem nO {p : TM} {x : TX} : ∀ {m : List TM} {xs : List TX}, Paired (tvR H) m xs -> tvR H p x -> Paired (tvR H) (m ++ [p]) (xs ++ [x])
 | _, _, .nil, h => .cons h .nil
 | _, _, .cons r t, h => .cons r (nO t h)
theorem rQ (r : Paired (tvR H) m xs) (rk : H b = some (.tup (k.map V.str))) (tk : Tok) : Paired (tvR H) (cr m k n) (storedH xs (sk k) b (.int n tk)) := by
 unfold cr storedH
 rcases iZ k r with ⟨e1, e2⟩ | ⟨n', c, t, e1, e2⟩
 ·rw [e1, e2, if_neg (by decide), if_neg (by decide)]
  exact nO r ⟨rfl, rk, tk, rfl⟩
 ·rw [e1, e2, if_pos (show (some n').isSome = true from rfl), if_pos (show (some (c, Value.int n' t)).isSome = true from rfl)]
  exact rE k n tk r
theorem ci (k : ∀ c zs, H c = some (.tup zs) -> H' c = some (.tup zs)) : ∀ {m : List TM} {xs : List TX}, Paired (tvR H) m xs -> Paired (tvR H') m xs
 | _, _, .nil => .nil
 | _, _, .cons r t => .cons ⟨r.1, k _ _ r.2.1, r.2.2⟩ (ci k t)
theorem tZ {X : Cx} {pins : List (Addr × Obj)} {σ : St} {H : Hp} {s : Shared} (I : Inv X pins σ H s) : ∀ {m : List TM} {xs : List TX}, Paired (tvR H) m xs -> ∀ x ∈ xs, (tupleKind (am X.prog X.w)).is s.heap x.1 x.2.1
 | _, _, .nil, x, hx => by cases hx
 | _, _, .cons r t, x, hx => by
  rcases List.mem_cons.mp hx with rfl | hx
  ·have q := kf I r.2.1
   rw [r.1] at q; exact q
  ·exact tZ I t x hx
theorem vZ {ob : Obj} {X : Cx} {pins : List (Addr × Obj)} {σ : St} {H : Hp} {s : Shared} (I : Inv X pins σ H s) (x : Dz X.prog X.w H a ob xs m) : H a = some (DtO X.prog X.w a ob xs) /\ (a == sysModules) = false /\ m.length <= 100000 /\ Paired (tvR H) m xs /\ s.heap.DictOfH (tupleKind (am X.prog X.w)) a xs /\ (xs.map (·.1)).Nodup := by
 obtain ⟨e, sm, l, nd, r⟩ := x
 obtain ⟨⟨es, ep, h1, h2, h3, h4⟩, _, _⟩ := (show aF X.prog X.w H s.heap a (DtO X.prog X.w a ob xs) from I.hok a _ e)
 have nd' : (xs.map (·.1)).Nodup := by rw [<- jf r]; exact List.pairwise_map.mpr (nd.imp fun h e => h (mi e))
 refine ⟨e, sm, l, r, ⟨ob, es, ep, h1, h2, h3, h4, fun x hx => ?_, nd'⟩, nd'⟩
 exact tZ I r x hx
theorem dG {X : Cx} {pins : List (Addr × Obj)} {σ : St} {H : Hp} {s : Shared} (I : Inv X pins σ H s) (x : Dt X.prog X.w H a m) : ∃ ob xs, H a = some (DtO X.prog X.w a ob xs) /\ (a == sysModules) = false /\ m.length <= 100000 /\ Paired (tvR H) m xs /\ s.heap.DictOfH (tupleKind (am X.prog X.w)) a xs /\ (xs.map (·.1)).Nodup := let ⟨ob, xs, z⟩ := x; ⟨ob, xs, vZ I z⟩
theorem pH (nd : (m.map (·.1)).Nodup) : ((cr m k n).map (·.1)).Nodup := by
 unfold cr
 split
 ·have e : (m.map fun p => if p.1 = k then (p.1, n) else p).map (·.1) = m.map (·.1) := by
   rw [List.map_map]
   refine List.map_congr_left fun p _ => ?_
   show (if p.1 = k then (p.1, n) else p).1 = p.1
   split <;> rfl
  rw [e]; exact nd
 ·next h =>
  rw [List.map_append]
  refine List.nodup_append.mpr ⟨nd, List.pairwise_singleton _ _, fun x hx y hy => ?_⟩
  obtain ⟨p, hp, rfl⟩ := List.mem_map.mp hx
  rw [List.map_singleton, List.mem_singleton] at hy
  rw [hy]
  intro z
  apply h
  unfold bF
  rw [Option.isSome_map, List.find?_isSome]
  exact ⟨p, hp, decide_eq_true z⟩
theorem gQ : (cr m k n).length <= m.length + 1 := by
 unfold cr
 split
 ·rw [List.length_map]; omega
 ·rw [List.length_append]; exact Nat.le_refl _
end
section
variable {X : Cx} {o e f i value : Expr} {apos cpos pos pos' : Pos} {td ty tx tv : TE}
def uT (P : Program) (w : World) : TE := fun _ H Q => ∀ (p : Addr) (H' : Hp), H p = none -> aA p H H' -> Dt P w H' p [] -> Q (.ref p) H'
theorem fx : PE X (.Dict [] [] pos) (uT X.prog X.w) := fun pins s σ H Q I h => by
 have hn := I.hok.fresh (Nat.le_refl s.heap.objs.size)
 refine wpAny_Dict_empty ⟨.ref s.heap.objs.size, _, I.laid (a := s.heap.objs.size) (o := DtO X.prog X.w s.heap.objs.size { cls := .type "dict", data := .dict #[] } []) (t' := s.toks) (fun _ _ q => Heap.get?_push_of_some _ q) (Nat.le_refl _) ?_, rfl, h _ _ hn (aA.upd _ _ _) ?_⟩
 ·exact ⟨⟨#[], 0, Heap.get?_push_size _ rfl, ⟨rfl, rfl, rfl⟩, rfl, rfl⟩, ⟨_, Heap.get?_push_size _ rfl⟩, fun h1 h2 ⟨es, ep, q, r⟩ k => ⟨es, ep, k _ q, r⟩⟩
 ·refine ⟨_, [], ad, ?_, Nat.zero_le _, List.nodup_nil, .nil⟩
  have := I.big
  cases z : (s.heap.objs.size == sysModules) with
  | false => rfl
  | true => rw [eq_of_beq z] at this; exact absurd this (Nat.lt_irrefl _)
def sg (P : Program) (w : World) (td ty tx : TE) : TE := fun σ H Q => td σ H fun x H1 => ∃ a m0, x = .ref a /\ Dt P w H1 a m0 /\ ty σ H1 fun y H2 => tx σ H2 fun z H3 => ∃ m ps b n, Dt P w H3 a m /\ y = .ref b /\ H3 b = some (.tup (ps.map V.str)) /\ z = .int n /\ Q (.int ((bF m ps).getD n)) H3
theorem oW (hu : X.A.in1.units < cLine) (ho : PE X o td) (he : PE X e ty) (hf : PE X f tx) (mm : M2 X o "get" apos e f cpos) : PE X (.Call (.Attribute o "get" apos) [e, f] [] cpos) (sg X.prog X.w td ty tx) := by
 intro pins s σ H Q I h
 refine wpAny_Call_method mm.base mm.few mm.line PySem.F.plainAttrs_dict PySem.F.slot_dict_get PySem.F.type_dict_get (thn (ho pins s σ H _ I h) fun u s1 ⟨x, H1, I1, rx, a, m0, ex, d0, q1⟩ => ?_)
 subst ex
 obtain rfl : u = Value.ref a := rx
 obtain ⟨_, xs0, _, _, _, _, dd0, _⟩ := dG I1 d0
 refine ⟨dd0.typeIs, fun b q => by cases q; obtain ⟨ob, _, _, h1, h2, _⟩ := dd0; exact ⟨ob, h1, h2.2.1⟩, ?_⟩
 rw [mm.trees]
 refine Calls.callWith_builtin rfl (Calls.evalArgs_plain (Calls.spliced_cons (thn (he pins s1 σ H1 _ I1 q1) fun iv s2 ⟨y, H2, I2, ry, q2⟩ =>
  Calls.spliced_cons (thn (hf pins s2 σ H2 _ I2 q2) fun fv s3 ⟨z, H3, I3, rz, m, ps, b, n, d3, ey, rk, ez, q3⟩ => Calls.spliced_nil ?_))))
 subst ey ez
 cases (show iv = Value.ref b from ry)
 obtain ⟨_, xs, _, sm, _, r, dd, _⟩ := dG I3 d3
 refine call_meetsIn PySem.F.slot_dict_get dd.typeIs PySem.F.entry_dict_get (PySem.F.args_dict_get_3 _ _ _) (meetsH_dict_get_default (tupleKind (am X.prog X.w)) a b sm fv) ⟨hu, sk ps, xs, kf I3 rk, dd, .int ((bF m ps).getD n), H3, I3.tok _, ?_, q3⟩
 rcases iZ ps r with ⟨e1, e2⟩ | ⟨n', c, t, e1, e2⟩
 ·rw [e1, e2]; exact rz
 ·rw [e1, e2]; exact ⟨t, rfl⟩
def ut (P : Program) (w : World) (td ty tv : TE) : TS := fun D σ H => tv σ H fun v H1 => td σ H1 fun x H2 => ty σ H2 fun y H3 => ∃ a m ps b n, x = .ref a /\ Dt P w H3 a m /\ y = .ref b /\ H3 b = some (.tup (ps.map V.str)) /\ v = .int n /\ m.length < 100000 /\ ∀ H4, aA a H3 H4 -> Dt P w H4 a (cr m ps n) -> D.nx σ H4
theorem lF (hu : X.A.in1.units < cLine) (ho : PE X o td) (hi : PE X i ty) (hv : PE X value tv) (hs : swapsWith value (some (.Subscript o i pos')) pos.line X.env = pure false) : PS X (.Assign [.Subscript o i pos'] value pos) (ut X.prog X.w td ty tv) := by
 intro pins s σ H D I h
 refine wpAny_Assign_Subscript (thn (hv pins s σ H _ I h) fun r s1 ⟨v, H1, I1, rv, q1⟩ => thn (ho pins s1 σ H1 _ I1 q1) fun u s2 ⟨x, H2, I2, rx, q2⟩ => thn (hi pins s2 σ H2 _ I2 q2) fun iv s3 ⟨y, H3, I3, ry, a, m, ps, b, n, ex, d3, ey, rk, ev, lm, q3⟩ => ?_) hs
 subst ex ey ev
 obtain rfl : u = Value.ref a := rx
 cases (show iv = Value.ref b from ry)
 obtain ⟨t, rfl⟩ := rv
 obtain ⟨o0, xs, ea, sm, _, pr, dd, nd⟩ := dG I3 d3
 have lx : xs.length <= sizeLine := by rw [<- fE pr, sizeLine_eq]; omega
 refine wpAny_setItem_heap (hsz := lx) (knd := tupleKind (am X.prog X.w)) hu (kf I3 rk) dd fun h' dd' hs' => ?_
 obtain ⟨ob, es, ep, h1, h2, h3, h4, _, h5⟩ := dd'
 have I4 := dQ (t' := s3.toks + (tupleKind (am X.prog X.w)).draws (sk ps)) (ob := DtO X.prog X.w a ob (storedH xs (sk ps) b (.int n t))) I3 (by rw [ea]; exact True.intro) hs' ⟨ob, h1⟩ ⟨⟨es, ep, h1, h2, h3, h4⟩, ⟨ob, h1⟩, fun g1 g2 ⟨es, ep, q, r⟩ k => ⟨es, ep, k _ q, r⟩⟩
 have tt : ∀ c zs, H3 c = some (.tup zs) -> upd H3 a (DtO X.prog X.w a ob (storedH xs (sk ps) b (.int n t))) c = some (.tup zs) := fun c zs ec => by rw [ap (on ec ea (fun z => nomatch z))]; exact ec
 refine ⟨σ, _, I4, q3 _ (aA.upd _ _ _) ⟨_, _, ad, sm, Nat.le_trans gQ lm, ?_, ci tt (rQ pr rk t)⟩⟩
 obtain ⟨_, _, _, _, _, nm, _⟩ := d3
 exact pH nm
end
section
variable {X : Cx}
theorem oR : MtR X "dict.items" (fun x xs H Q => ∃ d m, x = .ref d /\ xs = [] /\ Dt X.prog X.w H d m /\ ∀ v, H v = none -> Q (.ref v) (upd H v (bj v d))) := by
 intro pins s σ H x xs u us Q I rx rv h
 obtain ⟨d, m, rfl, rfl, hd, q⟩ := h
 cases rx
 cases rv
 obtain ⟨_, ys, _, sm, _, _, dd, _⟩ := dG I hd
 refine wpAny_call_entry PySem.F.slot_dict_items dd.typeIs PySem.F.entry_dict_items ?_ (PySem.F.args_dict_items_1 _)
 unfold Builtin.«dict.items»; refine wpAny_bind ?_; unfold Builtin.Dict.noArgs
 refine wpAny_bind (wpAny_notOrdered_dict dd.typeIs ?_); show wpAny _ _ (pure d) _ _ s; refine wpAny_pure ?_
 show wpAny _ _ (Builtin.Dict.showsAll d >>= _) _ _ s; unfold Builtin.Dict.showsAll; rw [if_neg (by rw [sm]; decide)]
 refine wpAny_bind (wpAny_pure (wpAny_bind (wpAny_newObj_type (wpAny_pure ⟨_, rfl, .ref s.heap.objs.size, _, I.laid (t' := s.toks) (a := s.heap.objs.size) (o := bj s.heap.objs.size d) (fun b u q => Heap.get?_push_of_some _ q) (Nat.le_refl _) ?_, rfl, q _ I.fresh⟩))))
 exact ⟨⟨_, Heap.get?_push_size _ rfl, rfl, rfl⟩, ⟨_, Heap.get?_push_size _ rfl⟩, fun h1 h2 ⟨o, e, r⟩ k => ⟨o, k o e, r⟩⟩
end
section
variable {prog : Program} {w : World} {A : Around} {E : Value -> Shared -> Prop} {s : Shared} {t d v : Addr} {es : Array DictEntry} {i ep : Nat}
theorem pT {Q : Value -> Shared -> Prop} (hd : (d == sysModules) = false) (hm : DE s.heap d es ep) (q : Q (.ref s.heap.objs.size) { s with heap := s.heap.push { cls := .type "dict_keyiterator", data := .fields #[.ref d, .int 0 0, .int es.size 0, .int ep 0] } }) :
  wpAny (model prog w) A (pyIter (.ref d)) Q E s := by
 obtain ⟨o, ho, hc, hdat⟩ := hm
 have hT : s.TypeIs (.ref d) "dict" := ⟨o, ho, hc.1⟩
 refine wpAny_pyIter_slot hT F.slot_dict_iter (wpAny_call_entry F.slot_dict_iter hT F.entry_dict_iter ?_ (F.args_dict_iter_1 _))
 unfold Builtin.«dict.__iter__»; refine wpAny_bind ?_; unfold Builtin.Dict.dictSlotNone
 refine wpAny_bind (wpAny_notOrdered_dict hT ?_); show wpAny _ _ (pure (Value.ref d)) _ _ s; refine wpAny_pure ?_
 show wpAny _ _ (Builtin.Dict.showsAll d >>= _) _ _ s; unfold Builtin.Dict.showsAll; rw [if_neg (by rw [hd]; exact Bool.false_ne_true)]
 refine wpAny_bind (wpAny_pure (wpAny_bind (wpAny_dictEntries ho hdat (wpAny_bind (wpAny_dictEpoch ho hdat ?_)))))
 refine wpAny_bind (wpAny_newObj_type (wpAny_pure ⟨_, rfl, "dict_keyiterator", _, ⟨_, Heap.get?_push_size _ rfl, rfl⟩, F.slot_dict_keyiterator_next.lookup, ?_⟩))
 simpa [rawInt] using q
theorem pQ {e : DictEntry} {Q : Option Value -> Shared -> Prop} (hit : s.heap.IsKeyIter t d i es.size ep) (hm : DE s.heap d es ep) (hx : es[i]? = some e) (q : ∀ h', h'.IsKeyIter t d (i + 1) es.size ep -> Heap.SameBut t s.heap h' -> Q (some e.key) { s with heap := h' }) :
  wpAny (model prog w) A (pyNext (.ref t)) Q E s := by
 obtain ⟨o, ho, hc, hd⟩ := id hit
 obtain ⟨od, hod, hcd, hdd⟩ := hm
 unfold pyNext
 refine wpAny_bind (wpAny_attempt (wpAny_callSpecial?_slot (name := Str.ofString "__next__") hit.typeIs F.slot_dict_keyiterator_next (wpAny_call_entry F.slot_dict_keyiterator_next hit.typeIs F.entry_dict_keyiterator_next ?_ (F.args_dict_keyiterator_next_1 _))))
 refine wpAny_bind (wpAny_pure (wpAny_bind (wpAny_bind ?_)))
 first | refine wpAny_bind (wpAny_typeNameOfWhole_keyiter hit.typeIs (wpAny_pure ?_)) | refine wpAny_bind (wpAny_typeNameOf_keyiter hit.typeIs (wpAny_pure ?_))
 refine wpAny_bind (wpAny_fieldsOf ho hd ?_); simp only [show Builtin.Dict_items.ownsTuple "dict_keyiterator" = false by decide, Bool.false_eq_true, if_false]
 show wpAny _ _ (if (Value.ref d == Value.none) = true then _ else _) _ _ s; rw [if_neg (show ¬ ((Value.ref d == Value.none) = true) by intro z; cases z)]
 refine wpAny_bind (wpAny_pure (wpAny_bind (wpAny_dictEntries hod hdd ?_))); rw [if_neg (by simp)]
 refine wpAny_bind (wpAny_pure (wpAny_bind (wpAny_dictEpoch hod hdd ?_))); rw [if_neg (by simp)]; refine wpAny_pure ?_
 simp only [show ¬ ((i : Int) < 0) from by omega, if_false, Int.toNat_natCast, hx]; refine wpAny_bind ?_
 first | refine wpAny_bind (wpAny_typeNameOfWhole_keyiter hit.typeIs (wpAny_pure ?_)) | refine wpAny_bind (wpAny_typeNameOf_keyiter hit.typeIs (wpAny_pure ?_))
 refine wpAny_bind (wpAny_isOneOf_keyiter hit.typeIs ?_)
 show wpAny _ _ (setField (.ref t) 1 (rawInt ((i : Int) + 1)) >>= _) _ _ s; refine wpAny_bind (wpAny_setField ho hd (by simp) ?_)
 have hit' : (s.heap.update t (Obj.mapFields (·.setIfInBounds 1 (rawInt ((i : Int) + 1))))).IsKeyIter t d (i + 1) es.size ep :=
  ⟨_, Heap.get?_update_self _ ho (Obj.isFreed_of_fields (Obj.data_mapFields hd _)), (Obj.cls_mapFields ..).trans hc, by rw [Obj.data_mapFields hd]; simp [rawInt]⟩
 refine wpAny_bind (wpAny_holding (wpAny_bind (wpAny_isOneOf_keyiter (s := { s with heap := s.heap.update t (Obj.mapFields (·.setIfInBounds 1 (rawInt ((i : Int) + 1)))) }) hit'.typeIs ?_)))
 show wpAny _ _ (pure e.key) _ _ _
 exact wpAny_pure (wpAny_pure ⟨_, rfl, wpAny_pure (q _ hit' (Heap.SameBut.update ..))⟩)
theorem rK {Q : Option Value -> Shared -> Prop} (hh : A.handled = none) (hit : s.heap.IsKeyIter t d i es.size ep) (hm : DE s.heap d es ep) (hx : es[i]? = none) (q : ∀ h', Heap.ExtBut t s.heap h' -> Q none { s with heap := h' }) : wpAny (model prog w) A (pyNext (.ref t)) Q E s := by
 obtain ⟨o, ho, hc, hd⟩ := id hit
 obtain ⟨od, hod, hcd, hdd⟩ := hm
 unfold pyNext
 refine wpAny_bind (wpAny_attempt (wpAny_callSpecial?_slot (name := Str.ofString "__next__") hit.typeIs F.slot_dict_keyiterator_next (wpAny_call_entry F.slot_dict_keyiterator_next hit.typeIs F.entry_dict_keyiterator_next ?_ (F.args_dict_keyiterator_next_1 _))))
 refine wpAny_bind (wpAny_pure (wpAny_bind (wpAny_bind ?_)))
 first | refine wpAny_bind (wpAny_typeNameOfWhole_keyiter hit.typeIs (wpAny_pure ?_)) | refine wpAny_bind (wpAny_typeNameOf_keyiter hit.typeIs (wpAny_pure ?_))
 refine wpAny_bind (wpAny_fieldsOf ho hd ?_); simp only [show Builtin.Dict_items.ownsTuple "dict_keyiterator" = false by decide, Bool.false_eq_true, if_false]
 show wpAny _ _ (if (Value.ref d == Value.none) = true then _ else _) _ _ s; rw [if_neg (show ¬ ((Value.ref d == Value.none) = true) by intro z; cases z)]
 refine wpAny_bind (wpAny_pure (wpAny_bind (wpAny_dictEntries hod hdd ?_))); rw [if_neg (by simp)]
 refine wpAny_bind (wpAny_pure (wpAny_bind (wpAny_dictEpoch hod hdd ?_))); rw [if_neg (by simp)]; refine wpAny_pure ?_
 simp only [show ¬ ((i : Int) < 0) from by omega, if_false, Int.toNat_natCast, hx]; refine wpAny_bind ?_
 first | refine wpAny_bind (wpAny_typeNameOfWhole_keyiter hit.typeIs (wpAny_pure ?_)) | refine wpAny_bind (wpAny_typeNameOf_keyiter hit.typeIs (wpAny_pure ?_))
 show wpAny _ _ (setField (.ref t) 0 .none >>= _) _ _ s; refine wpAny_bind (wpAny_setField ho hd (by simp) ?_)
 show wpAny _ _ (newExc (.type "StopIteration") [] >>= _) _ _ _; refine wpAny_bind ?_; simp only [newExc, newTuple]
 refine wpAny_bind (wpAny_newObj_type ?_ (by size_fits)); refine wpAny_bind (m := firstArgMember _ _) (wpAny_of_eq (a := Value.none) (by first | rfl | (simp only [firstArgMember]; rfl)) ?_)
 refine wpAny_newObj_type ?_ (by size_fits); simp only [raiseNew]
 refine wpAny_bind (wpAny_handled ?_); rw [show A.in1.handled = none from hh]; refine wpAny_bind (wpAny_pure (wpAny_throw ?_))
 exact wpAny_bind (wpAny_isInstance (T := "StopIteration") (b := true) ⟨_, Heap.get?_push_size _ rfl, rfl⟩ isSubtype_stop (wpAny_pure (q _ (((Heap.SameBut.update ..).extBut.push _).push _))))
theorem jZ {e : DictEntry} {ok ov : Value} {Q : Option Value -> Shared -> Prop} (hit : IR s.heap t d i es.size ep .none (.bool false) ok ov) (hm : DE s.heap d es ep) (hx : es[i]? = some e)
  (q : ∀ h', IR h' t d (i + 1) es.size ep (rawInt s.heap.objs.size) (.bool false) e.key e.val -> h'.get? s.heap.objs.size = some { cls := .type "tuple", data := .seq #[e.key, e.val] } -> h'.objs.size = s.heap.objs.size + 1 -> (∀ b o, b ≠ t -> s.heap.get? b = some o -> h'.get? b = some o) -> Q (some (.ref s.heap.objs.size)) { s with heap := h' }) :
  wpAny (model prog w) A (pyNext (.ref t)) Q E s := by
 obtain ⟨hp, g, dr, tk, os⟩ := s
 obtain ⟨od, e2, _, d2⟩ := hm
 have T : Shared.TypeIs ⟨hp, g, dr, tk, os⟩ (.ref t) "dict_itemiterator" := ⟨_, hit, rfl⟩
 obtain ⟨hi, ei⟩ := Array.getElem?_eq_some_iff.mp hx
 unfold pyNext
 refine wpAny_bind (wpAny_attempt (wpAny_callSpecial?_slot (name := Str.ofString "__next__") T F.slot_dict_itemiterator_next (wpAny_call_entry F.slot_dict_itemiterator_next T F.entry_dict_itemiterator_next ?_ (F.args_dict_itemiterator_next_1 _))))
 refine wpAny_bind (wpAny_pure (wpAny_bind (wpAny_bind ?_)))
 first | refine wpAny_bind (wpAny_typeNameOfWhole_itemiter T (wpAny_pure ?_)) | refine wpAny_bind (wpAny_typeNameOf_itemiter T (wpAny_pure ?_))
 refine wpAny_bind (wpAny_fieldsOf hit rfl ?_); simp only [show Builtin.Dict_items.ownsTuple "dict_itemiterator" = true by decide, if_true]
 show wpAny _ _ (if (Value.ref d == Value.none) = true then _ else _) _ _ _; rw [if_neg (show ¬ ((Value.ref d == Value.none) = true) by intro z; cases z)]
 refine wpAny_bind (wpAny_pure (wpAny_bind (wpAny_dictEntries e2 d2 ?_))); rw [if_neg (by simp)]
 refine wpAny_bind (wpAny_pure (wpAny_bind (wpAny_dictEpoch e2 d2 ?_))); rw [if_neg (by simp)]; refine wpAny_pure ?_
 simp only [show ¬ ((i : Int) < 0) by omega, if_false, Int.toNat_natCast, hx]; refine wpAny_bind ?_
 first | refine wpAny_bind (wpAny_typeNameOfWhole_itemiter T (wpAny_pure ?_)) | refine wpAny_bind (wpAny_typeNameOf_itemiter T (wpAny_pure ?_))
 refine wpAny_bind (wpAny_isOneOf_itemiter T ?_); show wpAny _ _ (setField (.ref t) 3 (rawInt ((i : Int) + 1)) >>= _) _ _ ⟨hp, g, dr, tk, os⟩
 refine wpAny_bind (wpAny_setField_rec hit (by simp) fun h1 i1 s1 => ?_)
 replace s1 : Heap.SameBut t hp h1 := s1
 replace i1 : IR h1 t d (i + 1) es.size ep .none (.bool false) ok ov := by
  have c : ((i + 1 : Nat) : Int) = (i : Int) + 1 := by omega
  unfold IR; rw [c]; simpa [rawInt] using i1
 have T1 : Shared.TypeIs ⟨h1, g, dr, tk, os⟩ (.ref t) "dict_itemiterator" := ⟨_, i1, rfl⟩
 refine wpAny_bind (wpAny_holding (wpAny_bind (wpAny_isOneOf_itemiter T1 (wpAny_bind (wpAny_isOneOf_itemiter T1 ?_)))))
 show wpAny _ _ (Builtin.Dict_items.pairFromOwner (.ref t) 6 e.key e.val) _ _ ⟨h1, g, dr, tk, os⟩
 unfold Builtin.Dict_items.pairFromOwner; refine wpAny_bind (wpAny_newTuple ?_)
 have i2 : IR (h1.push { cls := .type "tuple", data := .seq #[e.key, e.val] }) t d (i + 1) es.size ep .none (.bool false) ok ov := Heap.get?_push_of_some _ i1
 generalize e2' : h1.push { cls := .type "tuple", data := .seq #[e.key, e.val] } = h2 at i2
 have z1 : h1.objs.size = hp.objs.size := s1.1
 have tl : t < hp.objs.size := Heap.lt_size hit
 have t2 : h2.get? hp.objs.size = some { cls := .type "tuple", data := .seq #[e.key, e.val] } := by rw [<- e2', <- z1]; exact Heap.get?_push_size _ rfl
 have z2 : h2.objs.size = hp.objs.size + 1 := by rw [<- e2', Heap.size_push, z1]
 have k2 : ∀ b o, b ≠ t -> hp.get? b = some o -> h2.get? b = some o := fun b o hb x => by rw [<- e2']; exact Heap.get?_push_of_some _ (s1.extBut b o hb x)
 show wpAny _ _ (Builtin.Dict_items.ownedTupleIsFree (.ref t) >>= _) _ _ ⟨h2, g, dr, tk, os⟩; rw [z1]
 clear e2' i1 s1 T1 z1 h1
 refine wpAny_bind ?_; unfold Builtin.Dict_items.ownedTupleIsFree
 refine wpAny_bind (wpAny_field i2 rfl (x := .none) rfl (wpAny_pure ?_)); simp only [if_true]
 refine wpAny_bind (wpAny_field i2 rfl (x := ok) rfl (wpAny_bind (wpAny_field i2 rfl (x := ov) rfl ?_)))
 refine wpAny_bind (wpAny_setField_rec i2 (by simp) fun h3 i3 s3 => ?_)
 replace s3 : Heap.SameBut t h2 h3 := s3
 replace i3 : IR h3 t d (i + 1) es.size ep .none (.bool false) e.key ov := i3
 refine wpAny_bind (wpAny_setField_rec i3 (by simp) fun h4 i4 s4 => ?_)
 replace s4 : Heap.SameBut t h3 h4 := s4
 replace i4 : IR h4 t d (i + 1) es.size ep .none (.bool false) e.key e.val := i4
 refine wpAny_bind (wpAny_setField_rec i4 (by simp) fun h5 i5 s5 => ?_)
 replace s5 : Heap.SameBut t h4 h5 := s5
 replace i5 : IR h5 t d (i + 1) es.size ep (rawInt hp.objs.size) (.bool false) e.key e.val := i5
 refine wpAny_bind (wpAny_setField_rec i5 (by simp) fun h6 i6 s6 => ?_)
 replace s6 : Heap.SameBut t h5 h6 := s6
 replace i6 : IR h6 t d (i + 1) es.size ep (rawInt hp.objs.size) (.bool false) e.key e.val := i6
 have sa : Heap.SameBut t h2 h6 := ⟨by rw [s6.1, s5.1, s4.1, s3.1], fun b hb => by rw [s6.2 b hb, s5.2 b hb, s4.2 b hb, s3.2 b hb]⟩
 exact wpAny_bind (wpAny_letGo (wpAny_pure (wpAny_pure ⟨_, rfl, wpAny_pure (q h6 i6 (sa.extBut _ _ (Nat.ne_of_gt tl) t2) (by show h6.objs.size = hp.objs.size + 1; rw [sa.1, z2]) fun b o hb x => sa.extBut b o hb (k2 b o hb x))⟩)))
end
section
variable {X : Cx} {tg : Expr}
def Itk (P : Program) (w : World) (d : Addr) (o : Obj) (xs : List TX) : It :=
 ⟨fun i H => H d = some (DtO P w d o xs) /\ i < xs.length, fun i H x H' => H' = H /\ ∃ y, xs[i]? = some y /\ x = .ref y.2.1, fun i H => H d = some (DtO P w d o xs) /\ i = xs.length⟩
def Iti (P : Program) (w : World) (d : Addr) (o : Obj) (xs : List TX) : It :=
 ⟨fun i H => H d = some (DtO P w d o xs) /\ i < xs.length, fun i H x H' => ∃ q y n t, H q = none /\ H' = upd H q (.tup [.ref y.2.1, .int n]) /\ x = .ref q /\ xs[i]? = some y /\ y.2.2 = .int n t, fun i H => H d = some (DtO P w d o xs) /\ i = xs.length⟩
theorem nW {pins : List (Addr × Obj)} {σ : St} {H : Hp} {s : Shared} {d : Addr} {o : Obj} {xs : List TX} (I : Inv X pins σ H s) (h : H d = some (DtO X.prog X.w d o xs)) {es : Array DictEntry} {ep : Nat} (he : o.data = .dict es ep) : DE s.heap d es ep /\ es.toList = xs.map (entryOfKey (tupleKind (am X.prog X.w))) := by
 obtain ⟨⟨es', ep', h1, h2, h3, h4⟩, _, _⟩ := (show aF X.prog X.w H s.heap d (DtO X.prog X.w d o xs) from I.hok d _ h)
 rw [he] at h3
 cases h3
 exact ⟨⟨o, h1, h2, he⟩, h4⟩
theorem mD {P : Program} {w : World} {K : PySem.W.Frag} (d it : Addr) (o : Obj) (xs : List TX) (es : Array DictEntry) (ep : Nat) (he : o.data = .dict es ep) : nk P w K tg (Itk P w d o xs) [it] it (fun i h => h.IsKeyIter it d i es.size ep) where
 mem := by simp
 obj := fun i h st b hb => by
  have e : b = it := by simpa using hb
  subst e
  obtain ⟨o, e, c, d⟩ := st
  exact ⟨o, e, fun v z => by rw [d] at z; cases z⟩
 keep := fun i h h' st k => let ⟨o, e, r⟩ := st; ⟨o, k it (by simp) o e, r⟩
 item := by
  intro X hP hw hK hc i pins s σ H E I hf st hg
  subst hP hw hK
  obtain ⟨hd, hi⟩ := hg
  obtain ⟨f0, f1, f2, f3, f4, f5⟩ := hf it (by simp)
  obtain ⟨de, l⟩ := nW I hd he
  have ge : es[i]? = some (entryOfKey (tupleKind (am X.prog X.w)) xs[i]) := by rw [<- Array.getElem?_toList, l, List.getElem?_map, List.getElem?_eq_getElem hi]; rfl
  refine pQ st de ge fun h' st' sb => ?_
  have I1 : Inv X pins σ H { s with heap := h' } := I.turned (t' := s.toks) (fun b o hb e => (sb.2 b hb).trans e) f0 f1 f3 f4 f5
  obtain ⟨oi, e, c, dd⟩ := id st'
  exact ⟨_, rfl, nC (s := { s with heap := h' }) e c dd (by decide) ⟨.ref xs[i].2.1, H, I1, rfl, ⟨rfl, _, List.getElem?_eq_getElem hi, rfl⟩, st', fun b hb => (hf b hb).1⟩⟩
 done := by
  intro X hP hw hK hc i pins s σ H E I hf st hg
  subst hP hw hK
  obtain ⟨hd, hi⟩ := hg
  obtain ⟨f0, f1, f2, f3, f4, f5⟩ := hf it (by simp)
  obtain ⟨de, l⟩ := nW I hd he
  have ge : es[i]? = none := by rw [<- Array.getElem?_toList, l, List.getElem?_map, List.getElem?_eq_none (by omega)]; rfl
  exact rK (I.ok.hd hc) st de ge fun h' eb => ⟨rfl, I.turned (t' := s.toks) (fun b o hb e => eb b o hb e) f0 f1 f3 f4 f5⟩
 self := fun _ _ _ _ _ st h => wpAny_pyIter_keyiter st h
def vi (P : Program) (w : World) (td : TE) : TI := fun σ H R => td σ H fun x H1 => ∃ d o xs m, x = .ref d /\ Dz P w H1 d o xs m /\ R (Itk P w d o xs) H1
theorem rc {e : Expr} {td : TE} (hl : PE X e td) : PI X tg e (vi X.prog X.w td) := by
 intro pins s σ H R I h
 refine thn (hl pins s σ H _ I h) fun v s1 ⟨x, H1, I1, r1, d, o, xs, m, e, dz, q⟩ => ?_
 subst e
 cases r1
 obtain ⟨hd, sm, _⟩ := id dz
 obtain ⟨⟨es, ep, h1, h2, h3, h4⟩, _, _⟩ := (show aF X.prog X.w H1 s1.heap d (DtO X.prog X.w d o xs) from I1.hok d _ hd)
 refine pT sm ⟨o, h1, h2, h3⟩ ?_
 exact ⟨s1.heap.objs.size, [s1.heap.objs.size], _, _, H1, rfl, I1.kept (t' := s1.toks) fun b o e => Heap.get?_push_of_some _ e, mD d _ o xs es ep h3, ⟨_, Heap.get?_push_size _ rfl, rfl, rfl⟩, fun b hb => I1.fp1 b hb, q⟩
theorem px {P : Program} {w : World} {d : Addr} {o : Obj} {xs : List TX} {g : TG} {tb : TS} {D : eE} {σ : St} {H : Hp} (Pv : Nat -> St -> Hp -> Prop) (h0 : Pv 0 σ H) (hl : ∀ i σ H, i <= xs.length -> Pv i σ H -> H d = some (DtO P w d o xs))
  (hs : ∀ i y σ H, xs[i]? = some y -> Pv i σ H -> g (.ref y.2.1) σ H fun σ2 H2 => tb { D with nx := Pv (i + 1), ct := Pv (i + 1), bk := D.nx } σ2 H2) (hd : ∀ σ H, Pv xs.length σ H -> D.nx σ H) :
  ∃ W : Nat -> Nat -> St -> Hp -> Prop, (∃ m, W 0 m σ H) /\ ∀ i m σ H, W i m σ H ->
   ((Itk P w d o xs).stop i H /\ D.nx σ H) \/ ((Itk P w d o xs).go i H /\ ∃ N : St -> Hp -> Prop, (∀ σ' H', N σ' H' -> ∃ m', m' < m /\ W (i + 1) m' σ' H') /\ ∀ x H', (Itk P w d o xs).yld i H x H' -> g x σ H' fun σ2 H2 => tb { D with nx := N, ct := N, bk := D.nx } σ2 H2) := by
 refine ⟨fun i m σ H => m = xs.length - i /\ i <= xs.length /\ Pv i σ H, ⟨xs.length, by simp, Nat.zero_le _, h0⟩, ?_⟩
 rintro i m σ H ⟨rfl, hi, p⟩
 have q := hl i σ H hi p
 by_cases hlt : i < xs.length
 ·refine .inr ⟨⟨q, hlt⟩, Pv (i + 1), fun σ' H' p' => ⟨xs.length - (i + 1), by omega, rfl, hlt, p'⟩, fun x H' y => ?_⟩
  obtain ⟨e, z, hz, rfl⟩ := y
  subst e
  exact hs i z σ _ hz p
 ·have e : i = xs.length := by omega
  subst e
  exact .inl ⟨⟨q, rfl⟩, hd σ H p⟩
theorem lC {P : Program} {w : World} {K : PySem.W.Frag} {elts : List Expr} {x1} {tp : Pos} (d it : Addr) (o : Obj) (xs : List TX) (es : Array DictEntry) (ep : Nat) (he : o.data = .dict es ep) (hv : ∀ y ∈ xs, ∃ n t, y.2.2 = Value.int n t) : nk P w K (.Tuple elts x1 tp) (Iti P w d o xs) [it] it (fun i h => ∃ ok ov, IR h it d i es.size ep .none (.bool false) ok ov) where
 mem := by simp
 obj := fun i h st b hb => by
  have e : b = it := by simpa using hb
  subst e
  obtain ⟨ok, ov, st⟩ := st
  exact ⟨_, st, fun v z => by
    have z' : Data.fields _ = Data.cell v := z
    cases z'⟩
 keep := fun i h h' st k => let ⟨ok, ov, st⟩ := st; ⟨ok, ov, k it (by simp) _ st⟩
 item := by
  intro X hP hw hK hc i pins s σ H E I hf st hg
  subst hP hw hK
  obtain ⟨hd, hi⟩ := hg
  obtain ⟨f0, f1, f2, f3, f4, f5⟩ := hf it (by simp)
  obtain ⟨ok, ov, st⟩ := st
  obtain ⟨de, l⟩ := nW I hd he
  have ge : es[i]? = some (entryOfKey (tupleKind (am X.prog X.w)) xs[i]) := by rw [<- Array.getElem?_toList, l, List.getElem?_map, List.getElem?_eq_getElem hi]; rfl
  have hit : it < s.heap.objs.size := Heap.lt_size st
  obtain ⟨n, tk, en⟩ := hv _ (List.getElem_mem hi)
  refine jZ st de ge fun h1 i1 t1 z1 k1 => ?_
  refine ⟨_, rfl, wpAny_letOwnedTupleGo_items (s := { s with heap := h1 }) i1 fun h2 i2 sb => ?_⟩
  have hn : H s.heap.objs.size = none := I.hok.fresh (Nat.le_refl _)
  have keep : ∀ b o, b ≠ it -> s.heap.get? b = some o -> h2.get? b = some o := fun b o hb q => (sb.2 b hb).trans (k1 b o hb q)
  have tup : h2.get? s.heap.objs.size = some { cls := .type "tuple", data := .seq #[.ref xs[i].2.1, .int n tk] } := (sb.2 _ (Nat.ne_of_gt hit)).trans (by rw [t1, <- en]; rfl)
  have nit : ∀ b v, H b = some v -> b ≠ it := fun b v q z => by rw [z, f0] at q; cases q
  have I2 : Inv X pins σ (upd H s.heap.objs.size (.tup [.ref xs[i].2.1, .int n])) { s with heap := h2 } := by
   refine I.step (g' := s.gens) (d' := s.drawn) (t' := s.toks) (ch := [it]) (fun b hb => ?_) (fun b o _ _ hc' q _ => keep b o (fun z => hc' (by simp [z])) q) (fun b o _ _ hc' q _ => ⟨o.slots, keep b o (fun z => hc' (by simp [z])) q⟩)
    (fun b o _ q n => by rw [ap (nlt (Heap.lt_size q))]; exact n) (fun b o hc' q => ⟨o, keep b o (fun z => hc' (by simp [z])) q⟩)
    (fun b xs q => by rw [ap (ag q hn)]; exact q) (fun b o v q => by rw [ap (ag q hn)]; exact q) (fun b ps q => ⟨#[], by rw [ap (ag q hn), q]; simp⟩) (fun m hm => ?_) (fun b v q => ?_) I.bare
   ·have e' : b = it := by simpa using hb
    subst e'
    exact ⟨f3, f1, f4, f5⟩
   ·obtain ⟨o, es, ep, ho, r⟩ := hm
    exact ⟨o, es, ep, keep _ o (Ne.symm f1) ho, r⟩
   ·by_cases hb : b = s.heap.objs.size
    ·subst hb
     rw [ad] at q
     cases q
     exact ⟨(show 2 <= sizeLine by rw [sizeLine_eq]; decide), [.ref xs[i].2.1, .int n tk], .cons rfl (.cons ⟨_, rfl⟩ .nil), ⟨_, tup, rfl, 0, rfl⟩, _, tup, rfl⟩
    ·rw [ap hb] at q
     refine (I.hok b v q).stay (fun c w' hc' q' => ?_) (fun c q' => by rw [ap (ag q' hn)]; exact q') fun c xs q' => by rw [ap (ag q' hn)]; exact q'
     rcases hc' with z | z
     ·subst z; exact keep c w' (nit c v q) q'
     ·exact keep c w' (nit c _ z) q'
  refine ⟨.ref s.heap.objs.size, _, I2, rfl, ⟨_, xs[i], n, tk, hn, rfl, rfl, List.getElem?_eq_getElem hi, en⟩, ⟨_, _, i2⟩, fun b hb => ?_⟩
  have e' : b = it := by simpa using hb
  subst e'
  rw [ap (nlt hit)]
  exact f0
 done := by
  intro X hP hw hK hc i pins s σ H E I hf st hg
  subst hP hw hK
  obtain ⟨hd, hi⟩ := hg
  obtain ⟨f0, f1, f2, f3, f4, f5⟩ := hf it (by simp)
  obtain ⟨de, l⟩ := nW I hd he
  obtain ⟨ok, ov, st⟩ := st
  have ge : es[i]? = none := by rw [<- Array.getElem?_toList, l, List.getElem?_map, List.getElem?_eq_none (by omega)]; rfl
  exact iE (I.ok.hd hc) ⟨_, _, _, _, st, .inl ⟨rfl, rfl⟩⟩ de ge fun h' eb => ⟨rfl, I.turned (t' := s.toks) (fun b o hb e => eb b o hb e) f0 f1 f3 f4 f5⟩
 self := fun A i s Q E st h => let ⟨_, _, st⟩ := st; kcp_self st h
def tG (P : Program) (w : World) (td : TE) : TI := fun σ H R => td σ H fun x H1 => ∃ v d o xs m, x = .ref v /\ H1 v = some (bj v d) /\ Dz P w H1 d o xs m /\ R (Iti P w d o xs) H1
theorem fF {e : Expr} {td : TE} {elts : List Expr} {x1} {tp : Pos} (hl : PE X e td) : PI X (.Tuple elts x1 tp) e (tG X.prog X.w td) := by
 intro pins s σ H R I h
 refine thn (hl pins s σ H _ I h) fun v s1 ⟨x, H1, I1, r1, a, d, o, xs, m, e, hv, dz, q⟩ => ?_
 subst e
 cases r1
 obtain ⟨hd, sm, _, _, pr⟩ := id dz
 obtain ⟨vw, _, _⟩ := (show aF X.prog X.w H1 s1.heap a (bj a d) from I1.hok a _ hv)
 obtain ⟨⟨es, ep, h1, h2, h3, h4⟩, _, _⟩ := (show aF X.prog X.w H1 s1.heap d (DtO X.prog X.w d o xs) from I1.hok d _ hd)
 have vints : ∀ {m : List TM} {xs : List TX}, Paired (tvR H1) m xs -> ∀ y ∈ xs, ∃ n t, y.2.2 = Value.int n t := by
  intro m xs pr
  induction pr with
  | nil => intro y hy; cases hy
  | cons r _ ih =>
   intro y hy
   rcases List.mem_cons.mp hy with rfl | hy
   ·exact ⟨_, r.2.2⟩
   ·exact ih y hy
 refine gI vw ⟨o, h1, h2, h3⟩ ?_
 exact ⟨s1.heap.objs.size, [s1.heap.objs.size], _, _, H1, rfl, I1.kept (t' := s1.toks) fun b o e => Heap.get?_push_of_some _ e, lC d _ o xs es ep h3 (vints pr), ⟨_, _, Heap.get?_push_size _ rfl⟩, fun b hb => I1.fp1 b hb, q⟩
theorem eF {P : Program} {w : World} {d : Addr} {o : Obj} {xs : List TX} {g : TG} {tb : TS} {D : eE} {σ : St} {H : Hp} (Pv : Nat -> St -> Hp -> Prop) (h0 : Pv 0 σ H) (hl : ∀ i σ H, i <= xs.length -> Pv i σ H -> H d = some (DtO P w d o xs))
  (hs : ∀ i y n t q σ H, xs[i]? = some y -> y.2.2 = Value.int n t -> H q = none -> Pv i σ H -> g (.ref q) σ (upd H q (.tup [.ref y.2.1, .int n])) fun σ2 H2 => tb { D with nx := Pv (i + 1), ct := Pv (i + 1), bk := D.nx } σ2 H2) (hd : ∀ σ H, Pv xs.length σ H -> D.nx σ H) :
  ∃ W : Nat -> Nat -> St -> Hp -> Prop, (∃ m, W 0 m σ H) /\ ∀ i m σ H, W i m σ H ->
   ((Iti P w d o xs).stop i H /\ D.nx σ H) \/ ((Iti P w d o xs).go i H /\ ∃ N : St -> Hp -> Prop, (∀ σ' H', N σ' H' -> ∃ m', m' < m /\ W (i + 1) m' σ' H') /\ ∀ x H', (Iti P w d o xs).yld i H x H' -> g x σ H' fun σ2 H2 => tb { D with nx := N, ct := N, bk := D.nx } σ2 H2) := by
 refine ⟨fun i m σ H => m = xs.length - i /\ i <= xs.length /\ Pv i σ H, ⟨xs.length, by simp, Nat.zero_le _, h0⟩, ?_⟩
 rintro i m σ H ⟨rfl, hi, p⟩
 have q := hl i σ H hi p
 by_cases hlt : i < xs.length
 ·refine .inr ⟨⟨q, hlt⟩, Pv (i + 1), fun σ' H' p' => ⟨xs.length - (i + 1), by omega, rfl, hlt, p'⟩, fun x H' y => ?_⟩
  obtain ⟨q, z, n, t, hq, rfl, rfl, hz, hn⟩ := y
  exact hs i z n t q σ H hz hn hq p
 ·have e : i = xs.length := by omega
  subst e
  exact .inl ⟨⟨q, rfl⟩, hd σ H p⟩
end
section
variable {X : Cx} {o e i : Expr} {td ty to : TE} {apos cpos pos : Pos}
def uV (P : Program) (w : World) (td ty : TE) : TE := fun σ H Q => td σ H fun x H1 => ty σ H1 fun y H2 => ∃ a m k b n, x = .ref a /\ Dt P w H2 a m /\ y = .ref b /\ H2 b = some (.tup (k.map V.str)) /\ bF m k = some n /\ Q (.int n) H2
theorem kj (hu : X.A.in1.units < cLine) (ho : PE X o td) (hi : PE X i ty) (hs : vP i) : PE X (.Subscript o i pos) (uV X.prog X.w td ty) := by
 intro pins s σ H Q I h
 refine sU PySem.F.slot_dict_getitem.lookup hs (thn (ho pins s σ H _ I h) fun u s1 ⟨x, H1, I1, rx, q1⟩ => thn (hi pins s1 σ H1 _ I1 q1) fun iv s2 ⟨y, H2, I2, ry, a, m, k, b, n, ex, hd, ey, hb, hg, q2⟩ => ?_)
 subst ex ey
 obtain rfl : u = Value.ref a := rx
 obtain rfl : iv = Value.ref b := ry
 obtain ⟨_, xs, _, _, _, r, dd, _⟩ := dG I2 hd
 rcases iZ k r with ⟨e1, e2⟩ | ⟨n', c, t, e1, e2⟩
 ·rw [e1] at hg; cases hg
 ·rw [e1] at hg
  cases hg
  exact ⟨dd.typeIs, wpAny_getItem_heap (knd := tupleKind (am X.prog X.w)) hu (kf I2 hb) dd e2 ⟨.int n, H2, I2.tok _, ⟨t, rfl⟩, q2⟩⟩
def sD (P : Program) (w : World) (to : TE) : TE := fun σ H Q => to σ H fun x H1 => ∃ d m, x = .ref d /\ Dt P w H1 d m /\ ∀ v, H1 v = none -> Q (.ref v) (upd H1 v (bj v d))
theorem cN (ho : PE X o to) (hbase : attributeBase o "items" X.env (eval o X.env) = eval o X.env := by rfl) (hline : (apos.endLine == cpos.line) = true := by rfl) : PE X (.Call (.Attribute o "items" apos) [] [] cpos) (sD X.prog X.w to) := by
 intro pins s σ H Q I h
 refine wpAny_Call_method0_late hbase hline (thn (ho pins s σ H _ I h) fun v s1 ⟨x, H1, I1, r1, d, m, ex, hd, q1⟩ => ?_)
 subst ex
 obtain rfl : v = Value.ref d := r1
 obtain ⟨_, ys, _, _, _, _, dd, _⟩ := dG I1 hd
 have h2 : ∀ a, Value.ref d = .ref a -> ∃ ob, s1.heap.get? a = some ob /\ ob.dict = none := fun b q => by cases q; obtain ⟨ob, _, _, h1, h2, _⟩ := dd; exact ⟨ob, h1, h2.2.1⟩
 exact ⟨"dict", "dict.items", PySem.F.plainAttrs_dict, PySem.F.slot_dict_items, PySem.F.type_dict_items, dd.typeIs, h2, Calls.callWith_builtin rfl (PySem.evalArgs_none (oR pins s1 σ H1 (.ref d) [] (.ref d) [] Q I1 rfl .nil ⟨d, m, rfl, rfl, hd, q1⟩))⟩
def uO (P : Program) (w : World) (trs : List (TE × TE)) : TE := fun σ H Q => ∀ (p : Addr) (H' : Hp), H p = none -> aA p H H' -> Dt P w H' p [] -> jB trs σ H' fun ps H2 => ∃ k b n, ps = [(.ref b, .int n)] /\ Dt P w H2 p [] /\ H2 b = some (.tup (k.map V.str)) /\ ∀ H3, aA p H2 H3 -> Dt P w H3 p [(k, n)] -> Q (.ref p) H3
theorem qT {keys : List (Option Expr)} {values : List Expr} {trs : List (TE × TE)} (hu : X.A.in1.units < cLine) (h : PPs X pos keys values trs) (hall : keys.all (·.isSome) = true) (hl : keys.length = values.length) (h0 : keys ≠ []) (h15 : keys.length <= 15) : PE X (.Dict keys values pos) (uO X.prog X.w trs) := by
 intro pins s σ H Q I q
 have hn := I.hok.fresh (Nat.le_refl s.heap.objs.size)
 have sm : (s.heap.objs.size == sysModules) = false := by
  have := I.big
  cases z : (s.heap.objs.size == sysModules) with
  | false => rfl
  | true => rw [eq_of_beq z] at this; exact absurd this (Nat.lt_irrefl _)
 have I1 := I.laid (a := s.heap.objs.size) (h' := s.heap.push { cls := .type "dict", data := .dict #[] }) (o := DtO X.prog X.w s.heap.objs.size { cls := .type "dict", data := .dict #[] } []) (t' := s.toks) (fun _ _ q => Heap.get?_push_of_some _ q) (Nat.le_refl _)
  ⟨⟨#[], 0, Heap.get?_push_size _ rfl, ⟨rfl, rfl, rfl⟩, rfl, rfl⟩, ⟨_, Heap.get?_push_size _ rfl⟩, fun h1 h2 ⟨es, ep, q, r⟩ k => ⟨es, ep, k _ q, r⟩⟩
 refine wpAny_Dict_any hall hl h0 h15 (thn (h pins _ σ _ _ I1 (q _ _ hn (aA.upd _ _ _) ⟨_, [], ad, sm, Nat.zero_le _, List.nodup_nil, .nil⟩)) fun ws s2 ⟨ps, H2, I2, rel, k, b, n, e, d2, hb, q2⟩ => ?_)
 subst e
 cases rel with
 | @cons _ vv _ _ r t =>
 cases t
 obtain ⟨v1, v2⟩ := vv
 obtain ⟨r1, r2⟩ := r
 obtain rfl : v1 = Value.ref b := r1
 obtain ⟨tk, rfl⟩ := (show ∃ t, v2 = Value.int n t from r2)
 obtain ⟨o0, xs, ea, sm, _, pr, dd, nd⟩ := dG I2 d2
 cases pr
 show wpAny _ _ (do let r <- (do dictSet _ _ _; pure (ForInStep.yield PUnit.unit)); _) _ _ s2
 refine wpAny_bind (wpAny_bind (wpAny_dictSet_heap (hsz := Nat.zero_le _) (knd := tupleKind (am X.prog X.w)) (show X.A.units < cLine from Nat.lt_of_succ_lt hu) (kf I2 hb) dd fun h' dd' hs' => ?_))
 obtain ⟨ob, es, ep, h1, h2, h3, h4, _, h5⟩ := dd'
 have I4 := dQ (t' := s2.toks + (tupleKind (am X.prog X.w)).draws (sk k)) (ob := DtO X.prog X.w s.heap.objs.size ob (storedH [] (sk k) b (.int n tk))) I2 (by rw [ea]; exact True.intro) hs' ⟨ob, h1⟩ ⟨⟨es, ep, h1, h2, h3, h4⟩, ⟨ob, h1⟩, fun g1 g2 ⟨es, ep, q, r⟩ k => ⟨es, ep, k _ q, r⟩⟩
 have tt : ∀ c zs, H2 c = some (.tup zs) -> upd H2 s.heap.objs.size (DtO X.prog X.w s.heap.objs.size ob (storedH [] (sk k) b (.int n tk))) c = some (.tup zs) := fun c zs ec => by rw [ap (on ec ea (fun z => nomatch z))]; exact ec
 refine wpAny_pure (wpAny_pure ⟨.ref s.heap.objs.size, _, I4, rfl, q2 _ (aA.upd _ _ _) ⟨_, _, ad, sm, (show 1 <= 100000 by decide), List.pairwise_singleton _ _, ci tt (rQ (m := []) .nil hb tk)⟩⟩)
end
section
variable {X : Cx} {pins : List (Addr × Obj)} {σ : St} {H : Hp} {s : Shared}
theorem Inv.laysL {h' : Heap} {tk : Nat} {rs : List TV} {S : Addr} {o : HO} (I : Inv X pins σ H s) (k : ∀ b u, s.heap.get? b = some u -> h'.get? b = some u) (nd : (rs.map (·.1)).Nodup) (hp : ∀ r ∈ rs, s.heap.objs.size <= r.1) (hS : s.heap.objs.size <= S) (nS : ∀ r ∈ rs, r.1 ≠ S)
  (new : ∀ r ∈ rs, aF X.prog X.w (upd (L2.laysV H rs) S o) h' r.1 (.tup r.2)) (newS : aF X.prog X.w (upd (L2.laysV H rs) S o) h' S o) : Inv X pins σ (upd (L2.laysV H rs) S o) { s with heap := h', toks := tk } := by
 have out : ∀ b, b < s.heap.objs.size -> upd (L2.laysV H rs) S o b = H b := fun b hb => by
  rw [ap (a := S) (b := b) (fun z => absurd hb (Nat.not_lt.mpr (by rw [z]; exact hS)))]
  exact cm fun r hr e => absurd hb (Nat.not_lt.mpr (by rw [<- show r.1 = b from e]; exact hp r hr))
 refine I.un (t' := tk) ⟨fun b u q _ _ _ => k b u q, fun b u q _ _ _ => ⟨u.slots, k b u q⟩, fun b u q n _ => by rw [out b (Heap.lt_size q)]; exact n, fun b u q _ => ⟨u, k b u q⟩, fun b xs q => by rw [out b (I.hok.lt q)]; exact q, fun b u xs q => by rw [out b (I.hok.lt q)]; exact q,
  fun b ps q => ⟨#[], by rw [out b (I.hok.lt q), q]; simp⟩⟩ fun b u e => ?_
 by_cases hS' : b = S
 ·subst hS'
  rw [ad] at e
  cases e
  exact newS
 ·have e0 := e
  rw [ap hS'] at e
  by_cases hb : ∃ r ∈ rs, r.1 = b
  ·obtain ⟨r, hr, rfl⟩ := hb
   rw [fw nd hr] at e
   cases e
   exact new r hr
  ·rw [cm fun r hr z => hb ⟨r, hr, z⟩] at e
   exact (I.hok b u e).stay (fun c v _ q => k c v q) (fun c q => by rw [out c (I.hok.lt q)]; exact q) fun c xs q => by rw [out c (I.hok.lt q)]; exact q
end
section
variable {prog : Program} {w : World} {A : Around} {E : Value -> Shared -> Prop} {s : Shared} {d r S : Addr} {es : Array DictEntry} {ep : Nat}
theorem mM {R : Result -> Shared -> Prop} (hh : A.handled = none) (hv : s.heap.IsItemsView r d) (hm : DE s.heap d es ep) (hSr : S ≠ r) (hSd : d ≠ S) (hS : s.heap.get? S = some { cls := .type "list", data := .seq #[] })
  (q : ∀ h' tk acc c as, (∀ b o, b ≠ S -> s.heap.get? b = some o -> h'.get? b = some o) -> h'.get? S = some { cls := .type "list", dict := none, data := .seq acc c, slots := #[] } -> as.length = es.size -> ItG es s.heap.objs.size h' as -> acc.toList = as.map Value.ref -> R (.ok (.ret .none)) { s with heap := h', toks := tk }) (hn : es.size <= sizeLine) :
  wpAny (model prog w) A.in1 (Builtin.«list.__init__» ⟨[.ref S, .ref r], []⟩) (fun fin s' => match fin with | .done f => R (.ok f) s' | .again c' => c'.quiet = true /\ codeAny (model prog w) A c' R s') (fun e s' => R (.error e) s') s := by
 show wpAny _ _ (do let old <- Builtin.List.listItems (.ref S); Builtin.List.listUpdate (.ref S) (fun _ => #[]); letGo old.toList.reverse; Builtin.List.listExtendWith (.ref S) (.ref r) .none) _ _ s; refine wpAny_bind ?_
 unfold Builtin.List.listItems; refine wpAny_bind (wpAny_seqItems hS rfl (wpAny_pure ?_))
 show wpAny _ _ (updateSeq S (fun _ => #[]) >>= fun _ => letGo (#[] : Array Value).toList.reverse >>= fun _ => Builtin.List.listExtendWith (.ref S) (.ref r) .none) _ _ s; refine wpAny_bind (wpAny_updateSeq hS rfl ?_)
 have hS2 := Heap.get?_update_self (Obj.mapSeq (fun _ => (#[] : Array Value))) hS rfl
 have oth : ∀ b o, b ≠ S -> s.heap.get? b = some o -> (s.heap.update S (Obj.mapSeq (fun _ => (#[] : Array Value)))).get? b = some o := fun b o hb e => (Heap.get?_update_other _ _ (Ne.symm hb)).trans e
 have sz : (s.heap.update S (Obj.mapSeq (fun _ => (#[] : Array Value)))).objs.size = s.heap.objs.size := Heap.size_update ..
 refine wpAny_bind (wpAny_letGo (fo hh (let ⟨o, x, y⟩ := hv; ⟨o, oth _ _ (Ne.symm hSr) x, y⟩) (hm.at fun o e => oth d o hSd e) S hSr hSd .none _ hS2 (fun h' tk acc c as k a1 a2 a3 a4 => ?_) hn))
 exact q h' tk acc c as (fun b o hb e => k b o hb (oth b o hb e)) a1 a2 (by rw [<- sz]; exact a3) a4
theorem ng {Q : Value -> Shared -> Prop} (hh : A.handled = none) (hv : s.heap.IsItemsView r d) (hm : DE s.heap d es ep) (hn : es.size <= sizeLine)
  (q : ∀ h' tk acc c as, (∀ b o, s.heap.get? b = some o -> h'.get? b = some o) -> h'.get? s.heap.objs.size = some { cls := .type "list", dict := none, data := .seq acc c, slots := #[] } -> as.length = es.size -> ItG es (s.heap.objs.size + 1) h' as -> acc.toList = as.map Value.ref -> Q (.ref s.heap.objs.size) { s with heap := h', toks := tk }) :
  wpAny (model prog w) A (call (.type "list") [.ref r]) Q E s := by
 refine callType_codes (Q₁ := fun obj s₁ => obj = .ref s.heap.objs.size /\ s₁ = { s with heap := s.heap.push { cls := .type "list", data := .seq #[] } }) PySem.F.called_list (PySem.F.typeCall_list_1 _) PySem.F.entry_list_init (code_list_new _ ⟨rfl, rfl⟩) fun obj s₁ h₁ => ?_
 obtain ⟨rfl, rfl⟩ := h₁
 have hS : (s.heap.push { cls := .type "list", data := .seq #[] }).get? s.heap.objs.size = some { cls := .type "list", data := .seq #[] } := Heap.get?_push_size _ rfl
 have lr : r < s.heap.objs.size := let ⟨o, ho, _⟩ := hv; Heap.lt_size ho
 have sz : (s.heap.push { cls := .type "list", data := .seq #[] }).objs.size = s.heap.objs.size + 1 := Heap.size_push ..
 refine ⟨⟨_, hS, rfl⟩, PySem.F.args_list_init_2 _ _, mM (A := A.in1) (es := es) (ep := ep) hh (let ⟨o, x, y⟩ := hv; ⟨o, Heap.get?_push_of_some _ x, y⟩) (hm.at fun o e => Heap.get?_push_of_some _ e) (Nat.ne_of_gt lr) (Nat.ne_of_lt hm.lt) hS (fun h' tk acc c as k a1 a2 a3 a4 => ?_) hn⟩
 exact ⟨rfl, q h' tk acc c as (fun b o e => k b o (Nat.ne_of_lt (Heap.lt_size e)) (Heap.get?_push_of_some _ e)) a1 a2 (by rw [<- sz]; exact a3) a4⟩
end
def ItQ (H : Hp) (p : TM) (u : V) : Prop := ∃ a b, u = .ref a /\ H a = some (.tup [.ref b, .int p.2]) /\ H b = some (.tup (p.1.map V.str))
section
variable {X : Cx}
theorem gv (hc : X.calm = true) : bB X (.type "list") (fun xs H Q => ∃ (v d : Addr) (m : List TM), xs = [.ref v] /\ H v = some (bj v d) /\ Dt X.prog X.w H d m /\
  ∀ (H' : Hp) (l : Addr) (us : List V), ao H H' -> H l = none -> H' l = some (.lst us) -> Paired (ItQ H') m us -> Q (.ref l) H') := by
 intro pins s σ H xs us Q I r h
 obtain ⟨v, d, m, rfl, hv, hd, q⟩ := h
 obtain ⟨u, rfl, ru⟩ := bN r
 cases ru
 obtain ⟨vw, _, _⟩ := (show aF X.prog X.w H s.heap v (bj v d) from I.hok v _ hv)
 obtain ⟨_, ys, _, sm, lm, pv, ⟨od, es, ep, o1, o2, o3, o4, _, _⟩, _⟩ := dG I hd
 have ly := fE pv
 have le : es.size = m.length := by rw [<- Array.length_toList, o4, List.length_map, ly]
 refine ng (A := X.A) (es := es) (ep := ep) (I.ok.hd hc) vw ⟨od, o1, o2, o3⟩ (by rw [le, sizeLine_eq]; omega) fun h' tk acc c as hk hS hl hG ha => ?_
 have la : as.length = m.length := by rw [hl, le]
 generalize hrs : (as.zip (m.zip ys)).map (fun z => ((z.1, [V.ref z.2.2.2.1, V.int z.2.1.2]) : TV)) = rs
 have lrs : rs.length = as.length := by rw [<- hrs, List.length_map, List.length_zip, List.length_zip]; omega
 have e1 : rs.map (·.1) = as := by
  rw [<- hrs, List.map_map]
  have : ((fun x : TV => x.1) ∘ fun z : Addr × TM × TX => ((z.1, [V.ref z.2.2.2.1, V.int z.2.1.2]) : TV)) = Prod.fst := rfl
  rw [this, List.map_fst_zip (by rw [List.length_zip]; omega)]
 have at_ : ∀ {m : List TM} {ys : List TX}, Paired (tvR H) m ys -> ∀ {j : Nat} {p : TM} {y : TX}, m[j]? = some p -> ys[j]? = some y -> tvR H p y := by
  intro m ys pv
  induction pv with
  | nil => intro j p y h _; simp at h
  | cons r t ih =>
   intro j p y h1 h2
   cases j with
   | zero => cases h1; cases h2; exact r
   | succ j => exact ih h1 h2
 have nda : (rs.map (·.1)).Nodup := by rw [e1]; exact hG.rise.imp fun h => Nat.ne_of_lt h
 have above : ∀ t ∈ rs, s.heap.objs.size < t.1 := fun t ht => Nat.lt_trans (Nat.lt_succ_self _) (hG.above t.1 (by rw [<- e1]; exact List.mem_map_of_mem (f := fun t : TV => t.1) ht))
 have pairs : ∀ t ∈ rs, ∃ (y : TX) (p : TM) (tk' : Tok), t = (t.1, [V.ref y.2.1, V.int p.2]) /\ h'.get? t.1 = some { cls := .type "tuple", data := .seq #[.ref y.2.1, .int p.2 tk'] } := fun t ht => by
  rw [<- hrs] at ht
  obtain ⟨⟨a, p, y⟩, hz, rfl⟩ := List.mem_map.mp ht
  obtain ⟨j, hj⟩ := List.getElem?_of_mem hz
  obtain ⟨ha', hz2⟩ := List.getElem?_zip_eq_some.mp hj
  obtain ⟨hm, hy⟩ := List.getElem?_zip_eq_some.mp hz2
  obtain ⟨e, g1, g2⟩ := hG.pairs j a ha'
  have ge : es[j]? = some (entryOfKey (tupleKind (am X.prog X.w)) y) := by rw [<- Array.getElem?_toList, o4, List.getElem?_map, hy]; rfl
  rw [ge] at g1
  cases g1
  obtain ⟨_, _, tk', ev⟩ := at_ pv hm hy
  refine ⟨y, p, tk', rfl, ?_⟩
  show h'.get? a = some { cls := .type "tuple", data := .seq #[.ref y.2.1, .int p.2 tk'] }
  rw [g2, <- ev]; rfl
 have s1 : ao H (upd (laysV H rs) s.heap.objs.size (.lst (as.map V.ref))) := fun b o e => by
  have hb := I.hok.lt e
  rw [ap (Nat.ne_of_lt hb), cm fun r hr z' => absurd hb (Nat.not_lt.mpr (by rw [<- show r.1 = b from z']; exact Nat.le_of_lt (above r hr)))]
  exact e
 have vs : aG (as.map V.ref) (as.map Value.ref) := by
  clear s1 e1 la lrs hrs hl hG ha
  induction as with
  | nil => exact .nil
  | cons p ps ih => exact .cons rfl ih
 have I1 := I.laysL (tk := tk) (S := s.heap.objs.size) (o := .lst (as.map V.ref)) hk nda (fun r hr => Nat.le_of_lt (above r hr)) (Nat.le_refl _) (fun r hr => Nat.ne_of_gt (above r hr)) (fun r hr => by
  obtain ⟨y, p, tk', e, g⟩ := pairs r hr
  rw [show r.2 = [V.ref y.2.1, V.int p.2] from congrArg Prod.snd e]
  exact ⟨by show 2 <= sizeLine; rw [sizeLine_eq]; decide, [.ref y.2.1, .int p.2 tk'], .cons rfl (.cons ⟨tk', rfl⟩ .nil), ⟨_, g, rfl, 0, rfl⟩, ⟨_, g, rfl⟩⟩) (show aF X.prog X.w _ h' _ (.lst (as.map V.ref)) from ⟨by rw [List.length_map, la, sizeLine_eq]; omega, as.map Value.ref, c, vs, by rw [<- ha]; simpa using hS⟩)
 refine ⟨.ref s.heap.objs.size, _, I1, rfl, q _ _ _ s1 I.fresh ad ?_⟩
 have go : ∀ (H' : Hp), ao H H' -> (∀ t ∈ rs, H' t.1 = some (.tup t.2)) -> ∀ {m : List TM} {ys : List TX} {as : List Addr}, Paired (tvR H) m ys -> as.length = m.length -> (∀ z ∈ as.zip (m.zip ys), ((z.1, [V.ref z.2.2.2.1, V.int z.2.1.2]) : TV) ∈ rs) -> Paired (ItQ H') m (as.map V.ref) := by
  intro H' sH hr m ys as pv
  induction pv generalizing as with
  | nil => intro l _; rw [List.eq_nil_of_length_eq_zero l]; exact .nil
  | @cons p y ms yss r t ih =>
   intro l hin
   cases as with
   | nil => cases l
   | cons a as =>
    rw [List.map_cons]
    refine .cons ⟨a, y.2.1, rfl, ?_, sH _ _ r.2.1⟩ (ih (by simpa using l) fun z hz => hin z (List.mem_cons_of_mem _ hz))
    exact hr _ (hin (a, p, y) List.mem_cons_self)
 refine go _ s1 (fun t ht => ?_) pv la fun z hz => by rw [<- hrs]; exact List.mem_map_of_mem (f := fun z : Addr × TM × TX => ((z.1, [V.ref z.2.2.2.1, V.int z.2.1.2]) : TV)) hz
 rw [ap (Nat.ne_of_gt (above t ht)), fw nda ht]
theorem kA {prog : Program} {w : World} {A : Around} {E : Value -> Shared -> Prop} {s : Shared} {l : Addr} {vs : List Value} {Q : List Value -> Shared -> Prop} (hl : s.heap.IsTuple l vs.toArray)
  (h : Q vs { s with heap := (s.heap.push (seqObj "list" #[] 0)).update s.heap.objs.size (Obj.mapSeq (· ++ vs.toArray)) }) (hsz : vs.length <= sizeLine) : wpAny (model prog w) A (collect (.ref l)) Q E s := by
 obtain ⟨o, ho, hc, n, hd⟩ := id hl
 unfold collect
 refine wpAny_bind (wpAny_runValue (codeAny_builtin entry_proto_collect' ?_))
 show wpAny _ _ (do again (.builtin "list.__iadd__" ⟨[<- newList [], .ref l], []⟩)) _ _ s
 refine wpAny_bind (wpAny_newList (wpAny_pure ⟨Code.quiet_builtin _ (by decide +kernel), codeAny_builtin entry_list_iadd' ?_⟩))
 show wpAny _ _ (Builtin.List.listExtendWith (.ref s.heap.objs.size) (.ref l) (.ref s.heap.objs.size)) _ _ { s with heap := s.heap.push (seqObj "list" #[] 0) }
 unfold Builtin.List.listExtendWith
 have ho' : (s.heap.push (seqObj "list" #[] 0)).get? l = some o := Heap.get?_push_of_some _ ho
 refine wpAny_bind (wpAny_typeOf (T := "tuple") ⟨o, ho', hc⟩ ?_)
 rw [if_pos (by rw [show (Value.type "tuple" == Value.type "tuple") = true by rfl]; simp)]
 refine wpAny_bind (listItems_at ho' hd (wpAny_bind (listItems_at (xs := #[]) (n := 0) (Heap.get?_push_size _ rfl) rfl ?_)))
 rw [if_neg (by simp)]
 refine wpAny_bind (listUpdate_at (xs := #[]) (n := 0) (Heap.get?_push_size _ rfl) rfl ?_ (Nat.zero_le _) (by show (#[] ++ vs.toArray).size <= sizeLine + 1; simp only [Array.size_append, List.size_toArray, List.length_nil]; omega))
 refine wpAny_pure ?_
 show wpAny (model prog w) A (do
   let o <- load s.heap.objs.size
   match o.data with
   | .seq xs _ => pure xs.toList
   | _ => unsupported "internal:collect") Q E { s with heap := (s.heap.push (seqObj "list" #[] 0)).update s.heap.objs.size (Obj.mapSeq (· ++ vs.toArray)) }
 refine wpAny_bind (wpAny_load (get?_update_seq (Heap.get?_push_size _ rfl) _) ?_)
 show wpAny _ _ (pure ((#[] : Array Value) ++ vs.toArray).toList) Q E _
 rw [show ((#[] : Array Value) ++ vs.toArray).toList = vs by simp]
 exact wpAny_pure h
theorem ji : bB X (.builtin "sorted") (fun xs H Q => ∃ (a : Addr) (ps : List Str), xs = [.ref a] /\ SqT X.K H a (ps.map V.str) /\ ps.length <= 100000 /\
  ∀ (l : Addr) (qs : List Str), H l = none -> qs.Perm ps -> qs.Pairwise (fun a b => ¬ lA b a) -> Q (.ref l) (upd H l (.lst (qs.map V.str)))) := by
 intro pins s σ H xs us Q I r h
 obtain ⟨a, ps, rfl, ha, h64, q⟩ := h
 obtain ⟨u, rfl, ru⟩ := bN r
 cases ru
 obtain ⟨its, rv, at0, hz⟩ := I.tuple ha
 have li : its.length = ps.length := by have := rv.length; rw [List.length_map] at this; exact this.symm
 have line : its.length <= sizeLine := by rw [sizeLine_eq]; omega
 refine Calls.call_function_entry kind_sorted plain_sorted entry_sorted (args_sorted1 _) ?_
 unfold Builtin.«sorted»
 refine wpAny_bind (m := checkCount "sorted" 1 1 _) (wpAny_pure (wpAny_bind (kA (vs := its) at0 ?_ line)))
 have kp : ∀ b o, s.heap.get? b = some o -> ((s.heap.push (seqObj "list" #[] 0)).update s.heap.objs.size (Obj.mapSeq (· ++ its.toArray))).get? b = some o := fun b o e => by
  rw [Heap.get?_update_ne _ _ _ _ (nlt (Heap.lt_size e)), Heap.get?_push_ne _ _ _ (nlt (Heap.lt_size e))]
  exact e
 generalize (s.heap.push (seqObj "list" #[] 0)).update s.heap.objs.size (Obj.mapSeq (· ++ its.toArray)) = h' at kp ⊢
 have I1 : Inv X pins σ H { s with heap := h' } := I.call (ch := []) (Un.kept kp) (I.hok.kept kp) I.bare fun b hb => nomatch hb
 refine wpAny_bind (wpAny_newList ?_ line)
 have I2 := I1.lnew (t' := s.toks) rv (by rw [List.length_map, sizeLine_eq]; omega)
 refine wpAny_bind (wpAny_holding (gD (A := X.A.in1) (l := h'.objs.size) (ps := ps) I2 ad h64 fun qs h2 pq pw I3 => ?_))
 rw [dL] at I3
 exact wpAny_pure ⟨_, rfl, .ref h'.objs.size, _, I3, rfl, q _ qs I1.fresh pq pw⟩
theorem js (hu : X.A.units + 10 < cLine) : bB X (.builtin "sorted") (fun xs H Q => ∃ (a : Addr) (ts : List IT), xs = [.ref a] /\ H a = some (.lst (ts.map fun t => V.ref t.1)) /\ (∀ t ∈ ts, nc X.K H t) /\ (ts.map fun t => t.2.2.1).Nodup /\ ts.length <= 100000 /\
  ∀ (l : Addr) (ts' : List IT), H l = none -> ts'.Perm ts -> ts'.Pairwise (fun a b => ltK a.2.2.1 b.2.2.1 = true) -> Q (.ref l) (upd H l (.lst (ts'.map fun t => V.ref t.1)))) := by
 intro pins s σ H xs us Q I r h
 obtain ⟨a, ts, rfl, ha, hT, nd, h64, q⟩ := h
 obtain ⟨u, rfl, ru⟩ := bN r
 cases ru
 obtain ⟨hz, its, n, rv, at0⟩ := (show aF X.prog X.w H s.heap a (.lst (ts.map fun t => V.ref t.1)) from I.hok a _ ha)
 have li : its.length = ts.length := by have := rv.length; rw [List.length_map] at this; exact this.symm
 have line : its.length <= sizeLine := by rw [sizeLine_eq]; omega
 refine Calls.call_function_entry kind_sorted plain_sorted entry_sorted (args_sorted1 _) ?_
 unfold Builtin.«sorted»
 refine wpAny_bind (m := checkCount "sorted" 1 1 _) (wpAny_pure (wpAny_bind (collect_list (vs := its) ⟨_, at0, rfl, _, rfl⟩ ?_ line)))
 have kp : ∀ b o, s.heap.get? b = some o -> ((s.heap.push (seqObj "list" #[] 0)).update s.heap.objs.size (Obj.mapSeq (· ++ its.toArray))).get? b = some o := fun b o e => by
  rw [Heap.get?_update_ne _ _ _ _ (nlt (Heap.lt_size e)), Heap.get?_push_ne _ _ _ (nlt (Heap.lt_size e))]
  exact e
 generalize (s.heap.push (seqObj "list" #[] 0)).update s.heap.objs.size (Obj.mapSeq (· ++ its.toArray)) = h' at kp ⊢
 have I1 : Inv X pins σ H { s with heap := h' } := I.call (ch := []) (Un.kept kp) (I.hok.kept kp) I.bare fun b hb => nomatch hb
 refine wpAny_bind (wpAny_newList ?_ line)
 have I2 := I1.lnew (t' := s.toks) rv (by rw [List.length_map, sizeLine_eq]; omega)
 have okS : ∀ t ∈ ts, nc X.K (upd H h'.objs.size (.lst (ts.map fun t => V.ref t.1))) t := fun t ht => ⟨ae I1.fresh _ _ _ (hT t ht).at_, (hT t ht).key.mono (ae I1.fresh _)⟩
 refine wpAny_bind (wpAny_holding (lG (A := X.A.in1) (l := h'.objs.size) (ts := ts) (by show X.A.units + 1 + 3 < cLine; omega) I2 ad okS nd h64 fun ts' h2 pq pw I3 => ?_))
 rw [dL] at I3
 exact wpAny_pure ⟨_, rfl, .ref h'.objs.size, _, I3, rfl, q _ ts' I1.fresh pq pw⟩
end
theorem bT.tup {K : PySem.W.Frag} {H : Hp} {ps : List Pr} {a : Addr} (h : bT K H ps a) : ∃ us, Tp K H a us /\ Reps H (aD ps) us := by
 rcases h with R | ⟨rfl, R⟩
 ·obtain ⟨a', us, e, ha, ru⟩ := Rep.tup_inv R
  cases e
  exact ⟨us, .of ha, ru⟩
 ·exact ⟨[], R, by simp only [aD, List.map_nil, Reps]⟩
section
variable {X : Cx} {pins : List (Addr × Obj)} {σ : St} {H : Hp} {s : Shared}
theorem uF (I : Inv X pins σ H s) {A : Around} (hu : A.units + 4 < cLine) {ps : List Pr} {a b : Addr} (h1 : bT X.K H ps a) (h2 : bT X.K H ps b) : SeqAt.EqAt A s (.ref a) (.ref b) true := by
 by_cases e : a = b
 ·subst e; exact SeqAt.EqAt.same _
 obtain ⟨us, ta, ru⟩ := h1.tup
 obtain ⟨ws, tb, rw'⟩ := h2.tup
 obtain ⟨its, rv1, p1, _⟩ := I.tuple ta.sq
 obtain ⟨its2, rv2, p2, _⟩ := I.tuple tb.sq
 have pl : ∀ d ∈ aD ps, L2.Pl 2 d := fun d hd => by
  cases gL ps with
  | tup h => exact h d hd
 obtain ⟨z1, z2, q⟩ := gp I (A := A.in1) (n := 2) (fun d hd e he v w a b r1 r2 q1 q2 => tF I (pl d hd) (pl e he) (by show A.units + 1 + 2 < cLine; omega) r1 r2 q1 q2) ru rw' rv1 rv2
 have r := SeqAt.RcAt.tuples (e := fun j => fA ((aD ps)[j]? = (aD ps)[j]?)) p1 p2 (by omega) q
 rw [z1, z2, gY, <- cF (b := true) ⟨fun _ => rfl, fun _ => rfl⟩] at r
 exact SeqAt.EqAt.of_refs e r
theorem lj (n : Nat) : (List.range n).all (fun _ => true) = true := by rw [List.all_eq_true]; intro x _; rfl
theorem wj (I : Inv X pins σ H s) {A : Around} (hu : A.units + 5 < cLine) {p : PM} {v u : V} {a b : Value} (h1 : TmR X.K H p v) (h2 : TmR X.K H p u) (r1 : aJ v a) (r2 : aJ u b) : SeqAt.EqAt A s a b true := by
 obtain ⟨x, k, rfl, tx, kx⟩ := h1
 obtain ⟨y, l, rfl, tY, ky⟩ := h2
 cases r1
 cases r2
 by_cases e : x = y
 ·subst e; exact SeqAt.EqAt.same _
 obtain ⟨its, rv1, p1, _⟩ := I.tuple tx.sq
 obtain ⟨its2, rv2, p2, _⟩ := I.tuple tY.sq
 cases rv1 with
 | cons c1 c2 =>
 cases c2 with
 | cons c2 c3 =>
 cases c3
 cases rv2 with
 | cons d1 d2 =>
 cases d2 with
 | cons d2 d3 =>
 cases d3
 cases c1
 cases d1
 obtain ⟨t, rfl⟩ := (show ∃ t, _ = Value.int p.2 t from c2)
 obtain ⟨t', rfl⟩ := (show ∃ t, _ = Value.int p.2 t from d2)
 have r := SeqAt.RcAt.tuples (A := A) (e := fun _ => true) p1 p2 (by omega) fun j j1 j2 => by
  match j, j1, j2 with
  | 0, _, _ => exact uF I (by show A.units + 1 + 4 < cLine; omega) kx ky
  | 1, _, _ =>
   have e := SeqAt.EqAt.int_int (A := A.in1) (s := s) p.2 t p.2 t'
   rwa [beq_self_eq_true] at e
  | j + 2, j1, _ => exact absurd j1 (by simp)
 rw [lj] at r
 exact SeqAt.EqAt.of_refs e r
def xu (K : PySem.W.Frag) : R2 := fun x y H Q => ∃ m : List PM, SmR K H m x /\ SmR K H m y /\ Q (.bl false) H
end
theorem uK {X : Cx} (hu : X.A.units + 10 < cLine) : OpR X (compareOp .NotEq) (xu X.K) := by
 intro pins s σ H x y v u Q I rx ry h
 obtain ⟨m, ⟨a, us, rfl, ta, ra⟩, ⟨b, ws, rfl, tb, rb⟩, q⟩ := h
 cases rx
 cases ry
 obtain ⟨its, rv1, p1, _⟩ := I.tuple ta.sq
 obtain ⟨its2, rv2, p2, _⟩ := I.tuple tb.sq
 have at_ : ∀ {m : List PM} {us ws : List V} {its its2 : List Value}, Paired (TmR X.K H) m us -> Paired (TmR X.K H) m ws -> aG us its -> aG ws its2 -> its.length = its2.length /\ ∀ j (h1 : j < its.length) (h2 : j < its2.length), SeqAt.EqAt X.A.in1 s its[j] its2[j] true := by
  intro m us ws its its2 pa
  induction pa generalizing ws its its2 with
  | nil =>
   intro pb va vb
   cases pb; cases va; cases vb
   exact ⟨rfl, fun j h1 _ => absurd h1 (Nat.not_lt_zero _)⟩
  | cons r t ih =>
   intro pb va vb
   cases pb with
   | cons r' t' =>
   cases va with
   | cons c1 c2 =>
   cases vb with
   | cons d1 d2 =>
   obtain ⟨l, q⟩ := ih t' c2 d2
   refine ⟨by rw [List.length_cons, List.length_cons, l], fun j h1 h2 => ?_⟩
   cases j with
   | zero => exact wj I (by show X.A.units + 1 + 5 < cLine; omega) r r' c1 d1
   | succ j => exact q j (Nat.lt_of_succ_lt_succ h1) (Nat.lt_of_succ_lt_succ h2)
 obtain ⟨l, w⟩ := at_ ra rb rv1 rv2
 refine SeqAt.RcNeAt.tuples (e := fun _ => true) p1 p2 (by omega) (fun j h1 h2 => ?_) X.prog X.w X.xe _ ?_
 ·have := w j (by simpa using h1) (by simpa using h2)
  simpa using this
 ·rw [lj]
  have e : (!(true && its.toArray.size == its2.toArray.size)) = false := by simp [l]
  rw [e]
  exact ⟨.bl false, H, I, rfl, q⟩
end L2
namespace K15
open PySem L2 KB
def top (i : Nat) : Stmt := PySem.Challenge.pw_indexwise_k15_sums_of_products.main.body.getD i (.Pass ⟨0, 0, 0, 0⟩)
structure Txt (K : PySem.W.Frag) (mg : Str -> Option Value) : Prop where
 len : mg "len" = none
 isinstance : mg "isinstance" = none
 int : mg "int" = none
 bool : mg "bool" = none
 tuple : mg "tuple" = none
 list : mg "list" = none
 range : mg "range" = none
 sorted : mg "sorted" = none
 set : mg "set" = none
 dict : mg "dict" = none
 min : mg "min" = none
 sum : mg "sum" = none
abbrev fG : Stmt := top 10
abbrev dS : Stmt := top 11
abbrev dO : Stmt := top 12
def St2 (H : Hp) (a : Addr) : Prop := ∃ (n : Int) (b : Bool), H a = some (.lst [.int n, .bl b])
theorem St2.b {H H' : Hp} {a b : Addr} (h : St2 H a) (s : aA b H H') (n : a ≠ b) : St2 H' a := let ⟨i, c, e⟩ := h; ⟨i, c, s _ _ n e⟩
theorem St2.m {H H' : Hp} {a : Addr} (h : St2 H a) (s : ao H H') : St2 H' a := let ⟨i, c, e⟩ := h; ⟨i, c, s _ _ e⟩
def fS : Sp := fun vs H Q _ => ∃ (a : Addr) (m : Int), vs = [.ref a, .int m] /\ St2 H a /\ 0 < m /\ m < 10 ^ 40 /\ ∀ (H' : Hp) (x : Int), aA a H H' -> St2 H' a -> 0 <= x -> x < m -> Q (.int x) H'
def jq (K : PySem.W.Frag) : Sp := fun vs H Q _ => ∃ (s : Addr) (ns : List Int) (k : Int), vs = [.ref s, .int k] /\ SqL K H s (ns.map V.int) /\ 0 <= k /\ ∀ (H' : Hp) (a : Addr), ao H H' -> H a = none -> St2 H' a -> Q (.ref a) H'
def jE : Sp := fun vs H Q _ => ∃ (a : Addr) (m : Nat), vs = [.ref a, .int m] /\ St2 H a /\ m <= 10 /\ ∀ (H' : Hp) (r : Addr) (xs : List Str), aA a H H' -> St2 H' a -> H r = none -> H' r = some (.lst (xs.map V.str)) -> xs.length = m -> (∀ x ∈ xs, nmB x = true) -> Q (.ref r) H'
theorem qE : ∀ j, j < 21 -> ∃ c, (Str.ofString "bcdfghjklmnpqrstvwxyz").cps.toList[j]? = some c /\ azB c = true := by
 have h : ∀ j, j < 21 -> (((Str.ofString "bcdfghjklmnpqrstvwxyz").cps.toList[j]?).map azB) = some true := by decide +kernel
 intro j hj
 obtain ⟨c, e1, e2⟩ := Option.map_eq_some_iff.mp (h j hj)
 exact ⟨c, e1, e2⟩
theorem nY {i : Int} (h0 : 0 <= i) (h1 : i < 21) : ∃ c, atI (Str.ofString "bcdfghjklmnpqrstvwxyz").cps.toList i = some c /\ azB c = true := by
 obtain ⟨c, e, h⟩ := qE i.toNat (by omega)
 have q := aq e
 rw [show ((i.toNat : Nat) : Int) = i by omega] at q
 exact ⟨c, q, h⟩
section
variable {P : Program} {w : World} {K : PySem.W.Frag} {mg : Str -> Option Value} {base : Heap}
theorem nK : aR ["_law_state_here", "_law_many", "_law_found"] ["_law_state_here", "_law_many"] (aj fG) := ⟨rfl, rfl, rfl, by decide +kernel, rfl, by decide +kernel, by decide +kernel⟩
theorem tJ {f : Addr} {fd : FuncData} (F : Fun K "_law_draw" "_law_draw" fG f fd) (T : Txt K mg) : bu P w K mg base CX0 1 f fd ["_law_state_here", "_law_many"] fS := by
 have nd : (["_law_state_here", "_law_many", "_law_found"] : List Str).Nodup := nK.nd
 refine F.ok nK (fun vs H Q E h => ?_) (fun cdv A outer s H vs Q E hr h => ?_)
 ·obtain ⟨a, m, rfl, _⟩ := h
  rfl
 obtain ⟨a, m, rfl, ⟨n, b, ha⟩, m0, mB, q⟩ := h
 refine ⟨_, (@ah _ _ _ _ _ (@cD _ _ _ _ _ _ _ _ (@dF _ _ _ (@bd _ _ _ _ _ _ _ aN (@pv _ 0 _ _ (by rfl) (by trivial) (by decide) (by decide)) (@ai _ _ _ _) (fun _ _ => rfl)) (by intro _; rfl)) (@ah _ _ _ _ _ (@aB _ _ (2) _ _ _ _ nd rfl (Or.inl rfl) (@aH _ _ _ _ _ _ _ _ cI (@bd _ _ _ _ _ _ _ aN (@pv _ 0 _ _ (by rfl) (by trivial) (by decide) (by decide)) (@ai _ _ _ _) (fun _ _ => rfl)) (@pv _ 1 _ _ (by rfl) (by trivial) (by decide) (by decide))) (by rfl) (by trivial)) (@ah _ _ _ _ _ (@mW _ _ _ _ _ _ (@aH _ _ _ _ _ _ _ _ kY (@bd _ _ _ _ _ _ _ aN (@pv _ 0 _ _ (by rfl) (by trivial) (by decide) (by decide)) (@ai _ _ _ _) (fun _ _ => rfl)) (@pv _ 1 _ _ (by rfl) (by trivial) (by decide) (by decide))) (@qQ _ _ _ _ _ _ _ (@pv _ 0 _ _ (by rfl) (by trivial) (by decide) (by decide)) (@ai _ _ _ _) kn (by intro _; rfl)) (by rfl) (by rfl) (by rfl)) (@ak _ _ _ (@aT _ _ _ _ (@pv _ 2 _ _ (by rfl) (by trivial) (by decide) (by decide)))))) (@bo _)) (@ah _ _ _ _ _ (@mW _ _ _ _ _ _ (@aH _ _ _ _ _ _ _ _ cI (@aH _ _ _ _ _ _ _ _ bR (@aH _ _ _ _ _ _ _ _ cG (@bd _ _ _ _ _ _ _ aN (@pv _ 0 _ _ (by rfl) (by trivial) (by decide) (by decide)) (@ai _ _ _ _) (fun _ _ => rfl)) (@ai _ _ _ _)) (@ai _ _ _ _)) (@ai _ _ _ _)) (@qQ _ _ _ _ _ _ _ (@pv _ 0 _ _ (by rfl) (by trivial) (by decide) (by decide)) (@ai _ _ _ _) kn (by intro _; rfl)) (by rfl) (by rfl) (by rfl)) (@ak _ _ _ (@aT _ _ _ _ (@aH _ _ _ _ _ _ _ _ cI (@aH _ _ _ _ _ _ _ _ cI (@aH _ _ _ _ _ _ _ _ cG (@aH _ _ _ _ _ _ _ _ kY (@aH _ _ _ _ _ _ _ _ cI (@aH _ _ _ _ _ _ _ _ cG (@bd _ _ _ _ _ _ _ aN (@pv _ 0 _ _ (by rfl) (by trivial) (by decide) (by decide)) (@ai _ _ _ _) (fun _ _ => rfl)) (@ai _ _ _ _)) (@ai _ _ _ _)) (@ai _ _ _ _)) (@ai _ _ _ _)) (@ai _ _ _ _)) (@pv _ 1 _ _ (by rfl) (by trivial) (by decide) (by decide))))))), ?_⟩
 refine ⟨_, rfl, a, _, 1, .bl b, rfl, rfl, SqL.of ha, aq (j := 1) rfl, _, rfl, ?_⟩
 cases b with
 | true =>
  refine pi ?_
  refine ⟨_, rfl, a, _, 0, .int n, rfl, rfl, SqL.of ha, aq (j := 0) rfl, _, rfl, _, _, rfl, rfl, m0, ?_⟩
  refine ⟨_, rfl, a, _, 0, .int n, rfl, rfl, SqL.of ha, aq (j := 0) rfl, _, rfl, _, _, rfl, rfl, ⟨m0, by omega⟩, _, rfl, a, _, 0, 0, rfl, rfl, ha, rfl, ?_⟩
  exact ⟨_, rfl, q _ _ (aA.upd _ _ _) ⟨_, _, ad⟩ (mod_lt m m0).1 (mod_lt m m0).2⟩
 | false =>
  refine hX ?_
  refine ⟨_, rfl, a, _, 0, .int n, rfl, rfl, SqL.of ha, aq (j := 0) rfl, _, _, rfl, rfl, .inr ⟨by decide, by decide⟩, _, _, rfl, rfl, _, _, rfl, rfl, (by show (0 : Int) < 2147483647; decide), _, rfl, a, _, 0, 0, rfl, rfl, ha, rfl, ?_⟩
  refine ⟨_, rfl, a, _, 0, _, rfl, rfl, SqL.of ad, aq (j := 0) rfl, _, _, rfl, rfl, .inr ⟨by decide, by decide⟩, _, _, rfl, rfl, (by show (0 : Int) < 2147483629; decide), _, _, rfl, rfl, ⟨by decide, by decide⟩, _, _, rfl, rfl, .inr ⟨by decide, by decide⟩, _, _, rfl, rfl, (by show (0 : Int) < 2147483587; decide), _, rfl, _, _, rfl, rfl, m0, ?_⟩
  exact q _ _ (aA.upd _ _ _) ⟨_, _, ad⟩ (mod_lt m m0).1 (mod_lt m m0).2
theorem kQ : aR ["_law_script", "_law_k", "_law_cell"] ["_law_script", "_law_k"] (aj dS) := ⟨rfl, rfl, rfl, by decide +kernel, rfl, by decide +kernel, by decide +kernel⟩
theorem rh {f : Addr} {fd : FuncData} (F : Fun K "_law_state" "_law_state" dS f fd) (T : Txt K mg) : bu P w K mg base CX0 1 f fd ["_law_script", "_law_k"] (jq K) := by
 have nd : (["_law_script", "_law_k", "_law_cell"] : List Str).Nodup := kQ.nd
 refine F.ok kQ (fun vs H Q E h => ?_) (fun cdv A outer s H vs Q E hr h => ?_)
 ·obtain ⟨a, ns, k, rfl, _⟩ := h
  rfl
 obtain ⟨a, ns, k, rfl, hS, k0, q⟩ := h
 have p15 : vB 10 15 := ⟨by decide, by decide, by decide⟩
 refine ⟨_, (@ah _ _ _ _ _ (@aB _ _ (2) _ _ _ _ nd rfl (Or.inl rfl) (@ai _ _ _ _) (by rfl) (by trivial)) (@ah _ _ _ _ _ (@cD _ _ _ _ _ _ _ _ (@bA _ _ _ _ _ _ _ _ uc (@pv _ 1 _ _ (by rfl) (by trivial) (by decide) (by decide)) (@aS _ _ _ _ _ _ _ _ _ cU rfl T.len (by decide +kernel) (@aa _ _ _ _ _ (@pv _ 0 _ _ (by rfl) (by trivial) (by decide) (by decide)) (@af _) (by rfl)) (by decide) (by decide) (by rfl) (by rfl)) (bI _)) (@ak _ _ _ (@aB _ _ (2) _ _ _ _ nd rfl (Or.inl rfl) (@bd _ _ _ _ _ _ _ aN (@pv _ 0 _ _ (by rfl) (by trivial) (by decide) (by decide)) (@pv _ 1 _ _ (by rfl) (by trivial) (by decide) (by decide)) (fun _ _ => rfl)) (by rfl) (by trivial))) (@bo _)) (@ah _ _ _ _ _ (@cD _ _ _ _ _ _ _ _ (@bA _ _ _ _ _ _ _ _ uc (@pv _ 2 _ _ (by rfl) (by trivial) (by decide) (by decide)) (@aH _ _ _ _ _ _ _ _ qW (@ai _ _ _ _) (@ai _ _ _ _)) (bI _)) (@ak _ _ _ (@aT _ _ _ _ (@bQ _ _ _ _ (@aa _ _ _ _ _ (@aH _ _ _ _ _ _ _ _ bR (@aH _ _ _ _ _ _ _ _ bR (@pv _ 2 _ _ (by rfl) (by trivial) (by decide) (by decide)) (@aH _ _ _ _ _ _ _ _ cG (@ai _ _ _ _) (@pv _ 1 _ _ (by rfl) (by trivial) (by decide) (by decide)))) (@ai _ _ _ _)) (@aa _ _ _ _ _ (@gs _ _ _ _) (@af _) (by rfl)) (by rfl))))) (@bo _)) (@ak _ _ _ (@aT _ _ _ _ (@bQ _ _ _ _ (@aa _ _ _ _ _ (@pv _ 2 _ _ (by rfl) (by trivial) (by decide) (by decide)) (@aa _ _ _ _ _ (@gs _ _ _ _) (@af _) (by rfl)) (by rfl)))))))), ?_⟩
 refine ⟨_, rfl, _, rfl, a, _, rfl, .inl hS, _, _, rfl, rfl, _, rfl, hW (fun c => ?_) (fun c => ?_)⟩
 ·have c' := of_decide_eq_true c
  rw [List.length_map] at c'
  obtain ⟨v, hv⟩ := ja k0 c'
  refine ⟨_, rfl, _, rfl, a, _, _, _, rfl, rfl, hS, hv, ?_⟩
  refine ⟨_, rfl, _, _, rfl, rfl, p15, _, _, rfl, rfl, _, rfl, hW (fun d => ?_) (fun d => ?_)⟩
  ·exact ⟨_, rfl, _, rfl, _, _, rfl, rfl, .inl ⟨by decide, by decide⟩, _, _, rfl, rfl, _, _, rfl, rfl, z2, fun l hl => q _ l (ae hl _) hl ⟨_, _, ad⟩⟩
  ·exact ⟨_, rfl, z2, fun l hl => q _ l (ae hl _) hl ⟨_, _, ad⟩⟩
 ·refine ⟨_, rfl, _, _, rfl, rfl, p15, _, _, rfl, rfl, _, rfl, hW (fun d => ?_) (fun d => ?_)⟩
  ·exact ⟨_, rfl, _, rfl, _, _, rfl, rfl, .inl ⟨by decide, by decide⟩, _, _, rfl, rfl, _, _, rfl, rfl, z2, fun l hl => q _ l (ae hl _) hl ⟨_, _, ad⟩⟩
  ·exact ⟨_, rfl, z2, fun l hl => q _ l (ae hl _) hl ⟨_, _, ad⟩⟩
theorem kL : aR ["_law_state_here", "_law_many", "_law_letters", "_law_stem", "_law_k", "_law_at", "_law_turn", "_law_ends"] ["_law_state_here", "_law_many"] (aj dO) := ⟨rfl, rfl, rfl, by decide +kernel, rfl, by decide +kernel, by decide +kernel⟩
theorem qc {f : Addr} {fd : FuncData} {k : Nat} (F : Fun K "_law_names" "_law_names" dO f fd) (T : Txt K mg) (D_law_draw : Def P w K mg base k "_law_draw" ["_law_state_here", "_law_many"] fS) : bu P w K mg base CX0 (k + 1) f fd ["_law_state_here", "_law_many"] jE := by
 have nd : (["_law_state_here", "_law_many", "_law_letters", "_law_stem", "_law_k", "_law_at", "_law_turn", "_law_ends"] : List Str).Nodup := kL.nd
 refine F.ok kL (fun vs H Q E h => ?_) (fun cdv A outer s H vs Q E hr h => ?_)
 ·obtain ⟨a, m, rfl, _⟩ := h
  rfl
 obtain ⟨a, m, rfl, h2, m10, q⟩ := h
 refine ⟨_, (@ah _ _ _ _ _ (@aB _ _ (2) _ _ _ _ nd rfl (Or.inr rfl) (@mK _ _ _ _) (by rfl) (by trivial)) (@ah _ _ _ _ _ (@aB _ _ (3) _ _ _ _ nd rfl (Or.inr rfl) (@mK _ _ _ _) (by rfl) (by trivial)) (@ah _ _ _ _ _ (@bg _ _ _ _ _ _ _ _ PassesOwn.never rfl (@dP _ _ _ _ _ _ rfl T.range (@aa _ _ _ _ _ (@av _ _ _ _ _ _ _ _ _ _ D_law_draw hr rfl (@aa _ _ _ _ _ (@pv _ 0 _ _ (by rfl) (by trivial) (by decide) (by decide)) (@aa _ _ _ _ _ (@ai _ _ _ _) (@af _) (by rfl)) (by rfl)) (by decide) (by rfl) (by rfl)) (@af _) (by rfl)) (by rfl)) (@au _ _ (4) _ nd rfl (Or.inl rfl) (by trivial)) (@ak _ _ _ (@aB _ _ (3) _ _ _ _ nd rfl (Or.inr rfl) (@aH _ _ _ _ _ _ _ _ cZ (@pv _ 3 _ _ (by rfl) (by trivial) (by decide) (by decide)) (@bd _ _ _ _ _ _ _ qd (@pv _ 2 _ _ (by rfl) (by trivial) (by decide) (by decide)) (@av _ _ _ _ _ _ _ _ _ _ D_law_draw hr rfl (@aa _ _ _ _ _ (@pv _ 0 _ _ (by rfl) (by trivial) (by decide) (by decide)) (@aa _ _ _ _ _ (@ai _ _ _ _) (@af _) (by rfl)) (by rfl)) (by decide) (by rfl) (by rfl)) (fun _ _ => rfl))) (by rfl) (by trivial))) (by intro _; rfl)) (@ah _ _ _ _ _ (@aB _ _ (5) _ _ _ _ nd rfl (Or.inr rfl) (@av _ _ _ _ _ _ _ _ _ _ D_law_draw hr rfl (@aa _ _ _ _ _ (@pv _ 0 _ _ (by rfl) (by trivial) (by decide) (by decide)) (@aa _ _ _ _ _ (@aH _ _ _ _ _ _ _ _ bR (@aS _ _ _ _ _ _ _ _ _ iU rfl T.len (by decide +kernel) (@aa _ _ _ _ _ (@pv _ 3 _ _ (by rfl) (by trivial) (by decide) (by decide)) (@af _) (by rfl)) (by decide) (by decide) (by rfl) (by rfl)) (@ai _ _ _ _)) (@af _) (by rfl)) (by rfl)) (by decide) (by rfl) (by rfl)) (by rfl) (by trivial)) (@ah _ _ _ _ _ (@aB _ _ (6) _ _ _ _ nd rfl (Or.inr rfl) (@av _ _ _ _ _ _ _ _ _ _ D_law_draw hr rfl (@aa _ _ _ _ _ (@pv _ 0 _ _ (by rfl) (by trivial) (by decide) (by decide)) (@aa _ _ _ _ _ (@ai _ _ _ _) (@af _) (by rfl)) (by rfl)) (by decide) (by rfl) (by rfl)) (by rfl) (by trivial)) (@ah _ _ _ _ _ (@aB _ _ (7) _ _ _ _ nd rfl (Or.inr rfl) (@bQ _ _ _ _ (@aa _ _ _ _ _ (@fj _ _ _ _ _ _ _ _ _ _ jy (@pv _ 3 _ _ (by rfl) (by trivial) (by decide) (by decide)) (@gl _ _ _ (@pv _ 5 _ _ (by rfl) (by trivial) (by decide) (by decide))) (@gd _)) (@aa _ _ _ _ _ (@aH _ _ _ _ _ _ _ _ mn (@fj _ _ _ _ _ _ _ _ _ _ jy (@pv _ 3 _ _ (by rfl) (by trivial) (by decide) (by decide)) (@gl _ _ _ (@pv _ 5 _ _ (by rfl) (by trivial) (by decide) (by decide))) (@gd _)) (@aW _ _ _ _ _ _ _ _ _ pG rfl T.int (by decide +kernel) (@aa _ _ _ _ _ (@ou _ _ _ _ _ _ _ _ kw (@aH _ _ _ _ _ _ _ _ cI (@pv _ 6 _ _ (by rfl) (by trivial) (by decide) (by decide)) (@ai _ _ _ _)) (@ai _ _ _ _) (bI _)) (@af _) (by rfl)) (by decide) (by decide) (by rfl) (by rfl))) (@af _) (by rfl)) (by rfl))) (by rfl) (by trivial)) (@ak _ _ _ (@aT _ _ _ _ (@tW _ _ (["_law_k"]) ([2, 3, 5, 6, 7]) _ _ _ _ _ _ _ _ _ (@dP _ _ _ _ _ _ rfl T.range (@aa _ _ _ _ _ (@pv _ 1 _ _ (by rfl) (by trivial) (by decide) (by decide)) (@af _) (by rfl)) (by rfl)) (.of rfl) rfl (fun _ _ _ => au (i := 0) (kO (l := ["_law_k", "_law_letters", "_law_stem", "_law_at", "_law_turn", "_law_ends"]) ((by decide +kernel)) rfl) rfl (Or.inl rfl)) (iX (by decide)) (fun _ _ _ => (@jM _)) (fun _ _ _ => (@aH _ _ _ _ _ _ _ _ cZ (@aH _ _ _ _ _ _ _ _ cZ (@fj _ _ _ _ _ _ _ _ _ _ jy (@pv _ 2 _ _ (by rfl) (by trivial) (by decide) (by decide)) (@gd _) (@gl _ _ _ (@pv _ 3 _ _ (by rfl) (by trivial) (by decide) (by decide)))) (@bd _ _ _ _ _ _ _ qd (@pv _ 1 _ _ (by rfl) (by trivial) (by decide) (by decide)) (@aH _ _ _ _ _ _ _ _ cI (@aH _ _ _ _ _ _ _ _ bR (@pv _ 4 _ _ (by rfl) (by trivial) (by decide) (by decide)) (@aH _ _ _ _ _ _ _ _ cG (@ai _ _ _ _) (@pv _ 0 _ _ (by rfl) (by trivial) (by decide) (by decide)))) (@ai _ _ _ _)) (fun _ _ => rfl))) (@bd _ _ _ _ _ _ _ (qt K rfl) (@pv _ 5 _ _ (by rfl) (by trivial) (by decide) (by decide)) (@aH _ _ _ _ _ _ _ _ cI (@pv _ 0 _ _ (by rfl) (by trivial) (by decide) (by decide)) (@ai _ _ _ _)) (fun _ _ => rfl)))) (by intro _; rfl)))))))))), ?_⟩
 have abc : (Str.ofString "bcdfghjklmnpqrstvwxyz").length <= sizeLine := by rw [sizeLine_eq]; decide +kernel
 refine ⟨_, rfl, a, 8, rfl, h2, by decide, by decide, fun H1 x s1 st1 x0 x8 => ?_⟩
 refine ⟨x, rfl, by omega, by omega, dN (n := x.toNat) (fun i σ H' => ∃ (stem : Str) (o1 : Option V), σ = [some (.ref a), some (.int m), some (.str "bcdfghjklmnpqrstvwxyz"), some (.str stem), o1, none, none, none] /\ aA a H H' /\ St2 H' a /\ Az stem i) ⟨_, _, rfl, s1, st1, kc⟩ ?T1 ?_⟩
 case T1 =>
  rintro i σ H2 hi ⟨stem, o1, rfl, s2, st2, az⟩
  refine ⟨_, rfl, _, rfl, _, rfl, a, 21, rfl, st2, by decide, by decide, fun H3 y s3 st3 y0 y1 => ?_⟩
  obtain ⟨ch, hc, hz⟩ := nY y0 y1
  refine ⟨_, _, ch, rfl, rfl, abc, hc, _, _, rfl, rfl, ?_, ?_⟩
  ·rw [az.len, (jb hz).len, sizeLine_eq]; omega
  ·exact ⟨_, _, rfl, s2.trans s3, st3, nh az (jb hz)⟩
 rintro σ H2 ⟨stem, o1, rfl, s2, st2, az⟩
 have ln := az.len
 have stl : stem.length <= sizeLine := by rw [ln, sizeLine_eq]; omega
 refine ⟨_, rfl, _, rfl, _, rfl, stl, _, _, rfl, rfl, a, _, rfl, st2, by omega, by rw [ln]; omega, fun H3 y s3 st3 y0 y1 => ?_⟩
 refine ⟨_, rfl, a, 21, rfl, st3, by decide, by decide, fun H4 z s4 st4 z0 z1 => ?_⟩
 have at1 : y <= x.toNat := by rw [ln] at y1; omega
 have zf := sB az y0 at1
 have zt := wE az y0 at1
 obtain ⟨u, zu, hu'⟩ : ∃ u, Az (Txt.mul (Txt.slice stem (some y) none) (if decide (0 < z % 3) = true then 1 else 0)) u /\ u <= x.toNat - y.toNat := by
  by_cases h : 0 < z % 3
  ·rw [decide_eq_true h]
   exact ⟨_, sW zf, Nat.le_refl _⟩
  ·rw [decide_eq_false h]
   exact ⟨_, sJ, Nat.zero_le _⟩
 have sl : (Txt.slice stem (some y) none).length <= 1000 := by rw [zf.len]; omega
 refine ⟨_, rfl, _, rfl, _, rfl, _, rfl, stl, _, rfl, _, rfl, _, rfl, _, rfl, stl, _, rfl, _, _, rfl, rfl, (by show (0 : Int) < 3; decide), _, _, rfl, rfl, .inr ⟨_, rfl, _, _, rfl, rfl, sl, ?_, ?_, (by show 2 <= sizeLine; rw [sizeLine_eq]; decide), fun e1 he1 => ?_⟩⟩
 ·split <;> decide
 ·split <;> decide
 have q5 := ae he1 (.lst [.str (Txt.slice stem (some y) none), .str (Txt.mul (Txt.slice stem (some y) none) (if decide (0 < z % 3) = true then 1 else 0))])
 have h5 : upd H4 e1 (.lst [.str (Txt.slice stem (some y) none), .str (Txt.mul (Txt.slice stem (some y) none) (if decide (0 < z % 3) = true then 1 else 0))]) e1 = some (.lst [.str (Txt.slice stem (some y) none), .str (Txt.mul (Txt.slice stem (some y) none) (if decide (0 < z % 3) = true then 1 else 0))]) := ad
 replace s4 := s4.trans (ao.b a q5)
 replace st4 := st4.m q5
 generalize upd H4 e1 (.lst [.str (Txt.slice stem (some y) none), .str (Txt.mul (Txt.slice stem (some y) none) (if decide (0 < z % 3) = true then 1 else 0))]) = H4' at q5 h5 s4 st4 ⊢
 refine ⟨_, rfl, _, rfl, by omega, by omega, rO (n := ((m : Int)).toNat) (fun i ys H' => H' = H4' /\ ∃ ws : List Str, ys = ws.map V.str /\ ws.length = i /\ ∀ z ∈ ws, nmB z = true) ⟨rfl, [], rfl, rfl, by simp⟩ ?_ ?_⟩
 ·rintro i ys H5 hi ⟨rfl, ws, rfl, hw, hw1⟩
  obtain ⟨b0, b1⟩ := mod_lt (a := z + 5 * ((0 : Int) + (i : Int))) 21 (by decide)
  obtain ⟨ch, hc, hz2⟩ := nY b0 b1
  have g1 := nh zt (jb hz2)
  obtain ⟨y2, t, hy, zy, ht⟩ : ∃ (y2 : Str) (t : Nat), atI ([V.str (Txt.slice stem (some y) none), V.str (Txt.mul (Txt.slice stem (some y) none) (if decide (0 < z % 3) = true then 1 else 0))] : List V) ((0 + (i : Int)) % 2) = some (.str y2) /\ Az y2 t /\ t <= x.toNat - y.toNat := by
   rcases Int.emod_two_eq (0 + (i : Int)) with h | h
   ·rw [h]; exact ⟨_, _, aq (j := 0) rfl, zf, Nat.le_refl _⟩
   ·rw [h]; exact ⟨_, _, aq (j := 1) rfl, zu, hu'⟩
  have g2 := nh g1 zy
  refine pV ⟨_, rfl, _, rfl, _, rfl, _, rfl, stl, _, rfl, _, rfl, _, rfl, _, _, rfl, rfl, .inl ⟨by decide, by decide⟩, _, _, rfl, rfl, _, _, rfl, rfl, (by show (0 : Int) < 21; decide), _, _, ch, rfl, rfl, abc, hc, _, _, rfl, rfl, ?_, _, rfl, _, rfl, _, _, rfl, rfl, (by show (0 : Int) < 2; decide), e1, _, _, .str y2, rfl, rfl, SqL.of h5, hy, _, _, rfl, rfl, ?_, ?_, rfl, ws ++ [Txt.slice stem none (some y) ++ ⟨#[ch]⟩ ++ y2], by simp, by simp [hw], fun w hw' => ?_⟩
  ·rw [zt.len, (jb hz2).len, sizeLine_eq]; omega
  ·rw [g1.len, zy.len, sizeLine_eq]; omega
  ·rw [List.length_map, sizeLine_eq]; omega
  ·rcases List.mem_append.mp hw' with h | h
   ·exact hw1 w h
   ·rw [List.mem_singleton.mp h]; exact wJ g2 (by omega) (by omega)
 rintro ys H5 ⟨rfl, ws, rfl, hw, hw1⟩ r hr'
 have s05 : aA a H H5 := s2.trans (s3.trans s4)
 have hra : r ≠ a := fun e => by obtain ⟨n, b, e2⟩ := st4; rw [e, e2] at hr'; cases hr'
 have hrn : H r = none := by
  cases e : H r with
  | none => rfl
  | some o => have := s05 r o hra e; rw [hr'] at this; cases this
 exact q _ r ws (s05.trans (ao.b a (ae hr' _))) (st4.m (ae hr' _)) hrn ad (by rw [hw]; omega) hw1
end
abbrev cK : Stmt := top 13
structure Ln (xs : List Str) (most : Int) (c : Int) (ps : List Pr) : Prop where
 c0 : 0 <= c
 cB : c <= most
 can : ce ps
 nm : ∀ p ∈ ps, p.1 ∈ xs /\ p.2 <= most
 len : ps.length <= 10
def gF : Sp := fun vs H Q _ => ∃ (a b : Addr) (m : Int) (xs : List Str), vs = [.ref a, .ref b, .int m] /\ St2 H a /\ H b = some (.lst (xs.map V.str)) /\ b ≠ a /\ xs.length <= 10 /\ 2 <= m /\ m < 10 ^ 39 /\
 ∀ (H' : Hp) (v : V) (c : Int) (ps : List Pr), aA a H H' -> St2 H' a -> Rep H' (iu c ps) v -> Ln xs m c ps -> Q v H'
theorem wf {i : Int} (h0 : 0 <= i) (h1 : i < 4) : ∃ n : Int, atI ([V.int 0, V.int 0, V.int 1, V.int 2] : List V) i = some (.int n) /\ 0 <= n /\ n <= 2 := by
 have e : i = 0 \/ i = 1 \/ i = 2 \/ i = 3 := by omega
 rcases e with rfl | rfl | rfl | rfl
 ·exact ⟨0, aq (j := 0) rfl, by decide⟩
 ·exact ⟨0, aq (j := 1) rfl, by decide⟩
 ·exact ⟨1, aq (j := 2) rfl, by decide⟩
 ·exact ⟨2, aq (j := 3) rfl, by decide⟩
theorem z4 : 4 <= sizeLine := by rw [sizeLine_eq]; decide
section
variable {P : Program} {w : World} {K : PySem.W.Frag} {mg : Str -> Option Value} {base : Heap}
theorem iC : aR ["_law_state_here", "_law_names_here", "_law_most", "_law_counts", "_law_name", "_law_way", "_law_count"] ["_law_state_here", "_law_names_here", "_law_most"] (aj cK) := ⟨rfl, rfl, rfl, by decide +kernel, rfl, by decide +kernel, by decide +kernel⟩
theorem oO {f : Addr} {fd : FuncData} {k : Nat} (F : Fun K "_law_length" "_law_length" cK f fd) (T : Txt K mg) (D_law_draw : Def P w K mg base k "_law_draw" ["_law_state_here", "_law_many"] fS) : bu P w K mg base CX0 (k + 1) f fd ["_law_state_here", "_law_names_here", "_law_most"] gF := by
 have nd : (["_law_state_here", "_law_names_here", "_law_most", "_law_counts", "_law_name", "_law_way", "_law_count"] : List Str).Nodup := iC.nd
 refine F.ok iC (fun vs H Q E h => ?_) (fun cdv A outer s H vs Q E hr h => ?_)
 ·obtain ⟨a, b, m, xs, rfl, _⟩ := h
  rfl
 obtain ⟨a, b, m, xs, rfl, st, hb, hba, lx, m2, mB, q⟩ := h
 have hu := eO hr
 refine ⟨_, (@ah _ _ _ _ _ (@aB _ _ (3) _ _ _ _ nd rfl (Or.inl rfl) (@gR _ _) (by rfl) (by trivial)) (@ah _ _ _ _ _ (@bg _ _ _ _ _ _ _ _ PassesOwn.never rfl (@eN _ _ _ _ (@pv _ 1 _ _ (by rfl) (by trivial) (by decide) (by decide))) (@au _ _ (4) _ nd rfl (Or.inl rfl) (by trivial)) (@ah _ _ _ _ _ (@aB _ _ (5) _ _ _ _ nd rfl (Or.inl rfl) (@av _ _ _ _ _ _ _ _ _ _ D_law_draw hr rfl (@aa _ _ _ _ _ (@pv _ 0 _ _ (by rfl) (by trivial) (by decide) (by decide)) (@aa _ _ _ _ _ (@ai _ _ _ _) (@af _) (by rfl)) (by rfl)) (by decide) (by rfl) (by rfl)) (by rfl) (by trivial)) (@ah _ _ _ _ _ (@cD _ _ _ _ _ _ _ _ (@bA _ _ _ _ _ _ _ _ kw (@pv _ 5 _ _ (by rfl) (by trivial) (by decide) (by decide)) (@ai _ _ _ _) (bI _)) (@ak _ _ _ (@fi _ _ _ _ _ _ _ _ _ hu (@pv _ 3 _ _ (by rfl) (by trivial) (by decide) (by decide)) (@pv _ 4 _ _ (by rfl) (by trivial) (by decide) (by decide)) (@ai _ _ _ _) rfl)) (@bo _)) (@ak _ _ _ (@cD _ _ _ _ _ _ _ _ (@bA _ _ _ _ _ _ _ _ nJ (@pv _ 5 _ _ (by rfl) (by trivial) (by decide) (by decide)) (@ai _ _ _ _) (bI _)) (@ak _ _ _ (@fi _ _ _ _ _ _ _ _ _ hu (@pv _ 3 _ _ (by rfl) (by trivial) (by decide) (by decide)) (@pv _ 4 _ _ (by rfl) (by trivial) (by decide) (by decide)) (@aH _ _ _ _ _ _ _ _ bR (@ai _ _ _ _) (@av _ _ _ _ _ _ _ _ _ _ D_law_draw hr rfl (@aa _ _ _ _ _ (@pv _ 0 _ _ (by rfl) (by trivial) (by decide) (by decide)) (@aa _ _ _ _ _ (@pv _ 2 _ _ (by rfl) (by trivial) (by decide) (by decide)) (@af _) (by rfl)) (by rfl)) (by decide) (by rfl) (by rfl))) rfl)) (@bo _))))) (by intro _; rfl)) (@ah _ _ _ _ _ (@aB _ _ (6) _ _ _ _ nd rfl (Or.inl rfl) (@bd _ _ _ _ _ _ _ aN (@bQ _ _ _ _ (@aa _ _ _ _ _ (@ai _ _ _ _) (@aa _ _ _ _ _ (@ai _ _ _ _) (@aa _ _ _ _ _ (@ai _ _ _ _) (@aa _ _ _ _ _ (@ai _ _ _ _) (@af _) (by rfl)) (by rfl)) (by rfl)) (by rfl))) (@av _ _ _ _ _ _ _ _ _ _ D_law_draw hr rfl (@aa _ _ _ _ _ (@pv _ 0 _ _ (by rfl) (by trivial) (by decide) (by decide)) (@aa _ _ _ _ _ (@ai _ _ _ _) (@af _) (by rfl)) (by rfl)) (by decide) (by rfl) (by rfl)) (fun _ _ => rfl)) (by rfl) (by trivial)) (@ah _ _ _ _ _ (@cD _ _ _ _ _ _ _ _ (@bA _ _ _ _ _ _ _ _ nJ (@pv _ 6 _ _ (by rfl) (by trivial) (by decide) (by decide)) (@ai _ _ _ _) (bI _)) (@ak _ _ _ (@aB _ _ (6) _ _ _ _ nd rfl (Or.inl rfl) (@av _ _ _ _ _ _ _ _ _ _ D_law_draw hr rfl (@aa _ _ _ _ _ (@pv _ 0 _ _ (by rfl) (by trivial) (by decide) (by decide)) (@aa _ _ _ _ _ (@aH _ _ _ _ _ _ _ _ bR (@pv _ 2 _ _ (by rfl) (by trivial) (by decide) (by decide)) (@ai _ _ _ _)) (@af _) (by rfl)) (by rfl)) (by decide) (by rfl) (by rfl)) (by rfl) (by trivial))) (@bo _)) (@ak _ _ _ (@aT _ _ _ _ (@bX _ _ _ _ _ (@aa _ _ _ _ _ (@pv _ 6 _ _ (by rfl) (by trivial) (by decide) (by decide)) (@aa _ _ _ _ _ (@aW _ _ _ _ _ _ _ _ _ aU rfl T.tuple (by decide +kernel) (@aa _ _ _ _ _ (@aS _ _ _ _ _ _ _ _ _ (eW rfl) rfl T.sorted (by decide +kernel) (@aa _ _ _ _ _ (@qM _ _ _ _ _ _ _ _ _ PySem.F.plainAttrs_dict PySem.F.slot_dict_items PySem.F.type_dict_items lB (@pv _ 3 _ _ (by rfl) (by trivial) (by decide) (by decide)) (by rfl) (by rfl)) (@af _) (by rfl)) (by decide) (by decide) (by rfl) (by rfl)) (@af _) (by rfl)) (by decide) (by decide) (by rfl) (by rfl)) (@af _) (by rfl)) (by rfl))))))))), ?_⟩
 intro d hd
 have s0 : aA a H (upd H d (.dK [])) := ao.b a (ae hd _)
 have da : d ≠ a := fun e => by obtain ⟨n, c, e2⟩ := st; rw [e, e2] at hd; cases hd
 have db : b ≠ d := ag hb hd
 refine ⟨_, rfl, b, rfl, ⟨_, SqL.of (s0 _ _ hba hb)⟩, dq (xs := xs.map V.str) (fun i σ H' => ∃ (kvs : List Pr) (o1 o2 : Option V), σ = [some (.ref a), some (.ref b), some (.int m), some (.ref d), o1, o2, none] /\ aA a H H' /\ St2 H' a /\ H' d = some (.dK (dk kvs)) /\ (kvs.map (·.1)).Nodup /\ kvs.length <= i /\ ∀ p ∈ kvs, p.1 ∈ xs /\ 1 <= p.2 /\ p.2 <= m)
  ⟨[], _, _, rfl, s0, st.m (ae hd _), ad, by simp, by simp, by simp⟩ (fun i σ H' _ ⟨_, _, _, _, s1, _⟩ => SqL.of (s1 _ _ hba hb)) ?T1 ?_⟩
 case T1 =>
  rintro i x σ H1 hx ⟨kvs, o1, o2, rfl, s1, st1, d1, ndk, lk, hall⟩
  rw [List.getElem?_map] at hx
  obtain ⟨y, hy, rfl⟩ := Option.map_eq_some_iff.mp hx
  have hi : i < xs.length := (List.getElem?_eq_some_iff.mp hy).1
  have hyx := List.mem_of_getElem? hy
  refine ⟨_, rfl, a, 4, rfl, st1, by decide, by decide, fun H2 z s2 st2 z0 z4 => ?_⟩
  have d2 := s2 _ _ da d1
  have put : ∀ (H3 : Hp) (kv : List Pr) (n : Int), (kv.map (·.1)).Nodup -> kv.length <= i + 1 -> (kv.length <= i \/ y ∈ kv.map (·.1)) -> (∀ p ∈ kv, p.1 ∈ xs /\ 1 <= p.2 /\ p.2 <= m) -> aA a H H3 -> St2 H3 a -> H3 d = some (.dK (dk kv)) -> 1 <= n -> n <= m ->
    (aA a H (upd H3 d (.dK (bU (dk kv) (Sum.inr y) (.int n)))) /\ St2 (upd H3 d (.dK (bU (dk kv) (Sum.inr y) (.int n)))) a /\ upd H3 d (.dK (bU (dk kv) (Sum.inr y) (.int n))) d = some (.dK (dk (bi kv y n))) /\ ((bi kv y n).map (·.1)).Nodup /\ (bi kv y n).length <= i + 1 /\ y ∈ (bi kv y n).map (·.1) /\ ∀ p ∈ bi kv y n, p.1 ∈ xs /\ 1 <= p.2 /\ p.2 <= m) := fun H3 kv n ndv lv or hv s3 st3 d3 n1 nm => by
   refine ⟨fun g o hg e => ?_, st3.b (aA.upd _ _ _) (Ne.symm da), by rw [ad, mV], dR ndv, ?_, ?_, fg (R := fun p => p.1 ∈ xs /\ 1 <= p.2 /\ p.2 <= m) hv ⟨hyx, n1, nm⟩⟩
   ·rw [ap (ag e hd)]; exact s3 g o hg e
   ·rcases or with h | h
    ·exact Nat.le_trans (eL _ _ _) (by omega)
    ·have := congrArg List.length (ip (n := n) h); rw [List.length_map, List.length_map] at this; omega
   ·by_cases h : y ∈ kv.map (·.1)
    ·rw [ip h]; exact h
    ·rw [qh h, List.map_append]; exact List.mem_append.mpr (.inr (by simp))
  have szd : ∀ kv : List Pr, kv.length <= i + 1 -> (dk kv).length < sizeLine := fun kv h => by rw [show (dk kv).length = kv.length from List.length_map _, sizeLine_eq]; omega
  refine ⟨_, rfl, _, _, rfl, rfl, _, rfl, hW (fun h1 => ?_) (fun h1 => ?_)⟩
  ·refine ⟨_, rfl, _, rfl, d, _, rfl, iY.k (k := Sum.inr y) d2 (szd _ (by omega)), ?_⟩
   obtain ⟨s3, st3, d3, nd3, l3, i3, a3⟩ := put H2 kvs 1 ndk (by omega) (.inl lk) hall (s1.trans s2) st2 d2 (by decide) (by omega)
   generalize upd H2 d (.dK (bU (dk kvs) (Sum.inr y) (.int 1))) = H3 at s3 st3 d3 ⊢
   generalize bi kvs y 1 = kv at d3 nd3 l3 i3 a3
   refine ⟨_, rfl, rfl, _, rfl, hW (fun h3 => ?_) (fun h3 => ⟨kv, _, _, rfl, s3, st3, d3, nd3, l3, a3⟩)⟩
   refine ⟨_, rfl, _, rfl, a, m, rfl, st3, by omega, by omega, fun H4 n s4 st4 n0 n1 => ?_⟩
   refine ⟨_, _, rfl, rfl, _, rfl, _, rfl, d, _, rfl, iY.k (k := Sum.inr y) (s4 _ _ da d3) (szd _ l3), ?_⟩
   obtain ⟨s5, st5, d5, nd5, l5, i5, a5⟩ := put H4 kv (1 + n) nd3 l3 (.inr i3) a3 (s3.trans s4) st4 (s4 _ _ da d3) (by omega) (by omega)
   exact ⟨_, _, _, rfl, s5, st5, d5, nd5, l5, a5⟩
  ·refine ⟨_, rfl, rfl, _, rfl, hW (fun h3 => ?_) (fun h3 => ⟨kvs, _, _, rfl, s1.trans s2, st2, d2, ndk, by omega, hall⟩)⟩
   exact absurd (eqI h3) (fun e => h1 (decide_eq_true (by omega)))
 rintro σ H1 ⟨kvs, o1, o2, rfl, s1, st1, d1, ndk, lk, hall⟩
 rw [List.length_map] at lk
 refine ⟨z4, fun l hl => ?_⟩
 have q1 := ae hl (.lst [V.int 0, .int 0, .int 1, .int 2])
 refine ⟨_, rfl, a, 4, rfl, st1.m q1, by decide, by decide, fun H2 z s2 st2 z0 z4' => ?_⟩
 have la : l ≠ a := fun e => by obtain ⟨n, c, e2⟩ := st1; rw [e, e2] at hl; cases hl
 obtain ⟨n, hn, n0, n2⟩ := wf z0 z4'
 refine ⟨l, _, _, .int n, rfl, rfl, SqL.of (s2 _ _ la ad), hn, ?_⟩
 have d2 := s2 _ _ da (q1 _ _ d1)
 have s02 : aA a H H2 := s1.trans ((ao.b a q1).trans s2)
 have fin : ∀ (H3 : Hp) (c : Int), aA a H H3 -> St2 H3 a -> H3 d = some (.dK (dk kvs)) -> 0 <= c -> c <= m -> ∀ (H4 : Hp) (w : V) (ps : List Pr), ao H3 H4 -> Rep H4 (.tup (aD ps)) w -> ps.Perm kvs -> ce ps -> 2 <= sizeLine /\ ∀ p, H4 p = none -> Q (.ref p) (upd H4 p (.tup [.int c, w])) := fun H3 c s3 st3 _ c0 cB H4 w ps s4 R pq can => ⟨z2, fun p hp => by
  have s5 := ae hp (.tup [.int c, w])
  exact q _ _ c ps (s3.trans (ao.b a (s4.trans s5))) (st3.m (s4.trans s5)) (qR ad (R.mono s5)) ⟨c0, cB, can, fun x hx => ⟨(hall x (pq.mem_iff.mp hx)).1, (hall x (pq.mem_iff.mp hx)).2.2⟩, by rw [pq.length_eq]; omega⟩⟩
 have items : ∀ (H3 : Hp) (c : Int), aA a H H3 -> St2 H3 a -> H3 d = some (.dK (dk kvs)) -> 0 <= c -> c <= m -> ∀ v, H3 v = none -> ∀ (H4 : Hp) (l : Addr) (qs : List TK), ao (upd H3 v (bj v d)) H4 -> (∀ r ∈ qs, H4 r.1 = some (.tup (.str r.2.1 :: r.2.2)) /\ upd H3 v (bj v d) r.1 = none) -> H4 l = some (.lst (qs.map fun r => V.ref r.1)) -> (qs.map (·.2)).Perm ((kvs.map fun p => (p.1, V.int p.2)).map fun p => (p.1, [p.2])) -> qs.Pairwise qz ->
   ∀ t, H4 t = none -> 2 <= sizeLine /\ ∀ p, upd H4 t (.tup (qs.map fun r => V.ref r.1)) p = none -> Q (.ref p) (upd (upd H4 t (.tup (qs.map fun r => V.ref r.1))) p (.tup [.int c, .ref t])) := fun H3 c s3 st3 d3 c0 cB v hv H4 l qs s4 hq hl pq pw t ht => by
  obtain ⟨perm, can, rep⟩ := kF hq pq pw fun p hp => (hall p hp).2.1
  exact fin H3 c s3 st3 d3 c0 cB _ _ _ ((ae hv _).trans (s4.trans (ae ht _))) (rep t ht) perm can
 have two : ∀ (H3 : Hp) (v : Addr), H3 d = some (.dK (dk kvs)) -> H3 v = none -> upd H3 v (bj v d) d = some (.dK ((kvs.map fun p => (p.1, V.int p.2)).map fun p => ((Sum.inr p.1 : Key), p.2))) := fun H3 v d3 hv => by rw [ap (ag d3 hv), d3, List.map_map]; rfl
 have l64 : (kvs.map fun p => (p.1, V.int p.2)).length < 64 := by rw [List.length_map]; omega
 refine ⟨_, rfl, rfl, _, rfl, hW (fun h2 => ?_) (fun h2 => ?_)⟩
 ·refine ⟨_, rfl, _, rfl, _, _, rfl, rfl, a, _, rfl, st2, by omega, by omega, fun H3 x s3 st3 x0 x1 => ?_⟩
  have d3 := s3 _ _ da d2
  refine ⟨_, rfl, _, rfl, .inr (.inr (.inl ⟨rfl, .inl ⟨_, d3⟩⟩)), d, _, rfl, rfl, d3, fun v hv => ?_⟩
  refine ⟨v, d, kvs.map fun p => (p.1, V.int p.2), rfl, ad, two H3 v d3 hv, l64, fun H4 l4 qs s4 _ hq hl4 pq pw => ⟨l4, _, rfl, .inl ⟨SqL.of hl4, fun t ht => ?_⟩⟩⟩
  exact items H3 x (s02.trans s3) st3 d3 x0 (by omega) v hv H4 l4 qs s4 hq hl4 pq pw t ht
 ·refine ⟨_, rfl, _, rfl, .inr (.inr (.inl ⟨rfl, .inl ⟨_, d2⟩⟩)), d, _, rfl, rfl, d2, fun v hv => ?_⟩
  refine ⟨v, d, kvs.map fun p => (p.1, V.int p.2), rfl, ad, two H2 v d2 hv, l64, fun H4 l4 qs s4 _ hq hl4 pq pw => ⟨l4, _, rfl, .inl ⟨SqL.of hl4, fun t ht => ?_⟩⟩⟩
  exact items H2 n s02 st2 d2 n0 (by omega) v hv H4 l4 qs s4 hq hl4 pq pw t ht
end
def pw (g : Str -> Int) : List Pr -> Int
 | [] => 1
 | p :: ps => g p.1 ^ p.2.toNat * pw g ps
def bf : List Pr -> Int
 | [] => 0
 | p :: ps => p.2 + bf ps
def sw (g : List Pr -> Int) : List PM -> Int
 | [] => 0
 | p :: ms => p.2 * g p.1 + sw g ms
theorem iw (g : Str -> Int) : ∀ ps qs, pw g (ps ++ qs) = pw g ps * pw g qs
 | [], qs => by show pw g qs = 1 * pw g qs; rw [Int.one_mul]
 | p :: ps, qs => by show g p.1 ^ p.2.toNat * pw g (ps ++ qs) = g p.1 ^ p.2.toNat * pw g ps * pw g qs; rw [iw g ps qs, Int.mul_assoc]
theorem rX (g : Str -> Int) {ps qs : List Pr} (h : ps.Perm qs) : pw g ps = pw g qs := by
 induction h with
 | nil => rfl
 | cons x _ ih => show _ * _ = _ * _; rw [ih]
 | swap x y l => show _ * (_ * _) = _ * (_ * _); rw [<- Int.mul_assoc, <- Int.mul_assoc, Int.mul_comm (g y.1 ^ _)]
 | trans _ _ h1 h2 => rw [h1, h2]
theorem dB : ∀ ps qs, bf (ps ++ qs) = bf ps + bf qs
 | [], qs => by show bf qs = 0 + bf qs; omega
 | p :: ps, qs => by show p.2 + bf (ps ++ qs) = p.2 + bf ps + bf qs; rw [dB ps qs]; omega
theorem oV {ps qs : List Pr} (h : ps.Perm qs) : bf ps = bf qs := by
 induction h with
 | nil => rfl
 | cons x _ ih => show x.2 + _ = x.2 + _; rw [ih]
 | swap x y l => show y.2 + (x.2 + bf l) = x.2 + (y.2 + bf l); omega
 | trans _ _ h1 h2 => rw [h1, h2]
theorem cQ (g : List Pr -> Int) : ∀ ms ns, sw g (ms ++ ns) = sw g ms + sw g ns
 | [], ns => by show sw g ns = 0 + sw g ns; omega
 | p :: ms, ns => by show p.2 * g p.1 + sw g (ms ++ ns) = p.2 * g p.1 + sw g ms + sw g ns; rw [cQ g ms ns]; omega
theorem gh (g : List Pr -> Int) {ms ns : List PM} (h : ms.Perm ns) : sw g ms = sw g ns := by
 induction h with
 | nil => rfl
 | cons x _ ih => show x.2 * g x.1 + _ = x.2 * g x.1 + _; rw [ih]
 | swap x y l => show y.2 * g y.1 + (x.2 * g x.1 + sw g l) = x.2 * g x.1 + (y.2 * g y.1 + sw g l); omega
 | trans _ _ h1 h2 => rw [h1, h2]
theorem rU {p : Pr} {kvs : List Pr} {x : Str} {n : Int} (e : p.1 ≠ x) : bi (p :: kvs) x n = p :: bi kvs x n := by
 unfold bi
 rw [List.any_cons, decide_eq_false e, Bool.false_or]
 split
 ·rw [List.map_cons, if_neg e]
 ·rfl
theorem sE {p : Pr} {kvs : List Pr} {n : Int} (h : p.1 ∉ kvs.map (·.1)) : bi (p :: kvs) p.1 n = (p.1, n) :: kvs := by
 unfold bi
 rw [List.any_cons, decide_eq_true rfl, Bool.true_or, if_pos rfl, List.map_cons, if_pos rfl]
 congr 1
 refine (List.map_congr_left (g := id) fun q hq => ?_).trans (List.map_id _)
 exact if_neg fun e => h (by rw [<- e]; exact List.mem_map_of_mem (f := fun q : Pr => q.1) hq)
theorem qL (g : Str -> Int) {x : Str} {n : Int} (h0 : 0 <= n) : ∀ {kvs : List Pr}, (kvs.map (·.1)).Nodup -> (∀ p ∈ kvs, 0 <= p.2) -> pw g (bi kvs x (tm kvs x + n)) = pw g kvs * g x ^ n.toNat /\ bf (bi kvs x (tm kvs x + n)) = bf kvs + n
 | [], _, _ => by
  show pw g [(x, 0 + n)] = 1 * _ /\ bf [(x, 0 + n)] = 0 + n
  rw [Int.zero_add]
  exact ⟨by show g x ^ n.toNat * 1 = _; rw [Int.mul_one, Int.one_mul], by show n + 0 = n; omega⟩
 | p :: kvs, nd, h => by
  have hp := h p List.mem_cons_self
  have hk := fun q hq => h q (List.mem_cons_of_mem _ hq)
  rw [List.map_cons, List.nodup_cons] at nd
  by_cases e : p.1 = x
  ·subst e
   have t1 : tm (p :: kvs) p.1 = p.2 := if_pos rfl
   rw [t1, sE nd.1]
   refine ⟨?_, by show p.2 + n + bf kvs = p.2 + bf kvs + n; omega⟩
   show g p.1 ^ (p.2 + n).toNat * pw g kvs = g p.1 ^ p.2.toNat * pw g kvs * g p.1 ^ n.toNat
   rw [Int.toNat_add hp h0, Int.pow_add, Int.mul_assoc, Int.mul_assoc, Int.mul_comm (g p.1 ^ n.toNat)]
  ·have t1 : tm (p :: kvs) x = tm kvs x := if_neg e
   obtain ⟨h1, h2⟩ := qL g h0 (x := x) nd.2 hk
   rw [t1, rU e]
   refine ⟨?_, by show p.2 + bf (bi kvs x (tm kvs x + n)) = p.2 + bf kvs + n; rw [h2]; omega⟩
   show _ * pw g (bi kvs x (tm kvs x + n)) = _ * _ * _
   rw [h1, Int.mul_assoc]
theorem nt {p : PM} {m : List PM} {k : List Pr} (e : p.1 ≠ k) : dh (p :: m) k = dh m k := by unfold dh; rw [List.find?_cons, decide_eq_false e]
theorem nM {p : PM} {m : List PM} : dh (p :: m) p.1 = some p.2 := by unfold dh; rw [List.find?_cons, decide_eq_true rfl]; rfl
theorem tf {p : PM} {m : List PM} {k : List Pr} {n : Int} (e : p.1 ≠ k) : di (p :: m) k n = p :: di m k n := by
 unfold di
 rw [nt e]
 split
 ·rw [List.map_cons, if_neg e]
 ·rfl
theorem sQ {p : PM} {m : List PM} {n : Int} (h : p.1 ∉ m.map (·.1)) : di (p :: m) p.1 n = (p.1, n) :: m := by
 unfold di
 rw [nM, if_pos (show (some p.2).isSome = true from rfl), List.map_cons, if_pos rfl]
 congr 1
 refine (List.map_congr_left (g := id) fun q hq => ?_).trans (List.map_id _)
 exact if_neg fun e => h (by rw [<- e]; exact List.mem_map_of_mem (f := fun q : PM => q.1) hq)
theorem mz (g : List Pr -> Int) {k : List Pr} {n : Int} : ∀ {m : List PM}, (m.map (·.1)).Nodup -> sw g (di m k ((dh m k).getD 0 + n)) = sw g m + n * g k
 | [], _ => by
  show (0 + n) * g k + 0 = 0 + n * g k
  rw [Int.zero_add]; omega
 | p :: m, nd => by
  rw [List.map_cons, List.nodup_cons] at nd
  by_cases e : p.1 = k
  ·subst e
   rw [nM, sQ nd.1]
   show (p.2 + n) * g p.1 + sw g m = p.2 * g p.1 + sw g m + n * g p.1
   rw [Int.add_mul]; omega
  ·have h1 := mz g (k := k) (n := n) nd.2
   rw [nt e, tf e]
   show p.2 * g p.1 + sw g (di m k _) = p.2 * g p.1 + sw g m + n * g k
   rw [h1]; omega
theorem jY {R : PM -> Prop} {m : List PM} {k : List Pr} {n : Int} (h : ∀ p ∈ m, R p) (hk : R (k, n)) : ∀ p ∈ di m k n, R p := by
 unfold di
 split
 ·intro p hp
  obtain ⟨q, hq, rfl⟩ := List.mem_map.mp hp
  split
  ·next e => rw [e]; exact hk
  ·exact h q hq
 ·intro p hp
  rcases List.mem_append.mp hp with hp | hp
  ·exact h p hp
  ·rw [List.mem_singleton.mp hp]; exact hk
theorem kI {m : List PM} (h : ∀ p ∈ m, 0 <= p.2) (k : List Pr) : 0 <= (dh m k).getD 0 := by
 unfold dh
 cases e : m.find? fun p => decide (p.1 = k) with
 | none => exact Int.le_refl 0
 | some p => exact h p (List.mem_of_find?_eq_some e)
theorem qK {ks : List Pr} (nd : (ks.map (·.1)).Nodup) (h : ∀ p ∈ ks, 1 <= p.2) : ∃ qs, ce qs /\ qs.Perm ks := by
 let le : Pr -> Pr -> Bool := fun p q => decide (¬ q.1.cps.toList < p.1.cps.toList)
 have pm := List.mergeSort_perm ks le
 have pw := List.pairwise_mergeSort (le := le) (fun a b c h1 h2 => by
  have h1 := of_decide_eq_true h1
  have h2 := of_decide_eq_true h2
  refine decide_eq_true fun z => ?_
  by_cases e : b.1.cps.toList = c.1.cps.toList
  ·rw [<- e] at z; exact h1 z
  ·exact h1 (List.lt_trans (eR h2 (fun q => e q.symm)) z)) (fun a b => by
  show (decide _ || decide _) = true
  by_cases z : b.1.cps.toList < a.1.cps.toList
  ·rw [decide_eq_false (fun q => q z), Bool.false_or]
   exact decide_eq_true fun y => gn _ (List.lt_trans y z)
  ·rw [decide_eq_true z]; rfl) ks
 refine ⟨ks.mergeSort le, ⟨?_, fun p hp => h p (pm.mem_iff.mp hp)⟩, pm⟩
 have nd2 : ((ks.mergeSort le).map (·.1)).Nodup := (pm.map _).nodup_iff.mpr nd
 refine List.Pairwise.imp₂ (fun a b h1 h2 => ?_) pw (List.pairwise_map.mp nd2)
 have h1 := of_decide_eq_true h1
 exact Classical.byContradiction fun z => h1 (eR z fun e => h2 (hB e))
def cV : List Pr -> List Pr
 | [] => []
 | p :: ps => bi (cV ps) p.1 (tm (cV ps) p.1 + p.2)
theorem nE (g : Str -> Int) : ∀ {ps : List Pr}, (∀ p ∈ ps, 1 <= p.2) -> ((cV ps).map (·.1)).Nodup /\ (∀ p ∈ cV ps, 1 <= p.2) /\ (∀ x, tm (cV ps) x = bK ps x) /\ pw g (cV ps) = pw g ps /\ bf (cV ps) = bf ps /\ (cV ps).length <= ps.length
 | [], _ => ⟨List.nodup_nil, (fun _ h => nomatch h), fun _ => rfl, rfl, rfl, Nat.le_refl _⟩
 | p :: ps, h => by
  obtain ⟨h1, h2, h3, h4, h5, h6⟩ := nE g (ps := ps) fun q hq => h q (List.mem_cons_of_mem _ hq)
  have hp := h p List.mem_cons_self
  have h0 := fI (fun q hq => Int.le_trans (by decide) (h2 q hq)) p.1
  obtain ⟨w1, w2⟩ := qL g (x := p.1) (n := p.2) (by omega) h1 (fun q hq => Int.le_trans (by decide) (h2 q hq))
  refine ⟨dR h1, fg (R := fun r => 1 <= r.2) h2 (by show 1 <= tm (cV ps) p.1 + p.2; omega), fun x => ?_, ?_, ?_, ?_⟩
  ·show tm (bi (cV ps) p.1 (tm (cV ps) p.1 + p.2)) x = (if p.1 = x then p.2 else 0) + bK ps x
   rw [qu]
   by_cases e : p.1 = x
   ·subst e; rw [if_pos rfl, if_pos rfl, h3]; omega
   ·rw [if_neg e, if_neg e, h3]; omega
  ·show pw g (bi (cV ps) p.1 (tm (cV ps) p.1 + p.2)) = g p.1 ^ p.2.toNat * pw g ps
   rw [w1, h4, Int.mul_comm]
  ·show bf (bi (cV ps) p.1 (tm (cV ps) p.1 + p.2)) = p.2 + bf ps
   rw [w2, h5]; omega
  ·have := eL (cV ps) p.1 (tm (cV ps) p.1 + p.2)
   show (bi (cV ps) p.1 (tm (cV ps) p.1 + p.2)).length <= ps.length + 1
   omega
noncomputable def nf (ps : List Pr) : List Pr := open Classical in if h : ∃ qs, ce qs /\ ∀ x, tm qs x = bK ps x then Classical.choose h else []
theorem rF {ps qs : List Pr} (c : ce qs) (h : ∀ x, tm qs x = bK ps x) : nf ps = qs := by
 have e : ∃ qs, ce qs /\ ∀ x, tm qs x = bK ps x := ⟨qs, c, h⟩
 unfold nf
 rw [dif_pos e]
 exact ik (Classical.choose_spec e).1 c fun x => ((Classical.choose_spec e).2 x).trans (h x).symm
theorem gu {ps qs : List Pr} (h : ∀ x, bK ps x = bK qs x) : nf ps = nf qs := by
 have e : bK ps = bK qs := funext h
 unfold nf
 rw [e]
theorem ww (g : Str -> Int) {ps : List Pr} (h : ∀ p ∈ ps, 1 <= p.2) : ce (nf ps) /\ (∀ x, tm (nf ps) x = bK ps x) /\ pw g (nf ps) = pw g ps /\ bf (nf ps) = bf ps /\ (nf ps).length <= ps.length := by
 obtain ⟨h1, h2, h3, h4, h5, h6⟩ := nE g h
 obtain ⟨qs, c, pm⟩ := qK h1 h2
 have t : ∀ x, tm qs x = bK ps x := fun x => (dZ c.pw pm x).trans (h3 x)
 rw [rF c t]
 exact ⟨c, t, by rw [rX g pm, h4], by rw [oV pm, h5], by rw [pm.length_eq]; exact h6⟩
def jT (ks : List Str) : List Pr := ks.map fun x => (x, 1)
theorem se (ks : List Str) : ∀ p ∈ jT ks, 1 <= p.2 := fun p hp => by
 obtain ⟨x, _, rfl⟩ := List.mem_map.mp hp
 exact Int.le_refl 1
theorem cO (ks : List Str) (x : Str) : bK (jT ks) x = (ks.count x : Nat) := by
 induction ks with
 | nil => rfl
 | cons k ks ih =>
  show (if k = x then 1 else 0) + bK (jT ks) x = _
  rw [ih, List.count_cons]
  by_cases e : k = x
  ·subst e; rw [if_pos rfl, if_pos (by simp)]; omega
  ·rw [if_neg e, if_neg (by simpa using e)]; omega
noncomputable def pn (ks : List Str) : List Pr := nf (jT ks)
def pt (g : Str -> Int) : List Str -> Int
 | [] => 1
 | x :: xs => g x * pt g xs
theorem oE (g : Str -> Int) : ∀ ks, pw g (jT ks) = pt g ks
 | [] => rfl
 | x :: xs => by
  show g x ^ (1 : Int).toNat * pw g (jT xs) = g x * pt g xs
  rw [oE g xs, show (1 : Int).toNat = 1 from rfl, Int.pow_succ, Int.pow_zero, Int.one_mul]
theorem io : ∀ ks, bf (jT ks) = (ks.length : Nat)
 | [] => rfl
 | x :: xs => by show 1 + bf (jT xs) = ((xs.length + 1 : Nat) : Int); rw [io xs]; omega
theorem gW (g : Str -> Int) (ks : List Str) : ce (pn ks) /\ (∀ x, tm (pn ks) x = (ks.count x : Nat)) /\ pw g (pn ks) = pt g ks /\ bf (pn ks) = (ks.length : Nat) /\ (pn ks).length <= ks.length := by
 obtain ⟨h1, h2, h3, h4, h5⟩ := ww g (se ks)
 exact ⟨h1, fun x => (h2 x).trans (cO ks x), h3.trans (oE g ks), h4.trans (io ks), by rw [jT, List.length_map] at h5; exact h5⟩
theorem rA {ks : List Str} {qs : List Pr} (c : ce qs) (h : ∀ x, tm qs x = (ks.count x : Nat)) : qs = pn ks := (rF c fun x => (h x).trans (cO ks x).symm).symm
theorem tD {ks ls : List Str} (h : ks.Perm ls) : pn ks = pn ls := gu fun x => by rw [cO, cO, h.count_eq]
theorem ve (ks ls : List Str) : nf (pn ks ++ pn ls) = pn (ks ++ ls) := by
 refine gu fun x => ?_
 obtain ⟨c1, t1, _⟩ := gW (fun _ => 0) ks
 obtain ⟨c2, t2, _⟩ := gW (fun _ => 0) ls
 rw [cE, jF (cC c1.pw), jF (cC c2.pw), t1, t2, cO, List.count_append]
 omega
theorem sL (as bs : List Pr) : nf (as ++ bs) = nf (bs ++ as) := gu fun x => by rw [cE, cE, Int.add_comm]
abbrev Sd (ks : List Str) : Prop := ks.Pairwise fun a b => ¬ lA b a
theorem vH {ks ls : List Str} (h1 : Sd ks) (h2 : Sd ls) (h : ks.Perm ls) : ks = ls := h.eq_of_pairwise (fun a b _ _ x y => Classical.byContradiction fun z => y (eR x fun e => z (hB e).symm)) h1 h2
theorem uJ {ks ls : List Str} (h1 : Sd ks) (h2 : Sd ls) (h : pn ks = pn ls) : ks = ls := vH h1 h2 (List.perm_iff_count.mpr fun x => by
 have e1 := (gW (fun _ => 0) ks).2.1 x
 have e2 := (gW (fun _ => 0) ls).2.1 x
 rw [h, e2] at e1
 omega)
theorem np {g h : List Pr -> Int} : ∀ {m : List PM}, (∀ p ∈ m, g p.1 = h p.1) -> sw g m = sw h m
 | [], _ => rfl
 | p :: m, e => by
  show p.2 * g p.1 + sw g m = p.2 * h p.1 + sw h m
  rw [e p List.mem_cons_self, np fun q hq => e q (List.mem_cons_of_mem _ hq)]
theorem qe (g h : List Pr -> Int) : ∀ m : List PM, sw (fun k => g k + h k) m = sw g m + sw h m
 | [] => rfl
 | p :: m => by
  show p.2 * (g p.1 + h p.1) + sw _ m = p.2 * g p.1 + sw g m + (p.2 * h p.1 + sw h m)
  rw [qe g h m, Int.mul_add]; omega
theorem lH (n : Int) (g : List Pr -> Int) : ∀ m : List PM, sw (fun k => n * g k) m = n * sw g m
 | [] => by show (0 : Int) = n * 0; omega
 | p :: m => by
  show p.2 * (n * g p.1) + sw _ m = n * (p.2 * g p.1 + sw g m)
  rw [lH n g m, Int.mul_add, Int.mul_left_comm]
theorem gi : ∀ m : List PM, sw (fun _ => 0) m = 0
 | [] => rfl
 | p :: m => by show p.2 * 0 + sw _ m = 0; rw [gi m]; omega
theorem nz (F : List Pr -> List Pr -> Int) (t : List PM) : ∀ s : List PM, sw (fun a => sw (F a) t) s = sw (fun b => sw (fun a => F a b) s) t
 | [] => (gi t).symm
 | p :: s => by
  show p.2 * sw (F p.1) t + sw (fun a => sw (F a) t) s = sw (fun b => p.2 * F p.1 b + sw (fun a => F a b) s) t
  rw [qe, lH, nz F t s]
def Up (m : List PM) : Prop := m.Pairwise fun p q => ltK p.1 q.1 = true
theorem qy {m : List PM} (u : Up m) {p : PM} (hp : p ∈ m) : sw (fun k => if k = p.1 then 1 else 0) m = p.2 := by
 induction m with
 | nil => cases hp
 | cons q m ih =>
  obtain ⟨h1, h2⟩ := List.pairwise_cons.mp u
  show q.2 * (if q.1 = p.1 then 1 else 0) + sw _ m = p.2
  rcases List.mem_cons.mp hp with rfl | hp
  ·have z : sw (fun k => if k = p.1 then 1 else 0) m = sw (fun _ => 0) m := np fun r hr => if_neg fun e => by
    have := h1 r hr
    rw [e, cw] at this
    cases this
   rw [if_pos rfl, z, gi]; omega
  ·have z : q.1 ≠ p.1 := fun e => by
    have := h1 p hp
    rw [e, cw] at this
    cases this
   rw [if_neg z, ih h2 hp]; omega
theorem sM {m : List PM} {k : List Pr} (h : ∀ p ∈ m, p.1 ≠ k) : sw (fun x => if x = k then 1 else 0) m = 0 := by
 rw [np (h := fun _ => 0) fun r hr => if_neg (h r hr), gi]
theorem uN {m n : List PM} (um : Up m) (un : Up n) (pm : ∀ p ∈ m, 1 <= p.2) (pn : ∀ p ∈ n, 1 <= p.2) (h : ∀ g, sw g m = sw g n) : m = n := by
 have half : ∀ {m n : List PM}, Up m -> Up n -> (∀ p ∈ m, 1 <= p.2) -> (∀ g, sw g m = sw g n) -> ∀ p ∈ m, p ∈ n := fun {m n} um un pm h p hp => by
  have e := qy um hp
  rw [h] at e
  have h1 := pm p hp
  by_cases z : ∃ q ∈ n, q.1 = p.1
  ·obtain ⟨q, hq, eq⟩ := z
   have e2 := qy un hq
   rw [eq, e] at e2
   rw [show p = q from Prod.ext eq.symm e2]
   exact hq
  ·rw [sM fun q hq eq => z ⟨q, hq, eq⟩] at e
   omega
 have nd : ∀ {m : List PM}, Up m -> m.Nodup := fun u => u.imp fun h e => by rw [e, cw] at h; cases h
 refine List.Perm.eq_of_pairwise (le := fun (p q : PM) => ltK p.1 q.1 = true) (fun a b _ _ x y => ?_) um un ((List.perm_ext_iff_of_nodup (nd um) (nd un)).mpr fun p => ⟨half um un pm h p, half un um pn (fun g => (h g).symm) p⟩)
 have := jR x y
 rw [cw] at this
 cases this
def swT (g : List Str -> Int) : List TM -> Int
 | [] => 0
 | p :: ms => p.2 * g p.1 + swT g ms
noncomputable def wT (g : List Pr -> Int) (m : List TM) : Int := swT (fun ks => g (pn ks)) m
theorem eB (g : List Str -> Int) : ∀ ms ns, swT g (ms ++ ns) = swT g ms + swT g ns
 | [], ns => by show swT g ns = 0 + swT g ns; omega
 | p :: ms, ns => by show p.2 * g p.1 + swT g (ms ++ ns) = p.2 * g p.1 + swT g ms + swT g ns; rw [eB g ms ns]; omega
theorem jv {p : TM} {m : List TM} {k : List Str} (e : p.1 ≠ k) : bF (p :: m) k = bF m k := by unfold bF; rw [List.find?_cons, decide_eq_false e]
theorem jS {p : TM} {m : List TM} : bF (p :: m) p.1 = some p.2 := by unfold bF; rw [List.find?_cons, decide_eq_true rfl]; rfl
theorem kg : ∀ {m : List TM}, (m.map (·.1)).Nodup -> ∀ {p : TM}, p ∈ m -> bF m p.1 = some p.2
 | q :: m, nd, p, hp => by
  rw [List.map_cons, List.nodup_cons] at nd
  rcases List.mem_cons.mp hp with rfl | hp
  ·exact jS
  ·rw [jv fun e => nd.1 (by rw [e]; exact List.mem_map_of_mem (f := fun p : TM => p.1) hp)]
   exact kg nd.2 hp
theorem tH {p : TM} {m : List TM} {k : List Str} {n : Int} (e : p.1 ≠ k) : cr (p :: m) k n = p :: cr m k n := by
 unfold cr
 rw [jv e]
 split
 ·rw [List.map_cons, if_neg e]
 ·rfl
theorem sI {p : TM} {m : List TM} {n : Int} (h : p.1 ∉ m.map (·.1)) : cr (p :: m) p.1 n = (p.1, n) :: m := by
 unfold cr
 rw [jS, if_pos (show (some p.2).isSome = true from rfl), List.map_cons, if_pos rfl]
 congr 1
 refine (List.map_congr_left (g := id) fun q hq => ?_).trans (List.map_id _)
 exact if_neg fun e => h (by rw [<- e]; exact List.mem_map_of_mem (f := fun q : TM => q.1) hq)
theorem nN (g : List Str -> Int) {k : List Str} {n : Int} : ∀ {m : List TM}, (m.map (·.1)).Nodup -> swT g (cr m k ((bF m k).getD 0 + n)) = swT g m + n * g k
 | [], _ => by
  show (0 + n) * g k + 0 = 0 + n * g k
  rw [Int.zero_add]; omega
 | p :: m, nd => by
  rw [List.map_cons, List.nodup_cons] at nd
  by_cases e : p.1 = k
  ·subst e
   rw [jS, sI nd.1]
   show (p.2 + n) * g p.1 + swT g m = p.2 * g p.1 + swT g m + n * g p.1
   rw [Int.add_mul]; omega
  ·have h1 := nN g (k := k) (n := n) nd.2
   rw [jv e, tH e]
   show p.2 * g p.1 + swT g (cr m k _) = p.2 * g p.1 + swT g m + n * g k
   rw [h1]; omega
theorem cp {R : TM -> Prop} {m : List TM} {k : List Str} {n : Int} (h : ∀ p ∈ m, R p) (hk : R (k, n)) : ∀ p ∈ cr m k n, R p := by
 unfold cr
 split
 ·intro p hp
  obtain ⟨q, hq, rfl⟩ := List.mem_map.mp hp
  split
  ·next e => rw [e]; exact hk
  ·exact h q hq
 ·intro p hp
  rcases List.mem_append.mp hp with hp | hp
  ·exact h p hp
  ·rw [List.mem_singleton.mp hp]; exact hk
theorem mF {m : List TM} {B : Int} (h0 : 0 <= B) (h : ∀ p ∈ m, 0 <= p.2 /\ p.2 <= B) (k : List Str) : 0 <= (bF m k).getD 0 /\ (bF m k).getD 0 <= B := by
 unfold bF
 cases e : m.find? fun p => decide (p.1 = k) with
 | none => exact ⟨Int.le_refl 0, h0⟩
 | some p => exact h p (List.mem_of_find?_eq_some e)
noncomputable def tl (m : List TM) : List PM := (m.filter fun p => decide (0 < p.2)).map fun p => (pn p.1, p.2)
theorem qj (g : List Pr -> Int) : ∀ {m : List TM}, (∀ p ∈ m, 0 <= p.2) -> sw g (tl m) = wT g m
 | [], _ => rfl
 | p :: m, h => by
  have ih := qj g (m := m) fun q hq => h q (List.mem_cons_of_mem _ hq)
  have h0 := h p List.mem_cons_self
  show _ = p.2 * g (pn p.1) + wT g m
  unfold tl at ih ⊢
  rw [List.filter_cons]
  split
  ·show p.2 * g (pn p.1) + _ = _
   rw [ih]
  ·next z =>
   have : p.2 = 0 := by have : ¬ 0 < p.2 := fun y => z (decide_eq_true y); omega
   rw [ih, this]; omega
theorem sK {m : List TM} (nd : (m.map (·.1)).Nodup) (h : ∀ p ∈ m, Sd p.1) : ((tl m).map (·.1)).Nodup := by
 unfold tl
 rw [List.map_map]
 refine List.pairwise_map.mpr ?_
 have f : (m.filter fun p => decide (0 < p.2)).Pairwise fun p q => p.1 ≠ q.1 := (List.pairwise_map.mp nd).sublist List.filter_sublist
 refine f.imp_of_mem fun {a b} ha hb ne e => ne (uJ (h a (List.mem_filter.mp ha).1) (h b (List.mem_filter.mp hb).1) e)
theorem uQ (g : List Pr -> Int) (m1 : List TM) (k : List Str) : wT (fun b => g (nf (pn k ++ b))) m1 = swT (fun l => g (pn (k ++ l))) m1 := by
 unfold wT
 congr 1
 funext l
 show g (nf (pn k ++ pn l)) = _
 rw [ve]
abbrev aQ : Stmt := top 1
def SmT (K : PySem.W.Frag) (H : Hp) (m : List PM) (v : V) : Prop := ∃ a us, v = .ref a /\ H a = some (.tup us) /\ Paired (TmR K H) m us
theorem SmT.sm {K : PySem.W.Frag} {H : Hp} {m : List PM} {v : V} (h : SmT K H m v) : SmR K H m v := let ⟨a, us, e, ha, r⟩ := h; ⟨a, us, e, .of ha, r⟩
theorem SmT.tups {K : PySem.W.Frag} {H H' : Hp} {m : List PM} {v : V} (t : eJ H H') (h : SmT K H m v) : SmT K H' m v := let ⟨a, us, e, ha, r⟩ := h; ⟨a, us, e, t _ _ ha, cn t r⟩
theorem SmT.mono {K : PySem.W.Frag} {H H' : Hp} {m : List PM} {v : V} (t : ao H H') (h : SmT K H m v) : SmT K H' m v := h.tups (ao.tups t)
def qv (K : PySem.W.Frag) : Sp := fun vs H Q _ => ∃ (a : Addr) (ps : List Pr), vs = [.ref a] /\ bT K H ps a /\ (∀ p ∈ ps, 1 <= p.2) /\ ps.length <= 60 /\
 ∀ (H' : Hp) (b : Addr), ao H H' -> bT K H' (nf ps) b -> Q (.ref b) H'
def oo (K : PySem.W.Frag) (sq : Hp -> Addr -> List V -> Prop) : Sp := fun vs H Q _ => ∃ (a : Addr) (us : List V) (m : List PM), vs = [.ref a] /\ sq H a us /\ Paired (TmR K H) m us /\ (∀ p ∈ m, 1 <= p.2) /\ m.length <= 80000 /\
 ∀ (H' : Hp) (v : V) (m' : List PM), ao H H' -> SmT K H' m' v -> Up m' -> (∀ p ∈ m', 1 <= p.2) -> (∀ g, sw g m' = sw g m) -> Q v H'
def isL (H : Hp) (a : Addr) (us : List V) : Prop := H a = some (.lst us)
theorem br {α β : Type} {R : α -> β -> Prop} : ∀ {xs : List α} {ys : List β}, Paired R xs ys -> ∀ {i : Nat} {y : β}, ys[i]? = some y -> ∃ x, xs[i]? = some x /\ R x y
 | _, _, .nil, i, y, h => by simp at h
 | _, _, .cons r t, 0, y, h => by cases h; exact ⟨_, rfl, r⟩
 | _, _, .cons r t, i + 1, y, h => br t h
theorem aP {α β : Type} {R : α -> β -> Prop} : ∀ {xs : List α} {ys : List β}, Paired R xs ys -> xs.length = ys.length
 | _, _, .nil => rfl
 | _, _, .cons _ t => by rw [List.length_cons, List.length_cons, aP t]
theorem gg (g : List Pr -> Int) {m : List PM} {i : Nat} {p : PM} (h : m[i]? = some p) : sw g (m.take (i + 1)) = sw g (m.take i) + p.2 * g p.1 := by
 rw [List.take_add_one, h, cQ]
 show _ + (p.2 * g p.1 + 0) = _
 omega
theorem oD {K : PySem.W.Frag} {P : Program} {w : World} {H H' : Hp} {d : Addr} {m : List PM} (s : ao H H') (h : Dp K P w H d m) : Dp K P w H' d m := let ⟨xs, e, a, b, c, r⟩ := h; ⟨xs, s _ _ e, a, b, c, jO (fun _ _ e => s _ _ e) r⟩
section
variable {P : Program} {w : World} {K : PySem.W.Frag} {mg : Str -> Option Value} {base : Heap}
theorem bC : aR ["parts", "total", "key", "times"] ["parts"] (aj aQ) := ⟨rfl, rfl, rfl, by decide +kernel, rfl, by decide +kernel, by decide +kernel⟩
theorem vh {f : Addr} {fd : FuncData} (F : Fun K "gathered" "gathered" aQ f fd) (T : Txt K mg) : bu P w K mg base CX0 1 f fd ["parts"] (qv K) := by
 have nd : (["parts", "total", "key", "times"] : List Str).Nodup := bC.nd
 refine F.ok bC (fun vs H Q E h => ?_) (fun cdv A outer s H vs Q E hr h => ?_)
 ·obtain ⟨a, ps, rfl, _⟩ := h
  rfl
 obtain ⟨a, ps, rfl, R, hge, h40, q⟩ := h
 have hu := eO hr
 obtain ⟨us, ta, ru⟩ : ∃ us, Tp K H a us /\ Reps H (aD ps) us := by
  rcases R with R | ⟨rfl, R⟩
  ·obtain ⟨a', us, e, ha, ru⟩ := Rep.tup_inv R
   cases e
   exact ⟨us, .of ha, ru⟩
  ·exact ⟨[], R, by simp only [aD, List.map_nil, Reps]⟩
 have tm' : ∀ {H'}, ao H H' -> SqT K H' a us := fun s => (ta.tups fun _ _ e => s _ _ e).sq
 have lus : us.length = ps.length := by have := ru.length; rwa [aD, List.length_map] at this
 refine ⟨_, (@ah _ _ _ _ _ (@aB _ _ (1) _ _ _ _ nd rfl (Or.inl rfl) (@gR _ _) (by rfl) (by trivial)) (@ah _ _ _ _ _ (@bg _ _ _ _ _ _ _ _ PassesOwn.never rfl (@df _ _ _ _ (@pv _ 0 _ _ (by rfl) (by trivial) (by decide) (by decide))) (@bG _ _ _ _ _ _ rfl (@aE _ _ _ _ _ (@au _ _ (2) _ nd rfl (Or.inl rfl) (by trivial)) (@aE _ _ _ _ _ (@au _ _ (3) _ nd rfl (Or.inl rfl) (by trivial)) (@bp _) (by rfl)) (by rfl)) (by rfl) (by rfl)) (@ak _ _ _ (@fi _ _ _ _ _ _ _ _ _ hu (@pv _ 1 _ _ (by rfl) (by trivial) (by decide) (by decide)) (@pv _ 2 _ _ (by rfl) (by trivial) (by decide) (by decide)) (@aH _ _ _ _ _ _ _ _ bR (@gJ _ _ _ _ _ _ _ _ _ hu (@pv _ 1 _ _ (by rfl) (by trivial) (by decide) (by decide)) (@pv _ 2 _ _ (by rfl) (by trivial) (by decide) (by decide)) (@ai _ _ _ _) ⟨rfl, rfl, rfl, rfl⟩) (@pv _ 3 _ _ (by rfl) (by trivial) (by decide) (by decide))) rfl)) (by intro _; rfl)) (@ak _ _ _ (@aT _ _ _ _ (@aW _ _ _ _ _ _ _ _ _ aU rfl T.tuple (by decide +kernel) (@aa _ _ _ _ _ (@aS _ _ _ _ _ _ _ _ _ (eW rfl) rfl T.sorted (by decide +kernel) (@aa _ _ _ _ _ (@qM _ _ _ _ _ _ _ _ _ PySem.F.plainAttrs_dict PySem.F.slot_dict_items PySem.F.type_dict_items lB (@pv _ 1 _ _ (by rfl) (by trivial) (by decide) (by decide)) (by rfl) (by rfl)) (@af _) (by rfl)) (by decide) (by decide) (by rfl) (by rfl)) (@af _) (by rfl)) (by decide) (by decide) (by rfl) (by rfl)))))), ?_⟩
 intro d hd
 have s0 : ao H (upd H d (.dK [])) := ae hd _
 refine ⟨_, rfl, a, rfl, ⟨us, tm' s0⟩, cY (xs := us) (fun i σ H' => ∃ (kvs : List Pr) (o1 o2 : Option V), σ = [some (.ref a), some (.ref d), o1, o2] /\ ao H H' /\ H' d = some (.dK (dk kvs)) /\ (kvs.map (·.1)).Nodup /\ kvs.length <= i /\ (∀ p ∈ kvs, 1 <= p.2) /\ ∀ x, tm kvs x = bK (ps.take i) x)
  ⟨[], _, _, rfl, s0, ad, by simp, by simp, by simp, fun x => rfl⟩ (fun i σ H' _ ⟨_, _, _, _, s1, _⟩ => tm' s1) ?T1 ?_⟩
 case T1 =>
  rintro i x σ H1 hx ⟨kvs, o1, o2, rfl, s1, d1, ndk, hl, hall, ht⟩
  obtain ⟨p, b, hp, rfl, hb⟩ := gk ru hx
  have hi : i < us.length := (List.getElem?_eq_some_iff.mp hx).1
  refine ⟨b, _, rfl, SqT.of (s1 _ _ hb), rfl, _, _, rfl, _, _, rfl, rfl, ?_⟩
  refine ⟨_, rfl, d, rfl, .inl ⟨_, .inl d1⟩, _, rfl, _, mI.k (k := Sum.inr p.1) d1, _, rfl, tm kvs p.1, p.2, nX _ _, rfl, _, rfl, _, rfl, d, _, rfl, iY.k (k := Sum.inr p.1) d1 ?_, ?_⟩
  ·rw [show (dk kvs).length = kvs.length from List.length_map _, sizeLine_eq]; omega
  have hp1 := hge p (List.mem_of_getElem? hp)
  have h0 := fI (fun r hr' => Int.le_trans (by decide) (hall r hr')) p.1
  refine ⟨bi kvs p.1 (tm kvs p.1 + p.2), _, _, rfl, fun e o he => ?_, ?_, dR ndk, Nat.le_trans (eL _ _ _) (by omega), fg (R := fun r => 1 <= r.2) hall (by show 1 <= tm kvs p.1 + p.2; omega), fun x => ?_⟩
  ·rw [ap (ag he hd)]
   exact s1 _ _ he
  ·rw [ad, mV]
  ·rw [qu, pW hp, ht x]
   by_cases e : p.1 = x
   ·subst e; rw [if_pos rfl, if_pos rfl, ht p.1]
   ·rw [if_neg e, if_neg e]; omega
 rintro σ H1 ⟨kvs, o1, o2, rfl, s1, d1, ndk, hl, hall, ht⟩
 refine ⟨_, rfl, .inr (.inr (.inl ⟨rfl, .inl ⟨_, d1⟩⟩)), d, _, rfl, rfl, d1, fun v hv => ?_⟩
 refine ⟨v, d, kvs.map fun p => (p.1, V.int p.2), rfl, ad, ?_, ?_, fun H2 l qs s2 hl' hq hlst pq pw' => ?_⟩
 ·rw [ap (ag d1 hv), d1, List.map_map]; rfl
 ·rw [List.length_map]; omega
 refine ⟨l, _, rfl, .inl ⟨SqL.of hlst, fun t ht' => ?_⟩⟩
 have s12 : ao H1 H2 := (ae hv _).trans s2
 have s3 : ao H2 (upd H2 t (.tup (qs.map fun r => V.ref r.1))) := ae ht' _
 have shape : ∀ r ∈ qs, ∃ p ∈ kvs, r.2 = (p.1, [V.int p.2]) := fun r hr' => by
  have := pq.mem_iff.mp (List.mem_map_of_mem (f := (·.2)) hr')
  rw [List.map_map] at this
  obtain ⟨p, hp, e⟩ := List.mem_map.mp this
  exact ⟨p, hp, e.symm⟩
 have tk : ∀ r ∈ qs, r.2.1 = (tkV r).1 /\ r.2.2 = [V.int (tkV r).2] := fun r hr' => by
  obtain ⟨p, _, e⟩ := shape r hr'
  unfold tkV
  rw [e]
  exact ⟨rfl, rfl⟩
 have perm : (qs.map tkV).Perm kvs := by
  have e1 : qs.map tkV = (qs.map (·.2)).map fun z => (z.1, match z.2 with | [.int n] => n | _ => 0) := by
   rw [List.map_map]; rfl
  have e2 : kvs = ((kvs.map fun p => (p.1, V.int p.2)).map fun p => (p.1, [p.2])).map fun z => (z.1, match z.2 with | [.int n] => n | _ => 0) := by
   rw [List.map_map, List.map_map]
   exact (List.map_id kvs).symm
  rw [e1]
  rw [e2]
  exact pq.map _
 have can : ce (qs.map tkV) := ⟨List.pairwise_map.mpr (pw'.imp fun {x y} h => h), fun p hp => hall p (perm.mem_iff.mp hp)⟩
 have en : nf ps = qs.map tkV := rF can fun x => by rw [dZ can.pw perm x, ht x, lus, List.take_length]
 refine q _ t (s1.trans (s12.trans s3)) (.inl ?_)
 rw [en]
 simp only [Rep]
 refine ⟨t, _, rfl, ad, fC fun r hr' => ?_⟩
 have := (hq r hr').1
 rw [(tk r hr').1, (tk r hr').2] at this
 exact s3 _ _ this
theorem vx {f : Addr} {fd : FuncData} (F : Fun K "gathered" "gathered" aQ f fd) (T : Txt K mg) : bu P w K mg base CX0 1 f fd ["parts"] (oo K (Tp K)) := by
 have nd : (["parts", "total", "key", "times"] : List Str).Nodup := bC.nd
 refine F.ok bC (fun vs H Q E h => ?_) (fun cdv A outer s H vs Q E hr h => ?_)
 ·obtain ⟨a, us, m, rfl, _⟩ := h
  rfl
 obtain ⟨a, us, m, rfl, ta, R, hge, h40, q⟩ := h
 have hu64 := hr.units
 have hu2 : (A.deeper (PyProof.Rows.envOfC "gathered" (aj aQ) s.heap.objs.size f cdv)).units + 2 < cLine := by omega
 have hu10 : (A.deeper (PyProof.Rows.envOfC "gathered" (aj aQ) s.heap.objs.size f cdv)).units + 10 < cLine := by omega
 have tm' : ∀ {H'}, ao H H' -> SqT K H' a us := fun s => (ta.tups fun _ _ e => s _ _ e).sq
 have lus : us.length = m.length := (aP R).symm
 refine ⟨_, (@ah _ _ _ _ _ (@aB _ _ (1) _ _ _ _ nd rfl (Or.inl rfl) (@kD _ _) (by rfl) (by trivial)) (@ah _ _ _ _ _ (@bg _ _ _ _ _ _ _ _ PassesOwn.never rfl (@df _ _ _ _ (@pv _ 0 _ _ (by rfl) (by trivial) (by decide) (by decide))) (@bG _ _ _ _ _ _ rfl (@aE _ _ _ _ _ (@au _ _ (2) _ nd rfl (Or.inl rfl) (by trivial)) (@aE _ _ _ _ _ (@au _ _ (3) _ nd rfl (Or.inl rfl) (by trivial)) (@bp _) (by rfl)) (by rfl)) (by rfl) (by rfl)) (@ak _ _ _ (@lN _ _ _ _ _ _ _ _ _ hu2 (@pv _ 1 _ _ (by rfl) (by trivial) (by decide) (by decide)) (@pv _ 2 _ _ (by rfl) (by trivial) (by decide) (by decide)) (@aH _ _ _ _ _ _ _ _ bR (@iL _ _ _ _ _ _ _ _ _ hu2 (@pv _ 1 _ _ (by rfl) (by trivial) (by decide) (by decide)) (@pv _ 2 _ _ (by rfl) (by trivial) (by decide) (by decide)) (@ai _ _ _ _) ⟨rfl, rfl, rfl, rfl⟩) (@pv _ 3 _ _ (by rfl) (by trivial) (by decide) (by decide))) rfl)) (by intro _; rfl)) (@ak _ _ _ (@aT _ _ _ _ (@aW _ _ _ _ _ _ _ _ _ aU rfl T.tuple (by decide +kernel) (@aa _ _ _ _ _ (@aS _ _ _ _ _ _ _ _ _ (eZ rfl hu10) rfl T.sorted (by decide +kernel) (@aa _ _ _ _ _ (@iP _ _ _ _ _ (@pv _ 1 _ _ (by rfl) (by trivial) (by decide) (by decide)) (by rfl) (by rfl)) (@af _) (by rfl)) (by decide) (by decide) (by rfl) (by rfl)) (@af _) (by rfl)) (by decide) (by decide) (by rfl) (by rfl)))))), ?_⟩
 intro d H0 hd sd D0
 have s0 : ao H H0 := fun e o he => sd e o (ag he hd) he
 refine ⟨_, rfl, a, rfl, ⟨us, tm' s0⟩, cY (xs := us) (fun i σ H' => ∃ (mm : List PM) (o1 o2 : Option V), σ = [some (.ref a), some (.ref d), o1, o2] /\ ao H H' /\ Dp K P w H' d mm /\ mm.length <= i /\ (∀ p ∈ mm, 1 <= p.2) /\ ∀ g, sw g mm = sw g (m.take i))
  ⟨[], _, _, rfl, s0, D0, by simp, by simp, fun g => rfl⟩ (fun i σ H' _ ⟨_, _, _, _, s1, _⟩ => tm' s1) ?T1 ?_⟩
 case T1 =>
  rintro i x σ H1 hx ⟨mm, o1, o2, rfl, s1, d1, hl, hall, ht⟩
  obtain ⟨p, hp, c, b, rfl, tc, kb⟩ := br R hx
  have hi : i < us.length := (List.getElem?_eq_some_iff.mp hx).1
  have kb1 := kb.mono s1
  have ndm : (mm.map (·.1)).Nodup := by obtain ⟨_, _, _, _, h, _⟩ := d1; exact h
  refine ⟨c, _, rfl, (tc.tups fun _ _ e => s1 _ _ e).sq, rfl, _, _, rfl, _, _, rfl, rfl, ?_⟩
  refine ⟨_, rfl, d, _, rfl, d1, _, rfl, mm, p.1, b, 0, d1, rfl, kb1, rfl, _, rfl, _, p.2, rfl, rfl, _, rfl, _, rfl, d, mm, p.1, b, _, rfl, d1, rfl, kb1, rfl, by omega, fun H4 s4 D4 => ?_⟩
  have hp1 := hge p (List.mem_of_getElem? hp)
  have h0 := kI (fun r hr' => Int.le_trans (by decide) (hall r hr')) p.1
  refine ⟨di mm p.1 ((dh mm p.1).getD 0 + p.2), _, _, rfl, fun e o he => s4 e o (ag he hd) (s1 e o he), D4, Nat.le_trans gr (by omega), jY (R := fun r => 1 <= r.2) hall (by show 1 <= (dh mm p.1).getD 0 + p.2; omega), fun g => ?_⟩
  rw [mz g ndm, ht g, gg g hp]
 rintro σ H1 ⟨mm, o1, o2, rfl, s1, d1, hl, hall, ht⟩
 refine ⟨_, rfl, d, mm, rfl, d1, fun v hv => ?_⟩
 have s2 := ae hv (bj v d)
 refine ⟨v, d, mm, rfl, ad, oD s2 d1, fun H3 l ws m' s3 hl' hlst R3 pq pw' => ?_⟩
 refine ⟨l, _, rfl, .inl ⟨SqL.of hlst, fun t ht' => ?_⟩⟩
 have s4 : ao H3 (upd H3 t (.tup ws)) := ae ht' _
 rw [lus, List.take_length] at ht
 exact q _ (.ref t) m' (s1.trans (s2.trans (s3.trans s4))) ⟨t, ws, rfl, ad, cn (fun _ _ e => s4 _ _ e) R3⟩ pw' (fun p hp => hall p (pq.mem_iff.mp hp)) (fun g => by rw [gh g pq, ht g])
theorem vE {f : Addr} {fd : FuncData} (F : Fun K "gathered" "gathered" aQ f fd) (T : Txt K mg) : bu P w K mg base CX0 1 f fd ["parts"] (oo K isL) := by
 have nd : (["parts", "total", "key", "times"] : List Str).Nodup := bC.nd
 refine F.ok bC (fun vs H Q E h => ?_) (fun cdv A outer s H vs Q E hr h => ?_)
 ·obtain ⟨a, us, m, rfl, _⟩ := h
  rfl
 obtain ⟨a, us, m, rfl, ta, R, hge, h40, q⟩ := h
 have hu64 := hr.units
 have hu2 : (A.deeper (PyProof.Rows.envOfC "gathered" (aj aQ) s.heap.objs.size f cdv)).units + 2 < cLine := by omega
 have hu10 : (A.deeper (PyProof.Rows.envOfC "gathered" (aj aQ) s.heap.objs.size f cdv)).units + 10 < cLine := by omega
 have tm' : ∀ {H'}, ao H H' -> SqL K H' a us := fun s => SqL.of (s _ _ ta)
 have lus : us.length = m.length := (aP R).symm
 refine ⟨_, (@ah _ _ _ _ _ (@aB _ _ (1) _ _ _ _ nd rfl (Or.inl rfl) (@kD _ _) (by rfl) (by trivial)) (@ah _ _ _ _ _ (@bg _ _ _ _ _ _ _ _ PassesOwn.never rfl (@eN _ _ _ _ (@pv _ 0 _ _ (by rfl) (by trivial) (by decide) (by decide))) (@bG _ _ _ _ _ _ rfl (@aE _ _ _ _ _ (@au _ _ (2) _ nd rfl (Or.inl rfl) (by trivial)) (@aE _ _ _ _ _ (@au _ _ (3) _ nd rfl (Or.inl rfl) (by trivial)) (@bp _) (by rfl)) (by rfl)) (by rfl) (by rfl)) (@ak _ _ _ (@lN _ _ _ _ _ _ _ _ _ hu2 (@pv _ 1 _ _ (by rfl) (by trivial) (by decide) (by decide)) (@pv _ 2 _ _ (by rfl) (by trivial) (by decide) (by decide)) (@aH _ _ _ _ _ _ _ _ bR (@iL _ _ _ _ _ _ _ _ _ hu2 (@pv _ 1 _ _ (by rfl) (by trivial) (by decide) (by decide)) (@pv _ 2 _ _ (by rfl) (by trivial) (by decide) (by decide)) (@ai _ _ _ _) ⟨rfl, rfl, rfl, rfl⟩) (@pv _ 3 _ _ (by rfl) (by trivial) (by decide) (by decide))) rfl)) (by intro _; rfl)) (@ak _ _ _ (@aT _ _ _ _ (@aW _ _ _ _ _ _ _ _ _ aU rfl T.tuple (by decide +kernel) (@aa _ _ _ _ _ (@aS _ _ _ _ _ _ _ _ _ (eZ rfl hu10) rfl T.sorted (by decide +kernel) (@aa _ _ _ _ _ (@iP _ _ _ _ _ (@pv _ 1 _ _ (by rfl) (by trivial) (by decide) (by decide)) (by rfl) (by rfl)) (@af _) (by rfl)) (by decide) (by decide) (by rfl) (by rfl)) (@af _) (by rfl)) (by decide) (by decide) (by rfl) (by rfl)))))), ?_⟩
 intro d H0 hd sd D0
 have s0 : ao H H0 := fun e o he => sd e o (ag he hd) he
 refine ⟨_, rfl, a, rfl, ⟨us, tm' s0⟩, dq (xs := us) (fun i σ H' => ∃ (mm : List PM) (o1 o2 : Option V), σ = [some (.ref a), some (.ref d), o1, o2] /\ ao H H' /\ Dp K P w H' d mm /\ mm.length <= i /\ (∀ p ∈ mm, 1 <= p.2) /\ ∀ g, sw g mm = sw g (m.take i))
  ⟨[], _, _, rfl, s0, D0, by simp, by simp, fun g => rfl⟩ (fun i σ H' _ ⟨_, _, _, _, s1, _⟩ => tm' s1) ?T1 ?_⟩
 case T1 =>
  rintro i x σ H1 hx ⟨mm, o1, o2, rfl, s1, d1, hl, hall, ht⟩
  obtain ⟨p, hp, c, b, rfl, tc, kb⟩ := br R hx
  have hi : i < us.length := (List.getElem?_eq_some_iff.mp hx).1
  have kb1 := kb.mono s1
  have ndm : (mm.map (·.1)).Nodup := by obtain ⟨_, _, _, _, h, _⟩ := d1; exact h
  refine ⟨c, _, rfl, (tc.tups fun _ _ e => s1 _ _ e).sq, rfl, _, _, rfl, _, _, rfl, rfl, ?_⟩
  refine ⟨_, rfl, d, _, rfl, d1, _, rfl, mm, p.1, b, 0, d1, rfl, kb1, rfl, _, rfl, _, p.2, rfl, rfl, _, rfl, _, rfl, d, mm, p.1, b, _, rfl, d1, rfl, kb1, rfl, by omega, fun H4 s4 D4 => ?_⟩
  have hp1 := hge p (List.mem_of_getElem? hp)
  have h0 := kI (fun r hr' => Int.le_trans (by decide) (hall r hr')) p.1
  refine ⟨di mm p.1 ((dh mm p.1).getD 0 + p.2), _, _, rfl, fun e o he => s4 e o (ag he hd) (s1 e o he), D4, Nat.le_trans gr (by omega), jY (R := fun r => 1 <= r.2) hall (by show 1 <= (dh mm p.1).getD 0 + p.2; omega), fun g => ?_⟩
  rw [mz g ndm, ht g, gg g hp]
 rintro σ H1 ⟨mm, o1, o2, rfl, s1, d1, hl, hall, ht⟩
 refine ⟨_, rfl, d, mm, rfl, d1, fun v hv => ?_⟩
 have s2 := ae hv (bj v d)
 refine ⟨v, d, mm, rfl, ad, oD s2 d1, fun H3 l ws m' s3 hl' hlst R3 pq pw' => ?_⟩
 refine ⟨l, _, rfl, .inl ⟨SqL.of hlst, fun t ht' => ?_⟩⟩
 have s4 : ao H3 (upd H3 t (.tup ws)) := ae ht' _
 rw [lus, List.take_length] at ht
 exact q _ (.ref t) m' (s1.trans (s2.trans (s3.trans s4))) ⟨t, ws, rfl, ad, cn (fun _ _ e => s4 _ _ e) R3⟩ pw' (fun p hp => hall p (pq.mem_iff.mp hp)) (fun g => by rw [gh g pq, ht g])
end
abbrev bE : Stmt := top 3
abbrev bP : Stmt := top 4
abbrev ck : Stmt := top 5
def oU (K : PySem.W.Frag) : Sp := fun vs H Q E => qv K vs H Q E \/ oo K isL vs H Q E \/ oo K (Tp K) vs H Q E
theorem cx {α β : Type} {R : α -> β -> Prop} {x : α} {y : β} (r : R x y) : ∀ {xs : List α} {ys : List β}, Paired R xs ys -> Paired R (xs ++ [x]) (ys ++ [y])
 | _, _, .nil => .cons r .nil
 | _, _, .cons q t => .cons q (cx r t)
theorem cH {α β : Type} {R : α -> β -> Prop} {xs' : List α} {ys' : List β} (r : Paired R xs' ys') : ∀ {xs : List α} {ys : List β}, Paired R xs ys -> Paired R (xs ++ xs') (ys ++ ys')
 | _, _, .nil => r
 | _, _, .cons q t => .cons q (cH r t)
theorem dl {K : PySem.W.Frag} {H H' : Hp} (s : ao H H') {m : List PM} {us : List V} (h : Paired (TmR K H) m us) : Paired (TmR K H') m us := cn (fun _ _ e => s _ _ e) h
def jW (g : List Pr -> Int) (c : Int) : List Pr -> Int
 | [] => c * g []
 | p :: ps => p.2 * g [(p.1, 1)] + jW g c ps
def ia (ps : List Pr) : List PM := ps.map fun p => ([(p.1, 1)], p.2)
theorem jc (g : List Pr -> Int) (c : Int) : ∀ ps, sw g (ia ps) + c * g [] = jW g c ps
 | [] => by show 0 + _ = _; rw [Int.zero_add]; rfl
 | p :: ps => by
  have := jc g c ps
  show p.2 * g [(p.1, 1)] + sw g (ia ps) + c * g [] = p.2 * g [(p.1, 1)] + jW g c ps
  omega
theorem nV {t1 t2 : TS} {D : eE} {σ : St} {H : Hp} (M : St -> Hp -> Prop) (h2 : ∀ σ' H', M σ' H' -> t2 D σ' H') (f : ∀ N : St -> Hp -> Prop, (∀ σ' H', M σ' H' -> N σ' H') -> t1 { D with nx := N } σ H) : vV t1 t2 D σ H := f (t2 D) h2
def ju (K : PySem.W.Frag) : Sp := fun vs H Q _ => ∃ (v : V) (c : Int) (ps : List Pr), vs = [v] /\ Rep H (iu c ps) v /\ 0 <= c /\ (∀ p ∈ ps, 1 <= p.2) /\ ps.length <= 10 /\
 ∀ (H' : Hp) (u : V) (m : List PM), ao H H' -> SmT K H' m u -> Up m -> (∀ p ∈ m, 1 <= p.2) -> (∀ g, sw g m = jW g c ps) -> Q u H'
def qU (K : PySem.W.Frag) : Sp := fun vs H Q _ => ∃ (u v : V) (m1 m2 : List PM), vs = [u, v] /\ SmT K H m1 u /\ SmT K H m2 v /\ (∀ p ∈ m1, 1 <= p.2) /\ (∀ p ∈ m2, 1 <= p.2) /\ m1.length + m2.length <= 80000 /\
 ∀ (H' : Hp) (x : V) (m : List PM), ao H H' -> SmT K H' m x -> Up m -> (∀ p ∈ m, 1 <= p.2) -> (∀ g, sw g m = sw g m1 + sw g m2) -> Q x H'
structure POk (p : PM) : Prop where
 lo : 1 <= p.2
 hi : p.2 <= 10 ^ 40
 len : p.1.length <= 20
 pos : ∀ r ∈ p.1, 1 <= r.2
def mR (K : PySem.W.Frag) : Sp := fun vs H Q _ => ∃ (u v : V) (m1 m2 : List PM), vs = [u, v] /\ SmT K H m1 u /\ SmT K H m2 v /\ (∀ p ∈ m1, POk p) /\ (∀ p ∈ m2, POk p) /\ m1.length * m2.length <= 80000 /\
 ∀ (H' : Hp) (x : V) (m : List PM), ao H H' -> SmT K H' m x -> Up m -> (∀ p ∈ m, 1 <= p.2) -> (∀ g, sw g m = sw (fun a => sw (fun b => g (nf (a ++ b))) m2) m1) -> Q x H'
section
variable {P : Program} {w : World} {K : PySem.W.Frag} {mg : Str -> Option Value} {base : Heap}
theorem wg {f : Addr} {fd : FuncData} (F : Fun K "gathered" "gathered" aQ f fd) (T : Txt K mg) : bu P w K mg base CX0 1 f fd ["parts"] (oU K) := by
 have o1 := vh (P := P) (w := w) (base := base) F T
 have o2 := vE (P := P) (w := w) (base := base) F T
 have o3 := vx (P := P) (w := w) (base := base) F T
 refine ⟨fun vs H Q E h => ?_, fun A outer s H args us vs Q E hr he hb hv h => ?_⟩
 ·rcases h with h | h | h
  ·exact o1.1 vs H Q E h
  ·exact o2.1 vs H Q E h
  ·exact o3.1 vs H Q E h
 ·rcases h with h | h | h
  ·exact o1.2 A outer s H args us vs Q E hr he hb hv h
  ·exact o2.2 A outer s H args us vs Q E hr he hb hv h
  ·exact o3.2 A outer s H args us vs Q E hr he hb hv h
theorem eM : aR ["a", "terms"] ["a"] (aj bE) := ⟨rfl, rfl, rfl, by decide +kernel, rfl, by decide +kernel, by decide +kernel⟩
theorem jN {f : Addr} {fd : FuncData} {k0 : Nat} (F : Fun K "of_length" "of_length" bE f fd) (T : Txt K mg) (Dgathered : Def P w K mg base k0 "gathered" ["parts"] (oU K)) : bu P w K mg base CX0 (k0 + 1) f fd ["a"] (ju K) := by
 have nd : (["a", "terms"] : List Str).Nodup := eM.nd
 refine F.ok eM (fun vs H Q E h => ?_) (fun cdv A outer s H vs Q E hr h => ?_)
 ·obtain ⟨v, c, ps, rfl, _⟩ := h
  rfl
 obtain ⟨v, c, ps, rfl, R, c0, hge, l3, q⟩ := h
 obtain ⟨a, a1, us, rfl, ha, ha1, ru, lu⟩ := nH R
 refine ⟨_, (@ah _ _ _ _ _ (@vS _ _ (["name", "times"]) ([]) _ _ _ _ _ _ _ _ _ _ _ (1) _ nd rfl rfl (@df _ _ _ _ (@bd _ _ _ _ _ _ _ gt (@pv _ 0 _ _ (by rfl) (by trivial) (by decide) (by decide)) (@ai _ _ _ _) (fun _ _ => rfl))) (.of rfl) rfl (fun _ _ _ => bG rfl (@aE _ _ _ _ _ (@au _ _ (0) _ (kO (l := ["name", "times"]) ((by decide +kernel)) rfl) rfl (Or.inl rfl) (by trivial)) (@aE _ _ _ _ _ (@au _ _ (1) _ (kO (l := ["name", "times"]) ((by decide +kernel)) rfl) rfl (Or.inl rfl) (by trivial)) (@bp _) (by rfl)) (by rfl))) (rD (by decide) (by decide)) (fun _ _ _ => (@jM _)) (fun _ _ _ => (@bX _ _ _ _ _ (@aa _ _ _ _ _ (@bX _ _ _ _ _ (@aa _ _ _ _ _ (@bX _ _ _ _ _ (@aa _ _ _ _ _ (@pv _ 0 _ _ (by rfl) (by trivial) (by decide) (by decide)) (@aa _ _ _ _ _ (@ai _ _ _ _) (@af _) (by rfl)) (by rfl))) (@af _) (by rfl))) (@aa _ _ _ _ _ (@pv _ 1 _ _ (by rfl) (by trivial) (by decide) (by decide)) (@af _) (by rfl)) (by rfl)))) (by rfl) (by intro _; rfl)) (@ah _ _ _ _ _ (@cD _ _ _ _ _ _ _ _ (@bA _ _ _ _ _ _ _ _ kw (@bd _ _ _ _ _ _ _ gt (@pv _ 0 _ _ (by rfl) (by trivial) (by decide) (by decide)) (@ai _ _ _ _) (fun _ _ => rfl)) (@ai _ _ _ _) (bI _)) (@ak _ _ _ (@cA _ _ _ _ (@lD _ _ _ _ _ _ _ _ _ _ _ _ PySem.F.plainAttrs_list PySem.F.slot_list_append PySem.F.type_list_append cT (@pv _ 1 _ _ (by rfl) (by trivial) (by decide) (by decide)) (@aa _ _ _ _ _ (@bX _ _ _ _ _ (@aa _ _ _ _ _ (@bX _ _ _ _ _ (@af _)) (@aa _ _ _ _ _ (@bd _ _ _ _ _ _ _ gt (@pv _ 0 _ _ (by rfl) (by trivial) (by decide) (by decide)) (@ai _ _ _ _) (fun _ _ => rfl)) (@af _) (by rfl)) (by rfl))) (@af _) (by rfl)) (by rfl) (by rfl) (by rfl) (by rfl) (by rfl)) (by rfl))) (@bo _)) (@ak _ _ _ (@aT _ _ _ _ (@av _ _ _ _ _ _ _ _ _ _ Dgathered hr rfl (@aa _ _ _ _ _ (@pv _ 1 _ _ (by rfl) (by trivial) (by decide) (by decide)) (@af _) (by rfl)) (by decide) (by rfl) (by rfl)))))), ?_⟩
 refine ⟨_, rfl, a, _, 1, .ref a1, rfl, rfl, SqT.of ha, aq (j := 1) rfl, a1, rfl, ⟨us, SqT.of ha1⟩, ?_⟩
 refine qp (xs := us) (fun i ys H' => ao H H' /\ Paired (TmR K H') (ia (ps.take i)) ys) ⟨ao.refl _, .nil⟩ (fun i ys H' _ p => SqT.of (p.1 _ _ ha1)) ?_ ?_
 ·rintro i ys H1 x hx ⟨s1, R1⟩
  obtain ⟨p, b, hp, rfl, hb⟩ := gk ru hx
  have hi : i < us.length := (List.getElem?_eq_some_iff.mp hx).1
  have ly : ys.length = i := by rw [<- aP R1, ia, List.length_map, List.length_take]; omega
  refine pY (s1 _ _ hb) ⟨_, rfl, z2, fun p1 hp1 => ⟨z1, fun p2 hp2 => ⟨_, rfl, z2, fun p3 hp3 => ⟨by rw [ly, sizeLine_eq]; omega, ?_, ?_⟩⟩⟩⟩
  all_goals have s2 := ae hp1 (.tup [.str p.1, .int 1])
  all_goals have s3 := ae hp2 (.tup [.ref p1])
  all_goals have s4 := ae hp3 (.tup [.ref p2, .int p.2])
  ·exact s1.trans (s2.trans (s3.trans s4))
  ·rw [List.take_add_one, hp, ia, List.map_append]
   refine cx ⟨p3, p2, rfl, .of ad, .inl ?_⟩ (dl (s2.trans (s3.trans s4)) R1)
   simp only [aD, List.map_cons, List.map_nil, Rep, Reps]
   exact ⟨p2, _, rfl, s4 _ _ ad, _, _, rfl, ⟨p1, _, rfl, s4 _ _ (s3 _ _ ad), _, _, rfl, rfl, _, _, rfl, rfl, rfl⟩, rfl⟩
 ·rintro ys H1 ⟨s1, R1⟩ l hl
  rw [lu, List.take_length] at R1
  have s2 := ae hl (.lst ys)
  have ly : ys.length = ps.length := by rw [<- aP R1, ia, List.length_map]
  have kl : ∀ p ∈ ia ps, 1 <= p.2 := fun p hp => by
   obtain ⟨r, hr, rfl⟩ := List.mem_map.mp hp
   exact hge r hr
  refine gnm ?_
  dsimp only
  refine nV (fun σ H' => ∃ (ws : List V) (m : List PM), σ = [some (.ref a), some (.ref l)] /\ ao H H' /\ H' l = some (.lst ws) /\ Paired (TmR K H') m ws /\ (∀ p ∈ m, 1 <= p.2) /\ m.length <= 11 /\ ∀ g, sw g m = jW g c ps) ?_ (fun N hN => ?_)
  ·rintro σ H2 ⟨ws, m, rfl, s3, h3, R3, k3, l4, e3⟩
   exact ⟨_, rfl, .inr (.inl ⟨l, ws, m, rfl, h3, R3, k3, by omega, fun H3 u m' s4 R4 u4 k4 e4 => q H3 u m' (s3.trans s4) R4 u4 k4 (fun g => by rw [e4, e3])⟩)⟩
  ·refine ⟨_, rfl, a, _, 0, .int c, rfl, rfl, SqT.of (s2 _ _ (s1 _ _ ha)), aq (j := 0) rfl, _, _, rfl, rfl, _, rfl, hW (fun h0 => ?_) (fun h => ?_)⟩
   ·refine ⟨_, rfl, .inl ⟨rfl, _, SqL.of ad⟩, Nat.zero_le _, fun p1 hp1 => ⟨_, rfl, a, _, 0, .int c, rfl, rfl, SqT.of (ae hp1 _ _ _ (s2 _ _ (s1 _ _ ha))), aq (j := 0) rfl, z2, fun p2 hp2 => ?_⟩⟩
    have s3 := ae hp1 (.tup [])
    have s4 := ae hp2 (.tup [.ref p1, .int c])
    refine ⟨l, _, _, rfl, rfl, s4 _ _ (s3 _ _ ad), by rw [sizeLine_eq]; omega, ?_⟩
    have s5 := aA.upd (upd (upd (upd H1 l (.lst ys)) p1 (.tup [])) p2 (.tup [.ref p1, .int c])) l (.lst (ys ++ [.ref p2]))
    have t5 := s5.tups (s4 _ _ (s3 _ _ ad))
    have t6 : eJ H1 _ := (ao.tups (s2.trans (s3.trans s4))).trans t5
    have rk : bT K (upd (upd (upd (upd H1 l (.lst ys)) p1 (.tup [])) p2 (.tup [.ref p1, .int c])) l (.lst (ys ++ [.ref p2]))) ([] : List Pr) p1 := .inl (by
     simp only [aD, List.map_nil, Rep, Reps]
     exact ⟨p1, _, rfl, t5 _ _ (s4 _ _ ad), rfl⟩)
    refine hN _ _ ⟨_, ia ps ++ [([], c)], rfl, fun e o he => s5 e o (ag (s1 _ _ he) hl) (s4 _ _ (s3 _ _ (s2 _ _ (s1 _ _ he)))), ad, cx ⟨p2, p1, rfl, .of (t5 _ _ ad), rk⟩ (cn t6 R1), fun p hp => ?_, by rw [List.length_append, ia, List.length_map]; simp; omega, fun g => ?_⟩
    ·rcases List.mem_append.mp hp with h | h
     ·exact kl p h
     ·rw [List.mem_singleton.mp h]
      have : c > 0 := of_decide_eq_true h0
      show 1 <= c
      omega
    ·rw [cQ, <- jc]
     show _ + (c * g [] + 0) = _
     omega
   ·have cz : c = 0 := by have : ¬ c > 0 := fun z => h (decide_eq_true z); omega
    refine tnx (hN _ _ ⟨ys, ia ps, rfl, s1.trans s2, ad, dl s2 R1, kl, by rw [ia, List.length_map]; omega, fun g => ?_⟩)
    have := jc g c ps
    rw [<- this, cz]
    omega
theorem kX : aR ["s", "t"] ["s", "t"] (aj bP) := ⟨rfl, rfl, rfl, by decide +kernel, rfl, by decide +kernel, by decide +kernel⟩
theorem kB {f : Addr} {fd : FuncData} {k0 : Nat} (F : Fun K "together" "together" bP f fd) (T : Txt K mg) (Dgathered : Def P w K mg base k0 "gathered" ["parts"] (oU K)) : bu P w K mg base CX0 (k0 + 1) f fd ["s", "t"] (qU K) := by
 refine F.ok kX (fun vs H Q E h => ?_) (fun cdv A outer s H vs Q E hr h => ?_)
 ·obtain ⟨u, v, m1, m2, rfl, _⟩ := h
  rfl
 obtain ⟨u, v, m1, m2, rfl, ⟨a, us, rfl, ta', R1⟩, ⟨b, ws, rfl, tb', R2⟩, k1, k2, l12, q⟩ := h
 have ta : Tp K H a us := .of ta'
 have tb : Tp K H b ws := .of tb'
 refine ⟨_, (@ak _ _ _ (@aT _ _ _ _ (@av _ _ _ _ _ _ _ _ _ _ Dgathered hr rfl (@aa _ _ _ _ _ (@aH _ _ _ _ _ _ _ _ jg (@pv _ 0 _ _ (by rfl) (by trivial) (by decide) (by decide)) (@pv _ 1 _ _ (by rfl) (by trivial) (by decide) (by decide))) (@af _) (by rfl)) (by decide) (by rfl) (by rfl)))), ?_⟩
 have lu := aP R1
 have lw := aP R2
 have fin : ∀ (H1 : Hp) (c : Addr) (zs : List V) (m : List PM), ao H H1 -> Tp K H1 c zs -> Paired (TmR K H1) m zs -> m = m1 ++ m2 -> oU K [.ref c] H1 Q E0 := fun H1 c zs m s1 tc Rc e => by
  subst e
  refine .inr (.inr ⟨c, zs, m1 ++ m2, rfl, tc, Rc, fun p hp => ?_, by rw [List.length_append]; exact l12, fun H2 x m s2 Rx ux kx ex => q H2 x m (s1.trans s2) Rx ux kx (fun g => by rw [ex, cQ])⟩)
  rcases List.mem_append.mp hp with h | h
  ·exact k1 p h
  ·exact k2 p h
 refine ⟨_, rfl, _, rfl, a, b, us, ws, rfl, rfl, ta.sq, tb.sq, by rw [<- lu, <- lw, sizeLine_eq]; omega, fun e => ?_, fun e => ?_, fun p hp => ?_⟩
 ·have e1 : m1 = [] := List.eq_nil_of_length_eq_zero (by rw [lu, e]; rfl)
  exact fin H b ws m2 (ao.refl _) tb R2 (by rw [e1]; rfl)
 ·have e1 : m2 = [] := List.eq_nil_of_length_eq_zero (by rw [lw, e]; rfl)
  exact fin H a us m1 (ao.refl _) ta R1 (by rw [e1, List.append_nil])
 ·have s1 := ae hp (.tup (us ++ ws))
  exact fin _ p _ (m1 ++ m2) s1 (.of ad) (cH (dl s1 R2) (dl s1 R1)) rfl
end
theorem vL {p r : PM} (h1 : POk p) (h2 : POk r) : IntMulOk p.2 r.2 := by
 obtain ⟨a1, a2, _, _⟩ := h1
 obtain ⟨b1, b2, _, _⟩ := h2
 exact nr (by omega) (by omega) (by omega) (by omega)
theorem ug (g : List Pr -> Int) {m1 m2 : List PM} {i : Nat} {p : PM} (h : m1[i]? = some p) : sw (fun a => sw (fun b => g (nf (a ++ b))) m2) (m1.take (i + 1)) = sw (fun a => sw (fun b => g (nf (a ++ b))) m2) (m1.take i) + p.2 * sw (fun b => g (nf (p.1 ++ b))) m2 := gg _ h
section
variable {P : Program} {w : World} {K : PySem.W.Frag} {mg : Str -> Option Value} {base : Heap}
theorem gN : aR ["s", "t", "terms", "powers", "times", "others", "more"] ["s", "t"] (aj ck) := ⟨rfl, rfl, rfl, by decide +kernel, rfl, by decide +kernel, by decide +kernel⟩
theorem mU {f : Addr} {fd : FuncData} {k0 : Nat} (F : Fun K "product" "product" ck f fd) (T : Txt K mg) (Dgathered : Def P w K mg base k0 "gathered" ["parts"] (oU K)) : bu P w K mg base CX0 (k0 + 1) f fd ["s", "t"] (mR K) := by
 have nd : (["s", "t", "terms", "powers", "times", "others", "more"] : List Str).Nodup := gN.nd
 refine F.ok gN (fun vs H Q E h => ?_) (fun cdv A outer s H vs Q E hr h => ?_)
 ·obtain ⟨u, v, m1, m2, rfl, _⟩ := h
  rfl
 obtain ⟨u, v, m1, m2, rfl, ⟨a, us, rfl, ta', R1⟩, ⟨b, ws, rfl, tb', R2⟩, k1, k2, l12, q⟩ := h
 have ta : Tp K H a us := .of ta'
 have tb : Tp K H b ws := .of tb'
 have lu := aP R1
 have lw := aP R2
 refine ⟨_, (@ah _ _ _ _ _ (@aB _ _ (2) _ _ _ _ nd rfl (Or.inl rfl) (@bQ _ _ _ _ (@af _)) (by rfl) (by trivial)) (@ah _ _ _ _ _ (@bg _ _ _ _ _ _ _ _ PassesOwn.never rfl (@df _ _ _ _ (@pv _ 0 _ _ (by rfl) (by trivial) (by decide) (by decide))) (@bG _ _ _ _ _ _ rfl (@aE _ _ _ _ _ (@au _ _ (3) _ nd rfl (Or.inl rfl) (by trivial)) (@aE _ _ _ _ _ (@au _ _ (4) _ nd rfl (Or.inl rfl) (by trivial)) (@bp _) (by rfl)) (by rfl)) (by rfl) (by rfl)) (@ak _ _ _ (@bg _ _ _ _ _ _ _ _ PassesOwn.never rfl (@df _ _ _ _ (@pv _ 1 _ _ (by rfl) (by trivial) (by decide) (by decide))) (@bG _ _ _ _ _ _ rfl (@aE _ _ _ _ _ (@au _ _ (5) _ nd rfl (Or.inl rfl) (by trivial)) (@aE _ _ _ _ _ (@au _ _ (6) _ nd rfl (Or.inl rfl) (by trivial)) (@bp _) (by rfl)) (by rfl)) (by rfl) (by rfl)) (@ak _ _ _ (@cA _ _ _ _ (@lD _ _ _ _ _ _ _ _ _ _ _ _ PySem.F.plainAttrs_list PySem.F.slot_list_append PySem.F.type_list_append cT (@pv _ 2 _ _ (by rfl) (by trivial) (by decide) (by decide)) (@aa _ _ _ _ _ (@bX _ _ _ _ _ (@aa _ _ _ _ _ (@av _ _ _ _ _ _ _ _ _ _ Dgathered hr rfl (@aa _ _ _ _ _ (@aH _ _ _ _ _ _ _ _ jg (@pv _ 3 _ _ (by rfl) (by trivial) (by decide) (by decide)) (@pv _ 5 _ _ (by rfl) (by trivial) (by decide) (by decide))) (@af _) (by rfl)) (by decide) (by rfl) (by rfl)) (@aa _ _ _ _ _ (@aH _ _ _ _ _ _ _ _ oj (@pv _ 4 _ _ (by rfl) (by trivial) (by decide) (by decide)) (@pv _ 6 _ _ (by rfl) (by trivial) (by decide) (by decide))) (@af _) (by rfl)) (by rfl))) (@af _) (by rfl)) (by rfl) (by rfl) (by rfl) (by rfl) (by rfl)) (by rfl))) (by intro _; rfl))) (by intro _; rfl)) (@ak _ _ _ (@aT _ _ _ _ (@av _ _ _ _ _ _ _ _ _ _ Dgathered hr rfl (@aa _ _ _ _ _ (@pv _ 2 _ _ (by rfl) (by trivial) (by decide) (by decide)) (@af _) (by rfl)) (by decide) (by rfl) (by rfl)))))), ?_⟩
 refine ⟨Nat.zero_le _, fun L hL => ?_⟩
 have q0 := ae hL (.lst [])
 have up : ∀ {H'}, ao H H' -> eJ H H' := fun s => ao.tups s
 have Inv0 : (fun (i : Nat) (S : (List Pr -> Int) -> Int) (H' : Hp) => ∃ (zs : List V) (m : List PM), ao H H' /\ H' L = some (.lst zs) /\ Paired (TmR K H') m zs /\ (∀ p ∈ m, 1 <= p.2) /\ m.length = i /\ ∀ g, sw g m = S g) 0 (fun _ => 0) (upd H L (.lst [])) := ⟨[], [], q0, ad, .nil, by simp, rfl, fun g => rfl⟩
 generalize hI : (fun (i : Nat) (S : (List Pr -> Int) -> Int) (H' : Hp) => ∃ (zs : List V) (m : List PM), ao H H' /\ H' L = some (.lst zs) /\ Paired (TmR K H') m zs /\ (∀ p ∈ m, 1 <= p.2) /\ m.length = i /\ ∀ g, sw g m = S g) = Iv at Inv0
 have Is : ∀ {i S H'}, Iv i S H' -> ao H H' := fun h => by rw [<- hI] at h; obtain ⟨_, _, s, _⟩ := h; exact s
 refine ⟨_, rfl, a, rfl, ⟨us, (ta.tups (up q0)).sq⟩, cY (xs := us) (fun i σ H' => ∃ (o3 o4 o5 o6 : Option V), σ = [some (.ref a), some (.ref b), some (.ref L), o3, o4, o5, o6] /\ Iv (i * m2.length) (fun g => sw (fun a => sw (fun b => g (nf (a ++ b))) m2) (m1.take i)) H') ⟨_, _, _, _, rfl, ?_⟩ (fun i σ H' _ ⟨_, _, _, _, _, h⟩ => (ta.tups (up (Is h))).sq) ?_ ?_⟩
 ·rw [Nat.zero_mul]
  rw [<- hI]
  exact Inv0
 ·rintro i x σ H1 hx ⟨o3, o4, o5, o6, rfl, v1⟩
  obtain ⟨p, hp, c, kp, rfl, tc, kr⟩ := br R1 hx
  have hi : i < m1.length := by rw [lu]; exact (List.getElem?_eq_some_iff.mp hx).1
  have s1 := Is v1
  refine ⟨c, _, rfl, (tc.tups (up s1)).sq, rfl, _, _, rfl, _, _, rfl, rfl, ?_⟩
  refine ⟨_, rfl, b, rfl, ⟨ws, (tb.tups (up s1)).sq⟩, cY (xs := ws) (fun j σ H' => ∃ (o5 o6 : Option V), σ = [some (.ref a), some (.ref b), some (.ref L), some (.ref kp), some (.int p.2), o5, o6] /\ Iv (i * m2.length + j) (fun g => sw (fun a => sw (fun b => g (nf (a ++ b))) m2) (m1.take i) + p.2 * sw (fun b => g (nf (p.1 ++ b))) (m2.take j)) H') ⟨_, _, rfl, ?_⟩ (fun j σ H' _ ⟨_, _, _, h⟩ => (tb.tups (up (Is h))).sq) ?_ ?_⟩
  ·have : (fun (g : List Pr -> Int) => sw (fun a => sw (fun b => g (nf (a ++ b))) m2) (m1.take i) + p.2 * sw (fun b => g (nf (p.1 ++ b))) (m2.take 0)) = fun (g : List Pr -> Int) => sw (fun a => sw (fun b => g (nf (a ++ b))) m2) (m1.take i) := funext fun g => by
    rw [List.take_zero]
    show _ + _ * 0 = _
    rw [Int.mul_zero, Int.add_zero]
   rw [this]; exact v1
  ·rintro j y σ H2 hy ⟨o5, o6, rfl, v2⟩
   obtain ⟨r, hr', c2, kq, rfl, tc2, kr2⟩ := br R2 hy
   have hj : j < m2.length := by rw [lw]; exact (List.getElem?_eq_some_iff.mp hy).1
   have s2 := Is v2
   have kp1 := k1 p (List.mem_of_getElem? hp)
   have kr1 := k2 r (List.mem_of_getElem? hr')
   obtain ⟨xs, tx, rx⟩ := bT.tup (kr.mono s2)
   obtain ⟨ys, ty, ry⟩ := bT.tup (kr2.mono s2)
   have lx : xs.length = p.1.length := by have := rx.length; rwa [aD, List.length_map] at this
   have lys : ys.length = r.1.length := by have := ry.length; rwa [aD, List.length_map] at this
   have b1 := kp1.len
   have b2 := kr1.len
   have ij : i * m2.length + j < 80000 := by
    have : i * m2.length + m2.length <= m1.length * m2.length := by
     rw [<- Nat.succ_mul]; exact Nat.mul_le_mul_right _ hi
    omega
   refine ⟨c2, _, rfl, (tc2.tups (up s2)).sq, rfl, _, _, rfl, _, _, rfl, rfl, ?_⟩
   rw [<- hI] at v2
   obtain ⟨zs, m, s2', hLz, Rz, kz, lz, ez⟩ := v2
   have lzs := aP Rz
   refine ⟨_, rfl, .inl ⟨rfl, _, SqL.of hLz⟩, _, rfl, _, rfl, kp, kq, xs, ys, rfl, rfl, tx.sq, ty.sq, by rw [lx, lys, sizeLine_eq]; omega, ?_⟩
   have fin : ∀ (H3 : Hp) (d : Addr), ao H2 H3 -> bT K H3 (p.1 ++ r.1) d -> qv K [.ref d] H3 (fun x H4 => ∃ y, some (some (V.int p.2)) = some (some y) /\ ∃ z, some (some (V.int r.2)) = some (some z) /\ rI IntMulOk (fun i j => V.int (i * j)) y z H4 fun zz H5 => 2 <= sizeLine /\ ∀ e, H5 e = none -> nu (.ref L) [.ref e] (upd H5 e (.tup [x, zz])) fun _ H6 => ∃ (o5 o6 : Option V), [some (V.ref a), some (.ref b), some (.ref L), some (.ref kp), some (.int p.2), some (.ref kq), some (.int r.2)] = [some (V.ref a), some (.ref b), some (.ref L), some (.ref kp), some (.int p.2), o5, o6] /\ Iv (i * m2.length + (j + 1)) (fun g => sw (fun a => sw (fun b => g (nf (a ++ b))) m2) (m1.take i) + p.2 * sw (fun b => g (nf (p.1 ++ b))) (m2.take (j + 1))) H6) E0 := fun H3 d s3 kd => by
    refine ⟨d, p.1 ++ r.1, rfl, kd, fun z hz => ?_, by rw [List.length_append]; omega, fun H4 e s4 ke => ?_⟩
    ·rcases List.mem_append.mp hz with h | h
     ·exact kp1.pos z h
     ·exact kr1.pos z h
    ·refine ⟨_, rfl, _, rfl, _, _, rfl, rfl, vL kp1 kr1, z2, fun g hg => ?_⟩
     have s5 := ae hg (.tup [.ref e, .int (p.2 * r.2)])
     refine ⟨L, _, _, rfl, rfl, s5 _ _ (s4 _ _ (s3 _ _ hLz)), by rw [<- lzs, lz, sizeLine_eq]; omega, ?_⟩
     have s6 := aA.upd (upd H4 g (.tup [.ref e, .int (p.2 * r.2)])) L (.lst (zs ++ [.ref g]))
     have t6 := s6.tups (s5 _ _ (s4 _ _ (s3 _ _ hLz)))
     refine ⟨_, _, rfl, ?_⟩
     rw [<- hI]
     refine ⟨zs ++ [.ref g], m ++ [(nf (p.1 ++ r.1), p.2 * r.2)], fun z o hz => s6 z o (ag hz hL) (s5 _ _ (s4 _ _ (s3 _ _ (s2 _ _ hz)))), ad, cx ⟨g, e, rfl, .of (t6 _ _ ad), (ke.mono s5).tups t6⟩ (cn ((ao.tups (s3.trans (s4.trans s5))).trans t6) Rz), fun z hz => ?_, by rw [List.length_append, lz]; rfl, fun g' => ?_⟩
     ·rcases List.mem_append.mp hz with h | h
      ·exact kz z h
      ·rw [List.mem_singleton.mp h]
       exact Int.mul_le_mul kp1.lo kr1.lo (by decide) (by have := kp1.lo; omega)
     ·have ez' : sw g' m = sw (fun a => sw (fun b => g' (nf (a ++ b))) m2) (m1.take i) + p.2 * sw (fun b => g' (nf (p.1 ++ b))) (m2.take j) := ez g'
      show _ = sw (fun a => sw (fun b => g' (nf (a ++ b))) m2) (m1.take i) + p.2 * sw (fun b => g' (nf (p.1 ++ b))) (m2.take (j + 1))
      rw [cQ, ez', gg (fun b => g' (nf (p.1 ++ b))) hr']
      show _ + (p.2 * r.2 * g' (nf (p.1 ++ r.1)) + 0) = _
      rw [Int.add_zero, Int.mul_add, <- Int.add_assoc]
      congr 1
      rw [Int.mul_assoc]
   refine ⟨fun e => .inl (fin H2 kq (ao.refl _) ?_), fun e => .inl (fin H2 kp (ao.refl _) ?_), fun d hd => .inl (fin _ d (ae hd _) (.inl ?_))⟩
   ·have e1 : p.1 = [] := List.eq_nil_of_length_eq_zero (by rw [<- lx, e]; rfl)
    rw [e1]; exact kr2.mono s2
   ·have e1 : r.1 = [] := List.eq_nil_of_length_eq_zero (by rw [<- lys, e]; rfl)
    rw [e1, List.append_nil]; exact kr.mono s2
   ·simp only [Rep]
    refine ⟨d, _, rfl, ad, ?_⟩
    have e : aD (p.1 ++ r.1) = aD p.1 ++ aD r.1 := List.map_append
    rw [e]
    exact Reps.append (rx.mono (ae hd _)) (ry.mono (ae hd _))
  ·rintro σ H2 ⟨o5, o6, rfl, v2⟩
   refine ⟨_, _, _, _, rfl, ?_⟩
   rw [<- lw, List.take_length] at v2
   rw [Nat.succ_mul]
   have : (fun (g : List Pr -> Int) => sw (fun a => sw (fun b => g (nf (a ++ b))) m2) (m1.take (i + 1))) = fun (g : List Pr -> Int) => sw (fun a => sw (fun b => g (nf (a ++ b))) m2) (m1.take i) + p.2 * sw (fun b => g (nf (p.1 ++ b))) m2 := funext fun g => ug g hp
   rw [this]
   exact v2
 ·rintro σ H1 ⟨o3, o4, o5, o6, rfl, v1⟩
  rw [<- lu, List.take_length, <- hI] at v1
  obtain ⟨zs, m, s1, hLz, Rz, kz, lz, ez⟩ := v1
  exact ⟨_, rfl, .inr (.inl ⟨L, zs, m, rfl, hLz, Rz, kz, by omega, fun H2 x m' s2 Rx ux kx ex => q H2 x m' (s1.trans s2) Rx ux kx (fun g => by rw [ex, ez])⟩)⟩
end
abbrev cL : Stmt := top 6
abbrev ba : Stmt := top 7
abbrev bD : Stmt := top 8
theorem mp {j : Int} (h : 0 < j) : 0 < j := h
structure KOk (n : Nat) (ps : List Pr) : Prop where
 len : ps.length <= n
 pos : ∀ p ∈ ps, 0 <= p.2
 sum : bf ps <= n
theorem cy : ∀ {ps : List Pr}, (∀ p ∈ ps, 0 <= p.2) -> 0 <= bf ps
 | [], _ => Int.le_refl 0
 | p :: ps, h => by
  have h1 := h p List.mem_cons_self
  have h2 := cy (ps := ps) fun q hq => h q (List.mem_cons_of_mem _ hq)
  show 0 <= p.2 + bf ps
  omega
structure NB (nums : List Pr) : Prop where
 lo : ∀ x, 0 <= tm nums x
 hi : ∀ x, tm nums x <= 60
 can : (nums.map (·.1)).Nodup
def jQ : Sp := fun vs H Q _ => ∃ (b p : Int), vs = [.int b, .int p] /\ 0 <= b /\ b <= 60 /\ 0 <= p /\ p <= 12 /\ Q (.int (b ^ p.toNat)) H
def hJ (K : PySem.W.Frag) : Sp := fun vs H Q _ => ∃ (a d : Addr) (ps nums : List Pr), vs = [.ref a, .ref d] /\ bT K H ps a /\ KOk 12 ps /\ NB nums /\ H d = some (.dK (dk nums)) /\ Q (.int (pw (tm nums) ps)) H
def gB (K : PySem.W.Frag) : Sp := fun vs H Q _ => ∃ (v : V) (d : Addr) (m : List PM) (nums : List Pr), vs = [v, .ref d] /\ SmR K H m v /\ (∀ p ∈ m, KOk 8 p.1) /\ m.length <= 80000 /\ NB nums /\ H d = some (.dK (dk nums)) /\ ∀ H', ao H H' -> Q (.int (sw (pw (tm nums)) m)) H'
theorem p60 {b : Int} (h0 : 0 <= b) (h1 : b <= 60) : ∀ n : Nat, 0 <= b ^ n /\ b ^ n <= 60 ^ n
 | 0 => by rw [Int.pow_zero, Int.pow_zero]; decide
 | n + 1 => by
  obtain ⟨a1, a2⟩ := p60 h0 h1 n
  rw [Int.pow_succ, Int.pow_succ]
  exact ⟨Int.mul_nonneg a1 h0, Int.mul_le_mul a2 h1 h0 (by omega)⟩
theorem q60 : ∀ {n m : Nat}, n <= m -> (60 : Int) ^ n <= 60 ^ m /\ (1 : Int) <= 60 ^ m
 | n, 0, h => by rw [Nat.le_zero.mp h]; exact ⟨Int.le_refl _, by decide⟩
 | n, m + 1, h => by
  by_cases e : n = m + 1
  ·subst e
   obtain ⟨_, h2⟩ := q60 (n := m) (m := m) (Nat.le_refl _)
   rw [Int.pow_succ]
   exact ⟨Int.le_refl _, by omega⟩
  ·obtain ⟨h1, h2⟩ := q60 (n := n) (m := m) (by omega)
   rw [Int.pow_succ]
   omega
theorem gz {g : Str -> Int} (h0 : ∀ x, 0 <= g x) (h1 : ∀ x, g x <= 60) : ∀ {ps : List Pr}, (∀ p ∈ ps, 0 <= p.2) -> 0 <= pw g ps /\ pw g ps <= 60 ^ (bf ps).toNat
 | [], _ => ⟨by show (0 : Int) <= 1; decide, by show (1 : Int) <= 60 ^ 0; decide⟩
 | p :: ps, h => by
  obtain ⟨a1, a2⟩ := gz h0 h1 (ps := ps) fun q hq => h q (List.mem_cons_of_mem _ hq)
  obtain ⟨b1, b2⟩ := p60 (h0 p.1) (h1 p.1) p.2.toNat
  have c1 := cy (ps := ps) fun q hq => h q (List.mem_cons_of_mem _ hq)
  have c2 := h p List.mem_cons_self
  refine ⟨Int.mul_nonneg b1 a1, ?_⟩
  show g p.1 ^ p.2.toNat * pw g ps <= 60 ^ (p.2 + bf ps).toNat
  rw [Int.toNat_add c2 c1, Int.pow_add]
  exact Int.mul_le_mul b2 a2 a1 (by have := (q60 (n := 0) (m := p.2.toNat) (Nat.zero_le _)).2; omega)
section
variable {k : Nat} {ix : List Nat} {te : TE} {σ : St}
theorem oT {i j : Nat} {K : PySem.W.Frag} {a : Addr} {x y : V} {ys : List V} {H : Hp} {N : List V -> Hp -> Prop} (ha : SqT K H a [x, y]) (h : te (((cS k ix σ).set i (some x)).set j (some y)) H fun y H4 => ys.length < sizeLine /\ N (ys ++ [y]) H4) :
  fM k ix (rq K 2 (dY (cP i) (dY (cP j) mE))) tL te σ (.ref a) ys H N := by
 refine ⟨a, _, rfl, ha, rfl, _, _, rfl, _, _, rfl, rfl, ?_⟩
 exact pi (B := N ys H) h
end
section
variable {P : Program} {w : World} {K : PySem.W.Frag} {mg : Str -> Option Value} {base : Heap}
theorem iy : aR ["base", "power", "total"] ["base", "power"] (aj cL) := ⟨rfl, rfl, rfl, by decide +kernel, rfl, by decide +kernel, by decide +kernel⟩
theorem pL {f : Addr} {fd : FuncData} (F : Fun K "to_the" "to_the" cL f fd) (T : Txt K mg) : bu P w K mg base CX0 1 f fd ["base", "power"] jQ := by
 have nd : (["base", "power", "total"] : List Str).Nodup := iy.nd
 refine F.ok iy (fun vs H Q E h => ?_) (fun cdv A outer s H vs Q E hr h => ?_)
 ·obtain ⟨b, p, rfl, _⟩ := h
  rfl
 obtain ⟨b, p, rfl, b0, b1, p0, p1, q⟩ := h
 refine ⟨_, (@ah _ _ _ _ _ (@aB _ _ (2) _ _ _ _ nd rfl (Or.inl rfl) (@ai _ _ _ _) (by rfl) (by trivial)) (@ah _ _ _ _ _ (@rj _ _ _ _ _ _ PassesOwn.never (@bA _ _ _ _ _ _ _ _ kw (@pv _ 1 _ _ (by rfl) (by trivial) (by decide) (by decide)) (@ai _ _ _ _) (bI _)) (@ah _ _ _ _ _ (@cD _ _ _ _ _ _ _ _ (@bA _ _ _ _ _ _ _ _ nJ (@aH _ _ _ _ _ _ _ _ cI (@pv _ 1 _ _ (by rfl) (by trivial) (by decide) (by decide)) (@ai _ _ _ _)) (@ai _ _ _ _) (bI _)) (@ak _ _ _ (@aB _ _ (2) _ _ _ _ nd rfl (Or.inl rfl) (@aH _ _ _ _ _ _ _ _ cG (@pv _ 2 _ _ (by rfl) (by trivial) (by decide) (by decide)) (@pv _ 0 _ _ (by rfl) (by trivial) (by decide) (by decide))) (by rfl) (by trivial))) (@bo _)) (@ah _ _ _ _ _ (@aB _ _ (0) _ _ _ _ nd rfl (Or.inl rfl) (@aH _ _ _ _ _ _ _ _ cG (@pv _ 0 _ _ (by rfl) (by trivial) (by decide) (by decide)) (@pv _ 0 _ _ (by rfl) (by trivial) (by decide) (by decide))) (by rfl) (by trivial)) (@ak _ _ _ (@aB _ _ (1) _ _ _ _ nd rfl (Or.inl rfl) (@aH _ _ _ _ _ _ _ _ sY (@pv _ 1 _ _ (by rfl) (by trivial) (by decide) (by decide)) (@ai _ _ _ _)) (by rfl) (by trivial)))))) (@ak _ _ _ (@aT _ _ _ _ (@pv _ 2 _ _ (by rfl) (by trivial) (by decide) (by decide)))))), ?_⟩
 refine sn (fun m σ H' => H' = H /\ ∃ (e t u : Nat), σ = [some (.int (b ^ e)), some (.int u), some (.int (b ^ t))] /\ t + e * u = p.toNat /\ m = u /\ (e = 1 \/ e = 2 \/ e = 4 \/ e = 8 \/ e = 16)) p.toNat
  ⟨rfl, 1, 0, p.toNat, by rw [Int.toNat_of_nonneg p0, Int.pow_succ, Int.pow_zero, Int.one_mul]; rfl, by omega, rfl, .inl rfl⟩ ?_ ?_
 ·rintro m σ H1 ⟨rfl, e, t, u, rfl, ht, hm, e1⟩
  refine ⟨_, rfl, _, _, rfl, rfl, _, rfl, ?_⟩
  by_cases h : 0 < u
  ·rw [show decide ((0 : Int) < (u : Int)) = true from decide_eq_true (by omega)]
   refine pi ?_
   have ee : e * 1 <= e * u := Nat.mul_le_mul_left _ h
   have e8 : e <= 8 := by omega
   have be : 0 <= b ^ e /\ b ^ e < 2 ^ 64 := by
    obtain ⟨h0, h1⟩ := p60 b0 b1 e
    have h2 := (q60 e8).1
    have h3 : (60 : Int) ^ 8 < 2 ^ 64 := by decide
    exact ⟨h0, by omega⟩
   have mu := Nat.mod_two_eq_zero_or_one u
   have du := Nat.div_add_mod u 2
   have m2 : e * u = e * 2 * (u / 2) + e * (u % 2) := by rw [Nat.mul_assoc, <- Nat.mul_add, du]
   have cu : ((u : Int) % 2) = ((u % 2 : Nat) : Int) := by omega
   have cd : ((u : Int) / 2) = ((u / 2 : Nat) : Int) := by omega
   have bb : b ^ e * b ^ e = b ^ (e * 2) := by rw [<- Int.pow_add]; congr 1; omega
   refine nV (fun σ H' => H' = H1 /\ ∃ t', σ = [some (.int (b ^ e)), some (.int u), some (.int (b ^ t'))] /\ t' + e * 2 * (u / 2) = p.toNat) ?_ (fun N hN => ?_)
   ·rintro σ H2 ⟨rfl, t', rfl, ht'⟩
    refine ⟨_, rfl, _, rfl, _, _, rfl, rfl, .inl ⟨by omega, be.2⟩, ?_⟩
    refine ⟨_, rfl, _, _, rfl, rfl, ⟨by decide, by decide⟩, ?_⟩
    refine ⟨u / 2, by omega, rfl, e * 2, t', u / 2, ?_, ht', rfl, by omega⟩
    rw [<- bb, <- cd]; rfl
   ·refine ⟨_, rfl, _, _, rfl, rfl, mp (by decide), rfl, _, rfl, hW (fun h1 => ?_) (fun h1 => ?_)⟩
    ·have h1' := eqI h1
     rw [cu] at h1'
     have u1 : u % 2 = 1 := by omega
     refine ⟨_, rfl, _, rfl, _, _, rfl, rfl, .inr ⟨by omega, be.2⟩, hN _ _ ⟨rfl, t + e, ?_, by rw [u1] at m2; omega⟩⟩
     rw [Int.pow_add]; rfl
    ·have u0 : u % 2 = 0 := by
      rcases mu with h | h
      ·exact h
      ·exact absurd (decide_eq_true (by show V.int ((u : Int) % 2) = V.int 1; rw [cu, h]; rfl)) h1
     exact tnx (hN _ _ ⟨rfl, t, rfl, by rw [u0] at m2; omega⟩)
  ·rw [show decide ((0 : Int) < (u : Int)) = false from decide_eq_false (by omega)]
   refine hX ⟨_, rfl, ?_⟩
   have : u = 0 := by omega
   subst this
   rw [show t = p.toNat by omega]
   exact q
 ·rintro σ H1 Q1 Q2 h ⟨x, hx, y, z, e1, e2, b', eb, h'⟩
  exact ⟨x, hx, y, z, e1, e2, b', eb, h _ _ h'⟩
theorem cR : aR ["powers", "numbers", "total", "name", "power"] ["powers", "numbers"] (aj ba) := ⟨rfl, rfl, rfl, by decide +kernel, rfl, by decide +kernel, by decide +kernel⟩
theorem fD {f : Addr} {fd : FuncData} {k0 : Nat} (F : Fun K "product_worth" "product_worth" ba f fd) (T : Txt K mg) (Dto_the : Def P w K mg base k0 "to_the" ["base", "power"] jQ) : bu P w K mg base CX0 (k0 + 1) f fd ["powers", "numbers"] (hJ K) := by
 have nd : (["powers", "numbers", "total", "name", "power"] : List Str).Nodup := cR.nd
 refine F.ok cR (fun vs H Q E h => ?_) (fun cdv A outer s H vs Q E hr h => ?_)
 ·obtain ⟨a, d, ps, nums, rfl, _⟩ := h
  rfl
 obtain ⟨a, d, ps, nums, rfl, kr, ko, hn, hd, q⟩ := h
 have hu := eO hr
 obtain ⟨us, ta, ru⟩ := bT.tup kr
 have lus : us.length = ps.length := by have := ru.length; rwa [aD, List.length_map] at this
 refine ⟨_, (@ah _ _ _ _ _ (@aB _ _ (2) _ _ _ _ nd rfl (Or.inl rfl) (@ai _ _ _ _) (by rfl) (by trivial)) (@ah _ _ _ _ _ (@bg _ _ _ _ _ _ _ _ PassesOwn.never rfl (@df _ _ _ _ (@pv _ 0 _ _ (by rfl) (by trivial) (by decide) (by decide))) (@bG _ _ _ _ _ _ rfl (@aE _ _ _ _ _ (@au _ _ (3) _ nd rfl (Or.inl rfl) (by trivial)) (@aE _ _ _ _ _ (@au _ _ (4) _ nd rfl (Or.inl rfl) (by trivial)) (@bp _) (by rfl)) (by rfl)) (by rfl) (by rfl)) (@ak _ _ _ (@aB _ _ (2) _ _ _ _ nd rfl (Or.inl rfl) (@aH _ _ _ _ _ _ _ _ cG (@pv _ 2 _ _ (by rfl) (by trivial) (by decide) (by decide)) (@av _ _ _ _ _ _ _ _ _ _ Dto_the hr rfl (@aa _ _ _ _ _ (@gJ _ _ _ _ _ _ _ _ _ hu (@pv _ 1 _ _ (by rfl) (by trivial) (by decide) (by decide)) (@pv _ 3 _ _ (by rfl) (by trivial) (by decide) (by decide)) (@ai _ _ _ _) ⟨rfl, rfl, rfl, rfl⟩) (@aa _ _ _ _ _ (@pv _ 4 _ _ (by rfl) (by trivial) (by decide) (by decide)) (@af _) (by rfl)) (by rfl)) (by decide) (by rfl) (by rfl))) (by rfl) (by trivial))) (by intro _; rfl)) (@ak _ _ _ (@aT _ _ _ _ (@pv _ 2 _ _ (by rfl) (by trivial) (by decide) (by decide)))))), ?_⟩
 refine ⟨_, rfl, a, rfl, ⟨us, ta.sq⟩, cY (xs := us) (fun i σ H' => H' = H /\ ∃ (o3 o4 : Option V), σ = [some (.ref a), some (.ref d), some (.int (pw (tm nums) (ps.take i))), o3, o4]) ⟨rfl, _, _, rfl⟩ (fun i σ H' _ p => by rw [p.1]; exact ta.sq) ?_ ?_⟩
 ·rintro i x σ H1 hx ⟨rfl, o3, o4, rfl⟩
  obtain ⟨p, b, hp, rfl, hb⟩ := gk ru hx
  have tk : ps.take (i + 1) = ps.take i ++ [p] := by rw [List.take_add_one, hp]; rfl
  have pp := ko.pos p (List.mem_of_getElem? hp)
  have pt : ∀ x ∈ ps.take i, 0 <= x.2 := fun x hx => ko.pos x (List.mem_of_mem_take hx)
  have sp : bf (ps.take i) + p.2 <= 12 := by
   have h1 : bf ps = bf (ps.take (i + 1)) + bf (ps.drop (i + 1)) := by rw [<- dB, List.take_append_drop]
   have h2 := cy (ps := ps.drop (i + 1)) fun x hx => ko.pos x (List.mem_of_mem_drop hx)
   rw [tk, dB] at h1
   have h3 := ko.sum
   have h4 : bf [p] = p.2 + 0 := rfl
   omega
  have s0 := cy pt
  obtain ⟨b1, b2⟩ := gz hn.lo hn.hi pt
  obtain ⟨c1, c2⟩ := p60 (hn.lo p.1) (hn.hi p.1) p.2.toNat
  have big : (60 : Int) ^ 6 < 2 ^ 64 := by decide
  refine ⟨b, _, rfl, SqT.of hb, rfl, _, _, rfl, _, _, rfl, rfl, ?_⟩
  refine ⟨_, rfl, _, rfl, d, rfl, .inl ⟨_, .inl hd⟩, _, rfl, _, mI.k (k := Sum.inr p.1) hd, _, rfl, tm nums p.1, p.2, by rw [nX]; rfl, hn.lo _, hn.hi _, pp, by omega, _, _, rfl, rfl, ?_, rfl, some (.str p.1), some (.int p.2), ?_⟩
  ·by_cases c : (bf (ps.take i)).toNat <= 6
   ·have := (q60 c).1; exact .inl ⟨by omega, by omega⟩
   ·have := (q60 (n := p.2.toNat) (m := 6) (by omega)).1; exact .inr ⟨by omega, by omega⟩
  ·rw [tk, iw]
   show _ = [_, _, some (V.int (pw (tm nums) (ps.take i) * (tm nums p.1 ^ p.2.toNat * 1))), _, _]
   rw [Int.mul_one]; rfl
 ·rintro σ H1 ⟨rfl, o3, o4, rfl⟩
  rw [lus, List.take_length]
  exact ⟨_, rfl, q⟩
theorem jK : aR ["s", "numbers"] ["s", "numbers"] (aj bD) := ⟨rfl, rfl, rfl, by decide +kernel, rfl, by decide +kernel, by decide +kernel⟩
theorem jr {f : Addr} {fd : FuncData} {k0 : Nat} (F : Fun K "sum_worth" "sum_worth" bD f fd) (T : Txt K mg) (Dproduct_worth : Def P w K mg base k0 "product_worth" ["powers", "numbers"] (hJ K)) : bu P w K mg base CX0 (k0 + 1) f fd ["s", "numbers"] (gB K) := by
 refine F.ok jK (fun vs H Q E h => ?_) (fun cdv A outer s H vs Q E hr h => ?_)
 ·obtain ⟨v, d, m, nums, rfl, _⟩ := h
  rfl
 obtain ⟨v, d, m, nums, rfl, ⟨a, us, rfl, ta, R⟩, km, lm, hn, hd, q⟩ := h
 have lu := aP R
 refine ⟨_, (@ak _ _ _ (@aT _ _ _ _ (@aS _ _ _ _ _ _ _ _ _ (pP rfl) rfl T.sum (by decide +kernel) (@aa _ _ _ _ _ (@tW _ _ (["powers", "times"]) ([1]) _ _ _ _ _ _ _ _ _ (@df _ _ _ _ (@pv _ 0 _ _ (by rfl) (by trivial) (by decide) (by decide))) (.of rfl) rfl (fun _ _ _ => bG rfl (@aE _ _ _ _ _ (@au _ _ (0) _ (kO (l := ["powers", "times", "numbers"]) ((by decide +kernel)) rfl) rfl (Or.inl rfl) (by trivial)) (@aE _ _ _ _ _ (@au _ _ (1) _ (kO (l := ["powers", "times", "numbers"]) ((by decide +kernel)) rfl) rfl (Or.inl rfl) (by trivial)) (@bp _) (by rfl)) (by rfl))) (rD (by decide) (by decide)) (fun _ _ _ => (@jM _)) (fun _ _ _ => (@aH _ _ _ _ _ _ _ _ cG (@pv _ 1 _ _ (by rfl) (by trivial) (by decide) (by decide)) (@av _ _ _ _ _ _ _ _ _ _ Dproduct_worth hr rfl (@aa _ _ _ _ _ (@pv _ 0 _ _ (by rfl) (by trivial) (by decide) (by decide)) (@aa _ _ _ _ _ (@pv _ 2 _ _ (by rfl) (by trivial) (by decide) (by decide)) (@af _) (by rfl)) (by rfl)) (by decide) (by rfl) (by rfl)))) (by intro _; rfl)) (@af _) (by rfl)) (by decide) (by decide) (by rfl) (by rfl)))), ?_⟩
 refine ⟨_, rfl, a, rfl, ⟨us, ta.sq⟩, ?_⟩
 refine qp (xs := us) (fun i ys H' => H' = H /\ ys = ((m.take i).map fun p => p.2 * pw (tm nums) p.1).map V.int) ⟨rfl, rfl⟩ (fun i ys H' _ p => by rw [p.1]; exact ta.sq) ?_ ?_
 ·rintro i ys H1 x hx ⟨rfl, rfl⟩
  obtain ⟨p, hp, c, b, rfl, tc, kr⟩ := br R hx
  have hi : i < us.length := (List.getElem?_eq_some_iff.mp hx).1
  have k3 := km p (List.mem_of_getElem? hp)
  obtain ⟨w1, w2⟩ := gz hn.lo hn.hi k3.pos
  have w3 := (q60 (n := (bf p.1).toNat) (m := 8) (by have := k3.sum; omega)).1
  have w4 : (60 : Int) ^ 8 < 2 ^ 64 := by decide
  have k12 : KOk 12 p.1 := ⟨by have := k3.len; omega, k3.pos, by have := k3.sum; omega⟩
  refine oT tc.sq ⟨_, rfl, _, rfl, _, rfl, b, d, p.1, nums, rfl, kr, k12, hn, hd, _, _, rfl, rfl, .inr ⟨by omega, by omega⟩, ?_, rfl, ?_⟩
  ·simp only [List.length_map, List.length_take, sizeLine_eq]; omega
  ·rw [List.take_add_one, hp, List.map_append, List.map_append]; rfl
 ·rintro ys H1 ⟨rfl, rfl⟩ l hl
  rw [<- lu, List.take_length]
  refine ⟨l, _, rfl, SqL.of ad, ?_⟩
  have e : ∀ m : List PM, (m.map fun p => p.2 * pw (tm nums) p.1).sum = sw (pw (tm nums)) m := fun m => by
   induction m with
   | nil => rfl
   | cons p m ih => rw [List.map_cons, List.sum_cons, ih]; rfl
  rw [e]
  exact q _ (ae hl _)
end
abbrev bO : Stmt := top 14
abbrev fB : Stmt := top 15
theorem wu {i : Int} (h0 : 0 <= i) (h1 : i < 7) : ∃ n : Int, atI ([V.int 0, V.int 1, V.int 1, V.int 2, V.int 2, V.int 3, V.int 4] : List V) i = some (.int n) /\ 0 <= n /\ n <= 4 := by
 have e : i = 0 \/ i = 1 \/ i = 2 \/ i = 3 \/ i = 4 \/ i = 5 \/ i = 6 := by omega
 rcases e with rfl | rfl | rfl | rfl | rfl | rfl | rfl
 ·exact ⟨0, aq (j := 0) rfl, by decide⟩
 ·exact ⟨1, aq (j := 1) rfl, by decide⟩
 ·exact ⟨1, aq (j := 2) rfl, by decide⟩
 ·exact ⟨2, aq (j := 3) rfl, by decide⟩
 ·exact ⟨2, aq (j := 4) rfl, by decide⟩
 ·exact ⟨3, aq (j := 5) rfl, by decide⟩
 ·exact ⟨4, aq (j := 6) rfl, by decide⟩
theorem wv {i : Int} (h0 : 0 <= i) (h1 : i < 5) : ∃ n : Int, atI ([V.int 99, V.int 99, V.int 99, V.int 1, V.int (10 ^ (28 : Int).toNat)] : List V) i = some (.int n) /\ 1 <= n /\ n <= 10 ^ 28 := by
 have e : i = 0 \/ i = 1 \/ i = 2 \/ i = 3 \/ i = 4 := by omega
 rcases e with rfl | rfl | rfl | rfl | rfl
 ·exact ⟨99, aq (j := 0) rfl, by decide⟩
 ·exact ⟨99, aq (j := 1) rfl, by decide⟩
 ·exact ⟨99, aq (j := 2) rfl, by decide⟩
 ·exact ⟨1, aq (j := 3) rfl, by decide⟩
 ·exact ⟨10 ^ 28, aq (j := 4) rfl, by decide⟩
theorem dc {xs : List Str} {i : Int} (h0 : 0 <= i) (h1 : i < xs.length) : ∃ x ∈ xs, atI (xs.map V.str) i = some (.str x) := by
 have hi : i.toNat < xs.length := by omega
 have e := aq (xs := xs.map V.str) (j := i.toNat) (v := .str xs[i.toNat]) (by rw [List.getElem?_map, List.getElem?_eq_getElem hi]; rfl)
 rw [show ((i.toNat : Nat) : Int) = i by omega] at e
 exact ⟨_, List.getElem_mem hi, e⟩
def fJ : Sp := fun vs H Q _ => ∃ (a b : Addr) (xs : List Str), vs = [.ref a, .ref b] /\ St2 H a /\ H b = some (.lst (xs.map V.str)) /\ b ≠ a /\ xs.length = 6 /\
 ∀ (H' : Hp) (c t : Addr) (ks : List Str) (n : Int), aA a H H' -> St2 H' a -> H' c = some (.tup [.ref t, .int n]) -> H' t = some (.tup (ks.map V.str)) -> Sd ks -> ks.length <= 4 -> 1 <= n -> n <= 10 ^ 28 -> Q (.ref c) H'
def jl (P : Program) (w : World) : Sp := fun vs H Q _ => ∃ (d b : Addr) (n : Int) (m : List TM) (ks : List Str), vs = [.ref d, .ref b, .int n] /\ Dt P w H d m /\ H b = some (.tup (ks.map V.str)) /\ ks.length <= 8 /\ m.length < 100000 /\
 ∀ (H' : Hp) (k : List Str), aA d H H' -> Sd k -> k.Perm ks -> Dt P w H' d (cr m k ((bF m k).getD 0 + n)) -> Q .non H'
section
variable {P : Program} {w : World} {K : PySem.W.Frag} {mg : Str -> Option Value} {base : Heap}
theorem rf {H H' : Hp} {d c : Addr} {m : List TM} (h : Dt P w H d m) (s : aA c H H') (n : d ≠ c) (t : eJ H H') : Dt P w H' d m := let ⟨o, xs, e, a, b, l, r⟩ := h; ⟨o, xs, s _ _ n e, a, b, l, ci t r⟩
theorem bq {H H' : Hp} {d : Addr} {m : List TM} (h : Dt P w H d m) (s : ao H H') : Dt P w H' d m := let ⟨o, xs, e, a, b, l, r⟩ := h; ⟨o, xs, s _ _ e, a, b, l, ci (ao.tups s) r⟩
theorem fX : aR ["_law_state_here", "_law_names_here", "_law_found", "_law_j", "_law_most"] ["_law_state_here", "_law_names_here"] (aj bO) := ⟨rfl, rfl, rfl, by decide +kernel, rfl, by decide +kernel, by decide +kernel⟩
theorem lE {f : Addr} {fd : FuncData} {k0 : Nat} (F : Fun K "_law_product" "_law_product" bO f fd) (T : Txt K mg) (D_law_draw : Def P w K mg base k0 "_law_draw" ["_law_state_here", "_law_many"] fS) : bu P w K mg base CX0 (k0 + 1) f fd ["_law_state_here", "_law_names_here"] fJ := by
 have nd : (["_law_state_here", "_law_names_here", "_law_found", "_law_j", "_law_most"] : List Str).Nodup := fX.nd
 refine F.ok fX (fun vs H Q E h => ?_) (fun cdv A outer s H vs Q E hr h => ?_)
 ·obtain ⟨a, b, xs, rfl, _⟩ := h
  rfl
 obtain ⟨a, b, xs, rfl, st, hb, hba, lx, q⟩ := h
 refine ⟨_, (@ah _ _ _ _ _ (@aB _ _ (2) _ _ _ _ nd rfl (Or.inl rfl) (@bQ _ _ _ _ (@af _)) (by rfl) (by trivial)) (@ah _ _ _ _ _ (@bg _ _ _ _ _ _ _ _ PassesOwn.never rfl (@dP _ _ _ _ _ _ rfl T.range (@aa _ _ _ _ _ (@bd _ _ _ _ _ _ _ aN (@bQ _ _ _ _ (@aa _ _ _ _ _ (@ai _ _ _ _) (@aa _ _ _ _ _ (@ai _ _ _ _) (@aa _ _ _ _ _ (@ai _ _ _ _) (@aa _ _ _ _ _ (@ai _ _ _ _) (@aa _ _ _ _ _ (@ai _ _ _ _) (@aa _ _ _ _ _ (@ai _ _ _ _) (@aa _ _ _ _ _ (@ai _ _ _ _) (@af _) (by rfl)) (by rfl)) (by rfl)) (by rfl)) (by rfl)) (by rfl)) (by rfl))) (@av _ _ _ _ _ _ _ _ _ _ D_law_draw hr rfl (@aa _ _ _ _ _ (@pv _ 0 _ _ (by rfl) (by trivial) (by decide) (by decide)) (@aa _ _ _ _ _ (@ai _ _ _ _) (@af _) (by rfl)) (by rfl)) (by decide) (by rfl) (by rfl)) (fun _ _ => rfl)) (@af _) (by rfl)) (by rfl)) (@au _ _ (3) _ nd rfl (Or.inl rfl) (by trivial)) (@ak _ _ _ (@cA _ _ _ _ (@lD _ _ _ _ _ _ _ _ _ _ _ _ PySem.F.plainAttrs_list PySem.F.slot_list_append PySem.F.type_list_append cT (@pv _ 2 _ _ (by rfl) (by trivial) (by decide) (by decide)) (@aa _ _ _ _ _ (@bd _ _ _ _ _ _ _ aN (@pv _ 1 _ _ (by rfl) (by trivial) (by decide) (by decide)) (@av _ _ _ _ _ _ _ _ _ _ D_law_draw hr rfl (@aa _ _ _ _ _ (@pv _ 0 _ _ (by rfl) (by trivial) (by decide) (by decide)) (@aa _ _ _ _ _ (@aS _ _ _ _ _ _ _ _ _ cU rfl T.len (by decide +kernel) (@aa _ _ _ _ _ (@pv _ 1 _ _ (by rfl) (by trivial) (by decide) (by decide)) (@af _) (by rfl)) (by decide) (by decide) (by rfl) (by rfl)) (@af _) (by rfl)) (by rfl)) (by decide) (by rfl) (by rfl)) (fun _ _ => rfl)) (@af _) (by rfl)) (by rfl) (by rfl) (by rfl) (by rfl) (by rfl)) (by rfl))) (by intro _; rfl)) (@ah _ _ _ _ _ (@aB _ _ (4) _ _ _ _ nd rfl (Or.inl rfl) (@bd _ _ _ _ _ _ _ aN (@bQ _ _ _ _ (@aa _ _ _ _ _ (@ai _ _ _ _) (@aa _ _ _ _ _ (@ai _ _ _ _) (@aa _ _ _ _ _ (@ai _ _ _ _) (@aa _ _ _ _ _ (@ai _ _ _ _) (@aa _ _ _ _ _ (@aH _ _ _ _ _ _ _ _ qW (@ai _ _ _ _) (@ai _ _ _ _)) (@af _) (by rfl)) (by rfl)) (by rfl)) (by rfl)) (by rfl))) (@av _ _ _ _ _ _ _ _ _ _ D_law_draw hr rfl (@aa _ _ _ _ _ (@pv _ 0 _ _ (by rfl) (by trivial) (by decide) (by decide)) (@aa _ _ _ _ _ (@ai _ _ _ _) (@af _) (by rfl)) (by rfl)) (by decide) (by rfl) (by rfl)) (fun _ _ => rfl)) (by rfl) (by trivial)) (@ak _ _ _ (@aT _ _ _ _ (@bX _ _ _ _ _ (@aa _ _ _ _ _ (@aW _ _ _ _ _ _ _ _ _ aU rfl T.tuple (by decide +kernel) (@aa _ _ _ _ _ (@aS _ _ _ _ _ _ _ _ _ iV rfl T.sorted (by decide +kernel) (@aa _ _ _ _ _ (@pv _ 2 _ _ (by rfl) (by trivial) (by decide) (by decide)) (@af _) (by rfl)) (by decide) (by decide) (by rfl) (by rfl)) (@af _) (by rfl)) (by decide) (by decide) (by rfl) (by rfl)) (@aa _ _ _ _ _ (@aH _ _ _ _ _ _ _ _ bR (@ai _ _ _ _) (@av _ _ _ _ _ _ _ _ _ _ D_law_draw hr rfl (@aa _ _ _ _ _ (@pv _ 0 _ _ (by rfl) (by trivial) (by decide) (by decide)) (@aa _ _ _ _ _ (@pv _ 4 _ _ (by rfl) (by trivial) (by decide) (by decide)) (@af _) (by rfl)) (by rfl)) (by decide) (by rfl) (by rfl))) (@af _) (by rfl)) (by rfl)))))))), ?_⟩
 refine ⟨Nat.zero_le _, fun L hL => ?_⟩
 have q0 := ae hL (.lst [])
 have La : L ≠ a := fun e => by obtain ⟨n, c, e2⟩ := st; rw [e, e2] at hL; cases hL
 refine ⟨by show 7 <= sizeLine; rw [sizeLine_eq]; decide, fun l7 h7 => ?_⟩
 have q1 := ae h7 (.lst [V.int 0, .int 1, .int 1, .int 2, .int 2, .int 3, .int 4])
 have l7a : l7 ≠ a := fun e => by obtain ⟨n, c, e2⟩ := st.m q0; rw [e, e2] at h7; cases h7
 have l7L : L ≠ l7 := ag ad h7
 refine ⟨_, rfl, a, 7, rfl, (st.m q0).m q1, by decide, by decide, fun H1 x s1 st1 x0 x7 => ?_⟩
 obtain ⟨n, hn, n0, n4⟩ := wu x0 x7
 refine ⟨l7, _, _, .int n, rfl, rfl, SqL.of (s1 _ _ l7a ad), hn, ?_⟩
 have S1 : aA a H H1 := (ao.b a (q0.trans q1)).trans s1
 have L1 : H1 L = some (.lst []) := s1 _ _ La (q1 _ _ ad)
 refine ⟨n, rfl, by omega, by omega, dN (n := n.toNat) (fun i σ H' => ∃ (ks : List Str) (o1 : Option V), σ = [some (.ref a), some (.ref b), some (.ref L), o1, none] /\ aA a H H' /\ St2 H' a /\ H' L = some (.lst (ks.map V.str)) /\ ks.length = i) ⟨[], _, rfl, S1, st1, L1, rfl⟩ ?_ ?_⟩
 ·rintro i σ H2 hi ⟨ks, o1, rfl, s2, st2, L2, lk⟩
  have b2 := s2 _ _ hba hb
  refine ⟨_, rfl, .inl ⟨rfl, _, SqL.of L2⟩, _, rfl, _, rfl, _, rfl, b, _, rfl, .inl (SqL.of b2), a, _, rfl, st2, by rw [List.length_map]; omega, by rw [List.length_map, lx]; decide, fun H3 y s3 st3 y0 y1 => ?_⟩
  rw [List.length_map] at y1
  obtain ⟨z, hz, ez⟩ := dc y0 y1
  have L3 := s3 _ _ La L2
  refine ⟨b, _, _, .str z, rfl, rfl, SqL.of (s3 _ _ hba b2), ez, L, _, _, rfl, rfl, L3, by rw [List.length_map, sizeLine_eq]; omega, ?_⟩
  refine ⟨ks ++ [z], _, rfl, fun g o hg e => ?_, st3.b (aA.upd _ _ _) (Ne.symm La), by rw [ad, List.map_append]; rfl, by rw [List.length_append, lk]; rfl⟩
  rw [ap (ag e hL)]
  exact s3 _ _ hg (s2 _ _ hg e)
 ·rintro σ H2 ⟨ks, o1, rfl, s2, st2, L2, lk⟩
  have p28 : vB 10 28 := ⟨by decide, by decide, by decide⟩
  refine ⟨_, _, rfl, rfl, p28, by show 5 <= sizeLine; rw [sizeLine_eq]; decide, fun l5 h5 => ?_⟩
  have q2 := ae h5 (.lst [V.int 99, .int 99, .int 99, .int 1, .int (10 ^ (28 : Int).toNat)])
  have l5a : l5 ≠ a := fun e => by obtain ⟨n, c, e2⟩ := st2; rw [e, e2] at h5; cases h5
  refine ⟨_, rfl, a, 5, rfl, st2.m q2, by decide, by decide, fun H3 y s3 st3 y0 y1 => ?_⟩
  obtain ⟨u, hu', u1, u28⟩ := wv y0 y1
  refine ⟨l5, _, _, .int u, rfl, rfl, SqL.of (s3 _ _ l5a ad), hu', ?_⟩
  have L3 : H3 L = some (.lst (ks.map V.str)) := s3 _ _ La (q2 _ _ L2)
  refine ⟨_, rfl, L, ks, rfl, L3, by omega, fun l qs hl pq pw => ⟨l, _, rfl, .inl ⟨SqL.of ad, fun t ht => ?_⟩⟩⟩
  have q3 := ae hl (.lst (qs.map V.str))
  have q4 := ae ht (.tup (qs.map V.str))
  refine ⟨_, rfl, _, rfl, a, u, rfl, (st3.m q3).m q4, by omega, by omega, fun H4 v s4 st4 v0 v1 => ⟨_, _, rfl, rfl, z2, fun c hc => ?_⟩⟩
  have q5 := ae hc (.tup [.ref t, .int (1 + v)])
  have ta : t ≠ a := fun e => by obtain ⟨n, c, e2⟩ := st3.m q3; rw [e, e2] at ht; cases ht
  exact q _ c t qs (1 + v) (s2.trans ((ao.b a q2).trans (s3.trans ((ao.b a (q3.trans q4)).trans (s4.trans (ao.b a q5)))))) (st4.m q5) ad (q5 _ _ (s4 _ _ ta ad)) pw (by rw [pq.length_eq, lk]; omega) (by omega) (by omega)
theorem oH : aR ["_law_model", "_law_names_here", "_law_times", "_law_key"] ["_law_model", "_law_names_here", "_law_times"] (aj fB) := ⟨rfl, rfl, rfl, by decide +kernel, rfl, by decide +kernel, by decide +kernel⟩
theorem sV {f : Addr} {fd : FuncData} (F : Fun K "_law_into" "_law_into" fB f fd) (T : Txt K mg) : bu P w K mg base CX0 1 f fd ["_law_model", "_law_names_here", "_law_times"] (jl P w) := by
 have nd : (["_law_model", "_law_names_here", "_law_times", "_law_key"] : List Str).Nodup := oH.nd
 refine F.ok oH (fun vs H Q E h => ?_) (fun cdv A outer s H vs Q E hr h => ?_)
 ·obtain ⟨d, b, n, m, ks, rfl, _⟩ := h
  rfl
 obtain ⟨d, b, n, m, ks, rfl, D, hb, lk, lm, q⟩ := h
 have hu := eO hr
 refine ⟨_, (@ah _ _ _ _ _ (@aB _ _ (3) _ _ _ _ nd rfl (Or.inl rfl) (@aW _ _ _ _ _ _ _ _ _ aU rfl T.tuple (by decide +kernel) (@aa _ _ _ _ _ (@aS _ _ _ _ _ _ _ _ _ ji rfl T.sorted (by decide +kernel) (@aa _ _ _ _ _ (@pv _ 1 _ _ (by rfl) (by trivial) (by decide) (by decide)) (@af _) (by rfl)) (by decide) (by decide) (by rfl) (by rfl)) (@af _) (by rfl)) (by decide) (by decide) (by rfl) (by rfl)) (by rfl) (by trivial)) (@ak _ _ _ (@lF _ _ _ _ _ _ _ _ _ hu (@pv _ 0 _ _ (by rfl) (by trivial) (by decide) (by decide)) (@pv _ 3 _ _ (by rfl) (by trivial) (by decide) (by decide)) (@aH _ _ _ _ _ _ _ _ bR (@oW _ _ _ _ _ _ _ _ _ hu (@pv _ 0 _ _ (by rfl) (by trivial) (by decide) (by decide)) (@pv _ 3 _ _ (by rfl) (by trivial) (by decide) (by decide)) (@ai _ _ _ _) ⟨rfl, rfl, rfl, rfl⟩) (@pv _ 2 _ _ (by rfl) (by trivial) (by decide) (by decide))) rfl))), ?_⟩
 refine ⟨_, rfl, b, ks, rfl, SqT.of hb, by omega, fun l qs hl pq pw => ⟨l, _, rfl, .inl ⟨SqL.of ad, fun t ht => ?_⟩⟩⟩
 have S := (ae hl (.lst (qs.map V.str))).trans (ae ht (.tup (qs.map V.str)))
 have D2 := bq D S
 refine gnm ?_
 dsimp only
 exact ⟨_, rfl, d, m, rfl, D2, _, rfl, m, qs, t, 0, D2, rfl, ad, rfl, _, rfl, _, _, rfl, rfl, _, rfl, _, rfl, d, m, qs, t, _, rfl, D2, rfl, ad, rfl, lm, fun H4 s4 D4 => q H4 qs (fun g o hg e => s4 g o hg (S _ _ e)) pw pq D4⟩
end
abbrev eI : Stmt := top 16
abbrev cJ : Stmt := top 17
structure MOk (m : List TM) : Prop where
 sd : ∀ p ∈ m, Sd p.1
 lo : ∀ p ∈ m, 0 <= p.2
 key : ∀ p ∈ m, p.1.length <= 8
 len : m.length <= 5000
def iT (K : PySem.W.Frag) (P : Program) (w : World) : Sp := fun vs H Q _ => ∃ (d : Addr) (m : List TM), vs = [.ref d] /\ Dt P w H d m /\ MOk m /\
 ∀ (H' : Hp) (v : V) (m' : List PM), ao H H' -> SmT K H' m' v -> Up m' -> m'.Perm (tl m) -> Q v H'
def gX (P : Program) (w : World) : Sp := fun vs H Q _ => ∃ (d e : Addr) (m : List TM) (nums : List Pr), vs = [.ref d, .ref e] /\ Dt P w H d m /\ NB nums /\ H e = some (.dK (dk nums)) /\ ∀ H', ao H H' -> Q (.int (swT (pt (tm nums)) m)) H'
theorem oh {m : List TM} {i : Nat} {p : TM} (h : m[i]? = some p) : tl (m.take (i + 1)) = tl (m.take i) ++ if 0 < p.2 then [(pn p.1, p.2)] else [] := by
 unfold tl
 rw [List.take_add_one, h, List.filter_append, List.map_append]
 congr 1
 rw [show (some p).toList = [p] from rfl]
 by_cases e : 0 < p.2 <;> simp [e]
theorem eP (g : List Str -> Int) {m : List TM} {i : Nat} {p : TM} (h : m[i]? = some p) : swT g (m.take (i + 1)) = swT g (m.take i) + p.2 * g p.1 := by
 rw [List.take_add_one, h, eB]
 show _ + (p.2 * g p.1 + 0) = _
 omega
theorem dJ {α β : Type} {R : α -> β -> Prop} : ∀ {xs : List α} {ys : List β}, Paired R xs ys -> ∀ {i : Nat} {y : β}, ys[i]? = some y -> ∃ x, xs[i]? = some x /\ R x y := br
theorem iO (g : Str -> Int) : ∀ xs ys, pt g (xs ++ ys) = pt g xs * pt g ys
 | [], ys => by show pt g ys = 1 * pt g ys; rw [Int.one_mul]
 | x :: xs, ys => by show g x * pt g (xs ++ ys) = g x * pt g xs * pt g ys; rw [iO g xs ys, Int.mul_assoc]
theorem lU {H H' : Hp} (t : eJ H H') {ps : List Pr} {us : List V} (h : Reps H (aD ps) us) : Reps H' (aD ps) us := fO (fun d hd v r => by
 cases gL ps with
 | tup h => exact ki t (h d hd) r) h
theorem wC {ks qs : List Str} (nd : qs.Nodup) (pw : qs.Pairwise lA) (mem : ∀ x, x ∈ qs ↔ x ∈ ks) : qs.map (fun x => ((x, ((ks.count x : Nat) : Int)) : Pr)) = pn ks := by
 have names : (qs.map (fun x => ((x, ((ks.count x : Nat) : Int)) : Pr))).map (·.1) = qs := by rw [List.map_map]; exact List.map_id _
 refine rA ⟨List.pairwise_map.mpr pw, fun p hp => ?_⟩ fun x => ?_
 ·obtain ⟨x, hx, rfl⟩ := List.mem_map.mp hp
  have := List.count_pos_iff.mpr ((mem x).mp hx)
  show 1 <= ((ks.count x : Nat) : Int)
  omega
 ·by_cases h : x ∈ qs
  ·exact jx (by rw [names]; exact nd) (p := (x, ((ks.count x : Nat) : Int))) (List.mem_map_of_mem (f := fun x => ((x, ((ks.count x : Nat) : Int)) : Pr)) h)
  ·rw [dI fun p hp e => h (by obtain ⟨y, hy, rfl⟩ := List.mem_map.mp hp; rw [<- e]; exact hy), List.count_eq_zero.mpr fun z => h ((mem x).mpr z)]
   rfl
section
variable {P : Program} {w : World} {K : PySem.W.Frag} {mg : Str -> Option Value} {base : Heap}
theorem oz : aR ["_law_model", "_law_found", "_law_names_here", "_law_powers", "_law_name"] ["_law_model"] (aj eI) := ⟨rfl, rfl, rfl, by decide +kernel, rfl, by decide +kernel, by decide +kernel⟩
theorem tP {f : Addr} {fd : FuncData} (F : Fun K "_law_told" "_law_told" eI f fd) (T : Txt K mg) : bu P w K mg base CX0 1 f fd ["_law_model"] (iT K P w) := by
 have nd : (["_law_model", "_law_found", "_law_names_here", "_law_powers", "_law_name"] : List Str).Nodup := oz.nd
 refine F.ok oz (fun vs H Q E h => ?_) (fun cdv A outer s H vs Q E hr h => ?_)
 ·obtain ⟨d, m, rfl, _⟩ := h
  rfl
 obtain ⟨d, m, rfl, D, mo, q⟩ := h
 have hu := eO hr
 have hu64 := hr.units
 have hu10 : (A.deeper (PyProof.Rows.envOfC "_law_told" (aj eI) s.heap.objs.size f cdv)).units + 10 < cLine := by omega
 obtain ⟨o, xs, dz⟩ := id D
 obtain ⟨hd, _, _, ndm, pr⟩ := id dz
 have lx := fE pr
 have l1000 := mo.len
 refine ⟨_, (@ah _ _ _ _ _ (@aB _ _ (1) _ _ _ _ nd rfl (Or.inl rfl) (@bQ _ _ _ _ (@af _)) (by rfl) (by trivial)) (@ah _ _ _ _ _ (@bg _ _ _ _ _ _ _ _ PassesOwn.never rfl (@rc _ _ _ _ (@pv _ 0 _ _ (by rfl) (by trivial) (by decide) (by decide))) (@au _ _ (2) _ nd rfl (Or.inl rfl) (by trivial)) (@ah _ _ _ _ _ (@aB _ _ (3) _ _ _ _ nd rfl (Or.inl rfl) (@bQ _ _ _ _ (@af _)) (by rfl) (by trivial)) (@ah _ _ _ _ _ (@bg _ _ _ _ _ _ _ _ PassesOwn.never rfl (@eN _ _ _ _ (@aS _ _ _ _ _ _ _ _ _ (jL rfl) rfl T.sorted (by decide +kernel) (@aa _ _ _ _ _ (@aW _ _ _ _ _ _ _ _ _ (pB rfl) rfl T.set (by decide +kernel) (@aa _ _ _ _ _ (@pv _ 2 _ _ (by rfl) (by trivial) (by decide) (by decide)) (@af _) (by rfl)) (by decide) (by decide) (by rfl) (by rfl)) (@af _) (by rfl)) (by decide) (by decide) (by rfl) (by rfl))) (@au _ _ (4) _ nd rfl (Or.inl rfl) (by trivial)) (@ak _ _ _ (@cA _ _ _ _ (@lD _ _ _ _ _ _ _ _ _ _ _ _ PySem.F.plainAttrs_list PySem.F.slot_list_append PySem.F.type_list_append cT (@pv _ 3 _ _ (by rfl) (by trivial) (by decide) (by decide)) (@aa _ _ _ _ _ (@bX _ _ _ _ _ (@aa _ _ _ _ _ (@pv _ 4 _ _ (by rfl) (by trivial) (by decide) (by decide)) (@aa _ _ _ _ _ (@qo _ _ _ _ _ _ _ (@pv _ 2 _ _ (by rfl) (by trivial) (by decide) (by decide)) (@pv _ 4 _ _ (by rfl) (by trivial) (by decide) (by decide)) ⟨rfl, rfl, rfl, rfl⟩) (@af _) (by rfl)) (by rfl))) (@af _) (by rfl)) (by rfl) (by rfl) (by rfl) (by rfl) (by rfl)) (by rfl))) (by intro _; rfl)) (@ak _ _ _ (@cD _ _ _ _ _ _ _ _ (@bA _ _ _ _ _ _ _ _ kw (@kj _ _ _ _ _ _ hu (@pv _ 0 _ _ (by rfl) (by trivial) (by decide) (by decide)) (@pv _ 2 _ _ (by rfl) (by trivial) (by decide) (by decide)) (fun _ _ => rfl)) (@ai _ _ _ _) (bI _)) (@ak _ _ _ (@cA _ _ _ _ (@lD _ _ _ _ _ _ _ _ _ _ _ _ PySem.F.plainAttrs_list PySem.F.slot_list_append PySem.F.type_list_append cT (@pv _ 1 _ _ (by rfl) (by trivial) (by decide) (by decide)) (@aa _ _ _ _ _ (@bX _ _ _ _ _ (@aa _ _ _ _ _ (@aW _ _ _ _ _ _ _ _ _ aU rfl T.tuple (by decide +kernel) (@aa _ _ _ _ _ (@pv _ 3 _ _ (by rfl) (by trivial) (by decide) (by decide)) (@af _) (by rfl)) (by decide) (by decide) (by rfl) (by rfl)) (@aa _ _ _ _ _ (@kj _ _ _ _ _ _ hu (@pv _ 0 _ _ (by rfl) (by trivial) (by decide) (by decide)) (@pv _ 2 _ _ (by rfl) (by trivial) (by decide) (by decide)) (fun _ _ => rfl)) (@af _) (by rfl)) (by rfl))) (@af _) (by rfl)) (by rfl) (by rfl) (by rfl) (by rfl) (by rfl)) (by rfl))) (@bo _))))) (by intro _; rfl)) (@ak _ _ _ (@aT _ _ _ _ (@aW _ _ _ _ _ _ _ _ _ aU rfl T.tuple (by decide +kernel) (@aa _ _ _ _ _ (@aS _ _ _ _ _ _ _ _ _ (js hu10) rfl T.sorted (by decide +kernel) (@aa _ _ _ _ _ (@pv _ 1 _ _ (by rfl) (by trivial) (by decide) (by decide)) (@af _) (by rfl)) (by decide) (by decide) (by rfl) (by rfl)) (@af _) (by rfl)) (by decide) (by decide) (by rfl) (by rfl)))))), ?_⟩
 refine ⟨Nat.zero_le _, fun L hL => ?_⟩
 have q0 := ae hL (.lst [])
 have Dq : ∀ {H'}, ao H H' -> Dt P w H' d m := fun s => bq D s
 refine ⟨_, rfl, d, o, xs, m, rfl, ⟨q0 _ _ hd, dz.2.1, dz.2.2.1, ndm, ci (ao.tups q0) pr⟩, px (xs := xs) (fun i σ H' => ∃ (ts : List IT) (o2 o3 o4 : Option V), σ = [some (.ref d), some (.ref L), o2, o3, o4] /\ ao H H' /\ H' L = some (.lst (ts.map fun t => V.ref t.1)) /\ (∀ t ∈ ts, nc K H' t) /\ ts.map (·.2.2) = tl (m.take i) /\ ts.length <= i) ⟨[], _, _, _, rfl, q0, ad, by simp, rfl, Nat.le_refl _⟩ (fun i σ H' _ ⟨_, _, _, _, _, s, _⟩ => s _ _ hd) ?_ ?_⟩
 ·rintro i y σ H1 hy ⟨ts, o2, o3, o4, rfl, s1, L1, ok1, e1, lt1⟩
  obtain ⟨p, hp, tv⟩ := dJ pr hy
  have hi : i < xs.length := (List.getElem?_eq_some_iff.mp hy).1
  have mp := List.mem_of_getElem? hp
  have kb1 := s1 _ _ tv.2.1
  have k8 := mo.key p mp
  refine ⟨Nat.zero_le _, fun R hR => ?_⟩
  have q1 := ae hR (.lst [])
  refine ⟨_, rfl, y.2.1, p.1, rfl, .inr (SqT.of (q1 _ _ kb1)), by omega, fun S zs hS ndz memz lz => ?_⟩
  have q2 := ae hS (SetO P w S zs)
  refine ⟨S, zs, rfl, ad, ndz, by omega, fun l qs hl pq pw => ?_⟩
  have q3 := ae hl (.lst (qs.map V.str))
  have S3 := q1.trans (q2.trans q3)
  have lR : l ≠ R := Ne.symm (ag (q2 _ _ ad) hl)
  have ndq : qs.Nodup := pq.nodup_iff.mpr ndz
  have memq : ∀ x, x ∈ qs ↔ x ∈ p.1 := fun x => (pq.mem_iff).trans (memz x)
  have lq : qs.length <= 8 := by rw [pq.length_eq]; omega
  have hl3 : upd (upd (upd H1 R (.lst [])) S (SetO P w S zs)) l (.lst (qs.map V.str)) l = some (.lst (qs.map V.str)) := ad
  have hR3 : upd (upd (upd H1 R (.lst [])) S (SetO P w S zs)) l (.lst (qs.map V.str)) R = some (.lst []) := q3 _ _ (q2 _ _ ad)
  refine ⟨l, rfl, ⟨_, SqL.of hl3⟩, dq (xs := qs.map V.str) (fun j σ H' => ∃ (us : List V) (o4 : Option V), σ = [some (.ref d), some (.ref L), some (.ref y.2.1), some (.ref R), o4] /\ ao H1 H' /\ H' l = some (.lst (qs.map V.str)) /\ H' R = some (.lst us) /\ Reps H' (aD ((qs.take j).map fun x => ((x, ((p.1.count x : Nat) : Int)) : Pr))) us) ⟨[], _, rfl, S3, hl3, hR3, by simp only [List.take_zero, List.map_nil, aD, Reps]⟩ (fun j σ H' _ ⟨_, _, _, _, h, _⟩ => SqL.of h) ?_ ?_⟩
  ·rintro j x σ H4 hx ⟨us, o4, rfl, s4, l4, R4, ru⟩
   rw [List.getElem?_map] at hx
   obtain ⟨x', hx', rfl⟩ := Option.map_eq_some_iff.mp hx
   have hj : j < qs.length := (List.getElem?_eq_some_iff.mp hx').1
   have lu : us.length = j := by have := ru.length; simp only [aD, List.length_map, List.length_take] at this; omega
   have kb4 := s4 _ _ kb1
   refine ⟨_, rfl, .inl ⟨rfl, _, SqL.of R4⟩, _, rfl, _, rfl, y.2.1, _, rfl, kb4, _, rfl, p.1, x', rfl, kb4, z2, fun t ht => ?_⟩
   have q5 := ae ht (.tup [.str x', .int ((p.1.count x' : Nat) : Int)])
   have R5 := q5 _ _ R4
   refine ⟨R, _, _, rfl, rfl, R5, by rw [sizeLine_eq]; omega, ?_⟩
   have s6 := aA.upd (upd H4 t (.tup [.str x', .int ((p.1.count x' : Nat) : Int)])) R (.lst (us ++ [.ref t]))
   have t6 := s6.tups R5
   have RH1 : H1 R = none := hR
   refine ⟨us ++ [.ref t], _, rfl, fun g o hg => s6 g o (ag hg RH1) (q5 _ _ (s4 _ _ hg)), s6 _ _ lR (q5 _ _ l4), ad, ?_⟩
   rw [List.take_add_one, hx', List.map_append, aD, List.map_append]
   refine Reps.append (lU ((ao.tups q5).trans t6) ru) ?_
   ·simp only [Option.toList, List.map_cons, List.map_nil, Reps, Rep]
    exact ⟨_, _, rfl, ⟨t, _, rfl, t6 _ _ ad, _, _, rfl, rfl, _, _, rfl, rfl, rfl⟩, rfl⟩
  ·rintro σ H4 ⟨us, o4, rfl, s4, l4, R4, ru⟩
   rw [List.length_map, List.take_length, wC ndq pw memq] at ru
   have S4 := s1.trans s4
   have kb4 := s4 _ _ kb1
   have hg : bF m p.1 = some p.2 := kg ndm mp
   have L4 := s4 _ _ L1
   refine ⟨_, rfl, _, rfl, d, m, p.1, y.2.1, p.2, rfl, Dq S4, rfl, kb4, hg, _, _, rfl, rfl, _, rfl, hW (fun h => ?_) (fun h => ?_)⟩
   ·have h0 : 0 < p.2 := of_decide_eq_true h
    refine ⟨_, rfl, .inl ⟨rfl, _, SqL.of L4⟩, _, rfl, R, _, rfl, .inl ⟨SqL.of R4, fun t ht => ?_⟩⟩
    have q5 := ae ht (.tup us)
    refine ⟨_, rfl, _, rfl, d, m, p.1, y.2.1, p.2, rfl, Dq (S4.trans q5), rfl, q5 _ _ kb4, hg, z2, fun c hc => ?_⟩
    have q6 := ae hc (.tup [.ref t, .int p.2])
    have L6 := q6 _ _ (q5 _ _ L4)
    refine ⟨L, _, _, rfl, rfl, L6, by rw [List.length_map, sizeLine_eq]; omega, ?_⟩
    have s7 := aA.upd (upd (upd H4 t (.tup us)) c (.tup [.ref t, .int p.2])) L (.lst ((ts.map fun t => V.ref t.1) ++ [.ref c]))
    have t7 := s7.tups L6
    refine ⟨ts ++ [(c, t, (pn p.1, p.2))], _, _, _, rfl, fun g o hg => s7 g o (ag hg hL) (q6 _ _ (q5 _ _ (S4 _ _ hg))), by rw [ad, List.map_append]; rfl, fun x hx => ?_, by rw [List.map_append, e1, oh hp, if_pos h0]; rfl, by rw [List.length_append]; simp; omega⟩
    rcases List.mem_append.mp hx with hx | hx
    ·have := ok1 x hx
     exact ⟨t7 _ _ (q6 _ _ (q5 _ _ (s4 _ _ this.at_))), ((this.key.mono s4).mono (q5.trans q6)).tups t7⟩
    ·rw [List.mem_singleton.mp hx]
     refine ⟨t7 _ _ ad, .inl ?_⟩
     simp only [Rep]
     refine ⟨t, us, rfl, t7 _ _ (q6 _ _ ad), lU ((ao.tups (q5.trans q6)).trans t7) ru⟩
   ·refine tnx ⟨ts, _, _, _, rfl, S4, L4, fun x hx => ⟨s4 _ _ (ok1 x hx).at_, (ok1 x hx).key.mono s4⟩, ?_, by omega⟩
    rw [e1, oh hp, if_neg (fun z => h (decide_eq_true z)), List.append_nil]
 ·rintro σ H1 ⟨ts, o2, o3, o4, rfl, s1, L1, ok1, e1, lt1⟩
  rw [<- lx, List.take_length] at e1
  refine ⟨_, rfl, L, ts, rfl, L1, ok1, ?_, by omega, fun l ts' hl pq pw => ⟨l, _, rfl, .inl ⟨SqL.of ad, fun t ht => ?_⟩⟩⟩
  ·have : ts.map (fun t => t.2.2.1) = (tl m).map (·.1) := by rw [<- e1, List.map_map]; rfl
   rw [this]; exact sK ndm mo.sd
  ·have q2 := ae hl (.lst (ts'.map fun t => V.ref t.1))
   have q3 := ae ht (.tup (ts'.map fun t => V.ref t.1))
   refine q _ (.ref t) (ts'.map (·.2.2)) (s1.trans (q2.trans q3)) ⟨t, _, rfl, ad, jP fun x hx => ?_⟩ (List.pairwise_map.mpr pw) (by rw [<- e1]; exact pq.map _)
   have := ok1 x (pq.mem_iff.mp hx)
   exact ⟨q3 _ _ (q2 _ _ this.at_), this.key.mono (q2.trans q3)⟩
theorem iQ : aR ["_law_model", "_law_numbers_here", "_law_total", "_law_names_here", "_law_times", "_law_name"] ["_law_model", "_law_numbers_here"] (aj cJ) := ⟨rfl, rfl, rfl, by decide +kernel, rfl, by decide +kernel, by decide +kernel⟩
theorem pO {f : Addr} {fd : FuncData} (F : Fun K "_law_worth" "_law_worth" cJ f fd) (T : Txt K mg) : bu P w K mg base CX0 1 f fd ["_law_model", "_law_numbers_here"] (gX P w) := by
 have nd : (["_law_model", "_law_numbers_here", "_law_total", "_law_names_here", "_law_times", "_law_name"] : List Str).Nodup := iQ.nd
 refine F.ok iQ (fun vs H Q E h => ?_) (fun cdv A outer s H vs Q E hr h => ?_)
 ·obtain ⟨d, e, m, nums, rfl, _⟩ := h
  rfl
 obtain ⟨d, e, m, nums, rfl, D, hn, he, q⟩ := h
 have hu := eO hr
 obtain ⟨o, xs, dz⟩ := id D
 obtain ⟨hd, _, _, ndm, pr⟩ := id dz
 have lx := fE pr
 refine ⟨_, (@ah _ _ _ _ _ (@aB _ _ (2) _ _ _ _ nd rfl (Or.inl rfl) (@ai _ _ _ _) (by rfl) (by trivial)) (@ah _ _ _ _ _ (@bg _ _ _ _ _ _ _ _ PassesOwn.never rfl (@fF _ _ _ _ _ _ (@cN _ _ _ _ _ (@pv _ 0 _ _ (by rfl) (by trivial) (by decide) (by decide)) (by rfl) (by rfl))) (@bG _ _ _ _ _ _ rfl (@aE _ _ _ _ _ (@au _ _ (3) _ nd rfl (Or.inl rfl) (by trivial)) (@aE _ _ _ _ _ (@au _ _ (4) _ nd rfl (Or.inl rfl) (by trivial)) (@bp _) (by rfl)) (by rfl)) (by rfl) (by rfl)) (@ah _ _ _ _ _ (@bg _ _ _ _ _ _ _ _ PassesOwn.never rfl (@df _ _ _ _ (@pv _ 3 _ _ (by rfl) (by trivial) (by decide) (by decide))) (@au _ _ (5) _ nd rfl (Or.inl rfl) (by trivial)) (@ak _ _ _ (@aB _ _ (4) _ _ _ _ nd rfl (Or.inl rfl) (@aH _ _ _ _ _ _ _ _ cG (@pv _ 4 _ _ (by rfl) (by trivial) (by decide) (by decide)) (@gJ _ _ _ _ _ _ _ _ _ hu (@pv _ 1 _ _ (by rfl) (by trivial) (by decide) (by decide)) (@pv _ 5 _ _ (by rfl) (by trivial) (by decide) (by decide)) (@ai _ _ _ _) ⟨rfl, rfl, rfl, rfl⟩)) (by rfl) (by trivial))) (by intro _; rfl)) (@ak _ _ _ (@aB _ _ (2) _ _ _ _ nd rfl (Or.inl rfl) (@aH _ _ _ _ _ _ _ _ bR (@pv _ 2 _ _ (by rfl) (by trivial) (by decide) (by decide)) (@pv _ 4 _ _ (by rfl) (by trivial) (by decide) (by decide))) (by rfl) (by trivial)))) (by intro _; rfl)) (@ak _ _ _ (@aT _ _ _ _ (@pv _ 2 _ _ (by rfl) (by trivial) (by decide) (by decide)))))), ?_⟩
 refine ⟨_, rfl, d, m, rfl, D, fun v hv => ?_⟩
 have q0 := ae hv (bj v d)
 refine ⟨v, d, o, xs, m, rfl, ad, ⟨q0 _ _ hd, dz.2.1, dz.2.2.1, ndm, ci (ao.tups q0) pr⟩, eF (xs := xs) (fun i σ H' => ∃ (o3 o4 o5 : Option V), σ = [some (.ref d), some (.ref e), some (.int (swT (pt (tm nums)) (m.take i))), o3, o4, o5] /\ ao H H') ⟨_, _, _, rfl, q0⟩ (fun i σ H' _ ⟨_, _, _, _, s⟩ => s _ _ hd) ?_ ?_⟩
 ·rintro i y n t p σ H1 hy hn' hp0 ⟨o3, o4, o5, rfl, s1⟩
  obtain ⟨r, hr', tv⟩ := dJ pr hy
  obtain ⟨_, kb, t', et⟩ := tv
  rw [hn'] at et
  cases et
  have q1 := ae hp0 (.tup [.ref y.2.1, .int r.2])
  have kb1 := q1 _ _ (s1 _ _ kb)
  refine ⟨p, _, rfl, SqT.of ad, rfl, _, _, rfl, _, _, rfl, rfl, ?_⟩
  have S1 := s1.trans q1
  generalize upd H1 p (.tup [.ref y.2.1, .int r.2]) = H2 at S1 kb1 ⊢
  refine ⟨_, rfl, y.2.1, rfl, ⟨_, SqT.of kb1⟩, cY (xs := r.1.map V.str) (fun j σ H' => H' = H2 /\ ∃ (o5 : Option V), σ = [some (.ref d), some (.ref e), some (.int (swT (pt (tm nums)) (m.take i))), some (.ref y.2.1), some (.int (r.2 * pt (tm nums) (r.1.take j))), o5]) ⟨rfl, _, by rw [List.take_zero]; show _ = [_, _, _, _, some (V.int (r.2 * 1)), _]; rw [Int.mul_one]; rfl⟩ (fun j σ H' _ h => by rw [h.1]; exact SqT.of kb1) ?_ ?_⟩
  ·rintro j x σ H3 hx ⟨rfl, o5, rfl⟩
   rw [List.getElem?_map] at hx
   obtain ⟨x', hx', rfl⟩ := Option.map_eq_some_iff.mp hx
   have e1 := S1 _ _ he
   refine ⟨_, rfl, _, rfl, e, rfl, .inl ⟨_, .inl e1⟩, _, rfl, _, mI.k (k := Sum.inr x') e1, _, tm nums x', rfl, by rw [nX], .inr ⟨by have := hn.lo x'; omega, by have := hn.hi x'; omega⟩, rfl, some (.str x'), ?_⟩
   rw [List.take_add_one, hx', iO]
   show _ = [_, _, _, _, some (V.int (r.2 * (pt (tm nums) (r.1.take j) * (tm nums x' * 1)))), _]
   rw [Int.mul_one, <- Int.mul_assoc]; rfl
  ·rintro σ H3 ⟨rfl, o5, rfl⟩
   rw [List.length_map, List.take_length]
   refine ⟨_, rfl, _, rfl, _, _, rfl, rfl, some (.ref y.2.1), some (.int (r.2 * pt (tm nums) r.1)), o5, ?_, S1⟩
   rw [eP _ hr']; rfl
 ·rintro σ H1 ⟨o3, o4, o5, rfl, s1⟩
  rw [<- lx, List.take_length]
  exact ⟨_, rfl, q _ s1⟩
end
abbrev eC : Stmt := top 18
abbrev cj : Stmt := top 19
def fQ : Sp := fun vs H Q _ => ∃ (a b : Addr) (xs : List Str), vs = [.ref a, .ref b] /\ St2 H a /\ H b = some (.lst (xs.map V.str)) /\ b ≠ a /\ xs.length = 6 /\ (∀ x ∈ xs, nmB x = true) /\
 ∀ (H' : Hp) (d : Addr) (nums : List Pr), aA a H H' -> St2 H' a -> H d = none -> H' d = some (.dK (dk nums)) -> NB nums -> nums.length <= 100 -> Q (.ref d) H'
def mO (K : PySem.W.Frag) (P : Program) (w : World) : Sp := fun vs H Q _ => ∃ (v : V) (d e : Addr) (mf : List PM) (m : List TM) (nums : List Pr), vs = [v, .ref d, .ref e] /\ SmT K H mf v /\ Up mf /\ (∀ p ∈ mf, 1 <= p.2) /\ Dt P w H d m /\ MOk m /\ (∀ g, sw g mf = wT g m) /\ NB nums /\ H e = some (.dK (dk nums)) /\
 ∀ H', ao H H' -> Q (.bl true) H'
theorem vI {ps : List Pr} {B : Int} (h0 : 0 <= B) (h : ∀ p ∈ ps, p.2 <= B) (x : Str) : tm ps x <= B := by
 induction ps with
 | nil => exact h0
 | cons p ps ih =>
  show (if p.1 = x then p.2 else tm ps x) <= B
  split
  ·exact h p List.mem_cons_self
  ·exact ih fun q hq => h q (List.mem_cons_of_mem _ hq)
theorem tT {nums : List Pr} (nd : (nums.map (·.1)).Nodup) (h : ∀ p ∈ nums, 0 <= p.2 /\ p.2 <= 60) : NB nums := ⟨fI fun p hp => (h p hp).1, vI (by decide) fun p hp => (h p hp).2, nd⟩
theorem wn {i : Int} (h0 : 0 <= i) (h1 : i < 3) : ∃ n : Int, atI ([V.int 0, V.int 1, V.int 2] : List V) i = some (.int n) /\ 0 <= n /\ n <= 60 := by
 have e : i = 0 \/ i = 1 \/ i = 2 := by omega
 rcases e with rfl | rfl | rfl
 ·exact ⟨0, aq (j := 0) rfl, by decide⟩
 ·exact ⟨1, aq (j := 1) rfl, by decide⟩
 ·exact ⟨2, aq (j := 2) rfl, by decide⟩
theorem mH {m : List TM} {p : PM} (h : p ∈ tl m) : ∃ q ∈ m, p = (pn q.1, q.2) /\ 1 <= q.2 := by
 obtain ⟨q, hq, rfl⟩ := List.mem_map.mp h
 obtain ⟨h1, h2⟩ := List.mem_filter.mp hq
 exact ⟨q, h1, rfl, of_decide_eq_true h2⟩
theorem kok {m : List TM} (mo : MOk m) {p : PM} (h : p ∈ tl m) : KOk 8 p.1 := by
 obtain ⟨q, hq, rfl, _⟩ := mH h
 obtain ⟨c, _, _, s, l⟩ := gW (fun _ => 0) q.1
 have k8 := mo.key q hq
 exact ⟨by show (pn q.1).length <= 8; omega, fun r hr => Int.le_trans (by decide) (c.ge r hr), by show bf (pn q.1) <= 8; rw [s]; omega⟩
section
variable {P : Program} {w : World} {K : PySem.W.Frag} {mg : Str -> Option Value} {base : Heap}
theorem hE : aR ["_law_state_here", "_law_names_here", "_law_numbers_here", "_law_k", "_law_way"] ["_law_state_here", "_law_names_here"] (aj cj) := ⟨rfl, rfl, rfl, by decide +kernel, rfl, by decide +kernel, by decide +kernel⟩
theorem mG {f : Addr} {fd : FuncData} {k0 : Nat} (F : Fun K "_law_numbers" "_law_numbers" cj f fd) (T : Txt K mg) (D_law_draw : Def P w K mg base k0 "_law_draw" ["_law_state_here", "_law_many"] fS) : bu P w K mg base CX0 (k0 + 1) f fd ["_law_state_here", "_law_names_here"] fQ := by
 have nd : (["_law_state_here", "_law_names_here", "_law_numbers_here", "_law_k", "_law_way"] : List Str).Nodup := hE.nd
 refine F.ok hE (fun vs H Q E h => ?_) (fun cdv A outer s H vs Q E hr h => ?_)
 ·obtain ⟨a, b, xs, rfl, _⟩ := h
  rfl
 obtain ⟨a, b, xs, rfl, st, hb, hba, lx, hnm, q⟩ := h
 have hu := eO hr
 obtain ⟨x0, h0⟩ : ∃ x0, xs[0]? = some x0 := ⟨xs[0], List.getElem?_eq_getElem (by omega)⟩
 have n0 := hnm x0 (List.mem_of_getElem? h0)
 have lx0 : x0.length <= 8 := by
  unfold nmB at n0
  simp only [Bool.and_eq_true, decide_eq_true_eq] at n0
  exact n0.1.2
 refine ⟨_, (@ah _ _ _ _ _ (@aB _ _ (2) _ _ _ _ nd rfl (Or.inl rfl) (@rY _ _ _ _ _ (@kG _ _ _ _ _ _ _ _ _ (@aH _ _ _ _ _ _ _ _ cZ (@mK _ _ _ _) (@fj _ _ _ _ _ _ _ _ _ _ jy (@bd _ _ _ _ _ _ _ aN (@pv _ 1 _ _ (by rfl) (by trivial) (by decide) (by decide)) (@ai _ _ _ _) (fun _ _ => rfl)) (@gd _) (@gl _ _ _ (@ai _ _ _ _)))) (@ai _ _ _ _) (@nA _ _)) rfl rfl (by simp) (Nat.le_of_ble_eq_true rfl)) (by rfl) (by trivial)) (@ah _ _ _ _ _ (@bg _ _ _ _ _ _ _ _ PassesOwn.never rfl (@dP _ _ _ _ _ _ rfl T.range (@aa _ _ _ _ _ (@ai _ _ _ _) (@af _) (by rfl)) (by rfl)) (@au _ _ (3) _ nd rfl (Or.inl rfl) (by trivial)) (@ah _ _ _ _ _ (@aB _ _ (4) _ _ _ _ nd rfl (Or.inl rfl) (@av _ _ _ _ _ _ _ _ _ _ D_law_draw hr rfl (@aa _ _ _ _ _ (@pv _ 0 _ _ (by rfl) (by trivial) (by decide) (by decide)) (@aa _ _ _ _ _ (@ai _ _ _ _) (@af _) (by rfl)) (by rfl)) (by decide) (by rfl) (by rfl)) (by rfl) (by trivial)) (@ah _ _ _ _ _ (@fi _ _ _ _ _ _ _ _ _ hu (@pv _ 2 _ _ (by rfl) (by trivial) (by decide) (by decide)) (@bd _ _ _ _ _ _ _ aN (@pv _ 1 _ _ (by rfl) (by trivial) (by decide) (by decide)) (@pv _ 3 _ _ (by rfl) (by trivial) (by decide) (by decide)) (fun _ _ => rfl)) (@bd _ _ _ _ _ _ _ aN (@bQ _ _ _ _ (@aa _ _ _ _ _ (@ai _ _ _ _) (@aa _ _ _ _ _ (@ai _ _ _ _) (@aa _ _ _ _ _ (@ai _ _ _ _) (@af _) (by rfl)) (by rfl)) (by rfl))) (@pv _ 4 _ _ (by rfl) (by trivial) (by decide) (by decide)) (fun _ _ => rfl)) rfl) (@ak _ _ _ (@cD _ _ _ _ _ _ _ _ (@bA _ _ _ _ _ _ _ _ nJ (@pv _ 4 _ _ (by rfl) (by trivial) (by decide) (by decide)) (@ai _ _ _ _) (bI _)) (@ak _ _ _ (@fi _ _ _ _ _ _ _ _ _ hu (@pv _ 2 _ _ (by rfl) (by trivial) (by decide) (by decide)) (@bd _ _ _ _ _ _ _ aN (@pv _ 1 _ _ (by rfl) (by trivial) (by decide) (by decide)) (@pv _ 3 _ _ (by rfl) (by trivial) (by decide) (by decide)) (fun _ _ => rfl)) (@av _ _ _ _ _ _ _ _ _ _ D_law_draw hr rfl (@aa _ _ _ _ _ (@pv _ 0 _ _ (by rfl) (by trivial) (by decide) (by decide)) (@aa _ _ _ _ _ (@ai _ _ _ _) (@af _) (by rfl)) (by rfl)) (by decide) (by rfl) (by rfl)) rfl)) (@bo _))))) (by intro _; rfl)) (@ak _ _ _ (@aT _ _ _ _ (@pv _ 2 _ _ (by rfl) (by trivial) (by decide) (by decide)))))), ?_⟩
 refine fun d hd => ?_
 have q1 := ae hd (.dK [])
 refine ⟨_, rfl, b, _, 0, .str x0, rfl, rfl, SqL.of (q1 _ _ hb), aq (j := 0) (by rw [List.getElem?_map, h0]; rfl), _, rfl, _, rfl, by rw [sizeLine_eq]; omega, _, _, rfl, rfl, ?_, ?_⟩
 ·have e1 : (Txt.slice x0 none (some 6)).length <= x0.length := Txt.slice_le x0 none (some 6)
  have e2 : (Str.ofString "qz").length = 2 := by decide +kernel
  rw [sizeLine_eq, e2]; omega
 refine ⟨ad, [(Sum.inr _, .int 3)], rfl, Nat.le_of_ble_eq_true rfl, ?_⟩
 generalize Str.ofString "qz" ++ Txt.slice x0 none (some 6) = key
 rw [dL]
 have q2 : ao H (upd H d (.dK (dk [(key, 3)]))) := ae hd _
 have da : d ≠ a := fun e => by obtain ⟨n, c, e2⟩ := st; rw [e, e2] at hd; cases hd
 have db : b ≠ d := ag hb hd
 refine gnm ?_
 dsimp only
 have Hd : upd H d (.dK (fT [] [((Sum.inr key : Key), V.int 3)])) d = some (.dK (dk [(key, 3)])) := ad
 refine ⟨5, rfl, by decide, by decide, dN (lo := 0) (n := 5) (fun i σ H' => ∃ (nums : List Pr) (o3 o4 : Option V), σ = [some (.ref a), some (.ref b), some (.ref d), o3, o4] /\ aA a H H' /\ St2 H' a /\ H' d = some (.dK (dk nums)) /\ (nums.map (·.1)).Nodup /\ (∀ p ∈ nums, 0 <= p.2 /\ p.2 <= 60) /\ nums.length <= 1 + 2 * i) ⟨[(key, 3)], _, _, rfl, ao.b a q2, st.m q2, Hd, by simp, fun p hp => by rw [List.mem_singleton.mp hp]; show (0 : Int) <= 3 /\ (3 : Int) <= 60; decide, Nat.le_refl _⟩ ?T1 ?_⟩
 case T1 =>
  rintro i σ H2 hi ⟨nums, o3, o4, rfl, s2, st2, d2, ndn, hall, ln⟩
  refine ⟨_, rfl, a, 3, rfl, st2, by decide, by decide, fun H3 y s3 st3 y0 y1 => ?_⟩
  have b3 : H3 b = some (.lst (xs.map V.str)) := s3 _ _ hba (s2 _ _ hba hb)
  have d3 := s3 _ _ da d2
  obtain ⟨nm, hnm'⟩ : ∃ nm, xs[i]? = some nm := ⟨xs[i], List.getElem?_eq_getElem (by omega)⟩
  have ati : atI (xs.map V.str) (0 + (i : Int)) = some (.str nm) := by rw [Int.zero_add]; exact aq (j := i) (by rw [List.getElem?_map, hnm']; rfl)
  have szd : ∀ kv : List Pr, kv.length <= 20 -> (dk kv).length < sizeLine := fun kv h => by rw [show (dk kv).length = kv.length from List.length_map _, sizeLine_eq]; omega
  obtain ⟨n, hn, n0, n60⟩ := wn y0 y1
  refine ⟨z3, fun l hl => ?_⟩
  have q4 := ae hl (.lst [V.int 0, .int 1, .int 2])
  refine ⟨_, rfl, l, _, _, .int n, rfl, rfl, SqL.of ad, hn, _, rfl, _, rfl, _, rfl, b, _, _, .str nm, rfl, rfl, SqL.of (q4 _ _ b3), ati, d, _, rfl, iY.k (k := Sum.inr nm) (q4 _ _ d3) (szd _ (by omega)), ?_⟩
  have put : ∀ (H4 : Hp) (kv : List Pr) (n : Int), (kv.map (·.1)).Nodup -> (∀ p ∈ kv, 0 <= p.2 /\ p.2 <= 60) -> aA a H H4 -> St2 H4 a -> H4 d = some (.dK (dk kv)) -> 0 <= n -> n <= 60 ->
    (aA a H (upd H4 d (.dK (bU (dk kv) (Sum.inr nm) (.int n)))) /\ St2 (upd H4 d (.dK (bU (dk kv) (Sum.inr nm) (.int n)))) a /\ upd H4 d (.dK (bU (dk kv) (Sum.inr nm) (.int n))) d = some (.dK (dk (bi kv nm n))) /\ ((bi kv nm n).map (·.1)).Nodup /\ (bi kv nm n).length <= kv.length + 1 /\ ∀ p ∈ bi kv nm n, 0 <= p.2 /\ p.2 <= 60) := fun H4 kv n ndv hv s4 st4 d4 n1 nm' =>
   ⟨fun g o hg e => by rw [ap (ag e hd)]; exact s4 g o hg e, st4.b (aA.upd _ _ _) (Ne.symm da), by rw [ad, mV], dR ndv, eL _ _ _, fg (R := fun p => 0 <= p.2 /\ p.2 <= 60) hv ⟨n1, nm'⟩⟩
  obtain ⟨s5, st5, d5, nd5, l5, a5⟩ := put _ nums n ndn hall (s2.trans (s3.trans (ao.b a q4))) (st3.m q4) (q4 _ _ d3) n0 n60
  have b5 : upd (upd H3 l (.lst [V.int 0, .int 1, .int 2])) d (.dK (bU (dk nums) (Sum.inr nm) (.int n))) b = some (.lst (xs.map V.str)) := by rw [ap db]; exact q4 _ _ b3
  generalize upd (upd H3 l (.lst [V.int 0, .int 1, .int 2])) d (.dK (bU (dk nums) (Sum.inr nm) (.int n))) = H5 at s5 st5 d5 b5 ⊢
  generalize bi nums nm n = kv at d5 nd5 l5 a5
  refine ⟨_, rfl, rfl, _, rfl, hW (fun h3 => ?_) (fun h3 => tnx ⟨kv, _, _, rfl, s5, st5, d5, nd5, a5, by omega⟩)⟩
  refine ⟨_, rfl, a, 61, rfl, st5, by decide, by decide, fun H6 z s6 st6 z0 z1 => ?_⟩
  have d6 := s6 _ _ da d5
  refine ⟨_, rfl, _, rfl, _, rfl, b, _, _, .str nm, rfl, rfl, SqL.of (s6 _ _ hba b5), ati, d, _, rfl, iY.k (k := Sum.inr nm) d6 (szd _ (by omega)), ?_⟩
  obtain ⟨s7, st7, d7, nd7, l7, a7⟩ := put _ kv z nd5 a5 (s5.trans s6) st6 d6 z0 (by omega)
  exact ⟨_, _, _, rfl, s7, st7, d7, nd7, a7, by omega⟩
 rintro σ H2 ⟨nums, o3, o4, rfl, s2, st2, d2, ndn, hall, ln⟩
 exact ⟨_, rfl, q _ d nums s2 st2 hd d2 (tT ndn hall) (by omega)⟩
theorem nI : aR ["_law_found", "_law_model", "_law_numbers_here", "_law_many", "_law_total"] ["_law_found", "_law_model", "_law_numbers_here"] (aj eC) := ⟨rfl, rfl, rfl, by decide +kernel, rfl, by decide +kernel, by decide +kernel⟩
theorem sh {f : Addr} {fd : FuncData} {k0 : Nat} (F : Fun K "_law_same" "_law_same" eC f fd) (T : Txt K mg) (D_law_told : Def P w K mg base k0 "_law_told" ["_law_model"] (iT K P w)) (Dsum_worth : Def P w K mg base k0 "sum_worth" ["s", "numbers"] (gB K)) (D_law_worth : Def P w K mg base k0 "_law_worth" ["_law_model", "_law_numbers_here"] (gX P w)) : bu P w K mg base CX0 (k0 + 1) f fd ["_law_found", "_law_model", "_law_numbers_here"] (mO K P w) := by
 have nd : (["_law_found", "_law_model", "_law_numbers_here", "_law_many", "_law_total"] : List Str).Nodup := nI.nd
 refine F.ok nI (fun vs H Q E h => ?_) (fun cdv A outer s H vs Q E hr h => ?_)
 ·obtain ⟨v, d, e, mf, m, nums, rfl, _⟩ := h
  rfl
 obtain ⟨v, d, e, mf, m, nums, rfl, ⟨a, us, rfl, ha, ra⟩, uf, pf, D, mo, hw, hn, he, q⟩ := h
 have hu := eO hr
 have hu64 := hr.units
 have hu10 : (A.deeper (PyProof.Rows.envOfC "_law_same" (aj eC) s.heap.objs.size f cdv)).units + 10 < cLine := by omega
 refine ⟨_, (@ah _ _ _ _ _ (@cD _ _ _ _ _ _ _ _ (@PW.pt _ _ _ (@kJ _ _ _ _ _ _ _ (@fz _ _ _ _ (@dF _ _ _ (@aS _ _ _ _ _ _ _ _ _ gG rfl T.isinstance (by decide +kernel) (@aa _ _ _ _ _ (@pv _ 0 _ _ (by rfl) (by trivial) (by decide) (by decide)) (@aa _ _ _ _ _ (@jV _ _ (.ty "tuple") _ _ rfl T.tuple (by decide +kernel) rfl (by decide) (by decide)) (@af _) (by rfl)) (by rfl)) (by decide) (by decide) (by rfl) (by rfl)) (by intro _; rfl))) (@jz _ _ _ _ (@bA _ _ _ _ _ _ _ _ (uK hu10) (@pv _ 0 _ _ (by rfl) (by trivial) (by decide) (by decide)) (@av _ _ _ _ _ _ _ _ _ _ D_law_told hr rfl (@aa _ _ _ _ _ (@pv _ 1 _ _ (by rfl) (by trivial) (by decide) (by decide)) (@af _) (by rfl)) (by decide) (by rfl) (by rfl)) (bI _))))) (@ak _ _ _ (@aT _ _ _ _ (@gs _ _ _ _))) (@bo _)) (@ah _ _ _ _ _ (@bg _ _ _ _ _ _ _ _ PassesOwn.never rfl (@eN _ _ _ _ (@bQ _ _ _ _ (@aa _ _ _ _ _ (@pv _ 2 _ _ (by rfl) (by trivial) (by decide) (by decide)) (@aa _ _ _ _ _ (@gR _ _) (@af _) (by rfl)) (by rfl)))) (@au _ _ (3) _ nd rfl (Or.inl rfl) (by trivial)) (@ah _ _ _ _ _ (@aB _ _ (4) _ _ _ _ nd rfl (Or.inl rfl) (@av _ _ _ _ _ _ _ _ _ _ Dsum_worth hr rfl (@aa _ _ _ _ _ (@pv _ 0 _ _ (by rfl) (by trivial) (by decide) (by decide)) (@aa _ _ _ _ _ (@pv _ 3 _ _ (by rfl) (by trivial) (by decide) (by decide)) (@af _) (by rfl)) (by rfl)) (by decide) (by rfl) (by rfl)) (by rfl) (by trivial)) (@ak _ _ _ (@cD _ _ _ _ _ _ _ _ (@PW.pt _ _ _ (@kJ _ _ _ _ _ _ _ (@fz _ _ _ _ (@dF _ _ _ (@aS _ _ _ _ _ _ _ _ _ gG rfl T.isinstance (by decide +kernel) (@aa _ _ _ _ _ (@pv _ 4 _ _ (by rfl) (by trivial) (by decide) (by decide)) (@aa _ _ _ _ _ (@jV _ _ (.ty "int") _ _ rfl T.int (by decide +kernel) rfl (by decide) (by decide)) (@af _) (by rfl)) (by rfl)) (by decide) (by decide) (by rfl) (by rfl)) (by intro _; rfl))) (@kJ _ _ _ _ _ _ _ (@dF _ _ _ (@aS _ _ _ _ _ _ _ _ _ gG rfl T.isinstance (by decide +kernel) (@aa _ _ _ _ _ (@pv _ 4 _ _ (by rfl) (by trivial) (by decide) (by decide)) (@aa _ _ _ _ _ (@jV _ _ (.ty "bool") _ _ rfl T.bool (by decide +kernel) rfl (by decide) (by decide)) (@af _) (by rfl)) (by rfl)) (by decide) (by decide) (by rfl) (by rfl)) (by intro _; rfl)) (@jz _ _ _ _ (@bA _ _ _ _ _ _ _ _ vR (@pv _ 4 _ _ (by rfl) (by trivial) (by decide) (by decide)) (@av _ _ _ _ _ _ _ _ _ _ D_law_worth hr rfl (@aa _ _ _ _ _ (@pv _ 1 _ _ (by rfl) (by trivial) (by decide) (by decide)) (@aa _ _ _ _ _ (@pv _ 3 _ _ (by rfl) (by trivial) (by decide) (by decide)) (@af _) (by rfl)) (by rfl)) (by decide) (by rfl) (by rfl)) (bI _)))))) (@ak _ _ _ (@aT _ _ _ _ (@gs _ _ _ _))) (@bo _)))) (by intro _; rfl)) (@ak _ _ _ (@aT _ _ _ _ (@gs _ _ _ _))))), ?_⟩
 refine ⟨_, rfl, .ref a, _, _, _, rfl, dU.tup ha, pE K (.tup []), _, rfl, hX ?_⟩
 refine ⟨_, rfl, _, rfl, d, m, rfl, D, mo, fun H1 u m' s1 S1 u1 pq => ?_⟩
 have lo1 : ∀ p ∈ m', 1 <= p.2 := fun p hp => by
  obtain ⟨r, _, rfl, h⟩ := mH (pq.mem_iff.mp hp)
  exact h
 have em : mf = m' := uN uf u1 pf lo1 fun g => by rw [hw g, gh g pq, qj g mo.lo]
 subst em
 have Sf : SmT K H1 mf (.ref a) := ⟨a, us, rfl, s1 _ _ ha, dl s1 ra⟩
 refine ⟨mf, Sf.sm, S1.sm, _, rfl, hX ?_⟩
 refine ⟨_, rfl, fun e2 he2 => ⟨z2, fun l hl => ?_⟩⟩
 have q2 := ae he2 (.dK [])
 have q3 := ae hl (.lst [.ref e, .ref e2])
 have lm : mf.length <= 80000 := by
  have h1 := pq.length_eq
  have h2 : (tl m).length <= m.length := by unfold tl; rw [List.length_map]; exact List.length_filter_le _ _
  have := mo.len
  omega
 have hs3 := q2.trans q3
 have hl3 : upd (upd H1 e2 (.dK [])) l (.lst [.ref e, .ref e2]) l = some (.lst [.ref e, .ref e2]) := ad
 have h23 : upd (upd H1 e2 (.dK [])) l (.lst [.ref e, .ref e2]) e2 = some (.dK (dk [])) := q3 _ _ ad
 generalize upd (upd H1 e2 (.dK [])) l (.lst [.ref e, .ref e2]) = H3 at hs3 hl3 h23 ⊢
 have S13 := s1.trans hs3
 refine ⟨l, rfl, ⟨_, SqL.of hl3⟩, dq (xs := [V.ref e, .ref e2]) (fun i σ H' => ∃ (o3 o4 : Option V), σ = [some (.ref a), some (.ref d), some (.ref e), o3, o4] /\ ao H3 H') ⟨_, _, rfl, ao.refl _⟩ (fun i σ H' _ ⟨_, _, _, s⟩ => SqL.of (s _ _ hl3)) ?_ ?_⟩
 ·rintro i x σ H4 hx ⟨o3, o4, rfl, s4⟩
  obtain ⟨c, ns, rfl, hc, nb⟩ : ∃ c ns, x = V.ref c /\ H4 c = some (.dK (dk ns)) /\ NB ns := by
   match i, hx with
   | 0, hx => cases hx; exact ⟨e, nums, rfl, s4 _ _ (S13 _ _ he), hn⟩
   | 1, hx => cases hx; exact ⟨e2, [], rfl, s4 _ _ h23, tT List.nodup_nil (fun _ h => nomatch h)⟩
   | i + 2, hx => simp at hx
  have S4 := S13.trans s4
  refine ⟨_, rfl, _, rfl, .ref a, c, mf, ns, rfl, (Sf.mono (hs3.trans s4)).sm, fun p hp => kok mo (pq.mem_iff.mp hp), lm, nb, hc, fun H5 s5 => ?_⟩
  have ev : sw (pw (tm ns)) mf = swT (pt (tm ns)) m := by
   rw [hw (pw (tm ns))]
   unfold wT
   congr 1
   funext ks
   exact (gW (tm ns) ks).2.2.1
  refine gnm ?_
  dsimp only
  refine ⟨_, rfl, _, _, _, _, rfl, dU.int _, sr K (.int 0), _, rfl, hX ?_⟩
  refine ⟨_, rfl, _, _, _, _, rfl, dU.int _, qw K (.int 0), _, rfl, hX ?_⟩
  refine ⟨_, rfl, _, rfl, _, rfl, d, c, m, ns, rfl, bq D (S4.trans s5), nb, s5 _ _ hc, fun H6 s6 => ⟨rfl, _, rfl, ?_⟩⟩
  rw [ev, show (!decide (V.int (swT (pt (tm ns)) m) = V.int (swT (pt (tm ns)) m))) = false by simp]
  exact hX (tnx ⟨_, _, rfl, s4.trans (s5.trans s6)⟩)
 ·rintro σ H4 ⟨o3, o4, rfl, s4⟩
  exact q _ (S13.trans s4)
end
theorem qr (g : List Pr -> Int) {m : List TM} {k ks : List Str} {n : Int} (nd : (m.map (·.1)).Nodup) (h : k.Perm ks) : wT g (cr m k ((bF m k).getD 0 + n)) = wT g m + n * g (pn ks) := by
 unfold wT
 rw [nN _ nd, tD h]
structure M1 (i : Nat) (m : List TM) : Prop where
 sd : ∀ p ∈ m, Sd p.1
 lo : ∀ p ∈ m, 1 <= p.2
 hi : ∀ p ∈ m, p.2 <= i * 10 ^ 28
 key : ∀ p ∈ m, p.1.length <= 4
 len : m.length <= i
theorem M1.nil : M1 0 [] := ⟨(fun _ h => nomatch h), (fun _ h => nomatch h), (fun _ h => nomatch h), (fun _ h => nomatch h), Nat.le_refl _⟩
theorem M1.up {i : Nat} {m : List TM} (h : M1 i m) : M1 (i + 1) m := ⟨h.sd, h.lo, fun p hp => by have := h.hi p hp; omega, h.key, Nat.le_succ_of_le h.len⟩
theorem M1.put {i : Nat} {m : List TM} (h : M1 i m) {k : List Str} {n : Int} (hk : Sd k) (l : k.length <= 4) (n1 : 1 <= n) (n2 : n <= 10 ^ 28) : M1 (i + 1) (cr m k ((bF m k).getD 0 + n)) := by
 obtain ⟨b1, b2⟩ := mF (m := m) (B := i * 10 ^ 28) (by omega) (fun p hp => ⟨Int.le_trans (by decide) (h.lo p hp), h.hi p hp⟩) k
 refine ⟨cp (R := fun p => Sd p.1) h.sd hk, cp (R := fun p => 1 <= p.2) h.lo (by show 1 <= (bF m k).getD 0 + n; omega), cp (R := fun p => p.2 <= ((i + 1 : Nat) : Int) * 10 ^ 28) (fun p hp => by have := h.hi p hp; omega) (by show (bF m k).getD 0 + n <= _; omega), cp (R := fun p => p.1.length <= 4) h.key l, Nat.le_trans gQ (Nat.succ_le_succ h.len)⟩
theorem M1.mo {i : Nat} {m : List TM} (h : M1 i m) (l : i <= 5000) : MOk m := ⟨h.sd, fun p hp => Int.le_trans (by decide) (h.lo p hp), fun p hp => Nat.le_trans (h.key p hp) (by decide), Nat.le_trans h.len l⟩
theorem M1.pok {i : Nat} {m : List TM} (h : M1 i m) (l : i <= 60) {p : PM} (hp : p ∈ tl m) : POk p := by
 obtain ⟨q, hq, rfl, h1⟩ := mH hp
 obtain ⟨c, _, _, _, ln⟩ := gW (fun _ => 0) q.1
 have k4 := h.key q hq
 have hi := h.hi q hq
 exact ⟨h1, by show q.2 <= 10 ^ 40; omega, by show (pn q.1).length <= 20; omega, c.ge⟩
structure MA (i : Nat) (m : List TM) : Prop where
 sd : ∀ p ∈ m, Sd p.1
 lo : ∀ p ∈ m, 0 <= p.2
 key : ∀ p ∈ m, p.1.length <= 8
 len : m.length <= i
theorem MA.nil : MA 0 [] := ⟨(fun _ h => nomatch h), (fun _ h => nomatch h), (fun _ h => nomatch h), Nat.le_refl _⟩
theorem tI {m : List TM} (h : ∀ p ∈ m, 0 <= p.2) (k : List Str) : 0 <= (bF m k).getD 0 := by
 unfold bF
 cases e : m.find? fun p => decide (p.1 = k) with
 | none => exact Int.le_refl 0
 | some p => exact h p (List.mem_of_find?_eq_some e)
theorem MA.put {i : Nat} {m : List TM} (h : MA i m) {k : List Str} {n : Int} (hk : Sd k) (l : k.length <= 8) (n1 : 0 <= n) : MA (i + 1) (cr m k ((bF m k).getD 0 + n)) := by
 have b1 := tI h.lo k
 exact ⟨cp (R := fun p => Sd p.1) h.sd hk, cp (R := fun p => 0 <= p.2) h.lo (by show 0 <= (bF m k).getD 0 + n; omega), cp (R := fun p => p.1.length <= 8) h.key l, Nat.le_trans gQ (Nat.succ_le_succ h.len)⟩
theorem MA.mo {i : Nat} {m : List TM} (h : MA i m) (l : i <= 5000) : MOk m := ⟨h.sd, h.lo, h.key, Nat.le_trans h.len l⟩
noncomputable def w2 (g : List Pr -> Int) (m1 m0 : List TM) : Int := swT (fun a => swT (fun b => g (pn (a ++ b))) m1) m0
theorem rS (g : List Pr -> Int) (m1 : List TM) {m0 : List TM} {i : Nat} {p : TM} (h : m0[i]? = some p) : w2 g m1 (m0.take (i + 1)) = w2 g m1 (m0.take i) + p.2 * swT (fun b => g (pn (p.1 ++ b))) m1 := eP _ h
theorem nq {m : List TM} {m' : List PM} (lo : ∀ p ∈ m, 0 <= p.2) (h : m'.Perm (tl m)) (g : List Pr -> Int) : sw g m' = wT g m := by rw [gh g h, qj g lo]
theorem om {m0 m1 : List TM} {s t : List PM} (hs : ∀ g, sw g s = wT g m0) (ht : ∀ g, sw g t = wT g m1) (g : List Pr -> Int) : sw (fun a => sw (fun b => g (nf (a ++ b))) t) s = w2 g m1 m0 := by
 rw [hs]
 unfold w2 wT
 congr 1
 funext ks
 show sw (fun b => g (nf (pn ks ++ b))) t = _
 rw [ht, uQ]
theorem qm {m0 m1 : List TM} {s t : List PM} (hs : ∀ g, sw g s = wT g m0) (ht : ∀ g, sw g t = wT g m1) (g : List Pr -> Int) : sw (fun a => sw (fun b => g (nf (a ++ b))) s) t = w2 g m1 m0 := by
 rw [<- om hs ht, nz]
 congr 1
 funext a
 congr 1
 funext b
 rw [sL]
theorem ue : pn [] = [] := (rA (ks := []) (qs := []) ⟨.nil, (fun _ h => nomatch h)⟩ fun x => rfl).symm
theorem uP (x : Str) : pn [x] = [(x, 1)] := (rA (ks := [x]) (qs := [(x, 1)]) ⟨List.pairwise_singleton _ _, fun p hp => by rw [List.mem_singleton.mp hp]; exact Int.le_refl 1⟩ fun y => by
 show (if x = y then (1 : Int) else 0) = _
 rw [List.count_cons, List.count_nil]
 by_cases e : x = y
 ·subst e; rw [if_pos rfl, if_pos (by simp)]; rfl
 ·rw [if_neg e, if_neg (by simpa using e)]; rfl).symm
def lmM (c : Int) (ps : List Pr) : List TM := ([], c) :: ps.map fun p => ([p.1], p.2)
theorem xg (g : List Pr -> Int) (c : Int) : ∀ ps : List Pr, wT g (lmM c ps) = jW g c ps := by
 intro ps
 have h : ∀ ps : List Pr, swT (fun ks => g (pn ks)) (ps.map fun p => (([p.1], p.2) : TM)) + c * g [] = jW g c ps := fun ps => by
  induction ps with
  | nil => show 0 + _ = c * g []; omega
  | cons p ps ih =>
   show p.2 * g (pn [p.1]) + swT _ (ps.map fun p => (([p.1], p.2) : TM)) + c * g [] = p.2 * g [(p.1, 1)] + jW g c ps
   rw [uP, <- ih]; omega
 show c * g (pn []) + swT _ _ = _
 rw [ue, <- h]; omega
theorem vT {c : Int} {ps : List Pr} (c0 : 0 <= c) (h : ∀ p ∈ ps, 1 <= p.2) (l : ps.length <= 10) : MOk (lmM c ps) := by
 have all : ∀ p ∈ lmM c ps, Sd p.1 /\ 0 <= p.2 /\ p.1.length <= 8 := fun p hp => by
  rcases List.mem_cons.mp hp with rfl | hp
  ·exact ⟨.nil, c0, Nat.zero_le _⟩
  ·obtain ⟨q, hq, rfl⟩ := List.mem_map.mp hp
   exact ⟨List.pairwise_singleton _ _, Int.le_trans (by decide) (h q hq), (show 1 <= 8 by decide)⟩
 exact ⟨fun p hp => (all p hp).1, fun p hp => (all p hp).2.1, fun p hp => (all p hp).2.2, by show (ps.map _).length + 1 <= 5000; rw [List.length_map]; omega⟩
theorem uW {c : Int} {ps : List Pr} (C : ce ps) {i : Nat} {p : Pr} (h : ps[i]? = some p) : cr (lmM c (ps.take i)) [p.1] p.2 = lmM c (ps.take (i + 1)) := by
 have hi := (List.getElem?_eq_some_iff.mp h).1
 have nd := cC C.pw
 have none : bF (lmM c (ps.take i)) [p.1] = none := by
  unfold bF
  rw [List.find?_eq_none.mpr]
  ·rfl
  ·intro q hq e
   have e := of_decide_eq_true e
   rcases List.mem_cons.mp hq with rfl | hq
   ·cases e
   ·obtain ⟨r, hr, rfl⟩ := List.mem_map.mp hq
    have e' : r.1 = p.1 := by injection e
    obtain ⟨j, hj⟩ := List.getElem?_of_mem hr
    rw [List.getElem?_take] at hj
    split at hj
    ·next lt =>
     have hj' := (List.getElem?_eq_some_iff.mp hj).1
     have e1 : (ps.map (·.1))[j]'(by rw [List.length_map]; exact hj') = (ps.map (·.1))[i]'(by rw [List.length_map]; exact hi) := by
      rw [List.getElem_map, List.getElem_map, (List.getElem?_eq_some_iff.mp hj).2, (List.getElem?_eq_some_iff.mp h).2]; exact e'
     have := (List.getElem_inj nd).mp e1
     omega
    ·cases hj
 unfold cr
 rw [none, if_neg (by decide), List.take_add_one, h]
 unfold lmM
 rw [List.map_append]
 rfl
abbrev dX : Stmt := top 20
def oM (K : PySem.W.Frag) : Sp := fun vs H Q _ => ∃ (a : Addr) (ns : List Int), vs = [.ref a] /\ SqL K H a (ns.map V.int) /\ ns.length <= 63 /\ ∀ H', Q (.bl true) H'
section
variable {P : Program} {w : World} {K : PySem.W.Frag} {mg : Str -> Option Value} {base : Heap}
theorem cq {H H' : Hp} {d : Addr} {m : List TM} (D : Dt P w H d m) (s : aA d H H') : eJ H H' := let ⟨o, xs, e, _⟩ := D; fun b zs q => s _ _ (fun z => by rw [z, e] at q; cases q) q
theorem ni {H H' : Hp} (t : eJ H H') : ∀ {m : List TM} {us : List V}, Paired (ItQ H) m us -> Paired (ItQ H') m us
 | _, _, .nil => .nil
 | _, _, .cons ⟨a, b, e, h1, h2⟩ r => .cons ⟨a, b, e, t _ _ h1, t _ _ h2⟩ (ni t r)
theorem gT {H : Hp} {d e : Addr} {m : List TM} (D : Dt P w H d m) (h : H e = none) : d ≠ e := let ⟨_, _, q, _⟩ := D; ag q h
theorem ud {H : Hp} {d : Addr} {m : List TM} (D : Dt P w H d m) : (m.map (·.1)).Nodup := let ⟨_, _, _, _, _, h, _⟩ := D; h
theorem qI : aR ["_law_script", "_law_names_here", "_law_numbers_here", "_law_models", "_law_k", "_law_inner", "_law_times", "_law_both", "_law_times_both", "_law_one", "_law_many", "_law_other", "_law_more", "_law_s", "_law_t", "_law_kept", "_law_length_here", "_law_model", "_law_name"] ["_law_script"] (aj dX) := ⟨rfl, rfl, rfl, by decide +kernel, rfl, by decide +kernel, by decide +kernel⟩
theorem vg {f : Addr} {fd : FuncData} {k0 : Nat} (F : Fun K "law" "law" dX f fd) (T : Txt K mg) (D_law_state : Def P w K mg base k0 "_law_state" ["_law_script", "_law_k"] (jq K)) (D_law_names : Def P w K mg base k0 "_law_names" ["_law_state_here", "_law_many"] jE) (D_law_numbers : Def P w K mg base k0 "_law_numbers" ["_law_state_here", "_law_names_here"] fQ) (D_law_product : Def P w K mg base k0 "_law_product" ["_law_state_here", "_law_names_here"] fJ) (D_law_into : Def P w K mg base k0 "_law_into" ["_law_model", "_law_names_here", "_law_times"] (jl P w)) (D_law_told : Def P w K mg base k0 "_law_told" ["_law_model"] (iT K P w)) (D_law_same : Def P w K mg base k0 "_law_same" ["_law_found", "_law_model", "_law_numbers_here"] (mO K P w)) (Dtogether : Def P w K mg base k0 "together" ["s", "t"] (qU K)) (Dproduct : Def P w K mg base k0 "product" ["s", "t"] (mR K)) (D_law_length : Def P w K mg base k0 "_law_length" ["_law_state_here", "_law_names_here", "_law_most"] gF) (Dof_length : Def P w K mg base k0 "of_length" ["a"] (ju K)) :
  bu P w K mg base CX0 (k0 + 1) f fd ["_law_script"] (oM K) := by
 have nd : (["_law_script", "_law_names_here", "_law_numbers_here", "_law_models", "_law_k", "_law_inner", "_law_times", "_law_both", "_law_times_both", "_law_one", "_law_many", "_law_other", "_law_more", "_law_s", "_law_t", "_law_kept", "_law_length_here", "_law_model", "_law_name"] : List Str).Nodup := qI.nd
 refine F.ok qI (fun vs H Q E h => ?_) (fun cdv A outer s H vs Q E hr h => ?_)
 ·obtain ⟨a, ns, rfl, _⟩ := h
  rfl
 obtain ⟨a, ns, rfl, hS, h63, q⟩ := h
 have hu := eO hr
 have hu64 := hr.units
 have hu8 : (A.deeper (PyProof.Rows.envOfC "law" (aj dX) s.heap.objs.size f cdv)).units + 8 < cLine := by omega
 refine ⟨_, (@ah _ _ _ _ _ (@aB _ _ (1) _ _ _ _ nd rfl (Or.inl rfl) (@av _ _ _ _ _ _ _ _ _ _ D_law_names hr rfl (@aa _ _ _ _ _ (@av _ _ _ _ _ _ _ _ _ _ D_law_state hr rfl (@aa _ _ _ _ _ (@pv _ 0 _ _ (by rfl) (by trivial) (by decide) (by decide)) (@aa _ _ _ _ _ (@ai _ _ _ _) (@af _) (by rfl)) (by rfl)) (by decide) (by rfl) (by rfl)) (@aa _ _ _ _ _ (@ai _ _ _ _) (@af _) (by rfl)) (by rfl)) (by decide) (by rfl) (by rfl)) (by rfl) (by trivial)) (@ah _ _ _ _ _ (@aB _ _ (2) _ _ _ _ nd rfl (Or.inl rfl) (@av _ _ _ _ _ _ _ _ _ _ D_law_numbers hr rfl (@aa _ _ _ _ _ (@av _ _ _ _ _ _ _ _ _ _ D_law_state hr rfl (@aa _ _ _ _ _ (@pv _ 0 _ _ (by rfl) (by trivial) (by decide) (by decide)) (@aa _ _ _ _ _ (@ai _ _ _ _) (@af _) (by rfl)) (by rfl)) (by decide) (by rfl) (by rfl)) (@aa _ _ _ _ _ (@pv _ 1 _ _ (by rfl) (by trivial) (by decide) (by decide)) (@af _) (by rfl)) (by rfl)) (by decide) (by rfl) (by rfl)) (by rfl) (by trivial)) (@ah _ _ _ _ _ (@aB _ _ (3) _ _ _ _ nd rfl (Or.inl rfl) (@bQ _ _ _ _ (@aa _ _ _ _ _ (@fx _ _) (@aa _ _ _ _ _ (@fx _ _) (@af _) (by rfl)) (by rfl))) (by rfl) (by trivial)) (@ah _ _ _ _ _ (@bg _ _ _ _ _ _ _ _ PassesOwn.never rfl (@oX _ _ _ _ _ _ _ rfl T.range (@aa _ _ _ _ _ (@ai _ _ _ _) (@aa _ _ _ _ _ (@aS _ _ _ _ _ _ _ _ _ (ph rfl) rfl T.min (by decide +kernel) (@aa _ _ _ _ _ (@ai _ _ _ _) (@aa _ _ _ _ _ (@aS _ _ _ _ _ _ _ _ _ cU rfl T.len (by decide +kernel) (@aa _ _ _ _ _ (@pv _ 0 _ _ (by rfl) (by trivial) (by decide) (by decide)) (@af _) (by rfl)) (by decide) (by decide) (by rfl) (by rfl)) (@af _) (by rfl)) (by rfl)) (by decide) (by decide) (by rfl) (by rfl)) (@af _) (by rfl)) (by rfl)) (by rfl) (by rfl)) (@au _ _ (4) _ nd rfl (Or.inl rfl) (by trivial)) (@ah _ _ _ _ _ (@mW _ _ _ _ _ _ (@av _ _ _ _ _ _ _ _ _ _ D_law_product hr rfl (@aa _ _ _ _ _ (@av _ _ _ _ _ _ _ _ _ _ D_law_state hr rfl (@aa _ _ _ _ _ (@pv _ 0 _ _ (by rfl) (by trivial) (by decide) (by decide)) (@aa _ _ _ _ _ (@pv _ 4 _ _ (by rfl) (by trivial) (by decide) (by decide)) (@af _) (by rfl)) (by rfl)) (by decide) (by rfl) (by rfl)) (@aa _ _ _ _ _ (@pv _ 1 _ _ (by rfl) (by trivial) (by decide) (by decide)) (@af _) (by rfl)) (by rfl)) (by decide) (by rfl) (by rfl)) (@bG _ _ _ _ _ _ rfl (@aE _ _ _ _ _ (@au _ _ (5) _ nd rfl (Or.inl rfl) (by trivial)) (@aE _ _ _ _ _ (@au _ _ (6) _ nd rfl (Or.inl rfl) (by trivial)) (@bp _) (by rfl)) (by rfl)) (by rfl) (by rfl)) (by rfl) (by rfl) (by rfl)) (@ak _ _ _ (@cA _ _ _ _ (@av _ _ _ _ _ _ _ _ _ _ D_law_into hr rfl (@aa _ _ _ _ _ (@bd _ _ _ _ _ _ _ aN (@pv _ 3 _ _ (by rfl) (by trivial) (by decide) (by decide)) (@aH _ _ _ _ _ _ _ _ cI (@pv _ 4 _ _ (by rfl) (by trivial) (by decide) (by decide)) (@ai _ _ _ _)) (fun _ _ => rfl)) (@aa _ _ _ _ _ (@pv _ 5 _ _ (by rfl) (by trivial) (by decide) (by decide)) (@aa _ _ _ _ _ (@pv _ 6 _ _ (by rfl) (by trivial) (by decide) (by decide)) (@af _) (by rfl)) (by rfl)) (by rfl)) (by decide) (by rfl) (by rfl)) (by rfl)))) (by intro _; rfl)) (@ah _ _ _ _ _ (@aB _ _ (7) _ _ _ _ nd rfl (Or.inl rfl) (@fx _ _) (by rfl) (by trivial)) (@ah _ _ _ _ _ (@aB _ _ (8) _ _ _ _ nd rfl (Or.inl rfl) (@fx _ _) (by rfl) (by trivial)) (@ah _ _ _ _ _ (@bg _ _ _ _ _ _ _ _ PassesOwn.never rfl (@eN _ _ _ _ (@aH _ _ _ _ _ _ _ _ ss (@aW _ _ _ _ _ _ _ _ _ (gv rfl) rfl T.list (by decide +kernel) (@aa _ _ _ _ _ (@cN _ _ _ _ _ (@bd _ _ _ _ _ _ _ aN (@pv _ 3 _ _ (by rfl) (by trivial) (by decide) (by decide)) (@ai _ _ _ _) (fun _ _ => rfl)) (by rfl) (by rfl)) (@af _) (by rfl)) (by decide) (by decide) (by rfl) (by rfl)) (@aW _ _ _ _ _ _ _ _ _ (gv rfl) rfl T.list (by decide +kernel) (@aa _ _ _ _ _ (@cN _ _ _ _ _ (@bd _ _ _ _ _ _ _ aN (@pv _ 3 _ _ (by rfl) (by trivial) (by decide) (by decide)) (@ai _ _ _ _) (fun _ _ => rfl)) (by rfl) (by rfl)) (@af _) (by rfl)) (by decide) (by decide) (by rfl) (by rfl)))) (@bG _ _ _ _ _ _ rfl (@aE _ _ _ _ _ (@au _ _ (9) _ nd rfl (Or.inl rfl) (by trivial)) (@aE _ _ _ _ _ (@au _ _ (10) _ nd rfl (Or.inl rfl) (by trivial)) (@bp _) (by rfl)) (by rfl)) (by rfl) (by rfl)) (@ak _ _ _ (@cA _ _ _ _ (@av _ _ _ _ _ _ _ _ _ _ D_law_into hr rfl (@aa _ _ _ _ _ (@pv _ 7 _ _ (by rfl) (by trivial) (by decide) (by decide)) (@aa _ _ _ _ _ (@pv _ 9 _ _ (by rfl) (by trivial) (by decide) (by decide)) (@aa _ _ _ _ _ (@pv _ 10 _ _ (by rfl) (by trivial) (by decide) (by decide)) (@af _) (by rfl)) (by rfl)) (by rfl)) (by decide) (by rfl) (by rfl)) (by rfl))) (by intro _; rfl)) (@ah _ _ _ _ _ (@bg _ _ _ _ _ _ _ _ PassesOwn.never rfl (@fF _ _ _ _ _ _ (@cN _ _ _ _ _ (@bd _ _ _ _ _ _ _ aN (@pv _ 3 _ _ (by rfl) (by trivial) (by decide) (by decide)) (@ai _ _ _ _) (fun _ _ => rfl)) (by rfl) (by rfl))) (@bG _ _ _ _ _ _ rfl (@aE _ _ _ _ _ (@au _ _ (9) _ nd rfl (Or.inl rfl) (by trivial)) (@aE _ _ _ _ _ (@au _ _ (10) _ nd rfl (Or.inl rfl) (by trivial)) (@bp _) (by rfl)) (by rfl)) (by rfl) (by rfl)) (@ak _ _ _ (@bg _ _ _ _ _ _ _ _ PassesOwn.never rfl (@fF _ _ _ _ _ _ (@cN _ _ _ _ _ (@bd _ _ _ _ _ _ _ aN (@pv _ 3 _ _ (by rfl) (by trivial) (by decide) (by decide)) (@ai _ _ _ _) (fun _ _ => rfl)) (by rfl) (by rfl))) (@bG _ _ _ _ _ _ rfl (@aE _ _ _ _ _ (@au _ _ (11) _ nd rfl (Or.inl rfl) (by trivial)) (@aE _ _ _ _ _ (@au _ _ (12) _ nd rfl (Or.inl rfl) (by trivial)) (@bp _) (by rfl)) (by rfl)) (by rfl) (by rfl)) (@ak _ _ _ (@cA _ _ _ _ (@av _ _ _ _ _ _ _ _ _ _ D_law_into hr rfl (@aa _ _ _ _ _ (@pv _ 8 _ _ (by rfl) (by trivial) (by decide) (by decide)) (@aa _ _ _ _ _ (@aH _ _ _ _ _ _ _ _ jg (@pv _ 9 _ _ (by rfl) (by trivial) (by decide) (by decide)) (@pv _ 11 _ _ (by rfl) (by trivial) (by decide) (by decide))) (@aa _ _ _ _ _ (@aH _ _ _ _ _ _ _ _ oj (@pv _ 10 _ _ (by rfl) (by trivial) (by decide) (by decide)) (@pv _ 12 _ _ (by rfl) (by trivial) (by decide) (by decide))) (@af _) (by rfl)) (by rfl)) (by rfl)) (by decide) (by rfl) (by rfl)) (by rfl))) (by intro _; rfl))) (by intro _; rfl)) (@ah _ _ _ _ _ (@aB _ _ (13) _ _ _ _ nd rfl (Or.inl rfl) (@av _ _ _ _ _ _ _ _ _ _ D_law_told hr rfl (@aa _ _ _ _ _ (@bd _ _ _ _ _ _ _ aN (@pv _ 3 _ _ (by rfl) (by trivial) (by decide) (by decide)) (@ai _ _ _ _) (fun _ _ => rfl)) (@af _) (by rfl)) (by decide) (by rfl) (by rfl)) (by rfl) (by trivial)) (@ah _ _ _ _ _ (@aB _ _ (14) _ _ _ _ nd rfl (Or.inl rfl) (@av _ _ _ _ _ _ _ _ _ _ D_law_told hr rfl (@aa _ _ _ _ _ (@bd _ _ _ _ _ _ _ aN (@pv _ 3 _ _ (by rfl) (by trivial) (by decide) (by decide)) (@ai _ _ _ _) (fun _ _ => rfl)) (@af _) (by rfl)) (by decide) (by rfl) (by rfl)) (by rfl) (by trivial)) (@ah _ _ _ _ _ (@aB _ _ (15) _ _ _ _ nd rfl (Or.inl rfl) (@aW _ _ _ _ _ _ _ _ _ mT rfl T.dict (by decide +kernel) (@aa _ _ _ _ _ (@pv _ 2 _ _ (by rfl) (by trivial) (by decide) (by decide)) (@af _) (by rfl)) (by decide) (by decide) (by rfl) (by rfl)) (by rfl) (by trivial)) (@ah _ _ _ _ _ (@cD _ _ _ _ _ _ _ _ (@PW.pt _ _ _ (@kJ _ _ _ _ _ _ _ (@fz _ _ _ _ (@dF _ _ _ (@av _ _ _ _ _ _ _ _ _ _ D_law_same hr rfl (@aa _ _ _ _ _ (@av _ _ _ _ _ _ _ _ _ _ Dtogether hr rfl (@aa _ _ _ _ _ (@pv _ 13 _ _ (by rfl) (by trivial) (by decide) (by decide)) (@aa _ _ _ _ _ (@pv _ 14 _ _ (by rfl) (by trivial) (by decide) (by decide)) (@af _) (by rfl)) (by rfl)) (by decide) (by rfl) (by rfl)) (@aa _ _ _ _ _ (@pv _ 7 _ _ (by rfl) (by trivial) (by decide) (by decide)) (@aa _ _ _ _ _ (@pv _ 15 _ _ (by rfl) (by trivial) (by decide) (by decide)) (@af _) (by rfl)) (by rfl)) (by rfl)) (by decide) (by rfl) (by rfl)) (by intro _; rfl))) (@jz _ _ _ _ (@fz _ _ _ _ (@dF _ _ _ (@av _ _ _ _ _ _ _ _ _ _ D_law_same hr rfl (@aa _ _ _ _ _ (@av _ _ _ _ _ _ _ _ _ _ Dtogether hr rfl (@aa _ _ _ _ _ (@pv _ 14 _ _ (by rfl) (by trivial) (by decide) (by decide)) (@aa _ _ _ _ _ (@pv _ 13 _ _ (by rfl) (by trivial) (by decide) (by decide)) (@af _) (by rfl)) (by rfl)) (by decide) (by rfl) (by rfl)) (@aa _ _ _ _ _ (@pv _ 7 _ _ (by rfl) (by trivial) (by decide) (by decide)) (@aa _ _ _ _ _ (@pv _ 15 _ _ (by rfl) (by trivial) (by decide) (by decide)) (@af _) (by rfl)) (by rfl)) (by rfl)) (by decide) (by rfl) (by rfl)) (by intro _; rfl)))))) (@ak _ _ _ (@aT _ _ _ _ (@gs _ _ _ _))) (@bo _)) (@ah _ _ _ _ _ (@cD _ _ _ _ _ _ _ _ (@PW.pt _ _ _ (@kJ _ _ _ _ _ _ _ (@fz _ _ _ _ (@dF _ _ _ (@av _ _ _ _ _ _ _ _ _ _ D_law_same hr rfl (@aa _ _ _ _ _ (@av _ _ _ _ _ _ _ _ _ _ Dproduct hr rfl (@aa _ _ _ _ _ (@pv _ 13 _ _ (by rfl) (by trivial) (by decide) (by decide)) (@aa _ _ _ _ _ (@pv _ 14 _ _ (by rfl) (by trivial) (by decide) (by decide)) (@af _) (by rfl)) (by rfl)) (by decide) (by rfl) (by rfl)) (@aa _ _ _ _ _ (@pv _ 8 _ _ (by rfl) (by trivial) (by decide) (by decide)) (@aa _ _ _ _ _ (@pv _ 15 _ _ (by rfl) (by trivial) (by decide) (by decide)) (@af _) (by rfl)) (by rfl)) (by rfl)) (by decide) (by rfl) (by rfl)) (by intro _; rfl))) (@jz _ _ _ _ (@fz _ _ _ _ (@dF _ _ _ (@av _ _ _ _ _ _ _ _ _ _ D_law_same hr rfl (@aa _ _ _ _ _ (@av _ _ _ _ _ _ _ _ _ _ Dproduct hr rfl (@aa _ _ _ _ _ (@pv _ 14 _ _ (by rfl) (by trivial) (by decide) (by decide)) (@aa _ _ _ _ _ (@pv _ 13 _ _ (by rfl) (by trivial) (by decide) (by decide)) (@af _) (by rfl)) (by rfl)) (by decide) (by rfl) (by rfl)) (@aa _ _ _ _ _ (@pv _ 8 _ _ (by rfl) (by trivial) (by decide) (by decide)) (@aa _ _ _ _ _ (@pv _ 15 _ _ (by rfl) (by trivial) (by decide) (by decide)) (@af _) (by rfl)) (by rfl)) (by rfl)) (by decide) (by rfl) (by rfl)) (by intro _; rfl)))))) (@ak _ _ _ (@aT _ _ _ _ (@gs _ _ _ _))) (@bo _)) (@ah _ _ _ _ _ (@aB _ _ (16) _ _ _ _ nd rfl (Or.inl rfl) (@av _ _ _ _ _ _ _ _ _ _ D_law_length hr rfl (@aa _ _ _ _ _ (@av _ _ _ _ _ _ _ _ _ _ D_law_state hr rfl (@aa _ _ _ _ _ (@pv _ 0 _ _ (by rfl) (by trivial) (by decide) (by decide)) (@aa _ _ _ _ _ (@ai _ _ _ _) (@af _) (by rfl)) (by rfl)) (by decide) (by rfl) (by rfl)) (@aa _ _ _ _ _ (@pv _ 1 _ _ (by rfl) (by trivial) (by decide) (by decide)) (@aa _ _ _ _ _ (@ai _ _ _ _) (@af _) (by rfl)) (by rfl)) (by rfl)) (by decide) (by rfl) (by rfl)) (by rfl) (by trivial)) (@ah _ _ _ _ _ (@aB _ _ (17) _ _ _ _ nd rfl (Or.inl rfl) (@qT _ _ _ _ _ hu (@kG _ _ _ _ _ _ _ _ _ (@bX _ _ _ _ _ (@af _)) (@bd _ _ _ _ _ _ _ gt (@pv _ 16 _ _ (by rfl) (by trivial) (by decide) (by decide)) (@ai _ _ _ _) (fun _ _ => rfl)) (@nA _ _)) rfl rfl (by simp) (Nat.le_of_ble_eq_true rfl)) (by rfl) (by trivial)) (@ah _ _ _ _ _ (@bg _ _ _ _ _ _ _ _ PassesOwn.never rfl (@df _ _ _ _ (@bd _ _ _ _ _ _ _ gt (@pv _ 16 _ _ (by rfl) (by trivial) (by decide) (by decide)) (@ai _ _ _ _) (fun _ _ => rfl))) (@bG _ _ _ _ _ _ rfl (@aE _ _ _ _ _ (@au _ _ (18) _ nd rfl (Or.inl rfl) (by trivial)) (@aE _ _ _ _ _ (@au _ _ (6) _ nd rfl (Or.inl rfl) (by trivial)) (@bp _) (by rfl)) (by rfl)) (by rfl) (by rfl)) (@ak _ _ _ (@lF _ _ _ _ _ _ _ _ _ hu (@pv _ 17 _ _ (by rfl) (by trivial) (by decide) (by decide)) (@bX _ _ _ _ _ (@aa _ _ _ _ _ (@pv _ 18 _ _ (by rfl) (by trivial) (by decide) (by decide)) (@af _) (by rfl))) (@pv _ 6 _ _ (by rfl) (by trivial) (by decide) (by decide)) rfl)) (by intro _; rfl)) (@ak _ _ _ (@aT _ _ _ _ (@uk _ _ _ _ _ _ _ (@av _ _ _ _ _ _ _ _ _ _ D_law_same hr rfl (@aa _ _ _ _ _ (@av _ _ _ _ _ _ _ _ _ _ Dof_length hr rfl (@aa _ _ _ _ _ (@pv _ 16 _ _ (by rfl) (by trivial) (by decide) (by decide)) (@af _) (by rfl)) (by decide) (by rfl) (by rfl)) (@aa _ _ _ _ _ (@pv _ 17 _ _ (by rfl) (by trivial) (by decide) (by decide)) (@aa _ _ _ _ _ (@pv _ 15 _ _ (by rfl) (by trivial) (by decide) (by decide)) (@af _) (by rfl)) (by rfl)) (by rfl)) (by decide) (by rfl) (by rfl)) (@uu _ _ _ _ _ (@ou _ _ _ _ _ _ _ _ (uZ hu8) (@pv _ 15 _ _ (by rfl) (by trivial) (by decide) (by decide)) (@pv _ 2 _ _ (by rfl) (by trivial) (by decide) (by decide)) (bI _)))))))))))))))))))))), ?_⟩
 refine ⟨_, rfl, a, ns, 0, rfl, hS, by decide, fun H1 a1 s1 n1 st1 => ⟨a1, 6, rfl, st1, by decide, fun H2 r xs s2 st2 r0 r2 lx hnm => ?_⟩⟩
 have S2 : ao H H2 := fun g o e => s2 g o (ag e n1) (s1 _ _ e)
 refine gnm ?_
 dsimp only
 refine ⟨_, rfl, a, ns, 1, rfl, S2.seq hS, by decide, fun H3 a3 s3 n3 st3 => ⟨_, rfl, a3, r, xs, rfl, st3, s3 _ _ r2, ag r2 n3, lx, hnm, fun H4 e nums s4 st4 e0 e4 nb ln => ?_⟩⟩
 have S4 : ao H2 H4 := fun g o e => s4 g o (ag e n3) (s3 _ _ e)
 have r4 := S4 _ _ r2
 have hS4 := (S2.trans S4).seq hS
 clear s4 s3 s2 s1 st1 st2 st3 st4 n1 n3 r0 e0 r2 S4
 refine gnm ?_
 dsimp only
 intro d0 H5 hd0 s5 D5 d1 H6 hd1 s6 D6
 have d01 : d0 ≠ d1 := gT D5 hd1
 have S5 : ao H4 H5 := fun g o e => s5 g o (ag e hd0) e
 have S56 : ao H5 H6 := fun g o e => s6 g o (ag e hd1) e
 refine ⟨z2, fun M hM => ?_⟩
 have q7 := ae hM (.lst [.ref d0, .ref d1])
 have S7 := S5.trans (S56.trans q7)
 have D07 := bq (bq D5 S56) q7
 have D17 := bq D6 q7
 have M7 : upd H6 M (.lst [.ref d0, .ref d1]) M = some (.lst [.ref d0, .ref d1]) := ad
 have hd14 : H4 d1 = none := by
  cases z : H4 d1 with
  | none => rfl
  | some o => have := S5 _ _ z; rw [hd1] at this; cases this
 have hM4 : H4 M = none := by
  cases z : H4 M with
  | none => rfl
  | some o => have := (S5.trans S56) _ _ z; rw [hM] at this; cases this
 have Md0 : M ≠ d0 := fun z => by have := gT (bq D5 S56) hM; exact this z.symm
 have Md1 : M ≠ d1 := fun z => by have := gT D6 hM; exact this z.symm
 generalize upd H6 M (.lst [.ref d0, .ref d1]) = H7 at S7 D07 D17 M7 ⊢
 clear q7 S56 D5 D6 s5 s6 hd1 hM S5
 refine ⟨_, rfl, a, _, rfl, .inl (S7.seq hS4), _, _, rfl, 3, _, rfl, ⟨by decide, by decide, ?B1, ?B2⟩, dN (lo := 3) (fun i σ H' => ∃ (m0 m1 : List TM) (o4 o5 o6 : Option V), σ = [some (.ref a), some (.ref r), some (.ref e), some (.ref M), o4, o5, o6, none, none, none, none, none, none, none, none, none, none, none, none] /\ ao H4 H' /\ H' M = some (.lst [.ref d0, .ref d1]) /\ Dt P w H' d0 m0 /\ Dt P w H' d1 m1 /\ M1 i m0 /\ M1 i m1) ⟨[], [], _, _, _, rfl, S7, M7, D07, D17, M1.nil, M1.nil⟩ ?T1 ?_⟩
 case B1 => split <;> omega
 case B2 => split <;> omega
 case T1 =>
  rintro i σ H8 hi ⟨m0, m1, o4, o5, o6, rfl, s8, M8, D08, D18, k0', k1'⟩
  refine ⟨_, rfl, _, rfl, a, ns, _, rfl, s8.seq hS4, by omega, fun H9 a9 s9 n9 st9 => ⟨_, rfl, a9, r, xs, rfl, st9, s9 _ _ (s8 _ _ r4), ag (s8 _ _ r4) n9, lx, fun H10 c t ks n s10 st10 hc ht sk lk nn1 nn2 => ?_⟩⟩
  have S10 : ao H8 H10 := fun g o e => s10 g o (ag e n9) (s9 _ _ e)
  refine ⟨c, _, rfl, SqT.of hc, rfl, _, _, rfl, _, _, rfl, rfl, ?_⟩
  have M10 := S10 _ _ M8
  have D0 := bq D08 S10
  have D1 := bq D18 S10
  refine ⟨_, rfl, _, rfl, _, _, rfl, rfl, mp (by decide), ?_⟩
  have ij : i < 60 := by
   have : i < ((if ((ns.map V.int).length : Int) < 63 then ((ns.map V.int).length : Int) else 63) - 3).toNat := hi
   split at this <;> omega
  rcases Int.emod_two_eq (3 + (i : Int)) with h | h
  ·have at0 : atI [V.ref d0, V.ref d1] ((3 + (i : Int)) % 2) = some (.ref d0) := by rw [h]; exact aq (j := 0) rfl
   refine ⟨M, _, _, .ref d0, rfl, rfl, SqL.of M10, at0, _, rfl, _, rfl, d0, t, n, m0, ks, rfl, D0, ht, by omega, by have := k0'.len; omega, fun H11 k s11 hk pk D => ?_⟩
   have tt := cq D0 s11
   refine ⟨_, m1, _, _, _, rfl, fun g o e => s11 g o (ag e hd0) (S10 _ _ (s8 _ _ e)), s11 _ _ Md0 M10, D, rf D1 s11 (Ne.symm d01) tt, k0'.put hk (by rw [pk.length_eq]; exact lk) nn1 nn2, k1'.up⟩
  ·have at0 : atI [V.ref d0, V.ref d1] ((3 + (i : Int)) % 2) = some (.ref d1) := by rw [h]; exact aq (j := 1) rfl
   refine ⟨M, _, _, .ref d1, rfl, rfl, SqL.of M10, at0, _, rfl, _, rfl, d1, t, n, m1, ks, rfl, D1, ht, by omega, by have := k1'.len; omega, fun H11 k s11 hk pk D => ?_⟩
   have tt := cq D1 s11
   refine ⟨m0, _, _, _, _, rfl, fun g o e => s11 g o (ag e hd14) (S10 _ _ (s8 _ _ e)), s11 _ _ Md1 M10, rf D0 s11 d01 tt, D, k0'.up, k1'.put hk (by rw [pk.length_eq]; exact lk) nn1 nn2⟩
 rintro σ H8 ⟨m0, m1, o4, o5, o6, rfl, s8, M8, D08, D18, k0', k1'⟩
 generalize hN : ((if ((ns.map V.int).length : Int) < 63 then ((ns.map V.int).length : Int) else 63) - 3).toNat = N at k0' k1'
 have N60 : N <= 60 := by rw [<- hN]; split <;> omega
 clear hN D07 D17 M7 S7
 have e8 := s8 _ _ e4
 have r8 := s8 _ _ r4
 have hS8 := s8.seq hS4
 intro db H9 hdb s9 D9
 refine gnm ?_
 dsimp only
 intro dt H10 hdt s10 D10
 refine gnm ?_
 dsimp only
 have S9 : ao H8 H9 := fun g o e => s9 g o (ag e hdb) e
 have S10 : ao H9 H10 := fun g o e => s10 g o (ag e hdt) e
 have dbt : db ≠ dt := gT D9 hdt
 have A0 : ∀ {x y : V}, atI [x, y] 0 = some x := aq (j := 0) rfl
 have A1 : ∀ {x y : V}, atI [x, y] 1 = some y := aq (j := 1) rfl
 have S8 := S9.trans S10
 refine ⟨_, rfl, M, _, 0, .ref d0, rfl, rfl, SqL.of (S8 _ _ M8), A0, d0, m0, rfl, bq D08 S8, fun v0 hv0 => ⟨v0, d0, m0, rfl, ad, bq D08 (S8.trans (ae hv0 _)), fun Hx l0 us0 sx l00 hl0 pl0 => ?_⟩⟩
 have Sx : ao H10 Hx := (ae hv0 (bj v0 d0)).trans sx
 refine ⟨_, rfl, M, _, 1, .ref d1, rfl, rfl, SqL.of (Sx _ _ (S8 _ _ M8)), A1, d1, m1, rfl, bq D18 (S8.trans Sx), fun v1 hv1 => ⟨v1, d1, m1, rfl, ad, bq D18 (S8.trans (Sx.trans (ae hv1 _))), fun Hy l1 us1 sy l11 hl1 pl1 => ?_⟩⟩
 have Sy : ao Hx Hy := (ae hv1 (bj v1 d1)).trans sy
 have lu0 := aP pl0
 have lu1 := aP pl1
 have lm0 := k0'.len
 have lm1 := k1'.len
 refine ⟨l0, l1, us0, us1, rfl, rfl, SqL.of (Sy _ _ hl0), SqL.of hl1, by rw [sizeLine_eq]; omega, fun p hp => ⟨p, rfl, ⟨_, SqL.of ad⟩, ?_⟩⟩
 have q11 := ae hp (.lst (us0 ++ us1))
 have Sc : ao H10 (upd Hy p (.lst (us0 ++ us1))) := Sx.trans (Sy.trans q11)
 have hpc : upd Hy p (.lst (us0 ++ us1)) p = some (.lst (us0 ++ us1)) := ad
 have itc : Paired (ItQ (upd Hy p (.lst (us0 ++ us1)))) (m0 ++ m1) (us0 ++ us1) := cH (ni (ao.tups q11) pl1) (ni (ao.tups (Sy.trans q11)) pl0)
 have pdb : p ≠ db := Ne.symm (gT (bq D9 (S10.trans (Sx.trans Sy))) hp)
 generalize upd Hy p (.lst (us0 ++ us1)) = Hc at Sc hpc itc ⊢
 clear q11 hp pl0 pl1 hl1 hl0 l11 l00 sy sx hv1 hv0 Sy Sx s9 s10
 have Dc := bq D9 (S10.trans Sc)
 have Ec := bq D10 Sc
 have S8c := S8.trans Sc
 refine dq (xs := us0 ++ us1) (fun i σ H' => ∃ (mb : List TM) (o4 o5 o6 o9 o10 : Option V), σ = [some (.ref a), some (.ref r), some (.ref e), some (.ref M), o4, o5, o6, some (.ref db), some (.ref dt), o9, o10, none, none, none, none, none, none, none, none] /\ aA db Hc H' /\ Dt P w H' db mb /\ MA i mb /\ ∀ g, wT g mb = wT g ((m0 ++ m1).take i)) ⟨[], _, _, _, _, _, rfl, fun g o _ e => e, Dc, MA.nil, fun g => rfl⟩ (fun i σ H' _ ⟨_, _, _, _, _, _, _, s, _⟩ => SqL.of (s _ _ pdb hpc)) ?_ ?_
 ·rintro i x σ H11 hx ⟨mb, o4, o5, o6, o9, o10, rfl, s11, D11, k11, w11⟩
  obtain ⟨z, hz, c, b, rfl, hc, hb⟩ := br itc hx
  have tt := cq Dc s11
  have hi : i < us0.length + us1.length := by rw [<- List.length_append]; exact (List.getElem?_eq_some_iff.mp hx).1
  have kz : z.1.length <= 4 /\ 1 <= z.2 := by
   rcases List.mem_append.mp (List.mem_of_getElem? hz) with h | h
   ·exact ⟨k0'.key z h, k0'.lo z h⟩
   ·exact ⟨k1'.key z h, k1'.lo z h⟩
  refine ⟨c, _, rfl, SqT.of (tt _ _ hc), rfl, _, _, rfl, _, _, rfl, rfl, ?_⟩
  refine ⟨_, rfl, _, rfl, _, rfl, db, b, z.2, mb, z.1, rfl, D11, tt _ _ hb, by omega, by have := k11.len; omega, fun H12 k s12 hk pk D => ?_⟩
  refine ⟨_, _, _, _, _, _, rfl, fun g o hg e => s12 g o hg (s11 g o hg e), D, k11.put hk (by rw [pk.length_eq]; omega) (by omega), fun g => ?_⟩
  rw [qr g (ud D11) pk, w11 g]
  exact (eP _ hz).symm
 rintro σ H12 ⟨mb, o4', o5', o6', o9, o10, rfl, s12, D12, k12, w12⟩
 have lap : (us0 ++ us1).length = (m0 ++ m1).length := by rw [List.length_append, List.length_append]; omega
 rw [lap, List.take_length] at w12
 replace w12 : ∀ g, wT g mb = wT g m0 + wT g m1 := fun g => (w12 g).trans (eB _ _ _)
 have k12' : MOk mb := k12.mo (by rw [lap, List.length_append]; omega)
 have S12 : ao H8 H12 := fun g o e => s12 g o (ag e hdb) (S8c _ _ e)
 have E12 : Dt P w H12 dt [] := rf Ec s12 (Ne.symm dbt) (cq Dc s12)
 clear s12 itc hpc Dc Ec k12 lap
 have d0t : d0 ≠ dt := gT (bq D08 S9) hdt
 have d1t : d1 ≠ dt := gT (bq D18 S9) hdt
 have Mt : M ≠ dt := ag (S9 _ _ M8) hdt
 have M12 := S12 _ _ M8
 have D0 := bq D08 S12
 have D1 := bq D18 S12
 obtain ⟨o0, xs0, dz0⟩ := id D0
 obtain ⟨o1, xs1, dz1⟩ := id D1
 obtain ⟨hz0, sm0, lz0, nd0, pr0⟩ := id dz0
 obtain ⟨hz1, sm1, lz1, nd1, pr1⟩ := id dz1
 have lx0 := fE pr0
 have lx1 := fE pr1
 have T12 : ∀ {H'}, aA dt H12 H' -> eJ H12 H' := fun s => cq E12 s
 refine ⟨_, rfl, M, _, 0, .ref d0, rfl, rfl, SqL.of M12, A0, d0, m0, rfl, D0, fun v hv => ?_⟩
 have q13 := ae hv (bj v d0)
 refine ⟨v, d0, o0, xs0, m0, rfl, ad, ⟨q13 _ _ hz0, sm0, lz0, nd0, ci (ao.tups q13) pr0⟩, eF (xs := xs0) (fun i σ H' => ∃ (mt : List TM) (o4 o5 o6 o9 o10 o11 o12 : Option V), σ = [some (.ref a), some (.ref r), some (.ref e), some (.ref M), o4, o5, o6, some (.ref db), some (.ref dt), o9, o10, o11, o12, none, none, none, none, none, none] /\ aA dt H12 H' /\ Dt P w H' dt mt /\ MA (i * m1.length) mt /\ ∀ g, wT g mt = w2 g m1 (m0.take i)) ⟨[], _, _, _, _, _, _, _, rfl, ao.b dt q13, bq E12 q13, by rw [Nat.zero_mul]; exact MA.nil, fun g => rfl⟩ (fun i σ H' _ ⟨_, _, _, _, _, _, _, _, _, s, _⟩ => s _ _ d0t hz0) ?_ ?_⟩
 ·rintro i y n t p σ H13 hy hn hp0 ⟨mt, o4, o5, o6, o9, o10, o11, o12, rfl, s13, D13, k13, w13⟩
  obtain ⟨z, hz, tv⟩ := dJ pr0 hy
  obtain ⟨_, kb, t', et⟩ := tv
  rw [hn] at et
  cases et
  have hi : i < m0.length := by rw [lx0]; exact (List.getElem?_eq_some_iff.mp hy).1
  have zm := List.mem_of_getElem? hz
  have q14 := ae hp0 (.tup [.ref y.2.1, .int z.2])
  refine ⟨p, _, rfl, SqT.of ad, rfl, _, _, rfl, _, _, rfl, rfl, ?_⟩
  have s14 : aA dt H12 (upd H13 p (.tup [.ref y.2.1, .int z.2])) := s13.trans (ao.b dt q14)
  have D14 := bq D13 q14
  generalize upd H13 p (.tup [.ref y.2.1, .int z.2]) = H14 at s14 D14 ⊢
  refine ⟨_, rfl, M, _, 1, .ref d1, rfl, rfl, SqL.of (s14 _ _ Mt M12), A1, d1, m1, rfl, rf D1 s14 d1t (T12 s14), fun u hu' => ?_⟩
  have q15 := ae hu' (bj u d1)
  have s15 := s14.trans (ao.b dt q15)
  refine ⟨u, d1, o1, xs1, m1, rfl, ad, ⟨s15 _ _ d1t hz1, sm1, lz1, nd1, ci (T12 s15) pr1⟩, eF (xs := xs1) (fun j σ H' => ∃ (mt : List TM) (o4 o5 o6 o11 o12 : Option V), σ = [some (.ref a), some (.ref r), some (.ref e), some (.ref M), o4, o5, o6, some (.ref db), some (.ref dt), some (.ref y.2.1), some (.int z.2), o11, o12, none, none, none, none, none, none] /\ aA dt H12 H' /\ Dt P w H' dt mt /\ MA (i * m1.length + j) mt /\ ∀ g, wT g mt = w2 g m1 (m0.take i) + z.2 * swT (fun b => g (pn (z.1 ++ b))) (m1.take j)) ⟨mt, _, _, _, _, _, rfl, s15, bq D14 q15, k13, fun g => by rw [w13 g, List.take_zero]; show _ = _ + z.2 * 0; rw [Int.mul_zero, Int.add_zero]⟩ (fun i σ H' _ ⟨_, _, _, _, _, _, _, s, _⟩ => s _ _ d1t hz1) ?_ ?_⟩
  ·rintro j y2 n2 t2 p2 σ H16 hy2 hn2 hp2 ⟨mt2, o4, o5, o6, o11, o12, rfl, s16, D16, k16, w16⟩
   obtain ⟨x, hx, tv2⟩ := dJ pr1 hy2
   obtain ⟨_, kb2, t'', et2⟩ := tv2
   rw [hn2] at et2
   cases et2
   have hj : j < m1.length := by rw [lx1]; exact (List.getElem?_eq_some_iff.mp hy2).1
   have xm := List.mem_of_getElem? hx
   have q17 := ae hp2 (.tup [.ref y2.2.1, .int x.2])
   refine ⟨p2, _, rfl, SqT.of ad, rfl, _, _, rfl, _, _, rfl, rfl, ?_⟩
   have s17 : aA dt H12 (upd H16 p2 (.tup [.ref y2.2.1, .int x.2])) := s16.trans (ao.b dt q17)
   have D17 := bq D16 q17
   generalize upd H16 p2 (.tup [.ref y2.2.1, .int x.2]) = H17 at s17 D17 ⊢
   have kb17 := T12 s17 _ _ kb
   have kc17 := T12 s17 _ _ kb2
   have kz := k0'.key z zm
   have kx := k1'.key x xm
   have lz := k0'.lo z zm
   have lx' := k1'.lo x xm
   have hz' := k0'.hi z zm
   have hx' := k1'.hi x xm
   have mul : IntMulOk z.2 x.2 := nr (by omega) (by omega) (by omega) (by omega)
   have i3600 : i * m1.length + j < 5000 := by
    have h1 : i * m1.length <= i * 60 := Nat.mul_le_mul_left _ (by omega)
    omega
   have lens := k16.len
   refine ⟨_, rfl, _, rfl, _, rfl, y.2.1, y2.2.1, _, _, rfl, rfl, SqT.of kb17, SqT.of kc17, by rw [List.length_map, List.length_map, sizeLine_eq]; omega, ?_⟩
   have fin : ∀ (H18 : Hp) (c : Addr), ao H17 H18 -> H18 c = some (.tup ((z.1 ++ x.1).map V.str)) -> jl P w [.ref dt, .ref c, .int (z.2 * x.2)] H18 (fun _ H19 => ∃ (mt : List TM) (o4' o5' o6' o11 o12 : Option V), [some (V.ref a), some (.ref r), some (.ref e), some (.ref M), o4, o5, o6, some (.ref db), some (.ref dt), some (.ref y.2.1), some (.int z.2), some (.ref y2.2.1), some (.int x.2), none, none, none, none, none, none] = [some (V.ref a), some (.ref r), some (.ref e), some (.ref M), o4', o5', o6', some (.ref db), some (.ref dt), some (.ref y.2.1), some (.int z.2), o11, o12, none, none, none, none, none, none] /\ aA dt H12 H19 /\ Dt P w H19 dt mt /\ MA (i * m1.length + (j + 1)) mt /\ ∀ g, wT g mt = w2 g m1 (m0.take i) + z.2 * swT (fun b => g (pn (z.1 ++ b))) (m1.take (j + 1))) E0 := fun H18 c s18 hc => by
    refine ⟨dt, c, _, mt2, z.1 ++ x.1, rfl, bq D17 s18, hc, by rw [List.length_append]; omega, by omega, fun H19 k s19 hk pk D => ?_⟩
    refine ⟨_, _, _, _, _, _, rfl, fun g o hg e => s19 g o hg (s18 _ _ (s17 g o hg e)), D, k16.put hk (by rw [pk.length_eq, List.length_append]; omega) (Int.mul_nonneg (by omega) (by omega)), fun g => ?_⟩
    rw [qr g (ud D17) pk, w16 g, eP _ hx, Int.mul_add, Int.mul_assoc, Int.add_assoc]
   refine ⟨fun e1 => ⟨_, rfl, _, rfl, _, _, rfl, rfl, mul, fin H17 y2.2.1 (ao.refl _) ?_⟩, fun e1 => ⟨_, rfl, _, rfl, _, _, rfl, rfl, mul, fin H17 y.2.1 (ao.refl _) ?_⟩, fun c hc => ⟨_, rfl, _, rfl, _, _, rfl, rfl, mul, fin _ c (ae hc _) ?_⟩⟩
   ·have e2 : z.1 = [] := List.map_eq_nil_iff.mp e1
    rw [e2]; exact kc17
   ·have e2 : x.1 = [] := List.map_eq_nil_iff.mp e1
    rw [e2, List.append_nil]; exact kb17
   ·rw [ad, List.map_append]
  ·rintro σ H16 ⟨mt2, o4, o5, o6, o11, o12, rfl, s16, D16, k16, w16⟩
   rw [<- lx1, List.take_length] at w16
   rw [<- lx1] at k16
   exact ⟨mt2, _, _, _, _, _, _, _, rfl, s16, D16, by rw [Nat.succ_mul]; exact k16, fun g => by rw [w16 g, rS g m1 hz]⟩
 rintro σ H13 ⟨mt, o4'', o5'', o6'', o9', o10', o11, o12, rfl, s13, D13, k13, w13⟩
 rw [<- lx0, List.take_length] at w13
 rw [<- lx0] at k13
 have kt : MOk mt := k13.mo (by
  have h1 : m0.length * m1.length <= 60 * 60 := Nat.mul_le_mul (by omega) (by omega)
  omega)
 have S13 : ao H8 H13 := fun g o e => s13 g o (ag (S9 _ _ e) hdt) (S12 _ _ e)
 have B13 : Dt P w H13 db mb := rf D12 s13 dbt (T12 s13)
 clear s13 k13 q13
 have M13 := S13 _ _ M8
 refine ⟨_, rfl, M, _, 0, .ref d0, rfl, rfl, SqL.of M13, A0, d0, m0, rfl, bq D08 S13, k0'.mo (by omega), fun H14 vs ms s14 R14 us14 p14 => ?_⟩
 refine gnm ?_
 dsimp only
 refine ⟨_, rfl, M, _, 1, .ref d1, rfl, rfl, SqL.of (s14 _ _ M13), A1, d1, m1, rfl, bq D18 (S13.trans s14), k1'.mo (by omega), fun H15 vt mt' s15 R15 us15 p15 => ?_⟩
 refine gnm ?_
 dsimp only
 have S15 := s14.trans s15
 have e15 := S15 _ _ (S13 _ _ e8)
 refine ⟨_, rfl, e, _, rfl, .inl e15, fun kd hkd => ?_⟩
 refine gnm ?_
 dsimp only
 have q16 := ae hkd (.dK (dk nums))
 have S16 := S15.trans q16
 have kd16 : upd H15 kd (.dK (dk nums)) kd = some (.dK (dk nums)) := ad
 have Rs := R14.mono (s15.trans q16)
 have Rt := R15.mono q16
 have B16 := bq B13 S16
 have T16 := bq D13 S16
 have e16 := q16 _ _ e15
 have r16 := S16 _ _ (S13 _ _ r8)
 have hS16 := S16.seq (S13.seq hS8)
 generalize upd H15 kd (.dK (dk nums)) = H16 at S16 kd16 Rs Rt B16 T16 e16 r16 hS16 ⊢
 clear S15 q16 R14 R15 s14 s15 hkd
 have ws : ∀ g, sw g ms = wT g m0 := nq (k0'.mo (by omega)).lo p14
 have wt : ∀ g, sw g mt' = wT g m1 := nq (k1'.mo (by omega)).lo p15
 have los : ∀ p ∈ ms, POk p := fun p hp => k0'.pok N60 (p14.mem_iff.mp hp)
 have lot : ∀ p ∈ mt', POk p := fun p hp => k1'.pok N60 (p15.mem_iff.mp hp)
 have tlen : ∀ m : List TM, (tl m).length <= m.length := fun m => by unfold tl; rw [List.length_map]; exact List.length_filter_le _ _
 have ls : ms.length <= 60 := by have := p14.length_eq; have := tlen m0; omega
 have lt : mt'.length <= 60 := by have := p15.length_eq; have := tlen m1; omega
 have prod : ms.length * mt'.length <= 60 * 60 := Nat.mul_le_mul ls lt
 have prod' : mt'.length * ms.length <= 60 * 60 := Nat.mul_le_mul lt ls
 refine ⟨_, rfl, _, rfl, vs, vt, ms, mt', rfl, Rs, Rt, fun p hp => (los p hp).lo, fun p hp => (lot p hp).lo, by omega, fun H17 x1 f1 s17 R17 u17 l17 e17 => ⟨_, rfl, _, rfl, x1, db, kd, f1, mb, nums, rfl, R17, u17, l17, bq B16 s17, k12', fun g => by rw [e17 g, ws g, wt g, w12 g], nb, s17 _ _ kd16, fun H18 s18 => ⟨_, rfl, hX ?_⟩⟩⟩
 have S18 := s17.trans s18
 refine ⟨_, rfl, _, rfl, vt, vs, mt', ms, rfl, Rt.mono S18, Rs.mono S18, fun p hp => (lot p hp).lo, fun p hp => (los p hp).lo, by omega, fun H19 x2 f2 s19 R19 u19 l19 e19 => ⟨_, rfl, _, rfl, x2, db, kd, f2, mb, nums, rfl, R19, u19, l19, bq B16 (S18.trans s19), k12', fun g => by rw [e19 g, ws g, wt g, w12 g, Int.add_comm], nb, s19 _ _ (S18 _ _ kd16), fun H20 s20 => ⟨_, rfl, hX (tnx ?_)⟩⟩⟩
 have S20 := S18.trans (s19.trans s20)
 dsimp only
 refine ⟨_, rfl, _, rfl, vs, vt, ms, mt', rfl, Rs.mono S20, Rt.mono S20, los, lot, by omega, fun H21 x3 f3 s21 R21 u21 l21 e21 => ⟨_, rfl, _, rfl, x3, dt, kd, f3, mt, nums, rfl, R21, u21, l21, bq T16 (S20.trans s21), kt, fun g => by rw [e21 g, om ws wt g, w13 g], nb, s21 _ _ (S20 _ _ kd16), fun H22 s22 => ⟨_, rfl, hX ?_⟩⟩⟩
 have S22 := S20.trans (s21.trans s22)
 refine ⟨_, rfl, _, rfl, vt, vs, mt', ms, rfl, Rt.mono S22, Rs.mono S22, lot, los, by omega, fun H23 x4 f4 s23 R23 u23 l23 e23 => ⟨_, rfl, _, rfl, x4, dt, kd, f4, mt, nums, rfl, R23, u23, l23, bq T16 (S22.trans s23), kt, fun g => by rw [e23 g, qm ws wt g, w13 g], nb, s23 _ _ (S22 _ _ kd16), fun H24 s24 => ⟨_, rfl, hX (tnx ?_)⟩⟩⟩
 have S24 := S22.trans (s23.trans s24)
 dsimp only
 refine ⟨_, rfl, a, ns, 2, rfl, S24.seq hS16, by decide, fun H25 a25 s25 n25 st25 => ⟨_, rfl, a25, r, 99, xs, rfl, st25, s25 _ _ (S24 _ _ r16), ag (S24 _ _ r16) n25, by omega, by decide, by decide, fun H26 vl c ps s26 st26 R26 L26 => ?_⟩⟩
 have S26 : ao H24 H26 := fun g o e => s26 g o (ag e n25) (s25 _ _ e)
 have S6 := S24.trans S26
 refine gnm ?_
 dsimp only
 obtain ⟨b0, b1, us, rfl, hb0, hb1, ru, lu⟩ := nH R26
 have L10 := L26.len
 intro dm H27 hdm s27 D27
 have S27 : ao H26 H27 := fun g o e => s27 g o (ag e hdm) e
 refine ⟨Nat.zero_le _, fun te hte => ?_⟩
 have q28 := ae hte (.tup [])
 refine ⟨_, rfl, b0, _, 0, .int c, rfl, rfl, SqT.of (q28 _ _ (S27 _ _ hb0)), A0, [], te, c, rfl, bq D27 q28, ad, fun H28 s28 D28 => ?_⟩
 refine gnm ?_
 dsimp only
 have S28 : ao H26 H28 := fun g o e => s28 g o (ag e hdm) (q28 _ _ (S27 _ _ e))
 refine ⟨_, rfl, b0, _, 1, .ref b1, rfl, rfl, SqT.of (S28 _ _ hb0), A1, b1, rfl, ⟨_, SqT.of (S28 _ _ hb1)⟩, cY (xs := us) (fun i σ H' => ∃ (o4 o5 o6 o9 o10 o11 o12 o18 : Option V), σ = [some (.ref a), some (.ref r), some (.ref e), some (.ref M), o4, o5, o6, some (.ref db), some (.ref dt), o9, o10, o11, o12, some vs, some vt, some (.ref kd), some (.ref b0), some (.ref dm), o18] /\ ao H26 H' /\ Dt P w H' dm (lmM c (ps.take i))) ⟨_, _, _, _, _, _, _, _, rfl, S28, D28⟩ (fun i σ H' _ ⟨_, _, _, _, _, _, _, _, _, s, _⟩ => SqT.of (s _ _ hb1)) ?_ ?_⟩
 ·rintro i x σ H29 hx ⟨o4, o5, o6, o9, o10, o11, o12, o18, rfl, s29, D29⟩
  obtain ⟨z, b, hz, rfl, hb⟩ := gk ru hx
  refine ⟨b, _, rfl, SqT.of (s29 _ _ hb), rfl, _, _, rfl, _, _, rfl, rfl, ?_⟩
  refine ⟨_, rfl, _, rfl, _, rfl, z1, fun t ht => ?_⟩
  have q30 := ae ht (.tup [.str z.1])
  refine ⟨dm, _, [z.1], t, z.2, rfl, bq D29 q30, rfl, ad, rfl, ?_, fun H31 s31 D31 => ?_⟩
  ·show ((ps.take i).map _).length + 1 < 100000
   rw [List.length_map, List.length_take]; omega
  ·rw [uW L26.can hz] at D31
   exact ⟨_, _, _, _, _, _, _, _, rfl, fun g o e => s31 g o (ag e hdm) (q30 _ _ (s29 _ _ e)), D31⟩
 rintro σ H29 ⟨o4x, o5x, o6x, o9x, o10x, o11x, o12x, o18, rfl, s29, D29⟩
 rw [lu, List.take_length] at D29
 refine ⟨_, rfl, .ref b0, c, ps, rfl, R26.mono s29, L26.c0, L26.can.ge, L10, fun H30 x5 f5 s30 R30 u30 l30 e30 => ⟨_, rfl, _, rfl, x5, dm, kd, f5, lmM c ps, nums, rfl, R30, u30, l30, bq D29 s30, vT L26.c0 L26.can.ge L10, fun g => by rw [e30 g, xg], nb, s30 _ _ (s29 _ _ (S6 _ _ kd16)), fun H31 s31 => ⟨true, rfl, pi ?_⟩⟩⟩
 have k31 := s31 _ _ (s30 _ _ (s29 _ _ (S6 _ _ kd16)))
 have e31 := s31 _ _ (s30 _ _ (s29 _ _ (S6 _ _ e16)))
 refine ⟨_, rfl, _, rfl, kd, e, dk nums, dk nums, rfl, rfl, .inl k31, .inl e31, rfl, fun p hp => ?_, q _⟩
 obtain ⟨z, hz, rfl⟩ := List.mem_map.mp hp
 obtain ⟨j, hj⟩ := List.getElem?_of_mem hz
 exact ⟨z.2, rfl, rH nb.can hj⟩
end
theorem us1 {p : List Value -> Prop} (h : ∀ x0, p [x0]) : ∀ us : List Value, us.length = 1 -> p us
 | [x0], _ => h x0
theorem us2 {p : List Value -> Prop} (h : ∀ x0 x1, p [x0, x1]) : ∀ us : List Value, us.length = 2 -> p us
 | [x0, x1], _ => h x0 x1
theorem us3 {p : List Value -> Prop} (h : ∀ x0 x1 x2, p [x0, x1, x2]) : ∀ us : List Value, us.length = 3 -> p us
 | [x0, x1, x2], _ => h x0 x1 x2
theorem all_mk {l : PySem.W.OpenLaw} {w : World} {K : PySem.W.Frag} {h : Heap} {mg : Str -> Option Value} {fa f1 f2 f3 f4 f5 f6 f7 f8 f9 f10 f11 f12 f13 f14 f15 f16 f17 f18 : Addr} (X : K.In h) (G : h.Ns mainGlobals mg) (hfa : mg "law" = some (.ref fa))
  {od1 an1 od2 an2 od3 an3 od4 an4 od5 an5 od6 an6 od7 an7 od8 an8 od9 an9 od10 an10 od11 an11 od12 an12 od13 an13 od14 an14 od15 an15 od16 an16 od17 an17 od18 an18 : Option Addr} {sl1 sl2 sl3 sl4 sl5 sl6 sl7 sl8 sl9 sl10 sl11 sl12 sl13 sl14 sl15 sl16 sl17 sl18 : Array (Option Value)}
  {oc1 kV1 dc1 pm1 cd1 ct1 oc2 kV2 dc2 pm2 cd2 ct2 oc3 kV3 dc3 pm3 cd3 ct3 oc4 kV4 dc4 pm4 cd4 ct4 oc5 kV5 dc5 pm5 cd5 ct5 oc6 kV6 dc6 pm6 cd6 ct6 oc7 kV7 dc7 pm7 cd7 ct7 oc8 kV8 dc8 pm8 cd8 ct8 oc9 kV9 dc9 pm9 cd9 ct9 oc10 kV10 dc10 pm10 cd10 ct10 oc11 kV11 dc11 pm11 cd11 ct11 oc12 kV12 dc12 pm12 cd12 ct12 oc13 kV13 dc13 pm13 cd13 ct13 oc14 kV14 dc14 pm14 cd14 ct14 oc15 kV15 dc15 pm15 cd15 ct15 oc16 kV16 dc16 pm16 cd16 ct16 oc17 kV17 dc17 pm17 cd17 ct17 oc18 kV18 dc18 pm18 cd18 ct18 : Value}
  (a1 : PySem.W.nsIn K mainGlobals "gathered" = some (some (.ref f1)))
  (l1 : K.lookup f1 = some ⟨oc1, od1, .func (PySem.W.fnOf "gathered" "gathered" (aM aQ) (aK aQ) (aj aQ) .none kV1 dc1 pm1 an1 cd1 ct1), sl1⟩)
  (c1 : PySem.W.codeIn K cd1 "gathered" = true) (k1 : PySem.W.keepIn K (.ref f1) = true)
  (a2 : PySem.W.nsIn K mainGlobals "of_length" = some (some (.ref f2)))
  (l2 : K.lookup f2 = some ⟨oc2, od2, .func (PySem.W.fnOf "of_length" "of_length" (aM bE) (aK bE) (aj bE) .none kV2 dc2 pm2 an2 cd2 ct2), sl2⟩)
  (c2 : PySem.W.codeIn K cd2 "of_length" = true) (k2 : PySem.W.keepIn K (.ref f2) = true)
  (a3 : PySem.W.nsIn K mainGlobals "together" = some (some (.ref f3)))
  (l3 : K.lookup f3 = some ⟨oc3, od3, .func (PySem.W.fnOf "together" "together" (aM bP) (aK bP) (aj bP) .none kV3 dc3 pm3 an3 cd3 ct3), sl3⟩)
  (c3 : PySem.W.codeIn K cd3 "together" = true) (k3 : PySem.W.keepIn K (.ref f3) = true)
  (a4 : PySem.W.nsIn K mainGlobals "product" = some (some (.ref f4)))
  (l4 : K.lookup f4 = some ⟨oc4, od4, .func (PySem.W.fnOf "product" "product" (aM ck) (aK ck) (aj ck) .none kV4 dc4 pm4 an4 cd4 ct4), sl4⟩)
  (c4 : PySem.W.codeIn K cd4 "product" = true) (k4 : PySem.W.keepIn K (.ref f4) = true)
  (a5 : PySem.W.nsIn K mainGlobals "to_the" = some (some (.ref f5)))
  (l5 : K.lookup f5 = some ⟨oc5, od5, .func (PySem.W.fnOf "to_the" "to_the" (aM cL) (aK cL) (aj cL) .none kV5 dc5 pm5 an5 cd5 ct5), sl5⟩)
  (c5 : PySem.W.codeIn K cd5 "to_the" = true) (k5 : PySem.W.keepIn K (.ref f5) = true)
  (a6 : PySem.W.nsIn K mainGlobals "product_worth" = some (some (.ref f6)))
  (l6 : K.lookup f6 = some ⟨oc6, od6, .func (PySem.W.fnOf "product_worth" "product_worth" (aM ba) (aK ba) (aj ba) .none kV6 dc6 pm6 an6 cd6 ct6), sl6⟩)
  (c6 : PySem.W.codeIn K cd6 "product_worth" = true) (k6 : PySem.W.keepIn K (.ref f6) = true)
  (a7 : PySem.W.nsIn K mainGlobals "sum_worth" = some (some (.ref f7)))
  (l7 : K.lookup f7 = some ⟨oc7, od7, .func (PySem.W.fnOf "sum_worth" "sum_worth" (aM bD) (aK bD) (aj bD) .none kV7 dc7 pm7 an7 cd7 ct7), sl7⟩)
  (c7 : PySem.W.codeIn K cd7 "sum_worth" = true) (k7 : PySem.W.keepIn K (.ref f7) = true)
  (a8 : PySem.W.nsIn K mainGlobals "_law_draw" = some (some (.ref f8)))
  (l8 : K.lookup f8 = some ⟨oc8, od8, .func (PySem.W.fnOf "_law_draw" "_law_draw" (aM fG) (aK fG) (aj fG) .none kV8 dc8 pm8 an8 cd8 ct8), sl8⟩)
  (c8 : PySem.W.codeIn K cd8 "_law_draw" = true) (k8 : PySem.W.keepIn K (.ref f8) = true)
  (a9 : PySem.W.nsIn K mainGlobals "_law_state" = some (some (.ref f9)))
  (l9 : K.lookup f9 = some ⟨oc9, od9, .func (PySem.W.fnOf "_law_state" "_law_state" (aM dS) (aK dS) (aj dS) .none kV9 dc9 pm9 an9 cd9 ct9), sl9⟩)
  (c9 : PySem.W.codeIn K cd9 "_law_state" = true) (k9 : PySem.W.keepIn K (.ref f9) = true)
  (a10 : PySem.W.nsIn K mainGlobals "_law_names" = some (some (.ref f10)))
  (l10 : K.lookup f10 = some ⟨oc10, od10, .func (PySem.W.fnOf "_law_names" "_law_names" (aM dO) (aK dO) (aj dO) .none kV10 dc10 pm10 an10 cd10 ct10), sl10⟩)
  (c10 : PySem.W.codeIn K cd10 "_law_names" = true) (k10 : PySem.W.keepIn K (.ref f10) = true)
  (a11 : PySem.W.nsIn K mainGlobals "_law_length" = some (some (.ref f11)))
  (l11 : K.lookup f11 = some ⟨oc11, od11, .func (PySem.W.fnOf "_law_length" "_law_length" (aM cK) (aK cK) (aj cK) .none kV11 dc11 pm11 an11 cd11 ct11), sl11⟩)
  (c11 : PySem.W.codeIn K cd11 "_law_length" = true) (k11 : PySem.W.keepIn K (.ref f11) = true)
  (a12 : PySem.W.nsIn K mainGlobals "_law_product" = some (some (.ref f12)))
  (l12 : K.lookup f12 = some ⟨oc12, od12, .func (PySem.W.fnOf "_law_product" "_law_product" (aM bO) (aK bO) (aj bO) .none kV12 dc12 pm12 an12 cd12 ct12), sl12⟩)
  (c12 : PySem.W.codeIn K cd12 "_law_product" = true) (k12 : PySem.W.keepIn K (.ref f12) = true)
  (a13 : PySem.W.nsIn K mainGlobals "_law_into" = some (some (.ref f13)))
  (l13 : K.lookup f13 = some ⟨oc13, od13, .func (PySem.W.fnOf "_law_into" "_law_into" (aM fB) (aK fB) (aj fB) .none kV13 dc13 pm13 an13 cd13 ct13), sl13⟩)
  (c13 : PySem.W.codeIn K cd13 "_law_into" = true) (k13 : PySem.W.keepIn K (.ref f13) = true)
  (a14 : PySem.W.nsIn K mainGlobals "_law_told" = some (some (.ref f14)))
  (l14 : K.lookup f14 = some ⟨oc14, od14, .func (PySem.W.fnOf "_law_told" "_law_told" (aM eI) (aK eI) (aj eI) .none kV14 dc14 pm14 an14 cd14 ct14), sl14⟩)
  (c14 : PySem.W.codeIn K cd14 "_law_told" = true) (k14 : PySem.W.keepIn K (.ref f14) = true)
  (a15 : PySem.W.nsIn K mainGlobals "_law_worth" = some (some (.ref f15)))
  (l15 : K.lookup f15 = some ⟨oc15, od15, .func (PySem.W.fnOf "_law_worth" "_law_worth" (aM cJ) (aK cJ) (aj cJ) .none kV15 dc15 pm15 an15 cd15 ct15), sl15⟩)
  (c15 : PySem.W.codeIn K cd15 "_law_worth" = true) (k15 : PySem.W.keepIn K (.ref f15) = true)
  (a16 : PySem.W.nsIn K mainGlobals "_law_same" = some (some (.ref f16)))
  (l16 : K.lookup f16 = some ⟨oc16, od16, .func (PySem.W.fnOf "_law_same" "_law_same" (aM eC) (aK eC) (aj eC) .none kV16 dc16 pm16 an16 cd16 ct16), sl16⟩)
  (c16 : PySem.W.codeIn K cd16 "_law_same" = true) (k16 : PySem.W.keepIn K (.ref f16) = true)
  (a17 : PySem.W.nsIn K mainGlobals "_law_numbers" = some (some (.ref f17)))
  (l17 : K.lookup f17 = some ⟨oc17, od17, .func (PySem.W.fnOf "_law_numbers" "_law_numbers" (aM cj) (aK cj) (aj cj) .none kV17 dc17 pm17 an17 cd17 ct17), sl17⟩)
  (c17 : PySem.W.codeIn K cd17 "_law_numbers" = true) (k17 : PySem.W.keepIn K (.ref f17) = true)
  (a18 : PySem.W.nsIn K mainGlobals "law" = some (some (.ref f18)))
  (l18 : K.lookup f18 = some ⟨oc18, od18, .func (PySem.W.fnOf "law" "law" (aM dX) (aK dX) (aj dX) .none kV18 dc18 pm18 an18 cd18 ct18), sl18⟩)
  (c18 : PySem.W.codeIn K cd18 "law" = true) (k18 : PySem.W.keepIn K (.ref f18) = true)
  (z1 : PySem.W.nsIn K mainGlobals "len" = some none)
  (z2 : PySem.W.nsIn K mainGlobals "isinstance" = some none)
  (z3 : PySem.W.nsIn K mainGlobals "int" = some none)
  (z4 : PySem.W.nsIn K mainGlobals "bool" = some none)
  (z5 : PySem.W.nsIn K mainGlobals "tuple" = some none)
  (z6 : PySem.W.nsIn K mainGlobals "list" = some none)
  (z7 : PySem.W.nsIn K mainGlobals "range" = some none)
  (z8 : PySem.W.nsIn K mainGlobals "sorted" = some none)
  (z9 : PySem.W.nsIn K mainGlobals "set" = some none)
  (z10 : PySem.W.nsIn K mainGlobals "dict" = some none)
  (z11 : PySem.W.nsIn K mainGlobals "min" = some none)
  (z12 : PySem.W.nsIn K mainGlobals "sum" = some none)
  :
  ∃ fd : FuncData, (∀ (s : Shared) (v : Value), BindsTo s fd ⟨[v], []⟩ [("_law_script", v)]) /\ ∀ base : Heap, K.In base -> base.Ns mainGlobals mg -> bu l.prog w K mg base CX0 5 fa fd ["_law_script"] (oM K) := by
 have e := hfa.symm.trans (PySem.W.mg_of X G a18)
 cases e
 have T : Txt K mg := ⟨PySem.W.mg_none_of X G z1, PySem.W.mg_none_of X G z2, PySem.W.mg_none_of X G z3, PySem.W.mg_none_of X G z4, PySem.W.mg_none_of X G z5, PySem.W.mg_none_of X G z6, PySem.W.mg_none_of X G z7, PySem.W.mg_none_of X G z8, PySem.W.mg_none_of X G z9, PySem.W.mg_none_of X G z10, PySem.W.mg_none_of X G z11, PySem.W.mg_none_of X G z12⟩
 have F1 := bn (st := aQ) l1 c1 k1
 have b1 := F1.binds (ps := ["parts"]) fun _ _ _ _ _ _ => us1 fun _ => rfl
 have F2 := bn (st := bE) l2 c2 k2
 have b2 := F2.binds (ps := ["a"]) fun _ _ _ _ _ _ => us1 fun _ => rfl
 have F3 := bn (st := bP) l3 c3 k3
 have b3 := F3.binds (ps := ["s", "t"]) fun _ _ _ _ _ _ => us2 fun _ _ => rfl
 have F4 := bn (st := ck) l4 c4 k4
 have b4 := F4.binds (ps := ["s", "t"]) fun _ _ _ _ _ _ => us2 fun _ _ => rfl
 have F5 := bn (st := cL) l5 c5 k5
 have b5 := F5.binds (ps := ["base", "power"]) fun _ _ _ _ _ _ => us2 fun _ _ => rfl
 have F6 := bn (st := ba) l6 c6 k6
 have b6 := F6.binds (ps := ["powers", "numbers"]) fun _ _ _ _ _ _ => us2 fun _ _ => rfl
 have F7 := bn (st := bD) l7 c7 k7
 have b7 := F7.binds (ps := ["s", "numbers"]) fun _ _ _ _ _ _ => us2 fun _ _ => rfl
 have F8 := bn (st := fG) l8 c8 k8
 have b8 := F8.binds (ps := ["_law_state_here", "_law_many"]) fun _ _ _ _ _ _ => us2 fun _ _ => rfl
 have F9 := bn (st := dS) l9 c9 k9
 have b9 := F9.binds (ps := ["_law_script", "_law_k"]) fun _ _ _ _ _ _ => us2 fun _ _ => rfl
 have F10 := bn (st := dO) l10 c10 k10
 have b10 := F10.binds (ps := ["_law_state_here", "_law_many"]) fun _ _ _ _ _ _ => us2 fun _ _ => rfl
 have F11 := bn (st := cK) l11 c11 k11
 have b11 := F11.binds (ps := ["_law_state_here", "_law_names_here", "_law_most"]) fun _ _ _ _ _ _ => us3 fun _ _ _ => rfl
 have F12 := bn (st := bO) l12 c12 k12
 have b12 := F12.binds (ps := ["_law_state_here", "_law_names_here"]) fun _ _ _ _ _ _ => us2 fun _ _ => rfl
 have F13 := bn (st := fB) l13 c13 k13
 have b13 := F13.binds (ps := ["_law_model", "_law_names_here", "_law_times"]) fun _ _ _ _ _ _ => us3 fun _ _ _ => rfl
 have F14 := bn (st := eI) l14 c14 k14
 have b14 := F14.binds (ps := ["_law_model"]) fun _ _ _ _ _ _ => us1 fun _ => rfl
 have F15 := bn (st := cJ) l15 c15 k15
 have b15 := F15.binds (ps := ["_law_model", "_law_numbers_here"]) fun _ _ _ _ _ _ => us2 fun _ _ => rfl
 have F16 := bn (st := eC) l16 c16 k16
 have b16 := F16.binds (ps := ["_law_found", "_law_model", "_law_numbers_here"]) fun _ _ _ _ _ _ => us3 fun _ _ _ => rfl
 have F17 := bn (st := cj) l17 c17 k17
 have b17 := F17.binds (ps := ["_law_state_here", "_law_names_here"]) fun _ _ _ _ _ _ => us2 fun _ _ => rfl
 have F18 := bn (st := dX) l18 c18 k18
 refine ⟨PySem.W.fnOf "law" "law" (aM dX) (aK dX) (aj dX) .none kV18 dc18 pm18 an18 cd18 ct18, fun s v => .of_eq rfl, fun base _ _ => ?_⟩
 have D1 : Def l.prog w K mg base 1 "gathered" ["parts"] (oU K) := ⟨f1, _, wg F1 T, b1, k1, PySem.W.mg_of X G a1⟩
 have D2 : Def l.prog w K mg base 2 "of_length" ["a"] (ju K) := ⟨f2, _, jN (k0 := 1) F2 T (D1.up (by decide)), b2, k2, PySem.W.mg_of X G a2⟩
 have D3 : Def l.prog w K mg base 2 "together" ["s", "t"] (qU K) := ⟨f3, _, kB (k0 := 1) F3 T (D1.up (by decide)), b3, k3, PySem.W.mg_of X G a3⟩
 have D4 : Def l.prog w K mg base 2 "product" ["s", "t"] (mR K) := ⟨f4, _, mU (k0 := 1) F4 T (D1.up (by decide)), b4, k4, PySem.W.mg_of X G a4⟩
 have D5 : Def l.prog w K mg base 1 "to_the" ["base", "power"] jQ := ⟨f5, _, pL F5 T, b5, k5, PySem.W.mg_of X G a5⟩
 have D6 : Def l.prog w K mg base 2 "product_worth" ["powers", "numbers"] (hJ K) := ⟨f6, _, fD (k0 := 1) F6 T (D5.up (by decide)), b6, k6, PySem.W.mg_of X G a6⟩
 have D7 : Def l.prog w K mg base 3 "sum_worth" ["s", "numbers"] (gB K) := ⟨f7, _, jr (k0 := 2) F7 T (D6.up (by decide)), b7, k7, PySem.W.mg_of X G a7⟩
 have D8 : Def l.prog w K mg base 1 "_law_draw" ["_law_state_here", "_law_many"] fS := ⟨f8, _, tJ F8 T, b8, k8, PySem.W.mg_of X G a8⟩
 have D9 : Def l.prog w K mg base 1 "_law_state" ["_law_script", "_law_k"] (jq K) := ⟨f9, _, rh F9 T, b9, k9, PySem.W.mg_of X G a9⟩
 have D10 : Def l.prog w K mg base 2 "_law_names" ["_law_state_here", "_law_many"] jE := ⟨f10, _, qc (k := 1) F10 T (D8.up (by decide)), b10, k10, PySem.W.mg_of X G a10⟩
 have D11 : Def l.prog w K mg base 2 "_law_length" ["_law_state_here", "_law_names_here", "_law_most"] gF := ⟨f11, _, oO (k := 1) F11 T (D8.up (by decide)), b11, k11, PySem.W.mg_of X G a11⟩
 have D12 : Def l.prog w K mg base 2 "_law_product" ["_law_state_here", "_law_names_here"] fJ := ⟨f12, _, lE (k0 := 1) F12 T (D8.up (by decide)), b12, k12, PySem.W.mg_of X G a12⟩
 have D13 : Def l.prog w K mg base 1 "_law_into" ["_law_model", "_law_names_here", "_law_times"] (jl l.prog w) := ⟨f13, _, sV F13 T, b13, k13, PySem.W.mg_of X G a13⟩
 have D14 : Def l.prog w K mg base 1 "_law_told" ["_law_model"] (iT K l.prog w) := ⟨f14, _, tP F14 T, b14, k14, PySem.W.mg_of X G a14⟩
 have D15 : Def l.prog w K mg base 1 "_law_worth" ["_law_model", "_law_numbers_here"] (gX l.prog w) := ⟨f15, _, pO F15 T, b15, k15, PySem.W.mg_of X G a15⟩
 have D16 : Def l.prog w K mg base 4 "_law_same" ["_law_found", "_law_model", "_law_numbers_here"] (mO K l.prog w) := ⟨f16, _, sh (k0 := 3) F16 T (D14.up (by decide)) (D7.up (by decide)) (D15.up (by decide)), b16, k16, PySem.W.mg_of X G a16⟩
 have D17 : Def l.prog w K mg base 2 "_law_numbers" ["_law_state_here", "_law_names_here"] fQ := ⟨f17, _, mG (k0 := 1) F17 T (D8.up (by decide)), b17, k17, PySem.W.mg_of X G a17⟩
 exact vg (k0 := 4) F18 T (D9.up (by decide)) (D10.up (by decide)) (D17.up (by decide)) (D12.up (by decide)) (D13.up (by decide)) (D14.up (by decide)) (D16.up (by decide)) (D3.up (by decide)) (D4.up (by decide)) (D11.up (by decide)) (D2.up (by decide))
theorem walk {l : PySem.W.OpenLaw} {q : Program} {loose : List Str} {XP : (Str -> Option Value) -> Heap -> Prop} {YP : World -> Heap -> Prop} {d : DefRec} {K : Params -> PySem.W.Frag} (hn : l.most = some 63) (hdf : d.params.defaults = [])
  (hY : ∀ (w : World) (h : Heap), YP w h -> (K w.params).In h)
  (F : ∀ (w : World) (mg : Str -> Option Value) (fa : Addr) (h : Heap), (K w.params).In h -> h.Ns mainGlobals mg -> mg d.name = some (.ref fa) ->
   ∃ fd : FuncData, (∀ (s : Shared) (u : Value), BindsTo s fd ⟨[u], []⟩ [("_law_script", u)]) /\ ∀ base : Heap, (K w.params).In base -> base.Ns mainGlobals mg -> bu l.prog w (K w.params) mg base CX0 5 fa fd ["_law_script"] (oM (K w.params))) :
  PySem.W.WalkO q loose XP YP l.row.toRowW d [] (fun f vs => PySem.call f vs) :=
 L2.walk_of (n := 63) (k := 5) (x := "_law_script") (CX := fun _ => CX0) (sp := fun w => oM (K w.params)) hn (by decide) hdf ⟨rfl, by decide, by decide⟩ hY F (fun _ _ a ns hl _ hS => ⟨a, ns, rfl, hS, hl, fun _ => rfl⟩) fun _ _ _ _ _ z => z
end K15
def PySem.W.Fast.tw7914773979151343352 : Nat := 0
def PySem.W.Fast.tw241207145409523209 : Nat := 0
def PySem.W.Fast.tw6541273519054717661 : Nat := 0
def PySem.W.Fast.tw3849117912842225211 : Nat := 0
def PySem.W.Fast.tw15687746512533827041 : Nat := 0
def PySem.W.Fast.tw7270800516007092631 : Nat := 0
def PySem.W.Fast.tw8804710204470918278 : Nat := 0
def PySem.W.Fast.tw16583283277075540686 : Nat := 0
def PySem.W.Fast.tw10347831692528966858 : Nat := 0
def PySem.W.Fast.tw18442164342745664498 : Nat := 0
def PySem.W.Fast.tw15915782188887755932 : Nat := 0
def PySem.W.Fast.tw17594436073109439011 : Nat := 0
def PySem.W.Fast.tw10993809134745903158 : Nat := 0
def PySem.W.Fast.tw12562148504675689773 : Nat := 0
def PySem.W.Fast.tw11435680504873918118 : Nat := 0
def PySem.W.Fast.tw13183887843066936700 : Nat := 0
def PySem.W.Fast.tw7197997990723302490 : Nat := 0
def PySem.W.Fast.tw11657146016789450117 : Nat := 0
def PySem.W.Fast.tw7097612976503066527 : Nat := 0
def PySem.W.Fast.tw17918056957073874229 : Nat := 0
open PySem PySem.W PyProof.Rows
set_option maxRecDepth 100000 in
set_option maxHeartbeats 0 in
theorem PySem.Challenge.cw_indexwise_k15_sums_of_products_holds : PySem.Challenge.rw_indexwise_k15_sums_of_products.Holds := by
 w_on; o_law; k_head; (case hw => w_witness2)
 k_fill
 refine K15.walk (l := PySem.Challenge.rw_indexwise_k15_sums_of_products) rfl rfl (fun w h Y => PySem.W.kIn_of Y) ?F
 case F =>
  intro w mg fa h KX G hmg
  refine' K15.all_mk KX G hmg ?a1 ?l1 ?c1 ?k1 ?a2 ?l2 ?c2 ?k2 ?a3 ?l3 ?c3 ?k3 ?a4 ?l4 ?c4 ?k4 ?a5 ?l5 ?c5 ?k5 ?a6 ?l6 ?c6 ?k6 ?a7 ?l7 ?c7 ?k7 ?a8 ?l8 ?c8 ?k8 ?a9 ?l9 ?c9 ?k9 ?a10 ?l10 ?c10 ?k10 ?a11 ?l11 ?c11 ?k11 ?a12 ?l12 ?c12 ?k12 ?a13 ?l13 ?c13 ?k13 ?a14 ?l14 ?c14 ?k14 ?a15 ?l15 ?c15 ?k15 ?a16 ?l16 ?c16 ?k16 ?a17 ?l17 ?c17 ?k17 ?a18 ?l18 ?c18 ?k18 ?z1 ?z2 ?z3 ?z4 ?z5 ?z6 ?z7 ?z8 ?z9 ?z10 ?z11 ?z12
  (case a1 => k_is); (case l1 => k_is); (case c1 => k_is); (case k1 => k_is)
  (case a2 => k_is); (case l2 => k_is); (case c2 => k_is); (case k2 => k_is)
  (case a3 => k_is); (case l3 => k_is); (case c3 => k_is); (case k3 => k_is)
  (case a4 => k_is); (case l4 => k_is); (case c4 => k_is); (case k4 => k_is)
  (case a5 => k_is); (case l5 => k_is); (case c5 => k_is); (case k5 => k_is)
  (case a6 => k_is); (case l6 => k_is); (case c6 => k_is); (case k6 => k_is)
  (case a7 => k_is); (case l7 => k_is); (case c7 => k_is); (case k7 => k_is)
  (case a8 => k_is); (case l8 => k_is); (case c8 => k_is); (case k8 => k_is)
  (case a9 => k_is); (case l9 => k_is); (case c9 => k_is); (case k9 => k_is)
  (case a10 => k_is); (case l10 => k_is); (case c10 => k_is); (case k10 => k_is)
  (case a11 => k_is); (case l11 => k_is); (case c11 => k_is); (case k11 => k_is)
  (case a12 => k_is); (case l12 => k_is); (case c12 => k_is); (case k12 => k_is)
  (case a13 => k_is); (case l13 => k_is); (case c13 => k_is); (case k13 => k_is)
  (case a14 => k_is); (case l14 => k_is); (case c14 => k_is); (case k14 => k_is)
  (case a15 => k_is); (case l15 => k_is); (case c15 => k_is); (case k15 => k_is)
  (case a16 => k_is); (case l16 => k_is); (case c16 => k_is); (case k16 => k_is)
  (case a17 => k_is); (case l17 => k_is); (case c17 => k_is); (case k17 => k_is)
  (case a18 => k_is); (case l18 => k_is); (case c18 => k_is); (case k18 => k_is)
  (case z1 => k_is); (case z2 => k_is); (case z3 => k_is); (case z4 => k_is); (case z5 => k_is); (case z6 => k_is); (case z7 => k_is); (case z8 => k_is); (case z9 => k_is); (case z10 => k_is); (case z11 => k_is); (case z12 => k_is)
