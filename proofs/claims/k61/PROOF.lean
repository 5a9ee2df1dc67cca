import PyProof.Rows.All
import Wide.All
import OpenK.AllK
import Wide.FinOn
import Lean
import PyProof.EqAt
import PyProof.EqKinds
import PyProof.TupleCall
import PySem.Challenge.RW_indexwise_k61_lengths_and_kinds_written
set_option Elab.async false
set_option linter.all false
set_option maxRecDepth 100000
namespace L2
open PySem PySem.Spec PyProof.Rows
abbrev Key := Sum Int Str
def keyIs : Key → Value → Bool
  | .inl k, v => Value.isInt k v
  | .inr x, v => Value.isStrOf x v
def keyH (w : World) : Key → Int
  | .inl k => hashInt k
  | .inr x => hashStr w x
theorem keyIs_shape : ∀ {k : Key} {v : Value}, keyIs k v = true → (∃ i t, k = Sum.inl i ∧ v = Value.int i t) ∨ (∃ x t, k = Sum.inr x ∧ v = Value.str x t)
  | .inl i, v, h => by
    obtain ⟨t, e⟩ := Value.isInt_shape (k := i) (v := v) h
    exact .inl ⟨i, t, rfl, e⟩
  | .inr x, v, h => by
    obtain ⟨t, e⟩ := Value.isStrOf_shape (x := x) (v := v) h
    exact .inr ⟨x, t, rfl, e⟩
theorem keyIs_int (i : Int) (t : Tok) : keyIs (.inl i) (.int i t) = true := by simp [keyIs, Value.isInt]
theorem keyIs_str (x : Str) (t : Tok) : keyIs (.inr x) (.str x t) = true := by simp [keyIs, Value.isStrOf]
theorem key_ll (a b : Int) : decide ((Sum.inl a : Key) = Sum.inl b) = (a == b) := by
  by_cases e : a = b
  · subst e; simp
  · have h : ¬ (Sum.inl a : Key) = Sum.inl b := fun q => e (Sum.inl.inj q)
    rw [decide_eq_false h]
    exact (beq_eq_false_iff_ne.mpr e).symm
theorem key_rr (a b : Str) : decide ((Sum.inr a : Key) = Sum.inr b) = decide (a = b) := by
  by_cases e : a = b
  · subst e; simp
  · have h : ¬ (Sum.inr a : Key) = Sum.inr b := fun q => e (Sum.inr.inj q)
    rw [decide_eq_false h, decide_eq_false e]
theorem key_lr (a : Int) (b : Str) : decide ((Sum.inl a : Key) = Sum.inr b) = false := decide_eq_false (fun q => nomatch q)
theorem key_rl (a : Str) (b : Int) : decide ((Sum.inr a : Key) = Sum.inl b) = false := decide_eq_false (fun q => nomatch q)
def mixKind (prog : Program) (w : World) : PySem.KeyKind prog w Key where
  is := keyIs
  hash := keyH w
  inj := fun v a b ha hb => by
    rcases keyIs_shape ha with ⟨i, t, rfl, rfl⟩ | ⟨x, t, rfl, rfl⟩
    · rcases keyIs_shape hb with ⟨j, u, rfl, e⟩ | ⟨y, u, rfl, e⟩
      · injection e with e1 _; rw [e1]
      · exact nomatch e
    · rcases keyIs_shape hb with ⟨j, u, rfl, e⟩ | ⟨y, u, rfl, e⟩
      · exact nomatch e
      · injection e with e1 _; rw [e1]
  byValue := fun k v h => by
    rcases keyIs_shape h with ⟨i, t, rfl, rfl⟩ | ⟨x, t, rfl, rfl⟩ <;> rfl
  pyHash := fun hv h => by
    rcases keyIs_shape hv with ⟨i, t, rfl, rfl⟩ | ⟨x, t, rfl, rfl⟩
    · exact wpAny_pyHash_int h
    · exact wpAny_pyHash_str h
  eqBool := fun hu hv h => by
    rcases keyIs_shape hu with ⟨i, t, rfl, rfl⟩ | ⟨x, t, rfl, rfl⟩
    · rcases keyIs_shape hv with ⟨j, u, rfl, rfl⟩ | ⟨y, u, rfl, rfl⟩
      · rw [key_ll] at h; exact wpAny_eqBool_int h
      · rw [key_lr] at h; exact SeqAt.EqAt.int_str i t y u _ _ _ _ h
    · rcases keyIs_shape hv with ⟨j, u, rfl, rfl⟩ | ⟨y, u, rfl, rfl⟩
      · rw [key_rl] at h; exact SeqAt.EqAt.str_int x t j u _ _ _ _ h
      · rw [key_rr] at h; exact wpAny_eqBool_str h
  «strs» := fun k x t v h => by
    rcases keyIs_shape h with ⟨i, u, rfl, e⟩ | ⟨y, u, rfl, e⟩
    · exact nomatch e
    · injection e with e1 _
      subst e1
      cases v <;> rfl
theorem mixKind_int (prog : Program) (w : World) (i : Int) (t : Tok) : (mixKind prog w).is (.inl i) (.int i t) = true := keyIs_int i t
theorem mixKind_str (prog : Program) (w : World) (x : Str) (t : Tok) : (mixKind prog w).is (.inr x) (.str x t) = true := keyIs_str x t
end L2
namespace L2
open PySem PySem.Spec PyProof.Rows
inductive V where
  | non | bl (b : Bool) | int (i : Int) | str (x : Str) | byt (b : Array UInt8) | flt (b : UInt64) | ref (a : Addr) | ty (n : String)
  deriving DecidableEq
def RelV : V → Value → Prop
  | .non, u => u = Value.none
  | .bl b, u => u = Value.bool b
  | .int i, u => ∃ t, u = Value.int i t
  | .str x, u => ∃ t, u = Value.str x t
  | .byt b, u => ∃ t, u = Value.bytes b t
  | .flt b, u => ∃ t, u = Value.float b t
  | .ref a, u => u = Value.ref a
  | .ty n, u => u = Value.type n
abbrev Vals : List V → List Value → Prop := Paired RelV
theorem Vals.length {xs : List V} {us : List Value} (r : Vals xs us) : xs.length = us.length := Paired.length r
theorem Vals.get : ∀ {xs : List V} {us : List Value} {i : Nat} {x : V}, Vals xs us → xs[i]? = some x → ∃ u, us[i]? = some u ∧ RelV x u
  | _, _, _, _, .nil, e => by simp at e
  | _, _, 0, _, .cons r _, e => by simp at e; subst e; exact ⟨_, rfl, r⟩
  | _, _, i + 1, x, .cons _ t, e => by
    obtain ⟨u, h1, h2⟩ := Vals.get (i := i) (x := x) t (by simpa using e)
    exact ⟨u, by simpa using h1, h2⟩
theorem Vals.set {x : V} {u : Value} (r : RelV x u) : ∀ {xs : List V} {us : List Value} (i : Nat), Vals xs us → Vals (xs.set i x) (us.set i u)
  | _, _, _, .nil => .nil
  | _, _, 0, .cons _ t => .cons r t
  | _, _, i + 1, .cons q t => .cons q (Vals.set r i t)
theorem Vals.append : ∀ {xs ys : List V} {us ws : List Value}, Vals xs us → Vals ys ws → Vals (xs ++ ys) (us ++ ws)
  | _, _, _, _, .nil, s => s
  | _, _, _, _, .cons r t, s => .cons r (Vals.append t s)
theorem Vals.take : ∀ {xs : List V} {us : List Value} (n : Nat), Vals xs us → Vals (xs.take n) (us.take n)
  | _, _, 0, _ => .nil
  | _, _, _ + 1, .nil => .nil
  | _, _, n + 1, .cons r t => .cons r (Vals.take n t)
theorem Vals.drop : ∀ {xs : List V} {us : List Value} (n : Nat), Vals xs us → Vals (xs.drop n) (us.drop n)
  | _, _, 0, r => r
  | _, _, _ + 1, .nil => .nil
  | _, _, n + 1, .cons _ t => Vals.drop n t
def RelO : Option V → Option Value → Prop
  | some v, some u => RelV v u
  | none, none => True
  | _, _ => False
def KV {κ : Type} : List (κ × V) → List (κ × Value) → Prop := Paired fun (p : κ × V) (q : κ × Value) => p.1 = q.1 ∧ RelV p.2 q.2
def kV : Key → V
  | .inl i => .int i
  | .inr x => .str x
inductive HO where
  /-- a list -/
  | lst (xs : List V)
  /-- a tuple (never changes) -/
  | tup (xs : List V)
  /-- a dict whose keys are ints and texts; one whose keys are tuples of ints and texts (the empty one is both) -/
  | dK (kvs : List (Key × V)) | dT (kvs : List (List Key × V))
  /-- a set of ints: its members, its size -/
  | set (S : Int → Bool) (n : Nat)
  /-- an instance of the class at C, its dict at dx, its attributes -/
  | ins (C dx : Addr) (fs : List (Str × V))
  /-- the dict of the instance at x -/
  | own (x : Addr)
  /-- the dict of an exception -/
  | xd (fs : List (Str × V))
  /-- a bound method, f of x -/
  | met (f x : Addr)
  /-- a range object lo, lo + 1, .. below hi -/
  | rng (lo hi : Int)
  /-- a thing that is known to the object (the script; a dict while a loop walks it): read, never written while it is so -/
  | frz (o : Obj) (u : HO)
  /-- a code object's table -/
  | tbl (ps : Array Value)
  /-- any other thing, by what is true of its one object (a def of one's own: SetO a S n := HO.ext fun h => ..) -/
  | ext (φ : Heap → Prop)
abbrev Hp := Addr → Option HO
def upd (H : Hp) (a : Addr) (o : HO) : Hp := fun b => if b = a then some o else H b
theorem upd_same {H : Hp} {a : Addr} {o : HO} : upd H a o a = some o := by unfold upd; rw [if_pos rfl]
theorem upd_ne {H : Hp} {a b : Addr} {o : HO} (h : b ≠ a) : upd H a o b = H b := by unfold upd; rw [if_neg h]
theorem upd_upd {H : Hp} {a : Addr} {o u : HO} : upd (upd H a o) a u = upd H a u := by
  funext b; unfold upd; split <;> rfl
theorem ne_of {H : Hp} {a b : Addr} {o u : HO} (h : H a = some o) (h' : H b = some u) (d : o ≠ u) : a ≠ b := by
  intro e; subst e; rw [h] at h'; exact d (Option.some.inj h')
theorem ne_of_none {H : Hp} {a b : Addr} {o : HO} (h : H a = some o) (h' : H b = none) : a ≠ b := by
  intro e; subst e; rw [h] at h'; cases h'
def NoD (h : Heap) (a : Addr) : Prop := ∃ o, h.get? a = some o ∧ o.dict = none
theorem NoD.new (h : Heap) {o : Obj} (e : o.dict = none) (f : o.isFreed = false := by rfl) : NoD (h.push o) h.objs.size := ⟨_, Heap.get?_push_size _ f, e⟩
section
variable (P : Program) (w : World)
def ObjOk (H : Hp) (h : Heap) (a : Addr) : HO → Prop
  | .lst xs => xs.length ≤ sizeLine ∧ ∃ (its : List Value) (n : Nat), Vals xs its ∧ h.get? a = some { cls := .type "list", data := .seq its.toArray n }
  | .tup xs => xs.length ≤ sizeLine ∧ ∃ its : List Value, Vals xs its ∧ IsTup h a its.toArray ∧ NoD h a
  | .dK kvs => kvs.length ≤ sizeLine ∧ (a == sysModules) = false ∧ ∃ vs, KV kvs vs ∧ h.DictOf (mixKind P w) a vs
  | .dT kvs => kvs.length ≤ sizeLine ∧ (a == sysModules) = false ∧ ∃ xs : List (List Key × Addr × Value),
      Paired (fun (p : List Key × V) (q : List Key × Addr × Value) => p.1 = q.1 ∧ H q.2.1 = some (.tup (p.1.map kV)) ∧ RelV p.2 q.2.2) kvs xs ∧
      ∃ o es ep, h.get? a = some o ∧ o.ExactDict ∧ o.data = .dict es ep ∧ es.toList = xs.map (entryOfKey (tupleKind (mixKind P w))) ∧ (xs.map (·.1)).Nodup
  | .set S n => h.SetOf (intKind P w) a S n
  | .ins C dx fs => H dx = some (.own a) ∧ fs.length ≤ 1000 ∧ dx ≠ a ∧ h.get? a = some (PySem.W.instObj C dx) ∧
      ∃ mA, h.Ns1 dx mA ∧ (∀ f, RelO (fs.lookup f) (mA f)) ∧ PySem.Within mA (fs.map (·.1))
  | .own _ => ∃ o, h.get? a = some o
  | .xd fs => ∃ mA, h.Ns1 a mA ∧ ∀ f, RelO (fs.lookup f) (mA f)
  | .rng lo hi => ∃ t u v, h.get? a = some { cls := .type "range", data := .fields #[.int lo t, .int hi u, .int 1 v] }
  | .frz o u => h.get? a = some o ∧ ObjOk H h a u
  | .tbl ps => h.get? a = some { cls := .none, data := .fields ps }
  | .met f x => h.get? a = some (PySem.W.methodObj (.ref f) (.ref x))
  | .ext φ => φ h ∧ (∃ o, h.get? a = some o) ∧ ∀ h1 h2 : Heap, φ h1 → (∀ o, h1.get? a = some o → h2.get? a = some o) → φ h2
def HOk (H : Hp) (h : Heap) : Prop := ∀ a o, H a = some o → ObjOk P w H h a o
end
section
variable {P : Program} {w : World} {H H' : Hp} {h h' : Heap} {a : Addr} {o : HO}
theorem ObjOk.lt (x : ObjOk P w H h a o) : a < h.objs.size := by
  cases o with
  | lst xs => obtain ⟨_, _, _, _, e⟩ := x; exact Heap.lt_size e
  | tup xs => obtain ⟨_, _, _, p⟩ := x; exact p.1.lt
  | dK kvs => obtain ⟨_, _, _, _, o, _, _, e, _⟩ := x; exact Heap.lt_size e
  | dT kvs => obtain ⟨_, _, _, _, o, _, _, e, _⟩ := x; exact Heap.lt_size e
  | set S n => obtain ⟨o, _, _, _, e, _⟩ := x; exact Heap.lt_size e
  | ins C dx fs => obtain ⟨_, _, _, e, _⟩ := x; exact Heap.lt_size e
  | own y => obtain ⟨_, e⟩ := x; exact Heap.lt_size e
  | xd fs => obtain ⟨_, ⟨_, _, _, e, _⟩, _⟩ := x; exact Heap.lt_size e
  | rng lo hi => obtain ⟨_, _, _, e⟩ := x; exact Heap.lt_size e
  | frz ob u => obtain ⟨e, _⟩ := x; exact Heap.lt_size e
  | tbl ps => exact Heap.lt_size (show h.get? a = some _ from x)
  | met f y => exact Heap.lt_size (show h.get? a = some _ from x)
  | ext φ => obtain ⟨_, ⟨_, e⟩, _⟩ := x; exact Heap.lt_size e
theorem Paired.mapP {α β : Type} {F G : α → β → Prop} : ∀ {l₁ : List α} {l₂ : List β}, Paired F l₁ l₂ → (∀ a b, F a b → G a b) → Paired G l₁ l₂
  | _, _, .nil, _ => .nil
  | _, _, .cons r t, f => .cons (f _ _ r) (Paired.mapP t f)
theorem ObjOk.stay (x : ObjOk P w H h a o) (k : ∀ b u, (b = a ∨ H b = some (.own a)) → h.get? b = some u → h'.get? b = some u)
    (ho : ∀ b, H b = some (.own a) → H' b = some (.own a)) (ht : ∀ b xs, H b = some (.tup xs) → H' b = some (.tup xs)) : ObjOk P w H' h' a o := by
  induction o with
  | lst xs => obtain ⟨z, its, n, r, e⟩ := x; exact ⟨z, its, n, r, k _ _ (.inl rfl) e⟩
  | tup xs => obtain ⟨z, its, r, ⟨ob, e, c⟩, od, e2, c2⟩ := x; exact ⟨z, its, r, ⟨ob, k _ _ (.inl rfl) e, c⟩, od, k _ _ (.inl rfl) e2, c2⟩
  | dK kvs => obtain ⟨z, y, vs, r, ob, es, ep, e, c⟩ := x; exact ⟨z, y, vs, r, ob, es, ep, k _ _ (.inl rfl) e, c⟩
  | dT kvs =>
    obtain ⟨z, y, xs, r, ob, es, ep, e, c⟩ := x
    exact ⟨z, y, xs, Paired.mapP r fun p q z => ⟨z.1, ht _ _ z.2.1, z.2.2⟩, ob, es, ep, k _ _ (.inl rfl) e, c⟩
  | set S n => obtain ⟨ob, es, ep, t, e, c⟩ := x; exact ⟨ob, es, ep, t, k _ _ (.inl rfl) e, c⟩
  | ins C dx fs =>
    obtain ⟨d, z, ne, e, mA, ⟨od, es, ep, e2, c⟩, r⟩ := x
    exact ⟨ho _ d, z, ne, k _ _ (.inl rfl) e, mA, ⟨od, es, ep, k _ _ (.inr d) e2, c⟩, r⟩
  | own y => obtain ⟨ob, e⟩ := x; exact ⟨ob, k _ _ (.inl rfl) e⟩
  | xd fs => obtain ⟨mA, ⟨od, es, ep, e, c⟩, r⟩ := x; exact ⟨mA, ⟨od, es, ep, k _ _ (.inl rfl) e, c⟩, r⟩
  | rng lo hi => obtain ⟨t, u, v, e⟩ := x; exact ⟨t, u, v, k _ _ (.inl rfl) e⟩
  | frz ob u ih => obtain ⟨e, q⟩ := x; exact ⟨k _ _ (.inl rfl) e, ih q⟩
  | tbl ps =>
    have e : h.get? a = some { cls := .none, data := .fields ps } := x
    show h'.get? a = some { cls := .none, data := .fields ps }
    exact k a _ (.inl rfl) e
  | met f y =>
    have e : h.get? a = some (PySem.W.methodObj (.ref f) (.ref y)) := x
    show h'.get? a = some (PySem.W.methodObj (.ref f) (.ref y))
    exact k a _ (.inl rfl) e
  | ext φ => obtain ⟨p, ⟨o, e⟩, st⟩ := x; exact ⟨st _ _ p fun o q => k _ _ (.inl rfl) q, ⟨o, k _ _ (.inl rfl) e⟩, st⟩
theorem HOk.lt (x : HOk P w H h) (e : H a = some o) : a < h.objs.size := (x a o e).lt
theorem HOk.fresh (x : HOk P w H h) (e : h.objs.size ≤ a) : H a = none := by
  cases q : H a with
  | none => rfl
  | some u => exact absurd (Nat.lt_of_lt_of_le (x.lt q) e) (Nat.lt_irrefl _)
theorem HOk.kept (x : HOk P w H h) (k : ∀ b u, h.get? b = some u → h'.get? b = some u) : HOk P w H h' := fun a o e =>
  (x a o e).stay (fun b u _ q => k b u q) (fun _ q => q) fun _ _ q => q
theorem HOk.laid (x : HOk P w H h) (k : ∀ b u, h.get? b = some u → h'.get? b = some u) (hp : h.objs.size ≤ a) (new : ObjOk P w (upd H a o) h' a o) : HOk P w (upd H a o) h' := fun b u e => by
  have hn := x.fresh hp
  by_cases hb : b = a
  · subst hb; rw [upd_same] at e; cases e; exact new
  · rw [upd_ne hb] at e
    exact (x b u e).stay (fun c v _ q => k c v q) (fun c q => by rw [upd_ne (ne_of_none q hn)]; exact q) fun c xs q => by rw [upd_ne (ne_of_none q hn)]; exact q
end
def Rd (H : Hp) (a : Addr) (u : HO) : Prop := H a = some u ∨ ∃ o, H a = some (.frz o u)
theorem Rd.ok {P : Program} {w : World} {H : Hp} {h : Heap} {a : Addr} {u : HO} (r : Rd H a u) (x : HOk P w H h) : ObjOk P w H h a u := by
  rcases r with r | ⟨o, r⟩
  · exact x a u r
  · obtain ⟨_, q⟩ := x a _ r
    exact q
def Mut : Option HO → Prop
  | some (.lst _) => True
  | some (.dK _) => True
  | some (.dT _) => True
  | some (.set _ _) => True
  | some (.ins _ _ _) => True
  | some (.ext _) => True
  | _ => False
section
variable {P : Program} {w : World} {H : Hp} {h h' : Heap} {x e : Addr} {o' : HO}
theorem HOk.write (ok : HOk P w H h) (mu : Mut (H x)) (he : e = x ∨ H e = some (.own x)) (k : ∀ b u, b ≠ e → h.get? b = some u → h'.get? b = some u) (heo : ∃ u, h'.get? e = some u)
    (new : ObjOk P w (upd H x o') h' x o') : HOk P w (upd H x o') h' := fun b u q => by
  have nown : ∀ c y, H c = some (.own y) → c ≠ x := fun c y r z => by subst z; rw [r] at mu; exact mu
  have ntup : ∀ c xs, H c = some (.tup xs) → c ≠ x := fun c xs r z => by subst z; rw [r] at mu; exact mu
  by_cases hb : b = x
  · subst hb; rw [upd_same] at q; cases q; exact new
  · rw [upd_ne hb] at q
    by_cases hbe : b = e
    · have q' : H b = some (.own x) := by
        rcases he with z | z
        · exact absurd (hbe.trans z) hb
        · rw [hbe]; exact z
      rw [q] at q'; cases q'
      obtain ⟨v, hv⟩ := heo
      exact ⟨v, by rw [hbe]; exact hv⟩
    · refine (ok b u q).stay (fun c v hc r => k c v ?_ r) (fun c r => by rw [upd_ne (nown c b r)]; exact r) fun c xs r => by rw [upd_ne (ntup c xs r)]; exact r
      rcases hc with rfl | hc
      · exact hbe
      · rintro rfl
        rcases he with z | z
        · exact nown c b hc z
        · rw [hc] at z; cases z; exact hb rfl
end
structure Un (fs ex : List Addr) (H H' : Hp) (h h' : Heap) : Prop where
  keep : ∀ b o, h.get? b = some o → H b = none → b ∉ fs → b ∉ ex → h'.get? b = some o
  slot : ∀ b o, h.get? b = some o → H b = none → b ∈ fs → b ∉ ex → ∃ sl, h'.get? b = some { o with slots := sl }
  free : ∀ b o, h.get? b = some o → H b = none → b ∉ ex → H' b = none
  there : ∀ b o, h.get? b = some o → b ∉ ex → ∃ o', h'.get? b = some o'
  tups : ∀ b xs, H b = some (.tup xs) → H' b = some (.tup xs)
  frzs : ∀ b o u, H b = some (.frz o u) → H' b = some (.frz o u)
  tbls : ∀ b ps, H b = some (.tbl ps) → ∃ more, H' b = some (.tbl (ps ++ more))
section
variable {fs fs' ex ex' : List Addr} {H H1 H2 : Hp} {h h1 h2 h' : Heap} {a x e : Addr} {o : HO}
theorem Un.any (u : Un fs ex H H1 h h1) {b : Addr} {ob : Obj} (q : h.get? b = some ob) (n : H b = none) (hx : b ∉ ex) : ∃ sl, h1.get? b = some { ob with slots := sl } := by
  by_cases hb : b ∈ fs
  · exact u.slot b ob q n hb hx
  · exact ⟨ob.slots, u.keep b ob q n hb hx⟩
theorem Un.kept (k : ∀ b u, h.get? b = some u → h'.get? b = some u) : Un fs ex H H h h' :=
  ⟨fun b ob q _ _ _ => k b ob q, fun b ob q _ _ _ => ⟨ob.slots, k b ob q⟩, fun _ _ _ n _ => n, fun b ob q _ => ⟨ob, k b ob q⟩, fun _ _ q => q, fun _ _ _ q => q, fun _ ps q => ⟨#[], by rw [q]; simp⟩⟩
theorem Un.refl : Un fs ex H H h h := Un.kept fun _ _ q => q
theorem Un.laid (k : ∀ b u, h.get? b = some u → h'.get? b = some u) (hp : h.objs.size ≤ a) (hn : H a = none) : Un fs ex H (upd H a o) h h' where
  keep := fun b u q _ _ _ => k b u q
  slot := fun b u q _ _ _ => ⟨u.slots, k b u q⟩
  free := fun b u q n _ => by rw [upd_ne (Nat.ne_of_lt (Nat.lt_of_lt_of_le (Heap.lt_size q) hp))]; exact n
  there := fun b u q _ => ⟨u, k b u q⟩
  tups := fun b xs q => by rw [upd_ne (ne_of_none q hn)]; exact q
  frzs := fun b u xs q => by rw [upd_ne (ne_of_none q hn)]; exact q
  tbls := fun b ps q => ⟨#[], by rw [upd_ne (ne_of_none q hn), q]; simp⟩
theorem Un.write (mu : Mut (H x)) (he : e = x ∨ H e = some (.own x)) (k : ∀ b u, b ≠ e → h.get? b = some u → h'.get? b = some u) (heo : ∃ u, h'.get? e = some u) : Un fs ex H (upd H x o) h h' := by
  have hx : ∀ b, H b = none → b ≠ x := fun b n z => by subst z; rw [n] at mu; exact mu
  have hb : ∀ b, H b = none → b ≠ e := fun b n z => by
    subst z
    rcases he with r | r
    · exact hx b n r
    · rw [n] at r; cases r
  have hm : ∀ b u, H b = some u → ¬ Mut (some u) → b ≠ x := fun b u q nm z => by subst z; rw [q] at mu; exact nm mu
  refine ⟨fun b u q n _ _ => k b u (hb b n) q, fun b u q n _ _ => ⟨u.slots, k b u (hb b n) q⟩, fun b u q n _ => by rw [upd_ne (hx b n)]; exact n, fun b u q _ => ?_,
    fun b xs q => by rw [upd_ne (hm b _ q fun z => z)]; exact q, fun b u xs q => by rw [upd_ne (hm b _ q fun z => z)]; exact q, fun b ps q => ⟨#[], by rw [upd_ne (hm b _ q fun z => z), q]; simp⟩⟩
  by_cases hbe : b = e
  · subst hbe; exact heo
  · exact ⟨u, k b u hbe q⟩
end
def trk (h : Heap) (H : Hp) : List Addr := (List.range h.objs.size).filter fun a => (H a).isSome
def hidT (h : Heap) (H : Hp) : Heap := PySem.W.hideAll h (trk h H)
theorem hidT_size (h : Heap) (H : Hp) : (hidT h H).objs.size = h.objs.size := PySem.W.hideAll_size _ _
theorem hidT_get {h : Heap} {H : Hp} {b : Addr} {o : Obj} (e : h.get? b = some o) (n : H b = none) : (hidT h H).get? b = some o :=
  PySem.W.hideAll_get _ e fun hm => by
    have q : (H b).isSome = true := (List.mem_filter.mp hm).2
    rw [n] at q; simp at q
theorem of_hidT {h : Heap} {H : Hp} {b : Addr} {o : Obj} (e : (hidT h H).get? b = some o) : h.get? b = some o ∧ H b = none := by
  have e' : h.get? b = some o := PySem.W.of_hideAll (trk h H) e
  refine ⟨e', ?_⟩
  cases q : H b with
  | none => rfl
  | some x =>
    have hm : b ∈ trk h H := List.mem_filter.mpr ⟨List.mem_range.mpr (Heap.lt_size e'), by simp [q]⟩
    have z : (hidT h H).get? b = none := PySem.W.hideAll_none (trk h H) hm
    rw [z] at e; cases e
def allNews (g h : Heap) (L : Addr) : List (Addr × Obj) := (List.range h.objs.size).filterMap fun a => if a = L ∨ (g.get? a).isSome = true then none else (h.get? a).map fun o => (a, o)
theorem mem_allNews {g h : Heap} {L a : Addr} {o : Obj} (h1 : a ≠ L) (h2 : g.get? a = none) (h3 : h.get? a = some o) : (a, o) ∈ allNews g h L :=
  List.mem_filterMap.mpr ⟨a, List.mem_range.mpr (Heap.lt_size h3), by simp [h1, h2, h3]⟩
theorem of_mem_allNews {g h : Heap} {L : Addr} {p : Addr × Obj} (hp : p ∈ allNews g h L) : p.1 ≠ L ∧ g.get? p.1 = none ∧ h.get? p.1 = some p.2 := by
  obtain ⟨b, _, e⟩ := List.mem_filterMap.mp hp
  split at e
  · cases e
  · rename_i hn
    cases q : h.get? b with
    | none => rw [q] at e; simp at e
    | some u =>
      rw [q] at e
      simp only [Option.map_some, Option.some.injEq] at e
      subst e
      refine ⟨fun z => hn (.inl z), ?_, q⟩
      show g.get? b = none
      cases r : g.get? b with
      | none => rfl
      | some v => exact (hn (.inr (by simp [r]))).elim
theorem news_all {g h : Heap} {L : Addr} : News g L h (allNews g h L) := fun p hp => let ⟨a, b, c⟩ := of_mem_allNews hp; ⟨c, a, b⟩
end L2
namespace L2
open PySem PySem.Spec PyProof.Rows
structure Mod (K : PySem.W.Frag) (mg : Str → Option Value) (base : Heap) : Prop where
  kin : K.In base
  glob : base.Ns mainGlobals mg
  blt : ∃ mb, base.Ns builtinsNs mb ∧ ∀ x : Str, x ≠ "__name__" → mb x = bootBuiltins x
  nolimit : base.NoLimit
structure Cx where
  prog : Program
  w : World
  K : PySem.W.Frag
  mg : Str → Option Value
  base : Heap
  A : Around
  N : List Str
  s₀ : Shared
  H₀ : Hp
  env : Env
  outer : List Env
  stack : List Env
  ex : List Addr
  fn : Str → Bool
  calm : Bool
  pn : List (Addr × Obj)
  xe : Value → Shared → Prop
def frs (l : List Env) : List Addr := l.filterMap (·.frame)
abbrev Cx.fs (X : Cx) : List Addr := frs X.outer
def Vis (sc : Scope) (x : Str) : Prop := sc.names.lookup x = some .local ∨ sc.names.lookup x = some .cell ∨ sc.names.lookup x = some .free
def Loc (sc : Scope) (x : Str) : Prop := sc.names.lookup x = some .local ∨ sc.names.lookup x = some .cell
def Look (env : Env) (h : Heap) (m : Str → Option Value) (x : Str) (u : Value) : Prop :=
  (env.kindOf x = some .local ∧ m x = some u) ∨ ((env.kindOf x = some .cell ∨ env.kindOf x = some .free) ∧ ∃ c, env.cells.lookup x = some c ∧ h.IsCell c (some u))
structure Cx.Ok (X : Cx) : Prop where
  mod : Mod X.K X.mg X.base
  kind : X.env.scope.kind = .function
  glob : X.env.globals = mainGlobals
  blt : X.env.builtins = builtinsNs
  above : X.s₀.heap.objs.size ≤ X.env.locals
  inj : ∀ x y c, X.env.cells.lookup x = some c → X.env.cells.lookup y = some c → x = y
  has : ∀ x, (X.env.kindOf x = some .cell ∨ X.env.kindOf x = some .free) → ∃ c, X.env.cells.lookup x = some c
  cab : ∀ x c, X.fn x = true → X.env.cells.lookup x = some c → X.s₀.heap.objs.size ≤ c
  hd : X.calm = true → X.A.handled = none
  frames : X.A.frames = some X.stack
  stk : X.stack = X.outer ∨ (X.stack = X.env :: X.outer ∧ X.env.frame = some X.env.locals)
  exf : ∀ b ∈ X.ex, b ≠ X.env.locals ∧ ∀ x c, X.env.cells.lookup x = some c → c ≠ b
  bs : ∀ b o, X.base.get? b = some o → X.s₀.heap.get? b = some o ∧ X.H₀ b = none
  bsz : X.base.objs.size ≤ X.s₀.heap.objs.size
  noex : ∀ b o, X.base.get? b = some o → b ∉ X.ex
  exfs : ∀ b ∈ X.ex, b ∉ X.fs
  funs : X.s₀.heap.FunFrames X.base X.outer
  frf : ∀ b ∈ X.fs, X.H₀ b = none
structure Inv (X : Cx) (pins : List (Addr × Obj)) (σ : List (Option V)) (H : Hp) (s : Shared) : Prop where
  ok : X.Ok
  os : s.os = X.s₀.os
  bare : AllBare s.gens
  base : Un X.fs X.ex X.H₀ H X.s₀.heap s.heap
  loc : ∃ m, s.heap.Ns X.env.locals m ∧ ∀ (i : Nat) (x : Str) (v : V), X.N[i]? = some x → σ[i]? = some (some v) → Vis X.env.scope x → ∃ u, RelV v u ∧ Look X.env s.heap m x u
  cell : ∀ x c, X.env.cells.lookup x = some c → ∃ v, s.heap.IsCell c v
  free : H X.env.locals = none
  freeC : ∀ x c, X.env.cells.lookup x = some c → H c = none
  pin : ∀ p ∈ X.pn ++ pins, s.heap.get? p.1 = some p.2 ∧ H p.1 = none ∧ p.1 ≠ X.env.locals ∧ p.1 ∉ X.fs ∧ ∀ v, p.2.data ≠ .cell v
  hok : HOk X.prog X.w H s.heap
  len : σ.length = X.N.length
section
variable {X : Cx} {pins : List (Addr × Obj)} {σ : List (Option V)} {H H' : Hp} {s : Shared} {h' : Heap}
theorem Cx.Ok.nofr (ok : X.Ok) {b : Addr} {o : Obj} (e : X.base.get? b = some o) : b ∉ X.fs := fun hb => by
  have := (ok.funs.mem hb).1
  rw [e] at this; cases this
theorem Inv.bs (I : Inv X pins σ H s) : ∀ b o, X.base.get? b = some o → s.heap.get? b = some o ∧ H b = none := fun b o e =>
  ⟨I.base.keep b o (I.ok.bs b o e).1 (I.ok.bs b o e).2 (I.ok.nofr e) (I.ok.noex b o e), I.base.free b o (I.ok.bs b o e).1 (I.ok.bs b o e).2 (I.ok.noex b o e)⟩
theorem Inv.bk (I : Inv X pins σ H s) : ∀ b o, X.base.get? b = some o → s.heap.get? b = some o := fun b o e => (I.bs b o e).1
theorem Inv.mod (I : Inv X pins σ H s) : Mod X.K X.mg X.base := I.ok.mod
theorem Inv.kIn (I : Inv X pins σ H s) : X.K.In s.heap := I.ok.mod.kin.keeps I.bk
theorem Inv.lt (I : Inv X pins σ H s) : X.env.locals < s.heap.objs.size := let ⟨_, hn, _⟩ := I.loc; hn.lt
theorem Inv.sz (I : Inv X pins σ H s) : X.s₀.heap.objs.size ≤ s.heap.objs.size := Nat.le_trans I.ok.above (Nat.le_of_lt I.lt)
theorem Inv.nofs (I : Inv X pins σ H s) {a : Addr} (h : s.heap.objs.size ≤ a) : a ∉ X.fs := fun hb => by
  obtain ⟨_, o, ho, _⟩ := I.ok.funs.mem hb
  exact absurd (Nat.lt_of_lt_of_le (Heap.lt_size ho) (Nat.le_trans I.sz h)) (Nat.lt_irrefl _)
theorem Inv.cne (I : Inv X pins σ H s) : ∀ x c, X.env.cells.lookup x = some c → c ≠ X.env.locals := fun x c e z => by
  obtain ⟨v, o, ho, hd⟩ := I.cell x c e
  obtain ⟨m, ⟨o', es, ep, ho', hd', _⟩, _⟩ := I.loc
  rw [z, ho'] at ho; cases ho; rw [hd'] at hd; cases hd
theorem Inv.funs (I : Inv X pins σ H s) : s.heap.FunFrames X.base X.outer := by
  have all : ∀ (l : List Env), (∀ b ∈ frs l, b ∈ X.fs) → X.s₀.heap.FunFrames X.base l → s.heap.FunFrames X.base l := by
    intro l
    induction l with
    | nil => intro _ _; trivial
    | cons env r ih =>
      intro hs hl
      obtain ⟨hk, ⟨L, o, hf, hn, ho, hd⟩, hr⟩ := hl
      have hL : L ∈ X.fs := hs L (by unfold frs; rw [List.filterMap_cons, hf]; exact List.mem_cons_self)
      obtain ⟨sl, e⟩ := I.base.slot L o ho (I.ok.frf L hL) hL fun z => I.ok.exfs L z hL
      exact ⟨hk, ⟨L, _, hf, hn, e, hd⟩, ih (fun b hb => hs b (by unfold frs; rw [List.filterMap_cons, hf]; exact List.mem_cons_of_mem _ hb)) hr⟩
  exact all X.outer (fun _ hb => hb) I.ok.funs
theorem Inv.stack (I : Inv X pins σ H s) : s.heap.FunFrames X.base X.stack := by
  rcases I.ok.stk with e | ⟨e, hf⟩
  · rw [e]; exact I.funs
  · rw [e]
    obtain ⟨m, hn, _⟩ := I.loc
    refine .cons (by rw [I.ok.kind]; decide) hf hn ?_ I.funs
    exact Heap.get?_none_of_le (Nat.le_trans I.ok.bsz I.ok.above)
theorem Inv.stkSub (I : Inv X pins σ H s) : ∀ b ∈ frs X.stack, b ∈ X.env.locals :: X.fs := fun b hb => by
  rcases I.ok.stk with e | ⟨e, hf⟩
  · rw [e] at hb; exact List.mem_cons_of_mem _ hb
  · rw [e] at hb
    unfold frs at hb
    rw [List.filterMap_cons, hf] at hb
    exact hb
theorem Inv.stkFree (I : Inv X pins σ H s) : ∀ b ∈ frs X.stack, H b = none := fun b hb => by
  rcases List.mem_cons.mp (I.stkSub b hb) with e | hb
  · rw [e]; exact I.free
  · obtain ⟨_, o, ho, _⟩ := I.ok.funs.mem hb
    exact I.base.free b o ho (I.ok.frf b hb) fun z => I.ok.exfs b z hb
theorem Inv.step {g' : Array GenState} {t' : Nat} {d' : Drawn} {ch : List Addr} (I : Inv X pins σ H s)
    (hch : ∀ b ∈ ch, (b ∈ X.ex ∨ X.s₀.heap.objs.size ≤ b) ∧ b ≠ X.env.locals ∧ (∀ x c, X.env.cells.lookup x = some c → c ≠ b) ∧ ∀ p ∈ X.pn ++ pins, p.1 ≠ b)
    (keep : ∀ b o, b ≠ X.env.locals → b ∉ X.fs → b ∉ ch → s.heap.get? b = some o → H b = none → h'.get? b = some o)
    (slot : ∀ b o, b ≠ X.env.locals → b ∈ X.fs → b ∉ ch → s.heap.get? b = some o → H b = none → ∃ sl, h'.get? b = some { o with slots := sl }) (free : ∀ b o, b ∉ ch → s.heap.get? b = some o → H b = none → H' b = none)
    (there : ∀ b o, b ∉ ch → s.heap.get? b = some o → ∃ o', h'.get? b = some o')
    (tups : ∀ b xs, H b = some (.tup xs) → H' b = some (.tup xs)) (frzs : ∀ b o u, H b = some (.frz o u) → H' b = some (.frz o u)) (tbls : ∀ b ps, H b = some (.tbl ps) → ∃ more, H' b = some (.tbl (ps ++ more)))
    (ns : ∀ m, s.heap.Ns X.env.locals m → h'.Ns X.env.locals m) (hok : HOk X.prog X.w H' h') (hg : AllBare g') :
    Inv X pins σ H' { s with heap := h', gens := g', drawn := d', toks := t' } := by
  have neL : ∀ b o, X.s₀.heap.get? b = some o → b ≠ X.env.locals := fun b o e => Nat.ne_of_lt (Nat.lt_of_lt_of_le (Heap.lt_size e) I.ok.above)
  have neC : ∀ b o, X.s₀.heap.get? b = some o → b ∉ X.ex → b ∉ ch := fun b o e hx hb => by
    rcases (hch b hb).1 with z | z
    · exact hx z
    · exact absurd (Nat.lt_of_lt_of_le (Heap.lt_size e) z) (Nat.lt_irrefl _)
  have cellK : ∀ x c, X.env.cells.lookup x = some c → ∀ v, s.heap.IsCell c v → h'.IsCell c v := fun x c e v ⟨o, ho, hd⟩ => by
    have nch : c ∉ ch := fun z => (hch c z).2.2.1 x c e rfl
    by_cases hc : c ∈ X.fs
    · obtain ⟨sl, q⟩ := slot c o (I.cne x c e) hc nch ho (I.freeC x c e)
      exact ⟨_, q, hd⟩
    · exact ⟨o, keep c o (I.cne x c e) hc nch ho (I.freeC x c e), hd⟩
  refine ⟨I.ok, I.os, hg, ⟨fun b o e n hb hx => ?_, fun b o e n hb hx => ?_, fun b o e n hx => ?_, fun b o e hx => ?_, fun b xs e => tups b xs (I.base.tups b xs e), fun b o xs e => frzs b o xs (I.base.frzs b o xs e), fun b ps e => ?_⟩, ?_, fun x c e => ?_, ?_, fun x c e => ?_, fun p hp => ?_, hok, I.len⟩
  · exact keep b o (neL b o e) hb (neC b o e hx) (I.base.keep b o e n hb hx) (I.base.free b o e n hx)
  · obtain ⟨sl, e1⟩ := I.base.slot b o e n hb hx
    obtain ⟨sl', e2⟩ := slot b _ (neL b o e) hb (neC b o e hx) e1 (I.base.free b o e n hx)
    exact ⟨sl', e2⟩
  · obtain ⟨o', e1⟩ := I.base.there b o e hx
    exact free b o' (neC b o e hx) e1 (I.base.free b o e n hx)
  · obtain ⟨o', e1⟩ := I.base.there b o e hx
    exact there b o' (neC b o e hx) e1
  · obtain ⟨m1, e1⟩ := I.base.tbls b ps e
    obtain ⟨m2, e2⟩ := tbls b _ e1
    exact ⟨m1 ++ m2, by rw [e2, Array.append_assoc]⟩
  · obtain ⟨m, hn, hl⟩ := I.loc
    refine ⟨m, ns m hn, fun i x v e1 e2 e3 => ?_⟩
    obtain ⟨u, r, l⟩ := hl i x v e1 e2 e3
    refine ⟨u, r, ?_⟩
    rcases l with l | ⟨k, c, e, z⟩
    · exact .inl l
    · exact .inr ⟨k, c, e, cellK x c e _ z⟩
  · obtain ⟨v, z⟩ := I.cell x c e
    exact ⟨v, cellK x c e v z⟩
  · obtain ⟨m, ⟨o, _, _, ho, _⟩, _⟩ := I.loc
    exact free _ o (fun z => (hch _ z).2.1 rfl) ho I.free
  · obtain ⟨v, o, ho, hd⟩ := I.cell x c e
    exact free c o (fun z => (hch c z).2.2.1 x c e rfl) ho (I.freeC x c e)
  · obtain ⟨e, n, ne, nf, d⟩ := I.pin p hp
    have nch : p.1 ∉ ch := fun z => (hch p.1 z).2.2.2 p hp rfl
    exact ⟨keep p.1 p.2 ne nf nch e n, free p.1 p.2 nch e n, ne, nf, d⟩
theorem Inv.un {t' : Nat} (I : Inv X pins σ H s) (u : Un X.fs [] H H' s.heap h') (hok : HOk X.prog X.w H' h') : Inv X pins σ H' { s with heap := h', toks := t' } := by
  obtain ⟨m, ⟨o, es, ep, ho, r⟩, _⟩ := id I.loc
  obtain ⟨sl, hL⟩ := u.any ho I.free (by simp)
  exact I.step (g' := s.gens) (d' := s.drawn) (ch := []) (fun _ z => nomatch z) (fun b o _ hb _ e n => u.keep b o e n hb (by simp)) (fun b o _ hb _ e n => u.slot b o e n hb (by simp)) (fun b o _ e n => u.free b o e n (by simp)) (fun b o _ e => u.there b o e (by simp)) u.tups u.frzs u.tbls (fun m' hm => by
    obtain ⟨o', es', ep', ho', r'⟩ := hm
    rw [ho] at ho'; cases ho'
    exact ⟨_, es', ep', hL, r'⟩) hok I.bare
theorem Inv.call {g' : Array GenState} {t' : Nat} {d' : Drawn} {ch : List Addr} (I : Inv X pins σ H s) (u : Un (frs X.stack) ch H H' s.heap h') (hok : HOk X.prog X.w H' h') (hg : AllBare g')
    (hch : ∀ b ∈ ch, (b ∈ X.ex ∨ X.s₀.heap.objs.size ≤ b) ∧ b ≠ X.env.locals ∧ (∀ x c, X.env.cells.lookup x = some c → c ≠ b) ∧ ∀ p ∈ X.pn ++ pins, p.1 ≠ b) :
    Inv X pins σ H' { s with heap := h', gens := g', drawn := d', toks := t' } := by
  obtain ⟨m, ⟨o, es, ep, ho, r⟩, _⟩ := id I.loc
  obtain ⟨sl, hL⟩ := u.any ho I.free fun z => (hch _ z).2.1 rfl
  exact I.step (ch := ch) hch (fun b o hL hb hc e n => u.keep b o e n (fun z => (List.mem_cons.mp (I.stkSub b z)).elim hL hb) hc) (fun b o _ _ hc e n => u.any e n hc) (fun b o hc e n => u.free b o e n hc) (fun b o hc e => u.there b o e hc) u.tups u.frzs u.tbls (fun m' hm => by
    obtain ⟨o', es', ep', ho', r'⟩ := hm
    rw [ho] at ho'; cases ho'
    exact ⟨_, es', ep', hL, r'⟩) hok hg
theorem Inv.turned {t' : Nat} {it : Addr} (I : Inv X pins σ H s) (k : ∀ b o, b ≠ it → s.heap.get? b = some o → h'.get? b = some o) (hn : H it = none) (hL : it ≠ X.env.locals)
    (h1 : it ∈ X.ex ∨ X.s₀.heap.objs.size ≤ it) (h2 : ∀ x c, X.env.cells.lookup x = some c → c ≠ it) (h3 : ∀ p ∈ X.pn ++ pins, p.1 ≠ it) : Inv X pins σ H { s with heap := h', toks := t' } := by
  have nit : ∀ b u, H b = some u → b ≠ it := fun b u e z => by rw [z, hn] at e; cases e
  refine I.step (g' := s.gens) (d' := s.drawn) (ch := [it]) (fun b hb => ?_) (fun b o _ _ hc e _ => k b o (fun z => hc (by simp [z])) e) (fun b o _ _ hc e _ => ⟨o.slots, k b o (fun z => hc (by simp [z])) e⟩) (fun _ _ _ _ n => n)
    (fun b o hc e => ⟨o, k b o (fun z => hc (by simp [z])) e⟩) (fun _ _ e => e) (fun _ _ _ e => e) (fun b ps e => ⟨#[], by rw [e]; simp⟩) (fun m hm => ?_) (fun b u e => ?_) I.bare
  · have e : b = it := by simpa using hb
    subst e
    exact ⟨h1, hL, h2, h3⟩
  · obtain ⟨o, es, ep, ho, r⟩ := hm
    exact ⟨o, es, ep, k _ o (Ne.symm hL) ho, r⟩
  · refine (I.hok b u e).stay (fun c v hc q => k c v ?_ q) (fun _ q => q) fun _ _ q => q
    rcases hc with z | z
    · rw [z]; exact nit b u e
    · exact nit c _ z
theorem Inv.tok (I : Inv X pins σ H s) (t : Nat) : Inv X pins σ H { s with toks := t } := I.un (h' := s.heap) (t' := t) Un.refl I.hok
theorem Inv.kept {t' : Nat} (I : Inv X pins σ H s) (k : ∀ b u, s.heap.get? b = some u → h'.get? b = some u) : Inv X pins σ H { s with heap := h', toks := t' } := I.un (Un.kept k) (I.hok.kept k)
theorem Inv.laid {a : Addr} {o : HO} {t' : Nat} (I : Inv X pins σ H s) (k : ∀ b u, s.heap.get? b = some u → h'.get? b = some u) (hp : s.heap.objs.size ≤ a) (new : ObjOk X.prog X.w (upd H a o) h' a o) :
    Inv X pins σ (upd H a o) { s with heap := h', toks := t' } := I.un (Un.laid k hp (I.hok.fresh hp)) (I.hok.laid k hp new)
theorem Inv.write {x e : Addr} {o : HO} {t' : Nat} (I : Inv X pins σ H s) (mu : Mut (H x)) (he : e = x ∨ H e = some (.own x)) (k : ∀ b u, b ≠ e → s.heap.get? b = some u → h'.get? b = some u) (heo : ∃ u, h'.get? e = some u)
    (new : ObjOk X.prog X.w (upd H x o) h' x o) : Inv X pins σ (upd H x o) { s with heap := h', toks := t' } := I.un (Un.write mu he k heo) (I.hok.write mu he k heo new)
theorem Inv.weak {σ' : List (Option V)} (I : Inv X pins σ H s) (hl : σ'.length = σ.length) (w : ∀ (i : Nat) v, σ'[i]? = some (some v) → σ[i]? = some (some v)) : Inv X pins σ' H s :=
  ⟨I.ok, I.os, I.bare, I.base, let ⟨m, hn, hl'⟩ := I.loc; ⟨m, hn, fun i x v e1 e2 e3 => hl' i x v e1 (w i v e2) e3⟩, I.cell, I.free, I.freeC, I.pin, I.hok, hl.trans I.len⟩
theorem Inv.pins_of {pins' : List (Addr × Obj)} (I : Inv X pins σ H s) (h : ∀ p ∈ pins', s.heap.get? p.1 = some p.2 ∧ H p.1 = none ∧ p.1 ≠ X.env.locals ∧ p.1 ∉ X.fs ∧ ∀ v, p.2.data ≠ .cell v) : Inv X pins' σ H s :=
  ⟨I.ok, I.os, I.bare, I.base, I.loc, I.cell, I.free, I.freeC, fun p hp => (List.mem_append.mp hp).elim (fun z => I.pin p (List.mem_append_left _ z)) (h p), I.hok, I.len⟩
theorem nodup_ix {N : List Str} (hN : N.Nodup) {i j : Nat} {x : Str} (a : N[i]? = some x) (b : N[j]? = some x) : i = j := by
  obtain ⟨h1, e1⟩ := List.getElem?_eq_some_iff.mp a
  obtain ⟨h2, e2⟩ := List.getElem?_eq_some_iff.mp b
  exact (List.getElem_inj hN).mp (e1.trans e2.symm)
theorem store_ok2 {M : Model} {A : Around} {E : Value → Shared → Prop} {i : Nat} {x : Str} {v : V} {u : Value} {Q : Unit → Shared → Prop} (I : Inv X pins σ H s) (hN : X.N.Nodup) (hi : X.N[i]? = some x) (hx : Loc X.env.scope x) (r : RelV v u)
    (h : ∀ s', Inv X pins (σ.set i (some v)) H s' → (∃ a, Heap.SameBut a s.heap s'.heap ∧ (a = X.env.locals ∨ X.env.cells.lookup x = some a)) → Q () s') (hf : X.fn x = true ∨ X.env.scope.names.lookup x = some .local := by first | exact .inl rfl | exact .inr rfl | assumption) : wpAny M A (storeName X.env x u) Q E s := by
  obtain ⟨m, hn, hl⟩ := id I.loc
  have hcls : (X.env.scope.kind == .class || (X.env.scope.kind == .module && X.env.locals != X.env.globals)) = false := by rw [I.ok.kind]; rfl
  have hiσ : i < σ.length := by rw [I.len]; exact (List.getElem?_eq_some_iff.mp hi).1
  have cne := I.cne
  have tracked : ∀ {a : Addr} {h' : Heap}, (∃ o, s.heap.get? a = some o ∧ H a = none) → Heap.SameBut a s.heap h' → HOk X.prog X.w H h' := fun {a h'} ha hs b ob e => by
    obtain ⟨_, _, hfree⟩ := ha
    refine (I.hok b ob e).stay (fun c w' hc q => (hs.2 c ?_).trans q) (fun _ q => q) fun _ _ q => q
    rintro rfl
    rcases hc with rfl | hc
    · rw [hfree] at e; cases e
    · rw [hfree] at hc; cases hc
  rcases hx with hk | hk
  · refine wpAny_storeName_local hk hn (fun h' hn' hs => ?_) hcls
    obtain ⟨oL, _, _, hoL, _⟩ := id hn
    refine h _ ⟨I.ok, I.os, I.bare, ⟨fun b o e n hb hx => ?_, fun b o e n hb hx => ?_, I.base.free, fun b o e hx => ?_, I.base.tups, I.base.frzs, I.base.tbls⟩, ⟨_, hn', fun j y v' e1 e2 e3 => ?_⟩, fun y c e => ?_, I.free, I.freeC, fun p hp => ?_, tracked ⟨oL, hoL, I.free⟩ hs, by simpa using I.len⟩ ⟨_, hs, .inl rfl⟩
    · exact (hs.2 b (Nat.ne_of_lt (Nat.lt_of_lt_of_le (Heap.lt_size e) I.ok.above))).trans (I.base.keep b o e n hb hx)
    · obtain ⟨sl, e1⟩ := I.base.slot b o e n hb hx
      exact ⟨sl, (hs.2 b (Nat.ne_of_lt (Nat.lt_of_lt_of_le (Heap.lt_size e) I.ok.above))).trans e1⟩
    · obtain ⟨o', e1⟩ := I.base.there b o e hx
      exact ⟨o', (hs.2 b (Nat.ne_of_lt (Nat.lt_of_lt_of_le (Heap.lt_size e) I.ok.above))).trans e1⟩
    · by_cases hj : j = i
      · subst hj
        rw [hi] at e1; cases e1
        rw [List.getElem?_set_self hiσ] at e2
        cases e2
        exact ⟨u, r, .inl ⟨hk, by simp⟩⟩
      · rw [List.getElem?_set_ne (Ne.symm hj)] at e2
        obtain ⟨u', r', q⟩ := hl j y v' e1 e2 e3
        refine ⟨u', r', ?_⟩
        rcases q with ⟨k, e⟩ | ⟨k, c, e, z⟩
        · refine .inl ⟨k, ?_⟩
          have : y ≠ x := fun e => hj (nodup_ix hN e1 (e ▸ hi))
          simp [this, e]
        · exact .inr ⟨k, c, e, z.sameBut hs (cne y c e)⟩
    · obtain ⟨w', z⟩ := I.cell y c e
      exact ⟨w', z.sameBut hs (cne y c e)⟩
    · obtain ⟨e, n, ne, nf, d⟩ := I.pin p hp
      exact ⟨(hs.2 p.1 ne).trans e, n, ne, nf, d⟩
  · have hfn : X.fn x = true := by
      rcases hf with z | z
      · exact z
      · rw [z] at hk; cases hk
    obtain ⟨c, hc⟩ := I.ok.has x (.inl hk)
    obtain ⟨w', z⟩ := I.cell x c hc
    refine wpAny_storeName_cell I.ok.kind hk hc z (fun h' hc' hs => ?_)
    obtain ⟨oc, hoc, hocd⟩ := id z
    refine h { s with heap := h' } ⟨I.ok, I.os, I.bare, ⟨fun b o e n hb hx => ?_, fun b o e n hb hx => ?_, I.base.free, fun b o e hx => ?_, I.base.tups, I.base.frzs, I.base.tbls⟩, ⟨m, hn.sameBut hs (Ne.symm (cne x c hc)), fun j y v' e1 e2 e3 => ?_⟩, fun y c' e => ?_, I.free, I.freeC, fun p hp => ?_, tracked ⟨oc, hoc, I.freeC x c hc⟩ hs, by simpa using I.len⟩ ⟨c, hs, .inr hc⟩
    · exact (hs.2 b (Nat.ne_of_lt (Nat.lt_of_lt_of_le (Heap.lt_size e) (I.ok.cab x c hfn hc)))).trans (I.base.keep b o e n hb hx)
    · obtain ⟨sl, e1⟩ := I.base.slot b o e n hb hx
      exact ⟨sl, (hs.2 b (Nat.ne_of_lt (Nat.lt_of_lt_of_le (Heap.lt_size e) (I.ok.cab x c hfn hc)))).trans e1⟩
    · obtain ⟨o', e1⟩ := I.base.there b o e hx
      exact ⟨o', (hs.2 b (Nat.ne_of_lt (Nat.lt_of_lt_of_le (Heap.lt_size e) (I.ok.cab x c hfn hc)))).trans e1⟩
    · by_cases hj : j = i
      · subst hj
        rw [hi] at e1; cases e1
        rw [List.getElem?_set_self hiσ] at e2
        cases e2
        exact ⟨u, r, .inr ⟨.inl hk, c, hc, hc'⟩⟩
      · rw [List.getElem?_set_ne (Ne.symm hj)] at e2
        obtain ⟨u', r', q⟩ := hl j y v' e1 e2 e3
        refine ⟨u', r', ?_⟩
        rcases q with q | ⟨k, c', e, z'⟩
        · exact .inl q
        · refine .inr ⟨k, c', e, z'.sameBut hs ?_⟩
          rintro rfl
          exact hj (nodup_ix hN e1 (I.ok.inj _ _ _ e hc ▸ hi))
    · by_cases hcc : c' = c
      · subst hcc; exact ⟨_, hc'⟩
      · obtain ⟨w2, z2⟩ := I.cell y c' e
        exact ⟨w2, z2.sameBut hs hcc⟩
    · obtain ⟨e, n, ne, nf, d⟩ := I.pin p hp
      refine ⟨(hs.2 p.1 ?_).trans e, n, ne, nf, d⟩
      intro q
      rw [q, hoc] at e
      have q' : oc = p.2 := Option.some.inj e
      exact d w' (by rw [← q']; exact hocd)
theorem store_ok {M : Model} {A : Around} {E : Value → Shared → Prop} {i : Nat} {x : Str} {v : V} {u : Value} {Q : Unit → Shared → Prop} (I : Inv X pins σ H s) (hN : X.N.Nodup) (hi : X.N[i]? = some x) (hx : Loc X.env.scope x) (r : RelV v u)
    (h : ∀ s', Inv X pins (σ.set i (some v)) H s' → Q () s') (hf : X.fn x = true ∨ X.env.scope.names.lookup x = some .local := by first | exact .inl rfl | exact .inr rfl | assumption) : wpAny M A (storeName X.env x u) Q E s :=
  store_ok2 I hN hi hx r (fun s' I' _ => h s' I') hf
theorem Inv.call' {s' : Shared} {ch : List Addr} (I : Inv X pins σ H s) (ho : s'.os = s.os) (u : Un (frs X.stack) ch H H' s.heap s'.heap) (hok : HOk X.prog X.w H' s'.heap) (hg : AllBare s'.gens)
    (hch : ∀ b ∈ ch, (b ∈ X.ex ∨ X.s₀.heap.objs.size ≤ b) ∧ b ≠ X.env.locals ∧ (∀ x c, X.env.cells.lookup x = some c → c ≠ b) ∧ ∀ p ∈ X.pn ++ pins, p.1 ≠ b) : Inv X pins σ H' s' := by
  obtain ⟨h', g', d', t', o'⟩ := s'
  have e : o' = s.os := ho
  subst e
  exact I.call (g' := g') (t' := t') (d' := d') u hok hg hch
end
abbrev XK := Value → Option Addr → Hp → Prop
abbrev St := List (Option V)
abbrev VK := V → Hp → Prop
abbrev TE := St → Hp → VK → Prop
abbrev TT := St → Hp → (Bool → Hp → Prop) → Prop
abbrev TA := St → Hp → (List V → Hp → Prop) → Prop
structure Ends where
  nx : St → Hp → Prop
  rt : VK
  bk : St → Hp → Prop := fun _ _ => False
  ct : St → Hp → Prop := fun _ _ => False
abbrev TS := Ends → St → Hp → Prop
def EP (X : Cx) (pins : List (Addr × Obj)) (σ : St) (Q : VK) (u : Value) (s' : Shared) : Prop := ∃ v H', Inv X pins σ H' s' ∧ RelV v u ∧ Q v H'
def TP (X : Cx) (pins : List (Addr × Obj)) (σ : St) (Q : Bool → Hp → Prop) (b : Bool) (s' : Shared) : Prop := ∃ H', Inv X pins σ H' s' ∧ Q b H'
def AP (X : Cx) (pins : List (Addr × Obj)) (σ : St) (Q : List V → Hp → Prop) (us : List Value) (s' : Shared) : Prop := ∃ vs H', Inv X pins σ H' s' ∧ Vals vs us ∧ Q vs H'
def SP (X : Cx) (pins : List (Addr × Obj)) (D : Ends) (f : Flow) (s' : Shared) : Prop :=
  match f with
  | .next => ∃ σ' H', Inv X pins σ' H' s' ∧ D.nx σ' H'
  | .brk => ∃ σ' H', Inv X pins σ' H' s' ∧ D.bk σ' H'
  | .cont => ∃ σ' H', Inv X pins σ' H' s' ∧ D.ct σ' H'
  | .ret u => ∃ v σ' H', Inv X pins σ' H' s' ∧ RelV v u ∧ D.rt v H'
def PE (X : Cx) (e : Expr) (t : TE) : Prop :=
  ∀ (pins : List (Addr × Obj)) (s : Shared) (σ : St) (H : Hp) (Q : VK), Inv X pins σ H s → t σ H Q → wpAny (model X.prog X.w) X.A (eval e X.env) (EP X pins σ Q) X.xe s
def PT (X : Cx) (e : Expr) (t : TT) : Prop :=
  ∀ (pins : List (Addr × Obj)) (s : Shared) (σ : St) (H : Hp) (Q : Bool → Hp → Prop), Inv X pins σ H s → t σ H Q → wpAny (model X.prog X.w) X.A (isTrue e X.env (eval e X.env)) (TP X pins σ Q) X.xe s
def PW (X : Cx) (e : Expr) (t : TT) : Prop :=
  ∀ (whole : Sem Value) (pins : List (Addr × Obj)) (s : Shared) (σ : St) (H : Hp) (Q : Bool → Hp → Prop), Inv X pins σ H s → t σ H Q → wpAny (model X.prog X.w) X.A (isTrue e X.env whole) (TP X pins σ Q) X.xe s
theorem PW.pt {X : Cx} {e : Expr} {t : TT} (h : PW X e t) : PT X e t := h _
def PA (X : Cx) (es : List Expr) (t : TA) : Prop :=
  ∀ (pos : Pos) (pins : List (Addr × Obj)) (s : Shared) (σ : St) (H : Hp) (Q : List V → Hp → Prop), Inv X pins σ H s → t σ H Q → wpAny (model X.prog X.w) X.A (spliced (backTo pos (starEach es X.env))) (AP X pins σ Q) X.xe s
def PS (X : Cx) (st : Stmt) (t : TS) : Prop :=
  ∀ (pins : List (Addr × Obj)) (s : Shared) (σ : St) (H : Hp) (D : Ends), Inv X pins σ H s → t D σ H → wpAny (model X.prog X.w) X.A (exec st X.env) (SP X pins D) X.xe s
def PSs (X : Cx) (st : List Stmt) (t : TS) : Prop :=
  ∀ (pins : List (Addr × Obj)) (s : Shared) (σ : St) (H : Hp) (D : Ends), Inv X pins σ H s → t D σ H → wpAny (model X.prog X.w) X.A (execs st X.env) (SP X pins D) X.xe s
theorem thn {α : Type} {t : Sem α} {Q Q' : α → Shared → Prop} {M : Model} {A : Around} {E : Value → Shared → Prop} {s : Shared} (h : wpAny M A t Q E s) (hQ : ∀ a s, Q a s → Q' a s) : wpAny M A t Q' E s := wpAny_mono h hQ fun _ _ x => x
end L2
namespace L2
open PySem PySem.Spec PyProof.Rows
section
variable {X : Cx}
def tVar (i : Nat) : TE := fun σ H Q => ∃ v, σ[i]? = some (some v) ∧ Q v H
def tC (v : V) : TE := fun _ H Q => Q v H
theorem pe_var {i : Nat} {x : Str} {pos : Pos} (hN : X.N[i]? = some x) (hv : Vis X.env.scope x) (hd : (x == ("__debug__" : Str)) = false := by decide) (hcd : (x == ("__classdict__" : Str)) = false := by decide) : PE X (.Name x pos) (tVar i) := by
  intro pins s σ H Q I h
  obtain ⟨v, e, h⟩ := h
  obtain ⟨m, hn, hl⟩ := I.loc
  obtain ⟨u, r, l⟩ := hl i x v hN e hv
  have fin : EP X pins σ Q u s := ⟨v, H, I, r, h⟩
  rcases l with ⟨hk, hm⟩ | ⟨hk, c, hc, hcell⟩
  · exact wpAny_Name (wpAny_loadName_local I.ok.kind hk hn hm fin) hd
  · rcases hk with hk | hk
    · exact wpAny_Name (wpAny_loadName_cell I.ok.kind hk hc hcell fin) hd
    · exact wpAny_Name (wpAny_loadName_free I.ok.kind hk hc hcell fin hcd) hd
theorem pe_int {i j pos} : PE X (.Constant (.int i) j pos) (tC (.int i)) := fun _ _ _ H _ I h => wpAny_Constant_int ⟨.int i, H, I.tok _, ⟨_, rfl⟩, h⟩
theorem pe_bl {b j pos} : PE X (.Constant (.bool b) j pos) (tC (.bl b)) := fun _ _ _ H _ I h => Constant_bool ⟨.bl b, H, I, rfl, h⟩
theorem pe_non {j pos} : PE X (.Constant .none j pos) (tC .non) := fun _ _ _ H _ I h => Constant_none ⟨.non, H, I, rfl, h⟩
theorem pe_str {x j pos} : PE X (.Constant (.str x) j pos) (tC (.str x)) := fun _ _ _ H _ I h => Calls.Constant_str ⟨.str x, H, I.tok _, ⟨_, rfl⟩, h⟩
def Gl (X : Cx) (x : Str) : Prop := X.env.kindOf x = some .globalImplicit
theorem ld_glob {E : Value → Shared → Prop} {pins : List (Addr × Obj)} {s : Shared} {σ : St} {H : Hp} {x : Str} {u : Value} {pos : Pos} {Q : Value → Shared → Prop} (I : Inv X pins σ H s) (hg : Gl X x) (hm : X.mg x = some u) (h : Q u s)
    (hd : (x == ("__debug__" : Str)) = false := by decide) : wpAny (model X.prog X.w) X.A (eval (.Name x pos) X.env) Q E s :=
  Calls.Name_function_global I.ok.kind hg (Calls.loadGlobal_global (by rw [I.ok.glob]; exact I.mod.glob.keeps I.bk) hm h) hd
theorem ld_blt {E : Value → Shared → Prop} {pins : List (Addr × Obj)} {s : Shared} {σ : St} {H : Hp} {x : Str} {u : Value} {pos : Pos} {Q : Value → Shared → Prop} (I : Inv X pins σ H s) (hg : Gl X x) (hm : X.mg x = none) (hv : bootBuiltins x = some u) (h : Q u s)
    (hn : x ≠ "__name__" := by decide) (hd : (x == ("__debug__" : Str)) = false := by decide) : wpAny (model X.prog X.w) X.A (eval (.Name x pos) X.env) Q E s := by
  obtain ⟨mb, h1, h2⟩ := I.mod.blt
  exact Calls.Name_function_global I.ok.kind hg (Calls.loadGlobal_builtin (by rw [I.ok.glob]; exact I.mod.glob.keeps I.bk) hm (by rw [I.ok.blt]; exact h1.keeps I.bk) ((h2 x hn).trans hv) h) hd
theorem pe_glob {x : Str} {v : V} {u : Value} {pos : Pos} (hg : Gl X x) (hm : X.mg x = some u) (r : RelV v u) (hd : (x == ("__debug__" : Str)) = false := by decide) : PE X (.Name x pos) (tC v) :=
  fun _ _ _ H _ I h => ld_glob I hg hm ⟨v, H, I, r, h⟩ hd
theorem pe_bltn {x : Str} {v : V} {u : Value} {pos : Pos} (hg : Gl X x) (hm : X.mg x = none) (hv : bootBuiltins x = some u) (r : RelV v u) (hn : x ≠ "__name__" := by decide) (hd : (x == ("__debug__" : Str)) = false := by decide) : PE X (.Name x pos) (tC v) :=
  fun _ _ _ H _ I h => ld_blt I hg hm hv ⟨v, H, I, r, h⟩ hn hd
variable {a b : Expr} {ta tb : TE} {pos : Pos}
def tB (t : TE) : TT := fun σ H Q => t σ H fun x H1 => ∃ c, x = .bl c ∧ Q c H1
theorem pt_val {e : Expr} {t : TE} (h : PE X e t) (he : ∀ whole, isTrue e X.env whole = (do let v ← whole; standAt e.pos; holding [v] (truthy v)) := by intro _; rfl) : PT X e (tB t) := by
  intro pins s σ H Q I hw
  refine isTrue_plain (thn (h pins s σ H _ I hw) fun v s1 ⟨x, H1, I1, r1, q1⟩ => ?_) (he _)
  obtain ⟨d, rfl, q⟩ := q1
  cases r1
  exact wpAny_truthy_bool ⟨H1, I1, q⟩
variable {tA tB' : TT} {rest : List Expr}
def tAnd (t u : TT) : TT := fun σ H Q => t σ H fun c H1 => if c = true then u σ H1 Q else Q false H1
def tOr (t u : TT) : TT := fun σ H Q => t σ H fun c H1 => if c = true then Q true H1 else u σ H1 Q
def tNot (t : TT) : TT := fun σ H Q => t σ H fun c H1 => Q (!c) H1
theorem pw_and1 (ha : PT X a tA) : PW X (.BoolOp .And [a] pos) tA := by
  intro wh pins s σ H Q I h
  refine isTrue_and (thn (ha pins s σ H Q I h) fun c s1 e => ?_)
  cases c with
  | true => exact isTrue_and_nil e
  | false => exact e
theorem pw_or1 (ha : PT X a tA) : PW X (.BoolOp .Or [a] pos) tA := by
  intro wh pins s σ H Q I h
  refine isTrue_or (thn (ha pins s σ H Q I h) fun c s1 e => ?_)
  cases c with
  | false => exact isTrue_or_nil e
  | true => exact e
theorem pw_and (ha : PT X a tA) (hb : PW X (.BoolOp .And (b :: rest) pos) tB') : PW X (.BoolOp .And (a :: b :: rest) pos) (tAnd tA tB') := by
  intro wh pins s σ H Q I h
  refine isTrue_and (thn (ha pins s σ H _ I h) fun c s1 ⟨H1, I1, q1⟩ => ?_)
  cases c with
  | true => exact hb wh pins s1 σ H1 Q I1 q1
  | false => exact ⟨H1, I1, q1⟩
theorem pw_or (ha : PT X a tA) (hb : PW X (.BoolOp .Or (b :: rest) pos) tB') : PW X (.BoolOp .Or (a :: b :: rest) pos) (tOr tA tB') := by
  intro wh pins s σ H Q I h
  refine isTrue_or (thn (ha pins s σ H _ I h) fun c s1 ⟨H1, I1, q1⟩ => ?_)
  cases c with
  | true => exact ⟨H1, I1, q1⟩
  | false => exact hb wh pins s1 σ H1 Q I1 q1
theorem pt_not (ha : PT X a tA) : PT X (.UnaryOp .Not a pos) (tNot tA) := by
  intro pins s σ H Q I h
  exact isTrue_not (ha pins s σ H (fun c H1 => Q (!c) H1) I h)
def tAndV (ta tb : TE) : TE := fun σ H Q => ta σ H fun x H1 => ∃ c, x = .bl c ∧ if c = true then tb σ H1 Q else Q (.bl false) H1
def tNotV (ta : TE) : TE := fun σ H Q => ta σ H fun x H1 => ∃ c, x = .bl c ∧ Q (.bl (!c)) H1
theorem pe_one {op} {t : TE} (h : PE X a t) : PE X (.BoolOp op [a] pos) t := fun pins s σ H Q I hw => BoolOp_one (h pins s σ H Q I hw)
theorem pe_and (ha : PE X a ta) (hb : PE X (.BoolOp .And (b :: rest) pos) tb) : PE X (.BoolOp .And (a :: b :: rest) pos) (tAndV ta tb) := by
  intro pins s σ H Q I h
  refine BoolOp_and (thn (ha pins s σ H _ I h) fun v s1 ⟨x, H1, I1, r1, q1⟩ => ?_)
  obtain ⟨c, rfl, q1⟩ := q1
  cases r1
  refine wpAny_truthy_bool ?_
  cases c with
  | true => exact hb pins s1 σ H1 Q I1 q1
  | false => exact ⟨.bl false, H1, I1, rfl, q1⟩
theorem pe_not (ha : PE X a ta) : PE X (.UnaryOp .Not a pos) (tNotV ta) := by
  intro pins s σ H Q I h
  refine UnaryOp_ (thn (ha pins s σ H _ I h) fun v s1 ⟨x, H1, I1, r1, q1⟩ => ?_)
  obtain ⟨c, rfl, q1⟩ := q1
  cases r1
  exact not_of (wpAny_truthy_bool ⟨.bl (!c), H1, I1, rfl, q1⟩)
def tIf (t : TT) (ta tb : TE) : TE := fun σ H Q => t σ H fun c H1 => if c = true then ta σ H1 Q else tb σ H1 Q
theorem pe_ifExp {c : Expr} (hc : PT X c tA) (ha : PE X a ta) (hb : PE X b tb) : PE X (.IfExp c a b pos) (tIf tA ta tb) := by
  intro pins s σ H Q I h
  refine wpAny_IfExp (thn (hc pins s σ H _ I h) fun d s1 ⟨H1, I1, q1⟩ => ?_)
  cases d with
  | true => exact ha pins s1 σ H1 Q I1 q1
  | false => exact hb pins s1 σ H1 Q I1 q1
end
end L2
namespace L2
open PySem PySem.Spec PyProof.Rows
def SqL (K : PySem.W.Frag) (H : Hp) (a : Addr) (xs : List V) : Prop :=
  Rd H a (.lst xs) ∨
    ∃ (o : Obj) (its : Array Value) (n : Nat), K.lookup a = some o ∧ o.cls = .type "list" ∧ o.dict = none ∧ o.data = .seq its n ∧ its.size ≤ sizeLine ∧ Vals xs its.toList
def SqT (K : PySem.W.Frag) (H : Hp) (a : Addr) (xs : List V) : Prop :=
  Rd H a (.tup xs) ∨
    ∃ (o : Obj) (its : Array Value) (n : Nat), K.lookup a = some o ∧ o.cls = .type "tuple" ∧ o.data = .seq its n ∧ its.size ≤ sizeLine ∧ Vals xs its.toList
def absV : Value → Option V
  | .none => some .non
  | .bool b => some (.bl b)
  | .int i _ => some (.int i)
  | .str x _ => some (.str x)
  | .bytes b _ => some (.byt b)
  | .float b _ => some (.flt b)
  | .ref a => some (.ref a)
  | .type n => some (.ty n)
  | _ => none
theorem RelV.abs {x : V} {u : Value} (r : RelV x u) : absV u = some x := by
  cases x with
  | non => cases r; rfl
  | bl _ => cases r; rfl
  | int _ => obtain ⟨t, rfl⟩ := r; rfl
  | str _ => obtain ⟨t, rfl⟩ := r; rfl
  | byt _ => obtain ⟨t, rfl⟩ := r; rfl
  | flt _ => obtain ⟨t, rfl⟩ := r; rfl
  | ref _ => cases r; rfl
  | ty _ => cases r; rfl
theorem RelV.inj {x y : V} {u : Value} (r : RelV x u) (q : RelV y u) : x = y := Option.some.inj (r.abs.symm.trans q.abs)
theorem Vals.inj : ∀ {xs ys : List V} {us : List Value}, Vals xs us → Vals ys us → xs = ys
  | _, _, _, .nil, .nil => rfl
  | _, _, _, .cons r t, .cons r' t' => by rw [r.inj r', Vals.inj t t']
section
variable {X : Cx} {pins : List (Addr × Obj)} {σ : St} {H : Hp} {s : Shared} {a : Addr} {xs ys : List V}
theorem SqL.of {K : PySem.W.Frag} (h : H a = some (.lst xs)) : SqL K H a xs := .inl (.inl h)
theorem SqT.of {K : PySem.W.Frag} (h : H a = some (.tup xs)) : SqT K H a xs := .inl (.inl h)
theorem Inv.list (I : Inv X pins σ H s) (h : SqL X.K H a xs) : ∃ its : List Value, Vals xs its ∧ PlainL s.heap a its.toArray ∧ xs.length ≤ sizeLine := by
  rcases h with h | ⟨o, its, n, hk, hc, hd, hs, hz, r⟩
  · obtain ⟨z, its, n, r, e⟩ := h.ok I.hok
    exact ⟨its, r, ⟨_, n, e, rfl, rfl, rfl⟩, z⟩
  · refine ⟨its.toList, r, ⟨o, n, I.kIn a o hk, hc, hd, by simpa using hs⟩, ?_⟩
    have e := r.length
    simp only [Array.length_toList] at e
    omega
theorem Inv.tuple (I : Inv X pins σ H s) (h : SqT X.K H a xs) : ∃ its : List Value, Vals xs its ∧ IsTup s.heap a its.toArray ∧ xs.length ≤ sizeLine := by
  rcases h with h | ⟨o, its, n, hk, hc, hs, hz, r⟩
  · obtain ⟨z, its, r, p⟩ := h.ok I.hok
    exact ⟨its, r, p.1, z⟩
  · refine ⟨its.toList, r, ⟨o, I.kIn a o hk, hc, n, by simpa using hs⟩, ?_⟩
    have e := r.length
    simp only [Array.length_toList] at e
    omega
theorem Inv.list_inj (I : Inv X pins σ H s) (h : SqL X.K H a xs) (h' : SqL X.K H a ys) : xs = ys := by
  obtain ⟨its, r, ⟨o, n, e, _, _, d⟩, _⟩ := I.list h
  obtain ⟨its', r', ⟨o', n', e', _, _, d'⟩, _⟩ := I.list h'
  rw [e] at e'; cases e'
  rw [d] at d'
  injection d' with d1 _
  have : its = its' := by simpa using congrArg Array.toList d1
  subst this
  exact r.inj r'
theorem Inv.tuple_inj (I : Inv X pins σ H s) (h : SqT X.K H a xs) (h' : SqT X.K H a ys) : xs = ys := by
  obtain ⟨its, r, ⟨o, e, _, n, d⟩, _⟩ := I.tuple h
  obtain ⟨its', r', ⟨o', e', _, n', d'⟩, _⟩ := I.tuple h'
  rw [e] at e'; cases e'
  rw [d] at d'
  injection d' with d1 _
  have : its = its' := by simpa using congrArg Array.toList d1
  subst this
  exact r.inj r'
end
abbrev Cx.wish (X : Cx) (E : Value → Shared → Prop) : Cx := { X with xe := E }
abbrev Cx.nox (X : Cx) : Cx := X.wish fun _ _ => False
theorem Cx.Ok.wish {X : Cx} (ok : X.Ok) (E : Value → Shared → Prop) : (X.wish E).Ok :=
  ⟨ok.mod, ok.kind, ok.glob, ok.blt, ok.above, ok.inj, ok.has, ok.cab, ok.hd, ok.frames, ok.stk, ok.exf, ok.bs, ok.bsz, ok.noex, ok.exfs, ok.funs, ok.frf⟩
theorem Cx.Ok.unwish {X : Cx} {E : Value → Shared → Prop} (ok : (X.wish E).Ok) : X.Ok :=
  ⟨ok.mod, ok.kind, ok.glob, ok.blt, ok.above, ok.inj, ok.has, ok.cab, ok.hd, ok.frames, ok.stk, ok.exf, ok.bs, ok.bsz, ok.noex, ok.exfs, ok.funs, ok.frf⟩
section
variable {X : Cx} {pins : List (Addr × Obj)} {σ : St} {H : Hp} {s : Shared} {E : Value → Shared → Prop}
theorem Inv.wish (I : Inv X pins σ H s) (E : Value → Shared → Prop) : Inv (X.wish E) pins σ H s := ⟨I.ok.wish E, I.os, I.bare, I.base, I.loc, I.cell, I.free, I.freeC, I.pin, I.hok, I.len⟩
theorem Inv.unwish (I : Inv (X.wish E) pins σ H s) : Inv X pins σ H s := ⟨I.ok.unwish, I.os, I.bare, I.base, I.loc, I.cell, I.free, I.freeC, I.pin, I.hok, I.len⟩
theorem SP.unwish {D : Ends} {f : Flow} {s' : Shared} (h : SP (X.wish E) pins D f s') : SP X pins D f s' := by
  cases f with
  | next => obtain ⟨σ', H', I, q⟩ := h; exact ⟨σ', H', I.unwish, q⟩
  | brk => obtain ⟨σ', H', I, q⟩ := h; exact ⟨σ', H', I.unwish, q⟩
  | cont => obtain ⟨σ', H', I, q⟩ := h; exact ⟨σ', H', I.unwish, q⟩
  | ret u => obtain ⟨v, σ', H', I, r, q⟩ := h; exact ⟨v, σ', H', I.unwish, r, q⟩
theorem PSs.nox {st : List Stmt} {t : TS} (h : PSs X.nox st t) : PSs X st t := fun pins s σ H D I hw =>
  wpAny_mono (h pins s σ H D (I.wish _) hw) (fun _ _ q => q.unwish) fun _ _ z => False.elim z
end
section
variable {X : Cx} {st : Stmt} {rest : List Stmt} {t u : TS} {e : Expr} {te : TE} {pos : Pos}
def tNext : TS := fun D σ H => D.nx σ H
def tSeq (t u : TS) : TS := fun D σ H => t { D with nx := u D } σ H
theorem pss_nil : PSs X [] tNext := fun _ _ σ H _ I h => wpAny_execs_nil ⟨σ, H, I, h⟩
theorem pss_cons (h1 : PS X st t) (h2 : PSs X rest u) : PSs X (st :: rest) (tSeq t u) := by
  intro pins s σ H D I h
  refine wpAny_execs_cons (thn (h1 pins s σ H { D with nx := u D } I h) fun f s1 q => ?_)
  cases f with
  | next =>
    obtain ⟨σ', H', I', q⟩ := q
    exact h2 pins s1 σ' H' D I' q
  | ret v => exact q
  | brk => exact q
  | cont => exact q
theorem pss_one (h1 : PS X st t) : PSs X [st] t := by
  intro pins s σ H D I h
  refine wpAny_execs_cons (thn (h1 pins s σ H D I h) fun f s1 q => ?_)
  cases f with
  | next => exact wpAny_execs_nil q
  | ret v => exact q
  | brk => exact q
  | cont => exact q
theorem Inv.quiet {pins : List (Addr × Obj)} {σ : St} {H : Hp} {s : Shared} (I : Inv X pins σ H s) : interactive X.env = false := by simp [interactive, I.ok.kind]
def tDrop (te : TE) : TS := fun D σ H => te σ H fun _ H1 => D.nx σ H1
theorem ps_expr (he : PE X e te) (hs : swapsWith e none pos.line X.env = pure false := by rfl) : PS X (.Expr e pos) (tDrop te) := by
  intro pins s σ H D I h
  exact wpAny_Expr_any (thn (he pins s σ H _ I h) fun v s1 ⟨x, H1, I1, r1, q1⟩ => ⟨σ, H1, I1, q1⟩) I.quiet hs
def tRet (te : TE) : TS := fun D σ H => te σ H D.rt
theorem ps_ret (he : PE X e te) : PS X (.Return (some e) pos) (tRet te) := by
  intro pins s σ H D I h
  exact wpAny_Return_some (thn (he pins s σ H _ I h) fun v s1 ⟨x, H1, I1, r1, q1⟩ => ⟨x, σ, H1, I1, r1, q1⟩)
def tIfS (c : TT) (t u : TS) : TS := fun D σ H => c σ H fun b H1 => if b = true then t D σ H1 else u D σ H1
theorem ps_if {c : Expr} {a b : List Stmt} {tc : TT} (hc : PT X c tc) (ha : PSs X a t) (hb : PSs X b u) : PS X (.If c a b pos) (tIfS tc t u) := by
  intro pins s σ H D I h
  refine wpAny_If (thn (hc pins s σ H _ I h) fun d s1 ⟨H1, I1, q1⟩ => ?_)
  cases d with
  | true => exact ha pins s1 σ H1 D I1 q1
  | false => exact hb pins s1 σ H1 D I1 q1
end
abbrev TG := V → St → Hp → (St → Hp → Prop) → Prop
abbrev TGs := List V → St → Hp → (St → Hp → Prop) → Prop
def PG (X : Cx) (target : Expr) (t : TG) : Prop :=
  ∀ (pins : List (Addr × Obj)) (s : Shared) (σ : St) (H : Hp) (v : V) (u : Value) (Q : St → Hp → Prop), Inv X pins σ H s → RelV v u → t v σ H Q →
    wpAny (model X.prog X.w) X.A (assign target X.env u) (fun _ s' => ∃ σ' H', Inv X pins σ' H' s' ∧ Q σ' H') X.xe s
def PGs (X : Cx) (ts : List Expr) (t : TGs) : Prop :=
  ∀ (pins : List (Addr × Obj)) (s : Shared) (σ : St) (H : Hp) (vs : List V) (us : List Value) (Q : St → Hp → Prop), Inv X pins σ H s → Vals vs us → t vs σ H Q →
    wpAny (model X.prog X.w) X.A (assignInOrder ((assignEach ts X.env).map (·.2)) us) (fun _ s' => ∃ σ' H', Inv X pins σ' H' s' ∧ Q σ' H') X.xe s
abbrev TSet := V → V → V → Hp → (Hp → Prop) → Prop
def PSet (X : Cx) (t : TSet) : Prop :=
  ∀ (pins : List (Addr × Obj)) (s : Shared) (σ : St) (H : Hp) (o i v : V) (ov iv u : Value) (Q : Hp → Prop), Inv X pins σ H s → RelV o ov → RelV i iv → RelV v u → t o i v H Q →
    wpAny (model X.prog X.w) X.A (setItem ov iv u) (fun _ s' => ∃ H', Inv X pins σ H' s' ∧ Q H') X.xe s
abbrev TIp := V → V → Hp → VK → Prop
def PIp (X : Cx) (op : Operator) (t : TIp) : Prop :=
  ∀ (pins : List (Addr × Obj)) (s : Shared) (σ : St) (H : Hp) (x y : V) (v u : Value) (Q : VK), Inv X pins σ H s → RelV x v → RelV y u → t x y H Q →
    wpAny (model X.prog X.w) X.A (inplaceOp op v u) (EP X pins σ Q) X.xe s
section
variable {X : Cx} {pos : Pos}
def gName (i : Nat) : TG := fun v σ H Q => Q (σ.set i (some v)) H
theorem pg_name {i : Nat} {x : Str} (hN : X.N.Nodup) (hi : X.N[i]? = some x) (hx : Loc X.env.scope x) (hf : X.fn x = true ∨ X.env.scope.names.lookup x = some .local := by first | exact .inl rfl | exact .inr rfl | assumption) : PG X (.Name x pos) (gName i) := by
  intro pins s σ H v u Q I r h
  exact wpAny_assign_Name (store_ok I hN hi hx r (fun s' I' => ⟨_, H, I', h⟩) hf)
def gNil : TGs := fun vs σ H Q => vs = [] ∧ Q σ H
def gCons (t : TG) (u : TGs) : TGs := fun vs σ H Q => ∃ v r, vs = v :: r ∧ t v σ H fun σ' H' => u r σ' H' Q
theorem pgs_nil : PGs X [] gNil := by
  intro pins s σ H vs us Q I r h
  obtain ⟨e, h⟩ := h
  subst e
  cases r
  exact assignInOrder_nil ⟨σ, H, I, h⟩
theorem pgs_cons {e : Expr} {es : List Expr} {t : TG} {u : TGs} (h1 : PG X e t) (h2 : PGs X es u)
    (hs : (assignEach (e :: es) X.env).map (·.2) = assign e X.env :: (assignEach es X.env).map (·.2) := by rfl) : PGs X (e :: es) (gCons t u) := by
  intro pins s σ H vs us Q I r h
  obtain ⟨v, vr, e1, h⟩ := h
  subst e1
  cases r with
  | cons r rr =>
    rw [hs]
    refine assignInOrder_cons (thn (h1 pins s σ H _ _ _ I r h) fun _ s1 ⟨σ1, H1, I1, q1⟩ => ?_)
    exact h2 pins s1 σ1 H1 _ _ Q I1 rr q1
def gTup (K : PySem.W.Frag) (n : Nat) (t : TGs) : TG := fun v σ H Q => ∃ a xs, v = .ref a ∧ SqT K H a xs ∧ xs.length = n ∧ t xs σ H Q
theorem pg_tup {es : List Expr} {k : Nat} {t : TGs} {n : Nat} (hc : X.calm = true) (h : PGs X es t)
    (hn : (assignEach es X.env).length = n := by rfl) (hst : (assignEach es X.env).findIdx? (·.1) = none := by rfl) : PG X (.Tuple es k pos) (gTup X.K n t) := by
  intro pins s σ H v u Q I r hw
  obtain ⟨a, xs, e1, hq, hl, hw⟩ := hw
  subst e1
  cases r
  obtain ⟨its, rv, ht, hz⟩ := I.tuple hq
  refine assign_Tuple_tuple (I.ok.hd hc) ht (by simp [hn, ← hl, rv.length]) hst fun h' hx => ?_
  have I1 : Inv X pins σ H { s with heap := h' } := I.kept (t' := s.toks) fun b o e => hx b o (Nat.ne_of_lt (Heap.lt_size e)) e
  exact h pins _ σ H xs _ Q I1 (by simpa using rv) hw
def gSub (to ti : TE) (t : TSet) : TG := fun v σ H Q => to σ H fun o H1 => ti σ H1 fun i H2 => t o i v H2 fun H3 => Q σ H3
theorem pg_sub {o i : Expr} {to ti : TE} {t : TSet} (ho : PE X o to) (hi : PE X i ti) (hs : PSet X t)
    (ha : ∀ v, assign (.Subscript o i pos) X.env v = (do
      let ov ← holding [v] (eval o X.env)
      let iv ← holding [v, ov] (eval i X.env)
      standAt pos
      holding [v, ov, iv] (setItem ov iv v)
      release [v, ov, iv] []) := by intro _; rfl) : PG X (.Subscript o i pos) (gSub to ti t) := by
  intro pins s σ H v u Q I r h
  rw [ha]
  refine wpAny_bind (wpAny_holding (thn (ho pins s σ H _ I h) fun ov s1 ⟨x, H1, I1, r1, q1⟩ => ?_))
  refine wpAny_bind (wpAny_holding (thn (hi pins s1 σ H1 _ I1 q1) fun iv s2 ⟨y, H2, I2, r2, q2⟩ => ?_))
  refine wpAny_bind (wpAny_standAt (wpAny_bind (wpAny_holding (thn (hs pins s2 σ H2 x y v ov iv u _ I2 r1 r2 r q2) fun _ s3 ⟨H3, I3, q3⟩ => ?_))))
  exact wpAny_release ⟨σ, H3, I3, q3⟩
def tAsg (te : TE) (g : TG) : TS := fun D σ H => te σ H fun x H1 => g x σ H1 D.nx
theorem ps_asg {tg e : Expr} {te : TE} {g : TG} (he : PE X e te) (hg : PG X tg g) (hs : swapsWithSole [tg] e pos.line X.env = pure false := by rfl) (hw : swappedStores [tg] e X.env = pure none := by rfl)
    (h1 : (assignEach [tg] X.env).map (·.2) = [assign tg X.env] := by rfl) : PS X (.Assign [tg] e pos) (tAsg te g) := by
  intro pins s σ H D I h
  refine wpAny_Assign_stores (thn (he pins s σ H _ I h) fun v s1 ⟨x, H1, I1, r1, q1⟩ => ?_) hs hw
  rw [h1]
  exact thn (hg pins s1 σ H1 x v _ I1 r1 q1) fun _ s2 q => q
theorem ps_set {i : Nat} {x : Str} {e : Expr} {te : TE} {pos' : Pos} (hN : X.N.Nodup) (hi : X.N[i]? = some x) (hx : Loc X.env.scope x) (he : PE X e te) (hs : swapsWith e (some (.Name x pos')) pos.line X.env = pure false := by rfl) (hf : X.fn x = true ∨ X.env.scope.names.lookup x = some .local := by first | exact .inl rfl | exact .inr rfl | assumption) :
    PS X (.Assign [.Name x pos'] e pos) (tAsg te (gName i)) := by
  intro pins s σ H D I h
  refine wpAny_Assign_Name (thn (he pins s σ H _ I h) fun v s1 ⟨y, H1, I1, r1, q1⟩ => ?_) hs
  exact store_ok I1 hN hi hx r1 (fun s2 I2 => ⟨_, H1, I2, q1⟩) hf
def tAug (i : Nat) (te : TE) (ti : TIp) : TS := fun D σ H => ∃ x, σ[i]? = some (some x) ∧ te σ H fun y H1 => ti x y H1 fun z H2 => D.nx (σ.set i (some z)) H2
theorem ps_aug {i : Nat} {x : Str} {e : Expr} {te : TE} {op : Operator} {ti : TIp} {pos' : Pos} (hN : X.N.Nodup) (hi : X.N[i]? = some x) (hx : Loc X.env.scope x) (he : PE X e te) (ho : PIp X op ti) (hf : X.fn x = true ∨ X.env.scope.names.lookup x = some .local := by first | exact .inl rfl | exact .inr rfl | assumption) :
    PS X (.AugAssign (.Name x pos') op e pos) (tAug i te ti) := by
  intro pins s σ H D I h
  obtain ⟨v, e1, h⟩ := h
  obtain ⟨m, hn, hl⟩ := I.loc
  have vis : Vis X.env.scope x := by rcases hx with k | k; exact .inl k; exact .inr (.inl k)
  obtain ⟨u, r, l⟩ := hl i x v hi e1 vis
  refine wpAny_AugAssign_Name ?_
  have go : wpAny (model X.prog X.w) X.A (eval e X.env) (fun w s₂ => wpAny (model X.prog X.w) X.A (inplaceOp op u w) (fun r s₃ => wpAny (model X.prog X.w) X.A (storeName X.env x r) (fun _ => SP X pins D .next) X.xe s₃) X.xe s₂) X.xe s := by
    refine thn (he pins s σ H _ I h) fun w s1 ⟨y, H1, I1, r1, q1⟩ => ?_
    refine thn (ho pins s1 σ H1 v y u w _ I1 r r1 q1) fun z s2 ⟨zv, H2, I2, r2, q2⟩ => ?_
    exact store_ok I2 hN hi hx r2 (fun s3 I3 => ⟨_, H2, I3, q2⟩) hf
  rcases l with ⟨hk, hm⟩ | ⟨hk, c, hc, hcell⟩
  · exact wpAny_loadName_local I.ok.kind hk hn hm go
  · rcases hk with hk | hk
    · exact wpAny_loadName_cell I.ok.kind hk hc hcell go
    · rcases hx with k | k
      · have : X.env.scope.names.lookup x = some .free := hk
        rw [k] at this; cases this
      · have : X.env.scope.names.lookup x = some .free := hk
        rw [k] at this; cases this
def ipI (f : Int → Int → Int) : TIp := fun x y H Q => ∃ i j, x = .int i ∧ y = .int j ∧ Q (.int (f i j)) H
theorem ip_add : PIp X .Add (ipI fun i j => i + j) := by
  intro pins s σ H x y v u Q I r1 r2 h
  obtain ⟨i, j, e1, e2, q⟩ := h
  subst e1; subst e2
  obtain ⟨t, rfl⟩ := r1
  obtain ⟨t', rfl⟩ := r2
  exact iadd_int ⟨.int _, H, I.tok _, ⟨_, rfl⟩, q⟩
end
section
variable {X : Cx} {pos : Pos}
def tWhile (c : TT) (tb : TS) : TS := fun D σ H => ∃ W : Nat → St → Hp → Prop, (∃ m, W m σ H) ∧ ∀ m σ H, W m σ H →
  c σ H fun b H1 => if b = true then ∃ N : St → Hp → Prop, (∀ σ' H', N σ' H' → ∃ m', m' < m ∧ W m' σ' H') ∧ tb { D with nx := N, ct := N, bk := D.nx } σ H1 else D.nx σ H1
theorem ps_while {c : Expr} {body : List Stmt} {tc : TT} {tb : TS} (hp : PassesOwn (model X.prog X.w) X.A X.env X.xe) (hc : PT X c tc) (hb : PSs X body tb) : PS X (.While c body [] pos) (tWhile tc tb) := by
  intro pins s σ H D I h
  obtain ⟨W, ⟨m0, w0⟩, turn⟩ := h
  refine wpAny_While (codeAny_whileLoop (fun n s' => ∃ σ' H', Inv X pins σ' H' s' ∧ W n σ' H') ?_ m0 ⟨σ, H, I, w0⟩)
  rintro n s1 ⟨σ1, H1, I1, w1⟩
  refine wpAny_passesOwn hp (thn (hc pins s1 σ1 H1 _ I1 (turn n σ1 H1 w1)) fun b s2 ⟨H2, I2, q2⟩ => ?_)
  cases b with
  | true =>
    obtain ⟨N, hN, q2⟩ := q2
    rw [if_pos rfl]
    refine wpAny_passesOwn hp (thn (hb pins s2 σ1 H2 _ I2 q2) fun f s3 q3 => ?_)
    cases f with
    | next =>
      obtain ⟨σ3, H3, I3, n3⟩ := q3
      obtain ⟨m', hm, w3⟩ := hN σ3 H3 n3
      exact ⟨m', hm, σ3, H3, I3, w3⟩
    | cont =>
      obtain ⟨σ3, H3, I3, n3⟩ := q3
      obtain ⟨m', hm, w3⟩ := hN σ3 H3 n3
      exact ⟨m', hm, σ3, H3, I3, w3⟩
    | brk => exact q3
    | ret v => exact q3
  | false =>
    rw [if_neg Bool.false_ne_true]
    exact wpAny_execs_nil ⟨σ1, H2, I2, q2⟩
end
structure It where
  go : Nat → Hp → Prop
  yld : Nat → Hp → V → Hp → Prop
  stop : Nat → Hp → Prop
def FpOk (X : Cx) (pins : List (Addr × Obj)) (H : Hp) (b : Addr) : Prop :=
  H b = none ∧ b ≠ X.env.locals ∧ b ∉ X.fs ∧ (b ∈ X.ex ∨ X.s₀.heap.objs.size ≤ b) ∧ (∀ x c, X.env.cells.lookup x = some c → c ≠ b) ∧ ∀ p ∈ X.pn ++ pins, p.1 ≠ b
theorem Inv.fpOk {X : Cx} {pins : List (Addr × Obj)} {σ : St} {H H' : Hp} {s : Shared} {b : Addr} (I : Inv X pins σ H s) (hb : s.heap.objs.size ≤ b) (hn : H' b = none) : FpOk X pins H' b := by
  refine ⟨hn, Nat.ne_of_gt (Nat.lt_of_lt_of_le I.lt hb), I.nofs hb, .inr (Nat.le_trans I.sz hb), fun x c e z => ?_, fun p hp z => ?_⟩
  · obtain ⟨v, q⟩ := I.cell x c e
    exact absurd (Nat.lt_of_lt_of_le q.lt (by rw [z]; exact hb)) (Nat.lt_irrefl _)
  · exact absurd (Nat.lt_of_lt_of_le (Heap.lt_size (I.pin p hp).1) (by rw [z]; exact hb)) (Nat.lt_irrefl _)
structure Turn (P : Program) (w : World) (K : PySem.W.Frag) (tg : Expr) (J : It) (fp : List Addr) (it : Addr) (tn : Nat → Heap → Prop) : Prop where
  mem : it ∈ fp
  obj : ∀ i h, tn i h → ∀ b ∈ fp, ∃ o, h.get? b = some o ∧ ∀ v, o.data ≠ .cell v
  keep : ∀ i h h', tn i h → (∀ b ∈ fp, ∀ o, h.get? b = some o → h'.get? b = some o) → tn i h'
  item : ∀ (X : Cx), X.prog = P → X.w = w → X.K = K → X.calm = true → ∀ (i : Nat) (pins : List (Addr × Obj)) (s : Shared) (σ : St) (H : Hp) (E : Value → Shared → Prop), Inv X pins σ H s → (∀ b ∈ fp, FpOk X pins H b) → tn i s.heap → J.go i H →
    wpAny (model P w) X.A (pyNext (.ref it)) (fun r s1 => ∃ u, r = some u ∧
      wpAny (model P w) X.A (letOwnedTupleGo tg (.ref it) u) (fun _ s2 => ∃ x H', Inv X pins σ H' s2 ∧ RelV x u ∧ J.yld i H x H' ∧ tn (i + 1) s2.heap ∧ ∀ b ∈ fp, H' b = none) E s1) E s
  done : ∀ (X : Cx), X.prog = P → X.w = w → X.K = K → X.calm = true → ∀ (i : Nat) (pins : List (Addr × Obj)) (s : Shared) (σ : St) (H : Hp) (E : Value → Shared → Prop), Inv X pins σ H s → (∀ b ∈ fp, FpOk X pins H b) → tn i s.heap → J.stop i H →
    wpAny (model P w) X.A (pyNext (.ref it)) (fun r s1 => r = none ∧ Inv X pins σ H s1) E s
  self : ∀ (A : Around) (i : Nat) (s : Shared) (Q : Value → Shared → Prop) (E : Value → Shared → Prop), tn i s.heap → Q (.ref it) s → wpAny (model P w) A (pyIter (.ref it)) Q E s
abbrev TI := St → Hp → (It → Hp → Prop) → Prop
def PIE (X : Cx) (pins : List (Addr × Obj)) (σ : St) (tg : Expr) (R : It → Hp → Prop) (itv : Value) (s2 : Shared) : Prop :=
  ∃ (it : Addr) (fp : List Addr) (tn : Nat → Heap → Prop) (J : It) (H' : Hp), itv = .ref it ∧ Inv X pins σ H' s2 ∧ Turn X.prog X.w X.K tg J fp it tn ∧ tn 0 s2.heap ∧ (∀ b ∈ fp, FpOk X pins H' b) ∧ R J H'
def PI (X : Cx) (tg iter : Expr) (wi : TI) : Prop :=
  ∀ (pins : List (Addr × Obj)) (s : Shared) (σ : St) (H : Hp) (R : It → Hp → Prop), Inv X pins σ H s → wi σ H R →
    wpAny (model X.prog X.w) X.A (eval iter X.env) (fun v s1 => wpAny (model X.prog X.w) X.A (pyIter v) (PIE X pins σ tg R) X.xe s1) X.xe s
theorem go_of {M : Model} {A : Around} {E : Value → Shared → Prop} {s : Shared} {tg : Expr} {it : Addr} {u : Value} {o : Obj} {n : String} {vs : Array Value} {Q : Unit → Shared → Prop} (ho : s.heap.get? it = some o) (hc : o.cls = .type n) (hd : o.data = .fields vs)
    (hn : ["enumerate", "zip", "dict_itemiterator", "dict_reverseitemiterator", "odict_iterator", "itertools.zip_longest", "itertools.pairwise"].contains n = false) (hQ : Q () s) : wpAny M A (letOwnedTupleGo tg (.ref it) u) Q E s := by
  unfold letOwnedTupleGo
  cases tg <;> first
    | exact wpAny_pure hQ
    | (cases u <;> first
        | exact wpAny_pure hQ
        | (refine wpAny_bind (wpAny_load ho ?_)
           rw [hc, hd]
           show wpAny M A (if (["enumerate", "zip", "dict_itemiterator", "dict_reverseitemiterator", "odict_iterator", "itertools.zip_longest", "itertools.pairwise"].contains n && vs[0]? == some (rawInt _)) = true then _ else _) Q E s
           rw [if_neg (by intro h; rw [hn, Bool.false_and] at h; cases h)]
           exact wpAny_pure hQ))
def Itl (K : PySem.W.Frag) (a : Addr) : It :=
  ⟨fun i H => ∃ xs x, SqL K H a xs ∧ xs[i]? = some x, fun i H x H' => H' = H ∧ ∀ xs, SqL K H a xs → xs[i]? = some x, fun i H => ∃ xs, SqL K H a xs ∧ xs.length ≤ i⟩
def Itt (K : PySem.W.Frag) (a : Addr) : It :=
  ⟨fun i H => ∃ xs x, SqT K H a xs ∧ xs[i]? = some x, fun i H x H' => H' = H ∧ ∀ xs, SqT K H a xs → xs[i]? = some x, fun i H => ∃ xs, SqT K H a xs ∧ xs.length ≤ i⟩
def Itr (lo : Int) (n : Nat) : It := ⟨fun i _ => i < n, fun i H x H' => H' = H ∧ x = .int (lo + i), fun i _ => n ≤ i⟩
theorem turn_list {P : Program} {w : World} {K : PySem.W.Frag} {tg : Expr} (a it : Addr) : Turn P w K tg (Itl K a) [it] it (fun i h => h.IsListIter it a i) where
  mem := by simp
  obj := fun i h st b hb => by
    have e : b = it := by simpa using hb
    subst e
    obtain ⟨o, e, c, d⟩ := st
    exact ⟨o, e, fun v z => by rw [d] at z; cases z⟩
  keep := fun i h h' st k => st.at fun o e => k it (by simp) o e
  item := by
    intro X hP hw hK hc i pins s σ H E I hf st hg
    subst hP hw hK
    obtain ⟨xs, x, hq, hx⟩ := hg
    obtain ⟨its, rv, p, hz⟩ := I.list hq
    obtain ⟨u, hu, ru⟩ := rv.get hx
    obtain ⟨f0, f1, f2, f3, f4, f5⟩ := hf it (by simp)
    refine wpAny_pyNext_list_item st p.isList (x := u) (by simpa using hu) fun h' st' sb => ?_
    have I1 : Inv X pins σ H { s with heap := h' } := I.turned (t' := s.toks) (fun b o hb e => (sb.2 b hb).trans e) f0 f1 f3 f4 f5
    obtain ⟨o, e, c, d⟩ := id st'
    exact ⟨u, rfl, go_of (s := { s with heap := h' }) e c d (by decide) ⟨x, H, I1, ru, ⟨rfl, fun ys hy => by rw [I.list_inj hy hq]; exact hx⟩, st', fun b hb => (hf b hb).1⟩⟩
  done := by
    intro X hP hw hK hc i pins s σ H E I hf st hg
    subst hP hw hK
    obtain ⟨xs, hq, hx⟩ := hg
    obtain ⟨its, rv, p, hz⟩ := I.list hq
    obtain ⟨f0, f1, f2, f3, f4, f5⟩ := hf it (by simp)
    have hl := rv.length
    exact wpAny_pyNext_list_end (I.ok.hd hc) st p.isList (by simp; omega) fun h' eb => ⟨rfl, I.turned (t' := s.toks) (fun b o hb e => eb b o hb e) f0 f1 f3 f4 f5⟩
  self := fun _ _ _ _ _ st h => wpAny_pyIter_listiter st h
theorem turn_tuple {P : Program} {w : World} {K : PySem.W.Frag} {tg : Expr} (a it : Addr) : Turn P w K tg (Itt K a) [it] it (fun i h => h.IsTupleIter it a i) where
  mem := by simp
  obj := fun i h st b hb => by
    have e : b = it := by simpa using hb
    subst e
    obtain ⟨o, e, c, d⟩ := st
    exact ⟨o, e, fun v z => by rw [d] at z; cases z⟩
  keep := fun i h h' st k => st.at fun o e => k it (by simp) o e
  item := by
    intro X hP hw hK hc i pins s σ H E I hf st hg
    subst hP hw hK
    obtain ⟨xs, x, hq, hx⟩ := hg
    obtain ⟨its, rv, p, hz⟩ := I.tuple hq
    obtain ⟨u, hu, ru⟩ := rv.get hx
    obtain ⟨f0, f1, f2, f3, f4, f5⟩ := hf it (by simp)
    refine wpAny_pyNext_tuple_item st (show s.heap.IsTuple a its.toArray from p) (x := u) (by simpa using hu) fun h' st' sb => ?_
    have I1 : Inv X pins σ H { s with heap := h' } := I.turned (t' := s.toks) (fun b o hb e => (sb.2 b hb).trans e) f0 f1 f3 f4 f5
    obtain ⟨o, e, c, d⟩ := id st'
    exact ⟨u, rfl, go_of (s := { s with heap := h' }) e c d (by decide) ⟨x, H, I1, ru, ⟨rfl, fun ys hy => by rw [I.tuple_inj hy hq]; exact hx⟩, st', fun b hb => (hf b hb).1⟩⟩
  done := by
    intro X hP hw hK hc i pins s σ H E I hf st hg
    subst hP hw hK
    obtain ⟨xs, hq, hx⟩ := hg
    obtain ⟨its, rv, p, hz⟩ := I.tuple hq
    obtain ⟨f0, f1, f2, f3, f4, f5⟩ := hf it (by simp)
    have hl := rv.length
    exact wpAny_pyNext_tuple_end (I.ok.hd hc) st (show s.heap.IsTuple a its.toArray from p) (by simp; omega) fun h' eb => ⟨rfl, I.turned (t' := s.toks) (fun b o hb e => eb b o hb e) f0 f1 f3 f4 f5⟩
  self := fun _ _ _ _ _ st h => wpAny_pyIter_tupleiter st h
theorem turn_range {P : Program} {w : World} {K : PySem.W.Frag} {tg : Expr} (it : Addr) (lo : Int) (n : Nat) : Turn P w K tg (Itr lo n) [it] it (fun i h => IsRangeIter h it (lo + (i : Nat) * 1) ((n : Int) - (i : Nat)) 1) where
  mem := by simp
  obj := fun i h st b hb => by
    have e : b = it := by simpa using hb
    subst e
    exact ⟨_, st, fun v z => by
      have z' : Data.fields _ = Data.cell v := z
      cases z'⟩
  keep := fun i h h' st k => k it (by simp) _ st
  item := by
    intro X hP hw hK hc i pins s σ H E I hf st hg
    subst hP hw hK
    obtain ⟨f0, f1, f2, f3, f4, f5⟩ := hf it (by simp)
    have W := Walks.range (prog := X.prog) (w := X.w) (I.ok.hd hc) it lo 1 n
    refine W.item i s _ _ hg st fun v h' tk hv st' kk => ?_
    obtain ⟨t, rfl⟩ := hv
    have I1 : Inv X pins σ H { s with heap := h', toks := tk } := I.turned (fun b o hb e => kk b o (by simpa using hb) e) f0 f1 f3 f4 f5
    refine ⟨_, rfl, go_of (s := { s with heap := h', toks := tk }) (n := "range_iterator") st' rfl rfl (by decide) ⟨.int (lo + i), H, I1, ⟨t, ?_⟩, ⟨rfl, rfl⟩, st', fun b hb => (hf b hb).1⟩⟩
    rw [Int.mul_one]
  done := by
    intro X hP hw hK hc i pins s σ H E I hf st hg
    subst hP hw hK
    obtain ⟨f0, f1, f2, f3, f4, f5⟩ := hf it (by simp)
    exact wpAny_pyNext_range_end (I.ok.hd hc) st (by have : n ≤ i := hg; omega) fun h' eb => ⟨rfl, I.turned (t' := s.toks) (fun b o hb e => eb b o hb e) f0 f1 f3 f4 f5⟩
  self := fun _ _ _ _ _ st h => wpAny_pyIter_rangeiter st h
end L2
namespace L2
open PySem PySem.Spec PyProof.Rows
section
variable {X : Cx} {tg : Expr}
def iList (K : PySem.W.Frag) (tl : TE) : TI := fun σ H R => tl σ H fun x H1 => ∃ a, x = .ref a ∧ (∃ xs, SqL K H1 a xs) ∧ R (Itl K a) H1
def iTup (K : PySem.W.Frag) (tl : TE) : TI := fun σ H R => tl σ H fun x H1 => ∃ a, x = .ref a ∧ (∃ xs, SqT K H1 a xs) ∧ R (Itt K a) H1
theorem pi_list {l : Expr} {tl : TE} (hl : PE X l tl) : PI X tg l (iList X.K tl) := by
  intro pins s σ H R I h
  refine thn (hl pins s σ H _ I h) fun v s1 ⟨x, H1, I1, r1, q1⟩ => ?_
  obtain ⟨a, e, ⟨xs, hq⟩, q⟩ := q1
  subst e
  cases r1
  obtain ⟨its, rv, p, hz⟩ := I1.list hq
  refine wpAny_pyIter_list p.isList ?_
  refine ⟨s1.heap.objs.size, [s1.heap.objs.size], _, _, H1, rfl, I1.kept (t' := s1.toks) fun b o e => Heap.get?_push_of_some _ e, turn_list a _, ⟨_, Heap.get?_push_size _ rfl, rfl, rfl⟩, fun b hb => ?_, q⟩
  have e : b = s1.heap.objs.size := by simpa using hb
  subst e
  exact I1.fpOk (Nat.le_refl _) (I1.hok.fresh (Nat.le_refl _))
theorem pi_tup {l : Expr} {tl : TE} (hl : PE X l tl) : PI X tg l (iTup X.K tl) := by
  intro pins s σ H R I h
  refine thn (hl pins s σ H _ I h) fun v s1 ⟨x, H1, I1, r1, q1⟩ => ?_
  obtain ⟨a, e, ⟨xs, hq⟩, q⟩ := q1
  subst e
  cases r1
  obtain ⟨its, rv, p, hz⟩ := I1.tuple hq
  refine wpAny_pyIter_tuple (show s1.heap.IsTuple a its.toArray from p) ?_
  refine ⟨s1.heap.objs.size, [s1.heap.objs.size], _, _, H1, rfl, I1.kept (t' := s1.toks) fun b o e => Heap.get?_push_of_some _ e, turn_tuple a _, ⟨_, Heap.get?_push_size _ rfl, rfl, rfl⟩, fun b hb => ?_, q⟩
  have e : b = s1.heap.objs.size := by simpa using hb
  subst e
  exact I1.fpOk (Nat.le_refl _) (I1.hok.fresh (Nat.le_refl _))
theorem range_it {pins : List (Addr × Obj)} {σ : St} {H : Hp} {s : Shared} {R : It → Hp → Prop} {E : Value → Shared → Prop} {lo hi : Int} {t u v : Tok} {tk : Nat} (I : Inv X pins σ H s) (h1 : -(2 ^ 62) ≤ lo) (h2 : lo < 2 ^ 62) (h3 : -(2 ^ 62) ≤ hi) (h4 : hi < 2 ^ 62)
    (q : R (Itr lo (hi - lo).toNat) H) : wpAny (model X.prog X.w) X.A (pyIter (.ref s.heap.objs.size)) (PIE X pins σ tg R) E { s with heap := s.heap.push { cls := .type "range", data := .fields #[.int lo t, .int hi u, .int 1 v] }, toks := tk } := by
  refine wpAny_pyIter_range (IsRange.new ..) (small_one h1 h2 h3 h4) ?_
  have I1 : Inv X pins σ H { s with heap := s.heap.push { cls := .type "range", data := .fields #[.int lo t, .int hi u, .int 1 v] }, toks := tk } := I.kept fun b o e => Heap.get?_push_of_some _ e
  refine ⟨(s.heap.push { cls := .type "range", data := .fields #[.int lo t, .int hi u, .int 1 v] }).objs.size, [(s.heap.push { cls := .type "range", data := .fields #[.int lo t, .int hi u, .int 1 v] }).objs.size], _, _, H, rfl,
    I1.kept (t' := tk) fun b o e => Heap.get?_push_of_some _ e, turn_range _ lo (hi - lo).toNat, ?_, fun b hb => ?_, q⟩
  · have e1 : lo + ((0 : Nat) : Int) * 1 = lo := by simp
    have e2 : (((hi - lo).toNat : Nat) : Int) - ((0 : Nat) : Int) = Builtin.Range.rangeSize lo hi 1 := by rw [rangeSize_one]; split <;> omega
    show IsRangeIter _ _ (lo + ((0 : Nat) : Int) * 1) ((((hi - lo).toNat : Nat) : Int) - ((0 : Nat) : Int)) 1
    rw [e1, e2]
    exact Heap.get?_push_size _ rfl
  · have e : b = (s.heap.push { cls := .type "range", data := .fields #[.int lo t, .int hi u, .int 1 v] }).objs.size := by simpa using hb
    subst e
    exact I1.fpOk (Nat.le_refl _) (I1.hok.fresh (Nat.le_refl _))
def iRng1 (ta : TA) : TI := fun σ H R => ta σ H fun vs H1 => ∃ j : Int, vs = [.int j] ∧ -(2 ^ 62) ≤ j ∧ j < 2 ^ 62 ∧ R (Itr 0 j.toNat) H1
def iRng2 (ta : TA) : TI := fun σ H R => ta σ H fun vs H1 => ∃ i j : Int, vs = [.int i, .int j] ∧ (-(2 ^ 62) ≤ i ∧ i < 2 ^ 62 ∧ -(2 ^ 62) ≤ j ∧ j < 2 ^ 62) ∧ R (Itr i (j - i).toNat) H1
theorem pi_range1 {a : Expr} {ta : TA} {p pos : Pos} (hg : Gl X "range") (hm : X.mg "range" = none) (ha : PA X [a] ta) (hs : starEach [a] X.env = [(false, eval a X.env)] := by rfl) : PI X tg (.Call (.Name "range" p) [a] [] pos) (iRng1 ta) := by
  intro pins s σ H R I h
  refine Call_ (ld_blt I hg hm boot_range (PyProof.Rows.callWith_type1 (thn (ha pos pins s σ H _ I h) fun us s1 ⟨vs, H1, I1, r1, q1⟩ => ?_) hs rfl))
  obtain ⟨j, e, q1, q2, q⟩ := q1
  subst e
  cases r1 with
  | cons r rr =>
    cases rr
    obtain ⟨t, rfl⟩ := r
    exact call_range_1 (range_it I1 (by omega) (by omega) q1 q2 (by simpa using q))
theorem pi_range2 {a b : Expr} {ta : TA} {p pos : Pos} (hg : Gl X "range") (hm : X.mg "range" = none) (ha : PA X [a, b] ta) (hs : starEach [a, b] X.env = [(false, eval a X.env), (false, eval b X.env)] := by rfl) (hs2 : starEach [b] X.env = [(false, eval b X.env)] := by rfl) :
    PI X tg (.Call (.Name "range" p) [a, b] [] pos) (iRng2 ta) := by
  intro pins s σ H R I h
  refine Call_ (ld_blt I hg hm boot_range (PyProof.Rows.callWith_type1 (thn (ha pos pins s σ H _ I h) fun us s1 ⟨vs, H1, I1, r1, q1⟩ => ?_) (by rw [hs, hs2]) (by rw [hs2]; rfl)))
  obtain ⟨i, j, e, ⟨q1, q2, q3, q4⟩, q⟩ := q1
  subst e
  cases r1 with
  | cons r rr =>
    cases rr with
    | cons r' rr =>
      cases rr
      obtain ⟨t, rfl⟩ := r
      obtain ⟨t', rfl⟩ := r'
      exact call_range_2 (range_it I1 q1 q2 q3 q4 q)
def tFor (wi : TI) (g : TG) (tb : TS) : TS := fun D σ H => wi σ H fun J H1 => ∃ W : Nat → Nat → St → Hp → Prop, (∃ m, W 0 m σ H1) ∧ ∀ i m σ H, W i m σ H →
  (J.stop i H ∧ D.nx σ H) ∨ (J.go i H ∧ ∃ N : St → Hp → Prop, (∀ σ' H', N σ' H' → ∃ m', m' < m ∧ W (i + 1) m' σ' H') ∧ ∀ x H', J.yld i H x H' → g x σ H' fun σ2 H2 => tb { D with nx := N, ct := N, bk := D.nx } σ2 H2)
def pinsAt (fp : List Addr) (h : Heap) : List (Addr × Obj) := fp.filterMap fun b => (h.get? b).map fun o => (b, o)
theorem mem_pinsAt {fp : List Addr} {h : Heap} {b : Addr} {o : Obj} (hb : b ∈ fp) (e : h.get? b = some o) : (b, o) ∈ pinsAt fp h := List.mem_filterMap.mpr ⟨b, hb, by rw [e]; rfl⟩
theorem of_pinsAt {fp : List Addr} {h : Heap} {p : Addr × Obj} (hp : p ∈ pinsAt fp h) : p.1 ∈ fp ∧ h.get? p.1 = some p.2 := by
  obtain ⟨b, hb, e⟩ := List.mem_filterMap.mp hp
  cases q : h.get? b with
  | none => rw [q] at e; cases e
  | some o =>
    rw [q] at e
    have e' : (b, o) = p := Option.some.inj e
    subst e'
    exact ⟨hb, q⟩
theorem Inv.pinned {pins : List (Addr × Obj)} {σ : St} {H : Hp} {s : Shared} {fp : List Addr} (I : Inv X pins σ H s) (hf : ∀ b ∈ fp, FpOk X pins H b) (ho : ∀ b ∈ fp, ∃ o, s.heap.get? b = some o ∧ ∀ v, o.data ≠ .cell v) : Inv X (pins ++ pinsAt fp s.heap) σ H s :=
  I.pins_of fun p hp => (List.mem_append.mp hp).elim (fun z => I.pin p (List.mem_append_right _ z)) fun z => by
    obtain ⟨hb, e⟩ := of_pinsAt z
    obtain ⟨f0, f1, f2, _⟩ := hf p.1 hb
    obtain ⟨o, e', d⟩ := ho p.1 hb
    rw [e] at e'; cases e'
    exact ⟨e, f0, f1, f2, d⟩
theorem Inv.unpinned {pins pl : List (Addr × Obj)} {σ : St} {H : Hp} {s : Shared} (I : Inv X (pins ++ pl) σ H s) : Inv X pins σ H s := I.pins_of fun p hp => I.pin p (List.mem_append_right _ (List.mem_append_left _ hp))
theorem ps_for {iter : Expr} {body : List Stmt} {wi : TI} {g : TG} {tb : TS} {pos : Pos} (hp : PassesOwn (model X.prog X.w) X.A X.env X.xe) (hc : X.calm = true) (hi : PI X tg iter wi) (hg : PG X tg g) (hb : PSs X body tb)
    (hs : ∀ x, foldedSetIterable iter X.env x = pure x := by intro _; rfl) : PS X (.For tg iter body [] pos) (tFor wi g tb) := by
  intro pins s σ H D I h
  refine wpAny_For (thn (hi pins s σ H _ I h) fun v s1 h1 => thn h1 fun itv s2 h2 => ?_) hs
  obtain ⟨it, fp, tn, J, H2, e, I2, T, st2, f2, W, ⟨m0, w0⟩, turn⟩ := h2
  subst e
  -- what stays true of the iterator's objects through the loop
  have stat : ∀ {H' : Hp}, (∀ b ∈ fp, H' b = none) → ∀ b ∈ fp, FpOk X pins H' b := fun hn b hb => ⟨hn b hb, (f2 b hb).2⟩
  refine codeAny_forLoop_any (fun n s' => ∃ i σ' H', Inv X pins σ' H' s' ∧ tn i s'.heap ∧ (∀ b ∈ fp, H' b = none) ∧ W i n σ' H') ?_ m0 ⟨0, σ, H2, I2, st2, fun b hb => (f2 b hb).1, w0⟩
  rintro n s3 ⟨i, σ3, H3, I3, st3, fr3, w3⟩
  rcases turn i n σ3 H3 w3 with ⟨stop, qn⟩ | ⟨go, N, hN, step⟩
  · refine wpAny_passesOwn hp (thn (T.done X rfl rfl rfl hc i pins s3 σ3 H3 X.xe I3 (stat fr3) st3 stop) fun r s4 ⟨hr, I4⟩ => ?_)
    subst hr
    exact wpAny_execs_nil ⟨σ3, H3, I4, qn⟩
  · refine wpAny_passesOwn hp (thn (T.item X rfl rfl rfl hc i pins s3 σ3 H3 X.xe I3 (stat fr3) st3 go) fun r s4 ⟨u, hr, h4⟩ => ?_)
    subst hr
    refine wpAny_passesOwn hp (thn h4 fun _ s5 ⟨x, H5, I5, r5, y5, st5, fr5⟩ => ?_)
    have I5' := I5.pinned (stat fr5) (T.obj _ _ st5)
    refine wpAny_passesOwn hp (thn (hg _ s5 σ3 H5 x u _ I5' r5 (step x H5 y5)) fun _ s6 ⟨σ6, H6, I6, q6⟩ => ?_)
    refine wpAny_passesOwn hp (thn (hb _ s6 σ6 H6 _ I6 q6) fun f s7 q7 => ?_)
    have again : ∀ {σ7 : St} {H7 : Hp}, Inv X (pins ++ pinsAt fp s5.heap) σ7 H7 s7 → N σ7 H7 → ∃ m, m < n ∧ ∃ i σ' H', Inv X pins σ' H' s7 ∧ tn i s7.heap ∧ (∀ b ∈ fp, H' b = none) ∧ W i m σ' H' := fun {σ7 H7} I7 n7 => by
      obtain ⟨m', hm, w7⟩ := hN σ7 H7 n7
      refine ⟨m', hm, i + 1, σ7, H7, I7.unpinned, T.keep _ _ _ st5 fun b hb o e => (I7.pin (b, o) (List.mem_append_right _ (List.mem_append_right _ (mem_pinsAt hb e)))).1, fun b hb => ?_, w7⟩
      obtain ⟨o, e, d⟩ := T.obj _ _ st5 b hb
      exact (I7.pin (b, o) (List.mem_append_right _ (List.mem_append_right _ (mem_pinsAt hb e)))).2.1
    cases f with
    | next => obtain ⟨σ7, H7, I7, n7⟩ := q7; exact again I7 n7
    | cont => obtain ⟨σ7, H7, I7, n7⟩ := q7; exact again I7 n7
    | brk => obtain ⟨σ7, H7, I7, q7⟩ := q7; exact ⟨σ7, H7, I7.unpinned, q7⟩
    | ret v => obtain ⟨x7, σ7, H7, I7, r7, q7⟩ := q7; exact ⟨x7, σ7, H7, I7.unpinned, r7, q7⟩
end
theorem for_list {K : PySem.W.Frag} {a : Addr} {xs : List V} {g : TG} {tb : TS} {D : Ends} {σ : St} {H : Hp} (Pv : Nat → St → Hp → Prop) (h0 : Pv 0 σ H) (hl : ∀ i σ H, i ≤ xs.length → Pv i σ H → SqL K H a xs)
    (hs : ∀ i x σ H, xs[i]? = some x → Pv i σ H → g x σ H fun σ2 H2 => tb { D with nx := Pv (i + 1), ct := Pv (i + 1), bk := D.nx } σ2 H2) (hd : ∀ σ H, Pv xs.length σ H → D.nx σ H) :
    ∃ W : Nat → Nat → St → Hp → Prop, (∃ m, W 0 m σ H) ∧ ∀ i m σ H, W i m σ H →
      ((Itl K a).stop i H ∧ D.nx σ H) ∨ ((Itl K a).go i H ∧ ∃ N : St → Hp → Prop, (∀ σ' H', N σ' H' → ∃ m', m' < m ∧ W (i + 1) m' σ' H') ∧ ∀ x H', (Itl K a).yld i H x H' → g x σ H' fun σ2 H2 => tb { D with nx := N, ct := N, bk := D.nx } σ2 H2) := by
  refine ⟨fun i m σ H => m = xs.length - i ∧ i ≤ xs.length ∧ Pv i σ H, ⟨xs.length, by simp, Nat.zero_le _, h0⟩, ?_⟩
  rintro i m σ H ⟨rfl, hi, p⟩
  have q := hl i σ H hi p
  by_cases hlt : i < xs.length
  · refine .inr ⟨⟨xs, xs[i], q, by simp [hlt]⟩, Pv (i + 1), fun σ' H' p' => ⟨xs.length - (i + 1), by omega, rfl, hlt, p'⟩, fun x H' y => ?_⟩
    obtain ⟨e, y⟩ := y
    subst e
    exact hs i x σ _ (y xs q) p
  · have e : i = xs.length := by omega
    subst e
    exact .inl ⟨⟨xs, q, Nat.le_refl _⟩, hd σ H p⟩
theorem for_tup {K : PySem.W.Frag} {a : Addr} {xs : List V} {g : TG} {tb : TS} {D : Ends} {σ : St} {H : Hp} (Pv : Nat → St → Hp → Prop) (h0 : Pv 0 σ H) (hl : ∀ i σ H, i ≤ xs.length → Pv i σ H → SqT K H a xs)
    (hs : ∀ i x σ H, xs[i]? = some x → Pv i σ H → g x σ H fun σ2 H2 => tb { D with nx := Pv (i + 1), ct := Pv (i + 1), bk := D.nx } σ2 H2) (hd : ∀ σ H, Pv xs.length σ H → D.nx σ H) :
    ∃ W : Nat → Nat → St → Hp → Prop, (∃ m, W 0 m σ H) ∧ ∀ i m σ H, W i m σ H →
      ((Itt K a).stop i H ∧ D.nx σ H) ∨ ((Itt K a).go i H ∧ ∃ N : St → Hp → Prop, (∀ σ' H', N σ' H' → ∃ m', m' < m ∧ W (i + 1) m' σ' H') ∧ ∀ x H', (Itt K a).yld i H x H' → g x σ H' fun σ2 H2 => tb { D with nx := N, ct := N, bk := D.nx } σ2 H2) := by
  refine ⟨fun i m σ H => m = xs.length - i ∧ i ≤ xs.length ∧ Pv i σ H, ⟨xs.length, by simp, Nat.zero_le _, h0⟩, ?_⟩
  rintro i m σ H ⟨rfl, hi, p⟩
  have q := hl i σ H hi p
  by_cases hlt : i < xs.length
  · refine .inr ⟨⟨xs, xs[i], q, by simp [hlt]⟩, Pv (i + 1), fun σ' H' p' => ⟨xs.length - (i + 1), by omega, rfl, hlt, p'⟩, fun x H' y => ?_⟩
    obtain ⟨e, y⟩ := y
    subst e
    exact hs i x σ _ (y xs q) p
  · have e : i = xs.length := by omega
    subst e
    exact .inl ⟨⟨xs, q, Nat.le_refl _⟩, hd σ H p⟩
theorem for_range {lo : Int} {n : Nat} {g : TG} {tb : TS} {D : Ends} {σ : St} {H : Hp} (Pv : Nat → St → Hp → Prop) (h0 : Pv 0 σ H)
    (hs : ∀ i σ H, i < n → Pv i σ H → g (.int (lo + i)) σ H fun σ2 H2 => tb { D with nx := Pv (i + 1), ct := Pv (i + 1), bk := D.nx } σ2 H2) (hd : ∀ σ H, Pv n σ H → D.nx σ H) :
    ∃ W : Nat → Nat → St → Hp → Prop, (∃ m, W 0 m σ H) ∧ ∀ i m σ H, W i m σ H →
      ((Itr lo n).stop i H ∧ D.nx σ H) ∨ ((Itr lo n).go i H ∧ ∃ N : St → Hp → Prop, (∀ σ' H', N σ' H' → ∃ m', m' < m ∧ W (i + 1) m' σ' H') ∧ ∀ x H', (Itr lo n).yld i H x H' → g x σ H' fun σ2 H2 => tb { D with nx := N, ct := N, bk := D.nx } σ2 H2) := by
  refine ⟨fun i m σ H => m = n - i ∧ i ≤ n ∧ Pv i σ H, ⟨n, by simp, Nat.zero_le _, h0⟩, ?_⟩
  rintro i m σ H ⟨rfl, hi, p⟩
  by_cases hlt : i < n
  · refine .inr ⟨hlt, Pv (i + 1), fun σ' H' p' => ⟨n - (i + 1), by omega, rfl, hlt, p'⟩, fun x H' y => ?_⟩
    obtain ⟨e, y⟩ := y
    subst e y
    exact hs i σ _ hlt p
  · have e : i = n := by omega
    subst e
    exact .inl ⟨Nat.le_refl _, hd σ H p⟩
end L2
namespace L2
open PySem PySem.Spec PyProof.Rows
abbrev R2 := V → V → Hp → VK → Prop
def OpR (X : Cx) (f : Value → Value → Sem Value) (r : R2) : Prop :=
  ∀ (pins : List (Addr × Obj)) (s : Shared) (σ : St) (H : Hp) (x y : V) (v u : Value) (Q : VK), Inv X pins σ H s → RelV x v → RelV y u → r x y H Q →
    wpAny (model X.prog X.w) X.A (f v u) (EP X pins σ Q) X.xe s
def UnR (X : Cx) (f : Value → Sem Value) (r : V → Hp → VK → Prop) : Prop :=
  ∀ (pins : List (Addr × Obj)) (s : Shared) (σ : St) (H : Hp) (x : V) (v : Value) (Q : VK), Inv X pins σ H s → RelV x v → r x H Q →
    wpAny (model X.prog X.w) X.A (f v) (EP X pins σ Q) X.xe s
def CallR (X : Cx) (f : Value) (r : List V → Hp → VK → Prop) : Prop :=
  ∀ (pins : List (Addr × Obj)) (s : Shared) (σ : St) (H : Hp) (xs : List V) (us : List Value) (Q : VK), Inv X pins σ H s → Vals xs us → r xs H Q →
    wpAny (model X.prog X.w) X.A (call f us) (EP X pins σ Q) X.xe s
def TruR (X : Cx) (r : V → Hp → (Bool → Hp → Prop) → Prop) : Prop :=
  ∀ (pins : List (Addr × Obj)) (s : Shared) (σ : St) (H : Hp) (x : V) (v : Value) (Q : Bool → Hp → Prop), Inv X pins σ H s → RelV x v → r x H Q →
    wpAny (model X.prog X.w) X.A (truthy v) (TP X pins σ Q) X.xe s
def tOp (r : R2) (ta tb : TE) : TE := fun σ H Q => ta σ H fun x H1 => tb σ H1 fun y H2 => r x y H2 Q
def tUn (r : V → Hp → VK → Prop) (ta : TE) : TE := fun σ H Q => ta σ H fun x H1 => r x H1 Q
def rI (C : Int → Int → Prop) (g : Int → Int → V) : R2 := fun x y H Q => ∃ i j, x = .int i ∧ y = .int j ∧ C i j ∧ Q (g i j) H
def rI0 (g : Int → Int → V) : R2 := fun x y H Q => ∃ i j, x = .int i ∧ y = .int j ∧ Q (g i j) H
def rU (g : Int → V) : V → Hp → VK → Prop := fun x H Q => ∃ i, x = .int i ∧ Q (g i) H
section
variable {X : Cx} {a b c : Expr} {ta tb tc : TE} {pos : Pos}
theorem binT (ha : PE X a ta) (hb : PE X b tb) {pins : List (Addr × Obj)} {s : Shared} {σ : St} {H : Hp} {R : V → V → Hp → Prop} (I : Inv X pins σ H s)
    (h : ta σ H fun x H1 => tb σ H1 fun y H2 => R x y H2) {Q : Value → Shared → Prop} {f : Value → Value → Sem Value}
    (hf : ∀ v u s2 x y H2, Inv X pins σ H2 s2 → RelV x v → RelV y u → R x y H2 → wpAny (model X.prog X.w) X.A (f v u) Q X.xe s2) :
    wpAny (model X.prog X.w) X.A (eval a X.env) (fun v s₁ => wpAny (model X.prog X.w) X.A (eval b X.env) (fun u s₂ => wpAny (model X.prog X.w) X.A (f v u) Q X.xe s₂) X.xe s₁) X.xe s := by
  refine thn (ha pins s σ H _ I h) fun v s1 ⟨x, H1, I1, r1, q1⟩ => ?_
  refine thn (hb pins s1 σ H1 _ I1 q1) fun u s2 ⟨y, H2, I2, r2, q2⟩ => ?_
  exact hf v u s2 x y H2 I2 r1 r2 q2
theorem pe_op {op : Operator} {r : R2} (ho : OpR X (binaryOp op) r) (ha : PE X a ta) (hb : PE X b tb) : PE X (.BinOp a op b pos) (tOp r ta tb) := by
  intro pins s σ H Q I h
  exact wpAny_BinOp (binT ha hb I h fun v u s2 x y H2 I2 rx ry q => ho pins s2 σ H2 x y v u Q I2 rx ry q)
theorem pe_un {op : UnaryOp} {r : V → Hp → VK → Prop} (ho : UnR X (unaryOp op) r) (ha : PE X a ta) : PE X (.UnaryOp op a pos) (tUn r ta) := by
  intro pins s σ H Q I h
  exact UnaryOp_ (thn (ha pins s σ H _ I h) fun v s1 ⟨x, H1, I1, r1, q1⟩ => ho pins s1 σ H1 x v Q I1 r1 q1)
theorem opI {f : Value → Value → Sem Value} {C : Int → Int → Prop} {g : Int → Int → Int}
    (rule : ∀ (i j : Int) (t u : Tok) (s : Shared) (Q : Value → Shared → Prop) (E : Value → Shared → Prop), C i j → Q (.int (g i j) s.toks) { s with toks := s.toks + 1 } → wpAny (model X.prog X.w) X.A (f (.int i t) (.int j u)) Q E s) :
    OpR X f (rI C fun i j => .int (g i j)) := by
  intro pins s σ H x y v u Q I rx ry h
  obtain ⟨i, j, rfl, rfl, hc, q⟩ := h
  obtain ⟨t, rfl⟩ := rx
  obtain ⟨t', rfl⟩ := ry
  exact rule i j t t' s _ _ hc ⟨.int (g i j), H, I.tok _, ⟨_, rfl⟩, q⟩
theorem opI0 {f : Value → Value → Sem Value} {g : Int → Int → Int}
    (rule : ∀ (i j : Int) (t u : Tok) (s : Shared) (Q : Value → Shared → Prop) (E : Value → Shared → Prop), Q (.int (g i j) s.toks) { s with toks := s.toks + 1 } → wpAny (model X.prog X.w) X.A (f (.int i t) (.int j u)) Q E s) :
    OpR X f (rI0 fun i j => .int (g i j)) := by
  intro pins s σ H x y v u Q I rx ry h
  obtain ⟨i, j, rfl, rfl, q⟩ := h
  obtain ⟨t, rfl⟩ := rx
  obtain ⟨t', rfl⟩ := ry
  exact rule i j t t' s _ _ ⟨.int (g i j), H, I.tok _, ⟨_, rfl⟩, q⟩
theorem opB0 {f : Value → Value → Sem Value} {g : Int → Int → Bool}
    (rule : ∀ (i j : Int) (t u : Tok) (s : Shared) (Q : Value → Shared → Prop) (E : Value → Shared → Prop), Q (.bool (g i j)) s → wpAny (model X.prog X.w) X.A (f (.int i t) (.int j u)) Q E s) :
    OpR X f (rI0 fun i j => .bl (g i j)) := by
  intro pins s σ H x y v u Q I rx ry h
  obtain ⟨i, j, rfl, rfl, q⟩ := h
  obtain ⟨t, rfl⟩ := rx
  obtain ⟨t', rfl⟩ := ry
  exact rule i j t t' s _ _ ⟨.bl (g i j), H, I, rfl, q⟩
def CPow (i j : Int) : Prop := 0 ≤ j ∧ j ≤ 1000000 ∧ i.natAbs < 2 ^ 64
def CMul (i j : Int) : Prop := (-(2 ^ 64) < i ∧ i < 2 ^ 64) ∨ (-(2 ^ 64) < j ∧ j < 2 ^ 64)
theorem CMul.ok {i j : Int} (h : CMul i j) : IntMulOk i j := by
  rcases h with ⟨h1, h2⟩ | ⟨h1, h2⟩
  · exact .of_left (intBits_le_64 h1 h2)
  · exact .of_right (intBits_le_64 h1 h2)
theorem op_add : OpR X (binaryOp .Add) (rI0 fun i j => .int (i + j)) := opI0 fun _ _ _ _ _ _ _ q => add_int q
theorem op_sub : OpR X (binaryOp .Sub) (rI0 fun i j => .int (i - j)) := opI0 fun _ _ _ _ _ _ _ q => sub_int q
theorem op_mul : OpR X (binaryOp .Mult) (rI CMul fun i j => .int (i * j)) := opI fun _ _ _ _ _ _ _ hc q => mul_int q hc.ok
theorem op_mod : OpR X (binaryOp .Mod) (rI (fun _ j => 0 < j) fun i j => .int (i % j)) := opI fun i j _ _ _ _ _ hc q => by
  have h1 : (0 : Int) < j := hc
  exact mod_int' (by omega) (by rw [Int.fmod_eq_emod_of_nonneg i (by omega)]; exact q)
theorem op_pow : OpR X (binaryOp .Pow) (rI CPow fun i j => .int (i ^ j.toNat)) := opI fun _ _ _ _ _ _ _ hc q => pow_int_small hc.1 hc.2.1 hc.2.2 q
theorem unI {f : Value → Sem Value} {g : Int → Int}
    (rule : ∀ (i : Int) (t : Tok) (s : Shared) (Q : Value → Shared → Prop) (E : Value → Shared → Prop), Q (.int (g i) s.toks) { s with toks := s.toks + 1 } → wpAny (model X.prog X.w) X.A (f (.int i t)) Q E s) :
    UnR X f (rU fun i => .int (g i)) := by
  intro pins s σ H x v Q I rx h
  obtain ⟨i, rfl, q⟩ := h
  obtain ⟨t, rfl⟩ := rx
  exact rule i t s _ _ ⟨.int (g i), H, I.tok _, ⟨_, rfl⟩, q⟩
theorem un_neg : UnR X (unaryOp .USub) (rU fun i => .int (-i)) := unI fun _ _ _ _ _ q => neg_int q
end
def scal : V → V → Bool
  | .non, .non => true | .non, .int _ => true | .int _, .non => true | .non, .bl _ => true | .bl _, .non => true | .non, .str _ => true | .str _, .non => true
  | .int _, .int _ => true | .bl _, .bl _ => true | .str _, .str _ => true | .byt _, .byt _ => true
  | .int _, .str _ => true | .str _, .int _ => true | .bl _, .str _ => true | .str _, .bl _ => true
  | _, _ => false
def rEq : R2 := fun x y H Q => scal x y = true ∧ Q (.bl (decide (x = y))) H
def rNe : R2 := fun x y H Q => scal x y = true ∧ Q (.bl (!decide (x = y))) H
theorem dec_int {i j : Int} : decide (V.int i = V.int j) = (i == j) := by
  rw [Bool.eq_iff_iff]
  simp
theorem dec_bl {i j : Bool} : decide (V.bl i = V.bl j) = (i == j) := by
  rw [Bool.eq_iff_iff]
  simp
theorem dec_str {i j : Str} : decide (V.str i = V.str j) = (i == j) := by
  rw [Bool.eq_iff_iff]
  simp
theorem dec_byt {i j : Array UInt8} : decide (V.byt i = V.byt j) = (i.toList == j.toList) := by
  rw [Bool.eq_iff_iff]
  cases i
  cases j
  simp
section
variable {X : Cx} {a b c : Expr} {ta tb tc : TE} {pos : Pos}
theorem fin_bl {pins : List (Addr × Obj)} {σ : St} {H : Hp} {s : Shared} {Q : VK} {k k' : Bool} (I : Inv X pins σ H s) (q : Q (.bl k) H) (e : k = k') : EP X pins σ Q (.bool k') s := by
  subst e
  exact ⟨.bl k, H, I, rfl, q⟩
theorem op_eq : OpR X (compareOp .Eq) rEq := by
  intro pins s σ H x y v u Q I rx ry h
  obtain ⟨hs, q⟩ := h
  cases x with
  | non =>
    cases rx
    cases y with
    | non => cases ry; exact PySem.EqNone.eq_none_none (fin_bl I q (by simp))
    | bl j => cases ry; exact PySem.EqNone.eq_none_bool (fin_bl I q (by simp))
    | int j => obtain ⟨t', rfl⟩ := ry; exact PySem.EqNone.eq_none_int (fin_bl I q (by simp))
    | str j => obtain ⟨t', rfl⟩ := ry; exact PySem.EqNone.eq_none_str (fin_bl I q (by simp))
    | _ => exact absurd (show false = true from hs) Bool.false_ne_true
  | bl i =>
    cases rx
    cases y with
    | non => cases ry; exact PySem.EqNone.eq_bool_none (fin_bl I q (by simp))
    | bl j => cases ry; exact eq_bool (fin_bl I q dec_bl)
    | str j => obtain ⟨t', rfl⟩ := ry; exact PySem.EqMixed.eq_bool_str (fin_bl I q (by simp))
    | _ => exact absurd (show false = true from hs) Bool.false_ne_true
  | int i =>
    obtain ⟨t, rfl⟩ := rx
    cases y with
    | non => cases ry; exact PySem.EqNone.eq_int_none (fin_bl I q (by simp))
    | int j => obtain ⟨t', rfl⟩ := ry; exact eq_int (fin_bl I q dec_int)
    | str j => obtain ⟨t', rfl⟩ := ry; exact PySem.EqMixed.eq_int_str (fin_bl I q (by simp))
    | _ => exact absurd (show false = true from hs) Bool.false_ne_true
  | str i =>
    obtain ⟨t, rfl⟩ := rx
    cases y with
    | non => cases ry; exact PySem.EqNone.eq_str_none (fin_bl I q (by simp))
    | bl j => cases ry; exact PySem.EqMixed.eq_str_bool (fin_bl I q (by simp))
    | int j => obtain ⟨t', rfl⟩ := ry; exact PySem.EqMixed.eq_str_int (fin_bl I q (by simp))
    | str j => obtain ⟨t', rfl⟩ := ry; exact eq_str (fin_bl I q dec_str)
    | _ => exact absurd (show false = true from hs) Bool.false_ne_true
  | byt i =>
    obtain ⟨t, rfl⟩ := rx
    cases y with
    | byt j => obtain ⟨t', rfl⟩ := ry; exact PySem.W.eq_bytes (fin_bl I q dec_byt)
    | _ => exact absurd (show false = true from hs) Bool.false_ne_true
  | _ => cases y <;> exact absurd (show false = true from hs) Bool.false_ne_true
theorem op_ne : OpR X (compareOp .NotEq) rNe := by
  intro pins s σ H x y v u Q I rx ry h
  obtain ⟨hs, q⟩ := h
  cases x with
  | non =>
    cases rx
    cases y with
    | non => cases ry; exact PySem.EqNone.ne_none_none (fin_bl I q (by simp))
    | bl j => cases ry; exact PySem.EqNone.ne_none_bool (fin_bl I q (by simp))
    | int j => obtain ⟨t', rfl⟩ := ry; exact PySem.EqNone.ne_none_int (fin_bl I q (by simp))
    | str j => obtain ⟨t', rfl⟩ := ry; exact PySem.EqNone.ne_none_str (fin_bl I q (by simp))
    | _ => exact absurd (show false = true from hs) Bool.false_ne_true
  | bl i =>
    cases rx
    cases y with
    | non => cases ry; exact PySem.EqNone.ne_bool_none (fin_bl I q (by simp))
    | bl j => cases ry; exact ne_bool (fin_bl I q (congrArg not dec_bl))
    | str j => obtain ⟨t', rfl⟩ := ry; exact PySem.EqMixed.ne_bool_str (fin_bl I q (by simp))
    | _ => exact absurd (show false = true from hs) Bool.false_ne_true
  | int i =>
    obtain ⟨t, rfl⟩ := rx
    cases y with
    | non => cases ry; exact PySem.EqNone.ne_int_none (fin_bl I q (by simp))
    | int j => obtain ⟨t', rfl⟩ := ry; exact ne_int (fin_bl I q (congrArg not dec_int))
    | str j => obtain ⟨t', rfl⟩ := ry; exact PySem.EqMixed.ne_int_str (fin_bl I q (by simp))
    | _ => exact absurd (show false = true from hs) Bool.false_ne_true
  | str i =>
    obtain ⟨t, rfl⟩ := rx
    cases y with
    | non => cases ry; exact PySem.EqNone.ne_str_none (fin_bl I q (by simp))
    | bl j => cases ry; exact PySem.EqMixed.ne_str_bool (fin_bl I q (by simp))
    | int j => obtain ⟨t', rfl⟩ := ry; exact PySem.EqMixed.ne_str_int (fin_bl I q (by simp))
    | str j => obtain ⟨t', rfl⟩ := ry; exact ne_str (fin_bl I q (congrArg not dec_str))
    | _ => exact absurd (show false = true from hs) Bool.false_ne_true
  | byt i =>
    obtain ⟨t, rfl⟩ := rx
    cases y with
    | byt j => obtain ⟨t', rfl⟩ := ry; exact PySem.W.ne_bytes (fin_bl I q (congrArg not dec_byt))
    | _ => exact absurd (show false = true from hs) Bool.false_ne_true
  | _ => cases y <;> exact absurd (show false = true from hs) Bool.false_ne_true
theorem op_lt : OpR X (compareOp .Lt) (rI0 fun i j => .bl (decide (i < j))) := opB0 fun _ _ _ _ _ _ _ q => lt_int q
theorem op_le : OpR X (compareOp .LtE) (rI0 fun i j => .bl (decide (i ≤ j))) := opB0 fun _ _ _ _ _ _ _ q => le_int q
theorem op_gt : OpR X (compareOp .Gt) (rI0 fun i j => .bl (decide (j < i))) := opB0 fun _ _ _ _ _ _ _ q => gt_int q
theorem op_ge : OpR X (compareOp .GtE) (rI0 fun i j => .bl (decide (j ≤ i))) := opB0 fun _ _ _ _ _ _ _ q => ge_int q
theorem op_isN : OpR X (compareOp .Is) (fun x y H Q => y = .non ∧ Q (.bl (decide (x = .non))) H) := by
  intro pins s σ H x y v u Q I rx ry h
  obtain ⟨rfl, q⟩ := h
  cases ry
  refine is_none_gen (fin_bl I q ?_)
  cases x <;> first
    | (cases rx; rfl)
    | (obtain ⟨t, rfl⟩ := rx; rfl)
theorem nomark (b : Expr) {op : CmpOp} (h : op ≠ .In := by decide) (h2 : op ≠ .NotIn := by decide) : behindInMarks op b = false := by
  have e1 : (op == CmpOp.In) = false := by cases op <;> first | rfl | exact absurd rfl h
  have e2 : (op == CmpOp.NotIn) = false := by cases op <;> first | rfl | exact absurd rfl h2
  cases b <;> simp [behindInMarks, e1, e2]
theorem pe_cmpR {op : CmpOp} {r : R2} (ho : OpR X (compareOp op) r) (ha : PE X a ta) (hb : PE X b tb) (hm : behindInMarks op b = false) : PE X (.Compare a [op] [b] pos) (tOp r ta tb) := by
  intro pins s σ H Q I h
  exact wpAny_Compare1 (binT ha hb I h fun v u s2 x y H2 I2 rx ry q => ho pins s2 σ H2 x y v u Q I2 rx ry q) hm
def tTest (t : TE) : TT := fun σ H Q => t σ H fun x H' => ∃ k, x = .bl k ∧ Q k H'
theorem pt_cmpR {op : CmpOp} {r : R2} (ho : OpR X (compareOp op) r) (ha : PE X a ta) (hb : PE X b tb) (hm : behindInMarks op b = false) : PT X (.Compare a [op] [b] pos) (tTest (tOp r ta tb)) := by
  intro pins s σ H Q I h
  refine wpAny_isTrue_Compare1 (thn (ha pins s σ H _ I h) fun v s1 ⟨x, H1, I1, r1, q1⟩ => thn (hb pins s1 σ H1 _ I1 q1) fun u s2 ⟨y, H2, I2, r2, q2⟩ =>
    thn (ho pins s2 σ H2 x y v u _ I2 r1 r2 q2) fun c s3 ⟨z, H3, I3, r3, k, e, q3⟩ => ?_) hm
  subst e
  cases r3
  exact wpAny_truthy_bool ⟨H3, I3, q3⟩
def tChain (r r' : R2) (ta tb tc : TE) : TE := fun σ H Q => ta σ H fun x H1 => tb σ H1 fun y H2 => r x y H2 fun z H3 => ∃ k, z = .bl k ∧
  (if k = true then tc σ H3 fun w' H4 => r' y w' H4 Q else Q (.bl false) H3)
theorem pe_chain {op op' : CmpOp} {r r' : R2} (ho : OpR X (compareOp op) r) (ho' : OpR X (compareOp op') r') (ha : PE X a ta) (hb : PE X b tb) (hc : PE X c tc)
    (hm : lastMarks [op, op'] [b, c] = false := by with_unfolding_all rfl) : PE X (.Compare a [op, op'] [b, c] pos) (tChain r r' ta tb tc) := by
  intro pins s σ H Q I h
  refine Compare_chain (thn (ha pins s σ H _ I h) fun v s1 ⟨x, H1, I1, r1, q1⟩ => chain_link (thn (hb pins s1 σ H1 _ I1 q1) fun u s2 ⟨y, H2, I2, r2, q2⟩ =>
    thn (ho pins s2 σ H2 x y v u _ I2 r1 r2 q2) fun d s3 ⟨z, H3, I3, r3, k, e, q3⟩ => ?_)) hm
  subst e
  cases r3
  refine wpAny_truthy_bool ?_
  cases k with
  | false => exact ite_ff ⟨.bl false, H3, I3, rfl, q3⟩
  | true => exact ite_tt (chain_last (thn (hc pins s3 σ H3 _ I3 q3) fun w' s4 ⟨z', H4, I4, r4, q4⟩ => ho' pins s4 σ H4 y z' u w' Q I4 r2 r4 q4))
theorem pt_chain {op op' : CmpOp} {r r' : R2} (ho : OpR X (compareOp op) r) (ho' : OpR X (compareOp op') r') (ha : PE X a ta) (hb : PE X b tb) (hc : PE X c tc)
    (hm : lastMarks [op, op'] [b, c] = false := by with_unfolding_all rfl) : PT X (.Compare a [op, op'] [b, c] pos) (tTest (tChain r r' ta tb tc)) := by
  intro pins s σ H Q I h
  refine isTrue_chain (thn (ha pins s σ H _ I h) fun v s1 ⟨x, H1, I1, r1, q1⟩ => test_link (thn (hb pins s1 σ H1 _ I1 q1) fun u s2 ⟨y, H2, I2, r2, q2⟩ =>
    thn (ho pins s2 σ H2 x y v u _ I2 r1 r2 q2) fun d s3 ⟨z, H3, I3, r3, k, e, q3⟩ => ?_)) hm
  subst e
  cases r3
  refine wpAny_truthy_bool ?_
  cases k with
  | false =>
    obtain ⟨k', e', q'⟩ := q3
    cases e'
    exact ite_ff ⟨H3, I3, q'⟩
  | true =>
    refine ite_tt (test_last (thn (hc pins s3 σ H3 _ I3 q3) fun w' s4 ⟨z', H4, I4, r4, q4⟩ => thn (ho' pins s4 σ H4 y z' u w' _ I4 r2 r4 q4) fun d' s5 ⟨z2, H5, I5, r5, k2, e2, q5⟩ => ?_))
    subst e2
    cases r5
    exact wpAny_truthy_bool ⟨H5, I5, q5⟩
def TruV (K : PySem.W.Frag) (x : V) (H : Hp) (k : Bool) : Prop :=
  match x with
  | .non => k = false
  | .bl b => k = b
  | .int i => k = (i != 0)
  | .str y => y.length ≤ sizeLine ∧ k = ((y.length : Int) != 0)
  | .byt y => y.size ≤ sizeLine ∧ k = ((y.size : Int) != 0)
  | .ref p => (∃ xs, SqL K H p xs ∧ k = !xs.isEmpty) ∨ (∃ xs, SqT K H p xs ∧ k = !xs.isEmpty) ∨ ∃ kvs, H p = some (.dK kvs) ∧ k = !kvs.isEmpty
  | _ => False
theorem isEmpty_kv {κ : Type} {kvs : List (κ × V)} {vs : List (κ × Value)} (r : KV kvs vs) : (!vs.isEmpty) = !kvs.isEmpty := by
  cases r <;> rfl
theorem isEmpty_of {xs : List V} {its : List Value} (r : Vals xs its) : (!its.toArray.isEmpty) = !xs.isEmpty := by
  cases r <;> simp
theorem line63 : (sizeLine : Nat) < 2 ^ 63 := by rw [sizeLine_eq]; decide
theorem tru_ok : TruR X (fun x H Q => ∃ k, TruV X.K x H k ∧ Q k H) := by
  intro pins s σ H x v Q I rx h
  obtain ⟨k, e, q⟩ := h
  have hl := line63
  have hs : sizeLine = 16777216 := sizeLine_eq
  cases x with
  | non =>
    cases rx
    have e' : k = false := e
    subst e'
    exact truthy_none ⟨H, I, q⟩
  | bl b =>
    cases rx
    have e' : k = b := e
    subst e'
    exact wpAny_truthy_bool ⟨H, I, q⟩
  | int i =>
    obtain ⟨t, rfl⟩ := rx
    have e' : k = (i != 0) := e
    subst e'
    exact PySem.P.truthy_int ⟨H, I, q⟩
  | str y =>
    obtain ⟨t, rfl⟩ := rx
    obtain ⟨hy, e'⟩ : y.length ≤ sizeLine ∧ k = ((y.length : Int) != 0) := e
    subst e'
    exact PySem.P.truthy_str (by omega) ⟨H, I.tok _, q⟩
  | byt y =>
    obtain ⟨t, rfl⟩ := rx
    obtain ⟨hy, e'⟩ : y.size ≤ sizeLine ∧ k = ((y.size : Int) != 0) := e
    subst e'
    exact PySem.W.truthy_bytes (by omega) ⟨H, I.tok _, q⟩
  | ref p =>
    cases rx
    have e' : (∃ xs, SqL X.K H p xs ∧ k = !xs.isEmpty) ∨ (∃ xs, SqT X.K H p xs ∧ k = !xs.isEmpty) ∨ ∃ kvs, H p = some (.dK kvs) ∧ k = !kvs.isEmpty := e
    rcases e' with ⟨xs, hx, e'⟩ | ⟨xs, hx, e'⟩ | ⟨kvs, hx, e'⟩
    · subst e'
      obtain ⟨its, r, pl, hz⟩ := I.list hx
      have hlen := r.length
      exact wpAny_truthy_list pl.isList (by simp only [List.size_toArray]; omega) ⟨H, I.tok _, by rw [isEmpty_of r]; exact q⟩
    · subst e'
      obtain ⟨its, r, pl, hz⟩ := I.tuple hx
      have hlen := r.length
      exact truthy_tuple pl (by simp only [List.size_toArray]; omega) ⟨H, I.tok _, by rw [isEmpty_of r]; exact q⟩
    · subst e'
      obtain ⟨hz, hS, vs, r, m⟩ : kvs.length ≤ sizeLine ∧ (p == sysModules) = false ∧ ∃ vs, KV kvs vs ∧ s.heap.DictOf (mixKind X.prog X.w) p vs := I.hok p _ hx
      have hlen : kvs.length = vs.length := Paired.length r
      exact wpAny_truthy_dict hS m (by omega) ⟨H, I.tok _, by rw [isEmpty_kv r]; exact q⟩
  | _ => exact (show False from e).elim
theorem pt_truth (ha : PE X a ta) (he : ∀ whole, isTrue a X.env whole = (do let v ← whole; standAt a.pos; holding [v] (truthy v))) :
    PT X a (fun σ H Q => ta σ H fun x H' => ∃ k, TruV X.K x H' k ∧ Q k H') := by
  intro pins s σ H Q I h
  exact isTrue_plain (thn (ha pins s σ H _ I h) fun v s1 ⟨x, H1, I1, r1, q1⟩ => tru_ok pins s1 σ H1 x v Q I1 r1 q1) (he _)
theorem op_add_str : OpR X (binaryOp .Add) (fun x y H Q => ∃ i j, x = .str i ∧ y = .str j ∧ i.length + j.length ≤ sizeLine ∧ Q (.str (i ++ j)) H) := by
  intro pins s σ H x y v u Q I rx ry h
  obtain ⟨i, j, rfl, rfl, hz, q⟩ := h
  obtain ⟨t, rfl⟩ := rx
  obtain ⟨t', rfl⟩ := ry
  exact add_str (fun t' tk => ⟨.str (i ++ j), H, I.tok _, ⟨_, rfl⟩, q⟩) hz
theorem vals1 {x : V} {us : List Value} (r : Vals [x] us) : ∃ u, us = [u] ∧ RelV x u := by
  cases r with
  | cons r1 r2 => cases r2; exact ⟨_, rfl, r1⟩
theorem vals2 {x y : V} {us : List Value} (r : Vals [x, y] us) : ∃ u w', us = [u, w'] ∧ RelV x u ∧ RelV y w' := by
  cases r with
  | cons r1 r2 =>
    cases r2 with
    | cons r3 r4 => cases r4; exact ⟨_, _, rfl, r1, r3⟩
theorem call_max2 (hc : X.calm = true) : CallR X (.builtin "max") (fun xs H Q => ∃ i j, xs = [.int i, .int j] ∧ Q (.int (if j > i then j else i)) H) := by
  intro pins s σ H xs us Q I r h
  obtain ⟨i, j, rfl, q⟩ := h
  obtain ⟨u, w', rfl, ⟨t, rfl⟩, ⟨t', rfl⟩⟩ := vals2 r
  refine max_two_ints (I.ok.hd hc) fun h' tk k => ⟨_, H, I.kept k, ?_, q⟩
  by_cases hj : j > i
  · rw [if_pos hj, if_pos hj]; exact ⟨_, rfl⟩
  · rw [if_neg hj, if_neg hj]; exact ⟨_, rfl⟩
theorem call_min2 (hc : X.calm = true) : CallR X (.builtin "min") (fun xs H Q => ∃ i j, xs = [.int i, .int j] ∧ Q (.int (if j < i then j else i)) H) := by
  intro pins s σ H xs us Q I r h
  obtain ⟨i, j, rfl, q⟩ := h
  obtain ⟨u, w', rfl, ⟨t, rfl⟩, ⟨t', rfl⟩⟩ := vals2 r
  refine min_two_ints (I.ok.hd hc) fun h' tk k => ⟨_, H, I.kept k, ?_, q⟩
  by_cases hj : j < i
  · rw [if_pos hj, if_pos hj]; exact ⟨_, rfl⟩
  · rw [if_neg hj, if_neg hj]; exact ⟨_, rfl⟩
theorem call_int1 : CallR X (.type "int") (fun xs H Q => (∃ i, xs = [.int i] ∧ Q (.int i) H) ∨ ∃ k, xs = [.bl k] ∧ Q (.int (if k then 1 else 0)) H) := by
  intro pins s σ H xs us Q I r h
  rcases h with ⟨i, rfl, q⟩ | ⟨k, rfl, q⟩
  · obtain ⟨u, rfl, t, rfl⟩ := vals1 r
    exact call_int_int ⟨.int i, H, I, ⟨_, rfl⟩, q⟩
  · obtain ⟨u, rfl, r1⟩ := vals1 r
    cases r1
    exact call_int_bool ⟨.int (if k then 1 else 0), H, I.tok _, ⟨_, rfl⟩, q⟩
theorem call_str_int : CallR X (.type "str") (fun xs H Q => ∃ i, xs = [.int i] ∧ i.natAbs.log2 < 1920 ∧ Q (.str (toString i)) H) := by
  intro pins s σ H xs us Q I r h
  obtain ⟨i, rfl, hz, q⟩ := h
  obtain ⟨u, rfl, t, rfl⟩ := vals1 r
  exact PySem.P.str_of_int hz ⟨.str _, H, I.tok _, ⟨_, rfl⟩, q⟩
end
end L2
namespace L2
open PySem PySem.Spec PyProof.Rows
structure ObjM (h : Heap) (x dx C : Addr) (mA : Str → Option Value) : Prop where
  obj : h.get? x = some (PySem.W.instObj C dx)
  ns : h.Ns1 dx mA
  ne : dx ≠ x
theorem lookIn_ns {h : Heap} {dx : Addr} {mA : Str → Option Value} (n : h.Ns1 dx mA) : ∃ od, h.get? dx = some od ∧ ∀ name, PySem.W.lookIn name od = some (mA name) := by
  obtain ⟨o, es, ep, ho, hd, hk, _, hm⟩ := n
  refine ⟨o, ho, fun name => ?_⟩
  have e := hm name
  unfold nsFind findBy at e
  rw [← Array.find?_toList] at e
  unfold PySem.W.lookIn
  rw [hd]
  dsimp only
  split
  · rename_i y q
    rw [q] at e
    exact congrArg some e
  · rename_i q
    rw [q] at e
    have a : es.toList.any (·.refKey) = false := by
      rw [List.any_eq_false]
      intro y hy
      obtain ⟨z, t, hkey⟩ := hk y (Array.mem_toList_iff.mp hy)
      simp [DictEntry.refKey, hkey]
    have a' : ¬ es.toList.any (·.refKey) = true := by rw [a]; exact Bool.false_ne_true
    rw [if_neg a']
    exact congrArg some e
theorem ObjM.look {h : Heap} {x dx C : Addr} {mA : Str → Option Value} (I : ObjM h x dx C mA) : ∃ od, PySem.W.InstAt h x (PySem.W.instObj C dx) C (some od) ∧ ∀ name, PySem.W.lookIn name od = some (mA name) :=
  let ⟨od, ho, hl⟩ := lookIn_ns I.ns
  ⟨od, ⟨I.obj, rfl, rfl, ho⟩, hl⟩
section
variable {prog : Program} {w : World} {A : Around} {E : Value → Shared → Prop} {s : Shared} {K : PySem.W.Frag} {x dx C f : Addr} {mA : Str → Option Value} {name : Str} {v : Value}
theorem get_map {expr : Bool} {Q : Value → Shared → Prop} (X : K.In s.heap) (I : ObjM s.heap x dx C mA) (hg : PySem.W.plainGet K C name = true) (hh : PySem.W.hasDictIn K C = true)
    (ha : PySem.W.findIn K (.ref C) name = some none) (hv : mA name = some v) (hv' : PySem.W.handedIn v = true) (h : Q v { s with toks := s.toks + 1 }) :
    wpAny (model prog w) A (getAttr (.ref x) name expr) Q E s := by
  obtain ⟨od, J, hl⟩ := I.look
  exact PySem.W.get_value X J (PySem.W.plainGet_of hg).1 (PySem.W.findObj_own hh ha rfl (by rw [hl, hv])) hv' h
theorem get_meth {pl : Sem Bool} {Q : Value × List Value → Shared → Prop} (X : K.In s.heap) (I : ObjM s.heap x dx C mA) (hg : PySem.W.plainGet K C name = true)
    (hf : PySem.W.findIn K (.ref C) name = some (some (.ref f))) (ht : PySem.W.isFn K (.ref f) = true) (hv : mA name = none) (h : Q (.ref f, [.ref x]) s) :
    wpAny (model prog w) A (getMethod (.ref x) name pl) Q E s := by
  obtain ⟨od, J, hl⟩ := I.look
  exact PySem.W.method_fn X J (PySem.W.plainGet_of hg).1 (PySem.W.plainGet_of hg).2 hf (beq_iff_eq.mp ht) (by show (PySem.W.lookIn name od).map (·.isSome) = some false; rw [hl, hv]; rfl) h
theorem set_map {ns : List Str} {Q : Unit → Shared → Prop} (X : K.In s.heap) (I : ObjM s.heap x dx C mA)
    (hs : PySem.W.findIn K (.ref C) "__setattr__" = some (some (.builtin "object.__setattr__"))) (hp : PySem.W.plainOver K C = true) (ht : PySem.W.takerIn K C name = some none) (hh : PySem.W.hasDictIn K C = true)
    (hw : PySem.Within mA ns) (hsz : ns.length ≤ sizeLine)
    (h : ∀ h', ObjM h' x dx C (fun y => if y = name then some v else mA y) → Heap.SameBut dx s.heap h' → Q () { s with heap := h', toks := s.toks + 2 }) :
    wpAny (model prog w) A (setAttr (.ref x) name v) Q E s := by
  obtain ⟨od, J, hl⟩ := I.look
  refine PySem.W.set_plain X J hs (PySem.W.osa_open (s := { s with toks := s.toks + 1 }) (r := none) X J hp ht fun b => ?_)
  obtain ⟨cd, hc, hd'⟩ := PySem.W.any_some hh
  have hx : s.heap.get? x = some ⟨.ref C, some dx, .plain, #[]⟩ := I.obj
  refine wpAny_bind (wpAny_pure (wpAny_bind (wpAny_bind (wpAny_loadPart hx (wpAny_bind (PySem.W.Looks.here (s := { s with toks := s.toks + 1 }) (PySem.W.looks_clsIn X hc) ?_))))))
  rw [hd']
  refine wpAny_pure (a := some dx) (wpAny_bind (wpAny_pure (wpAny_bind ?_)))
  refine wpAny_nsSet1 (s := { s with toks := s.toks + 1 }) I.ns fun h' hn2 hs2 => ?_
  obtain ⟨oD, esD, epD, hoD, hdD, hcD⟩ := hn2.count (PySem.Within.cons name v hw)
  refine wpAny_bind (wpAny_lookBehind hoD (by rw [hdD]; exact pastItsLine_dict (Nat.le_trans hcD (by rw [List.length_cons]; omega))) ?_)
  exact wpAny_pure (h _ ⟨(hs2.2 _ (Ne.symm I.ne)).trans I.obj, hn2, I.ne⟩ hs2)
theorem make_map {R : Result → Shared → Prop} {vs : List Value} {kw : List (Str × Value)} (X : K.In s.heap) (hm : PySem.W.makesIn K C = true)
    (hi : PySem.W.findIn K (.ref C) "__init__" = some (some (.ref f))) (hf : PySem.W.typeIn K (.ref f) = some (.type "function"))
    (h : codeAny (model prog w) (A.under (.builtin "type.__call__" ⟨.ref C :: vs, kw⟩)) (.call (.ref f) ⟨.ref (s.heap.objs.size + 1) :: vs, kw⟩) (PySem.W.InitBack (s.heap.objs.size + 1) R)
      { s with heap := (s.heap.push PySem.W.emptyDict).push (PySem.W.instObj C s.heap.objs.size) }) :
    codeAny (model prog w) A (.call (.ref C) ⟨vs, kw⟩) R s := by
  obtain ⟨hh, g, d, t, os⟩ := s
  exact PySem.W.make_core (PySem.W.makes_of X hm) (PySem.W.looks_findIn X hi) (fun self => PySem.W.bind_fn X self hf) (.inl rfl) h
end
def putF (f : Str) (v : V) : List (Str × V) → List (Str × V)
  | [] => [(f, v)]
  | (g, x) :: r => if g = f then (g, v) :: r else (g, x) :: putF f v r
theorem lookup_putF (f g : Str) (v : V) : ∀ fs : List (Str × V), (putF f v fs).lookup g = if g = f then some v else fs.lookup g
  | [] => by
    show List.lookup g [(f, v)] = _
    by_cases h : g = f
    · have hb : (g == f) = true := beq_iff_eq.mpr h
      simp only [List.lookup, hb, if_pos h]
    · have hb : (g == f) = false := beq_eq_false_iff_ne.mpr h
      simp only [List.lookup, hb, if_neg h]
  | (k, x) :: r => by
    have ih := lookup_putF f g v r
    rw [show putF f v ((k, x) :: r) = (if k = f then (k, v) :: r else (k, x) :: putF f v r) from rfl]
    by_cases hk : k = f
    · rw [if_pos hk]
      by_cases h : g = k
      · have hb : (g == k) = true := beq_iff_eq.mpr h
        simp only [List.lookup, hb, if_pos (h.trans hk)]
      · have hb : (g == k) = false := beq_eq_false_iff_ne.mpr h
        simp only [List.lookup, hb, if_neg (fun e : g = f => h (e.trans hk.symm))]
    · rw [if_neg hk]
      by_cases h : g = k
      · have hb : (g == k) = true := beq_iff_eq.mpr h
        simp only [List.lookup, hb, if_neg (fun e : g = f => hk (h.symm.trans e))]
      · have hb : (g == k) = false := beq_eq_false_iff_ne.mpr h
        simp only [List.lookup, hb]
        exact ih
theorem keys_putF (f : Str) (v : V) : ∀ fs : List (Str × V), f ∈ (putF f v fs).map (·.1) ∧ ∀ g, g ∈ fs.map (·.1) → g ∈ (putF f v fs).map (·.1)
  | [] => ⟨by simp [putF], fun g h => by simp at h⟩
  | (k, x) :: r => by
    obtain ⟨i1, i2⟩ := keys_putF f v r
    rw [show putF f v ((k, x) :: r) = (if k = f then (k, v) :: r else (k, x) :: putF f v r) from rfl]
    by_cases hk : k = f
    · rw [if_pos hk]
      subst hk
      exact ⟨by simp, fun g h => by simpa using h⟩
    · rw [if_neg hk]
      refine ⟨?_, fun g h => ?_⟩
      · rw [List.map_cons]
        exact List.mem_cons_of_mem _ i1
      · rw [List.map_cons] at h ⊢
        rcases List.mem_cons.mp h with e | e
        · exact List.mem_cons.mpr (.inl e)
        · exact List.mem_cons_of_mem _ (i2 g e)
theorem length_putF (f : Str) (v : V) : ∀ fs : List (Str × V), (putF f v fs).length ≤ fs.length + 1
  | [] => by simp [putF]
  | (k, x) :: r => by
    have ih := length_putF f v r
    rw [show putF f v ((k, x) :: r) = (if k = f then (k, v) :: r else (k, x) :: putF f v r) from rfl]
    by_cases hk : k = f
    · rw [if_pos hk, List.length_cons, List.length_cons]; omega
    · rw [if_neg hk, List.length_cons, List.length_cons]; omega
theorem RelO.some_of {v : V} {o : Option Value} (r : RelO (some v) o) : ∃ u, o = some u ∧ RelV v u := by
  cases o with
  | none => exact (show False from r).elim
  | some u => exact ⟨u, rfl, r⟩
theorem RelO.none_of {o : Option Value} (r : RelO none o) : o = none := by
  cases o with
  | none => rfl
  | some u => exact (show False from r).elim
theorem handed_of {v : V} {u : Value} (r : RelV v u) : PySem.W.handedIn u = true := by
  cases v with
  | non => cases (show u = Value.none from r); rfl
  | bl b => cases (show u = Value.bool b from r); rfl
  | int i => obtain ⟨t, e⟩ := (show ∃ t, u = Value.int i t from r); cases e; rfl
  | str x => obtain ⟨t, e⟩ := (show ∃ t, u = Value.str x t from r); cases e; rfl
  | byt b => obtain ⟨t, e⟩ := (show ∃ t, u = Value.bytes b t from r); cases e; rfl
  | flt b => obtain ⟨t, e⟩ := (show ∃ t, u = Value.float b t from r); cases e; rfl
  | ref a => cases (show u = Value.ref a from r); rfl
  | ty n => cases (show u = Value.type n from r); rfl
section
variable {P : Program} {w : World} {H H' : Hp} {h h' : Heap} {a C dx : Addr} {fs fs' : List (Str × V)}
theorem ins_get (hok : HOk P w H h) (e : H a = some (.ins C dx fs)) : ∃ mA, ObjM h a dx C mA ∧ (∀ f, RelO (fs.lookup f) (mA f)) ∧ PySem.Within mA (fs.map (·.1)) ∧ fs.length ≤ 1000 ∧ H dx = some (.own a) := by
  obtain ⟨d, z, ne, ob, mA, n, r, q⟩ := (show ObjOk P w H h a (.ins C dx fs) from hok a _ e)
  exact ⟨mA, ⟨ob, n, ne⟩, r, q, z, d⟩
end
structure Cls (K : PySem.W.Frag) (C : Addr) : Prop where
  pg : PySem.W.plainGet K C Str.empty = true
  hd : PySem.W.hasDictIn K C = true
  po : PySem.W.plainOver K C = true
  sa : PySem.W.findIn K (.ref C) "__setattr__" = some (some (.builtin "object.__setattr__"))
theorem Cls.get {K : PySem.W.Frag} {C : Addr} (c : Cls K C) (f : Str) : PySem.W.plainGet K C f = true := c.pg
def NoAttr (K : PySem.W.Frag) (C : Addr) (f : Str) : Prop := PySem.W.findIn K (.ref C) f = some none
theorem NoAttr.taker {K : PySem.W.Frag} {C : Addr} {f : Str} (n : NoAttr K C f) : PySem.W.takerIn K C f = some none := by
  unfold PySem.W.takerIn
  rw [show PySem.W.findIn K (.ref C) f = some none from n]
  rfl
structure Meth (K : PySem.W.Frag) (C : Addr) (m : Str) (f : Addr) : Prop where
  at_ : PySem.W.findIn K (.ref C) m = some (some (.ref f))
  fn : PySem.W.isFn K (.ref f) = true
  kp : PySem.W.keepIn K (.ref f) = true
section
variable {X : Cx} {pins : List (Addr × Obj)} {σ : St} {H : Hp} {s : Shared} {a C dx : Addr} {fs : List (Str × V)} {f : Str} {v : V} {A : Around} {E : Value → Shared → Prop}
theorem getattr_ok {b : Bool} {Q : Value → Shared → Prop} (I : Inv X pins σ H s) (e : H a = some (.ins C dx fs)) (c : Cls X.K C) (n : NoAttr X.K C f) (l : fs.lookup f = some v)
    (h : ∀ u s', Inv X pins σ H s' → RelV v u → Q u s') : wpAny (model X.prog X.w) A (getAttr (.ref a) f b) Q E s := by
  obtain ⟨mA, O, r, _, _, _⟩ := ins_get I.hok e
  obtain ⟨u, hu, ru⟩ := RelO.some_of (v := v) (o := mA f) (by rw [← l]; exact r f)
  exact get_map I.kIn O (c.get f) c.hd n hu (handed_of ru) (h u _ (I.tok _) ru)
theorem getmeth_ok {m : Str} {g : Addr} {pl : Sem Bool} {Q : Value × List Value → Shared → Prop} (I : Inv X pins σ H s) (e : H a = some (.ins C dx fs)) (c : Cls X.K C) (k : Meth X.K C m g) (l : fs.lookup m = none)
    (h : Q (.ref g, [.ref a]) s) : wpAny (model X.prog X.w) A (getMethod (.ref a) m pl) Q E s := by
  obtain ⟨mA, O, r, _, _, _⟩ := ins_get I.hok e
  have hn : mA m = none := RelO.none_of (by rw [← l]; exact r m)
  exact get_meth I.kIn O (c.get m) k.at_ k.fn hn h
theorem setattr_ok {y : V} {u : Value} {Q : Unit → Shared → Prop} (I : Inv X pins σ H s) (e : H a = some (.ins C dx fs)) (c : Cls X.K C) (n : NoAttr X.K C f) (hl : fs.length < 1000) (ry : RelV y u)
    (h : ∀ s', Inv X pins σ (upd H a (.ins C dx (putF f y fs))) s' → Q () s') : wpAny (model X.prog X.w) A (setAttr (.ref a) f u) Q E s := by
  obtain ⟨mA, O, r, wi, _, ho⟩ := ins_get I.hok e
  have hz : (fs.map (·.1)).length ≤ sizeLine := by rw [List.length_map, sizeLine_eq]; omega
  refine set_map I.kIn O c.sa c.po n.taker c.hd wi hz fun h' O' sb => h _ ?_
  have hd : ∃ o, h'.get? dx = some o := let ⟨o, _, _, e', _⟩ := O'.ns; ⟨o, e'⟩
  refine I.write (x := a) (e := dx) (by rw [e]; exact True.intro) (.inr ho) (fun b q hb z => (sb.2 b hb).trans z) hd ?_
  refine ⟨by rw [upd_ne O.ne]; exact ho, ?_, O.ne, O'.obj, _, O'.ns, fun g => ?_, fun g hg => ?_⟩
  · have := length_putF f y fs; omega
  · show RelO ((putF f y fs).lookup g) (if g = f then some u else mA g)
    rw [lookup_putF]
    by_cases q : g = f
    · rw [if_pos q, if_pos q]; exact ry
    · rw [if_neg q, if_neg q]; exact r g
  · by_cases q : g = f
    · rw [q]; exact (keys_putF f y fs).1
    · refine (keys_putF f y fs).2 g (wi g fun z => hg ?_)
      show (if g = f then some u else mA g) = none
      rw [if_neg q]; exact z
theorem Inv.made (I : Inv X pins σ H s) : Inv X pins σ (upd (upd H s.heap.objs.size (.own (s.heap.objs.size + 1))) (s.heap.objs.size + 1) (.ins C s.heap.objs.size []))
    { s with heap := (s.heap.push PySem.W.emptyDict).push (PySem.W.instObj C s.heap.objs.size) } := by
  have e1 : (s.heap.push PySem.W.emptyDict).get? s.heap.objs.size = some PySem.W.emptyDict := Heap.get?_push_size s.heap rfl
  have e2 : ((s.heap.push PySem.W.emptyDict).push (PySem.W.instObj C s.heap.objs.size)).get? (s.heap.objs.size + 1) = some (PySem.W.instObj C s.heap.objs.size) := by
    have := Heap.get?_push_size (s.heap.push PySem.W.emptyDict) (o := PySem.W.instObj C s.heap.objs.size) rfl
    rwa [Heap.size_push] at this
  have e3 : (s.heap.push PySem.W.emptyDict).Ns s.heap.objs.size (fun _ => none) := ⟨PySem.W.emptyDict, #[], _, e1, rfl, (fun e he => absurd he (by simp)), fun _ => rfl⟩
  have I1 := I.laid (a := s.heap.objs.size) (o := .own (s.heap.objs.size + 1)) (h' := s.heap.push PySem.W.emptyDict) (t' := s.toks) (fun b u q => Heap.get?_push_of_some _ q) (Nat.le_refl _) ⟨_, e1⟩
  refine I1.laid (a := s.heap.objs.size + 1) (o := .ins C s.heap.objs.size []) (t' := s.toks) (fun b u q => Heap.get?_push_of_some _ q) (Nat.le_of_eq (Heap.size_push _ _)) ?_
  have ne : s.heap.objs.size ≠ s.heap.objs.size + 1 := Nat.ne_of_lt (Nat.lt_succ_self _)
  refine ⟨by rw [upd_ne ne, upd_same], Nat.zero_le _, ne, e2, fun _ => none, (Heap.Ns1.of_empty e3).at fun o q => Heap.get?_push_of_some _ q, fun _ => True.intro, fun y hy => absurd rfl hy⟩
theorem attr_of {prog : Program} {w : World} {env : Env} {e : Expr} {f : Str} {pos : Pos} {s : Shared} {Q : Value → Shared → Prop} (hb : attributeBase e f env (eval e env) = eval e env)
    (h : wpAny (model prog w) A (eval e env) (fun o s₁ => wpAny (model prog w) A (getAttr o f true) Q E s₁) E s) : wpAny (model prog w) A (eval (.Attribute e f pos) env) Q E s :=
  Attribute_any_ h (by rw [arm_eval_Attribute, hb])
end
def tFld (K : PySem.W.Frag) (ta : TE) (f : Str) : TE := fun σ H Q => ta σ H fun x H1 => ∃ a C dx fs v, x = .ref a ∧ H1 a = some (.ins C dx fs) ∧ Cls K C ∧ NoAttr K C f ∧ fs.lookup f = some v ∧ Q v H1
def sFld (K : PySem.W.Frag) (ta tv : TE) (f : Str) : TS := fun D σ H => tv σ H fun y H1 => ta σ H1 fun x H2 => ∃ a C dx fs, x = .ref a ∧ H2 a = some (.ins C dx fs) ∧ Cls K C ∧ NoAttr K C f ∧ fs.length < 1000 ∧
  D.nx σ (upd H2 a (.ins C dx (putF f y fs)))
def InOp (X : Cx) (op : Operator) (rd : V → V → Hp → VK → Prop) : Prop :=
  ∀ (pins : List (Addr × Obj)) (s : Shared) (σ : St) (H : Hp) (x y : V) (u v : Value) (Q : VK), Inv X pins σ H s → RelV x u → RelV y v → rd x y H Q → wpAny (model X.prog X.w) X.A (inplaceOp op u v) (EP X pins σ Q) X.xe s
def sFldAug (K : PySem.W.Frag) (ta tv : TE) (rd : V → V → Hp → VK → Prop) (f : Str) : TS := fun D σ H => ta σ H fun x H1 => ∃ a C dx fs v, x = .ref a ∧ H1 a = some (.ins C dx fs) ∧ Cls K C ∧ NoAttr K C f ∧ fs.lookup f = some v ∧
  tv σ H1 fun y H2 => rd v y H2 fun z H3 => ∃ dx' fs', H3 a = some (.ins C dx' fs') ∧ fs'.length < 1000 ∧ D.nx σ (upd H3 a (.ins C dx' (putF f z fs')))
section
variable {X : Cx} {o e value : Expr} {f : Str} {pos pos' tpos : Pos} {ta tv : TE}
theorem pe_fld (he : PE X e ta) (hb : attributeBase e f X.env (eval e X.env) = eval e X.env) : PE X (.Attribute e f pos) (tFld X.K ta f) := by
  intro pins s σ H Q I h
  refine attr_of hb (thn (he pins s σ H _ I h) fun u s1 ⟨x, H1, I1, rx, a, C, dx, fs, v, ex, ea, c, n, l, q⟩ => ?_)
  subst ex
  obtain rfl : u = Value.ref a := rx
  exact getattr_ok I1 ea c n l fun u' s2 I2 ru => ⟨v, H1, I2, ru, q⟩
theorem ps_fld (ha : PE X o ta) (hv : PE X value tv) (hs : swapsWith value (some (.Attribute o f pos')) pos.line X.env = pure false) : PS X (.Assign [.Attribute o f pos'] value pos) (sFld X.K ta tv f) := by
  intro pins s σ H D I h
  refine plainObj_wpAny_Assign_Attribute (thn (hv pins s σ H _ I h) fun u s1 ⟨y, H1, I1, ry, q⟩ => thn (ha pins s1 σ H1 _ I1 q) fun ov s2 ⟨x, H2, I2, rx, a, C, dx, fs, ex, ea, c, n, l, q2⟩ => ?_) hs
  subst ex
  obtain rfl : ov = Value.ref a := rx
  exact setattr_ok I2 ea c n l ry fun s3 I3 => ⟨σ, _, I3, q2⟩
theorem ps_fldaug {op : Operator} {rd : V → V → Hp → VK → Prop} (ha : PE X o ta) (hv : PE X value tv) (hop : InOp X op rd) : PS X (.AugAssign (.Attribute o f tpos) op value pos) (sFldAug X.K ta tv rd f) := by
  intro pins s σ H D I h
  refine wpAny_AugAssign_AttributeAny (thn (ha pins s σ H _ I h) fun ov s1 ⟨x, H1, I1, rx, a, C, dx, fs, v, ex, ea, c, n, l, q⟩ => ?_)
  subst ex
  obtain rfl : ov = Value.ref a := rx
  refine getattr_ok I1 ea c n l fun u s2 I2 ru => thn (hv pins s2 σ H1 _ I2 q) fun w3 s3 ⟨y, H2, I3, ry, q3⟩ => thn (hop pins s3 σ H2 v y u w3 _ I3 ru ry q3) fun w4 s4 ⟨z, H3, I4, rz, dx', fs', ea', l', q4⟩ => ?_
  exact setattr_ok I4 ea' c n l' rz fun s5 I5 => ⟨σ, _, I5, q4⟩
def rAdd : V → V → Hp → VK → Prop := fun x y H Q => ∃ i j, x = .int i ∧ y = .int j ∧ Q (.int (i + j)) H
theorem in_add : InOp X .Add rAdd := by
  rintro pins s σ H x y u v Q I rx ry ⟨i, j, rfl, rfl, q⟩
  obtain ⟨t, rfl⟩ := (show ∃ t, u = Value.int i t from rx)
  obtain ⟨t', rfl⟩ := (show ∃ t', v = Value.int j t' from ry)
  exact PyProof.Rows.iadd_int ⟨.int (i + j), H, I.tok _, ⟨_, rfl⟩, q⟩
end
section
variable {X : Cx} {pins : List (Addr × Obj)} {σ : St} {H : Hp} {s : Shared} {A : Around} {E : Value → Shared → Prop} {Q : Value → Shared → Prop} {c : Value} {b : Bool}
inductive TyOf (K : PySem.W.Frag) (H : Hp) : V → Value → Prop where
  | non : TyOf K H .non (.type "NoneType")
  | bl (x : Bool) : TyOf K H (.bl x) (.type "bool")
  | int (i : Int) : TyOf K H (.int i) (.type "int")
  | str (x : Str) : TyOf K H (.str x) (.type "str")
  | flt (x : UInt64) : TyOf K H (.flt x) (.type "float")
  | lst {a : Addr} {xs : List V} (e : H a = some (.lst xs)) : TyOf K H (.ref a) (.type "list")
  | frz {a : Addr} {o : Obj} {xs : List V} (e : H a = some (.frz o (.lst xs))) : TyOf K H (.ref a) (.type "list")
  | tup {a : Addr} {xs : List V} (e : H a = some (.tup xs)) : TyOf K H (.ref a) (.type "tuple")
  | dK {a : Addr} {kvs : List (Key × V)} (e : H a = some (.dK kvs)) : TyOf K H (.ref a) (.type "dict")
  | dT {a : Addr} {kvs : List (List Key × V)} (e : H a = some (.dT kvs)) : TyOf K H (.ref a) (.type "dict")
  | ins {a C dx : Addr} {fs : List (Str × V)} (e : H a = some (.ins C dx fs)) (cl : Cls K C) (ha : PySem.W.findIn K (.ref C) "__class__" = some (some (.builtin "object.__class__")))
      (hn : PySem.W.specialIn K (.builtin "object.__class__") "__get__" = some (some (.builtin "getset_descriptor.__get__"))) (htk : PySem.W.takesIn K (.builtin "object.__class__") = some true)
      (hm : PySem.W.mroIn K C (.type "object") = some true) : TyOf K H (.ref a) (.ref C)
theorem isinst_ok {x : V} {u t : Value} (I : Inv X pins σ H s) (rx : RelV x u) (ty : TyOf X.K H x t) (e : PySem.W.kitOne X.K t c = some b) (h : ∀ tk, Q (.bool b) { s with toks := tk }) :
    wpAny (model X.prog X.w) A (call (.builtin "isinstance") [u, c]) Q E s := by
  cases ty with
  | non => cases (show u = Value.none from rx); exact PySem.W.kia_one PySem.W.kitx_none I.kIn True.intro e (fun z => nomatch z) h
  | bl y => cases (show u = Value.bool y from rx); exact PySem.W.kia_one PySem.W.kitx_bool I.kIn True.intro e (fun z => nomatch z) h
  | int i => obtain ⟨t, q⟩ := (show ∃ t, u = Value.int i t from rx); cases q; exact PySem.W.kia_one PySem.W.kitx_int I.kIn True.intro e (fun z => nomatch z) h
  | str y => obtain ⟨t, q⟩ := (show ∃ t, u = Value.str y t from rx); cases q; exact PySem.W.kia_one PySem.W.kitx_str I.kIn True.intro e (fun z => nomatch z) h
  | flt y => obtain ⟨t, q⟩ := (show ∃ t, u = Value.float y t from rx); cases q; exact PySem.W.kia_one PySem.W.kitx_float I.kIn True.intro e (fun z => nomatch z) h
  | @lst a xs ea =>
    cases (show u = Value.ref a from rx)
    obtain ⟨_, _, n, _, h1⟩ := (show ObjOk X.prog X.w H s.heap a (.lst xs) from I.hok a _ ea)
    exact PySem.W.kia_one PySem.W.kitx_list I.kIn ⟨_, h1, rfl⟩ e (fun z => nomatch z) h
  | @frz a ob xs ea =>
    cases (show u = Value.ref a from rx)
    obtain ⟨_, _, _, n, _, h1⟩ := (show ObjOk X.prog X.w H s.heap a (.frz ob (.lst xs)) from I.hok a _ ea)
    exact PySem.W.kia_one PySem.W.kitx_list I.kIn ⟨_, h1, rfl⟩ e (fun z => nomatch z) h
  | @tup a xs ea =>
    cases (show u = Value.ref a from rx)
    obtain ⟨_, _, _, p⟩ := (show ObjOk X.prog X.w H s.heap a (.tup xs) from I.hok a _ ea)
    obtain ⟨⟨o, h1, h2, _⟩, _⟩ := p
    exact PySem.W.kia_one PySem.W.kitx_tuple I.kIn ⟨o, h1, h2⟩ e (fun z => nomatch z) h
  | @dK a kvs ea =>
    cases (show u = Value.ref a from rx)
    obtain ⟨_, _, vs, _, p⟩ := (show ObjOk X.prog X.w H s.heap a (.dK kvs) from I.hok a _ ea)
    obtain ⟨o, es, ep, h1, h2, _⟩ := p
    exact PySem.W.kia_one PySem.W.kitx_dict I.kIn ⟨o, h1, h2.1⟩ e (fun z => nomatch z) h
  | @dT a kvs ea =>
    cases (show u = Value.ref a from rx)
    obtain ⟨_, _, xs, _, o, es, ep, h1, h2, _⟩ := (show ObjOk X.prog X.w H s.heap a (.dT kvs) from I.hok a _ ea)
    exact PySem.W.kia_one PySem.W.kitx_dict I.kIn ⟨o, h1, h2.1⟩ e (fun z => nomatch z) h
  | @ins a C dx fs ea cl ha hn htk hm =>
    cases (show u = Value.ref a from rx)
    obtain ⟨mA, O, _⟩ := ins_get I.hok ea
    obtain ⟨od, J, _⟩ := O.look
    exact PySem.W.kia_one (PySem.W.kitx_own (cl.get _) cl.hd ha hn htk hm) I.kIn J e (fun z => nomatch z) h
end
end L2
namespace L2
open PySem PySem.Spec PyProof.Rows
structure Room (k : Nat) (A : Around) : Prop where
  hd : A.handled = none
  dp : A.depth + 3 * k + 5 < recursionLimit
  un : A.units + 16 * k + 200 < cLine
theorem Room.mono {j k : Nat} {A : Around} (r : Room k A) (h : j ≤ k) : Room j A := ⟨r.hd, by have := r.dp; omega, by have := r.un; omega⟩
theorem Room.deeper {k : Nat} {A : Around} (r : Room (k + 1) A) (env : Env) : Room k (A.deeper env) :=
  ⟨r.hd, by have := r.dp; show A.depth + 1 + 3 * k + 5 < _; omega, by have := r.un; show A.units + 3 + 16 * k + 200 < _; omega⟩
theorem make_depth {A : Around} {C : Addr} {us : List Value} {kw : List (Str × Value)} : (A.under (.builtin "type.__call__" ⟨.ref C :: us, kw⟩)).depth = A.depth + 1 := by
  first | rfl | simp [Around.under, Code.weight, Code.isCreation, Code.isGuard, Code.isCaller, Code.frames, Code.isFrame, guardIds]
theorem make_units {A : Around} {C : Addr} {us : List Value} {kw : List (Str × Value)} : (A.under (.builtin "type.__call__" ⟨.ref C :: us, kw⟩)).units = A.units + 1 := by
  first | rfl | simp [Around.under, Code.cUnits, Code.frames, Code.isFrame]
theorem Room.make {k : Nat} {A : Around} (r : Room (k + 1) A) (C : Addr) (us : List Value) (kw : List (Str × Value)) : Room k (A.under (.builtin "type.__call__" ⟨.ref C :: us, kw⟩)) :=
  ⟨r.hd, by have := r.dp; rw [make_depth]; omega, by have := r.un; rw [make_units]; omega⟩
theorem Room.depth {k : Nat} {A : Around} (r : Room k A) : A.depth < recursionLimit := by have := r.dp; omega
theorem Room.units {k : Nat} {A : Around} (r : Room k A) : A.units + 64 < cLine := by have := r.un; omega
def tNil : TA := fun _ H Q => Q [] H
def tCons (ta : TE) (tr : TA) : TA := fun σ H Q => ta σ H fun x H1 => tr σ H1 fun xs H2 => Q (x :: xs) H2
section
variable {X : Cx} {e : Expr} {es : List Expr} {te : TE} {t : TA} {pos : Pos}
theorem pa_nil : PA X [] tNil := fun _ _ _ _ H Q I h => Calls.spliced_nil ⟨[], H, I, .nil, h⟩
theorem pa_cons (ha : PE X e te) (hr : PA X es t) (hs : starEach (e :: es) X.env = (false, eval e X.env) :: starEach es X.env := by rfl) : PA X (e :: es) (tCons te t) := by
  intro pos pins s σ H Q I h
  rw [hs]
  show wpAny _ _ (spliced ((false, eval e X.env) :: backTo pos (starEach es X.env))) _ _ s
  refine Calls.spliced_cons (thn (ha pins s σ H _ I h) fun u s1 ⟨x, H1, I1, r1, q1⟩ => ?_)
  exact thn (hr pos pins s1 σ H1 _ I1 q1) fun us s2 ⟨xs, H2, I2, r2, q2⟩ => ⟨x :: xs, H2, I2, .cons r1 r2, q2⟩
def tTup (t : TA) : TE := fun σ H Q => t σ H fun xs H1 => xs.length ≤ sizeLine ∧ ∀ p, H1 p = none → Q (.ref p) (upd H1 p (.tup xs))
def tLst (t : TA) : TE := fun σ H Q => t σ H fun xs H1 => xs.length ≤ sizeLine ∧ ∀ p, H1 p = none → Q (.ref p) (upd H1 p (.lst xs))
theorem pe_tup {x1} (h : PA X es t) : PE X (.Tuple es x1 pos) (tTup t) := by
  intro pins s σ H Q I hq
  refine wpAny_Tuple_spliced (thn (h pos pins s σ H _ I hq) fun us s1 ⟨xs, H1, I1, r, z, q⟩ => ⟨by rw [← r.length]; exact z, ?_⟩)
  have hf : H1 s1.heap.objs.size = none := I1.hok.fresh (Nat.le_refl _)
  refine ⟨.ref s1.heap.objs.size, upd H1 s1.heap.objs.size (.tup xs), I1.laid (t' := s1.toks) (fun b u e => Heap.get?_push_of_some _ e) (Nat.le_refl _) ?_, rfl, q _ hf⟩
  exact ⟨z, us, r, ⟨_, Heap.get?_push_size _ rfl, rfl, _, rfl⟩, NoD.new _ rfl⟩
theorem pe_lst (h : PA X es t) : PE X (.List es pos) (tLst t) := by
  intro pins s σ H Q I hq
  refine wpAny_List_spliced (thn (h pos pins s σ H _ I hq) fun us s1 ⟨xs, H1, I1, r, z, q⟩ => ⟨by rw [← r.length]; exact z, ?_⟩)
  have hf : H1 s1.heap.objs.size = none := I1.hok.fresh (Nat.le_refl _)
  refine ⟨.ref s1.heap.objs.size, upd H1 s1.heap.objs.size (.lst xs), I1.laid (t' := s1.toks) (fun b u e => Heap.get?_push_of_some _ e) (Nat.le_refl _) ?_, rfl, q _ hf⟩
  exact ⟨z, us, 0, r, Heap.get?_push_size _ rfl⟩
end
abbrev Sp := List V → Hp → VK → XK → Prop
abbrev CXT := List Env → Hp → Shared → XK → Value → Shared → Prop
structure Env0 (P : Program) (w : World) (K : PySem.W.Frag) (mg : Str → Option Value) (base : Heap) (A : Around) (outer : List Env) (s : Shared) (H : Hp) : Prop where
  frames : A.frames = some outer
  mod : Mod K mg base
  bs : ∀ b o, base.get? b = some o → s.heap.get? b = some o ∧ H b = none
  bsz : base.objs.size ≤ s.heap.objs.size
  funs : s.heap.FunFrames base outer
  frf : ∀ b ∈ frs outer, H b = none
  hok : HOk P w H s.heap
  bare : AllBare s.gens
def CE (outer : List Env) (P : Program) (w : World) (H : Hp) (s : Shared) (Q : VK) (u : Value) (s' : Shared) : Prop :=
  ∃ v H', s'.os = s.os ∧ AllBare s'.gens ∧ Un (frs outer) [] H H' s.heap s'.heap ∧ HOk P w H' s'.heap ∧ RelV v u ∧ Q v H'
def CR (CX : CXT) (outer : List Env) (P : Program) (w : World) (H : Hp) (s : Shared) (Q : VK) (E : XK) (r : Result) (s' : Shared) : Prop :=
  match r with
  | .ok (.ret u) => CE outer P w H s Q u s'
  | .ok _ => False
  | .error e => CX outer H s E e s'
structure FnOk (P : Program) (w : World) (K : PySem.W.Frag) (mg : Str → Option Value) (base : Heap) (CX : CXT) (k : Nat) (f : Addr) (fd : FuncData) (ps : List Str) (sp : Sp) : Prop where
  len : ∀ vs H Q E, sp vs H Q E → vs.length = ps.length
  run : ∀ (A : Around) (outer : List Env) (s : Shared) (H : Hp) (args : Args) (us : List Value) (vs : List V) (Q : VK) (E : XK), Room k A → Env0 P w K mg base A outer s H → BindsTo s fd args (ps.zip us) → Vals vs us → sp vs H Q E →
    codeAny (model P w) A (.call (.ref f) args) (CR CX outer P w H s Q E) s
theorem FnOk.mono {P : Program} {w : World} {K : PySem.W.Frag} {mg : Str → Option Value} {base : Heap} {CX : CXT} {j k : Nat} {f : Addr} {fd : FuncData} {ps : List Str} {sp : Sp} (F : FnOk P w K mg base CX j f fd ps sp) (h : j ≤ k) :
    FnOk P w K mg base CX k f fd ps sp := ⟨F.len, fun A outer s H args us vs Q E hr => F.run A outer s H args us vs Q E (hr.mono h)⟩
theorem FnOk.imp {P : Program} {w : World} {K : PySem.W.Frag} {mg : Str → Option Value} {base : Heap} {CX : CXT} {k : Nat} {f : Addr} {fd : FuncData} {ps : List Str} {sp sp' : Sp} (F : FnOk P w K mg base CX k f fd ps sp)
    (h : ∀ vs H Q E, sp' vs H Q E → sp vs H Q E) : FnOk P w K mg base CX k f fd ps sp' :=
  ⟨fun vs H Q E q => F.len vs H Q E (h _ _ _ _ q), fun A outer s H args us vs Q E hr he hb hv hs => F.run A outer s H args us vs Q E hr he hb hv (h _ _ _ _ hs)⟩
theorem Env0.make {P : Program} {w : World} {K : PySem.W.Frag} {mg : Str → Option Value} {base : Heap} {A : Around} {outer : List Env} {s : Shared} {H : Hp} (e : Env0 P w K mg base A outer s H) (C : Addr) (us : List Value) (kw : List (Str × Value)) :
    Env0 P w K mg base (A.under (.builtin "type.__call__" ⟨.ref C :: us, kw⟩)) outer s H := ⟨by first | exact e.frames | (simpa [Around.under, Code.envs, Code.isFrame, pushEnvs] using e.frames), e.mod, e.bs, e.bsz, e.funs, e.frf, e.hok, e.bare⟩
section
variable {X : Cx} {pins : List (Addr × Obj)} {σ : St} {H : Hp} {s s' : Shared}
theorem Inv.env0 (I : Inv X pins σ H s) : Env0 X.prog X.w X.K X.mg X.base X.A X.stack s H :=
  ⟨I.ok.frames, I.ok.mod, I.bs, Nat.le_trans I.ok.bsz I.sz, I.stack, I.stkFree, I.hok, I.bare⟩
theorem Inv.after {Q : VK} {u : Value} (I : Inv X pins σ H s) (h : CE X.stack X.prog X.w H s Q u s') : EP X pins σ Q u s' := by
  obtain ⟨v, H', os, bare, un, hok, r, q⟩ := h
  obtain ⟨hh, g, d, t, os'⟩ := s'
  obtain rfl : os' = s.os := os
  exact ⟨v, H', I.call (h' := hh) (g' := g) (d' := d) (t' := t) (ch := []) un hok bare (fun b z => absurd z (by simp)), r, q⟩
end
def tCall (sp : Sp) (dvs : List V) (E : XK) (t : TA) : TE := fun σ H Q => t σ H fun vs H1 => sp (vs ++ dvs) H1 Q E
def tMeth (C : Addr) (m : Str) (sp : Sp) (dvs : List V) (E : XK) (ta : TE) (t : TA) : TE := fun σ H Q => ta σ H fun x H1 => ∃ a dx fs, x = .ref a ∧ H1 a = some (.ins C dx fs) ∧ fs.lookup m = none ∧
  t σ H1 fun vs H2 => sp (x :: (vs ++ dvs)) H2 Q E
def tMake (C : Addr) (sp : Sp) (dvs : List V) (E : XK) (t : TA) : TE := fun σ H Q => t σ H fun vs H1 => ∀ x dx, H1 x = none → H1 dx = none → dx ≠ x →
  sp (.ref x :: (vs ++ dvs)) (upd (upd H1 dx (.own x)) x (.ins C dx [])) (fun v H2 => v = .non ∧ Q (.ref x) H2) E
def Binds (K : PySem.W.Frag) (fd : FuncData) (ps : List Str) (ds : List Value) : Prop :=
  ∀ (s : Shared) (us : List Value), K.In s.heap → (us ++ ds).length = ps.length → BindsTo s fd ⟨us, []⟩ (ps.zip (us ++ ds))
theorem Binds.all {K : PySem.W.Frag} {fd : FuncData} {ps : List Str} (h : ∀ us : List Value, us.length = ps.length → bindArgs fd ⟨us, []⟩ = pure (ps.zip us)) : Binds K fd ps [] := fun s us _ hl => by
  rw [List.append_nil] at hl ⊢
  exact .of_eq (h us hl)
def Passes (CX : CXT) (X : Cx) (E : XK) : Prop := ∀ (pins : List (Addr × Obj)) (σ : St) (H : Hp) (s : Shared) (e : Value) (s' : Shared), Inv X pins σ H s → CX X.stack H s E e s' → X.xe e s'
section
variable {X : Cx} {CX : CXT} {k : Nat} {f C : Addr} {fd : FuncData} {ps : List Str} {sp : Sp} {dvs : List V} {ds : List Value} {E : XK} {x m : Str} {p pos apos : Pos} {e o : Expr} {es : List Expr} {ta : TE} {t : TA}
theorem run_fn {pins : List (Addr × Obj)} {σ : St} {H : Hp} {s : Shared} {Q : VK} {us : List Value} {vs : List V} (F : FnOk X.prog X.w X.K X.mg X.base CX k f fd ps sp) (hr : Room k X.A) (hb : Binds X.K fd ps ds) (hd : Vals dvs ds) (hx : Passes CX X E)
    (I : Inv X pins σ H s) (r : Vals vs us) (h : sp (vs ++ dvs) H Q E) : wpAny (model X.prog X.w) X.A (call (.ref f) us) (EP X pins σ Q) X.xe s := by
  have r2 : Vals (vs ++ dvs) (us ++ ds) := r.append hd
  have hl : (us ++ ds).length = ps.length := by rw [← r2.length]; exact F.len _ _ _ _ h
  refine wpAny_call (codeAny_mono (F.run X.A X.stack s H ⟨us, []⟩ (us ++ ds) (vs ++ dvs) Q E hr I.env0 (hb s us I.kIn hl) r2 h) fun r s' hq => ?_)
  cases r with
  | error e => exact hx pins σ H s e s' I hq
  | ok fl =>
    cases fl with
    | ret u => exact I.after hq
    | next => exact False.elim hq
    | brk => exact False.elim hq
    | cont => exact False.elim hq
theorem pe_call (F : FnOk X.prog X.w X.K X.mg X.base CX k f fd ps sp) (hr : Room k X.A) (hg : Gl X x) (hm : X.mg x = some (.ref f)) (hk : PySem.W.keepIn X.K (.ref f) = true) (hb : Binds X.K fd ps ds) (hd : Vals dvs ds) (hx : Passes CX X E)
    (ha : PA X (e :: es) t) (hdb : (x == ("__debug__" : Str)) = false := by decide) (he : starEach (e :: es) X.env = (false, eval e X.env) :: starEach es X.env := by rfl) (hpl : (backTo pos (starEach es X.env)).any (·.1) = false := by rfl) :
    PE X (.Call (.Name x p) (e :: es) [] pos) (tCall sp dvs E t) := by
  intro pins s σ H Q I h
  refine wpAny_Call_Name_kw (ld_glob I hg hm ?_ hdb)
  refine PySem.W.callWith_K (h₀ := X.base) I.ok.mod.kin hk (thn (ha pos pins s σ H _ I h) fun us s1 ⟨vs, H1, I1, r, q⟩ => ⟨I1.kIn, ?_⟩) he hpl
  exact run_fn F hr hb hd hx I1 r q
theorem pe_meth {pl : Sem Bool} (he : PE X o ta) (c : Cls X.K C) (hm : Meth X.K C m f) (F : FnOk X.prog X.w X.K X.mg X.base CX k f fd ps sp) (hr : Room k X.A) (hb : Binds X.K fd ps ds) (hd : Vals dvs ds) (hx : Passes CX X E) (ha : PA X (e :: es) t)
    (hst : starEach (e :: es) X.env = (false, eval e X.env) :: starEach es X.env := by rfl) (hpl : (backTo pos (starEach es X.env)).any (·.1) = false := by rfl)
    (ht : eval (.Call (.Attribute o m apos) (e :: es) [] pos) X.env = (do
      let ov ← eval o X.env
      standAt apos.atName
      let (f, first) ← holding [ov] (getMethod ov m pl)
      callWith pos f first (backTo pos (starEach (e :: es) X.env)) (backToKw pos (keywordEach [] X.env))) := by rfl) :
    PE X (.Call (.Attribute o m apos) (e :: es) [] pos) (tMeth C m sp dvs E ta t) := by
  intro pins s σ H Q I h
  refine PySem.W.methodCall_KW (pl := pl) (thn (he pins s σ H _ I h) fun u s1 ⟨x, H1, I1, rx, a, dx, fs, ex, ea, l, q⟩ => ?_) ht
  subst ex
  obtain rfl : u = Value.ref a := rx
  refine getmeth_ok I1 ea c hm l ?_
  refine PySem.W.callWith_K (first := [.ref a]) (h₀ := X.base) I.ok.mod.kin hm.kp (thn (ha pos pins s1 σ H1 _ I1 q) fun us s2 ⟨vs, H2, I2, r, q2⟩ => ⟨I2.kIn, ?_⟩) hst hpl
  exact run_fn (us := .ref a :: us) (vs := .ref a :: vs) F hr hb hd hx I2 (.cons rfl r) q2
theorem pe_meth0 {pl : Sem Bool} (he : PE X o ta) (c : Cls X.K C) (hm : Meth X.K C m f) (F : FnOk X.prog X.w X.K X.mg X.base CX k f fd ps sp) (hr : Room k X.A) (hb : Binds X.K fd ps ds) (hd : Vals dvs ds) (hx : Passes CX X E)
    (ht : eval (.Call (.Attribute o m apos) [] [] pos) X.env = (do
      let ov ← eval o X.env
      standAt apos.atName
      let (f, first) ← holding [ov] (getMethod ov m pl)
      callWith pos f first (backTo pos (starEach [] X.env)) (backToKw pos (keywordEach [] X.env))) := by rfl) :
    PE X (.Call (.Attribute o m apos) [] [] pos) (tMeth C m sp dvs E ta tNil) := by
  intro pins s σ H Q I h
  refine PySem.W.methodCall_KW (pl := pl) (thn (he pins s σ H _ I h) fun u s1 ⟨x, H1, I1, rx, a, dx, fs, ex, ea, l, q⟩ => ?_) ht
  subst ex
  obtain rfl : u = Value.ref a := rx
  refine getmeth_ok I1 ea c hm l ?_
  exact PySem.W.callWith_K0 (first := [.ref a]) I1.kIn hm.kp (run_fn (us := [.ref a]) (vs := [.ref a]) F hr hb hd hx I1 (.cons rfl .nil) q)
structure Mk (K : PySem.W.Frag) (C f : Addr) : Prop where
  makes : PySem.W.makesIn K C = true
  init : PySem.W.findIn K (.ref C) "__init__" = some (some (.ref f))
  fn : PySem.W.isFn K (.ref f) = true
  kp : PySem.W.keepIn K (.ref C) = true
theorem run_make {pins : List (Addr × Obj)} {σ : St} {H : Hp} {s : Shared} {Q : VK} {us : List Value} {vs : List V} (M : Mk X.K C f) (F : FnOk X.prog X.w X.K X.mg X.base CX k f fd ps sp) (hr : Room (k + 1) X.A) (hb : Binds X.K fd ps ds) (hd : Vals dvs ds)
    (hx : Passes CX X E) (I : Inv X pins σ H s) (r : Vals vs us)
    (h : ∀ x dx, H x = none → H dx = none → dx ≠ x → sp (.ref x :: (vs ++ dvs)) (upd (upd H dx (.own x)) x (.ins C dx [])) (fun v H2 => v = .non ∧ Q (.ref x) H2) E) :
    wpAny (model X.prog X.w) X.A (call (.ref C) us) (EP X pins σ Q) X.xe s := by
  have hq := h (s.heap.objs.size + 1) s.heap.objs.size (I.hok.fresh (Nat.le_succ _)) (I.hok.fresh (Nat.le_refl _)) (Nat.ne_of_lt (Nat.lt_succ_self _))
  have I2 := Inv.made (C := C) I
  have r2 : Vals (V.ref (s.heap.objs.size + 1) :: (vs ++ dvs)) (Value.ref (s.heap.objs.size + 1) :: (us ++ ds)) := .cons rfl (r.append hd)
  have hl : (Value.ref (s.heap.objs.size + 1) :: us ++ ds).length = ps.length := by
    have e := r2.length
    rw [F.len _ _ _ _ hq] at e
    exact e.symm
  refine wpAny_call (make_map (f := f) I.kIn M.makes M.init (beq_iff_eq.mp M.fn) (codeAny_mono (F.run _ X.stack _ _ ⟨Value.ref (s.heap.objs.size + 1) :: us, []⟩ (Value.ref (s.heap.objs.size + 1) :: (us ++ ds)) _ _ E (hr.make C us [])
    (I2.env0.make C us []) (hb _ (Value.ref (s.heap.objs.size + 1) :: us) I2.kIn hl) r2 hq) fun r s' hq' => ?_))
  cases r with
  | error e => exact hx pins σ _ _ e s' I2 hq'
  | ok fl =>
    cases fl with
    | ret u =>
      obtain ⟨v, H', I3, rv, ev, q3⟩ := I2.after hq'
      subst ev
      exact ⟨rv, ⟨V.ref (s.heap.objs.size + 1), H', I3, rfl, q3⟩⟩
    | next => exact False.elim hq'
    | brk => exact False.elim hq'
    | cont => exact False.elim hq'
theorem pe_make (M : Mk X.K C f) (F : FnOk X.prog X.w X.K X.mg X.base CX k f fd ps sp) (hr : Room (k + 1) X.A) (hg : Gl X x) (hm : X.mg x = some (.ref C)) (hb : Binds X.K fd ps ds) (hd : Vals dvs ds) (hx : Passes CX X E)
    (ha : PA X (e :: es) t) (hdb : (x == ("__debug__" : Str)) = false := by decide) (he : starEach (e :: es) X.env = (false, eval e X.env) :: starEach es X.env := by rfl) (hpl : (backTo pos (starEach es X.env)).any (·.1) = false := by rfl) :
    PE X (.Call (.Name x p) (e :: es) [] pos) (tMake C sp dvs E t) := by
  intro pins s σ H Q I h
  refine wpAny_Call_Name_kw (ld_glob I hg hm ?_ hdb)
  refine PySem.W.callWith_K (h₀ := X.base) I.ok.mod.kin M.kp (thn (ha pos pins s σ H _ I h) fun us s1 ⟨vs, H1, I1, r, q⟩ => ⟨I1.kIn, ?_⟩) he hpl
  exact run_make M F hr hb hd hx I1 r q
end
section
variable {X : Cx} {CX : CXT} {k : Nat} {f C : Addr} {fd : FuncData} {ps ks : List Str} {sp : Sp} {E : XK} {x m : Str} {p pos apos kpos : Pos} {e o : Expr} {es : List Expr} {kws : List Keyword} {te ta : TE} {t tk : TA} {nm : Option Str}
variable {g : List Value → List Value → List Value} {gV : List V → List V → List V}
end
structure FnScope (N P : List Str) (sc : Scope) : Prop where
  kind : sc.kind = .function
  co : sc.isCoroutine = false
  gen : sc.isGenerator = false
  nd : N.Nodup
  pre : N.take P.length = P
  par : ∀ x ∈ P, sc.names.lookup x = some .local ∨ sc.names.lookup x = some .cell
  nofree : ∀ y ∈ sc.names, y.2 ≠ .free
theorem bindL_out {kindOf : Str → Option NameKind} {x : Str} : ∀ {binds : List (Str × Value)} {m : Str → Option Value}, (∀ v, (x, v) ∉ binds) → bindL kindOf binds m x = m x
  | [], _, _ => rfl
  | (n, v) :: r, m, h => by
    unfold bindL
    rw [bindL_out fun w hw => h w (List.mem_cons_of_mem _ hw)]
    split
    · have : x ≠ n := by rintro rfl; exact h v List.mem_cons_self
      simp [this]
    · rfl
theorem bindC_out {kindOf : Str → Option NameKind} {x : Str} : ∀ {binds : List (Str × Value)} {m : Str → Option Value}, (∀ v, (x, v) ∉ binds) → bindC kindOf binds m x = m x
  | [], _, _ => rfl
  | (n, v) :: r, m, h => by
    unfold bindC
    rw [bindC_out fun w hw => h w (List.mem_cons_of_mem _ hw)]
    split
    · rfl
    · have : x ≠ n := by rintro rfl; exact h v List.mem_cons_self
      simp [this]
theorem bindL_get {kindOf : Str → Option NameKind} {x : Str} {v : Value} : ∀ {P : List Str} {vs : List Value} {i : Nat} {m : Str → Option Value}, P.Nodup → P[i]? = some x → vs[i]? = some v → kindOf x = some .local →
    bindL kindOf (P.zip vs) m x = some v
  | [], _, _, _, _, h, _, _ => by simp at h
  | _ :: _, [], _, _, _, _, h, _ => by simp at h
  | p :: P, w :: vs, 0, m, nd, h1, h2, hk => by
    simp at h1 h2; subst h1; subst h2
    show bindL kindOf ((p, w) :: P.zip vs) m p = _
    unfold bindL
    rw [bindL_out fun v hv => (List.nodup_cons.mp nd).1 (List.of_mem_zip hv).1, if_pos hk]
    simp
  | p :: P, w :: vs, i + 1, m, nd, h1, h2, hk => by
    show bindL kindOf ((p, w) :: P.zip vs) m x = _
    unfold bindL
    exact bindL_get (i := i) (List.nodup_cons.mp nd).2 (by simpa using h1) (by simpa using h2) hk
theorem bindC_get {kindOf : Str → Option NameKind} {x : Str} {v : Value} : ∀ {P : List Str} {vs : List Value} {i : Nat} {m : Str → Option Value}, P.Nodup → P[i]? = some x → vs[i]? = some v → kindOf x ≠ some .local →
    bindC kindOf (P.zip vs) m x = some v
  | [], _, _, _, _, h, _, _ => by simp at h
  | _ :: _, [], _, _, _, _, h, _ => by simp at h
  | p :: P, w :: vs, 0, m, nd, h1, h2, hk => by
    simp at h1 h2; subst h1; subst h2
    show bindC kindOf ((p, w) :: P.zip vs) m p = _
    unfold bindC
    rw [bindC_out fun v hv => (List.nodup_cons.mp nd).1 (List.of_mem_zip hv).1, if_neg hk]
    simp
  | p :: P, w :: vs, i + 1, m, nd, h1, h2, hk => by
    show bindC kindOf ((p, w) :: P.zip vs) m x = _
    unfold bindC
    exact bindC_get (i := i) (List.nodup_cons.mp nd).2 (by simpa using h1) (by simpa using h2) hk
def start (N : List Str) (vs : List V) : St := vs.map some ++ List.replicate (N.length - vs.length) none
def cxOf (CX : CXT) (P : Program) (w : World) (K : PySem.W.Frag) (mg : Str → Option Value) (base : Heap) (N : List Str) (qual : Str) (scope : Scope) (f : Addr) (cd : Value) (A : Around) (outer : List Env) (s : Shared) (H : Hp) (E : XK) : Cx where
  prog := P
  w := w
  K := K
  mg := mg
  base := base
  A := A.deeper (envOfC qual scope s.heap.objs.size f cd)
  N := N
  s₀ := s
  H₀ := H
  env := envOfC qual scope s.heap.objs.size f cd
  outer := outer
  stack := envOfC qual scope s.heap.objs.size f cd :: outer
  ex := []
  calm := true
  fn := fun _ => true
  pn := []
  xe := fun e s' => wpAny (model P w) (A.deeper (envOfC qual scope s.heap.objs.size f cd)) (leaving (envOfC qual scope s.heap.objs.size f cd) e) (fun _ s'' => CX outer H s E e s'') (fun e' s'' => CX outer H s E e' s'') s'
theorem cell_has {sc : Scope} {n : Nat} {x : Str} (h : sc.names.lookup x = some .cell) : ∃ c, (cellsFrom n sc.names []).lookup x = some c := by
  have q := PySem.W.cellsFrom_some sc.names n [] (.inl h)
  exact Option.isSome_iff_exists.mp q
theorem inv_start {CX : CXT} {P : Program} {w : World} {K : PySem.W.Frag} {mg : Str → Option Value} {base : Heap} {N ps : List Str} {qual : Str} {scope : Scope} {f : Addr} {cd : Value} {A : Around} {outer : List Env} {s s1 : Shared} {H : Hp} {E : XK} {us : List Value} {vs : List V}
    (S : FnScope N ps scope) (hd : A.handled = none) (e0 : Env0 P w K mg base A outer s H) (hl : vs.length = ps.length) (r : Vals vs us)
    (x : InCallC s s.heap.objs.size (bindL (envOfC qual scope s.heap.objs.size f cd).kindOf (ps.zip us) fun _ => none) (cellsFrom (s.heap.objs.size + 1) scope.names []) (bindC (envOfC qual scope s.heap.objs.size f cd).kindOf (ps.zip us) fun _ => none) s1) :
    Inv (cxOf CX P w K mg base N qual scope f cd A outer s H E) [] (start N vs) H s1 := by
  have hpl : ps.length ≤ N.length := by have := congrArg List.length S.pre; rw [List.length_take] at this; omega
  obtain ⟨h1, tk, rfl, hk⟩ := x.done
  have noA : ∀ b : Addr, b ∉ (cxOf CX P w K mg base N qual scope f cd A outer s H E).ex := fun b z => absurd (show b ∈ ([] : List Addr) from z) (by simp)
  refine ⟨⟨e0.mod, S.kind, rfl, rfl, Nat.le_refl _, fun y z c h1 h2 => ?_, fun y hy => ?_, fun y c _ h => ?_, fun _ => hd, Around.frames_deeper e0.frames, .inr ⟨rfl, rfl⟩, fun b z => absurd z (noA b), e0.bs, e0.bsz, fun b _ _ => noA b, fun b z => absurd z (noA b), e0.funs, e0.frf⟩,
    rfl, e0.bare, Un.kept hk, ⟨_, x.toInCall.ns, fun i y v h1 h2 h3 => ?_⟩, fun y c h => ⟨_, x.cell y c h⟩, e0.hok.fresh (Nat.le_refl _), fun y c h => ?_, fun p hp => absurd (show p ∈ ([] : List (Addr × Obj)) from hp) (by simp), e0.hok.kept hk, ?_⟩
  · exact name_of_addr x.apart (PySem.mem_of_lookup h1) (PySem.mem_of_lookup h2)
  · have hy : scope.names.lookup y = some .cell ∨ scope.names.lookup y = some .free := hy
    rcases hy with hy | hy
    · exact cell_has hy
    · exact absurd rfl (S.nofree _ (PySem.mem_of_lookup hy))
  · exact Nat.le_of_lt (x.above y c (PySem.mem_of_lookup h))
  · have hi : i < vs.length := by
      unfold start at h2
      by_cases hi : i < vs.length
      · exact hi
      · rw [List.getElem?_append_right (by simpa using hi)] at h2
        rw [List.getElem?_replicate] at h2
        split at h2 <;> cases h2
    have ha : vs[i]? = some v := by
      unfold start at h2
      rw [List.getElem?_append_left (by simpa using hi), List.getElem?_map] at h2
      cases e : vs[i]? with
      | none => rw [e] at h2; cases h2
      | some a => rw [e] at h2; cases h2; rfl
    obtain ⟨u, hu, rv⟩ := r.get ha
    have hp : ps[i]? = some y := by
      rw [← S.pre, List.getElem?_take_of_lt (by omega)]; exact h1
    have ndP : ps.Nodup := by rw [← S.pre]; exact S.nd.sublist (List.take_sublist _ _)
    refine ⟨u, rv, ?_⟩
    rcases S.par y (List.mem_of_getElem? hp) with k | k
    · exact .inl ⟨k, bindL_get ndP hp hu k⟩
    · obtain ⟨c, e⟩ := cell_has (n := s.heap.objs.size + 1) k
      refine .inr ⟨.inl k, c, e, ?_⟩
      have q := x.cell y c e
      rw [bindC_get ndP hp hu (by show scope.names.lookup y ≠ _; rw [k]; decide)] at q
      exact q
  · exact e0.hok.fresh (Nat.le_of_lt (x.above y c (PySem.mem_of_lookup h)))
  · unfold start
    show _ = N.length
    rw [List.length_append, List.length_map, List.length_replicate]
    omega
theorem fn_of {CX : CXT} {P : Program} {w : World} {K : PySem.W.Frag} {mg : Str → Option Value} {base : Heap} {k : Nat} {f : Addr} {name qual : Str} {params : Arguments} {body : List Stmt} {scope : Scope} {dV kV doc pm cdv ct oc : Value} {an od : Option Addr}
    {osl : Array (Option Value)} {N ps : List Str} {sp : Sp} (lk : K.lookup f = some ⟨oc, od, .func (PySem.W.fnOf name qual params body scope dV kV doc pm an cdv ct), osl⟩) (hcd : PySem.W.codeIn K cdv qual = true) (S : FnScope N ps scope)
    (len : ∀ vs H Q E, sp vs H Q E → vs.length = ps.length)
    (hbody : ∀ (A : Around) (outer : List Env) (s : Shared) (H : Hp) (vs : List V) (Q : VK) (E : XK), Room k (A.deeper (envOfC qual scope s.heap.objs.size f cdv)) → sp vs H Q E →
      ∃ t, PSs (cxOf CX P w K mg base N qual scope f cdv A outer s H E) body t ∧ t { nx := fun _ H' => Q .non H', rt := Q } (start N vs) H) :
    FnOk P w K mg base CX (k + 1) f (PySem.W.fnOf name qual params body scope dV kV doc pm an cdv ct) ps sp := by
  refine ⟨len, fun A outer s H args us vs Q E hr e0 hb r hsp => ?_⟩
  have hl := len _ _ _ _ hsp
  have KX : K.In s.heap := e0.mod.kin.keeps fun b o e => (e0.bs b o e).1
  have lim : s.heap.NoLimit := e0.mod.nolimit.keeps fun b o e => (e0.bs b o e).1
  have hkind : ∀ y ∈ ps.zip us, scope.names.lookup y.1 = some .local ∨ (scope.names.lookup y.1 = some .cell ∧ ((cellsFrom (s.heap.objs.size + 1) scope.names []).lookup y.1).isSome = true) := fun ⟨n, v⟩ hy => by
    rcases S.par n (List.of_mem_zip hy).1 with q | q
    · exact .inl q
    · exact .inr ⟨q, PySem.W.cellsFrom_some _ _ _ (.inl q)⟩
  refine codeAny_call_function hr.depth (KX _ _ lk) rfl S.co S.gen rfl (PySem.W.codeRec_of KX hcd) (hb _ _ _ _ ?_)
  refine wpAny_newFunctionEnv_cells S.kind hkind fun env he s1 x => ?_
  subst he
  refine ⟨lim.keeps x.toInCall.keep, codeAny_func ?_⟩
  obtain ⟨t, ht, hq⟩ := hbody A outer s H vs Q E (hr.deeper _) hsp
  have I : Inv (cxOf CX P w K mg base N qual scope f cdv A outer s H E) [] (start N vs) H s1 := inv_start S hr.hd e0 hl r x
  refine wpAny_mono (ht [] s1 (start N vs) H _ I hq) (fun fl s' hs => ?_) fun e s' hs => hs
  have fin : ∀ {σ' : St} {H' : Hp} {v : V} {u : Value}, Inv (cxOf CX P w K mg base N qual scope f cdv A outer s H E) [] σ' H' s' → RelV v u → Q v H' → CE outer P w H s Q u s' :=
    fun {σ' H' v u} J rv q => ⟨v, H', J.os, J.bare, J.base, J.hok, rv, q⟩
  cases fl with
  | ret u =>
    obtain ⟨v, σ', H', J, rv, q⟩ := hs
    exact fin J rv q
  | next =>
    obtain ⟨σ', H', J, q⟩ := hs
    exact fin (v := V.non) (u := Value.none) J rfl q
  | brk =>
    obtain ⟨_, _, _, q⟩ := hs
    exact False.elim q
  | cont =>
    obtain ⟨_, _, _, q⟩ := hs
    exact False.elim q
end L2
namespace L2
open PySem PySem.Spec PyProof.Rows
section
variable {X : Cx} {x : Str} {p pos : Pos} {e : Expr} {es : List Expr} {t : TA} {id T : String} {r : List V → Hp → VK → Prop}
def tCB (r : List V → Hp → VK → Prop) (t : TA) : TE := fun σ H Q => t σ H fun vs H1 => r vs H1 Q
theorem pe_callB (hc : CallR X (.builtin id) r) (hg : Gl X x) (hm : X.mg x = none) (hv : bootBuiltins x = some (.builtin id)) (ha : PA X (e :: es) t) (hn : x ≠ "__name__" := by decide) (hdb : (x == ("__debug__" : Str)) = false := by decide)
    (he : starEach (e :: es) X.env = (false, eval e X.env) :: starEach es X.env := by rfl) (hpl : (backTo pos (starEach es X.env)).any (·.1) = false := by rfl) : PE X (.Call (.Name x p) (e :: es) [] pos) (tCB r t) := by
  intro pins s σ H Q I h
  refine wpAny_Call_Name_kw (ld_blt I hg hm hv ?_ hn hdb)
  exact PyProof.Rows.callWith_builtin1 (thn (ha pos pins s σ H _ I h) fun us s1 ⟨vs, H1, I1, r1, q1⟩ => hc pins s1 σ H1 vs us Q I1 r1 q1) he hpl
theorem pe_callTy (hc : CallR X (.type T) r) (hg : Gl X x) (hm : X.mg x = none) (hv : bootBuiltins x = some (.type T)) (ha : PA X (e :: es) t) (hn : x ≠ "__name__" := by decide) (hdb : (x == ("__debug__" : Str)) = false := by decide)
    (he : starEach (e :: es) X.env = (false, eval e X.env) :: starEach es X.env := by rfl) (hpl : (backTo pos (starEach es X.env)).any (·.1) = false := by rfl) : PE X (.Call (.Name x p) (e :: es) [] pos) (tCB r t) := by
  intro pins s σ H Q I h
  refine wpAny_Call_Name_kw (ld_blt I hg hm hv ?_ hn hdb)
  exact PyProof.Rows.callWith_type1 (thn (ha pos pins s σ H _ I h) fun us s1 ⟨vs, H1, I1, r1, q1⟩ => hc pins s1 σ H1 vs us Q I1 r1 q1) he hpl
end
end L2
namespace L2
open PySem PySem.Spec PyProof.Rows
section
variable {κ : Type} [DecidableEq κ]
def valV (kvs : List (κ × V)) (k : κ) : Option V := (kvs.find? fun kv => decide (kv.1 = k)).map (·.2)
def putK (kvs : List (κ × V)) (k : κ) (v : V) : List (κ × V) :=
  if (kvs.any fun kv => decide (kv.1 = k)) = true then kvs.map (fun kv => if kv.1 = k then (kv.1, v) else kv) else kvs ++ [(k, v)]
theorem valV_pos {p : κ × V} {r : List (κ × V)} {k : κ} (e : p.1 = k) : valV (p :: r) k = some p.2 := by simp [valV, List.find?_cons, e]
theorem valV_neg {p : κ × V} {r : List (κ × V)} {k : κ} (e : ¬ p.1 = k) : valV (p :: r) k = valV r k := by simp [valV, List.find?_cons, e]
theorem valV_any (k : κ) : ∀ kvs : List (κ × V), (kvs.any fun kv => decide (kv.1 = k)) = (valV kvs k).isSome
  | [] => rfl
  | p :: r => by
    rw [List.any_cons]
    by_cases e : p.1 = k
    · simp only [valV_pos e, decide_eq_true e, Bool.true_or, Option.isSome_some]
    · rw [valV_neg e, decide_eq_false e, Bool.false_or]; exact valV_any k r
theorem length_putK (kvs : List (κ × V)) (k : κ) (v : V) : (putK kvs k v).length ≤ kvs.length + 1 := by
  unfold putK
  split
  · rw [List.length_map]; omega
  · rw [List.length_append, List.length_cons, List.length_nil]; omega
theorem RelO.isSome_eq {o : Option V} {u : Option Value} (r : RelO o u) : o.isSome = u.isSome := by
  cases o with
  | none => cases u with
    | none => rfl
    | some _ => exact (show False from r).elim
  | some _ => cases u with
    | none => exact (show False from r).elim
    | some _ => rfl
theorem KV.any {kvs : List (κ × V)} {vs : List (κ × Value)} (r : KV kvs vs) (k : κ) : (kvs.any fun kv => decide (kv.1 = k)) = vs.any fun kv => decide (kv.1 = k) := by
  unfold KV at r
  induction r with
  | nil => rfl
  | cons h t ih => rw [List.any_cons, List.any_cons, ih, h.1]
theorem KV.repl {kvs : List (κ × V)} {vs : List (κ × Value)} (r : KV kvs vs) (k : κ) {y : V} {u : Value} (ry : RelV y u) :
    KV (kvs.map fun kv => if kv.1 = k then (kv.1, y) else kv) (vs.map fun kv => if kv.1 = k then (kv.1, u) else kv) := by
  unfold KV at r ⊢
  induction r with
  | nil => exact .nil
  | @cons p q ps qs h t ih =>
    rw [List.map_cons, List.map_cons]
    refine .cons ?_ ih
    obtain ⟨h1, h2⟩ := h
    by_cases e : p.1 = k
    · rw [if_pos e, if_pos (h1.symm.trans e)]; exact ⟨h1, ry⟩
    · rw [if_neg e, if_neg (fun z => e (h1.trans z))]; exact ⟨h1, h2⟩
theorem KV.put {kvs : List (κ × V)} {vs : List (κ × Value)} (r : KV kvs vs) (k : κ) {y : V} {u : Value} (ry : RelV y u) : KV (putK kvs k y) (stored vs k u) := by
  unfold putK stored
  rw [r.any k]
  by_cases e : (vs.any fun kv => decide (kv.1 = k)) = true
  · rw [if_pos e, if_pos e]; exact r.repl k ry
  · rw [if_neg e, if_neg e]; exact Paired.snoc r ⟨rfl, ry⟩
theorem KV.keys {kvs : List (κ × V)} {vs : List (κ × Value)} (r : KV kvs vs) : kvs.map (·.1) = vs.map (·.1) := by
  unfold KV at r
  induction r with
  | nil => rfl
  | cons h t ih => rw [List.map_cons, List.map_cons, ih, h.1]
theorem KV.length {kvs : List (κ × V)} {vs : List (κ × Value)} (r : KV kvs vs) : kvs.length = vs.length := Paired.length r
end
theorem kV_is {P : Program} {w : World} {k : Key} {u : Value} (r : RelV (kV k) u) : (mixKind P w).is k u = true := by
  cases k with
  | inl i => obtain ⟨t, e⟩ := (show ∃ t, u = Value.int i t from r); subst e; exact mixKind_int P w i t
  | inr x => obtain ⟨t, e⟩ := (show ∃ t, u = Value.str x t from r); subst e; exact mixKind_str P w x t
theorem items_are {P : Program} {w : World} : ∀ {ks : List Key} {us : List Value}, Vals (ks.map kV) us → ItemsAre (mixKind P w) ks us
  | [], _, r => by rw [List.map_nil] at r; cases r; exact .nil
  | k :: ks, _, r => by
    rw [List.map_cons] at r
    cases r with
    | cons h t => exact .cons (kV_is h) (items_are t)
abbrev KT (H : Hp) : List (List Key × V) → List (List Key × Addr × Value) → Prop := Paired fun p q => p.1 = q.1 ∧ H q.2.1 = some (.tup (p.1.map kV)) ∧ RelV p.2 q.2.2
theorem KT.val {H : Hp} {kvs : List (List Key × V)} {xs : List (List Key × Addr × Value)} (r : KT H kvs xs) (k : List Key) : RelO (valV kvs k) ((atKey xs k).map (·.2)) := by
  induction r with
  | nil => exact True.intro
  | @cons p q ps qs h t ih =>
    obtain ⟨h1, _, h2⟩ := h
    by_cases e : p.1 = k
    · have e' : q.1 = k := h1.symm.trans e
      have b : atKey (q :: qs) k = some q.2 := by simp [atKey, List.find?_cons, e']
      rw [valV_pos e, b]; exact h2
    · have e' : ¬ q.1 = k := fun z => e (h1.trans z)
      have b : atKey (q :: qs) k = atKey qs k := by simp [atKey, List.find?_cons, e']
      rw [valV_neg e, b]; exact ih
theorem KT.repl {H : Hp} {kvs : List (List Key × V)} {xs : List (List Key × Addr × Value)} (r : KT H kvs xs) (k : List Key) {y : V} {u : Value} (ry : RelV y u) :
    KT H (kvs.map fun kv => if kv.1 = k then (kv.1, y) else kv) (xs.map (putAt k u)) := by
  induction r with
  | nil => exact .nil
  | @cons p q ps qs h t ih =>
    rw [List.map_cons, List.map_cons]
    refine .cons ?_ ih
    obtain ⟨h1, h2, h3⟩ := h
    unfold putAt
    by_cases e : p.1 = k
    · rw [if_pos e, if_pos (h1.symm.trans e)]; exact ⟨h1, h2, ry⟩
    · rw [if_neg e, if_neg (fun z => e (h1.trans z))]; exact ⟨h1, h2, h3⟩
theorem KT.put {H : Hp} {kvs : List (List Key × V)} {xs : List (List Key × Addr × Value)} (r : KT H kvs xs) (k : List Key) {b : Addr} {y : V} {u : Value} (hb : H b = some (.tup (k.map kV))) (ry : RelV y u) :
    KT H (putK kvs k y) (storedH xs k b u) := by
  have e : (kvs.any fun kv => decide (kv.1 = k)) = (atKey xs k).isSome := by
    rw [valV_any, (r.val k).isSome_eq, Option.isSome_map]
  unfold putK storedH
  rw [e]
  by_cases q : (atKey xs k).isSome = true
  · rw [if_pos q, if_pos q]; exact r.repl k ry
  · rw [if_neg q, if_neg q]; exact Paired.snoc r ⟨rfl, hb, ry⟩
theorem KT.keeps {H H' : Hp} {kvs : List (List Key × V)} {xs : List (List Key × Addr × Value)} (r : KT H kvs xs) (ht : ∀ b ys, H b = some (.tup ys) → H' b = some (.tup ys)) : KT H' kvs xs :=
  Paired.mapP r fun _ _ z => ⟨z.1, ht _ _ z.2.1, z.2.2⟩
section
variable {P : Program} {w : World} {H : Hp} {h : Heap} {a : Addr}
theorem rd_of {u : HO} (ok : HOk P w H h) (e : Rd H a u) : ObjOk P w H h a u := e.ok ok
theorem dk_rd {kvs : List (Key × V)} (ok : HOk P w H h) (e : Rd H a (.dK kvs)) : kvs.length ≤ sizeLine ∧ (a == sysModules) = false ∧ ∃ vs, KV kvs vs ∧ h.DictOf (mixKind P w) a vs :=
  show ObjOk P w H h a (.dK kvs) from rd_of ok e
theorem dk_of {kvs : List (Key × V)} (ok : HOk P w H h) (e : H a = some (.dK kvs)) : kvs.length ≤ sizeLine ∧ (a == sysModules) = false ∧ ∃ vs, KV kvs vs ∧ h.DictOf (mixKind P w) a vs := dk_rd ok (.inl e)
theorem key_of {ks : List Key} (ok : HOk P w H h) (e : H a = some (.tup (ks.map kV))) : (tupleKind (mixKind P w)).is h ks a := by
  obtain ⟨_, its, r, ⟨o, h1, h2, n, h3⟩, _⟩ := (show ObjOk P w H h a (.tup (ks.map kV)) from ok a _ e)
  exact ⟨o, its.toArray, n, h1, h2, h3, by simpa using items_are r⟩
theorem dt_rd {kvs : List (List Key × V)} (ok : HOk P w H h) (e : Rd H a (.dT kvs)) : kvs.length ≤ sizeLine ∧ (a == sysModules) = false ∧
    ∃ xs, KT H kvs xs ∧ h.DictOfH (tupleKind (mixKind P w)) a xs := by
  obtain ⟨z, y, xs, r, o, es, ep, h1, h2, h3, h4, h5⟩ := (show ObjOk P w H h a (.dT kvs) from rd_of ok e)
  refine ⟨z, y, xs, r, o, es, ep, h1, h2, h3, h4, fun x hx => ?_, h5⟩
  have all : ∀ {l : List (List Key × V)} {m : List (List Key × Addr × Value)}, KT H l m → ∀ x ∈ m, (tupleKind (mixKind P w)).is h x.1 x.2.1 := by
    intro l m q
    induction q with
    | nil => intro x hx; exact nomatch hx
    | @cons p q ps qs hq t ih =>
      intro x hx
      rcases List.mem_cons.mp hx with e | hx
      · subst e
        exact key_of ok (by rw [← hq.1]; exact hq.2.1)
      · exact ih x hx
  exact all r x hx
theorem dt_of {kvs : List (List Key × V)} (ok : HOk P w H h) (e : H a = some (.dT kvs)) : kvs.length ≤ sizeLine ∧ (a == sysModules) = false ∧
    ∃ xs, KT H kvs xs ∧ h.DictOfH (tupleKind (mixKind P w)) a xs := dt_rd ok (.inl e)
end
def DPut (H : Hp) (a : Addr) (y v : V) (H' : Hp) : Prop :=
  (∃ kvs k, H a = some (.dK kvs) ∧ y = kV k ∧ kvs.length < sizeLine ∧ H' = upd H a (.dK (putK kvs k v))) ∨
  ∃ kvs k b, H a = some (.dT kvs) ∧ y = .ref b ∧ H b = some (.tup (k.map kV)) ∧ kvs.length < sizeLine ∧ H' = upd H a (.dT (putK kvs k v))
theorem DPut.k {H : Hp} {a : Addr} {kvs : List (Key × V)} {k : Key} {v : V} (e : H a = some (.dK kvs)) (hl : kvs.length < sizeLine) : DPut H a (kV k) v (upd H a (.dK (putK kvs k v))) := .inl ⟨kvs, k, e, rfl, hl, rfl⟩
section
variable {X : Cx} {pins : List (Addr × Obj)} {σ : St} {H : Hp} {s : Shared} {a : Addr} {y v : V} {u r : Value} {o : Option V} {A : Around} {E : Value → Shared → Prop}
theorem Inv.big (I : Inv X pins σ H s) : sysModules < s.heap.objs.size := by
  have h : mainGlobals < s.heap.objs.size := (I.mod.glob.keeps I.bk).lt
  exact Nat.lt_trans (by decide) h
theorem d_write {h' : Heap} {t' : Nat} {ob : HO} (I : Inv X pins σ H s) (mu : Mut (H a)) (hs : Heap.SameBut a s.heap h') (he : ∃ q, h'.get? a = some q) (new : ObjOk X.prog X.w (upd H a ob) h' a ob) :
    Inv X pins σ (upd H a ob) { s with heap := h', toks := t' } :=
  I.write (x := a) (e := a) mu (.inl rfl) (fun b q hb z => (hs.2 b hb).trans z) he new
theorem dk_new {P : Program} {w : World} {H' : Hp} {h' : Heap} {kvs : List (Key × V)} {vs : List (Key × Value)} (z : kvs.length ≤ sizeLine) (hd : (a == sysModules) = false) (rel : KV kvs vs) (dd : h'.DictOf (mixKind P w) a vs) :
    ObjOk P w H' h' a (.dK kvs) := ⟨z, hd, vs, rel, dd⟩
theorem d_setItem {H' : Hp} {Q : Unit → Shared → Prop} (hu : A.units + 1 < cLine) (I : Inv X pins σ H s) (g : DPut H a y v H') (ry : RelV y u) (rv : RelV v r) (h : ∀ s', Inv X pins σ H' s' → Q () s') :
    wpAny (model X.prog X.w) A (setItem (.ref a) u r) Q E s := by
  rcases g with ⟨kvs, k, e, ey, l, eH⟩ | ⟨kvs, k, b, e, ey, eb, l, eH⟩
  · subst ey eH
    obtain ⟨z, hd, vs, rel, dd⟩ := dk_of I.hok e
    have hz : vs.length ≤ sizeLine := by rw [← rel.length]; exact z
    have hl : (putK kvs k v).length ≤ sizeLine := by have := length_putK kvs k v; omega
    refine wpAny_setItem_pairs (hsz := hz) (kV_is ry) dd fun h' dd' hs => h _ ?_
    have he : ∃ q, h'.get? a = some q := let ⟨q, _, _, hq, _⟩ := dd'; ⟨q, hq⟩
    exact d_write I (by rw [e]; exact True.intro) hs he (dk_new hl hd (rel.put k rv) dd')
  · subst ey eH
    cases (show u = Value.ref b from ry)
    obtain ⟨z, hd, xs, rel, dd⟩ := dt_of I.hok e
    have hz : xs.length ≤ sizeLine := by rw [← Paired.length rel]; exact z
    have hl : (putK kvs k v).length ≤ sizeLine := by have := length_putK kvs k v; omega
    refine wpAny_setItem_heap (hsz := hz) (tupleKind_room_in1 hu) (key_of I.hok eb) dd fun h' dd' hs => h _ ?_
    obtain ⟨q, es, ep, hq, h2, h3, h4, _, h5⟩ := dd'
    refine d_write I (by rw [e]; exact True.intro) hs ⟨q, hq⟩ ⟨hl, hd, _, (rel.put k eb rv).keeps fun c ys ec => ?_, q, es, ep, hq, h2, h3, h4, h5⟩
    rw [upd_ne (ne_of ec e (fun z => nomatch z))]
    exact ec
end
section
variable {X : Cx} {pins : List (Addr × Obj)} {σ : St} {H : Hp} {s : Shared} {a : Addr} {kvs : List (Key × V)} {k : Key} {u : Value} {A : Around} {E : Value → Shared → Prop}
end
def sDPut (td ty tv : TE) : TS := fun D σ H => tv σ H fun v H1 => td σ H1 fun x H2 => ty σ H2 fun y H3 => ∃ a H4, x = .ref a ∧ DPut H3 a y v H4 ∧ D.nx σ H4
section
variable {X : Cx} {o i e value : Expr} {pos pos' tpos : Pos} {td ty tv : TE}
theorem ps_dput (hu : X.A.units + 1 < cLine) (ho : PE X o td) (hi : PE X i ty) (hv : PE X value tv) (hs : swapsWith value (some (.Subscript o i pos')) pos.line X.env = pure false) :
    PS X (.Assign [.Subscript o i pos'] value pos) (sDPut td ty tv) := by
  intro pins s σ H D I h
  refine wpAny_Assign_Subscript (thn (hv pins s σ H _ I h) fun r s1 ⟨v, H1, I1, rv, q1⟩ => thn (ho pins s1 σ H1 _ I1 q1) fun u s2 ⟨x, H2, I2, rx, q2⟩ => thn (hi pins s2 σ H2 _ I2 q2) fun iv s3 ⟨y, H3, I3, ry, a, H4, ex, g, q3⟩ => ?_) hs
  subst ex
  obtain rfl : u = Value.ref a := rx
  exact d_setItem hu I3 g ry rv fun s4 I4 => ⟨σ, H4, I4, q3⟩
end
theorem dk_empty {P : Program} {w : World} {H : Hp} (h : Heap) (hb : sysModules < h.objs.size) : ObjOk P w H (h.push { cls := .type "dict", data := .dict #[] }) h.objs.size (.dK []) :=
  ⟨Nat.zero_le _, beq_eq_false_iff_ne.mpr (Ne.symm (Nat.ne_of_lt hb)), [], .nil, Heap.DictOf.new h⟩
def tDNewK : TE := fun _ H Q => ∀ p, H p = none → Q (.ref p) (upd H p (.dK []))
section
variable {X : Cx} {pos : Pos}
theorem pe_dnewK : PE X (.Dict [] [] pos) tDNewK := fun pins s σ H Q I h =>
  wpAny_Dict_empty ⟨.ref s.heap.objs.size, _, I.laid (a := s.heap.objs.size) (o := .dK []) (t' := s.toks) (fun _ _ q => Heap.get?_push_of_some _ q) (Nat.le_refl _) (dk_empty s.heap I.big), rfl, h _ (I.hok.fresh (Nat.le_refl _))⟩
end
section
variable {X : Cx} {pins : List (Addr × Obj)} {σ : St} {H : Hp} {s : Shared} {a : Addr} {y d : V} {u r : Value} {o : Option V} {A : Around} {E : Value → Shared → Prop}
end
section
variable {X : Cx} {o e f : Expr} {apos cpos : Pos} {td ty tx : TE}
end
section
variable {X : Cx} {pins : List (Addr × Obj)} {σ : St} {H : Hp} {s : Shared} {a : Addr} {kvs : List (Key × V)} {A : Around} {E : Value → Shared → Prop}
end
section
variable {X : Cx} {pins : List (Addr × Obj)} {σ : St} {H : Hp} {s : Shared} {a : Addr} {y : V} {u : Value} {A : Around} {E : Value → Shared → Prop}
end
end L2
namespace HT
open PySem PyProof.Rows
section
open PySem.SeqAt
open PySem.AutoSeq1 (wpAny_loadPart')
open PySem.MeetsSeq PySem.MeetsSeq2 PySem.MeetsSeq3
end
section
variable {prog : Program} {w : World} {A : Around} {E : Value → Shared → Prop} {s : Shared}
def sIx (n d : Nat) : Option Int → Nat
  | none => d
  | some v => if v < 0 then (v + (n : Int)).toNat else min v.toNat n
theorem sIx_none (n d : Nat) : sIx n d none = d := rfl
theorem sIx_nat (n d k : Nat) : sIx n d (some (k : Int)) = min k n := by
  show (if (k : Int) < 0 then ((k : Int) + (n : Int)).toNat else min (k : Int).toNat n) = min k n
  rw [if_neg (by omega), Int.toNat_natCast]
end
end HT
namespace L2
open PySem PySem.Spec PyProof.Rows
abbrev TO := St → Hp → (Option Int → Hp → Prop) → Prop
def PO (X : Cx) (e : Option Expr) (t : TO) : Prop :=
  ∀ (pins : List (Addr × Obj)) (s : Shared) (σ : St) (H : Hp) (Q : Option Int → Hp → Prop), Inv X pins σ H s → t σ H Q →
    wpAny (model X.prog X.w) X.A (evalPart e X.env) (fun u s' => ∃ o H', Inv X pins σ H' s' ∧ IsPart u o ∧ Q o H') X.xe s
def tNoPart : TO := fun _ H Q => Q none H
def tPart (t : TE) : TO := fun σ H Q => t σ H fun x H1 => ∃ i, x = .int i ∧ Q (some i) H1
section
variable {X : Cx} {e : Expr} {te : TE} {lo hi : Option Expr} {tl th : TO} {pos p2 : Pos}
theorem po_none : PO X none tNoPart := by
  intro pins s σ H Q I h
  rw [evalPart_none]
  exact wpAny_pure ⟨none, H, I, .none, h⟩
theorem po_some (h : PE X e te) : PO X (some e) (tPart te) := by
  intro pins s σ H Q I hw
  rw [evalPart_some]
  refine thn (h pins s σ H _ I hw) fun u s1 ⟨x, H1, I1, r1, q1⟩ => ?_
  obtain ⟨i, rfl, q⟩ := q1
  obtain ⟨t, rfl⟩ := r1
  exact ⟨some i, H1, I1, .int i t, q⟩
def SlR (X : Cx) (r : V → Option Int → Option Int → Hp → VK → Prop) : Prop :=
  ∀ (pins : List (Addr × Obj)) (s : Shared) (σ : St) (H : Hp) (x : V) (v vl vu : Value) (lo hi : Option Int) (sl : Addr) (Q : VK), Inv X pins σ H s → RelV x v → s.heap.IsSliceOf sl vl vu .none → IsPart vl lo → IsPart vu hi → r x lo hi H Q →
    ∃ T id, typeLookup (.type T) "__getitem__" = pure (some (.builtin id)) ∧ s.TypeIs v T ∧ wpAny (model X.prog X.w) X.A (getItem v (.ref sl)) (EP X pins σ Q) X.xe s
def tSl (r : V → Option Int → Option Int → Hp → VK → Prop) (te : TE) (tl th : TO) : TE := fun σ H Q => te σ H fun x H1 => tl σ H1 fun l H2 => th σ H2 fun u H3 => r x l u H3 Q
theorem pe_slice {r : V → Option Int → Option Int → Hp → VK → Prop} (hr : SlR X r) (he : PE X e te) (hl : PO X lo tl) (hu : PO X hi th) : PE X (.Subscript e (.Slice lo hi none p2) pos) (tSl r te tl th) := by
  intro pins s σ H Q I h
  refine Subscript_ (thn (he pins s σ H _ I h) fun v s1 ⟨x, H1, I1, r1, q1⟩ => ?_)
  refine wpAny_Slice (thn (hl pins s1 σ H1 _ I1 q1) fun vl s2 ⟨l, H2, I2, pl, q2⟩ => thn (hu pins s2 σ H2 _ I2 q2) fun vu s3 ⟨u, H3, I3, pu, q3⟩ => ?_)
  rw [evalPart_none]
  refine wpAny_pure ?_
  have I4 : Inv X pins σ H3 { s3 with heap := s3.heap.push { cls := .type "slice", data := .fields #[vl, vu, .none] } } := I3.kept (t' := s3.toks) fun b ob q => Heap.get?_push_of_some _ q
  obtain ⟨T, id, hT, ht, hg⟩ := hr pins { s3 with heap := s3.heap.push { cls := .type "slice", data := .fields #[vl, vu, .none] } } σ H3 x v vl vu l u s3.heap.objs.size Q I4 r1 (Heap.IsSliceOf.new ..) pl pu q3
  show wpAny (model X.prog X.w) X.A (subscriptTail e (.Slice lo hi none p2) v (.ref s3.heap.objs.size)) (EP X pins σ Q) X.xe { s3 with heap := s3.heap.push { cls := .type "slice", data := .fields #[vl, vu, .none] } }
  exact tail_any (ops := [.ref s3.heap.objs.size, v]) ht hT hg (by with_unfolding_all rfl)
def cutV (xs : List V) (lo hi : Option Int) : List V := (xs.drop (HT.sIx xs.length 0 lo)).take (HT.sIx xs.length xs.length hi - HT.sIx xs.length 0 lo)
theorem cutV_length (xs : List V) (lo hi : Option Int) : (cutV xs lo hi).length ≤ xs.length := by
  unfold cutV
  rw [List.length_take, List.length_drop]
  omega
end
end L2
namespace L2
open PySem PySem.Spec PyProof.Rows
def ixN (n : Nat) (i : Int) : Option Nat := if 0 ≤ i then (if i < n then some i.toNat else none) else if -(n : Int) ≤ i then some (i + n).toNat else none
def atI {α : Type} (xs : List α) (i : Int) : Option α := (ixN xs.length i).bind fun j => xs[j]?
theorem ixN_seq {n : Nat} {i : Int} {j : Nat} (h : ixN n i = some j) : seqIndex? i n = some j ∧ j < n ∧ -(n : Int) ≤ i ∧ i < n := by
  unfold ixN at h
  by_cases h0 : 0 ≤ i
  · rw [if_pos h0] at h
    by_cases h1 : i < n
    · rw [if_pos h1] at h
      have e : i.toNat = j := Option.some.inj h
      exact ⟨by rw [seqIndex_of h0 h1, e], by omega, by omega, h1⟩
    · rw [if_neg h1] at h; cases h
  · rw [if_neg h0] at h
    by_cases h1 : -(n : Int) ≤ i
    · rw [if_pos h1] at h
      have e : (i + n).toNat = j := Option.some.inj h
      exact ⟨by rw [seqIndex_neg (by omega) h1, e], by omega, h1, by omega⟩
    · rw [if_neg h1] at h; cases h
theorem atI_get {α : Type} {xs : List α} {i : Int} {v : α} (h : atI xs i = some v) : ∃ j, seqIndex? i xs.length = some j ∧ xs[j]? = some v ∧ j < xs.length ∧ -(xs.length : Int) ≤ i ∧ i < xs.length := by
  unfold atI at h
  cases e : ixN xs.length i with
  | none => rw [e] at h; cases h
  | some j =>
    rw [e] at h
    obtain ⟨h1, h2, h3, h4⟩ := ixN_seq e
    exact ⟨j, h1, h, h2, h3, h4⟩
theorem atI_nat {α : Type} {xs : List α} {j : Nat} {v : α} (h : xs[j]? = some v) : atI xs (j : Int) = some v := by
  have hj : j < xs.length := (List.getElem?_eq_some_iff.mp h).1
  have e : ixN xs.length (j : Int) = some j := by
    unfold ixN
    rw [if_pos (by omega), if_pos (by omega)]; simp
  unfold atI; rw [e]; exact h
def PlainIx (b : Expr) : Prop := ∀ o i, subscripted b false o i = operate [o, i] (getItem o i)
def IxR (X : Cx) (r : R2) : Prop :=
  ∀ (value slice : Expr) (pins : List (Addr × Obj)) (s : Shared) (σ : St) (H : Hp) (x y : V) (v u : Value) (Q : VK), Inv X pins σ H s → RelV x v → RelV y u → r x y H Q →
    subscripted slice false v u = operate [v, u] (getItem v u) → wpAny (model X.prog X.w) X.A (subscriptTail value slice v u) (EP X pins σ Q) X.xe s
def MtR (X : Cx) (id : String) (r : V → List V → Hp → VK → Prop) : Prop :=
  ∀ (pins : List (Addr × Obj)) (s : Shared) (σ : St) (H : Hp) (x : V) (xs : List V) (v : Value) (us : List Value) (Q : VK), Inv X pins σ H s → RelV x v → Vals xs us → r x xs H Q →
    wpAny (model X.prog X.w) X.A (call (.builtin id) (v :: us)) (EP X pins σ Q) X.xe s
section
variable {X : Cx} {a b : Expr} {ta tb : TE} {pos : Pos}
theorem pe_ix {r : R2} (hr : IxR X r) (ha : PE X a ta) (hb : PE X b tb) (hs : PlainIx b) : PE X (.Subscript a b pos) (tOp r ta tb) := by
  intro pins s σ H Q I h
  exact Subscript_ (binT ha hb I h fun v u s2 x y H2 I2 rx ry q => hr a b pins s2 σ H2 x y v u Q I2 rx ry q (hs _ _))
def rIxL (K : PySem.W.Frag) : R2 := fun x y H Q => ∃ p xs i v, x = .ref p ∧ y = .int i ∧ SqL K H p xs ∧ atI xs i = some v ∧ Q v H
def rIxT (K : PySem.W.Frag) : R2 := fun x y H Q => ∃ p xs i v, x = .ref p ∧ y = .int i ∧ SqT K H p xs ∧ atI xs i = some v ∧ Q v H
def rIxS : R2 := fun x y H Q => ∃ z i c, x = .str z ∧ y = .int i ∧ z.length ≤ sizeLine ∧ atI z.cps.toList i = some c ∧ Q (.str ⟨#[c]⟩) H
theorem ix_list : IxR X (rIxL X.K) := by
  intro value slice pins s σ H x y v u Q I rx ry h hs
  obtain ⟨p, xs, i, z, rfl, rfl, hq, he, q⟩ := h
  cases rx
  obtain ⟨t, rfl⟩ := ry
  obtain ⟨its, r, pl, hz⟩ := I.list hq
  obtain ⟨j, h1, h2, h3, h4, h5⟩ := atI_get he
  obtain ⟨w, ew, rw'⟩ := r.get h2
  have hl := r.length
  have hn := line63
  have fin : EP X pins σ Q w s := ⟨z, H, I, rw', q⟩
  by_cases h0 : 0 ≤ i
  · have hj : i.toNat = j := by
      rw [seqIndex_of h0 h5] at h1
      exact Option.some.inj h1
    exact item_listR pl.isList h0 (by omega) (by rw [hj]; simpa using ew) fin hs
  · have hj : (i + (its.toArray.size : Int)).toNat = j := by
      rw [seqIndex_neg (by omega) h4] at h1
      rw [List.size_toArray, ← hl]
      exact Option.some.inj h1
    exact subscriptTail_builtinR (x := w) pl.isList.typeIs slot_list_getitem.lookup
      (wpAny_getItem_list_neg (Q := fun r s' => r = w ∧ EP X pins σ Q r s') pl.isList (by omega) (by rw [List.size_toArray] <;> omega) (by omega) (by rw [hj]; simpa using ew) ⟨rfl, fin⟩) hs
theorem ix_tup : IxR X (rIxT X.K) := by
  intro value slice pins s σ H x y v u Q I rx ry h hs
  obtain ⟨p, xs, i, z, rfl, rfl, hq, he, q⟩ := h
  cases rx
  obtain ⟨t, rfl⟩ := ry
  obtain ⟨its, r, pl, hz⟩ := I.tuple hq
  obtain ⟨j, h1, h2, h3, h4, h5⟩ := atI_get he
  obtain ⟨w, ew, rw'⟩ := r.get h2
  have hl := r.length
  have hn := line63
  have fin : EP X pins σ Q w s := ⟨z, H, I, rw', q⟩
  exact subscriptTail_builtinR (x := w) pl.typeIs slot_tuple_getitem.lookup
    (getItem_tuple (j := j) (Q := fun r s' => r = w ∧ EP X pins σ Q r s') pl (by omega) (by omega) (by rw [List.size_toArray, ← hl]; exact h1) (by simpa using ew) ⟨rfl, fin⟩) hs
theorem ix_str : IxR X rIxS := by
  intro value slice pins s σ H x y v u Q I rx ry h hs
  obtain ⟨z, i, c, rfl, rfl, hz, he, q⟩ := h
  obtain ⟨t, rfl⟩ := rx
  obtain ⟨t', rfl⟩ := ry
  obtain ⟨j, h1, h2, h3, h4, h5⟩ := atI_get he
  have hl : z.cps.toList.length = z.length := by simp [Str.length]
  rw [hl] at h1 h4 h5
  have hn := line63
  exact tail_any (typeIs_str s z t) slot_str_getitem.lookup (getItem_str (c := c) (by
    have e1 : decide (i < -(2 ^ 63 : Int)) = false := decide_eq_false (by omega)
    have e2 : decide (i ≥ 2 ^ 63) = false := decide_eq_false (by omega)
    rw [e1, e2, Bool.or_false]) (by rw [h1]; simpa using h2) ⟨.str ⟨#[c]⟩, H, I.tok _, ⟨_, rfl⟩, q⟩) hs
theorem mapSeq_set (its : List Value) (n j : Nat) (u : Value) : Obj.mapSeq (·.setIfInBounds j u) { cls := .type "list", data := .seq its.toArray n } = { cls := .type "list", data := .seq (its.set j u).toArray n } := by
  simp [Obj.mapSeq]
theorem Inv.lst {pins : List (Addr × Obj)} {σ : St} {H : Hp} {s : Shared} {p : Addr} {xs : List V} (I : Inv X pins σ H s) (h : H p = some (.lst xs)) :
    ∃ (its : List Value) (n : Nat), Vals xs its ∧ s.heap.get? p = some { cls := .type "list", data := .seq its.toArray n } ∧ xs.length ≤ sizeLine := by
  obtain ⟨z, its, n, r, e⟩ := I.hok p _ h
  exact ⟨its, n, r, e, z⟩
theorem Inv.lstUpd {pins : List (Addr × Obj)} {σ : St} {H : Hp} {s : Shared} {p : Addr} {xs ys : List V} {its its' : List Value} {n n' : Nat} {f : Obj → Obj} (I : Inv X pins σ H s) (h : H p = some (.lst xs))
    (ho : s.heap.get? p = some { cls := .type "list", data := .seq its.toArray n }) (hf : f { cls := .type "list", data := .seq its.toArray n } = { cls := .type "list", data := .seq its'.toArray n' }) (r : Vals ys its') (hz : ys.length ≤ sizeLine) (t : Nat) :
    Inv X pins σ (upd H p (.lst ys)) { s with heap := s.heap.update p f, toks := t } := by
  have e : (s.heap.update p f).get? p = some { cls := .type "list", data := .seq its'.toArray n' } := by
    rw [Heap.get?_update_self f ho (by rw [hf] <;> rfl), hf]
  refine I.write (x := p) (e := p) (by rw [h]; trivial) (.inl rfl) (fun b u hb q => (Heap.get?_update_other _ _ (Ne.symm hb)).trans q) ⟨_, e⟩ ?_
  exact ⟨hz, its', n', r, e⟩
def rSetL : V → V → V → Hp → (Hp → Prop) → Prop := fun o i v H Q => ∃ p xs k j, o = .ref p ∧ i = .int k ∧ H p = some (.lst xs) ∧ ixN xs.length k = some j ∧ Q (upd H p (.lst (xs.set j v)))
theorem set_list : PSet X rSetL := by
  intro pins s σ H o i v ov iv u Q I ro ri rv h
  obtain ⟨p, xs, k, j, rfl, rfl, hp, hj, q⟩ := h
  cases ro
  obtain ⟨t, rfl⟩ := ri
  obtain ⟨its, n, r, ho, hz⟩ := I.lst hp
  obtain ⟨h1, h2, h3, h4⟩ := ixN_seq hj
  have hl := r.length
  have hn := line63
  have I' : Inv X pins σ (upd H p (.lst (xs.set j v))) { s with heap := s.heap.update p (Obj.mapSeq (·.setIfInBounds j u)) } :=
    I.lstUpd hp ho (mapSeq_set its n j u) (r.set rv j) (by rw [List.length_set]; exact hz) s.toks
  by_cases h0 : 0 ≤ k
  · have hk : k.toNat = j := by
      rw [seqIndex_of h0 h4] at h1
      exact Option.some.inj h1
    exact PySem.W.ki_setAt ho h0 (by omega) (by rw [List.size_toArray, ← hl]; exact h4) (by rw [hk]; exact ⟨_, I', q⟩)
  · have hk : (k + (its.toArray.size : Int)).toNat = j := by
      rw [seqIndex_neg (by omega) h3] at h1
      rw [List.size_toArray, ← hl]
      exact Option.some.inj h1
    exact PySem.W.ki_setBack ho (by omega) (by rw [List.size_toArray, ← hl]; exact h3) (by omega) (by rw [hk]; exact ⟨_, I', q⟩)
theorem slice_bounds (lo hi : Option Int) (n : Nat) : (sliceBounds lo hi none n).1 = ((HT.sIx n 0 lo : Nat) : Int) ∧ (sliceBounds lo hi none n).2.1 = ((HT.sIx n n hi : Nat) : Int) ∧ (sliceBounds lo hi none n).2.2 = 1 := by
  refine ⟨?_, ?_, rfl⟩
  · cases lo with
    | none => simp [sliceBounds, HT.sIx]
    | some i =>
      simp only [sliceBounds, HT.sIx, Option.getD_none, show (1 : Int) > 0 by decide, if_true]
      by_cases h : i < 0
      · simp only [h, if_true] <;> omega
      · simp only [h, if_false] <;> omega
  · cases hi with
    | none => simp [sliceBounds, HT.sIx]
    | some i =>
      simp only [sliceBounds, HT.sIx, Option.getD_none, show (1 : Int) > 0 by decide, if_true]
      by_cases h : i < 0
      · simp only [h, if_true] <;> omega
      · simp only [h, if_false] <;> omega
theorem slicePick_cut (its : List Value) (lo hi : Option Int) : slicePick its.toArray lo hi none = ((its.drop (HT.sIx its.length 0 lo)).take (HT.sIx its.length its.length hi - HT.sIx its.length 0 lo)).toArray := by
  obtain ⟨h1, h2, h3⟩ := slice_bounds lo hi its.toArray.size
  unfold slicePick
  rw [h1, h2, h3]
  simp only [sliceRange_one, pick_run, List.size_toArray] <;> rfl
def rSlL (K : PySem.W.Frag) : V → Option Int → Option Int → Hp → VK → Prop := fun x lo hi H Q => ∃ a xs, x = .ref a ∧ SqL K H a xs ∧ ∀ p, H p = none → Q (.ref p) (upd H p (.lst (cutV xs lo hi)))
theorem sl_list : SlR X (rSlL X.K) := by
  intro pins s σ H x v vl vu lo hi sl Q I rx hs pl pu h
  obtain ⟨a, xs, rfl, hx, q⟩ := h
  cases rx
  obtain ⟨its, r, ht, hz⟩ := I.list hx
  have hlen := r.length
  refine ⟨"list", _, slot_list_getitem.lookup, ht.isList.typeIs, ?_⟩
  refine wpAny_getItem_list_slice ht.isList hs pl pu .none (by simp) ?_ (by rw [List.size_toArray] <;> omega)
  rw [slicePick_cut, ← hlen]
  refine ⟨.ref s.heap.objs.size, _, I.laid (t' := s.toks) (o := .lst (cutV xs lo hi)) (fun b ob q => Heap.get?_push_of_some _ q) (Nat.le_refl _) ?_, rfl, q _ (I.hok.fresh (Nat.le_refl _))⟩
  exact ⟨Nat.le_trans (cutV_length xs lo hi) hz, _, 0, (r.drop (HT.sIx xs.length 0 lo)).take (HT.sIx xs.length xs.length hi - HT.sIx xs.length 0 lo), Heap.get?_push_size _ rfl⟩
def flatV : V → Bool
  | .non => true
  | .bl _ => true
  | .int _ => true
  | .str _ => true
  | _ => false
def eqV : V → V → Bool
  | .non, .non => true
  | .bl a, .bl b => a == b
  | .bl a, .int b => (if a then 1 else 0) == b
  | .int a, .bl b => a == (if b then 1 else 0)
  | .int a, .int b => a == b
  | .str a, .str b => a == b
  | _, _ => false
theorem eqAt_V {A : Around} {s : Shared} {y x : V} {u v : Value} (ry : RelV y u) (rx : RelV x v) (fy : flatV y = true) (fx : flatV x = true) : SeqAt.EqAt A s u v (eqV y x) := by
  cases y with
  | non =>
    cases ry
    cases x with
    | non => cases rx; exact SeqAt.EqAt.same _
    | bl b => cases rx; exact SeqAt.EqAt.none_bool b
    | int b => obtain ⟨t, rfl⟩ := rx; exact SeqAt.EqAt.none_int b t
    | str b => obtain ⟨t, rfl⟩ := rx; exact SeqAt.EqAt.none_str b t
    | _ => exact absurd (show false = true from fx) Bool.false_ne_true
  | bl a =>
    cases ry
    cases x with
    | non => cases rx; exact SeqAt.EqAt.bool_none a
    | bl b => cases rx; exact SeqAt.EqAt.bool_bool a b
    | int b => obtain ⟨t, rfl⟩ := rx; exact SeqAt.EqAt.bool_int a b t
    | str b => obtain ⟨t, rfl⟩ := rx; exact SeqAt.EqAt.bool_str a b t
    | _ => exact absurd (show false = true from fx) Bool.false_ne_true
  | int a =>
    obtain ⟨t', rfl⟩ := ry
    cases x with
    | non => cases rx; exact SeqAt.EqAt.int_none a t'
    | bl b => cases rx; exact SeqAt.EqAt.int_bool a t' b
    | int b => obtain ⟨t, rfl⟩ := rx; exact SeqAt.EqAt.int_int a t' b t
    | str b => obtain ⟨t, rfl⟩ := rx; exact SeqAt.EqAt.int_str a t' b t
    | _ => exact absurd (show false = true from fx) Bool.false_ne_true
  | str a =>
    obtain ⟨t', rfl⟩ := ry
    cases x with
    | non => cases rx; exact SeqAt.EqAt.str_none a t'
    | bl b => cases rx; exact SeqAt.EqAt.str_bool a t' b
    | int b => obtain ⟨t, rfl⟩ := rx; exact SeqAt.EqAt.str_int a t' b t
    | str b => obtain ⟨t, rfl⟩ := rx; exact SeqAt.EqAt.str_str a t' b t
    | _ => exact absurd (show false = true from fx) Bool.false_ne_true
  | _ => exact absurd (show false = true from fy) Bool.false_ne_true
def eqU (x : V) (u : Value) : Bool := match u with
  | .none => eqV .non x
  | .bool b => eqV (.bl b) x
  | .int i _ => eqV (.int i) x
  | .str z _ => eqV (.str z) x
  | _ => false
theorem eqU_of {x y : V} {u : Value} (r : RelV y u) (f : flatV y = true) : eqU x u = eqV y x := by
  cases y with
  | non => cases r; rfl
  | bl b => cases r; rfl
  | int i => obtain ⟨t, rfl⟩ := r; rfl
  | str z => obtain ⟨t, rfl⟩ := r; rfl
  | _ => exact absurd (show false = true from f) Bool.false_ne_true
theorem any_eqU {x : V} : ∀ {xs : List V} {us : List Value}, Vals xs us → xs.all flatV = true → us.any (eqU x) = xs.any fun y => eqV y x
  | _, _, .nil, _ => rfl
  | y :: xs, u :: us, .cons r t, f => by
    rw [List.all_cons, Bool.and_eq_true] at f
    rw [List.any_cons, List.any_cons, eqU_of r f.1, any_eqU t f.2]
theorem mem_eqAt {A : Around} {s : Shared} {x : V} {v : Value} (rx : RelV x v) (fx : flatV x = true) : ∀ {xs : List V} {us : List Value}, Vals xs us → xs.all flatV = true → ∀ u ∈ us, SeqAt.EqAt A s u v (eqU x u)
  | _, _, .nil, _ => fun u hu => by cases hu
  | y :: xs, u :: us, .cons r t, f => fun u' hu => by
    rw [List.all_cons, Bool.and_eq_true] at f
    rcases List.mem_cons.mp hu with rfl | hu
    · rw [eqU_of r f.1]; exact eqAt_V r rx f.1 fx
    · exact mem_eqAt rx fx t f.2 u' hu
def inV (x : V) (xs : List V) : Bool := xs.any fun y => eqV y x
def rIn (K : PySem.W.Frag) (neg : Bool) : R2 := fun x y H Q => ∃ p xs, y = .ref p ∧ (SqL K H p xs ∨ SqT K H p xs) ∧ flatV x = true ∧ xs.all flatV = true ∧ Q (.bl (if neg then !inV x xs else inV x xs)) H
theorem op_notIn_seq : OpR X (compareOp .NotIn) (rIn X.K true) := by
  intro pins s σ H x y v u Q I rx ry h
  obtain ⟨p, xs, rfl, hq, fx, fs, q⟩ := h
  cases ry
  rcases hq with hq | hq
  · obtain ⟨its, r, pl, hz⟩ := I.list hq
    refine SeqAt.notIn_listAt (eqU x) pl.isList (fun w hw => mem_eqAt rx fx r fs w (by simpa using hw)) ⟨.bl _, H, I, rfl, ?_⟩
    rw [show its.toArray.any (eqU x) = its.any (eqU x) by simp, any_eqU r fs]
    exact q
  · obtain ⟨its, r, pl, hz⟩ := I.tuple hq
    refine SeqAt.notIn_tupleAt (eqU x) pl (fun w hw => mem_eqAt rx fx r fs w (by simpa using hw)) ⟨.bl _, H, I, rfl, ?_⟩
    rw [show its.toArray.any (eqU x) = its.any (eqU x) by simp, any_eqU r fs]
    exact q
theorem call_len_seq : CallR X (.builtin "len") (fun xs H Q => ∃ p ys, xs = [.ref p] ∧ (SqL X.K H p ys ∨ SqT X.K H p ys) ∧ Q (.int ys.length) H) := by
  intro pins s σ H xs us Q I r h
  obtain ⟨p, ys, rfl, hq, q⟩ := h
  obtain ⟨u, rfl, rx⟩ := vals1 r
  cases rx
  have hn := line63
  rcases hq with hq | hq
  · obtain ⟨its, r', pl, hz⟩ := I.list hq
    have hlen := r'.length
    exact Calls.call_len_list pl.isList (by simp only [List.size_toArray] <;> omega) ⟨.int ys.length, H, I.tok _, ⟨s.toks + 1, by rw [List.size_toArray, hlen]⟩, q⟩
  · obtain ⟨its, r', pl, hz⟩ := I.tuple hq
    have hlen := r'.length
    exact len_tuple pl (by simp only [List.size_toArray] <;> omega) ⟨.int ys.length, H, I.tok _, ⟨s.toks + 1, by rw [List.size_toArray, hlen]⟩, q⟩
theorem call_len_str : CallR X (.builtin "len") (fun xs H Q => ∃ z, xs = [.str z] ∧ z.length ≤ sizeLine ∧ Q (.int z.length) H) := by
  intro pins s σ H xs us Q I r h
  obtain ⟨z, rfl, hz, q⟩ := h
  obtain ⟨u, rfl, t, rfl⟩ := vals1 r
  have hn := line63
  exact len_str (by omega) ⟨.int z.length, H, I.tok _, ⟨_, rfl⟩, q⟩
theorem call_tuple_of : CallR X (.type "tuple") (fun xs H Q => ∃ p ys, xs = [.ref p] ∧ ((SqL X.K H p ys ∧ ∀ l, H l = none → Q (.ref l) (upd H l (.tup ys))) ∨ (SqT X.K H p ys ∧ Q (.ref p) H))) := by
  intro pins s σ H xs us Q I r h
  obtain ⟨p, ys, rfl, h⟩ := h
  obtain ⟨u, rfl, rx⟩ := vals1 r
  cases rx
  rcases h with ⟨hq, q⟩ | ⟨hq, q⟩
  · obtain ⟨its, r', pl, hz⟩ := I.list hq
    have hlen := r'.length
    refine call_tuple_list pl.isList (fun h' kp => ?_) (by simp only [List.size_toArray] <;> omega)
    have I1 : Inv X pins σ H { s with heap := h' } := I.kept (t' := s.toks) kp
    have I2 : Inv X pins σ (upd H h'.objs.size (.tup ys)) { s with heap := h'.push { cls := .type "tuple", data := .seq its.toArray } } :=
      I1.laid (t' := s.toks) (fun b o e => Heap.get?_push_of_some _ e) (Nat.le_refl _) (show ObjOk X.prog X.w _ _ _ (.tup ys) from ⟨hz, its, r', IsTup.new _ _, NoD.new _ rfl⟩)
    exact ⟨.ref h'.objs.size, _, I2, rfl, q _ (I1.hok.fresh (Nat.le_refl _))⟩
  · obtain ⟨its, r', pl, hz⟩ := I.tuple hq
    exact call_tuple_same pl ⟨.ref p, H, I, rfl, q⟩
def tyV (K : PySem.W.Frag) (T : String) (x : V) (H : Hp) : Prop := match x with
  | .str _ => T = "str"
  | .int _ => T = "int"
  | .ref p => (T = "list" ∧ ∃ xs, SqL K H p xs) ∨ (T = "tuple" ∧ ∃ o, K.lookup p = some o ∧ o.cls = .type "tuple" ∧ o.dict = none) ∨
      (T = "dict" ∧ ((∃ kvs, H p = some (.dK kvs)) ∨ ∃ kvs, H p = some (.dT kvs))) ∨ (T = "set" ∧ ∃ S n, H p = some (.set S n))
  | _ => False
theorem tyV_is {pins : List (Addr × Obj)} {σ : St} {H : Hp} {s : Shared} {T : String} {x : V} {v : Value} (I : Inv X pins σ H s) (r : RelV x v) (ty : tyV X.K T x H) :
    s.TypeIs v T ∧ ∀ a, v = .ref a → ∃ ob, s.heap.get? a = some ob ∧ ob.dict = none := by
  cases x with
  | str z =>
    obtain ⟨t, rfl⟩ := r
    cases (show T = "str" from ty)
    exact ⟨typeIs_str s z t, fun _ e => nomatch e⟩
  | int i =>
    obtain ⟨t, rfl⟩ := r
    cases (show T = "int" from ty)
    exact ⟨typeIs_int s i t, fun _ e => nomatch e⟩
  | ref p =>
    cases r
    rcases ty with ⟨rfl, xs, hq⟩ | ⟨rfl, o, hk, hc, hd⟩ | ⟨rfl, hk⟩ | ⟨rfl, S, n, hk⟩
    · obtain ⟨its, _, pl, _⟩ := I.list hq
      refine ⟨pl.isList.typeIs, fun a e => ?_⟩
      cases e
      obtain ⟨o, n, e, c, hd, _⟩ := pl
      exact ⟨o, e, hd⟩
    · refine ⟨⟨o, I.kIn p o hk, hc⟩, fun a e => ?_⟩
      cases e
      exact ⟨o, I.kIn _ o hk, hd⟩
    · have z : ∃ o, s.heap.get? p = some o ∧ o.ExactDict := by
        rcases hk with ⟨kvs, hk⟩ | ⟨kvs, hk⟩
        · obtain ⟨_, _, _, _, o, _, _, e, ex, _⟩ := I.hok p _ hk
          exact ⟨o, e, ex⟩
        · obtain ⟨_, _, _, _, o, _, _, e, ex, _⟩ := I.hok p _ hk
          exact ⟨o, e, ex⟩
      obtain ⟨o, e, ex⟩ := z
      refine ⟨⟨o, e, ex.1⟩, fun a e2 => ?_⟩
      cases e2
      exact ⟨o, e, ex.2.1⟩
    · obtain ⟨o, _, _, _, e, ex, _⟩ := I.hok p _ hk
      refine ⟨⟨o, e, ex.1⟩, fun a e2 => ?_⟩
      cases e2
      exact ⟨o, e, ex.2.1⟩
  | _ => exact False.elim ty
def tBM0 (K : PySem.W.Frag) (T : String) (r : V → List V → Hp → VK → Prop) (to : TE) : TE := fun σ H Q => to σ H fun x H1 => tyV K T x H1 ∧ r x [] H1 Q
def tBM (K : PySem.W.Frag) (T : String) (r : V → List V → Hp → VK → Prop) (to : TE) (t : TA) : TE := fun σ H Q => to σ H fun x H1 => tyV K T x H1 ∧ t σ H1 fun xs H2 => r x xs H2 Q
variable {o e : Expr} {es : List Expr} {to : TE} {t : TA} {name : Str} {apos cpos : Pos} {T id : String} {r : V → List V → Hp → VK → Prop}
theorem pe_bm0 (pa : PlainAttrs T) (slot : Slot T name id) (hty : typeOf (.builtin id) = pure (.type "method_descriptor")) (hm : MtR X id r) (ho : PE X o to)
    (hbase : attributeBase o name X.env (eval o X.env) = eval o X.env := by rfl) (hline : (apos.endLine == cpos.line) = true := by rfl) : PE X (.Call (.Attribute o name apos) [] [] cpos) (tBM0 X.K T r to) := by
  intro pins s σ H Q I h
  refine wpAny_Call_method0_late hbase hline (thn (ho pins s σ H _ I h) fun v s1 ⟨x, H1, I1, r1, ty, q1⟩ => ?_)
  obtain ⟨h1, h2⟩ := tyV_is I1 r1 ty
  exact ⟨T, id, pa, slot, hty, h1, h2, Calls.callWith_builtin rfl (PySem.evalArgs_none (hm pins s1 σ H1 x [] v [] Q I1 r1 .nil q1))⟩
theorem pe_bm (pa : PlainAttrs T) (slot : Slot T name id) (hty : typeOf (.builtin id) = pure (.type "method_descriptor")) (hm : MtR X id r) (ho : PE X o to) (ha : PA X (e :: es) t)
    (hbase : attributeBase o name X.env (eval o X.env) = eval o X.env := by rfl)
    (hfew : ((backTo cpos (starEach (e :: es) X.env)).all (fun x => !x.1) && (backToKw cpos (keywordEach [] X.env)).all (fun x => x.1.isSome)
      && decide ((e :: es).length + ([] : List Keyword).length + (if ([] : List Keyword).isEmpty then 0 else 1) < 30)) = true := by rfl)
    (hline : (apos.endLine == cpos.line) = true := by rfl) (hs : starEach (e :: es) X.env = (false, eval e X.env) :: starEach es X.env := by rfl) (hplain : (backTo cpos (starEach es X.env)).any (·.1) = false := by rfl) :
    PE X (.Call (.Attribute o name apos) (e :: es) [] cpos) (tBM X.K T r to t) := by
  intro pins s σ H Q I h
  refine wpAny_Call_method_late hbase hfew hline rfl (thn (ho pins s σ H _ I h) fun v s1 ⟨x, H1, I1, r1, ty, q1⟩ => ?_)
  obtain ⟨h1, h2⟩ := tyV_is I1 r1 ty
  refine ⟨T, id, pa, slot, hty, h1, h2, ?_⟩
  have hA := ha cpos pins s1 σ H1 _ I1 q1
  rw [hs] at hA ⊢
  refine Calls.callWith_builtin (by show (false || (backTo cpos (starEach es X.env)).any (·.1)) = false; rw [hplain] <;> rfl) (Calls.evalArgs_plain ?_)
  exact thn hA fun us s2 ⟨vs, H2, I2, r2, q2⟩ => hm pins s2 σ H2 x vs v us Q I2 r1 r2 q2
/- xs.append(e), list.index on a module's tuple .. are MtR facts of 06m -/
end
end L2
namespace L2
open PySem PySem.Spec PyProof.Rows
def MtM (X : Cx) (id : String) (r : V → List V → Hp → VK → Prop) : Prop :=
  ∀ (pins : List (Addr × Obj)) (s : Shared) (σ : St) (H : Hp) (x : V) (xs : List V) (v : Value) (us : List Value) (Q : VK), Inv X pins σ H s → RelV x v → Vals xs us → r x xs H Q →
    wpAny (model X.prog X.w) X.A (call (.builtin id) (v :: us)) (EP X pins σ Q) X.xe s
theorem Vals.one : ∀ {x : V} {us : List Value}, Vals [x] us → ∃ u, us = [u] ∧ RelV x u
  | _, _, .cons r .nil => ⟨_, rfl, r⟩
theorem Vals.zero : ∀ {us : List Value}, Vals [] us → us = []
  | _, .nil => rfl
theorem Vals.dropLast {xs : List V} {us : List Value} (h : Vals xs us) : Vals xs.dropLast us.dropLast := by
  induction h with
  | nil => exact .nil
  | cons r t ih =>
    cases t with
    | nil => exact .nil
    | cons q t' => exact .cons r ih
theorem erase_last {α : Type} (l : List α) : l.eraseIdx (l.length - 1) = l.dropLast := by
  induction l with
  | nil => rfl
  | cons a r ih =>
    cases r with
    | nil => rfl
    | cons b r =>
      have e : (a :: b :: r).length - 1 = ((b :: r).length - 1) + 1 := by
        have h1 : (a :: b :: r).length = r.length + 2 := rfl
        have h2 : (b :: r).length = r.length + 1 := rfl
        omega
      rw [e, List.eraseIdx_cons_succ, ih]
      all_goals rfl
section
variable {X : Cx} {pins : List (Addr × Obj)} {σ : St} {H : Hp} {s : Shared} {l b : Addr} {xs ys zs : List V}
theorem Inv.lset {its its' : List Value} {n : Nat} {f : Array Value → Array Value} {t' : Nat} (I : Inv X pins σ H s) (hH : H l = some (.lst xs))
    (e : s.heap.get? l = some { cls := .type "list", data := .seq its.toArray n }) (hf : f its.toArray = its'.toArray) (hv : Vals ys its') (hz : ys.length ≤ sizeLine) :
    Inv X pins σ (upd H l (.lst ys)) { s with heap := s.heap.update l (Obj.mapSeq f), toks := t' } := by
  have q := PySem.IsL.update e f
  rw [hf] at q
  refine I.write (x := l) (e := l) (by rw [hH]; exact trivial) (.inl rfl) (fun b' u hb hu => (Heap.get?_update_other s.heap (Obj.mapSeq f) (Ne.symm hb)).trans hu) ⟨_, q⟩ ?_
  exact ⟨hz, its', _, hv, q⟩
theorem Inv.lnew {its : List Value} {t' : Nat} (I : Inv X pins σ H s) (hv : Vals ys its) (hz : ys.length ≤ sizeLine) :
    Inv X pins σ (upd H s.heap.objs.size (.lst ys)) { s with heap := s.heap.push { cls := .type "list", data := .seq its.toArray }, toks := t' } :=
  I.laid (fun _ _ q => Heap.get?_push_of_some _ q) (Nat.le_refl _) ⟨hz, its, 0, hv, Heap.get?_push_size _ rfl⟩
theorem Inv.fresh (I : Inv X pins σ H s) : H s.heap.objs.size = none := I.hok.fresh (Nat.le_refl _)
theorem Inv.lstM (I : Inv X pins σ H s) (hH : H l = some (.lst xs)) : xs.length ≤ sizeLine ∧ ∃ (its : List Value) (n : Nat), Vals xs its ∧ xs.length = its.length ∧ s.heap.get? l = some { cls := .type "list", data := .seq its.toArray n } := by
  obtain ⟨z, its, n, r, e⟩ := I.hok l _ hH
  exact ⟨z, its, n, r, r.length, e⟩
theorem notLongL {n : Nat} (h : n ≤ sizeLine) : Builtin.List.listTooLong n = false := by
  unfold Builtin.List.listTooLong
  exact decide_eq_false (by omega)
end
section
variable {X : Cx}
def rAppend : V → List V → Hp → VK → Prop := fun x vs H Q => ∃ l xs y, x = .ref l ∧ vs = [y] ∧ H l = some (.lst xs) ∧ xs.length < sizeLine ∧ Q .non (upd H l (.lst (xs ++ [y])))
theorem mt_append : MtM X "list.append" rAppend := by
  intro pins s σ H x vs v us Q I rx rv h
  obtain ⟨l, xs, y, rfl, rfl, hH, hz, q⟩ := h
  cases rx
  obtain ⟨u, rfl, ru⟩ := rv.one
  obtain ⟨z, its, n, r, hl, e⟩ := I.lstM hH
  refine call_meets F.slot_list_append ⟨_, e, rfl⟩ F.entry_list_append (F.args_list_append_2 _ _) (PySem.list_append l its.toArray n u (by rw [List.size_toArray]; omega)) ⟨e, ?_⟩
  refine ⟨.non, _, I.lset (its' := its ++ [u]) hH e (by simp) (r.append (.cons ru .nil)) ?_, rfl, q⟩
  rw [List.length_append, List.length_singleton]
  omega
def rExtend : V → List V → Hp → VK → Prop := fun x vs H Q => ∃ l b xs zs, x = .ref l ∧ vs = [.ref b] ∧ H l = some (.lst xs) ∧ H b = some (.lst zs) ∧ xs.length + zs.length ≤ sizeLine ∧ Q .non (upd H l (.lst (xs ++ zs)))
theorem mt_extend : MtM X "list.extend" rExtend := by
  intro pins s σ H x vs v us Q I rx rv h
  obtain ⟨l, b, xs, zs, rfl, rfl, hH, hB, hz, q⟩ := h
  cases rx
  obtain ⟨u, rfl, ru⟩ := rv.one
  cases ru
  obtain ⟨z, its, n, r, hl, e⟩ := I.lstM hH
  obtain ⟨z2, its2, n2, r2, hl2, e2⟩ := I.lstM hB
  have hsz : its.toArray.size + its2.toArray.size ≤ sizeLine := by rw [List.size_toArray, List.size_toArray]; omega
  have hlong : ¬ (!its.toArray.isEmpty && Builtin.List.listTooLong (its.toArray.size + its2.toArray.size)) = true := by
    rw [notLongL hsz, Bool.and_false]
    exact Bool.false_ne_true
  refine call_meets F.slot_list_extend ⟨_, e, rfl⟩ F.entry_list_extend (F.args_list_extend_2 _ _)
    (AutoSeq1.list_extend_list_list_0 l its.toArray n b its2.toArray n2 hlong (by rw [List.size_toArray]; omega) (by omega)) ⟨e, e2, ?_⟩
  refine ⟨.non, _, I.lset (its' := its ++ its2) hH e (by simp) (r.append r2) ?_, rfl, q⟩
  rw [List.length_append]
  omega
def rPop : V → List V → Hp → VK → Prop := fun x vs H Q => ∃ l xs y, x = .ref l ∧ vs = [] ∧ H l = some (.lst xs) ∧ xs[xs.length - 1]? = some y ∧ Q y (upd H l (.lst xs.dropLast))
theorem mt_pop : MtM X "list.pop" rPop := by
  intro pins s σ H x vs v us Q I rx rv h
  obtain ⟨l, xs, y, rfl, rfl, hH, hy, q⟩ := h
  cases rx
  have hus := rv.zero
  subst hus
  obtain ⟨z, its, n, r, hl, e⟩ := I.lstM hH
  obtain ⟨u, hu, ru⟩ := r.get hy
  have hy' : its.toArray[its.toArray.size - 1]? = some u := by
    show its.toArray[its.length - 1]? = some u
    rw [← Array.getElem?_toList, ← hl]
    exact hu
  refine call_meets F.slot_list_pop ⟨_, e, rfl⟩ F.entry_list_pop (F.args_list_pop_1 _) (MeetsSeq.list_pop_last l its.toArray n u hy' (by rw [List.size_toArray]; omega)) ⟨e, ?_⟩
  refine ⟨y, _, I.lset (its' := its.dropLast) hH e ?_ r.dropLast ?_, ru, q⟩
  · show its.toArray.eraseIdxIfInBounds (its.toArray.size - 1) = its.dropLast.toArray
    rw [List.size_toArray, List.eraseIdxIfInBounds_toArray, erase_last]
  · rw [List.length_dropLast]
    omega
end
section
variable {prog : Program} {w : World} {A : Around} {E : Value → Shared → Prop} {s : Shared}
end
section
variable {X : Cx}
end
end L2
namespace Att
open PySem PySem.W PySem.Calls PyProof.Rows
theorem ints_of_wellAll {P : Params} {h : Heap} : ∀ (ns : List Int) (vs : List Value), WellAll P h vs (ns.map WData.int) → IntsAre vs ns := by
  intro ns
  induction ns with
  | nil =>
    intro vs w
    rw [List.map_nil] at w
    cases w
    exact .nil
  | cons n ns ih =>
    intro vs w
    rw [List.map_cons] at w
    cases w with
    | cons a b =>
      cases a
      exact .cons _ _ (ih _ b)
theorem script_of {l : OpenLaw} {n : Nat} (hn : l.most = some n) {P : Params} {h : Heap} {args : List WData} {vals : List Value}
    (hpre : l.row.toRowW.claim.pre args = true) (hwl : WellAll P h vals args) :
    ∃ a vs ns, vals = [Value.ref a] ∧ args = [WData.list (ns.map WData.int)] ∧ h.get? a = some { cls := .type "list", data := .seq vs.toArray } ∧ IntsAre vs ns ∧ ns.length ≤ n := by
  have hsh : WShape.hasAll [] args [.list .int] = true := (pre_splitW hpre).1
  have hc : l.pre.holds [] { args := args } = true := (pre_splitW hpre).2
  obtain ⟨d, r, rfl, h1, h2⟩ := hasAllW_cons hsh
  obtain rfl := hasAllW_nil h2
  obtain ⟨xs, rfl, h3⟩ := hasW_list h1
  obtain ⟨ns, rfl⟩ := items_int h3
  have hlen : ns.length ≤ n := by
    unfold OpenLaw.pre at hc
    have h4 : (WTm.not (.lt (.lit (.int (n : Int))) (.len (.arg 0)))).holds [] { args := [.list (ns.map .int)] } = true := by
      have h4 := (holds_andW hc).1
      rw [hn] at h4
      exact h4
    have h5 := condW_of h4 (w_not (w_lt w_lit (w_len_list (w_arg rfl))))
    rw [List.length_map] at h5
    refine Nat.le_of_not_lt fun q => ?_
    have q' : (n : Int) < ((ns.length : Nat) : Int) := by omega
    first
      | (rw [decide_eq_true q'] at h5; exact absurd h5 (by decide))
      | (simp at h5; omega)
  cases hwl with
  | cons w1 w2 =>
    cases w2
    cases w1 with
    | list ho hall => exact ⟨_, _, ns, rfl, rfl, ho, ints_of_wellAll ns _ hall, hlen⟩
theorem post_true (l : OpenLaw) (args : List WData) : l.row.toRowW.claim.post args (.bool true) args = true :=
  postW_of (r := l.row.toRowW) (X := (true == true))
    (show WShape.has [] (.bool true) .bool = true by first | rfl | decide | simp [WShape.has, WShape.arms, WShape.armsAll])
    (show (WTm.eq .res (.lit (.bool true))).value [] { args := args, res := some (.bool true), after := args } = some (.bool (true == true)) from w_eq_bool (w_res rfl) w_lit) rfl
theorem attach_call {l : OpenLaw} {n : Nat} {q : Program} {loose : List Str} {XP : (Str → Option Value) → Heap → Prop} {YP : World → Heap → Prop} {d : DefRec}
    (hn : l.most = some n) (hdf : d.params.defaults = [])
    (call : ∀ (w : World) (s₀ s₁ : Shared) (mg mb : Str → Option Value) (fa : Addr) (o : Obj) (pm cd doc : Value) (a : Addr) (vs : List Value) (ns : List Int),
      Ground q loose [] XP w s₀ mg mb s₁.heap → YP w s₁.heap →
      s₁.heap.get? fa = some o → o.data = .func (docDef d.name d.params d.body d.scope pm cd doc) → s₁.heap.CodeRec cd d.name → mg d.name = some (.ref fa) →
      s₁.heap.get? a = some { cls := .type "list", data := .seq vs.toArray } → IntsAre vs ns → ns.length ≤ n → s₁.gens = #[] →
      codeAny (model l.prog w) callerA (.call (.ref fa) ⟨[.ref a], []⟩) (fun r s' => r = .ok (.ret (.bool true)) ∧ OldK s₁.heap s'.heap ∧ s'.os = s₁.os ∧ AllBare s'.gens) s₁) :
    WalkO q loose XP YP l.row.toRowW d [] (fun f vs => PySem.call f vs) := by
  intro w s₀ s₁ mg mb G Y fa o pm cd doc dV kV ho hd hcd hD hmg hg args vals as hpre hlay hrd hwl hlo
  obtain rfl : dV = .none := Dflts.none hD hdf
  obtain rfl : kV = .none := Dflts.noKw hD
  obtain ⟨a, vs, ns, rfl, rfl, hobj, hints, hlen⟩ := script_of hn hpre hwl
  refine enter_call (codeAny_mono (call w s₀ s₁ mg mb fa o pm cd doc a vs ns G Y ho (fd_plain hd) hcd hmg hobj hints hlen hg) fun r s' hq => ?_)
  obtain ⟨rfl, h2, h3, h4⟩ := hq
  exact ⟨.inl ⟨.bool true, .bool true, [], rfl, fun _ => rfl, .bool true, post_true l _, fun _ => ⟨List.Pairwise.nil, fun _ hm => (nomatch hm)⟩⟩, h2, h3, h4⟩
section
variable {prog : Program} {w : World} {A : Around} {E : Value → Shared → Prop} {s : Shared} {K : Frag}
def noObjs (h : Heap) : Heap := { h with objs := #[] }
theorem noObjs_get (h : Heap) (b : Addr) : (noObjs h).get? b = none := by
  cases e : (noObjs h).get? b with
  | none => rfl
  | some o => exact absurd (Heap.lt_size e) (Nat.not_lt_zero _)
theorem fr_all {h : Heap} {L : Addr} {m : Str → Option Value} (n : h.Ns L m) : Fr (noObjs h) L h m :=
  ⟨n, fun b o e => (by rw [noObjs_get] at e; cases e), Nat.zero_le _⟩
end
end Att
namespace L2
open PySem PySem.Spec PyProof.Rows
theorem vals_ints : ∀ {vs : List Value} {ns : List Int}, IntsAre vs ns → Vals (ns.map V.int) vs
  | _, _, .nil => .nil
  | _, _, .cons n t h => .cons ⟨t, rfl⟩ (vals_ints h)
def Only (H : Hp) : Prop := ∀ b, H b = none ∨ ∃ o xs, H b = some (.frz o (.lst xs))
theorem law_call {P : Program} {w : World} {K : PySem.W.Frag} {mg mb : Str → Option Value} {CX : CXT} {k : Nat} {fa a : Addr} {fd : FuncData} {x : Str} {sp : Sp} {s₁ : Shared} {vs : List Value} {ns : List Int}
    (KX : K.In s₁.heap) (hns : s₁.heap.Ns mainGlobals mg) (hb : s₁.heap.Ns builtinsNs mb) (hbb : ∀ x : Str, x ≠ "__name__" → mb x = bootBuiltins x) (hlim : s₁.heap.NoLimit) (hg : s₁.gens = #[])
    (ha : s₁.heap.get? a = some { cls := .type "list", data := .seq vs.toArray }) (hi : IntsAre vs ns) (hl : ns.length ≤ sizeLine) (hr : Room k callerA)
    (F : ∀ base : Heap, K.In base → base.Ns mainGlobals mg → FnOk P w K mg base CX k fa fd [x] sp) (hbind : ∀ (s : Shared) (u : Value), BindsTo s fd ⟨[u], []⟩ [(x, u)])
    (hsp : ∀ H : Hp, Only H → SqL K H a (ns.map V.int) → sp [.ref a] H (fun v _ => v = .bl true) fun _ _ _ => False)
    (hCX : ∀ H e s', CX [] H s₁ (fun _ _ _ => False) e s' → False) :
    codeAny (model P w) callerA (.call (.ref fa) ⟨[.ref a], []⟩) (fun r s' => r = .ok (.ret (.bool true)) ∧ OldK s₁.heap s'.heap ∧ s'.os = s₁.os ∧ AllBare s'.gens) s₁ := by
  have rv := vals_ints hi
  have lenV := hi.length
  -- from an abstract heap in which nothing but the script may be tracked
  have core : ∀ H : Hp, Only H → SqL K H a (ns.map V.int) → HOk P w H s₁.heap → (∀ b, H b ≠ none → b = a) → (H a ≠ none → K.lookup a = none) →
      codeAny (model P w) callerA (.call (.ref fa) ⟨[.ref a], []⟩) (fun r s' => r = .ok (.ret (.bool true)) ∧ OldK s₁.heap s'.heap ∧ s'.os = s₁.os ∧ AllBare s'.gens) s₁ := by
    intro H hO hS hok hA hK
    have base_of : ∀ {b : Addr} {o : Obj}, s₁.heap.get? b = some o → H b = none → (hidT s₁.heap H).get? b = some o := fun e n => hidT_get e n
    have noA : ∀ {b : Addr} {o : Obj} {es : Array DictEntry} {ep : Nat}, s₁.heap.get? b = some o → o.data = .dict es ep → H b = none := fun {b o es ep} e d => by
      cases q : H b with
      | none => rfl
      | some u =>
        have e' : b = a := hA b (by rw [q]; simp)
        subst e'
        rw [ha] at e; cases e
        have d' : Data.seq vs.toArray _ = Data.dict es ep := d
        cases d'
    have nsK : ∀ {b : Addr} {m : Str → Option Value}, s₁.heap.Ns b m → (hidT s₁.heap H).Ns b m := fun {b m} ⟨o, es, ep, e, d, r⟩ => ⟨o, es, ep, base_of e (noA e d), d, r⟩
    have hKb : K.In (hidT s₁.heap H) := fun b o e => base_of (KX b o e) (by
      cases q : H b with
      | none => rfl
      | some u =>
        have e' : b = a := hA b (by rw [q]; simp)
        subst e'
        rw [hK (by rw [q]; simp)] at e; cases e)
    have hM : Mod K mg (hidT s₁.heap H) := ⟨hKb, nsK hns, ⟨mb, nsK hb, hbb⟩, let ⟨mc, h1, h2⟩ := hlim; ⟨mc, nsK h1, h2⟩⟩
    have e0 : Env0 P w K mg (hidT s₁.heap H) callerA [] s₁ H := ⟨rfl, hM, fun b o e => of_hidT e, Nat.le_of_eq (hidT_size _ _), trivial, fun b hb => absurd (show b ∈ ([] : List Addr) from hb) (by simp), hok, .of_eq hg⟩
    refine codeAny_mono ((F _ hKb (nsK hns)).run callerA [] s₁ H ⟨[.ref a], []⟩ [.ref a] [.ref a] _ _ hr e0 (hbind s₁ (.ref a)) (.cons rfl .nil) (hsp H hO hS)) fun r s' h => ?_
    cases r with
    | error e => exact (hCX H e s' h).elim
    | ok fl =>
      cases fl with
      | next => exact False.elim h
      | brk => exact False.elim h
      | cont => exact False.elim h
      | ret u =>
        obtain ⟨v, H', os, bare, un, hok', r', q⟩ := h
        have q' : v = .bl true := q
        subst q'
        obtain rfl : u = Value.bool true := r'
        refine ⟨rfl, OldK.of_keep fun b o e => ?_, os, bare⟩
        cases q : H b with
        | none => exact un.keep b o e q (by intro z; exact absurd (show b ∈ ([] : List Addr) from z) (by simp)) (by simp)
        | some u =>
          rcases hO b with z | ⟨ob, xs, z⟩
          · rw [q] at z; cases z
          · have z2 := un.frzs b ob _ z
            obtain ⟨e1, _⟩ := hok b _ z
            obtain ⟨e2, _⟩ := hok' b _ z2
            rw [e] at e1; cases e1
            exact e2
  cases hk : K.lookup a with
  | some o =>
    -- the script is one of the module's own objects
    have e := KX a o hk
    rw [ha] at e
    cases e
    refine core (fun _ => none) (fun _ => .inl rfl) (.inr ⟨_, vs.toArray, _, hk, rfl, rfl, rfl, by rw [List.size_toArray, lenV]; exact hl, by simpa using rv⟩) (fun b u z => by have z' : (none : Option HO) = some u := z; cases z') (fun b z => absurd rfl z) fun z => absurd rfl z
  | none =>
    refine core (fun b => if b = a then some (.frz { cls := .type "list", data := .seq vs.toArray } (.lst (ns.map V.int))) else none) (fun b => ?_) (.inl (.inr ⟨{ cls := .type "list", data := .seq vs.toArray }, if_pos rfl⟩)) (fun b u z => ?_) (fun b z => ?_) fun _ => hk
    · by_cases hb : b = a
      · exact .inr ⟨_, _, if_pos hb⟩
      · exact .inl (if_neg hb)
    · by_cases hb : b = a
      · have z' := (if_pos hb).symm.trans z
        cases z'
        subst hb
        exact ⟨ha, by rw [List.length_map]; exact hl, vs, _, rv, ha⟩
      · have z' := (if_neg hb).symm.trans z
        cases z'
    · by_cases hb : b = a
      · exact hb
      · exact absurd (if_neg hb) z
end L2
namespace L2
open PySem PySem.Spec PyProof.Rows
theorem walk_of {l : PySem.W.OpenLaw} {n k : Nat} {q : Program} {loose : List Str} {XP : (Str → Option Value) → Heap → Prop} {YP : World → Heap → Prop} {d : DefRec} {K : Params → PySem.W.Frag} {CX : World → CXT} {sp : World → Sp} {x : Str}
    (hn : l.most = some n) (hn2 : n ≤ sizeLine) (hdf : d.params.defaults = []) (hr : Room k callerA)
    (hY : ∀ (w : World) (h : Heap), YP w h → (K w.params).In h)
    (F : ∀ (w : World) (mg : Str → Option Value) (fa : Addr) (h : Heap), (K w.params).In h → h.Ns mainGlobals mg → mg d.name = some (.ref fa) →
      ∃ fd : FuncData, (∀ (s : Shared) (u : Value), BindsTo s fd ⟨[u], []⟩ [(x, u)]) ∧
        ∀ base : Heap, (K w.params).In base → base.Ns mainGlobals mg → FnOk l.prog w (K w.params) mg base (CX w) k fa fd [x] (sp w))
    (hsp : ∀ (w : World) (H : Hp) (a : Addr) (ns : List Int), ns.length ≤ n → Only H → SqL (K w.params) H a (ns.map V.int) → sp w [.ref a] H (fun v _ => v = .bl true) fun _ _ _ => False)
    (hCX : ∀ (w : World) (H : Hp) (s : Shared) (e : Value) (s' : Shared), CX w [] H s (fun _ _ _ => False) e s' → False) :
    PySem.W.WalkO q loose XP YP l.row.toRowW d [] (fun f vs => PySem.call f vs) := by
  refine Att.attach_call hn hdf fun w s₀ s₁ mg mb fa o pm cd doc a vs ns G Y ho hd hcd hmg hobj hints hlen hg => ?_
  have KX := hY w _ Y
  obtain ⟨fd, hb, hF⟩ := F w mg fa _ KX G.T.g hmg
  exact law_call KX G.T.g G.T.b G.T.builtins G.T.nolimit hg hobj hints (Nat.le_trans hlen hn2) hr hF hb (fun H hO hS => hsp w H a ns hlen hO hS) fun H e s' => hCX w H s₁ e s'
end L2
/- THE LAST THEOREM (shape; LID, My.* are yours):
   My.Adr: a structure of the addresses that your layer names (classes, functions); My.Txt K t: a structure (Prop) of the equations over K;
   My.txt_mk : {K} {implicit addresses ..} (e1 : nsIn K mainGlobals "law" = some (some (.ref f))) (e2 : K.lookup f = some ⟨oc, od, .func (fnOf "law" "law" params body scope dV kV doc pm an cdv ct), sl⟩) (e3 : codeIn K cdv "law" = true) .. : ∃ t, My.Txt K t
set_option maxRecDepth 100000 in
set_option maxHeartbeats 0 in
theorem PySem.Challenge.cw_LID_holds : PySem.Challenge.rw_LID.Holds := by
  w_on; o_law; k_head; (case hw => w_witness2)
  k_fill
  refine L2.walk_of (l := PySem.Challenge.rw_LID) (n := 63) (k := 40) (x := "script") (CX := fun w => ..) (sp := fun _ => My.sp_law) rfl (by decide) rfl ⟨rfl, by decide, by decide⟩ (fun w h Y => PySem.W.kIn_of Y) ?F ?S ?C
  case F =>
    intro w mg fa h KX G hmg
    have T : ∃ t, My.Txt (L2.KOf KX) t := by
      dsimp only [L2.KOf]                          -- K must stand as «<heap const> w.params» for k_is
      refine' My.txt_mk ?e1 ?e2 ?e3 ..
      (case e1 => PySem.W.k_is)                    -- in the order: a name -> its address -> its object -> its parts
      (case e2 => PySem.W.k_is)
      ..
    obtain ⟨t, T⟩ := T
    have e0 := hmg.symm.trans (PySem.W.mg_of KX G T.law)
    cases e0                                       -- fa is the law's own address
    exact ⟨_, fun s u => .of_eq rfl, fun base kb nb => My.law_fn T kb nb⟩     -- if «.of_eq rfl» comes too early: refine' ⟨_, ?b, fun base kb nb => My.law_fn T kb nb⟩; exact fun s u => .of_eq rfl
  case S => exact fun w H a ns hl hO hS => ..
  case C => exact ..
(the tactic k_is has no namespace: write k_is) -/
namespace L2
open PySem PySem.Spec PyProof.Rows
def defArgs (s : Stmt) : Arguments := match s with
  | .FunctionDef _ a _ _ _ _ _ _ _ _ => a
  | _ => { posonlyargs := [], args := [], vararg := none, kwonlyargs := [], kw_defaults := [], kwarg := none, defaults := [] }
def defBody (s : Stmt) : List Stmt := match s with
  | .FunctionDef _ _ b _ _ _ _ _ _ _ => b
  | _ => []
def defScope (s : Stmt) : Scope := match s with
  | .FunctionDef _ _ _ _ _ _ sc _ _ _ => sc
  | _ => { kind := .function, names := [], isGenerator := false, isCoroutine := false }
abbrev CX0 : CXT := fun _ _ _ _ _ _ => False
abbrev E0 : XK := fun _ _ _ => False
theorem pass0 {X : Cx} : Passes CX0 X E0 := fun _ _ _ _ _ _ _ h => h.elim
structure Fun (K : PySem.W.Frag) (x qual : Str) (st : Stmt) (f : Addr) (fd : FuncData) : Prop where
  ex : ∃ (oc : Value) (od : Option Addr) (kV doc pm : Value) (an : Option Addr) (cdv ct : Value) (osl : Array (Option Value)),
    fd = PySem.W.fnOf x qual (defArgs st) (defBody st) (defScope st) .none kV doc pm an cdv ct ∧ K.lookup f = some ⟨oc, od, .func fd, osl⟩ ∧ PySem.W.codeIn K cdv qual = true
  kp : PySem.W.keepIn K (.ref f) = true
section
variable {P : Program} {w : World} {K : PySem.W.Frag} {mg : Str → Option Value} {base : Heap}
theorem Fun.ok {x qual : Str} {st : Stmt} {f : Addr} {fd : FuncData} {N ps : List Str} {k : Nat} {sp : Sp} (F : Fun K x qual st f fd) (S : FnScope N ps (defScope st)) (len : ∀ vs H Q E, sp vs H Q E → vs.length = ps.length)
    (hbody : ∀ (cdv : Value) (A : Around) (outer : List Env) (s : Shared) (H : Hp) (vs : List V) (Q : VK) (E : XK), Room k (A.deeper (envOfC qual (defScope st) s.heap.objs.size f cdv)) → sp vs H Q E →
      ∃ t, PSs (cxOf CX0 P w K mg base N qual (defScope st) f cdv A outer s H E).nox (defBody st) t ∧ t { nx := fun _ H' => Q .non H', rt := Q } (start N vs) H) : FnOk P w K mg base CX0 (k + 1) f fd ps sp := by
  obtain ⟨oc, od, kV, doc, pm, an, cdv, ct, osl, rfl, lk, hcd⟩ := F.ex
  refine fn_of lk hcd S len fun A outer s H vs Q E hr hsp => ?_
  obtain ⟨t, h, q⟩ := hbody cdv A outer s H vs Q E hr hsp
  exact ⟨t, h.nox, q⟩
theorem Fun.binds {x qual : Str} {st : Stmt} {f : Addr} {fd : FuncData} {ps : List Str} (F : Fun K x qual st f fd)
    (h : ∀ (kV doc pm : Value) (an : Option Addr) (cdv ct : Value) (us : List Value), us.length = ps.length → bindArgs (PySem.W.fnOf x qual (defArgs st) (defBody st) (defScope st) .none kV doc pm an cdv ct) ⟨us, []⟩ = pure (ps.zip us)) : Binds K fd ps [] := by
  obtain ⟨oc, od, kV, doc, pm, an, cdv, ct, osl, rfl, lk, hcd⟩ := F.ex
  exact .all (h kV doc pm an cdv ct)
theorem fun_mk {x qual : Str} {st : Stmt} {f : Addr} {oc : Value} {od an : Option Addr} {osl : Array (Option Value)} {kV doc pm cdv ct : Value} (l : K.lookup f = some ⟨oc, od, .func (PySem.W.fnOf x qual (defArgs st) (defBody st) (defScope st) .none kV doc pm an cdv ct), osl⟩)
    (c : PySem.W.codeIn K cdv qual = true) (k : PySem.W.keepIn K (.ref f) = true) : Fun K x qual st f (PySem.W.fnOf x qual (defArgs st) (defBody st) (defScope st) .none kV doc pm an cdv ct) := ⟨⟨oc, od, kV, doc, pm, an, cdv, ct, osl, rfl, l, c⟩, k⟩
end
theorem hu_of {A : Around} {k : Nat} (hr : Room k A) : A.units + 1 < cLine := Nat.lt_of_le_of_lt (Nat.add_le_add_left (by decide : 1 ≤ 64) _) hr.units
theorem small1000 {n : Nat} (h : n ≤ 1000) : n < sizeLine := Nat.lt_of_le_of_lt h (by decide)
section
variable {X : Cx}
theorem pv (i : Nat) {x : Str} {pos : Pos} (hN : X.N[i]? = some x := by rfl) (hv : Vis X.env.scope x := by first | exact Or.inl rfl | exact Or.inr (Or.inl rfl) | exact Or.inr (Or.inr rfl)) (hd : (x == ("__debug__" : Str)) = false := by decide)
    (hcd : (x == ("__classdict__" : Str)) = false := by decide) : PE X (.Name x pos) (tVar i) := pe_var hN hv hd hcd
end
theorem iteF {A B : Prop} (h : B) : if false = true then A else B := by
  rw [if_neg Bool.false_ne_true]
  exact h
theorem iteT {A B : Prop} (h : A) : if true = true then A else B := by
  rw [if_pos rfl]
  exact h
theorem ite2 {c A B : Prop} [Decidable c] (h1 : c → A) (h2 : ¬ c → B) : if c then A else B := by
  by_cases h : c
  · rw [if_pos h]
    exact h1 h
  · rw [if_neg h]
    exact h2 h
theorem iteNS {c A B : Prop} [Decidable c] (hc : c) (h : B) : if (!decide c) = true then A else B := by
  rw [decide_eq_true hc]
  exact iteF h
def Same (H H' : Hp) : Prop := ∀ b o, H b = some o → H' b = some o
theorem Same.refl (H : Hp) : Same H H := fun _ _ h => h
theorem Same.trans {H H1 H2 : Hp} (a : Same H H1) (b : Same H1 H2) : Same H H2 := fun c o h => b c o (a c o h)
theorem Same.seq {K : PySem.W.Frag} {H H' : Hp} {a : Addr} {xs : List V} (e : Same H H') (h : SqL K H a xs) : SqL K H' a xs := by
  rcases h with (h | ⟨o, h⟩) | h
  · exact .inl (.inl (e _ _ h))
  · exact .inl (.inr ⟨o, e _ _ h⟩)
  · exact .inr h
section
variable {κ : Type} [DecidableEq κ]
end
end L2
set_option maxHeartbeats 4000000
namespace L2
open PySem PySem.Spec PyProof.Rows
theorem lc_loop {prog : Program} {w : World} {A : Around} {R : Result → Shared → Prop} {s : Shared} {elt target iter : Expr} {ifs : List Expr} {scope : Scope} {pos : Pos} {it acc : Value} {env : Env} (I : Nat → Shared → Prop)
    (turn : ∀ n s, I n s → wpAny (model prog w) A (pyNext it) (fun r s₁ => match r with
      | none => R (.ok .next) s₁
      | some v => wpAny (model prog w) A (letOwnedTupleGo target it v) (fun _ s₁' => wpAny (model prog w) A (assign target env v) (fun _ s₂ =>
          wpAny (model prog w) A (forIn ifs true fun c r => if r = true then do let ok ← isTrue c env (eval c env); pure (ForInStep.yield ok) else pure (ForInStep.yield r)) (fun ok s₃ =>
            if ok = true then wpAny (model prog w) A (eval elt env) (fun x s₄ =>
              wpAny (model prog w) A (call (.builtin "list.append") [acc, x]) (fun _ s₅ => ∃ m, m < n ∧ I m s₅) (fun _ _ => False) s₄) (fun _ _ => False) s₃
            else ∃ m, m < n ∧ I m s₃) (fun _ _ => False) s₂) (fun _ _ => False) s₁') (fun _ _ => False) s₁) (fun _ _ => False) s)
    (n : Nat) (h : I n s) :
    codeAny (model prog w) A (.compLoop (.ListComp elt [⟨target, iter, ifs, 0⟩] scope pos) 0 it acc env) R s := by
  refine codeAny_loop rfl I (fun n s hI => ?_) n h
  show wpAny _ A ((compTurn (.ListComp elt [⟨target, iter, ifs, 0⟩] scope pos) 0 it acc env).onRaise (fun x => do noteFrame x env; theTreesLotGoes x)) _ _ s
  refine wpAny_noted ?_
  rw [compTurn_list]
  have no : ∀ {E : Value → Shared → Prop} (x : Value) (s : Shared), False → E x s := fun _ _ z => z.elim
  refine wpAny_bind (wpAny_standAt (wpAny_bind (wpAny_mono (turn n s hI) (fun r s₁ h₁ => ?_) no)))
  cases r with
  | none => exact wpAny_pure h₁
  | some v =>
    refine wpAny_bind (wpAny_mono h₁ (fun _ s₁' h₁' => ?_) no)
    refine wpAny_bind (wpAny_mono h₁' (fun _ s₂ h₂ => wpAny_bind (wpAny_mono h₂ (fun ok s₃ h₃ => ?_) no)) no)
    cases ok with
    | false => exact wpAny_pure ⟨rfl, h₃⟩
    | true =>
      exact wpAny_bind (wpAny_bind (wpAny_mono h₃ (fun x s₄ h₄ => wpAny_bind (wpAny_mono h₄ (fun _ s₅ h₅ => wpAny_pure (wpAny_pure ⟨rfl, h₅⟩)) no)) no))
def capCells (env : Env) : List (Str × NameKind) → List (Str × Addr) → List (Str × Addr)
  | [], acc => acc
  | (n, k) :: r, acc => if k = .free then capCells env r (match env.cells.lookup n with | some c => (n, c) :: acc | none => acc) else capCells env r acc
theorem closure_cap {env : Env} {scope : Scope} (h : ∀ x ∈ scope.names, x.2 = .free → ∃ c, env.cells.lookup x.1 = some c) : closureFor scope env = pure (capCells env scope.names []) := by
  have all : ∀ (l : List (Str × NameKind)) (acc : List (Str × Addr)), (∀ x ∈ l, x.2 = NameKind.free → ∃ c, env.cells.lookup x.1 = some c) →
      (forIn l acc fun x cs => (do
        if x.2 == NameKind.free then
          let a ← cellOf env x.1
          pure (ForInStep.yield ((x.1, a) :: cs))
        else pure (ForInStep.yield cs) : Sem _)) = pure (capCells env l acc) := by
    intro l
    induction l with
    | nil => intro acc _; rfl
    | cons x r ih =>
      intro acc hl
      obtain ⟨n, k⟩ := x
      have hr := fun y hy => hl y (List.mem_cons_of_mem _ hy)
      rw [List.forIn_cons]
      by_cases hk : k = .free
      · subst hk
        obtain ⟨c, hc⟩ := hl (n, .free) List.mem_cons_self rfl
        simp only [beq_self_eq_true, if_true, capCells]
        have e : cellOf env n = pure c := by unfold cellOf; rw [show env.cells.lookup n = some c from hc]
        rw [e]
        simp only [pure_bind]
        rw [ih _ hr, show env.cells.lookup n = some c from hc]
      · have hb : (k == NameKind.free) = false := by simpa using hk
        simp only [hb, Bool.false_eq_true, if_false, capCells, if_neg hk, pure_bind]
        exact ih _ hr
  unfold closureFor
  exact (congrArg (fun t : Sem (List (Str × Addr)) => t >>= pure) (all scope.names [] h)).trans (by simp)
theorem capCells_sub {env : Env} : ∀ (l : List (Str × NameKind)) (acc : List (Str × Addr)), (∀ n c, acc.lookup n = some c → env.cells.lookup n = some c) → ∀ n c, (capCells env l acc).lookup n = some c → env.cells.lookup n = some c
  | [], acc, h, n, c, e => h n c e
  | (m, k) :: r, acc, h, n, c, e => by
    unfold capCells at e
    split at e
    · refine capCells_sub r _ ?_ n c e
      intro n' c' e'
      split at e'
      · rename_i c0 hc0
        rw [List.lookup_cons] at e'
        split at e'
        · rename_i hb
          have : n' = m := by simpa using hb
          subst this
          cases e'
          exact hc0
        · exact h n' c' e'
      · exact h n' c' e'
    · exact capCells_sub r _ h n c e
theorem capCells_acc {env : Env} {n : Str} : ∀ (l : List (Str × NameKind)) (acc : List (Str × Addr)), (∃ c, acc.lookup n = some c) → ∃ c, (capCells env l acc).lookup n = some c
  | [], acc, h => h
  | (m, k) :: r, acc, h => by
    unfold capCells
    split
    · refine capCells_acc r _ ?_
      obtain ⟨c, hc⟩ := h
      split
      · rw [List.lookup_cons]
        split
        · exact ⟨_, rfl⟩
        · exact ⟨c, hc⟩
      · exact ⟨c, hc⟩
    · exact capCells_acc r _ h
theorem capCells_has {env : Env} {n : Str} (hc : ∃ c, env.cells.lookup n = some c) : ∀ (l : List (Str × NameKind)) (acc : List (Str × Addr)), (n, NameKind.free) ∈ l → ∃ c, (capCells env l acc).lookup n = some c
  | [], _, h => by cases h
  | (m, k) :: r, acc, h => by
    obtain ⟨c, hc⟩ := hc
    unfold capCells
    rcases List.mem_cons.mp h with e | h
    · cases e
      rw [if_pos rfl, hc]
      exact capCells_acc r _ ⟨c, by simp⟩
    · split
      · exact capCells_has ⟨c, hc⟩ r _ h
      · exact capCells_has ⟨c, hc⟩ r _ h
def Cx.comp (X : Cx) (N : List Str) (scope : Scope) (fp : List Addr) (s : Shared) (H : Hp) : Cx where
  prog := X.prog
  w := X.w
  K := X.K
  mg := X.mg
  base := X.base
  A := X.A
  N := N
  s₀ := s
  H₀ := H
  env := compEnvC scope (capCells X.env scope.names []) (s.heap.objs.size + 1) X.env
  outer := X.stack
  stack := X.stack
  ex := fp
  calm := X.calm
  fn := fun _ => false
  pn := []
  xe := fun _ _ => False
def capSt (k : Nat) (ix : List Nat) (σ : St) : St := List.replicate k none ++ ix.map fun j => (σ[j]?).join
structure LcScope (N : List Str) (sc : Scope) (scope : Scope) (own : List Str) (ix : List Nat) : Prop where
  kind : scope.kind = .function
  nocell : ∀ y ∈ scope.names, y.2 ≠ .cell
  names : ∀ y ∈ scope.names, y.2 = .local → scope.names.lookup y.1 = some .local
  free : ∀ y ∈ scope.names, y.2 = .free → sc.names.lookup y.1 = some .cell ∨ sc.names.lookup y.1 = some .free
  cap : ∀ j ∈ ix, ∀ x, N[j]? = some x → (x, NameKind.free) ∈ scope.names ∧ (scope.names.lookup x = some .free)
  inN : ∀ j ∈ ix, j < N.length
abbrev lcN (N own : List Str) (ix : List Nat) : List Str := own ++ ix.filterMap fun j => N[j]?
theorem lcN_len {N own : List Str} {ix : List Nat} (h : ∀ j ∈ ix, j < N.length) : (lcN N own ix).length = own.length + ix.length := by
  unfold lcN
  rw [List.length_append]
  congr 1
  induction ix with
  | nil => rfl
  | cons j r ih =>
    have hj : j < N.length := h j List.mem_cons_self
    rw [List.filterMap_cons, List.getElem?_eq_getElem hj]
    show _ + 1 = _ + 1
    rw [ih fun i hi => h i (List.mem_cons_of_mem _ hi)]
theorem filterMap_get {N : List Str} : ∀ {ix : List Nat}, (∀ j ∈ ix, j < N.length) → ∀ {i : Nat} {x : Str}, (ix.filterMap fun j => N[j]?)[i]? = some x → ∃ j, ix[i]? = some j ∧ N[j]? = some x
  | [], _, i, x, e => by simp at e
  | j :: r, h, i, x, e => by
    have hj : j < N.length := h j List.mem_cons_self
    rw [List.filterMap_cons, List.getElem?_eq_getElem hj] at e
    cases i with
    | zero =>
      refine ⟨j, rfl, ?_⟩
      rw [List.getElem?_eq_getElem hj]
      exact e
    | succ i =>
      obtain ⟨j', e1, e2⟩ := filterMap_get (fun i hi => h i (List.mem_cons_of_mem _ hi)) (i := i) (x := x) (by simpa using e)
      exact ⟨j', by simpa using e1, e2⟩
theorem capSt_get {k : Nat} {ix : List Nat} {σ : St} {i : Nat} {v : V} (h : (capSt k ix σ)[i]? = some (some v)) : ∃ i' j, i = k + i' ∧ ix[i']? = some j ∧ σ[j]? = some (some v) := by
  unfold capSt at h
  by_cases hi : i < k
  · rw [List.getElem?_append_left (by simpa using hi), List.getElem?_replicate, if_pos hi] at h
    cases h
  · rw [List.getElem?_append_right (by simpa using hi), List.length_replicate, List.getElem?_map] at h
    refine ⟨i - k, ?_⟩
    cases e : ix[i - k]? with
    | none => rw [e] at h; cases h
    | some j =>
      rw [e] at h
      refine ⟨j, by omega, rfl, ?_⟩
      have h' : (σ[j]?).join = some v := by simpa using h
      cases q : σ[j]? with
      | none => rw [q] at h'; cases h'
      | some o =>
        rw [q] at h'
        exact congrArg some h'
theorem lookup_relabel_free {env : Env} {x : Str} : ∀ {names : List (Str × NameKind)}, names.lookup x = some .free →
    (names.map fun (n, k) => if (k == NameKind.free && env.scope.kind == .function && env.kindOf n == some .cell) then (n, NameKind.cell) else (n, k)).lookup x = some .cell ∨
    (names.map fun (n, k) => if (k == NameKind.free && env.scope.kind == .function && env.kindOf n == some .cell) then (n, NameKind.cell) else (n, k)).lookup x = some .free
  | [], h => by simp at h
  | (n, k) :: r, h => by
    have ih := @lookup_relabel_free env x r
    rw [List.map_cons]
    show List.lookup x ((if (k == NameKind.free && env.scope.kind == .function && env.kindOf n == some .cell) = true then (n, NameKind.cell) else (n, k)) :: _) = _ ∨ List.lookup x ((if (k == NameKind.free && env.scope.kind == .function && env.kindOf n == some .cell) = true then (n, NameKind.cell) else (n, k)) :: _) = _
    cases hx : x == n with
    | true =>
      simp only [List.lookup_cons, hx] at h
      cases h
      by_cases hc : (NameKind.free == NameKind.free && env.scope.kind == .function && env.kindOf n == some .cell) = true
      · rw [if_pos hc]; left; simp only [List.lookup_cons, hx]
      · rw [if_neg hc]; right; simp only [List.lookup_cons, hx]
    | false =>
      simp only [List.lookup_cons, hx] at h
      by_cases hc : (k == NameKind.free && env.scope.kind == .function && env.kindOf n == some .cell) = true
      · rw [if_pos hc]; simp only [List.lookup_cons, hx]; exact ih h
      · rw [if_neg hc]; simp only [List.lookup_cons, hx]; exact ih h
theorem relabel_kind_of {env : Env} {x : Str} {kd : NameKind} : ∀ {names : List (Str × NameKind)},
    (names.map fun (n, k) => if (k == NameKind.free && env.scope.kind == .function && env.kindOf n == some .cell) then (n, NameKind.cell) else (n, k)).lookup x = some kd → (kd = .cell ∨ kd = .free) → (∀ y ∈ names, y.2 ≠ .cell) →
    (x, NameKind.free) ∈ names
  | [], h, _, _ => by simp at h
  | (n, k) :: r, h, hk, hc => by
    have ih := @relabel_kind_of env x kd r
    rw [List.map_cons] at h
    have hcr : ∀ y ∈ r, y.2 ≠ .cell := fun y hy => hc y (List.mem_cons_of_mem _ hy)
    by_cases hf : k = .free
    · subst hf
      cases hx : x == n with
      | true =>
        have : x = n := by simpa using hx
        subst this
        exact List.mem_cons_self
      | false =>
        refine List.mem_cons_of_mem _ (ih ?_ hk hcr)
        by_cases hcc : (NameKind.free == NameKind.free && env.scope.kind == .function && env.kindOf n == some .cell) = true
        · have h2 : List.lookup x ((if (NameKind.free == NameKind.free && env.scope.kind == .function && env.kindOf n == some .cell) = true then (n, NameKind.cell) else (n, NameKind.free)) :: r.map fun (n, k) => if (k == NameKind.free && env.scope.kind == .function && env.kindOf n == some .cell) then (n, NameKind.cell) else (n, k)) = some kd := h
          rw [if_pos hcc, List.lookup_cons, hx] at h2
          exact h2
        · have h2 : List.lookup x ((if (NameKind.free == NameKind.free && env.scope.kind == .function && env.kindOf n == some .cell) = true then (n, NameKind.cell) else (n, NameKind.free)) :: r.map fun (n, k) => if (k == NameKind.free && env.scope.kind == .function && env.kindOf n == some .cell) then (n, NameKind.cell) else (n, k)) = some kd := h
          rw [if_neg hcc, List.lookup_cons, hx] at h2
          exact h2
    · have hb : (k == NameKind.free) = false := by simpa using hf
      have h2 : List.lookup x ((if (k == NameKind.free && env.scope.kind == .function && env.kindOf n == some .cell) = true then (n, NameKind.cell) else (n, k)) :: r.map fun (n, k) => if (k == NameKind.free && env.scope.kind == .function && env.kindOf n == some .cell) then (n, NameKind.cell) else (n, k)) = some kd := h
      rw [hb, Bool.false_and, Bool.false_and, if_neg Bool.false_ne_true, List.lookup_cons] at h2
      cases hx : x == n with
      | true =>
        rw [hx] at h2
        cases h2
        rcases hk with z | z
        · exact absurd z (hc (n, _) List.mem_cons_self)
        · exact absurd z hf
      | false =>
        rw [hx] at h2
        exact List.mem_cons_of_mem _ (ih h2 hk hcr)
end L2
set_option maxHeartbeats 4000000
namespace L2
open PySem PySem.Spec PyProof.Rows
theorem nlt {a b : Nat} (h : a < b) : a ≠ b := Nat.ne_of_lt h
theorem ngt {a b : Nat} (h : a < b) : b ≠ a := Nat.ne_of_gt h
theorem nlt1 {a b : Nat} (h : a < b) : a ≠ b + 1 := Nat.ne_of_lt (Nat.lt_succ_of_lt h)
theorem ngt1 {a b : Nat} (h : a < b) : b + 1 ≠ a := Nat.ne_of_gt (Nat.lt_succ_of_lt h)
theorem nss (a : Nat) : a ≠ a + 1 := Nat.ne_of_lt (Nat.lt_succ_self a)
theorem nss' (a : Nat) : a + 1 ≠ a := Nat.ne_of_gt (Nat.lt_succ_self a)
section
variable {X : Cx} {pins : List (Addr × Obj)} {σ : St} {H : Hp} {s : Shared} {scope : Scope} {own : List Str} {ix : List Nat} {fp : List Addr}
theorem Inv.compOk {N : List Str} (I : Inv X pins σ H s) (L : LcScope X.N X.env.scope scope own ix) (hf : ∀ b ∈ fp, FpOk X pins H b) (hlt : ∀ b ∈ fp, b < s.heap.objs.size) : (X.comp N scope fp s H).Ok where
  mod := I.ok.mod
  kind := L.kind
  glob := I.ok.glob
  blt := I.ok.blt
  above := Nat.le_succ _
  inj := fun x y c h1 h2 => I.ok.inj x y c (capCells_sub _ _ (fun _ _ z => by simp at z) x c h1) (capCells_sub _ _ (fun _ _ z => by simp at z) y c h2)
  has := fun x hx => by
    have hm : (x, NameKind.free) ∈ scope.names := by
      rcases hx with hx | hx
      · exact relabel_kind_of (env := X.env) (x := x) (names := scope.names) hx (.inl rfl) L.nocell
      · exact relabel_kind_of (env := X.env) (x := x) (names := scope.names) hx (.inr rfl) L.nocell
    exact capCells_has (I.ok.has x (L.free _ hm rfl)) _ _ hm
  cab := fun x c h => by cases h
  hd := I.ok.hd
  frames := I.ok.frames
  stk := .inl rfl
  exf := fun b hb => ⟨nlt1 (hlt b hb), fun x c e => (hf b hb).2.2.2.2.1 x c (capCells_sub _ _ (fun _ _ z => by simp at z) x c e)⟩
  bs := I.bs
  bsz := Nat.le_trans I.ok.bsz I.sz
  noex := fun b o e hb => by
    rcases (hf b hb).2.2.2.1 with z | z
    · exact I.ok.noex b o e z
    · exact absurd (Nat.lt_of_lt_of_le (Heap.lt_size e) (Nat.le_trans I.ok.bsz z)) (Nat.lt_irrefl _)
  exfs := fun b hb z => by
    rcases List.mem_cons.mp (I.stkSub b z) with e | e
    · exact (hf b hb).2.1 e
    · exact (hf b hb).2.2.1 e
  funs := I.stack
  frf := I.stkFree
theorem Inv.compStart {h1 : Heap} {tk : Nat} (I : Inv X pins σ H s) (L : LcScope X.N X.env.scope scope own ix) (hf : ∀ b ∈ fp, FpOk X pins H b) (hlt : ∀ b ∈ fp, b < s.heap.objs.size)
    (k : ∀ b o, s.heap.get? b = some o → h1.get? b = some o) {m : Str → Option Value} (hn : h1.Ns (s.heap.objs.size + 1) m) :
    Inv (X.comp (lcN X.N own ix) scope fp s H) [] (capSt own.length ix σ) H { s with heap := h1, toks := tk } := by
  have sub := fun x c => capCells_sub (env := X.env) scope.names [] (fun _ _ z => by simp at z) x c
  refine ⟨I.compOk L hf hlt, rfl, I.bare, Un.kept k, ⟨m, hn, fun i x v e1 e2 e3 => ?_⟩, fun x c e => ?_, I.hok.fresh (Nat.le_succ _), fun x c e => I.freeC x c (sub x c e), fun p hp => absurd (show p ∈ ([] : List (Addr × Obj)) from hp) (by simp), I.hok.kept k, ?_⟩
  · obtain ⟨i', j, rfl, hj, hv⟩ := capSt_get e2
    have e1' : (lcN X.N own ix)[own.length + i']? = some x := e1
    unfold lcN at e1'
    rw [List.getElem?_append_right (Nat.le_add_right _ _), Nat.add_sub_cancel_left] at e1'
    obtain ⟨j', hj', hN⟩ := filterMap_get L.inN e1'
    rw [hj] at hj'
    cases hj'
    have hjm : j ∈ ix := List.mem_of_getElem? hj
    obtain ⟨hmem, hlk⟩ := L.cap j hjm x hN
    have hkind := L.free _ hmem rfl
    obtain ⟨m0, hn0, hl0⟩ := I.loc
    obtain ⟨u, r, l⟩ := hl0 j x v hN hv (by rcases hkind with z | z; exact .inr (.inl z); exact .inr (.inr z))
    refine ⟨u, r, .inr ⟨?_, ?_⟩⟩
    · exact lookup_relabel_free (env := X.env) hlk
    · rcases l with ⟨kl, _⟩ | ⟨_, c, hc, hcell⟩
      · have kl' : X.env.scope.names.lookup x = some .local := kl
        rcases hkind with z | z
        · rw [kl'] at z; cases z
        · rw [kl'] at z; cases z
      · obtain ⟨c', hc'⟩ := capCells_has (env := X.env) ⟨c, hc⟩ scope.names [] hmem
        have : c' = c := by
          have q := sub x c' hc'
          rw [hc] at q
          exact (Option.some.inj q).symm
        subst this
        obtain ⟨o, ho, hd⟩ := hcell
        exact ⟨c', hc', o, k _ _ ho, hd⟩
  · obtain ⟨v, o, ho, hd⟩ := I.cell x c (sub x c e)
    exact ⟨v, o, k _ _ ho, hd⟩
  · show (capSt own.length ix σ).length = (lcN X.N own ix).length
    rw [lcN_len L.inN]
    unfold capSt
    rw [List.length_append, List.length_replicate, List.length_map]
def GW (k : Nat) (g : TG) : Prop := ∀ x (σ : St) H (Q : St → Hp → Prop), g x σ H Q → g x σ H fun σ2 H2 => Q σ2 H2 ∧ σ2.length = σ.length ∧ ∀ j, k ≤ j → σ2[j]? = σ[j]?
theorem gw_name {k i : Nat} (h : i < k) : GW k (gName i) := fun x σ H Q q => ⟨q, by simp, fun j hj => by rw [List.getElem?_set_ne (by omega)]⟩
def GWs (k : Nat) (g : TGs) : Prop := ∀ x (σ : St) H (Q : St → Hp → Prop), g x σ H Q → g x σ H fun σ2 H2 => Q σ2 H2 ∧ σ2.length = σ.length ∧ ∀ j, k ≤ j → σ2[j]? = σ[j]?
def GM (g : TG) : Prop := ∀ x (σ : St) H (Q Q' : St → Hp → Prop), (∀ s h, Q s h → Q' s h) → g x σ H Q → g x σ H Q'
theorem gm_name {i : Nat} : GM (gName i) := fun _ _ _ _ _ h q => h _ _ q
theorem gws_nil {k : Nat} : GWs k gNil := fun x σ H Q q => ⟨q.1, q.2, rfl, fun _ _ => rfl⟩
theorem gws_cons {k : Nat} {t : TG} {u : TGs} (ht : GW k t) (hu : GWs k u) (mt : GM t) (mu : ∀ x (σ : St) H (Q Q' : St → Hp → Prop), (∀ s h, Q s h → Q' s h) → u x σ H Q → u x σ H Q') : GWs k (gCons t u) := fun x σ H Q q => by
  obtain ⟨v, r, e, q⟩ := q
  refine ⟨v, r, e, mt _ _ _ _ _ ?_ (ht _ _ _ _ q)⟩
  rintro σ1 H1 ⟨q1, l1, j1⟩
  refine mu _ _ _ _ _ ?_ (hu _ _ _ _ q1)
  rintro σ2 H2 ⟨q2, l2, j2⟩
  exact ⟨q2, l2.trans l1, fun j hj => (j2 j hj).trans (j1 j hj)⟩
theorem gms_nil : ∀ x (σ : St) H (Q Q' : St → Hp → Prop), (∀ s h, Q s h → Q' s h) → gNil x σ H Q → gNil x σ H Q' := fun _ _ _ _ _ h q => ⟨q.1, h _ _ q.2⟩
theorem gms_cons {t : TG} {u : TGs} (mt : GM t) (mu : ∀ x (σ : St) H (Q Q' : St → Hp → Prop), (∀ s h, Q s h → Q' s h) → u x σ H Q → u x σ H Q') : ∀ x (σ : St) H (Q Q' : St → Hp → Prop), (∀ s h, Q s h → Q' s h) → gCons t u x σ H Q → gCons t u x σ H Q' :=
  fun _ _ _ _ _ h ⟨v, r, e, q⟩ => ⟨v, r, e, mt _ _ _ _ _ (fun _ _ q1 => mu _ _ _ _ _ h q1) q⟩
theorem gw_tup {k : Nat} {K : PySem.W.Frag} {n : Nat} {t : TGs} (ht : GWs k t) : GW k (gTup K n t) := fun x σ H Q q => by
  obtain ⟨a, xs, e, hq, hl, q⟩ := q
  exact ⟨a, xs, e, hq, hl, ht _ _ _ _ q⟩
theorem gw_two {K : PySem.W.Frag} {i j k : Nat} (hi : i < k) (hj : j < k) : GW k (gTup K 2 (gCons (gName i) (gCons (gName j) gNil))) :=
  gw_tup (gws_cons (gw_name hi) (gws_cons (gw_name hj) gws_nil gm_name gms_nil) gm_name (gms_cons gm_name gms_nil))
def PIf (X : Cx) (ifs : List Expr) (t : TT) : Prop :=
  ∀ (pins : List (Addr × Obj)) (s : Shared) (σ : St) (H : Hp) (Q : Bool → Hp → Prop), Inv X pins σ H s → t σ H Q →
    wpAny (model X.prog X.w) X.A (forIn ifs true fun c r => if r = true then do let ok ← isTrue c X.env (eval c X.env); pure (ForInStep.yield ok) else pure (ForInStep.yield r)) (TP X pins σ Q) X.xe s
def tYes : TT := fun _ H Q => Q true H
theorem pif_nil : PIf X [] tYes := fun _ _ _ H _ I h => wpAny_tests_nil ⟨H, I, h⟩
def rLC (J : It) (k : Nat) (ix : List Nat) (g : TG) (tt : TT) (te : TE) (σ : St) (H1 : Hp) (Q : List V → Hp → Prop) : Prop :=
  ∃ W : Nat → Nat → List V → Hp → Prop, (∃ m, W 0 m [] H1) ∧ ∀ i m ys H, W i m ys H →
    (J.stop i H ∧ Q ys H) ∨
    (J.go i H ∧ ∃ N : List V → Hp → Prop, (∀ ys' H', N ys' H' → ∃ m', m' < m ∧ W (i + 1) m' ys' H') ∧ ∀ x H', J.yld i H x H' → g x (capSt k ix σ) H' fun σ2 H2 => tt σ2 H2 fun c H3 =>
      if c = true then te σ2 H3 fun y H4 => ys.length < sizeLine ∧ N (ys ++ [y]) H4
      else N ys H3)
theorem lc_block {elt tg iter : Expr} {ifs : List Expr} {pos : Pos} {it : Addr} {tn : Nat → Heap → Prop} {J : It} {g : TG} {tt : TT} {te : TE} {E : Value → Shared → Prop} {Qf : List V → Hp → Prop} {RR : Value → Addr → Result → Shared → Prop}
    (L : LcScope X.N X.env.scope scope own ix) (hc : X.calm = true) (hg : ∀ fp s H, PG (X.comp (lcN X.N own ix) scope fp s H) tg g) (gw : GW own.length g)
    (ht : ∀ fp s H, PIf (X.comp (lcN X.N own ix) scope fp s H) ifs tt) (he : ∀ fp s H, PE (X.comp (lcN X.N own ix) scope fp s H) elt te)
    (I : Inv X pins σ H s) (T : Turn X.prog X.w X.K tg J fp it tn) (st : tn 0 s.heap) (hf : ∀ b ∈ fp, FpOk X pins H b)
    (hw : rLC J own.length ix g tt te σ H Qf)
    (hRR : ∀ (D C : Addr) (s' : Shared) (ys : List V) (H' : Hp) (m : Str → Option Value), s'.heap.Ns C m → C ≠ X.env.locals → (∀ x c, X.env.cells.lookup x = some c → c ≠ C) → X.s₀.heap.objs.size ≤ C → (∀ p ∈ X.pn ++ pins, p.1 ≠ C) → upd H' D (.lst ys) C = none → H' D = none →
      Inv X pins σ (upd H' D (.lst ys)) s' → Qf ys H' → RR (.ref D) C (.ok .next) s') :
    wpAny (model X.prog X.w) X.A (newList []) (fun acc s₃ => wpAny (model X.prog X.w) X.A (newFunctionEnv scope X.env.globals (capCells X.env scope.names []) [] X.env.qual none .none (some X.env)) (fun cenv s₄ =>
      codeAny (model X.prog X.w) X.A (.compStart (.ListComp elt [⟨tg, iter, ifs, 0⟩] scope pos) 0 (.ref it) acc { cenv with scope := relabel scope X.env }) (RR acc cenv.locals) s₄) E s₃) E s := by
  obtain ⟨W, ⟨m0, w0⟩, turn⟩ := hw
  have hlt : ∀ b ∈ fp, b < s.heap.objs.size := fun b hb => by
    obtain ⟨o, e, _⟩ := T.obj 0 s.heap st b hb
    exact Heap.lt_size e
  refine wpAny_newObj_type (wpAny_newFunctionEnv L.nocell (by intro y hy; simp at hy) (fun h₁ hns₁ hsb₁ => ?_) L.kind)
  dsimp only at hns₁ hsb₁ ⊢
  generalize hH2 : s.heap.push { cls := .type "list", dict := none, data := .seq ([] : List Value).toArray } = h2 at hns₁ hsb₁ ⊢
  have hC : h2.objs.size = s.heap.objs.size + 1 := by rw [← hH2, Heap.size_push]
  have old : ∀ b o, s.heap.get? b = some o → h₁.get? b = some o := fun b o e => by
    exact hsb₁.extBut b o (by rw [hC]; exact nlt1 (Heap.lt_size e)) (Heap.get?_push_of_some _ (hH2 ▸ Heap.get?_push_of_some _ e))
  have hacc : h₁.PlainList s.heap.objs.size #[] := ⟨_, hsb₁.extBut _ _ (by rw [hC]; exact nss _) (Heap.get?_push_of_some _ (hH2 ▸ Heap.get?_push_size _ rfl))⟩
  have hD0 : H s.heap.objs.size = none := I.hok.fresh (Nat.le_refl _)
  rw [hC] at hns₁
  have I0 := I.compStart (tk := s.toks + ([] : List (Str × Value)).length) L hf hlt old hns₁
  have sub := fun x c => capCells_sub (env := X.env) scope.names [] (fun _ _ z => by simp at z) x c
  have cellLt : ∀ x c, X.env.cells.lookup x = some c → c < s.heap.objs.size := fun x c e => by
    obtain ⟨v, q⟩ := I.cell x c e
    exact q.lt
  have stkLt : ∀ b ∈ frs X.stack, b < s.heap.objs.size := fun b hb => by
    obtain ⟨_, o, ho, _⟩ := I.stack.mem hb
    exact Heap.lt_size ho
  have env_eq : ({ newEnv scope h2.objs.size X.env.globals (capCells X.env scope.names []) X.env.qual none .none (some X.env) builtinsNs with scope := relabel scope X.env } : Env) = (X.comp (lcN X.N own ix) scope fp s H).env := by
    show compEnvC scope (capCells X.env scope.names []) h2.objs.size X.env = compEnvC scope (capCells X.env scope.names []) (s.heap.objs.size + 1) X.env
    rw [hC]
  -- the loop
  have loop : codeAny (model X.prog X.w) X.A (.compLoop (.ListComp elt [⟨tg, iter, ifs, 0⟩] scope pos) 0 (.ref it) (.ref s.heap.objs.size) (X.comp (lcN X.N own ix) scope fp s H).env) (RR (.ref s.heap.objs.size) (s.heap.objs.size + 1))
      { s with heap := h₁, toks := s.toks + ([] : List (Str × Value)).length } := by
    refine lc_loop (fun n s' => ∃ i ys H', Inv (X.comp (lcN X.N own ix) scope fp s H) [] (capSt own.length ix σ) H' s' ∧ tn i s'.heap ∧ (∀ b ∈ fp, H' b = none) ∧ H' s.heap.objs.size = none ∧
      (∃ its : List Value, Vals ys its ∧ s'.heap.PlainList s.heap.objs.size its.toArray) ∧ ys.length ≤ sizeLine ∧ W i n ys H') ?_ m0
      ⟨0, [], H, I0, T.keep _ _ _ st (fun b _ o e => old b o e), fun b hb => (hf b hb).1, hD0, ⟨[], .nil, hacc⟩, Nat.zero_le _, w0⟩
    rintro n s3 ⟨i, ys, H3, I3, st3, fr3, d3, ⟨its, rv, n3, hp3⟩, hz, w3⟩
    -- the list's own object is pinned
    have Ip := I3.pins_of (pins' := [(s.heap.objs.size, { cls := .type "list", data := .seq its.toArray n3 })]) (fun p hp => by
      have e : p = (s.heap.objs.size, { cls := .type "list", data := .seq its.toArray n3 }) := by simpa using hp
      subst e
      exact ⟨hp3, d3, nss _, fun z => absurd (stkLt _ z) (Nat.lt_irrefl _), fun v z => by cases z⟩)
    have stat : ∀ {H' : Hp}, (∀ b ∈ fp, H' b = none) → ∀ b ∈ fp, FpOk (X.comp (lcN X.N own ix) scope fp s H) [(s.heap.objs.size, { cls := .type "list", data := .seq its.toArray n3 })] H' b := fun hn b hb =>
      ⟨hn b hb, nlt1 (hlt b hb), I3.ok.exfs b hb, .inl hb, fun x c e => (I3.ok.exf b hb).2 x c e, fun p hp => by
        have e : p = (s.heap.objs.size, { cls := .type "list", data := .seq its.toArray n3 }) := by simpa using (show p ∈ ([] : List (Addr × Obj)) ++ [(s.heap.objs.size, { cls := .type "list", data := .seq its.toArray n3 })] from hp)
        subst e
        exact ngt (hlt b hb)⟩
    rcases turn i n ys H3 w3 with ⟨stop, qf⟩ | ⟨go, N, hN, step⟩
    · refine thn (T.done (X.comp (lcN X.N own ix) scope fp s H) rfl rfl rfl hc i _ s3 _ H3 _ Ip (stat fr3) st3 stop) fun r s4 ⟨hr, I4⟩ => ?_
      subst hr
      obtain ⟨e4, d4, _⟩ := I4.pin (s.heap.objs.size, { cls := .type "list", data := .seq its.toArray n3 }) (List.mem_append_right _ List.mem_cons_self)
      obtain ⟨mC, hnC, _⟩ := I4.loc
      -- the list is tracked now
      have hok : HOk X.prog X.w (upd H3 s.heap.objs.size (.lst ys)) s4.heap := fun b u e => by
        by_cases hb : b = s.heap.objs.size
        · subst hb
          rw [upd_same] at e
          cases e
          exact ⟨hz, its, n3, rv, e4⟩
        · rw [upd_ne hb] at e
          exact (I4.hok b u e).stay (fun c v _ q => q) (fun c q => by rw [upd_ne (ne_of_none q d4)]; exact q) fun c xs q => by rw [upd_ne (ne_of_none q d4)]; exact q
      have ub := I4.base
      have un : Un (frs X.stack) fp H (upd H3 s.heap.objs.size (.lst ys)) s.heap s4.heap :=
        ⟨ub.keep, ub.slot, fun b o e n hx => by rw [upd_ne (Nat.ne_of_lt (Heap.lt_size e))]; exact ub.free b o e n hx, ub.there,
          fun b xs e => by rw [upd_ne (ne_of_none (ub.tups b xs e) d4)]; exact ub.tups b xs e, fun b o u e => by rw [upd_ne (ne_of_none (ub.frzs b o u e) d4)]; exact ub.frzs b o u e,
          fun b ps e => by
            obtain ⟨more, q⟩ := ub.tbls b ps e
            exact ⟨more, by rw [upd_ne (ne_of_none q d4)]; exact q⟩⟩
      have I5 : Inv X pins σ (upd H3 s.heap.objs.size (.lst ys)) s4 := I.call' I4.os un hok I4.bare fun b hb => by
        obtain ⟨f0, f1, f2, f3, f4, f5⟩ := hf b hb
        exact ⟨f3, f1, f4, f5⟩
      refine hRR _ _ s4 ys H3 mC hnC ?_ ?_ ?_ ?_ ?_ d4 I5 qf
      · exact ngt1 I.lt
      · intro x c e
        exact nlt1 (cellLt x c e)
      · exact Nat.le_trans I.sz (Nat.le_succ _)
      · intro p hp
        exact nlt1 (Heap.lt_size (I.pin p hp).1)
      · rw [upd_ne (nss' _)]
        exact I4.free
    · refine thn (T.item (X.comp (lcN X.N own ix) scope fp s H) rfl rfl rfl hc i _ s3 _ H3 _ Ip (stat fr3) st3 go) fun r s4 ⟨u, hr, h4⟩ => ?_
      subst hr
      refine thn h4 fun _ s5 ⟨x, H5, I5, r5, y5, st5, fr5⟩ => ?_
      have I5' := I5.pinned (stat fr5) (T.obj _ _ st5)
      refine thn (hg fp s H _ s5 _ H5 x u _ I5' r5 (gw _ _ _ _ (step x H5 y5))) fun _ s6 ⟨σ6, H6, I6, q6, l6, k6⟩ => ?_
      refine thn (ht fp s H _ s6 σ6 H6 _ I6 q6) fun c s7 ⟨H7, I7, q7⟩ => ?_
      -- what holds of the list and the iterator whatever was done
      have again : ∀ {s8 : Shared} {H8 : Hp}, Inv (X.comp (lcN X.N own ix) scope fp s H) ([(s.heap.objs.size, { cls := .type "list", data := .seq its.toArray n3 })] ++ pinsAt fp s5.heap) σ6 H8 s8 →
          Inv (X.comp (lcN X.N own ix) scope fp s H) [] (capSt own.length ix σ) H8 s8 ∧ tn (i + 1) s8.heap ∧ (∀ b ∈ fp, H8 b = none) ∧ H8 s.heap.objs.size = none ∧ s8.heap.get? s.heap.objs.size = some { cls := .type "list", data := .seq its.toArray n3 } := fun {s8 H8} I8 => by
        obtain ⟨e8, d8, _⟩ := I8.pin (s.heap.objs.size, { cls := .type "list", data := .seq its.toArray n3 }) (List.mem_append_right _ (List.mem_append_left _ List.mem_cons_self))
        refine ⟨(I8.pins_of (pins' := []) fun p hp => by cases hp).weak l6.symm fun j v e => ?_, T.keep _ _ _ st5 fun b hb o e => (I8.pin (b, o) (List.mem_append_right _ (List.mem_append_right _ (mem_pinsAt hb e)))).1, fun b hb => ?_, d8, e8⟩
        · obtain ⟨i', j', rfl, _, _⟩ := capSt_get e
          rw [k6 _ (Nat.le_add_right _ _)]
          exact e
        · obtain ⟨o, e, d⟩ := T.obj _ _ st5 b hb
          exact (I8.pin (b, o) (List.mem_append_right _ (List.mem_append_right _ (mem_pinsAt hb e)))).2.1
      cases c with
      | false =>
        rw [if_neg Bool.false_ne_true] at q7 ⊢
        obtain ⟨m', hm, w7⟩ := hN _ _ q7
        obtain ⟨a1, a2, a3, a4, a5⟩ := again I7
        exact ⟨m', hm, i + 1, ys, H7, a1, a2, a3, a4, ⟨its, rv, n3, a5⟩, hz, w7⟩
      | true =>
        rw [if_pos rfl] at q7 ⊢
        refine thn (he fp s H _ s7 σ6 H7 _ I7 q7) fun v s8 ⟨y, H8, I8, r8, hz8, q8⟩ => ?_
        obtain ⟨m', hm, w8⟩ := hN _ _ q8
        obtain ⟨a1, a2, a3, a4, a5⟩ := again I8
        refine wpAny_list_append_plain (s := s8) (l := s.heap.objs.size) (items := its.toArray) ⟨n3, a5⟩ (fun h9 hl9 hs9 => ?_) (by have := rv.length; simp; omega)
        have I9 : Inv (X.comp (lcN X.N own ix) scope fp s H) [] (capSt own.length ix σ) H8 { s8 with heap := h9 } := a1.turned (t' := s8.toks) (it := s.heap.objs.size) (fun b o hb e => hs9.extBut b o hb e) a4 (nss _)
          (.inr (Nat.le_refl _)) (fun x c e => nlt (cellLt x c (sub x c e))) (fun p hp => absurd (show p ∈ ([] : List (Addr × Obj)) from hp) (by simp))
        refine ⟨m', hm, i + 1, ys ++ [y], H8, I9, T.keep _ _ _ a2 (fun b hb o e => hs9.extBut b o (nlt (hlt b hb)) e), a3, a4, ⟨its ++ [v], Vals.append rv (.cons r8 .nil), ?_⟩, ?_, w8⟩
        · have e : (its ++ [v]).toArray = its.toArray.push v := by simp
          rw [e]
          exact hl9
        · rw [List.length_append]
          show _ + 1 ≤ _
          omega
  show codeAny _ _ (.compStart _ 0 (.ref it) (.ref s.heap.objs.size) _) (RR (.ref s.heap.objs.size) h2.objs.size) _
  rw [hC]
  have e2 := env_eq
  rw [hC] at e2
  refine Eq.mpr (congrArg (fun e => codeAny (model X.prog X.w) X.A (.compStart (.ListComp elt [⟨tg, iter, ifs, 0⟩] scope pos) 0 (.ref it) (.ref s.heap.objs.size) e) (RR (.ref s.heap.objs.size) (s.heap.objs.size + 1)) { s with heap := h₁, toks := s.toks + ([] : List (Str × Value)).length }) e2) ?_
  exact codeAny_compStart_list loop (T.self X.A 0 _ _ _ (T.keep _ _ _ st fun b _ o e => old b o e) loop)
end
end L2
set_option maxHeartbeats 4000000
namespace L2
open PySem PySem.Spec PyProof.Rows
section
variable {X : Cx} {scope : Scope} {own : List Str} {ix : List Nat}
def tLC (wi : TI) (k : Nat) (ix : List Nat) (g : TG) (tt : TT) (te : TE) : TE := fun σ H Q => wi σ H fun J H1 => rLC J k ix g tt te σ H1 fun ys H' => ∀ a, H' a = none → Q (.ref a) (upd H' a (.lst ys))
theorem Inv.clos {pins : List (Addr × Obj)} {σ : St} {H : Hp} {s : Shared} (I : Inv X pins σ H s) (L : LcScope X.N X.env.scope scope own ix) : closureFor scope X.env = pure (capCells X.env scope.names []) :=
  closure_cap fun x hx hf => I.ok.has x.1 (L.free x hx hf)
theorem pe_lc {elt tg iter : Expr} {ifs : List Expr} {pos : Pos} {wi : TI} {g : TG} {tt : TT} {te : TE} (hi : PI X tg iter wi) (L : LcScope X.N X.env.scope scope own ix) (hc : X.calm = true)
    (hg : ∀ fp s H, PG (X.comp (lcN X.N own ix) scope fp s H) tg g) (gw : GW own.length g) (ht : ∀ fp s H, PIf (X.comp (lcN X.N own ix) scope fp s H) ifs tt) (he : ∀ fp s H, PE (X.comp (lcN X.N own ix) scope fp s H) elt te)
    (hs : ∀ x, foldedSetIterable iter X.env x = pure x := by intro _; rfl) : PE X (.ListComp elt [⟨tg, iter, ifs, 0⟩] scope pos) (tLC wi own.length ix g tt te) := by
  intro pins s σ H Q I h
  rw [eval_ListComp]
  refine wpAny_comprehension_free (use := none) rfl hs (I.clos L) L.kind L.names (thn (hi pins s σ H _ I h) fun v s1 h1 => thn h1 fun itv s2 h2 => ?_)
  obtain ⟨it, fp, tn, J, H2, e, I2, T, st2, f2, hw⟩ := h2
  subst e
  refine lc_block (RR := fun acc C => compPost (model X.prog X.w) X.A X.xe none (EP X pins σ Q) acc C) L hc hg gw ht he I2 T st2 f2 hw ?_
  intro D C s' ys H' m hn c1 c2 c3 c4 c5 d I' q
  exact ⟨m, hn, fun h' hs' => ⟨.ref D, _, I'.turned (t' := s'.toks) (it := C) (fun b o hb e => hs'.extBut b o hb e) c5 c1 (.inr c3) c2 c4, rfl, q D d⟩⟩
theorem ps_lc {elt tg iter : Expr} {ifs : List Expr} {pos spos py : Pos} {wi : TI} {g : TG} {tt : TT} {te : TE} {i : Nat} {y : Str} (hN : X.N.Nodup) (hy : X.N[i]? = some y) (hx : X.env.scope.names.lookup y = some .local) (hi : PI X tg iter wi) (L : LcScope X.N X.env.scope scope own ix) (hc : X.calm = true)
    (hg : ∀ fp s H, PG (X.comp (lcN X.N own ix) scope fp s H) tg g) (gw : GW own.length g) (ht : ∀ fp s H, PIf (X.comp (lcN X.N own ix) scope fp s H) ifs tt) (he : ∀ fp s H, PE (X.comp (lcN X.N own ix) scope fp s H) elt te)
    (hsw : swapsWith (.ListComp elt [⟨tg, iter, ifs, 0⟩] scope pos) (some (.Name y py)) spos.line X.env = pure true := by rfl)
    (hs : ∀ x, foldedSetIterable iter X.env x = pure x := by intro _; rfl) : PS X (.Assign [.Name y py] (.ListComp elt [⟨tg, iter, ifs, 0⟩] scope pos) spos) (tAsg (tLC wi own.length ix g tt te) (gName i)) := by
  intro pins s σ H Dn I h
  rw [exec_Assign_Name_used _ _ _ _ hsw]
  refine wpAny_bind (wpAny_standAt (wpAny_bind ?_))
  show wpAny _ X.A (do let _ ← comprehension (.ListComp elt [⟨tg, iter, ifs, 0⟩] scope pos) scope X.env _ (newList []) false (eval iter X.env) (some (assign (.Name y py) X.env))) _ _ s
  refine wpAny_bind (thn (wpAny_comprehension_free (use := some (assign (.Name y py) X.env)) (Q := fun _ s' => SP X pins Dn .next s') rfl hs (I.clos L) L.kind L.names
    (thn (hi pins s σ H _ I h) fun v s1 h1 => thn h1 fun itv s2 h2 => ?_)) fun _ s' hq => wpAny_pure (wpAny_pure hq))
  obtain ⟨it, fp, tn, J, H2, e, I2, T, st2, f2, hw⟩ := h2
  subst e
  refine lc_block (RR := fun acc C => compPost (model X.prog X.w) X.A X.xe (some (assign (.Name y py) X.env)) (fun _ s' => SP X pins Dn .next s') acc C) L hc hg gw ht he I2 T st2 f2 hw ?_
  intro D C s' ys H' m hn c1 c2 c3 c4 c5 d I' q
  show wpAny _ X.A (assign (.Name y py) X.env (.ref D)) _ _ s'
  refine wpAny_assign_Name (store_ok2 I' hN hy (.inl hx) (v := .ref D) rfl (fun s2 I2 ⟨a, hs2, ha⟩ => ?_) (.inr hx))
  have aC : a ≠ C := by
    rcases ha with rfl | ha
    · exact Ne.symm c1
    · exact c2 y a ha
  refine ⟨m, hn.sameBut hs2 (Ne.symm aC), fun h' hs' => ?_⟩
  exact ⟨_, _, I2.turned (t' := s2.toks) (it := C) (fun b o hb e => hs'.extBut b o hb e) c5 c1 (.inr c3) c2 c4, q D d⟩
end
section
variable {k : Nat} {ix : List Nat} {g : TG} {tt : TT} {te : TE} {σ : St} {H1 : Hp} {Q : List V → Hp → Prop}
def lcTurn (k : Nat) (ix : List Nat) (g : TG) (tt : TT) (te : TE) (σ : St) (x : V) (ys : List V) (H : Hp) (N : List V → Hp → Prop) : Prop :=
  g x (capSt k ix σ) H fun σ2 H2 => tt σ2 H2 fun c H3 => if c = true then te σ2 H3 fun y H4 => ys.length < sizeLine ∧ N (ys ++ [y]) H4 else N ys H3
theorem lc_by {J : It} {n : Nat} (Pv : Nat → List V → Hp → Prop) (h0 : Pv 0 [] H1) (hgo : ∀ i ys H, i < n → Pv i ys H → J.go i H) (hst : ∀ ys H, Pv n ys H → J.stop n H)
    (hs : ∀ i ys H x H', i < n → Pv i ys H → J.yld i H x H' → lcTurn k ix g tt te σ x ys H' (Pv (i + 1))) (hd : ∀ ys H, Pv n ys H → Q ys H) : rLC J k ix g tt te σ H1 Q := by
  refine ⟨fun i m ys H => m = n - i ∧ i ≤ n ∧ Pv i ys H, ⟨n, by simp, Nat.zero_le _, h0⟩, ?_⟩
  rintro i m ys H ⟨rfl, hi, p⟩
  by_cases hlt : i < n
  · exact .inr ⟨hgo i ys H hlt p, Pv (i + 1), fun ys' H' q => ⟨n - (i + 1), by omega, rfl, hlt, q⟩, fun x H' y => hs i ys H x H' hlt p y⟩
  · have e : i = n := by omega
    subst e
    exact .inl ⟨hst ys H p, hd ys H p⟩
theorem lc_range {lo : Int} {n : Nat} (Pv : Nat → List V → Hp → Prop) (h0 : Pv 0 [] H1) (hs : ∀ i ys H, i < n → Pv i ys H → lcTurn k ix g tt te σ (.int (lo + i)) ys H (Pv (i + 1)))
    (hd : ∀ ys H, Pv n ys H → Q ys H) : rLC (Itr lo n) k ix g tt te σ H1 Q :=
  lc_by (n := n) Pv h0 (fun i _ _ h _ => h) (fun _ _ _ => Nat.le_refl _) (fun i ys H x H' h p y => by
    obtain ⟨e, y⟩ := y
    subst e y
    exact hs i ys _ h p) hd
theorem lc_list {K : PySem.W.Frag} {a : Addr} {xs : List V} (Pv : Nat → List V → Hp → Prop) (h0 : Pv 0 [] H1) (hl : ∀ i ys H, i ≤ xs.length → Pv i ys H → SqL K H a xs)
    (hs : ∀ i ys H x, xs[i]? = some x → Pv i ys H → lcTurn k ix g tt te σ x ys H (Pv (i + 1))) (hd : ∀ ys H, Pv xs.length ys H → Q ys H) : rLC (Itl K a) k ix g tt te σ H1 Q :=
  lc_by (n := xs.length) Pv h0 (fun i ys H h p => ⟨xs, xs[i], hl i ys H (Nat.le_of_lt h) p, by simp [h]⟩) (fun ys H p => ⟨xs, hl _ ys H (Nat.le_refl _) p, Nat.le_refl _⟩) (fun i ys H x H' h p y => by
    obtain ⟨e, y⟩ := y
    subst e
    exact hs i ys _ x (y xs (hl i ys _ (Nat.le_of_lt h) p)) p) hd
theorem lc_tup {K : PySem.W.Frag} {a : Addr} {xs : List V} (Pv : Nat → List V → Hp → Prop) (h0 : Pv 0 [] H1) (hl : ∀ i ys H, i ≤ xs.length → Pv i ys H → SqT K H a xs)
    (hs : ∀ i ys H x, xs[i]? = some x → Pv i ys H → lcTurn k ix g tt te σ x ys H (Pv (i + 1))) (hd : ∀ ys H, Pv xs.length ys H → Q ys H) : rLC (Itt K a) k ix g tt te σ H1 Q :=
  lc_by (n := xs.length) Pv h0 (fun i ys H h p => ⟨xs, xs[i], hl i ys H (Nat.le_of_lt h) p, by simp [h]⟩) (fun ys H p => ⟨xs, hl _ ys H (Nat.le_refl _) p, Nat.le_refl _⟩) (fun i ys H x H' h p y => by
    obtain ⟨e, y⟩ := y
    subst e
    exact hs i ys _ x (y xs (hl i ys _ (Nat.le_of_lt h) p)) p) hd
end
end L2
set_option maxHeartbeats 4000000
namespace L2
open PySem PySem.Spec PyProof.Rows
def Itf (f : Nat → V) (n : Nat) : It := ⟨fun i _ => i < n, fun i H x H' => H' = H ∧ x = f i, fun i _ => i = n⟩
theorem turn_walks {P : Program} {w : World} {K : PySem.W.Frag} {tg : Expr} {it : Addr} {n : Nat} {Pv : Nat → Value → Prop} {tn : Nat → Heap → Prop} {f : Nat → V}
    (W : ∀ A : Around, A.handled = none → Walks P w A it [it] [it] n Pv tn) (ob : ∀ i h, tn i h → ∃ o nm vs, h.get? it = some o ∧ o.cls = .type nm ∧ o.data = .fields vs ∧ ["enumerate", "zip", "dict_itemiterator", "dict_reverseitemiterator", "odict_iterator", "itertools.zip_longest", "itertools.pairwise"].contains nm = false)
    (rel : ∀ i v, Pv i v → RelV (f i) v) (hself : ∀ (A : Around) (i : Nat) (s : Shared) (Q : Value → Shared → Prop) (E : Value → Shared → Prop), tn i s.heap → Q (.ref it) s → wpAny (model P w) A (pyIter (.ref it)) Q E s) : Turn P w K tg (Itf f n) [it] it tn where
  mem := by simp
  obj := fun i h st b hb => by
    have e : b = it := by simpa using hb
    subst e
    obtain ⟨o, nm, vs, e, _, d, _⟩ := ob i h st
    exact ⟨o, e, fun v z => by rw [d] at z; cases z⟩
  keep := fun i h h' st k => by
    by_cases hA : ∃ A : Around, A.handled = none
    · obtain ⟨A, hA⟩ := hA
      exact (W A hA).frame i h h' st k
    · exact absurd ⟨callerA, rfl⟩ hA
  item := by
    intro X hP hw hK hc i pins s σ H E I hf st hg
    subst hP hw hK
    obtain ⟨f0, f1, f2, f3, f4, f5⟩ := hf it (by simp)
    refine (W X.A (I.ok.hd hc)).item i s _ _ hg st fun v h' tk hv st' kk => ?_
    have I1 : Inv X pins σ H { s with heap := h', toks := tk } := I.turned (fun b o hb e => kk b o (by simpa using hb) e) f0 f1 f3 f4 f5
    obtain ⟨o, nm, vs, e, c, d, hn⟩ := ob _ _ st'
    exact ⟨v, rfl, go_of (s := { s with heap := h', toks := tk }) e c d hn ⟨f i, H, I1, rel i v hv, ⟨rfl, rfl⟩, st', fun b hb => (hf b hb).1⟩⟩
  done := by
    intro X hP hw hK hc i pins s σ H E I hf st hg
    subst hP hw hK
    obtain ⟨f0, f1, f2, f3, f4, f5⟩ := hf it (by simp)
    have e : i = n := hg
    subst e
    exact (W X.A (I.ok.hd hc)).done s _ _ st fun h' tk kk => ⟨rfl, I.turned (fun b o hb e => kk b o (by simpa using hb) e) f0 f1 f3 f4 f5⟩
  self := hself
section
variable {X : Cx} {tg : Expr}
theorem Inv.fp1 {pins : List (Addr × Obj)} {σ : St} {H : Hp} {s : Shared} (I : Inv X pins σ H s) : ∀ b ∈ [s.heap.objs.size], FpOk X pins H b := fun b hb => by
  have e : b = s.heap.objs.size := by simpa using hb
  subst e
  exact I.fpOk (Nat.le_refl _) (I.hok.fresh (Nat.le_refl _))
def signV (x : Str) (i : Nat) : V := .str ⟨#[x.cps.getD i 0]⟩
def iStr (ts : TE) : TI := fun σ H R => ts σ H fun x H1 => ∃ z, x = .str z ∧ R (Itf (signV z) z.cps.size) H1
theorem pi_str {e : Expr} {ts : TE} (hl : PE X e ts) : PI X tg e (iStr ts) := by
  intro pins s σ H R I h
  refine thn (hl pins s σ H _ I h) fun v s1 ⟨x, H1, I1, r1, q1⟩ => ?_
  obtain ⟨z, e, q⟩ := q1
  subst e
  obtain ⟨t, rfl⟩ := r1
  have rel : ∀ i v, SignAt z i v → RelV (signV z i) v := fun i v ⟨c, u, hc, hv⟩ => by
    subst hv
    refine ⟨u, ?_⟩
    have e : z.cps.getD i 0 = c := by rw [Array.getD_eq_getD_getElem?, hc]; rfl
    rw [e]
  cases ha : z.cps.all (· < 128) with
  | false =>
    refine wpAny_pyIter_wide ha ?_
    exact ⟨s1.heap.objs.size, [s1.heap.objs.size], _, _, H1, rfl, I1.kept (t' := s1.toks) fun b o e => Heap.get?_push_of_some _ e,
      turn_walks (fun A hA => Walks.strWide hA _ z t) (fun i h ⟨o, e, c, d⟩ => ⟨o, "str_iterator", _, e, c, d, by decide⟩) rel (fun A i s Q E st hq => wpAny_pyIter_striter_wide st hq), ⟨_, Heap.get?_push_size _ rfl, rfl, rfl⟩, fun b hb => I1.fp1 b hb, q⟩
  | true =>
    refine wpAny_pyIter_ascii ha ?_
    exact ⟨s1.heap.objs.size, [s1.heap.objs.size], _, _, H1, rfl, I1.kept (t' := s1.toks) fun b o e => Heap.get?_push_of_some _ e,
      turn_walks (fun A hA => Walks.strAscii hA _ z t) (fun i h ⟨o, e, c, d⟩ => ⟨o, "str_ascii_iterator", _, e, c, d, by decide⟩) rel (fun A i s Q E st hq => wpAny_pyIter_striter_ascii st hq), ⟨_, Heap.get?_push_size _ rfl, rfl, rfl⟩, fun b hb => I1.fp1 b hb, q⟩
theorem KV.at {kvs : List (Key × V)} {vs : List (Key × Value)} (r : KV kvs vs) {i : Nat} {k : Key} {v : Value} (e : vs[i]? = some (k, v)) : ∃ x, kvs[i]? = some (k, x) ∧ RelV x v := by
  induction r generalizing i with
  | nil => simp at e
  | @cons p q ps qs h t ih =>
    cases i with
    | zero =>
      have e' : q = (k, v) := by simpa using e
      obtain ⟨p1, p2⟩ := p
      subst e'
      obtain ⟨h1, h2⟩ := h
      have h1' : p1 = k := h1
      subst h1'
      exact ⟨p2, rfl, h2⟩
    | succ i => exact ih (by simpa using e)
theorem kV_of {P : Program} {w : World} {k : Key} {u : Value} (h : (mixKind P w).is k u = true) : RelV (kV k) u := by
  rcases keyIs_shape (k := k) (v := u) h with ⟨i, t, rfl, rfl⟩ | ⟨x, t, rfl, rfl⟩
  · exact ⟨t, rfl⟩
  · exact ⟨t, rfl⟩
def Ite (K : PySem.W.Frag) (a : Addr) : It :=
  ⟨fun i H => ∃ xs x, SqL K H a xs ∧ xs[i]? = some x, fun i H x H' => ∃ p y, H p = none ∧ H' = upd H p (.tup [.int i, y]) ∧ x = .ref p ∧ ∀ xs, SqL K H a xs → xs[i]? = some y, fun i H => ∃ xs, SqL K H a xs ∧ xs.length ≤ i⟩
theorem turn_enum {P : Program} {w : World} {K : PySem.W.Frag} {elts : List Expr} {x1} {tp : Pos} (a e it : Addr) (hei : e ≠ it) : Turn P w K (.Tuple elts x1 tp) (Ite K a) [e, it] e (fun i h => (∃ old, IsEnum h e it i old) ∧ h.IsListIter it a i) where
  mem := by simp
  obj := fun i h st b hb => by
    obtain ⟨⟨old, s1⟩, ⟨o, e2, c, d⟩⟩ := st
    rcases List.mem_cons.mp hb with rfl | hb
    · exact ⟨_, s1, fun v z => by
        have z' : Data.fields _ = Data.cell v := z
        cases z'⟩
    · have e' : b = it := by simpa using hb
      subst e'
      exact ⟨o, e2, fun v z => by rw [d] at z; cases z⟩
  keep := fun i h h' st k => ⟨let ⟨old, s1⟩ := st.1; ⟨old, k e (by simp) _ s1⟩, st.2.at fun o q => k it (by simp) o q⟩
  item := by
    intro X hP hw hK hc i pins s σ H E I hf st hg
    subst hP hw hK
    obtain ⟨xs, x, hq, hx⟩ := hg
    obtain ⟨its, rv, p, hz⟩ := I.list hq
    obtain ⟨u, hu, ru⟩ := rv.get hx
    obtain ⟨f0, f1, f2, f3, f4, f5⟩ := hf e (by simp)
    obtain ⟨g0, g1, g2, g3, g4, g5⟩ := hf it (by simp)
    obtain ⟨⟨old, s1⟩, s2⟩ := st
    have he : e < s.heap.objs.size := Heap.lt_size s1
    have hit : it < s.heap.objs.size := by obtain ⟨o, q, _⟩ := s2; exact Heap.lt_size q
    refine wpAny_pyNext_enum_item s1 s2 p.isList (x := u) (by simpa using hu) hei fun h1 heo hit1 ht1 hz1 hk1 => ?_
    refine ⟨_, rfl, wpAny_letOwnedTupleGo_enum heo fun h2 he2 hs2 => ?_⟩
    have hn : H s.heap.objs.size = none := I.hok.fresh (Nat.le_refl _)
    have keep : ∀ b o, b ≠ e → b ≠ it → s.heap.get? b = some o → h2.get? b = some o := fun b o h1' h2' q => (hs2.2 b h1').trans (hk1 b o h1' h2' q)
    have tup : h2.get? s.heap.objs.size = some { cls := .type "tuple", data := .seq #[.int i s.toks, u] } := (hs2.2 _ (ngt he)).trans ht1
    have I2 : Inv X pins σ (upd H s.heap.objs.size (.tup [.int i, x])) { s with heap := h2, toks := s.toks + 1 } := by
      have nitx : ∀ b v, H b = some v → b ≠ e ∧ b ≠ it := fun b v q => ⟨(fun z => by rw [z, f0] at q; cases q), (fun z => by rw [z, g0] at q; cases q)⟩
      refine I.step (g' := s.gens) (d' := s.drawn) (ch := [e, it]) (fun b hb => ?_) (fun b o _ _ hc' q _ => keep b o (fun z => hc' (by simp [z])) (fun z => hc' (by simp [z])) q) (fun b o _ _ hc' q _ => ⟨o.slots, keep b o (fun z => hc' (by simp [z])) (fun z => hc' (by simp [z])) q⟩)
        (fun b o _ q n => by rw [upd_ne (nlt (Heap.lt_size q))]; exact n) (fun b o hc' q => ⟨o, keep b o (fun z => hc' (by simp [z])) (fun z => hc' (by simp [z])) q⟩)
        (fun b xs q => by rw [upd_ne (ne_of_none q hn)]; exact q) (fun b o v q => by rw [upd_ne (ne_of_none q hn)]; exact q) (fun b ps q => ⟨#[], by rw [upd_ne (ne_of_none q hn), q]; simp⟩) (fun m hm => ?_) (fun b v q => ?_) I.bare
      · rcases List.mem_cons.mp hb with rfl | hb
        · exact ⟨f3, f1, f4, f5⟩
        · have e' : b = it := by simpa using hb
          subst e'
          exact ⟨g3, g1, g4, g5⟩
      · obtain ⟨o, es, ep, ho, r⟩ := hm
        exact ⟨o, es, ep, keep _ o (Ne.symm f1) (Ne.symm g1) ho, r⟩
      · by_cases hb : b = s.heap.objs.size
        · subst hb
          rw [upd_same] at q
          cases q
          exact ⟨(show 2 ≤ sizeLine by rw [sizeLine_eq]; decide), [.int i s.toks, u], .cons ⟨_, rfl⟩ (.cons ru .nil), ⟨_, tup, rfl, 0, rfl⟩, _, tup, rfl⟩
        · rw [upd_ne hb] at q
          refine (I.hok b v q).stay (fun c w' hc' q' => ?_) (fun c q' => by rw [upd_ne (ne_of_none q' hn)]; exact q') fun c xs q' => by rw [upd_ne (ne_of_none q' hn)]; exact q'
          rcases hc' with z | z
          · subst z; exact keep c w' (nitx c v q).1 (nitx c v q).2 q'
          · exact keep c w' (nitx c _ z).1 (nitx c _ z).2 q'
    refine ⟨.ref s.heap.objs.size, _, I2, rfl, ⟨_, x, hn, rfl, rfl, fun ys hy => by rw [I.list_inj hy hq]; exact hx⟩, ⟨⟨u, ?_⟩, ?_⟩, fun b hb => ?_⟩
    · have e1 : ((i + 1 : Nat) : Int) = (i : Int) + 1 := by omega
      rw [e1]
      exact he2
    · exact hit1.at fun o q => (hs2.2 _ (Ne.symm hei)).trans q
    · have hb' : b < s.heap.objs.size := by
        rcases List.mem_cons.mp hb with rfl | hb
        · exact he
        · have e' : b = it := by simpa using hb
          subst e'; exact hit
      rw [upd_ne (nlt hb')]
      exact (hf b hb).1
  done := by
    intro X hP hw hK hc i pins s σ H E I hf st hg
    subst hP hw hK
    obtain ⟨xs, hq, hx⟩ := hg
    obtain ⟨its, rv, p, hz⟩ := I.list hq
    obtain ⟨g0, g1, g2, g3, g4, g5⟩ := hf it (by simp)
    obtain ⟨⟨old, s1⟩, s2⟩ := st
    have hl := rv.length
    exact wpAny_pyNext_enum_end (I.ok.hd hc) s1 s2 p.isList (by simp; omega) fun h' eb => ⟨rfl, I.turned (t' := s.toks) (fun b o hb q => eb b o hb q) g0 g1 g3 g4 g5⟩
  self := fun A i s Q E st h => by
    obtain ⟨⟨old, s1⟩, s2⟩ := st
    have hT : s.TypeIs (.ref e) "enumerate" := ⟨_, s1, rfl⟩
    refine wpAny_pyIter_slot hT PySem.F.slot_enumerate_iter (wpAny_call_entry PySem.F.slot_enumerate_iter hT PySem.F.entry_enumerate_iter ?_ (PySem.F.args_enumerate_iter_1 _))
    show wpAny _ _ (ret (.ref e)) _ _ s
    exact wpAny_pure ⟨_, rfl, "enumerate", _, hT, PySem.F.slot_enumerate_next.lookup, h⟩
def iEnum (K : PySem.W.Frag) (ta : TA) : TI := fun σ H R => ta σ H fun vs H1 => ∃ a, vs = [.ref a] ∧ (∃ xs, SqL K H1 a xs) ∧ R (Ite K a) H1
theorem pi_enum {a : Expr} {ta : TA} {p pos : Pos} {elts : List Expr} {x1} {tp : Pos} (hg : Gl X "enumerate") (hm : X.mg "enumerate" = none) (ha : PA X [a] ta) (hs : starEach [a] X.env = [(false, eval a X.env)] := by rfl) : PI X (.Tuple elts x1 tp) (.Call (.Name "enumerate" p) [a] [] pos) (iEnum X.K ta) := by
  intro pins s σ H R I h
  refine Call_ (ld_blt I hg hm (u := .type "enumerate") (by decide +kernel) (PyProof.Rows.callWith_type1 (thn (ha pos pins s σ H _ I h) fun us s1 ⟨vs, H1, I1, r1, q1⟩ => ?_) hs rfl))
  obtain ⟨l, e, ⟨xs, hq⟩, q⟩ := q1
  subst e
  cases r1 with
  | cons r rr =>
    cases rr
    cases r
    obtain ⟨its, rv, p, hz⟩ := I1.list hq
    refine call_enumerate_list p.isList fun h' he hit hsz kp => ?_
    have I2 : Inv X pins σ H1 { s1 with heap := h' } := I1.kept (t' := s1.toks) kp
    have T : Turn X.prog X.w X.K (.Tuple elts x1 tp) (Ite X.K l) [s1.heap.objs.size + 1, s1.heap.objs.size] (s1.heap.objs.size + 1) (fun i h => (∃ old, IsEnum h (s1.heap.objs.size + 1) s1.heap.objs.size i old) ∧ h.IsListIter s1.heap.objs.size l i) := turn_enum l _ _ (nss' _)
    refine T.self X.A 0 { s1 with heap := h' } _ _ ⟨⟨_, he⟩, hit⟩ ?_
    refine ⟨s1.heap.objs.size + 1, _, _, _, H1, rfl, I2, T, ⟨⟨_, he⟩, hit⟩, fun b hb => ?_, q⟩
    have hb' : s1.heap.objs.size ≤ b := by
      rcases List.mem_cons.mp hb with rfl | hb
      · exact Nat.le_succ _
      · have e' : b = s1.heap.objs.size := by simpa using hb
        subst e'; exact Nat.le_refl _
    obtain ⟨f0, f1⟩ := I1.fpOk hb' (I1.hok.fresh hb')
    exact ⟨f0, f1⟩
end
end L2
set_option maxHeartbeats 4000000
namespace L2
open PySem PySem.Spec PyProof.Rows
section
variable {X : Cx}
theorem op_le_str : OpR X (compareOp .LtE) (fun x y H Q => ∃ i j, x = .str i ∧ y = .str j ∧ Q (.bl (!decide (j.cps.toList < i.cps.toList))) H) := by
  intro pins s σ H x y v u Q I rx ry h
  obtain ⟨i, j, rfl, rfl, q⟩ := h
  obtain ⟨t, rfl⟩ := rx
  obtain ⟨t', rfl⟩ := ry
  exact PySem.P.le_str (fin_bl I q rfl)
theorem op_mul_str : OpR X (binaryOp .Mult) (fun x y H Q => ∃ i n, x = .str i ∧ y = .int n ∧ i.length ≤ 1000 ∧ 0 ≤ n ∧ n ≤ 1000 ∧ Q (.str (Txt.mul i n)) H) := by
  intro pins s σ H x y v u Q I rx ry h
  obtain ⟨i, n, rfl, rfl, h1, h2, h3, q⟩ := h
  obtain ⟨t, rfl⟩ := rx
  obtain ⟨t', rfl⟩ := ry
  exact SB.mul (PyProof.Rows.mulOk_of 1000 1000 h1 (by omega) (by omega) (by decide) (by decide)) fun t' k => ⟨.str _, H, I.tok _, ⟨_, rfl⟩, q⟩
theorem kept_of_iter {s : Shared} {h' : Heap} {o : Obj} (hk : ∀ b x, b ∉ [s.heap.objs.size] → (s.heap.push o).get? b = some x → h'.get? b = some x) (b : Addr) (x : Obj) (e : s.heap.get? b = some x) : h'.get? b = some x :=
  hk b x (fun z => by rw [List.mem_singleton.mp z] at e; exact Nat.lt_irrefl _ (Heap.lt_size e)) (Heap.get?_push_of_some _ e)
theorem bools_at : ∀ {bs : List Bool} {us : List Value}, Vals (bs.map V.bl) us → ∀ (i : Nat) (v : Value), us[i]? = some v → ∃ b, bs[i]? = some b ∧ v = .bool b
  | [], _, .nil, i, v, e => by simp at e
  | b :: bs, u :: us, .cons r t, 0, v, e => by
    have e' : u = v := by simpa using e
    subst e'
    exact ⟨b, rfl, r⟩
  | b :: bs, u :: us, .cons r t, i + 1, v, e => bools_at (bs := bs) t i v (by simpa using e)
theorem call_all (hc : X.calm = true) : CallR X (.builtin "all") (fun xs H Q => ∃ (a : Addr) (bs : List Bool), xs = [.ref a] ∧ SqL X.K H a (bs.map V.bl) ∧ Q (.bl (bs.all id)) H) := by
  intro pins s σ H xs us Q I r h
  obtain ⟨a, bs, rfl, hq, q⟩ := h
  obtain ⟨u, rfl, ru⟩ := vals1 r
  cases ru
  obtain ⟨its, rv, p, hz⟩ := I.list hq
  have hl := p.isList
  have hlt : a < s.heap.objs.size := by obtain ⟨_, e, _⟩ := hl; exact Heap.lt_size e
  refine call_all_walk (wpAny_pyIter_list hl ?_)
  refine ⟨s.heap.objs.size, [s.heap.objs.size, a], [s.heap.objs.size], its.toArray.size, _, _, fun i => (bs[i]?).getD true, rfl, Walks.list (A := X.A.in1) (I.ok.hd hc) _ a (Nat.ne_of_lt hlt) its.toArray,
    ⟨⟨_, Heap.get?_push_size _ rfl, rfl, rfl⟩, hl.push _⟩, fun i v s' Q' E' hP hQ => ?_, fun h' tk hk => ?_⟩
  · obtain ⟨b, e, rfl⟩ := bools_at rv i v (by simpa using hP)
    simp only [e, Option.getD_some] at hQ
    exact wpAny_truthy_bool hQ
  · have hlen := rv.length
    have e : ((List.range its.toArray.size).all fun i => (bs[i]?).getD true) = bs.all id := by
      rw [List.size_toArray, ← hlen, List.length_map, Bool.eq_iff_iff, List.all_eq_true, List.all_eq_true]
      constructor
      · intro z b hb
        obtain ⟨i, hi, rfl⟩ := List.getElem_of_mem hb
        have := z i (List.mem_range.mpr hi)
        simpa [hi] using this
      · intro z i hi
        have hi' := List.mem_range.mp hi
        rw [List.getElem?_eq_getElem hi']
        exact z _ (List.getElem_mem hi')
    rw [e]
    exact ⟨.bl _, H, I.kept (kept_of_iter hk), rfl, q⟩
theorem call_isi : CallR X (.builtin "isinstance") (fun xs H Q => ∃ x t n b, xs = [x, .ty n] ∧ TyOf X.K H x t ∧ PySem.W.kitOne X.K t (.type n) = some b ∧ Q (.bl b) H) := by
  intro pins s σ H xs us Q I r h
  obtain ⟨x, t, n, b, rfl, ty, e, q⟩ := h
  obtain ⟨u, w', rfl, rx, rn⟩ := vals2 r
  cases rn
  exact isinst_ok I rx ty e fun tk => ⟨.bl b, H, I.tok tk, rfl, q⟩
theorem strs_of : ∀ {ys : List Str} {us : List Value}, Vals (ys.map V.str) us → StrsAre us ys
  | [], _, .nil => .nil
  | y :: ys, u :: us, .cons r t => by
    obtain ⟨k, rfl⟩ := r
    exact .cons y k (strs_of t)
theorem mt_join : MtR X "str.join" (fun x xs H Q => ∃ (z : Str) (a : Addr) (ys : List Str), x = .str z ∧ xs = [.ref a] ∧ SqL X.K H a (ys.map V.str) ∧ (ys.map (·.length)).sum + ys.length * z.length ≤ 16777216 ∧ Q (.str (Txt.join z ys)) H) := by
  intro pins s σ H x xs v us Q I rx r h
  obtain ⟨z, a, ys, rfl, rfl, hq, hz, q⟩ := h
  obtain ⟨t, rfl⟩ := rx
  obtain ⟨u, rfl, ru⟩ := vals1 r
  cases ru
  obtain ⟨its, rv, p, _⟩ := I.list hq
  exact join_list p.isList (by simpa using strs_of rv) hz fun t' k => ⟨.str _, H, I.tok _, ⟨_, rfl⟩, q⟩
theorem sl_str : SlR X (fun x lo hi H Q => ∃ z, x = .str z ∧ z.length ≤ sizeLine ∧ Q (.str (Txt.slice z lo hi)) H) := by
  intro pins s σ H x v vl vu lo hi sl Q I rx hs pl pu h
  obtain ⟨z, rfl, hz, q⟩ := h
  obtain ⟨t, rfl⟩ := rx
  refine ⟨"str", _, slot_str_getitem.lookup, typeIs_str _ _ _, ?_⟩
  have fin : (Txt.slice z lo hi).length ≤ sizeLine ∧ ∀ t' k, EP X pins σ Q (.str (Txt.slice z lo hi) t') { s with toks := k } := ⟨Nat.le_trans (Txt.slice_le z _ _) hz, fun t' k => ⟨.str _, H, I.tok _, ⟨_, rfl⟩, q⟩⟩
  cases pl with
  | none =>
    cases pu with
    | none => exact wpAny_getItem_str_slice (l := none) (u := none) (st := none) hs rfl (post_val_or_str fin)
    | int j uj => exact wpAny_getItem_str_slice (l := none) (u := some (j, uj)) (st := none) hs rfl (post_val_or_str fin)
  | int i ui =>
    cases pu with
    | none => exact wpAny_getItem_str_slice (l := some (i, ui)) (u := none) (st := none) hs rfl (post_val_or_str fin)
    | int j uj => exact wpAny_getItem_str_slice (l := some (i, ui)) (u := some (j, uj)) (st := none) hs rfl (post_val_or_str fin)
end
end L2
set_option maxHeartbeats 4000000
namespace L2
open PySem PySem.Spec PyProof.Rows PySem.W
section
variable {cmp : Nat → Nat → (Bool → Shared → Prop) → Shared → Prop} {lt : Nat → Nat → Bool} {n : Nat} {s : Shared}
structure Ord (cmp : Nat → Nat → (Bool → Shared → Prop) → Shared → Prop) (lt : Nat → Nat → Bool) (n : Nat) (s : Shared) : Prop where
  ask : ∀ i j C, i < n → j < n → i ≠ j → C (lt i j) s → cmp i j C s
  tr : ∀ i j k, lt i j = true → lt j k = true → lt i k = true
  tot : ∀ i j, i < n → j < n → i ≠ j → lt i j = false → lt j i = true
  asym : ∀ i j, lt i j = true → lt j i = false
structure Re (n : Nat) (p : Array Nat) : Prop where
  size : p.size = n
  lt : ∀ i, i < n → p.getD i 0 < n
  inj : ∀ i j, i < n → j < n → i ≠ j → p.getD i 0 ≠ p.getD j 0
  perm : p.Perm (List.toArray (List.range n))
theorem Re.of_perm {p : Array Nat} (h : p.Perm (List.toArray (List.range n))) : Re n p := by
  have hs : p.size = n := by have := h.size_eq; simpa using this
  have hl : p.toList.Perm (List.range n) := by simpa using Array.perm_iff_toList_perm.mp h
  have nd : p.toList.Nodup := (List.Perm.nodup_iff hl).mpr List.nodup_range
  have get : ∀ i, (hi : i < n) → p.getD i 0 = p.toList[i]'(by simpa [hs] using hi) := fun i hi => by
    simp [Array.getD, hs, hi]
  refine ⟨hs, fun i hi => ?_, fun i j hi hj hij e => ?_, h⟩
  · have hm : p.getD i 0 ∈ p.toList := by rw [get i hi]; exact List.getElem_mem _
    exact List.mem_range.mp ((List.Perm.mem_iff hl).mp hm)
  · rw [get i hi, get j hj] at e
    exact hij ((List.getElem_inj nd).mp e)
def Up (lt : Nat → Nat → Bool) (p : Array Nat) (m : Nat) : Prop := ∀ i j, i < j → j < m → lt (p.getD i 0) (p.getD j 0) = true
def Dn (lt : Nat → Nat → Bool) (p : Array Nat) (m : Nat) : Prop := ∀ i j, i < j → j < m → lt (p.getD j 0) (p.getD i 0) = true
theorem Up.next {p : Array Nat} {m : Nat} (O : Ord cmp lt n s) (h : Up lt p m) (h1 : 1 ≤ m) (hq : lt (p.getD (m - 1) 0) (p.getD m 0) = true) : Up lt p (m + 1) := fun i j hij hj => by
  by_cases e : j = m
  · subst e
    by_cases e2 : i = j - 1
    · subst e2; exact hq
    · exact O.tr _ _ _ (h i (j - 1) (by omega) (by omega)) hq
  · exact h i j hij (by omega)
theorem Dn.next {p : Array Nat} {m : Nat} (O : Ord cmp lt n s) (h : Dn lt p m) (h1 : 1 ≤ m) (hq : lt (p.getD m 0) (p.getD (m - 1) 0) = true) : Dn lt p (m + 1) := fun i j hij hj => by
  by_cases e : j = m
  · subst e
    by_cases e2 : i = j - 1
    · subst e2; exact hq
    · exact O.tr _ _ _ hq (h i (j - 1) (by omega) (by omega))
  · exact h i j hij (by omega)
theorem asc_ok {p : Array Nat} {Q : Nat → Shared → Prop} (O : Ord cmp lt n s) (r : Re n p) : ∀ (f m : Nat), 1 ≤ m → m + f ≤ n → Up lt p m → (∀ m', m ≤ m' → m' ≤ m + f → Up lt p m' → (m' = m + f ∨ lt (p.getD m' 0) (p.getD (m' - 1) 0) = true) → Q m' s) → (kas_asc p f m).kasWp cmp Q s
  | 0, m, h1, hm, u, q => q m (Nat.le_refl _) (Nat.le_refl _) u (.inl rfl)
  | f + 1, m, h1, hm, u, q => by
    show cmp _ _ _ s
    refine O.ask _ _ _ (r.lt m (by omega)) (r.lt (m - 1) (by omega)) (r.inj _ _ (by omega) (by omega) (by omega)) ?_
    cases c : lt (p.getD m 0) (p.getD (m - 1) 0) with
    | true =>
      show (KasT.ret m).kasWp cmp Q s
      exact q m (Nat.le_refl _) (by omega) u (.inr c)
    | false =>
      show (kas_asc p f (m + 1)).kasWp cmp Q s
      have hq := O.tot _ _ (r.lt m (by omega)) (r.lt (m - 1) (by omega)) (r.inj _ _ (by omega) (by omega) (by omega)) c
      refine asc_ok O r f (m + 1) (by omega) (by omega) (u.next O h1 hq) fun m' a b c d => q m' (by omega) (by omega) c ?_
      rcases d with d | d
      · exact .inl (by omega)
      · exact .inr d
theorem desc_ok {p : Array Nat} {Q : Array Nat × Nat × Nat → Shared → Prop} (O : Ord cmp lt n s) (r : Re n p) : ∀ (f m : Nat), 1 ≤ m → m + f ≤ n → Dn lt p m → (∀ m', m ≤ m' → m' ≤ m + f → Dn lt p m' → Q (p, m', 0) s) → (kas_desc f p m 0).kasWp cmp Q s
  | 0, m, h1, hm, u, q => q m (Nat.le_refl _) (Nat.le_refl _) u
  | f + 1, m, h1, hm, u, q => by
    show cmp _ _ _ s
    refine O.ask _ _ _ (r.lt m (by omega)) (r.lt (m - 1) (by omega)) (r.inj _ _ (by omega) (by omega) (by omega)) ?_
    cases c : lt (p.getD m 0) (p.getD (m - 1) 0) with
    | true =>
      show (kas_desc f p (m + 1) 0).kasWp cmp Q s
      exact desc_ok O r f (m + 1) (by omega) (by omega) (u.next O h1 c) fun m' a b c => q m' (by omega) (by omega) c
    | false =>
      show cmp _ _ _ s
      refine O.ask _ _ _ (r.lt (m - 1) (by omega)) (r.lt m (by omega)) (r.inj _ _ (by omega) (by omega) (by omega)) ?_
      rw [O.tot _ _ (r.lt m (by omega)) (r.lt (m - 1) (by omega)) (r.inj _ _ (by omega) (by omega) (by omega)) c]
      show (KasT.ret (p, m, 0)).kasWp cmp Q s
      exact q m (Nat.le_refl _) (by omega) u
theorem rev_get {p : Array Nat} {m k : Nat} (hm : m ≤ p.size) : (kas_rev p 0 m).getD k 0 = if k < m then p.getD (m - 1 - k) 0 else p.getD k 0 := by
  have h := getElem?_mirror_all (xs := p) (i := 0) (j := m) hm k
  have e1 : ∀ (a : Array Nat) (i : Nat), a.getD i 0 = (a[i]?).getD 0 := fun a i => by rw [Array.getD_eq_getD_getElem?]
  rw [e1]
  unfold kas_rev
  rw [h]
  by_cases hk : k < m
  · rw [if_pos hk]
    simp only [e1]
    rw [if_pos (by omega)]
    congr 2
    omega
  · rw [if_neg hk]
    simp only [e1]
    rw [if_neg (by omega)]
theorem rev_re {p : Array Nat} {m : Nat} (r : Re n p) : Re n (kas_rev p 0 m) := Re.of_perm ((mirror_perm p 0 m _).trans r.perm)
theorem count_ok {Q : Nat × Array Nat → Shared → Prop} {p : Array Nat} (O : Ord cmp lt n s) (r : Re n p) (h2 : 2 ≤ n) (q : ∀ m p', Re n p' → 1 ≤ m → m ≤ n → Up lt p' m → Q (m, p') s) : (kas_count n p).kasWp cmp Q s := by
  unfold kas_count
  rw [KasT.kasWp_bind]
  refine asc_ok O r (n - 1) 1 (Nat.le_refl _) (by omega) (fun i j h1 h2 => by omega) fun m a b u e => ?_
  by_cases hm : (m == n) = true
  · rw [if_pos hm]
    exact q m p r a (by omega) u
  · rw [if_neg hm]
    have hmn : m ≠ n := by simpa using hm
    by_cases h1 : m > 1
    · rw [if_pos h1]
      show cmp _ _ _ s
      refine O.ask _ _ _ (r.lt 0 (by omega)) (r.lt (m - 1) (by omega)) (r.inj _ _ (by omega) (by omega) (by omega)) ?_
      rw [u 0 (m - 1) (by omega) (by omega)]
      show (KasT.ret (m, p)).kasWp cmp Q s
      exact q m p r a (by omega) u
    · rw [if_neg h1]
      have e1 : m = 1 := by omega
      subst e1
      have hd : lt (p.getD 1 0) (p.getD 0 0) = true := by
        rcases e with e | e
        · omega
        · exact e
      unfold kas_descPart
      rw [KasT.kasWp_bind]
      refine desc_ok O r (n - (1 + 1)) (1 + 1) (by omega) (by omega) (fun i j h1 h2 => ?_) fun m' a' b' dn => ?_
      · have : i = 0 := by omega
        have : j = 1 := by omega
        subst_vars
        exact hd
      · show (if (0 : Nat) > 0 then _ else kas_tail3 m' n p).kasWp cmp Q s
        rw [if_neg (by omega)]
        unfold kas_tail3
        rw [KasT.kasWp_bind]
        have up : Up lt (kas_rev p 0 m') m' := fun i j hij hj => by
          rw [rev_get (by rw [r.size]; omega), rev_get (by rw [r.size]; omega), if_pos (by omega), if_pos (by omega)]
          exact dn _ _ (by omega) (by omega)
        refine asc_ok O (rev_re r) (n - m') m' (by omega) (by omega) up fun m2 a2 b2 u2 _ => ?_
        exact q m2 _ (rev_re r) (by omega) (by omega) u2
theorem place_ok {p : Array Nat} {k : Nat} {Q : Nat → Shared → Prop} (O : Ord cmp lt n s) (r : Re n p) (hk : k < n) (u : Up lt p k) (q : ∀ l, l ≤ k → (∀ i, i < l → lt (p.getD i 0) (p.getD k 0) = true) → (∀ i, l ≤ i → i < k → lt (p.getD k 0) (p.getD i 0) = true) → Q l s) :
    ∀ (f l e : Nat), l ≤ e → e ≤ k → e - l ≤ f → (∀ i, i < l → lt (p.getD i 0) (p.getD k 0) = true) → (∀ i, e ≤ i → i < k → lt (p.getD k 0) (p.getD i 0) = true) → (kas_place p k f l e).kasWp cmp Q s
  | 0, l, e, h1, h2, h3, a, b => q l (by omega) a fun i hi hk' => b i (by omega) hk'
  | f + 1, l, e, h1, h2, h3, a, b => by
    show (if l ≥ e then KasT.ret l else _).kasWp cmp Q s
    by_cases h : l ≥ e
    · rw [if_pos h]
      exact q l (by omega) a fun i hi hk' => b i (by omega) hk'
    · rw [if_neg h]
      show cmp _ _ _ s
      have hm : (l + e) / 2 < k := by omega
      refine O.ask _ _ _ (r.lt k hk) (r.lt _ (by omega)) (r.inj _ _ hk (by omega) (by omega)) ?_
      cases c : lt (p.getD k 0) (p.getD ((l + e) / 2) 0) with
      | true =>
        show (kas_place p k f l ((l + e) / 2)).kasWp cmp Q s
        refine place_ok O r hk u q f l _ (by omega) (by omega) (by omega) a fun i hi hk' => ?_
        by_cases ei : i = (l + e) / 2
        · subst ei; exact c
        · exact O.tr _ _ _ c (u _ i (by omega) hk')
      | false =>
        show (kas_place p k f ((l + e) / 2 + 1) e).kasWp cmp Q s
        have c' := O.tot _ _ (r.lt k hk) (r.lt _ (by omega)) (r.inj _ _ hk (by omega) (by omega)) c
        refine place_ok O r hk u q f _ e (by omega) h2 (by omega) (fun i hi => ?_) b
        by_cases ei : i = (l + e) / 2
        · subst ei; exact c'
        · exact O.tr _ _ _ (u i _ (by omega) hm) c'
theorem bub_get {p : Array Nat} {k d j : Nat} (hk : k < p.size) (hd : d ≤ k) : (bubble p k d).getD j 0 = if j < k - d ∨ k < j then p.getD j 0 else if j = k - d then p.getD k 0 else p.getD (j - 1) 0 := by
  have e1 : ∀ (a : Array Nat) (i : Nat), a.getD i 0 = (a[i]?).getD 0 := fun a i => by rw [Array.getD_eq_getD_getElem?]
  have h := getElem?_bubble (xs := p) (src := k) hk d hd j
  rw [e1, h]
  by_cases a : j = k - d
  · rw [if_pos a, if_neg (by omega), if_pos a, e1]
  · rw [if_neg a]
    by_cases b : k - d < j ∧ j ≤ k
    · rw [if_pos b, if_neg (by omega), if_neg a, e1]
    · rw [if_neg b, if_pos (by omega), e1]
theorem bin_ok {Q : Array Nat → Shared → Prop} (O : Ord cmp lt n s) (q : ∀ p, Re n p → Up lt p n → Q p s) : ∀ (f k : Nat) (p : Array Nat), Re n p → 1 ≤ k → k + f = n → Up lt p k → (kas_bin f p k).kasWp cmp Q s
  | 0, k, p, r, h1, hn, u => q p r (by rw [← hn]; exact u)
  | f + 1, k, p, r, h1, hn, u => by
    show ((kas_place p k k 0 k).bind fun l => kas_bin f (bubble p k (k - l)) (k + 1)).kasWp cmp Q s
    rw [KasT.kasWp_bind]
    refine place_ok O r (by omega) u (fun l hl a b => ?_) k 0 k (Nat.zero_le _) (Nat.le_refl _) (by omega) (fun i hi => by omega) (fun i h1 h2 => by omega)
    have hks : k < p.size := by rw [r.size]; omega
    refine bin_ok O q f (k + 1) _ (Re.of_perm ((bubble_perm p k _).trans r.perm)) (by omega) (by omega) fun i j hij hj => ?_
    rw [bub_get hks (by omega), bub_get hks (by omega)]
    have ek : k - (k - l) = l := by omega
    rw [ek]
    by_cases hi : i < l
    · rw [if_pos (.inl hi)]
      by_cases hj2 : j < l
      · rw [if_pos (.inl hj2)]; exact u i j hij (by omega)
      · rw [if_neg (by omega)]
        by_cases hj3 : j = l
        · rw [if_pos hj3]; exact a i hi
        · rw [if_neg hj3]; exact u i (j - 1) (by omega) (by omega)
    · rw [if_neg (by omega)]
      by_cases hi2 : i = l
      · rw [if_pos hi2, if_neg (by omega), if_neg (by omega)]
        exact b (j - 1) (by omega) (by omega)
      · rw [if_neg hi2, if_neg (by omega), if_neg (by omega)]
        exact u (i - 1) (j - 1) (by omega) (by omega)
theorem sort_ok {Q : Array Nat → Shared → Prop} (O : Ord cmp lt n s) (h2 : 2 ≤ n) (q : ∀ p, Re n p → Up lt p n → Q p s) : (kas_sort n).kasWp cmp Q s := by
  unfold kas_sort
  rw [KasT.kasWp_bind]
  refine count_ok O (Re.of_perm (Array.Perm.refl _)) h2 fun m p r h1 hm u => ?_
  show (if m < n then kas_bin (n - max m 1) p (max m 1) else .ret p).kasWp cmp Q s
  have em : max m 1 = m := by omega
  rw [em]
  by_cases h : m < n
  · rw [if_pos h]
    exact bin_ok O q (n - m) m p r h1 (by omega) u
  · rw [if_neg h]
    have : m = n := by omega
    subst this
    exact q p r u
end
end L2
set_option maxHeartbeats 4000000
namespace L2
open PySem PySem.Spec PyProof.Rows PySem.W
theorem list_sort_few {prog : Program} {w : World} {A : Around} {E : Value → Shared → Prop} {st : Shared} {l : Addr} {us : List Value} {ep : Nat} {R : PySem.Fin → Shared → Prop} (at0 : st.heap.get? l = some (seqObj "list" us.toArray ep)) (few : us.length < 2)
    (fin : ∀ hp ep', (∀ b o, b ≠ l → st.heap.get? b = some o → hp.get? b = some o) → hp.get? l = some (seqObj "list" us.toArray ep') → R (.done (.ret .none)) { st with heap := hp }) :
    wpAny (model prog w) A (Builtin.«list.sort» ⟨[.ref l], []⟩) R E st := by
  have sz : us.toArray.size = us.length := by simp
  have lt0 : l < st.heap.objs.size := Heap.lt_size at0
  have line : us.length ≤ sizeLine := by rw [sizeLine_eq]; omega
  rw [list_sort_plain]
  refine wpAny_bind (listItems_at at0 rfl (wpAny_bind (listUpdate_at at0 rfl ?_ (by rw [sz]; exact line) (Nat.zero_le _))))
  have at1 := get?_update_seq at0 (fun _ => (#[] : Array Value))
  refine wpAny_bind (seqEpoch_at at1 rfl (wpAny_bind (wpAny_newTuple ?_ (by show us.length ≤ _; exact line))))
  refine wpAny_bind (wpAny_newList ?_ (Nat.zero_le _))
  refine wpAny_holding ?_
  rw [if_pos (by rw [sz]; exact few), if_pos (by rw [sz]; exact few)]
  show wpAny (model prog w) A _ R E { st with heap := ((st.heap.update l (Obj.mapSeq fun _ => (#[] : Array Value))).push (seqObj "tuple" us.toArray 0)).push (seqObj "list" #[] 0) }
  have at2 : (((st.heap.update l (Obj.mapSeq fun _ => (#[] : Array Value))).push (seqObj "tuple" us.toArray 0)).push (seqObj "list" #[] 0)).get? l = some (seqObj "list" #[] (if ((#[] : Array Value).size == us.toArray.size) = true then ep else ep + 1)) := by
    rw [Heap.get?_push_ne _ _ _ (by rw [size_push', Heap.size_update]; exact nlt1 lt0), Heap.get?_push_ne _ _ _ (by rw [Heap.size_update]; exact nlt lt0)]
    exact at1
  have all : (arrOf (SortSt.mk' general' (us.toArray.zip us.toArray) #[] 7 none)).map (·.2) = us.toArray := by
    show (us.toArray.zip us.toArray).map (·.2) = us.toArray
    apply Array.ext'
    simp [List.map_snd_zip]
  have at3 := get?_update_seq at2 (fun _ => us.toArray)
  refine wpAny_bind (wpAny_pure ?_)
  dsimp only
  rw [StateT.run_pure]
  refine wpAny_bind (wpAny_pure ?_)
  dsimp only
  refine wpAny_bind (seqEpoch_at at2 rfl ?_)
  refine wpAny_bind (listUpdate_at at2 rfl ?_ (Nat.zero_le _) (by rw [all, sz]; omega))
  simp only [bne_self_eq_false, Bool.false_eq_true, if_false]
  rw [all]
  refine wpAny_pure (fin _ _ (fun b o hb e => ?_) at3)
  rw [Heap.get?_update_ne _ _ _ _ hb, Heap.get?_push_ne _ _ _ (by rw [size_push', Heap.size_update]; exact nlt1 (Heap.lt_size e)), Heap.get?_push_ne _ _ _ (by rw [Heap.size_update]; exact nlt (Heap.lt_size e)), Heap.get?_update_ne _ _ _ _ hb]
  exact e
end L2
set_option maxHeartbeats 400000
namespace L2
open PySem PySem.Spec PyProof.Rows PySem.W
theorem ns_one {h : Heap} {a : Addr} {m m' : Str → Option Value} (x : h.Ns a m) (y : h.Ns a m') : m = m' := by
  obtain ⟨o, es, ep, e, d, _, f⟩ := x
  obtain ⟨o', es', ep', e', d', _, f'⟩ := y
  rw [e] at e'
  cases e'
  rw [d] at d'
  cases d'
  funext z
  rw [← f z, f' z]
theorem lst_tot {a b : List Nat} (h : ¬ a < b) (h2 : a ≠ b) : b < a := by
  by_cases h3 : b < a
  · exact h3
  · exact absurd (List.le_antisymm (List.not_lt.mp h3) (List.not_lt.mp h)) h2
theorem str_ext {a b : Str} (h : a.cps.toList = b.cps.toList) : a = b := by
  cases a
  cases b
  congr 1
  exact Array.ext' h
section
variable {X : Cx} {pins : List (Addr × Obj)} {σ : St} {H : Hp} {s : Shared}
abbrev TK := Addr × Str × List V
def tkLt (p q : TK) : Prop := p.2.1.cps.toList < q.2.1.cps.toList
theorem refs_of (ps : List TK) : ∀ (us : List Value), Vals (ps.map fun p => V.ref p.1) us → us = ps.map fun p => Value.ref p.1 := by
  induction ps with
  | nil =>
    intro us r
    cases r
    rfl
  | cons p ps ih =>
    intro us r
    rw [List.map_cons] at r ⊢
    cases r with
    | cons r t =>
      rw [ih _ t, show _ = Value.ref p.1 from r]
theorem vals_refs (ps : List TK) : Vals (ps.map fun p => V.ref p.1) (ps.map fun p => Value.ref p.1) := by
  induction ps with
  | nil => exact .nil
  | cons p ps ih => exact .cons rfl ih
theorem tup_at (I : Inv X pins σ H s) {a : Addr} {x : Str} {r : List V} (h : H a = some (.tup (.str x :: r))) : ∃ (o : Obj) (us : List Value) (n : Nat) (t : Tok), s.heap.get? a = some o ∧ o.cls = .type "tuple" ∧ o.data = .seq (Value.str x t :: us).toArray n := by
  obtain ⟨_, its, rv, ⟨o, e, c, n, d⟩, _⟩ := (show ObjOk X.prog X.w H s.heap a (.tup (.str x :: r)) from I.hok a _ h)
  cases rv with
  | cons r1 r2 =>
    obtain ⟨t, rfl⟩ := r1
    exact ⟨o, _, n, t, e, c, d⟩
theorem pick_perm {n : Nat} {p : Array Nat} {α : Type} {d : α} {ps : List α} (hn : ps.length = n) (r : Re n p) : (p.toList.map fun i => ps.getD i d).Perm ps := by
  have hl : p.toList.Perm (List.range n) := by simpa using Array.perm_iff_toList_perm.mp r.perm
  refine (hl.map _).trans ?_
  have e : (List.range n).map (fun i => ps.getD i d) = ps := by
    apply List.ext_getElem?
    intro i
    rw [List.getElem?_map]
    by_cases hi : i < n
    · rw [List.getElem?_range hi]
      simp [List.getD, show i < ps.length by omega]
    · rw [List.getElem?_eq_none (by simpa using hi), List.getElem?_eq_none (by omega)]
      rfl
  rw [e]
theorem pick_pairwise {n : Nat} {p : Array Nat} {α : Type} {d : α} {ps : List α} {R : α → α → Prop} {lt : Nat → Nat → Bool} (hlt : ∀ i j, i < n → j < n → lt i j = true → R (ps.getD i d) (ps.getD j d)) (r : Re n p) (u : Up lt p n) : (p.toList.map fun i => ps.getD i d).Pairwise R := by
  rw [List.pairwise_iff_getElem]
  intro i j hi hj hij
  rw [List.length_map, Array.length_toList, r.size] at hi hj
  have get : ∀ k (hk : k < n) h, (p.toList.map fun i => ps.getD i d)[k]'h = ps.getD (p.getD k 0) d := fun k hk h => by
    rw [List.getElem_map]
    congr 1
    simp [Array.getD, r.size, hk]
  rw [get i hi, get j hj]
  exact hlt _ _ (r.lt i hi) (r.lt j hj) (u i j hij hj)
end
end L2
set_option maxHeartbeats 1000000
namespace L2
open PySem PySem.Spec PyProof.Rows
def lcOk (N : List Str) (sc scope : Scope) (ix : List Nat) : Bool :=
  decide (scope.kind = .function) && scope.names.all (fun y => decide (y.2 ≠ .cell)) && scope.names.all (fun y => decide (y.2 = .local → scope.names.lookup y.1 = some .local)) &&
  scope.names.all (fun y => decide (y.2 = .free → sc.names.lookup y.1 = some .cell ∨ sc.names.lookup y.1 = some .free)) &&
  ix.all (fun j => decide (j < N.length) && match N[j]? with | some x => scope.names.any (fun y => decide (y.1 = x) && decide (y.2 = .free)) && decide (scope.names.lookup x = some .free) | none => false)
theorem LcScope.of {N : List Str} {sc scope : Scope} {own : List Str} {ix : List Nat} (h : lcOk N sc scope ix = true) : LcScope N sc scope own ix := by
  unfold lcOk at h
  simp only [Bool.and_eq_true, decide_eq_true_eq, List.all_eq_true] at h
  obtain ⟨⟨⟨⟨h1, h2⟩, h3⟩, h4⟩, h5⟩ := h
  refine ⟨h1, h2, h3, h4, fun j hj x hx => ?_, fun j hj => (h5 j hj).1⟩
  have := (h5 j hj).2
  rw [hx] at this
  simp only [Bool.and_eq_true, decide_eq_true_eq, List.any_eq_true] at this
  obtain ⟨⟨⟨n, k⟩, hy, e1, e2⟩, e3⟩ := this
  have e1' : n = x := e1
  have e2' : k = .free := e2
  subst e1' e2'
  exact ⟨hy, e3⟩
theorem lc_nd {l N : List Str} (h : l.Nodup) (e : N = l) : N.Nodup := by rw [e]; exact h
structure Def (P : Program) (w : World) (K : PySem.W.Frag) (mg : Str → Option Value) (base : Heap) (k : Nat) (x : Str) (ps : List Str) (sp : Sp) : Prop where
  ex : ∃ f fd, FnOk P w K mg base CX0 k f fd ps sp ∧ Binds K fd ps [] ∧ PySem.W.keepIn K (.ref f) = true ∧ mg x = some (.ref f)
theorem Def.up {P : Program} {w : World} {K : PySem.W.Frag} {mg : Str → Option Value} {base : Heap} {j k : Nat} {x : Str} {ps : List Str} {sp : Sp} (d : Def P w K mg base j x ps sp) (h : j ≤ k) : Def P w K mg base k x ps sp :=
  let ⟨f, fd, F, b, kp, m⟩ := d.ex
  ⟨f, fd, F.mono h, b, kp, m⟩
theorem pe_def {X : Cx} {k : Nat} {x : Str} {ps : List Str} {sp : Sp} {p pos : Pos} {e : Expr} {es : List Expr} {t : TA} (d : Def X.prog X.w X.K X.mg X.base k x ps sp) (hr : Room k X.A) (hg : Gl X x) (ha : PA X (e :: es) t) (hdb : (x == ("__debug__" : Str)) = false := by decide)
    (he : starEach (e :: es) X.env = (false, eval e X.env) :: starEach es X.env := by rfl) (hpl : (backTo pos (starEach es X.env)).any (·.1) = false := by rfl) : PE X (.Call (.Name x p) (e :: es) [] pos) (tCall sp [] E0 t) := by
  obtain ⟨f, fd, F, b, kp, m⟩ := d.ex
  exact pe_call F hr hg m kp b .nil pass0 ha hdb he hpl
inductive Dv where
  | non | bl (b : Bool) | int (i : Int) | str (x : Str) | tup (xs : List Dv) | lst (xs : List Dv) | dct
mutual
def Rep (H : Hp) : Dv → V → Prop
  | .non, v => v = .non
  | .bl b, v => v = .bl b
  | .int i, v => v = .int i
  | .str x, v => v = .str x
  | .tup ds, v => ∃ a vs, v = .ref a ∧ H a = some (.tup vs) ∧ Reps H ds vs
  | .lst ds, v => ∃ a vs, v = .ref a ∧ H a = some (.lst vs) ∧ Reps H ds vs
  | .dct, v => ∃ a, v = .ref a ∧ H a = some (.dK [])
def Reps (H : Hp) : List Dv → List V → Prop
  | [], vs => vs = []
  | d :: ds, vs => ∃ v r, vs = v :: r ∧ Rep H d v ∧ Reps H ds r
end
mutual
theorem Rep.mono {H H' : Hp} (s : Same H H') : ∀ {d : Dv} {v : V}, Rep H d v → Rep H' d v
  | .non, _, h => by simpa only [Rep] using h
  | .bl b, _, h => by simpa only [Rep] using h
  | .int i, _, h => by simpa only [Rep] using h
  | .str x, _, h => by simpa only [Rep] using h
  | .tup ds, _, h => by
    simp only [Rep] at h ⊢
    obtain ⟨a, vs, e, h1, h2⟩ := h
    exact ⟨a, vs, e, s _ _ h1, Reps.mono s h2⟩
  | .lst ds, _, h => by
    simp only [Rep] at h ⊢
    obtain ⟨a, vs, e, h1, h2⟩ := h
    exact ⟨a, vs, e, s _ _ h1, Reps.mono s h2⟩
  | .dct, _, h => by
    simp only [Rep] at h ⊢
    obtain ⟨a, e, h1⟩ := h
    exact ⟨a, e, s _ _ h1⟩
theorem Reps.mono {H H' : Hp} (s : Same H H') : ∀ {ds : List Dv} {vs : List V}, Reps H ds vs → Reps H' ds vs
  | [], _, h => by simpa only [Reps] using h
  | d :: ds, _, h => by
    simp only [Reps] at h ⊢
    obtain ⟨v, r, e, h1, h2⟩ := h
    exact ⟨v, r, e, Rep.mono s h1, Reps.mono s h2⟩
end
theorem Reps.length {H : Hp} : ∀ {ds : List Dv} {vs : List V}, Reps H ds vs → vs.length = ds.length
  | [], _, h => by simp only [Reps] at h; subst h; rfl
  | d :: ds, _, h => by
    simp only [Reps] at h
    obtain ⟨v, r, e, h1, h2⟩ := h
    subst e
    rw [List.length_cons, List.length_cons, Reps.length h2]
theorem Reps.get {H : Hp} : ∀ {ds : List Dv} {vs : List V}, Reps H ds vs → ∀ {i : Nat} {v : V}, vs[i]? = some v → ∃ d, ds[i]? = some d ∧ Rep H d v
  | [], _, h, i, v, e => by simp only [Reps] at h; subst h; simp at e
  | d :: ds, _, h, i, v, e => by
    simp only [Reps] at h
    obtain ⟨v', r, e', h1, h2⟩ := h
    subst e'
    cases i with
    | zero => exact ⟨d, rfl, by have : v' = v := by simpa using e
                                subst this; exact h1⟩
    | succ i => obtain ⟨d', e1, e2⟩ := Reps.get h2 (i := i) (v := v) (by simpa using e); exact ⟨d', by simpa using e1, e2⟩
def Dv.tn : Dv → String
  | .non => "NoneType" | .bl _ => "bool" | .int _ => "int" | .str _ => "str" | .tup _ => "tuple" | .lst _ => "list" | .dct => "dict"
theorem Rep.ty {K : PySem.W.Frag} {H : Hp} {d : Dv} {v : V} (h : Rep H d v) : TyOf K H v (.type d.tn) := by
  cases d with
  | non => simp only [Rep] at h; subst h; exact .non
  | bl b => simp only [Rep] at h; subst h; exact .bl b
  | int i => simp only [Rep] at h; subst h; exact .int i
  | str x => simp only [Rep] at h; subst h; exact .str x
  | tup ds => simp only [Rep] at h; obtain ⟨a, vs, rfl, h1, _⟩ := h; exact .tup h1
  | lst ds => simp only [Rep] at h; obtain ⟨a, vs, rfl, h1, _⟩ := h; exact .lst h1
  | dct => simp only [Rep] at h; obtain ⟨a, rfl, h1⟩ := h; exact .dK h1
def isT (d : Dv) (n : String) : Bool := d.tn == n || (d.tn == "bool" && n == "int")
theorem kit_int (K : PySem.W.Frag) (d : Dv) : PySem.W.kitOne K (.type d.tn) (.type "int") = some (isT d "int") := by
  unfold PySem.W.kitOne PySem.W.kitCls
  cases d <;> kernel_rfl
theorem kit_bool (K : PySem.W.Frag) (d : Dv) : PySem.W.kitOne K (.type d.tn) (.type "bool") = some (isT d "bool") := by
  unfold PySem.W.kitOne PySem.W.kitCls
  cases d <;> kernel_rfl
theorem kit_str (K : PySem.W.Frag) (d : Dv) : PySem.W.kitOne K (.type d.tn) (.type "str") = some (isT d "str") := by
  unfold PySem.W.kitOne PySem.W.kitCls
  cases d <;> kernel_rfl
theorem kit_tuple (K : PySem.W.Frag) (d : Dv) : PySem.W.kitOne K (.type d.tn) (.type "tuple") = some (isT d "tuple") := by
  unfold PySem.W.kitOne PySem.W.kitCls
  cases d <;> kernel_rfl
end L2
set_option maxHeartbeats 1000000
namespace L2
open PySem PySem.Spec PyProof.Rows
section
variable {k : Nat} {ix : List Nat} {g : TG} {tt : TT} {te : TE} {σ : St} {H1 : Hp} {Q : List V → Hp → Prop}
theorem lc_itf_map {f F : Nat → V} {n : Nat} (hs : ∀ i ys, i < n → ys.length = i → lcTurn k ix g tt te σ (f i) ys H1 fun ys' H' => ys' = ys ++ [F i] ∧ H' = H1) (hd : Q ((List.range n).map F) H1) : rLC (Itf f n) k ix g tt te σ H1 Q := by
  refine ⟨fun i m ys H => m = n - i ∧ i ≤ n ∧ H = H1 ∧ ys = (List.range i).map F, ⟨n, by simp, Nat.zero_le _, rfl, rfl⟩, ?_⟩
  rintro i m ys H ⟨rfl, hi, rfl, rfl⟩
  by_cases hlt : i < n
  · refine .inr ⟨hlt, fun ys' H' => ys' = (List.range i).map F ++ [F i] ∧ H' = H, fun ys' H' ⟨e1, e2⟩ => ⟨n - (i + 1), by omega, rfl, hlt, e2, by rw [e1, List.range_succ, List.map_append]; rfl⟩, fun x H' y => ?_⟩
    obtain ⟨e, y⟩ := y
    subst e y
    exact hs i _ hlt (by simp)
  · have e : i = n := by omega
    subst e
    exact .inl ⟨rfl, hd⟩
theorem turn_name {i : Nat} {x : V} {ys : List V} {H : Hp} {N : List V → Hp → Prop} (h : te ((capSt k ix σ).set i (some x)) H fun y H4 => ys.length < sizeLine ∧ N (ys ++ [y]) H4) : lcTurn k ix (gName i) tYes te σ x ys H N := by
  exact iteT (B := N ys H) h
theorem turn_two {i j : Nat} {K : PySem.W.Frag} {a : Addr} {x y : V} {ys : List V} {H : Hp} {N : List V → Hp → Prop} (ha : H a = some (.tup [x, y])) (h : te (((capSt k ix σ).set i (some x)).set j (some y)) H fun y H4 => ys.length < sizeLine ∧ N (ys ++ [y]) H4) :
    lcTurn k ix (gTup K 2 (gCons (gName i) (gCons (gName j) gNil))) tYes te σ (.ref a) ys H N := by
  refine ⟨a, _, rfl, SqT.of ha, rfl, _, _, rfl, _, _, rfl, rfl, ?_⟩
  exact iteT (B := N ys H) h
end
/- all texts within are short -/
mutual
def Dv.small : Dv → Bool
  | .str x => decide (x.cps.size ≤ 1000)
  | .tup xs => smalls xs && decide (xs.length ≤ 1000)
  | .lst xs => smalls xs && decide (xs.length ≤ 1000)
  | _ => true
def smalls : List Dv → Bool
  | [] => true
  | d :: ds => d.small && smalls ds
end
theorem smalls_get : ∀ {ds : List Dv}, smalls ds = true → ∀ {i : Nat} {d : Dv}, ds[i]? = some d → d.small = true
  | [], _, i, d, e => by simp at e
  | x :: ds, h, i, d, e => by
    simp only [smalls, Bool.and_eq_true] at h
    cases i with
    | zero =>
      have e' : x = d := by simpa using e
      subst e'; exact h.1
    | succ i => exact smalls_get h.2 (i := i) (by simpa using e)
theorem len1000 {x : Str} (h : x.cps.size ≤ 1000) : x.length ≤ sizeLine := Nat.le_of_lt (small1000 h)
theorem same_new {H : Hp} {p : Addr} (h : H p = none) (o : HO) : Same H (upd H p o) := fun b u q => by rw [upd_ne (ne_of_none q h)]; exact q
end L2
namespace L2
open PySem PySem.Spec PyProof.Rows
section
variable {X : Cx}
theorem ix_listK (K : PySem.W.Frag) (h : X.K = K) : IxR X (rIxL K) := by subst h; exact ix_list
end
end L2
set_option maxHeartbeats 1000000
namespace L2
open PySem PySem.Spec PyProof.Rows
section
variable {X : Cx}
end
section
variable {σ : St} {H : Hp} {d e : Dv} {ds es : List Dv} {ta tb : TE} {t : TA}
theorem Reps.append {H : Hp} : ∀ {ds es : List Dv} {vs ws : List V}, Reps H ds vs → Reps H es ws → Reps H (ds ++ es) (vs ++ ws)
  | [], _, _, _, h, g => by simp only [Reps] at h; subst h; exact g
  | d :: ds, es, vs, ws, h, g => by
    simp only [Reps] at h
    obtain ⟨v, r, rfl, h1, h2⟩ := h
    simp only [List.cons_append, Reps]
    exact ⟨v, r ++ ws, rfl, h1, Reps.append h2 g⟩
end
end L2
namespace L2
open PySem PySem.Spec PyProof.Rows
def less1 (H : Hp) (l : Addr) : Hp := fun b => if b = l then none else H b
theorem less1_sub {H : Hp} {l : Addr} : Same (less1 H l) H := fun b o h => by
  unfold less1 at h
  by_cases e : b = l
  · rw [if_pos e] at h; cases h
  · rw [if_neg e] at h; exact h
theorem less1_same {H H' : Hp} {l : Addr} (s : Same H H') : Same (less1 H l) (less1 H' l) := fun b o h => by
  unfold less1 at h ⊢
  by_cases e : b = l
  · rw [if_pos e] at h; cases h
  · rw [if_neg e] at h ⊢; exact s b o h
theorem less1_of {H H' : Hp} {l : Addr} (s : Same H H') (hl : H l = none) : Same H (less1 H' l) := fun b o h => by
  unfold less1
  rw [if_neg (ne_of_none h hl)]
  exact s b o h
section
variable {σ : St} {H : Hp} {d e : Dv} {ds es : List Dv} {ta tb : TE} {t : TA} {l : Addr}
variable {i : Nat} {u : TS} {D : Ends}
end
end L2
set_option maxHeartbeats 1000000
namespace L2
open PySem PySem.Spec PyProof.Rows
section
variable {X : Cx}
end
end L2
set_option maxHeartbeats 4000000
namespace L2
open PySem PySem.Spec PyProof.Rows
end L2
set_option maxHeartbeats 4000000
namespace L2
open PySem PySem.Spec PyProof.Rows
section
variable {prog : Program} {w : World} {K : Type} [DecidableEq K] {knd : PySem.KeyKind prog w K} {A : Around} {R : Result → Shared → Prop} {I d : Addr} {fp wr : List Addr} {n : Nat} {P : Nat → Value → Prop} {St : Nat → Heap → Prop}
end
end L2
set_option maxHeartbeats 4000000
namespace L2
open PySem PySem.Spec PyProof.Rows
section
variable {prog : Program} {w : World} {K : Type} [DecidableEq K] {knd : PySem.KeyKind prog w K} {A : Around} {E : Value → Shared → Prop} {s : Shared}
end
end L2
set_option maxHeartbeats 4000000
namespace L2
open PySem PySem.Spec PyProof.Rows
section
variable {X : Cx}
end
end L2
set_option maxHeartbeats 4000000
namespace L2
open PySem PySem.Spec PyProof.Rows
section
variable {X : Cx}
end
end L2
set_option maxHeartbeats 4000000
namespace L2
open PySem PySem.Spec PyProof.Rows PySem.W
section
variable {X : Cx} {pins : List (Addr × Obj)} {σ : St} {H : Hp} {s : Shared}
theorem Inv.setList {D : Addr} {ys0 ys : List V} {its : List Value} {c : Nat} {h' : Heap} {m : Str → Option Value} (I : Inv X pins σ H s) (hm : s.heap.Ns X.env.locals m) (hD : H D = some (.lst ys0)) (rv : Vals ys its) (hz : ys.length ≤ sizeLine)
    (F : h'.Ns X.env.locals m) (k : ∀ b o, b ≠ X.env.locals → b ≠ D → s.heap.get? b = some o → h'.get? b = some o) (e : h'.get? D = some { cls := .type "list", data := .seq its.toArray c }) : Inv X pins σ (upd H D (.lst ys)) { s with heap := h' } := by
  have nl : ∀ b v, H b = some v → b ≠ X.env.locals := fun b v q z => by rw [z, I.free] at q; cases q
  have nD : ∀ b, H b = none → b ≠ D := fun b q z => by rw [z, hD] at q; cases q
  have nT : ∀ b v, H b = some v → v ≠ .lst ys0 → b ≠ D := fun b v q n z => by rw [z, hD] at q; cases q; exact n rfl
  refine I.step (g' := s.gens) (d' := s.drawn) (t' := s.toks) (ch := []) (fun b hb => by cases hb) (fun b o hL _ _ q n => k b o hL (nD b n) q) (fun b o hL _ _ q n => ⟨o.slots, k b o hL (nD b n) q⟩) (fun b o _ q n => by rw [upd_ne (nD b n)]; exact n) (fun b o _ q => ?_)
    (fun b xs q => by rw [upd_ne (nT b _ q nofun)]; exact q) (fun b o v q => by rw [upd_ne (nT b _ q nofun)]; exact q) (fun b ps q => ⟨#[], by rw [upd_ne (nT b _ q nofun), q]; simp⟩) (fun m' hm' => by rw [ns_one hm' hm]; exact F) (fun b v q => ?_) I.bare
  · by_cases hb : b = X.env.locals
    · subst hb
      obtain ⟨o', _, _, q', _⟩ := F
      exact ⟨o', q'⟩
    · by_cases hd : b = D
      · subst hd; exact ⟨_, e⟩
      · exact ⟨o, k b o hb hd q⟩
  · by_cases hb : b = D
    · subst hb
      rw [upd_same] at q
      cases q
      exact ⟨hz, its, c, rv, e⟩
    · rw [upd_ne hb] at q
      refine (I.hok b v q).stay (fun c w' hc q' => ?_) (fun c q' => by rw [upd_ne (nT c _ q' nofun)]; exact q') fun c xs q' => by rw [upd_ne (nT c _ q' nofun)]; exact q'
      rcases hc with z | z
      · subst z; exact k c w' (nl c v q) hb q'
      · exact k c w' (nl c _ z) (nT c _ z nofun) q'
theorem lsort_wp {A : Around} {E : Value → Shared → Prop} {l : Addr} {ps : List TK} {Q : Value → Shared → Prop} (I : Inv X pins σ H s) (hq : H l = some (.lst (ps.map fun p => V.ref p.1))) (ht : ∀ p ∈ ps, H p.1 = some (.tup (.str p.2.1 :: p.2.2)))
    (nd : (ps.map (·.2.1)).Nodup) (h64 : ps.length < 64) (q : ∀ (qs : List TK) (h' : Heap), qs.Perm ps → qs.Pairwise tkLt → Inv X pins σ (upd H l (.lst (qs.map fun p => V.ref p.1))) { s with heap := h' } → Q .none { s with heap := h' }) :
    wpAny (model X.prog X.w) A (call (.builtin "list.sort") [.ref l]) Q E s := by
  obtain ⟨hz, its, n, rv, at0⟩ := (show ObjOk X.prog X.w H s.heap l (.lst (ps.map fun p => V.ref p.1)) from I.hok l _ hq)
  have ei := refs_of ps its rv
  subst ei
  obtain ⟨m, hm, _⟩ := I.loc
  have nL : l ≠ X.env.locals := fun z => by rw [z, I.free] at hq; cases hq
  have lne : ∀ p ∈ ps, p.1 ≠ l ∧ p.1 ≠ X.env.locals := fun p hp => by
    refine ⟨fun z => ?_, fun z => ?_⟩
    · have t := ht p hp
      rw [z, hq] at t
      cases t
    · have t := ht p hp
      rw [z, I.free] at t
      cases t
  by_cases few : ps.length < 2
  · refine wpAny_call_entry slot_list_sort ⟨_, at0, rfl⟩ entry_list_sort (list_sort_few at0 (by simpa using few) fun hp ep k2 e2 => ⟨_, rfl, ?_⟩) (args_list_sort _)
    refine q ps hp (List.Perm.refl _) ?_ (I.setList hm hq (vals_refs ps) hz (hm.at' fun o e => k2 _ o (Ne.symm nL) e) (fun b o _ hb z => k2 b o hb z) e2)
    match ps, few with
    | [], _ => exact .nil
    | [p], _ => exact List.pairwise_singleton _ _
  · have hlen : (ps.map fun p => Value.ref p.1).length = ps.length := List.length_map _
    have F0 : Fr (Att.noObjs s.heap) X.env.locals s.heap m := Att.fr_all hm
    generalize hN : (allNews (Att.noObjs s.heap) s.heap X.env.locals).filter (fun p => decide (p.1 ≠ l)) = nw
    have N0 : News (Att.noObjs s.heap) X.env.locals s.heap nw := fun p hp => by rw [← hN] at hp; exact news_all p (List.mem_filter.mp hp).1
    have nl0 : ∀ p ∈ nw, p.1 ≠ l := fun p hp => by rw [← hN] at hp; exact of_decide_eq_true (List.mem_filter.mp hp).2
    refine wpAny_call_entry slot_list_sort ⟨_, at0, rfl⟩ entry_list_sort (kat_list_sort F0 N0 at0 nL (Att.noObjs_get _ _) nl0 (by rw [hlen]; omega) (by rw [hlen]; exact h64) fun e1 h' F' N' => ?_) (args_list_sort _)
    have keep : ∀ (g : Heap) (x : Obj), News (Att.noObjs s.heap) X.env.locals g ((l, x) :: nw) → ∀ b o, b ≠ X.env.locals → b ≠ l → s.heap.get? b = some o → g.get? b = some o := fun g x N b o hb hl e =>
      (N (b, o) (List.mem_cons_of_mem _ (by rw [← hN]; exact List.mem_filter.mpr ⟨mem_allNews hb (Att.noObjs_get _ _) e, decide_eq_true hl⟩))).1
    have kp := keep h' _ N'
    have atv : ∀ i, i < ps.length → (ps.map fun p => Value.ref p.1).getD i .none = Value.ref (ps.getD i (0, default, [])).1 := fun i hi => by
      simp [List.getD, hi]
    have item : ∀ i, i < ps.length → ∃ (o : Obj) (us : List Value) (n : Nat) (t : Tok), h'.get? (ps.getD i (0, default, [])).1 = some o ∧ o.cls = .type "tuple" ∧ o.data = .seq (Value.str (ps.getD i (0, default, [])).2.1 t :: us).toArray n := fun i hi => by
      have hm' : ps.getD i (0, default, []) ∈ ps := by
        have e : ps.getD i (0, default, []) = ps[i] := by simp [List.getD, hi]
        rw [e]; exact List.getElem_mem hi
      obtain ⟨o, us, n, t, e, c, d⟩ := tup_at I (ht _ hm')
      exact ⟨o, us, n, t, kp _ o (lne _ hm').2 (lne _ hm').1 e, c, d⟩
    have firsts : ∀ (qs : List TK), (∀ p ∈ qs, p ∈ ps) → ∃ fs : List Value, KatTups h' (qs.map fun p => Value.ref p.1) fs ∧ fs.length = qs.length ∧ ∀ v ∈ fs, ∃ x t, v = Value.str x t := by
      intro qs
      induction qs with
      | nil => intro _; exact ⟨[], KatTups.nil, rfl, by simp⟩
      | cons p qs ih =>
        intro hs
        obtain ⟨fs, t1, t2, t3⟩ := ih fun x hx => hs x (List.mem_cons_of_mem _ hx)
        have hp := hs p List.mem_cons_self
        obtain ⟨o, us, n, t, e, c, d⟩ := tup_at I (ht _ hp)
        refine ⟨Value.str p.2.1 t :: fs, KatTups.cons (kp _ o (lne _ hp).2 (lne _ hp).1 e) c d (by simp) t1, by simp [t2], fun v hv => ?_⟩
        rcases List.mem_cons.mp hv with rfl | hv
        · exact ⟨_, _, rfl⟩
        · exact t3 v hv
    obtain ⟨fs, t1, t2, t3⟩ := firsts ps fun p hp => hp
    refine kat_kind (T := .type "str") (s := { s with heap := h' }) t1 (by rw [t2]; omega) (fun v hv => ?_) (by decide) ?_
    · obtain ⟨x, t, rfl⟩ := t3 v hv
      exact Looks.of_pure rfl
    rw [hlen]
    have O : Ord (kas_ask X.prog X.w A.in1 (tuples' (Value.type "str" != Value.type "tuple")) (ps.map fun p => Value.ref p.1)) (fun i j => decide ((ps.getD i (0, default, [])).2.1.cps.toList < (ps.getD j (0, default, [])).2.1.cps.toList)) ps.length { s with heap := h' } := by
      have unlike : ∀ i j, i < ps.length → j < ps.length → i ≠ j → (ps.getD i (0, default, [])).2.1 ≠ (ps.getD j (0, default, [])).2.1 := fun i j hi hj hij e => by
        have ei : ps.getD i (0, default, []) = ps[i] := by simp [List.getD, hi]
        have ej : ps.getD j (0, default, []) = ps[j] := by simp [List.getD, hj]
        rw [ei, ej] at e
        exact hij ((List.getElem_inj (h₀ := by simpa using hi) (h₁ := by simpa using hj) nd).mp (by simpa using e))
      refine ⟨fun i j C hi hj hij hC => ?_, fun i j k h1 h2 => ?_, fun i j hi hj hij h1 => ?_, fun i j h1 => ?_⟩
      · show wpAny _ _ (keyLt' _ _ _) C _ _
        rw [atv i hi, atv j hj]
        obtain ⟨o, us, n, t, e, c, d⟩ := item i hi
        obtain ⟨o2, us2, n2, t2', e2, c2, d2⟩ := item j hj
        refine kat_lt (s := { s with heap := h' }) e d e2 d2 ?_
        show KatLex _ _ _ _ _ _ ((Value.str _ t, Value.str _ t2') :: _) 0 _
        refine kat_cons (wpAny_eqBool_str ?_)
        rw [decide_eq_false (unlike i j hi hj hij)]
        exact kat_no (oneLt_str hC)
      · exact decide_eq_true (List.lt_trans (of_decide_eq_true h1) (of_decide_eq_true h2))
      · exact decide_eq_true (lst_tot (of_decide_eq_false h1) fun e => unlike i j hi hj hij (str_ext e))
      · exact decide_eq_false (List.lt_asymm (of_decide_eq_true h1))
    refine sort_ok O (by omega) fun p re up => ?_
    have outs : (p.toList.map fun i => (ps.map fun p => Value.ref p.1).getD i .none) = (p.toList.map fun i => ps.getD i (0, default, [])).map fun p => Value.ref p.1 := by
      rw [List.map_map]
      refine List.map_congr_left fun i hi => ?_
      have hl2 : p.toList.Perm (List.range ps.length) := by simpa using Array.perm_iff_toList_perm.mp re.perm
      exact atv i (List.mem_range.mp ((List.Perm.mem_iff hl2).mp hi))
    rw [outs]
    refine KasFin.intro (news := (l, seqObj "list" #[] e1) :: nw) (g := fun o' => (l, o') :: nw) F' N' (.head nl0) fun h2 c F2 N2 => ?_
    have pq := pick_perm (d := (0, default, [])) rfl re
    have I2 := I.setList (D := l) (ys := (p.toList.map fun i => ps.getD i (0, default, [])).map fun p => V.ref p.1) hm hq (vals_refs _) (by rw [List.length_map, pq.length_eq]; simpa using hz) F2.ns (keep h2 _ N2) (N2 (l, _) List.mem_cons_self).1
    exact ⟨_, rfl, q _ h2 pq (pick_pairwise (R := tkLt) (fun i j _ _ h => (of_decide_eq_true h : (ps.getD i (0, default, [])).2.1.cps.toList < (ps.getD j (0, default, [])).2.1.cps.toList)) re up) I2⟩
def ViewO (v d : Addr) : HO := .ext fun h => h.IsItemsView v d
theorem mt_items : MtR X "dict.items" (fun x xs H Q => ∃ d kvs, x = .ref d ∧ xs = [] ∧ H d = some (.dK kvs) ∧ ∀ v, H v = none → Q (.ref v) (upd H v (ViewO v d))) := by
  intro pins s σ H x xs u us Q I rx rv h
  obtain ⟨d, kvs, rfl, rfl, hd, q⟩ := h
  cases rx
  cases rv
  obtain ⟨z, hdm, vs, rel, dd⟩ := dk_of I.hok hd
  refine call_meetsIn PySem.F.slot_dict_items dd.typeIs PySem.F.entry_dict_items (PySem.F.args_dict_items_1 _) (meets_dict_items (mixKind X.prog X.w) d hdm) ⟨⟨vs, dd⟩, ?_⟩
  refine ⟨.ref s.heap.objs.size, _, I.laid (t' := s.toks) (a := s.heap.objs.size) (o := ViewO s.heap.objs.size d) (fun b u q => Heap.get?_push_of_some _ q) (Nat.le_refl _) ?_, rfl, q _ I.fresh⟩
  exact ⟨⟨_, Heap.get?_push_size _ rfl, rfl, rfl⟩, ⟨_, Heap.get?_push_size _ rfl⟩, fun h1 h2 ⟨o, e, r⟩ k => ⟨o, k o e, r⟩⟩
def lays (H : Hp) (rs : List TK) : Hp := fun b => match rs.find? (fun r => decide (r.1 = b)) with | some r => some (.tup (.str r.2.1 :: r.2.2)) | none => H b
theorem lays_out {rs : List TK} {b : Addr} (h : ∀ r ∈ rs, r.1 ≠ b) : lays H rs b = H b := by
  unfold lays
  rw [List.find?_eq_none.mpr (fun r hr e => h r hr (of_decide_eq_true e))]
theorem lays_in {rs : List TK} (nd : (rs.map (·.1)).Nodup) {r : TK} (hr : r ∈ rs) : lays H rs r.1 = some (.tup (.str r.2.1 :: r.2.2)) := by
  unfold lays
  cases e : rs.find? (fun x => decide (x.1 = r.1)) with
  | none => exact absurd (decide_eq_true rfl) (List.find?_eq_none.mp e r hr)
  | some x =>
    have hx := List.mem_of_find?_eq_some e
    have e1 : x.1 = r.1 := of_decide_eq_true (List.find?_some (p := fun x : TK => decide (x.1 = r.1)) e)
    obtain ⟨i, hi, rfl⟩ := List.getElem_of_mem hx
    obtain ⟨j, hj, rfl⟩ := List.getElem_of_mem hr
    have : i = j := (List.getElem_inj (h₀ := by simpa using hi) (h₁ := by simpa using hj) nd).mp (by simpa using e1)
    subst this
    rfl
theorem Inv.lays {h' : Heap} {tk : Nat} {rs : List TK} (I : Inv X pins σ H s) (k : ∀ b u, s.heap.get? b = some u → h'.get? b = some u) (nd : (rs.map (·.1)).Nodup) (hp : ∀ r ∈ rs, s.heap.objs.size ≤ r.1)
    (new : ∀ r ∈ rs, ObjOk X.prog X.w (L2.lays H rs) h' r.1 (.tup (.str r.2.1 :: r.2.2))) : Inv X pins σ (L2.lays H rs) { s with heap := h', toks := tk } := by
  have out : ∀ b, b < s.heap.objs.size → L2.lays H rs b = H b := fun b hb => lays_out fun r hr e => absurd hb (Nat.not_lt.mpr (e ▸ hp r hr))
  refine I.un (t' := tk) ⟨fun b u q _ _ _ => k b u q, fun b u q _ _ _ => ⟨u.slots, k b u q⟩, fun b u q n _ => by rw [out b (Heap.lt_size q)]; exact n, fun b u q _ => ⟨u, k b u q⟩, fun b xs q => by rw [out b (I.hok.lt q)]; exact q, fun b u xs q => by rw [out b (I.hok.lt q)]; exact q,
    fun b ps q => ⟨#[], by rw [out b (I.hok.lt q), q]; simp⟩⟩ fun b u e => ?_
  by_cases hb : ∃ r ∈ rs, r.1 = b
  · obtain ⟨r, hr, rfl⟩ := hb
    rw [lays_in nd hr] at e
    cases e
    exact new r hr
  · rw [lays_out fun r hr z => hb ⟨r, hr, z⟩] at e
    exact (I.hok b u e).stay (fun c v _ q => k c v q) (fun c q => by rw [out c (I.hok.lt q)]; exact q) fun c xs q => by rw [out c (I.hok.lt q)]; exact q
theorem call_sortedI (hc : X.calm = true) : CallR X (.builtin "sorted") (fun xs H Q => ∃ (v d : Addr) (m : List (Str × V)), xs = [.ref v] ∧ H v = some (ViewO v d) ∧ H d = some (.dK (m.map fun p => ((Sum.inr p.1 : Key), p.2))) ∧ m.length < 64 ∧
    ∀ (H' : Hp) (l : Addr) (qs : List TK), Same H H' → H l = none → (∀ r ∈ qs, H' r.1 = some (.tup (.str r.2.1 :: r.2.2)) ∧ H r.1 = none) → H' l = some (.lst (qs.map fun r => V.ref r.1)) → (qs.map (·.2)).Perm (m.map fun p => (p.1, [p.2])) → qs.Pairwise tkLt → Q (.ref l) H') := by
  intro pins s σ H xs us Q I r h
  obtain ⟨v, d, m, rfl, hv, hd, h64, q⟩ := h
  obtain ⟨u, rfl, ru⟩ := vals1 r
  cases ru
  obtain ⟨vw, _, _⟩ := (show ObjOk X.prog X.w H s.heap v (ViewO v d) from I.hok v _ hv)
  obtain ⟨z, hdm, vs, rel, dd⟩ := dk_of I.hok hd
  have hvl : vs.length = m.length := by have := rel.length; rw [List.length_map] at this; exact this.symm
  obtain ⟨ep, da⟩ := dd.dictAt
  have ndk : (vs.map (·.1)).Nodup := by obtain ⟨_, _, _, _, _, _, _, nd⟩ := da; exact nd
  refine Calls.call_function_entry kind_sorted plain_sorted entry_sorted (args_sorted1 _) ?_
  unfold Builtin.«sorted»
  refine wpAny_bind (m := checkCount "sorted" 1 1 _) (wpAny_pure (wpAny_bind (kdx_collect (A := X.A.in1) (knd := mixKind X.prog X.w) (kvs := vs) (ep := ep) (I.ok.hd hc) vw da (by rw [← rel.length]; exact z) fun h' tk as hk hl hG => ?_)))
  have hlm : as.length = m.length := by omega
  have e1 : ((as.zip m).map fun p => ((p.1, p.2.1, [p.2.2]) : TK)).map (·.1) = as := by
    rw [List.map_map]
    have : ((fun x : TK => x.1) ∘ fun p : Addr × Str × V => ((p.1, p.2.1, [p.2.2]) : TK)) = Prod.fst := rfl
    rw [this, List.map_fst_zip (by omega)]
  have e2 : ((as.zip m).map fun p => ((p.1, p.2.1, [p.2.2]) : TK)).map (·.2) = m.map fun p => (p.1, [p.2]) := by
    rw [List.map_map]
    have : ((fun x : TK => x.2) ∘ fun p : Addr × Str × V => ((p.1, p.2.1, [p.2.2]) : TK)) = (fun p : Str × V => (p.1, [p.2])) ∘ Prod.snd := rfl
    rw [this, ← List.map_map, List.map_snd_zip (by omega)]
  have e3 : ((as.zip m).map fun p => ((p.1, p.2.1, [p.2.2]) : TK)).map (fun r => V.ref r.1) = as.map V.ref := by
    have : (fun r : TK => V.ref r.1) = V.ref ∘ (fun r : TK => r.1) := rfl
    rw [this, ← List.map_map, e1]
  have pairs : ∀ r ∈ (as.zip m).map fun p => ((p.1, p.2.1, [p.2.2]) : TK), ∃ (x : Str) (y : V) (u w' : Value), r.2 = (x, [y]) ∧ RelV (.str x) u ∧ RelV y w' ∧ h'.get? r.1 = some { cls := .type "tuple", data := .seq #[u, w'] } := fun r hr => by
    obtain ⟨⟨a, x, y⟩, hp, rfl⟩ := List.mem_map.mp hr
    obtain ⟨j, hj⟩ := List.getElem?_of_mem hp
    obtain ⟨ha, hm⟩ := List.getElem?_zip_eq_some.mp hj
    obtain ⟨key, k, w', g1, g2, g3⟩ := hG.pairs j a ha
    obtain ⟨y', hy, ry⟩ := rel.at g1
    rw [List.getElem?_map, hm] at hy
    have hy' : ((Sum.inr x : Key), y) = (k, y') := Option.some.inj hy
    injection hy' with k1 k2
    subst k1 k2
    exact ⟨x, y, key, w', rfl, kV_of g2, ry, g3⟩
  generalize hrs : (as.zip m).map (fun p => ((p.1, p.2.1, [p.2.2]) : TK)) = rs at e1 e2 e3 pairs
  have lrs : rs.length = m.length := by rw [← hrs, List.length_map, List.length_zip]; omega
  have nda : (rs.map (·.1)).Nodup := by rw [e1]; exact hG.rise.imp fun h => Nat.ne_of_lt h
  have above : ∀ r ∈ rs, s.heap.objs.size ≤ r.1 := fun r hr => Nat.le_of_lt (hG.above r.1 (by rw [← e1]; exact List.mem_map_of_mem hr))
  have tup : ∀ (Hx : Hp) (r : TK), r ∈ rs → ObjOk X.prog X.w Hx h' r.1 (.tup (.str r.2.1 :: r.2.2)) := fun Hx r hr => by
    obtain ⟨x, y, u, w', er, r1, r2, g⟩ := pairs r hr
    rw [er]
    exact ⟨by show 2 ≤ sizeLine; rw [sizeLine_eq]; decide, [u, w'], .cons r1 (.cons r2 .nil), ⟨_, g, rfl, 0, rfl⟩, ⟨_, g, rfl⟩⟩
  have I1 : Inv X pins σ (lays H rs) { s with heap := h', toks := tk } := I.lays hk nda above fun r hr => tup _ r hr
  have s1 : Same H (lays H rs) := fun b o e => by
    have ho : ∀ r ∈ rs, r.1 ≠ b := fun r hr z' => by
      have h1 := above r hr
      rw [z'] at h1
      exact absurd (I.hok.lt e) (Nat.not_lt.mpr h1)
    rw [lays_out ho]; exact e
  refine wpAny_bind (wpAny_newList ?_ (by rw [List.length_map, hlm, sizeLine_eq]; omega))
  have rvals : Vals (rs.map fun r => V.ref r.1) (as.map Value.ref) := by
    have := vals_refs rs
    have e4 : rs.map (fun p => Value.ref p.1) = as.map Value.ref := by
      rw [← e1, List.map_map]; rfl
    rwa [e4] at this
  have I2 := I1.lnew (t' := tk) (its := as.map Value.ref) rvals (by rw [List.length_map, lrs, sizeLine_eq]; omega)
  have fr : lays H rs h'.objs.size = none := I1.fresh
  have s2 : Same (lays H rs) (upd (lays H rs) h'.objs.size (.lst (rs.map fun r => V.ref r.1))) := same_new fr _
  have inr : ∀ r ∈ rs, lays H rs r.1 = some (.tup (.str r.2.1 :: r.2.2)) := fun r hr => lays_in nda hr
  have hnone : H h'.objs.size = none := by
    cases e : H h'.objs.size with
    | none => rfl
    | some o => have := s1 _ _ e; rw [fr] at this; cases this
  have nd2 : (rs.map (·.2.1)).Nodup := by
    have e5 : rs.map (·.2.1) = m.map (·.1) := by
      have := congrArg (List.map Prod.fst) e2
      simpa [List.map_map, Function.comp_def] using this
    have e6 : (m.map (·.1)).map (Sum.inr : Str → Key) = vs.map (·.1) := by
      rw [← rel.keys, List.map_map, List.map_map]; rfl
    rw [e5]
    rw [← e6] at ndk
    rw [List.Nodup, List.pairwise_map] at ndk
    exact ndk.imp fun h e => h (by rw [e])
  refine wpAny_bind (wpAny_holding (lsort_wp (A := X.A.in1) (l := h'.objs.size) (ps := rs) I2 upd_same (fun r hr => s2 _ _ (inr r hr)) nd2 (by omega) fun qs h2 pq pw I3 => ?_))
  refine wpAny_pure ⟨_, rfl, .ref h'.objs.size, _, I3, rfl, q _ _ qs (fun b o e => ?_) hnone (fun r hr => ⟨?_, I.hok.fresh (above r (pq.mem_iff.mp hr))⟩) upd_same (by rw [← e2]; exact pq.map _) pw⟩
  · have := s2 _ _ (s1 _ _ e)
    rw [upd_ne (fun z' => by rw [z', hnone] at e; cases e)]
    exact this
  · have hm := pq.mem_iff.mp hr
    rw [upd_ne (ne_of_none (inr r hm) fr)]
    exact s2 _ _ (inr r hm)
end
end L2
set_option maxHeartbeats 1000000
namespace L2
open PySem PySem.Spec PyProof.Rows
section
variable {X : Cx} {pins : List (Addr × Obj)} {σ : St} {H : Hp} {s : Shared}
end
section
variable {X : Cx}
end
section
variable {P : Program} {w : World} {K : PySem.W.Frag} {mg : Str → Option Value} {base : Heap}
end
end L2
set_option maxHeartbeats 1000000
namespace L2
open PySem PySem.Spec PyProof.Rows PySem.W
section
variable {X : Cx} {e st : Expr} {te : TE} {ts : TO} {p2 pos : Pos}
end
section
variable {X : Cx}
end
end L2
set_option maxHeartbeats 1000000
namespace L2
open PySem PySem.Spec PyProof.Rows PySem.W
section
variable {P : Program} {w : World} {A : Around} {E : Value → Shared → Prop} {s : Shared}
end
end L2
set_option maxHeartbeats 3200000
namespace L2
open PySem PySem.Spec PyProof.Rows PySem.W
section
variable {P : Program} {w : World} {A : Around} {R : Result → Shared → Prop} {I : Addr} {fp wr : List Addr} {G : Array GenState → Array GenState → Prop} {n : Nat} {Pv : Nat → Value → Prop} {St : Nat → Shared → Prop}
end
section
variable {P : Program} {w : World} {A : Around} {E : Value → Shared → Prop} {s : Shared}
end
end L2
set_option maxHeartbeats 1000000
namespace L2
open PySem PySem.Spec PyProof.Rows PySem.W
section
variable {P : Program} {w : World} {A : Around} {E : Value → Shared → Prop}
variable {s : Shared} {it S : Addr} {o : Obj} {es : Array (Int × Value)} {ep n i : Nat} {t : SetTable}
end
end L2
set_option maxHeartbeats 1000000
namespace L2
open PySem PySem.Spec PyProof.Rows PySem.W
section
variable {P : Program} {w : World} {A : Around} {E : Value → Shared → Prop} {s : Shared} {it S : Addr} {o : Obj} {es : Array (Int × Value)} {ep n i : Nat} {t : SetTable}
end
end L2
set_option maxHeartbeats 1000000
namespace L2
open PySem PySem.Spec PyProof.Rows PySem.W
section
variable {P : Program} {w : World} {A : Around} {E : Value → Shared → Prop} {s : Shared} {it S tp : Addr} {o ot : Obj} {es : Array (Int × Value)} {ep n i m : Nat} {t : SetTable} {pl : Array Value}
end
end L2
set_option maxHeartbeats 1000000
namespace L2
open PySem PySem.Spec PyProof.Rows PySem.W
section
variable {P : Program} {w : World} {A : Around} {E : Value → Shared → Prop} {s : Shared} {S : Addr} {o : Obj} {es : Array (Int × Value)} {ep : Nat} {t : SetTable}
end
end L2
set_option maxHeartbeats 1000000
namespace L2
open PySem PySem.Spec PyProof.Rows PySem.W
section
variable {P : Program} {w : World} {it S tp : Addr} {o ot : Obj} {es : Array (Int × Value)} {ep m : Nat} {t : SetTable}
end
end L2
set_option maxHeartbeats 1000000
namespace L2
open PySem PySem.Spec PyProof.Rows PySem.W
section
variable {P : Program} {w : World} {A : Around} {E : Value → Shared → Prop} {s : Shared} {S : Addr} {xs : List Str}
variable {R : Result → Shared → Prop} {it L : Addr} {fp : List Addr} {vs : List Value} {St : Nat → Heap → Prop}
end
end L2
set_option maxHeartbeats 1000000
namespace L2
open PySem PySem.Spec PyProof.Rows PySem.W
section
variable {P : Program} {w : World} {A : Around} {E : Value → Shared → Prop} {s : Shared} {S : Addr} {xs : List Str}
end
def txLt (a b : Str) : Prop := a.cps.toList < b.cps.toList
section
variable {X : Cx} {pins : List (Addr × Obj)} {σ : St} {H : Hp} {s : Shared}
theorem strs_at {ps : List Str} {its : List Value} (rv : Vals (ps.map V.str) its) (i : Nat) (hi : i < ps.length) : ∃ t, its.getD i .none = Value.str (ps.getD i default) t := by
  obtain ⟨u, hu, ru⟩ := Vals.get (i := i) (x := V.str ps[i]) rv (by rw [List.getElem?_map, List.getElem?_eq_getElem hi]; rfl)
  obtain ⟨t, rfl⟩ := (show ∃ t, u = Value.str ps[i] t from ru)
  exact ⟨t, by simp [List.getD, hu, hi]⟩
theorem lsort_str {A : Around} {E : Value → Shared → Prop} {l : Addr} {ps : List Str} {Q : Value → Shared → Prop} (I : Inv X pins σ H s) (hq : H l = some (.lst (ps.map V.str))) (nd : ps.Nodup) (h64 : ps.length < 64)
    (q : ∀ (qs : List Str) (h' : Heap), qs.Perm ps → qs.Pairwise txLt → Inv X pins σ (upd H l (.lst (qs.map V.str))) { s with heap := h' } → Q .none { s with heap := h' }) : wpAny (model X.prog X.w) A (call (.builtin "list.sort") [.ref l]) Q E s := by
  obtain ⟨hz, its, n, rv, at0⟩ := (show ObjOk X.prog X.w H s.heap l (.lst (ps.map V.str)) from I.hok l _ hq)
  have li : its.length = ps.length := by have := rv.length; rw [List.length_map] at this; exact this.symm
  obtain ⟨m, hm, _⟩ := I.loc
  have nL : l ≠ X.env.locals := fun z => by rw [z, I.free] at hq; cases hq
  by_cases few : ps.length < 2
  · refine wpAny_call_entry slot_list_sort ⟨_, at0, rfl⟩ entry_list_sort (list_sort_few at0 (by omega) fun hp ep k2 e2 => ⟨_, rfl, ?_⟩) (args_list_sort _)
    refine q ps hp (List.Perm.refl _) ?_ (I.setList hm hq rv hz (hm.at' fun o e => k2 _ o (Ne.symm nL) e) (fun b o _ hb z => k2 b o hb z) e2)
    match ps, few with
    | [], _ => exact .nil
    | [p], _ => exact List.pairwise_singleton _ _
  · have F0 : Fr (Att.noObjs s.heap) X.env.locals s.heap m := Att.fr_all hm
    generalize hN : (allNews (Att.noObjs s.heap) s.heap X.env.locals).filter (fun p => decide (p.1 ≠ l)) = nw
    have N0 : News (Att.noObjs s.heap) X.env.locals s.heap nw := fun p hp => by rw [← hN] at hp; exact news_all p (List.mem_filter.mp hp).1
    have nl0 : ∀ p ∈ nw, p.1 ≠ l := fun p hp => by rw [← hN] at hp; exact of_decide_eq_true (List.mem_filter.mp hp).2
    refine wpAny_call_entry slot_list_sort ⟨_, at0, rfl⟩ entry_list_sort (kat_list_sort F0 N0 at0 nL (Att.noObjs_get _ _) nl0 (by omega) (by omega) fun e1 h' F' N' => ?_) (args_list_sort _)
    have keep : ∀ (g : Heap) (x : Obj), News (Att.noObjs s.heap) X.env.locals g ((l, x) :: nw) → ∀ b o, b ≠ X.env.locals → b ≠ l → s.heap.get? b = some o → g.get? b = some o := fun g x N b o hb hl e =>
      (N (b, o) (List.mem_cons_of_mem _ (by rw [← hN]; exact List.mem_filter.mpr ⟨mem_allNews hb (Att.noObjs_get _ _) e, decide_eq_true hl⟩))).1
    have kk : keyKind' its.toArray = pure oneType' := by
      have st := strs_of rv
      match its, li, st with
      | v1 :: v2 :: r, _, st => exact keyKind_strs st
      | [_], li, _ => simp at li; omega
      | [], li, _ => simp at li; omega
    rw [kk]
    refine wpAny_pure ?_
    rw [li]
    have unlike : ∀ i j, i < ps.length → j < ps.length → i ≠ j → ps.getD i default ≠ ps.getD j default := fun i j hi hj hij e => by
      have ei : ps.getD i default = ps[i] := by simp [List.getD, hi]
      have ej : ps.getD j default = ps[j] := by simp [List.getD, hj]
      rw [ei, ej] at e
      exact hij ((List.getElem_inj nd).mp e)
    have O : Ord (kas_ask X.prog X.w A.in1 oneType' its) (fun i j => decide ((ps.getD i default).cps.toList < (ps.getD j default).cps.toList)) ps.length { s with heap := h' } := by
      refine ⟨fun i j C hi hj hij hC => ?_, fun i j k h1 h2 => ?_, fun i j hi hj hij h1 => ?_, fun i j h1 => ?_⟩
      · show wpAny _ _ (keyLt' _ _ _) C _ _
        obtain ⟨t1, e1⟩ := strs_at rv i hi
        obtain ⟨t2, e2⟩ := strs_at rv j hj
        rw [e1, e2]
        exact kas_lt_str hC
      · exact decide_eq_true (List.lt_trans (of_decide_eq_true h1) (of_decide_eq_true h2))
      · exact decide_eq_true (lst_tot (of_decide_eq_false h1) fun e => unlike i j hi hj hij (str_ext e))
      · exact decide_eq_false (List.lt_asymm (of_decide_eq_true h1))
    refine sort_ok O (by omega) fun p re up => ?_
    have hl2 : p.toList.Perm (List.range ps.length) := by simpa using Array.perm_iff_toList_perm.mp re.perm
    have outs : ∀ il : List Nat, (∀ i ∈ il, i < ps.length) → Vals ((il.map fun i => ps.getD i default).map V.str) (il.map fun i => its.getD i .none) := by
      intro il
      induction il with
      | nil => intro _; exact .nil
      | cons i il ih =>
        intro h
        obtain ⟨t1, e1⟩ := strs_at rv i (h i List.mem_cons_self)
        refine .cons ?_ (ih fun x hx => h x (List.mem_cons_of_mem _ hx))
        exact ⟨t1, e1⟩
    have rv2 := outs p.toList fun i hi => List.mem_range.mp ((List.Perm.mem_iff hl2).mp hi)
    refine KasFin.intro (news := (l, seqObj "list" #[] e1) :: nw) (g := fun o' => (l, o') :: nw) F' N' (.head nl0) fun h2 c F2 N2 => ?_
    have pq := pick_perm (d := default) rfl re
    have I2 := I.setList (D := l) hm hq rv2 (by rw [List.length_map, pq.length_eq]; simpa using hz) F2.ns (keep h2 _ N2) (N2 (l, _) List.mem_cons_self).1
    exact ⟨_, rfl, q _ h2 pq (pick_pairwise (R := txLt) (fun i j _ _ h => (of_decide_eq_true h : (ps.getD i default).cps.toList < (ps.getD j default).cps.toList)) re up) I2⟩
end
section
variable {X : Cx}
end
end L2
set_option maxHeartbeats 1000000
namespace L2
open PySem PySem.Spec PyProof.Rows PySem.W
section
variable {X : Cx}
end
end L2
set_option maxHeartbeats 1000000
namespace L2
open PySem PySem.Spec PyProof.Rows PySem.W
section
variable {X : Cx}
end
end L2
set_option maxHeartbeats 1000000
namespace L2
open PySem PySem.Spec PyProof.Rows
section
variable {prog : Program} {w : World} {A : Around} {E : Value → Shared → Prop} {s : Shared}
theorem nextOf_tup_item {it t : Addr} {i : Nat} {its : Array Value} {x : Value} {Q : Value → Shared → Prop} (hit : s.heap.IsTupleIter it t i) (ht : s.heap.IsTuple t its) (hx : its[i]? = some x)
    (hQ : ∀ h', h'.IsTupleIter it t (i + 1) → Heap.SameBut it s.heap h' → Q x { s with heap := h' }) : wpAny (model prog w) A (Builtin.SmallTypes.nextOf (.ref it)) Q E s := by
  obtain ⟨o, ho, hc, hd⟩ := id hit
  obtain ⟨ol, hol, _, nl, hdl⟩ := ht
  unfold Builtin.SmallTypes.nextOf
  refine wpAny_bind (wpAny_callSpecial?_slot (name := Str.ofString "__next__") hit.typeIs F.slot_tuple_iterator_next (wpAny_call_entry F.slot_tuple_iterator_next hit.typeIs F.entry_tuple_iterator_next ?_ (F.args_tuple_iterator_next_1 _)))
  show wpAny _ _ (field (.ref it) 0 >>= _) _ _ s; refine wpAny_bind (wpAny_field ho hd (x := .ref t) rfl ?_)
  show wpAny _ _ (if (Value.ref t == Value.none) = true then _ else _) _ _ s; rw [if_neg (show ¬ ((Value.ref t == Value.none) = true) from Bool.false_ne_true)]
  show wpAny _ _ (field (.ref it) 1 >>= _) _ _ s; refine wpAny_bind (wpAny_field ho hd (x := .int i 0) rfl ?_)
  show wpAny _ _ (seqItems? (.ref t) >>= _) _ _ s; refine wpAny_bind (wpAny_seqItems hol hdl ?_); simp only [Int.toNat_natCast, hx]
  refine wpAny_bind (wpAny_setField ho hd (by simp) (wpAny_pure ⟨x, rfl, wpAny_pure (hQ _ ⟨_, Heap.get?_update_self _ ho (Obj.isFreed_of_fields (Obj.data_mapFields hd _)), (Obj.cls_mapFields ..).trans hc, by rw [Obj.data_mapFields hd]; simp [rawInt]⟩ (Heap.SameBut.update ..))⟩))
theorem nextOf_tup_end {it t : Addr} {i : Nat} {its : Array Value} {Q : Value → Shared → Prop} (hh : A.handled = none) (hit : s.heap.IsTupleIter it t i) (ht : s.heap.IsTuple t its) (hx : its[i]? = none)
    (hE : ∀ h' e, Heap.ExtBut it s.heap h' → (∃ o, h'.get? e = some o ∧ o.cls = .type "StopIteration") → E (.ref e) { s with heap := h' }) : wpAny (model prog w) A (Builtin.SmallTypes.nextOf (.ref it)) Q E s := by
  obtain ⟨o, ho, hc, hd⟩ := id hit
  obtain ⟨ol, hol, _, nl, hdl⟩ := ht
  unfold Builtin.SmallTypes.nextOf
  refine wpAny_bind (wpAny_callSpecial?_slot (name := Str.ofString "__next__") hit.typeIs F.slot_tuple_iterator_next (wpAny_call_entry F.slot_tuple_iterator_next hit.typeIs F.entry_tuple_iterator_next ?_ (F.args_tuple_iterator_next_1 _)))
  show wpAny _ _ (field (.ref it) 0 >>= _) _ _ s; refine wpAny_bind (wpAny_field ho hd (x := .ref t) rfl ?_)
  show wpAny _ _ (if (Value.ref t == Value.none) = true then _ else _) _ _ s; rw [if_neg (show ¬ ((Value.ref t == Value.none) = true) from Bool.false_ne_true)]
  show wpAny _ _ (field (.ref it) 1 >>= _) _ _ s; refine wpAny_bind (wpAny_field ho hd (x := .int i 0) rfl ?_)
  show wpAny _ _ (seqItems? (.ref t) >>= _) _ _ s; refine wpAny_bind (wpAny_seqItems hol hdl ?_); simp only [Int.toNat_natCast, hx]
  refine wpAny_bind (wpAny_rule (wpAny_bind (wpAny_setField ho hd (by simp) ?_))); show wpAny _ _ (newExc (.type "StopIteration") [] >>= _) _ _ _
  refine wpAny_bind ?_; simp only [newExc, newTuple]; refine wpAny_bind (wpAny_newObj_type ?_ (by size_fits))
  refine wpAny_bind (m := firstArgMember _ _) (wpAny_of_eq (a := Value.none) (by first | rfl | (simp only [firstArgMember]; rfl)) (wpAny_newObj_type ?_ (by size_fits)))
  simp only [raiseNew]; refine wpAny_bind (wpAny_handled ?_); first | rw [show A.in1.handled = none from hh] | rw [hh]
  refine wpAny_bind (wpAny_pure (wpAny_throw (hE _ _ (((Heap.SameBut.update ..).extBut.push _).push _) ⟨_, Heap.get?_push_size _ rfl, rfl⟩)))
end
section
variable {X : Cx}
end
end L2
set_option maxHeartbeats 1000000
namespace L2
open PySem PySem.Spec PyProof.Rows PySem.W
section
variable {X : Cx}
variable {tg : Expr}
end
end L2
set_option maxHeartbeats 1000000
namespace L2
open PySem PySem.Spec PyProof.Rows PySem.W
noncomputable def cdec (p : Prop) : Bool := @decide p (Classical.propDecidable p)
theorem cdec_iff {p : Prop} : cdec p = true ↔ p := by unfold cdec; exact @decide_eq_true_iff p (Classical.propDecidable p)
theorem cdec_of {p : Prop} {b : Bool} (h : b = true ↔ p) : b = cdec p := by rw [Bool.eq_iff_iff, cdec_iff]; exact h
theorem cdec_F {p : Prop} (h : ¬ p) : false = cdec p := cdec_of ⟨fun z => (nomatch z), fun z => absurd z h⟩
mutual
theorem Rep.inj {H : Hp} : ∀ (d e : Dv) (v : V), Rep H d v → Rep H e v → d = e
  | .tup ds, e, v, h1, h2 => by
    simp only [Rep] at h1
    obtain ⟨a, vs, rfl, ha, rs⟩ := h1
    cases e with
    | tup es => simp only [Rep] at h2; obtain ⟨b, ws, eb, hb, rs2⟩ := h2; cases eb; rw [ha] at hb; cases hb; rw [Reps.inj ds es vs rs rs2]
    | lst es => simp only [Rep] at h2; obtain ⟨b, ws, eb, hb, rs2⟩ := h2; cases eb; rw [ha] at hb; cases hb
    | dct => simp only [Rep] at h2; obtain ⟨b, eb, hb⟩ := h2; cases eb; rw [ha] at hb; cases hb
    | _ => simp only [Rep] at h2; cases h2
  | .lst ds, e, v, h1, h2 => by
    simp only [Rep] at h1
    obtain ⟨a, vs, rfl, ha, rs⟩ := h1
    cases e with
    | lst es => simp only [Rep] at h2; obtain ⟨b, ws, eb, hb, rs2⟩ := h2; cases eb; rw [ha] at hb; cases hb; rw [Reps.inj ds es vs rs rs2]
    | tup es => simp only [Rep] at h2; obtain ⟨b, ws, eb, hb, rs2⟩ := h2; cases eb; rw [ha] at hb; cases hb
    | dct => simp only [Rep] at h2; obtain ⟨b, eb, hb⟩ := h2; cases eb; rw [ha] at hb; cases hb
    | _ => simp only [Rep] at h2; cases h2
  | .dct, e, v, h1, h2 => by
    simp only [Rep] at h1
    obtain ⟨a, rfl, ha⟩ := h1
    cases e with
    | dct => rfl
    | tup es => simp only [Rep] at h2; obtain ⟨b, ws, eb, hb, rs2⟩ := h2; cases eb; rw [ha] at hb; cases hb
    | lst es => simp only [Rep] at h2; obtain ⟨b, ws, eb, hb, rs2⟩ := h2; cases eb; rw [ha] at hb; cases hb
    | _ => simp only [Rep] at h2; cases h2
  | .non, e, v, h1, h2 => by
    simp only [Rep] at h1; subst h1
    cases e with
    | non => rfl
    | tup es => simp only [Rep] at h2; obtain ⟨b, ws, eb, _⟩ := h2; cases eb
    | lst es => simp only [Rep] at h2; obtain ⟨b, ws, eb, _⟩ := h2; cases eb
    | dct => simp only [Rep] at h2; obtain ⟨b, eb, _⟩ := h2; cases eb
    | _ => simp only [Rep] at h2; cases h2
  | .bl _, e, v, h1, h2 => by
    simp only [Rep] at h1; subst h1
    cases e with
    | bl b => simp only [Rep] at h2; cases h2; rfl
    | tup es => simp only [Rep] at h2; obtain ⟨b, ws, eb, _⟩ := h2; cases eb
    | lst es => simp only [Rep] at h2; obtain ⟨b, ws, eb, _⟩ := h2; cases eb
    | dct => simp only [Rep] at h2; obtain ⟨b, eb, _⟩ := h2; cases eb
    | _ => simp only [Rep] at h2; cases h2
  | .int _, e, v, h1, h2 => by
    simp only [Rep] at h1; subst h1
    cases e with
    | int b => simp only [Rep] at h2; cases h2; rfl
    | tup es => simp only [Rep] at h2; obtain ⟨b, ws, eb, _⟩ := h2; cases eb
    | lst es => simp only [Rep] at h2; obtain ⟨b, ws, eb, _⟩ := h2; cases eb
    | dct => simp only [Rep] at h2; obtain ⟨b, eb, _⟩ := h2; cases eb
    | _ => simp only [Rep] at h2; cases h2
  | .str _, e, v, h1, h2 => by
    simp only [Rep] at h1; subst h1
    cases e with
    | str b => simp only [Rep] at h2; cases h2; rfl
    | tup es => simp only [Rep] at h2; obtain ⟨b, ws, eb, _⟩ := h2; cases eb
    | lst es => simp only [Rep] at h2; obtain ⟨b, ws, eb, _⟩ := h2; cases eb
    | dct => simp only [Rep] at h2; obtain ⟨b, eb, _⟩ := h2; cases eb
    | _ => simp only [Rep] at h2; cases h2
theorem Reps.inj {H : Hp} : ∀ (ds es : List Dv) (vs : List V), Reps H ds vs → Reps H es vs → ds = es
  | [], es, vs, h1, h2 => by
    simp only [Reps] at h1; subst h1
    cases es with
    | nil => rfl
    | cons e es => simp only [Reps] at h2; obtain ⟨v, r, e2, _⟩ := h2; cases e2
  | d :: ds, es, vs, h1, h2 => by
    simp only [Reps] at h1
    obtain ⟨v, r, rfl, r1, rs1⟩ := h1
    cases es with
    | nil => simp only [Reps] at h2; cases h2
    | cons e es =>
      simp only [Reps] at h2
      obtain ⟨v2, r2, e2, r3, rs3⟩ := h2
      cases e2
      rw [Rep.inj d e v r1 r3, Reps.inj ds es r rs1 rs3]
end
inductive Pl : Nat → Dv → Prop
  | int {n : Nat} {i : Int} : Pl n (.int i)
  | str {n : Nat} {x : Str} : Pl n (.str x)
  | non {n : Nat} : Pl n .non
  | tup {n : Nat} {ds : List Dv} : (∀ d ∈ ds, Pl n d) → Pl (n + 1) (.tup ds)
theorem Pl.up {m n : Nat} {d : Dv} (h : Pl m d) : m ≤ n → Pl n d := by
  induction h generalizing n with
  | int => intro _; exact .int
  | str => intro _; exact .str
  | non => intro _; exact .non
  | tup _ ih =>
    intro l
    obtain ⟨k, rfl⟩ : ∃ k, n = k + 1 := ⟨n - 1, by omega⟩
    exact .tup fun d hd => ih d hd (by omega)
theorem items_cdec {ds es : List Dv} : ((List.range (min ds.length es.length)).all (fun j => cdec (ds[j]? = es[j]?)) && ds.length == es.length) = cdec (Dv.tup ds = .tup es) := by
  refine cdec_of ?_
  rw [Bool.and_eq_true, List.all_eq_true, beq_iff_eq]
  constructor
  · rintro ⟨h, hl⟩
    congr 1
    refine List.ext_getElem? fun j => ?_
    by_cases hj : j < ds.length
    · exact cdec_iff.mp (h j (List.mem_range.mpr (by omega)))
    · rw [List.getElem?_eq_none (by omega), List.getElem?_eq_none (by omega)]
  · intro h
    cases h
    exact ⟨fun j _ => cdec_iff.mpr rfl, rfl⟩
section
variable {X : Cx} {pins : List (Addr × Obj)} {σ : St} {H : Hp} {s : Shared}
theorem deep_items (I : Inv X pins σ H s) {A : Around} {n : Nat} {ds es : List Dv} {vs ws : List V} {its its2 : List Value}
    (h : ∀ d ∈ ds, ∀ e ∈ es, ∀ (v w : V) (a b : Value), Rep H d v → Rep H e w → RelV v a → RelV w b → SeqAt.EqAt A s a b (cdec (d = e))) (rs1 : Reps H ds vs) (rs2 : Reps H es ws) (rv1 : Vals vs its) (rv2 : Vals ws its2) :
    its.toArray.size = ds.length ∧ its2.toArray.size = es.length ∧ ∀ j (h1 : j < its.toArray.size) (h2 : j < its2.toArray.size), SeqAt.EqAt A s its.toArray[j] its2.toArray[j] (cdec (ds[j]? = es[j]?)) := by
  have l1 := rs1.length
  have l2 := rs2.length
  have l3 := rv1.length
  have l4 := rv2.length
  refine ⟨by simp; omega, by simp; omega, fun j h1 h2 => ?_⟩
  have hj : j < its.length := by simpa using h1
  have hj2 : j < its2.length := by simpa using h2
  obtain ⟨u, hu1, ru⟩ := Vals.get (i := j) (x := vs[j]'(by omega)) rv1 (List.getElem?_eq_getElem _)
  obtain ⟨u2, hu2, ru2⟩ := Vals.get (i := j) (x := ws[j]'(by omega)) rv2 (List.getElem?_eq_getElem _)
  obtain ⟨d, hd, Rd⟩ := rs1.get (i := j) (v := vs[j]'(by omega)) (List.getElem?_eq_getElem _)
  obtain ⟨d2, hd2, Rd2⟩ := rs2.get (i := j) (v := ws[j]'(by omega)) (List.getElem?_eq_getElem _)
  have e1 : its.toArray[j] = u := by
    rw [List.getElem?_eq_getElem hj] at hu1
    simpa using Option.some.inj hu1
  have e2 : its2.toArray[j] = u2 := by
    rw [List.getElem?_eq_getElem hj2] at hu2
    simpa using Option.some.inj hu2
  rw [e1, e2, hd, hd2]
  have e3 : cdec (some d = some d2) = cdec (d = d2) := cdec_of (by rw [cdec_iff]; exact ⟨Option.some.inj, fun z => by rw [z]⟩)
  rw [e3]
  exact h d (List.mem_of_getElem? hd) d2 (List.mem_of_getElem? hd2) _ _ _ _ Rd Rd2 ru ru2
theorem deep_eq (I : Inv X pins σ H s) {n : Nat} {d : Dv} (h : Pl n d) : ∀ {e : Dv}, Pl n e → ∀ {A : Around} {v w : V} {a b : Value}, A.units + n < cLine → Rep H d v → Rep H e w → RelV v a → RelV w b → SeqAt.EqAt A s a b (cdec (d = e)) := by
  induction h with
  | @int n i =>
    intro e he A v w a b hu r1 r2 q1 q2
    simp only [Rep] at r1
    subst r1
    obtain ⟨t, rfl⟩ := (show ∃ t, a = Value.int i t from q1)
    cases he with
    | @int _ j => simp only [Rep] at r2; subst r2; obtain ⟨u, rfl⟩ := (show ∃ t, b = Value.int j t from q2); rw [← cdec_of (b := (i == j)) (by rw [beq_iff_eq]; exact ⟨fun z => by rw [z], fun z => Dv.int.inj z⟩)]; exact SeqAt.EqAt.int_int i t j u
    | @str _ x => simp only [Rep] at r2; subst r2; obtain ⟨u, rfl⟩ := (show ∃ t, b = Value.str x t from q2); rw [← cdec_F nofun]; exact SeqAt.EqAt.int_str i t x u
    | non => simp only [Rep] at r2; subst r2; cases q2; rw [← cdec_F nofun]; exact SeqAt.EqAt.int_none i t
    | @tup n es _ => simp only [Rep] at r2; obtain ⟨l, ws, rfl, hl, _⟩ := r2; cases q2; obtain ⟨its, _, p, _⟩ := I.tuple (SqT.of hl); rw [← cdec_F nofun]; exact SeqAt.EqAt.int_tuple i t p (by omega)
  | @str n x =>
    intro e he A v w a b hu r1 r2 q1 q2
    simp only [Rep] at r1
    subst r1
    obtain ⟨t, rfl⟩ := (show ∃ t, a = Value.str x t from q1)
    cases he with
    | @int _ j => simp only [Rep] at r2; subst r2; obtain ⟨u, rfl⟩ := (show ∃ t, b = Value.int j t from q2); rw [← cdec_F nofun]; exact SeqAt.EqAt.str_int x t j u
    | @str _ y => simp only [Rep] at r2; subst r2; obtain ⟨u, rfl⟩ := (show ∃ t, b = Value.str y t from q2); rw [← cdec_of (b := (x == y)) (by rw [beq_iff_eq]; exact ⟨fun z => by rw [z], fun z => Dv.str.inj z⟩)]; exact SeqAt.EqAt.str_str x t y u
    | non => simp only [Rep] at r2; subst r2; cases q2; rw [← cdec_F nofun]; exact SeqAt.EqAt.str_none x t
    | @tup n es _ => simp only [Rep] at r2; obtain ⟨l, ws, rfl, hl, _⟩ := r2; cases q2; obtain ⟨its, _, p, _⟩ := I.tuple (SqT.of hl); rw [← cdec_F nofun]; exact SeqAt.EqAt.str_tuple x t p (by omega)
  | @non n =>
    intro e he A v w a b hu r1 r2 q1 q2
    simp only [Rep] at r1
    subst r1
    cases q1
    cases he with
    | @int _ j => simp only [Rep] at r2; subst r2; obtain ⟨u, rfl⟩ := (show ∃ t, b = Value.int j t from q2); rw [← cdec_F nofun]; exact SeqAt.EqAt.none_int j u
    | @str _ y => simp only [Rep] at r2; subst r2; obtain ⟨u, rfl⟩ := (show ∃ t, b = Value.str y t from q2); rw [← cdec_F nofun]; exact SeqAt.EqAt.none_str y u
    | non => simp only [Rep] at r2; subst r2; cases q2; rw [← cdec_of (b := true) ⟨fun _ => rfl, fun _ => rfl⟩]; exact SeqAt.EqAt.same _
    | @tup n es _ => simp only [Rep] at r2; obtain ⟨l, ws, rfl, hl, _⟩ := r2; cases q2; obtain ⟨its, _, p, _⟩ := I.tuple (SqT.of hl); rw [← cdec_F nofun]; exact SeqAt.EqAt.none_tuple p (by omega)
  | @tup n ds hds ih =>
    intro e he A v w a b hu r1 r2 q1 q2
    have r1' := r1
    simp only [Rep] at r1
    obtain ⟨l, vs, rfl, h1, rs1⟩ := r1
    cases q1
    obtain ⟨its, rv1, p1, _⟩ := I.tuple (SqT.of h1)
    cases he with
    | @int _ j => simp only [Rep] at r2; subst r2; obtain ⟨u, rfl⟩ := (show ∃ t, b = Value.int j t from q2); rw [← cdec_F nofun]; exact SeqAt.EqAt.tuple_int j u p1 (by omega)
    | @str _ y => simp only [Rep] at r2; subst r2; obtain ⟨u, rfl⟩ := (show ∃ t, b = Value.str y t from q2); rw [← cdec_F nofun]; exact SeqAt.EqAt.tuple_str y u p1 (by omega)
    | non => simp only [Rep] at r2; subst r2; cases q2; rw [← cdec_F nofun]; exact SeqAt.EqAt.tuple_none p1 (by omega)
    | @tup _ es hes =>
      have r2' := r2
      simp only [Rep] at r2
      obtain ⟨b', ws, rfl, h2, rs2⟩ := r2
      cases q2
      obtain ⟨its2, rv2, p2, _⟩ := I.tuple (SqT.of h2)
      have hu' : A.in1.units + n < cLine := by show A.units + 1 + n < cLine; omega
      obtain ⟨z1, z2, q⟩ := deep_items I (A := A.in1) (n := n) (fun d hd e he v w a b r1 r2 q1 q2 => ih d hd (hes e he) hu' r1 r2 q1 q2) rs1 rs2 rv1 rv2
      by_cases hlb : l = b'
      · subst hlb
        rw [← cdec_of (b := true) ⟨fun _ => Rep.inj _ _ _ r1' r2', fun _ => rfl⟩]
        exact SeqAt.EqAt.same _
      · have r := SeqAt.RcAt.tuples (e := fun j => cdec (ds[j]? = es[j]?)) p1 p2 (by omega) q
        rw [z1, z2, items_cdec] at r
        exact SeqAt.EqAt.of_refs hlb r
end
section
variable {X : Cx}
theorem op_eqT (hu : X.A.units + 150 < cLine) : OpR X (compareOp .Eq) (fun x y H Q => ∃ (n : Nat) (ds es : List Dv), Pl n (.tup ds) ∧ Pl n (.tup es) ∧ n ≤ 140 ∧ Rep H (.tup ds) x ∧ Rep H (.tup es) y ∧ ∀ b : Bool, (b = true ↔ ds = es) → Q (.bl b) H) := by
  intro pins s σ H x y v u Q I rx ry h
  obtain ⟨n, ds, es, hd, he, hn, r1, r2, q⟩ := h
  simp only [Rep] at r1 r2
  obtain ⟨l, vs, rfl, h1, rs1⟩ := r1
  obtain ⟨b', ws, rfl, h2, rs2⟩ := r2
  cases rx
  cases ry
  obtain ⟨its, rv1, p1, _⟩ := I.tuple (SqT.of h1)
  obtain ⟨its2, rv2, p2, _⟩ := I.tuple (SqT.of h2)
  cases hd with
  | @tup n ds hds =>
  cases he with
  | @tup _ es hes =>
  have hu' : X.A.in1.units + n < cLine := by show X.A.units + 1 + n < cLine; omega
  obtain ⟨z1, z2, w⟩ := deep_items I (A := X.A.in1) (n := n) (fun d hd e he v w a b r1 r2 q1 q2 => deep_eq I (hds d hd) (hes e he) hu' r1 r2 q1 q2) rs1 rs2 rv1 rv2
  refine SeqAt.RcAt.tuples (e := fun j => cdec (ds[j]? = es[j]?)) p1 p2 (by omega) w X.prog X.w X.xe _ ?_
  rw [z1, z2, items_cdec]
  exact ⟨.bl _, H, I, rfl, q _ (by rw [cdec_iff]; exact ⟨fun z => Dv.tup.inj z, fun z => by rw [z]⟩)⟩
end
theorem hu150_of {A : Around} {k : Nat} (hr : Room k A) : A.units + 150 < cLine := by have := hr.un; omega
end L2
set_option maxHeartbeats 1000000
namespace L2
open PySem PySem.Spec PyProof.Rows PySem.W
section
variable {X : Cx} {k : Nat} {f : Addr} {fd : FuncData} {ps : List Str} {sp : Sp} {x : Str} {p pos : Pos} {e : Expr} {es : List Expr} {t : TA}
def tCallV (f : Addr) (i : Nat) (sp : Sp) (t : TA) : TE := fun σ H Q => σ[i]? = some (some (.ref f)) ∧ t σ H fun vs H1 => sp (vs ++ []) H1 Q E0
theorem pe_callV (i : Nat) (F : FnOk X.prog X.w X.K X.mg X.base CX0 k f fd ps sp) (hr : Room k X.A) (hk : PySem.W.keepIn X.K (.ref f) = true) (hb : Binds X.K fd ps []) (ha : PA X (e :: es) t) (hN : X.N[i]? = some x := by rfl)
    (hv : Vis X.env.scope x := by first | exact Or.inl rfl | exact Or.inr (Or.inl rfl) | exact Or.inr (Or.inr rfl)) (hd : (x == ("__debug__" : Str)) = false := by decide) (hcd : (x == ("__classdict__" : Str)) = false := by decide)
    (he : starEach (e :: es) X.env = (false, eval e X.env) :: starEach es X.env := by rfl) (hpl : (backTo pos (starEach es X.env)).any (·.1) = false := by rfl) : PE X (.Call (.Name x p) (e :: es) [] pos) (tCallV f i sp t) := by
  intro pins s σ H Q I h
  obtain ⟨h1, h2⟩ := h
  refine wpAny_Call_Name_kw (thn (pe_var (X := X) (pos := p) hN hv hd hcd pins s σ H (fun v H' => v = .ref f ∧ H' = H) I ⟨_, h1, rfl, rfl⟩) fun u s1 ⟨v, H1, I1, r1, e1, e2⟩ => ?_)
  subst e1 e2
  cases r1
  exact PySem.W.callWith_K (h₀ := X.base) I1.ok.mod.kin hk (thn (ha pos pins s1 σ _ _ I1 h2) fun us s2 ⟨vs, H2, I2, r, q⟩ => ⟨I2.kIn, run_fn F hr hb .nil pass0 I2 r q⟩) he hpl
end
section
variable {prog : Program} {w : World} {A : Around} {E : Value → Shared → Prop} {s : Shared} {r l S : Addr} {items : Array Value}
end
section
variable {X : Cx} {e : Expr} {te : TE} {p p1 pos pos1 : Pos}
end
end L2
set_option maxHeartbeats 1000000
namespace L2
open PySem PySem.Spec PyProof.Rows PySem.W
theorem ne_cls {h : Heap} {a b : Addr} {o u : Obj} (h1 : h.get? a = some o) (h2 : h.get? b = some u) (n : o.cls ≠ u.cls) : a ≠ b := fun z => by subst z; rw [h1] at h2; cases h2; exact n rfl
section
variable {X : Cx}
end
end L2
set_option maxHeartbeats 1000000
namespace L2
open PySem PySem.Spec PyProof.Rows PySem.W
section
variable {X : Cx} {pins : List (Addr × Obj)} {s : Shared} {σ : St} {H : Hp}
end
section
variable {X : Cx}
end
end L2
set_option maxHeartbeats 1000000
namespace L2
open PySem PySem.Spec PyProof.Rows PySem.W
section
end
end L2
set_option maxHeartbeats 1000000
namespace L2
open PySem PySem.Spec PyProof.Rows PySem.W
section
variable {prog : Program} {w : World} {A : Around} {E : Value → Shared → Prop} {s : Shared}
end
section
variable {X : Cx} {tg e : Expr} {ta : TA} {p pos : Pos}
end
end L2
set_option maxHeartbeats 1000000
namespace L2
open PySem PySem.Spec PyProof.Rows PySem.W
section
variable {X : Cx}
end
end L2
set_option maxHeartbeats 1000000
namespace L2
open PySem PySem.Spec PyProof.Rows PySem.W
section
variable {X : Cx}
theorem call_sortedL : CallR X (.builtin "sorted") (fun xs H Q => ∃ (a : Addr) (ps : List Str), xs = [.ref a] ∧ H a = some (.lst (ps.map V.str)) ∧ ps.Nodup ∧ ps.length < 64 ∧
    ∀ (l : Addr) (qs : List Str), H l = none → qs.Perm ps → qs.Pairwise txLt → Q (.ref l) (upd H l (.lst (qs.map V.str)))) := by
  intro pins s σ H xs us Q I r h
  obtain ⟨a, ps, rfl, ha, nd, h64, q⟩ := h
  obtain ⟨u, rfl, ru⟩ := vals1 r
  cases ru
  obtain ⟨hz, its, n, rv, at0⟩ := (show ObjOk X.prog X.w H s.heap a (.lst (ps.map V.str)) from I.hok a _ ha)
  have li : its.length = ps.length := by have := rv.length; rw [List.length_map] at this; exact this.symm
  have line : its.length ≤ sizeLine := by rw [sizeLine_eq]; omega
  refine Calls.call_function_entry kind_sorted plain_sorted entry_sorted (args_sorted1 _) ?_
  unfold Builtin.«sorted»
  refine wpAny_bind (m := checkCount "sorted" 1 1 _) (wpAny_pure (wpAny_bind (collect_list (vs := its) ⟨_, at0, rfl, _, rfl⟩ ?_ line)))
  have kp : ∀ b o, s.heap.get? b = some o → ((s.heap.push (seqObj "list" #[] 0)).update s.heap.objs.size (Obj.mapSeq (· ++ its.toArray))).get? b = some o := fun b o e => by
    rw [Heap.get?_update_ne _ _ _ _ (nlt (Heap.lt_size e)), Heap.get?_push_ne _ _ _ (nlt (Heap.lt_size e))]
    exact e
  generalize (s.heap.push (seqObj "list" #[] 0)).update s.heap.objs.size (Obj.mapSeq (· ++ its.toArray)) = h' at kp ⊢
  have I1 : Inv X pins σ H { s with heap := h' } := I.call (ch := []) (Un.kept kp) (I.hok.kept kp) I.bare fun b hb => nomatch hb
  refine wpAny_bind (wpAny_newList ?_ line)
  have I2 := I1.lnew (t' := s.toks) rv (by rw [List.length_map, sizeLine_eq]; omega)
  refine wpAny_bind (wpAny_holding (lsort_str (A := X.A.in1) (l := h'.objs.size) (ps := ps) I2 upd_same nd h64 fun qs h2 pq pw I3 => ?_))
  rw [upd_upd] at I3
  exact wpAny_pure ⟨_, rfl, .ref h'.objs.size, _, I3, rfl, q _ qs I1.fresh pq pw⟩
end
end L2
set_option maxHeartbeats 1000000
namespace L2
open PySem PySem.Spec PyProof.Rows
section
variable {σ : St} {H : Hp} {d e : Dv} {ds es : List Dv} {ta tb : TE} {t : TA} {l : Addr}
variable {i : Nat} {u : TS} {D : Ends}
end
end L2
set_option maxHeartbeats 1000000
namespace L2
open PySem PySem.Spec PyProof.Rows PySem.W
abbrev TF := St → Hp → Str → (Str → Hp → Prop) → Prop
section
variable {X : Cx}
def PF (X : Cx) (es : List Expr) (t : TF) : Prop := ∀ (pins : List (Addr × Obj)) (s : Shared) (σ : St) (H : Hp) (acc : Str) (Q : Str → Hp → Prop), Inv X pins σ H s → t σ H acc Q → Joins (model X.prog X.w) X.A X.xe (evalEach es X.env) acc (fun out s' => ∃ H', Inv X pins σ H' s' ∧ Q out H') s
def tfNil : TF := fun _ H acc Q => Q acc H
def tfCons (te : TE) (t : TF) : TF := fun σ H acc Q => te σ H fun x H1 => ∃ y, x = .str y ∧ (acc ++ y).length ≤ sizeLine ∧ t σ H1 (acc ++ y) Q
def tFv (te : TE) : TE := fun σ H Q => te σ H fun x H1 => ∃ y, x = .str y ∧ y.length ≤ sizeLine ∧ Q (.str y) H1
def tFs (t : TF) : TE := fun σ H Q => t σ H Str.empty fun out H' => out.length ≤ sizeLine ∧ Q (.str out) H'
theorem pf_nil : PF X [] tfNil := fun pins s σ H acc Q I h => ⟨H, I, h⟩
theorem pf_cons {e : Expr} {es : List Expr} {te : TE} {t : TF} (he : PE X e te) (hr : PF X es t) : PF X (e :: es) (tfCons te t) := fun pins s σ H acc Q I h =>
  thn (he pins s σ H _ I h) fun v s1 ⟨x, H1, I1, r1, y, ex, hy, q⟩ => by
    subst ex
    obtain ⟨k, rfl⟩ := r1
    exact ⟨y, k, rfl, hy, hr pins s1 σ H1 (acc ++ y) Q I1 q⟩
theorem pe_fv {e : Expr} {te : TE} {pos : Pos} (he : PE X e te) : PE X (.FormattedValue e (-1) none pos) (tFv te) := fun pins s σ H Q I h =>
  wpAny_FormattedValue_plain (thn (he pins s σ H _ I h) fun v s1 ⟨x, H1, I1, r1, y, ex, hy, q⟩ => by
    subst ex
    obtain ⟨k, rfl⟩ := r1
    exact wpAny_formatField_str ⟨.str y, H1, I1, ⟨k, rfl⟩, q⟩ ⟨.str y, H1, I1.tok _, ⟨_, rfl⟩, q⟩ hy)
theorem joins_imp {M : Model} {A : Around} {E : Value → Shared → Prop} : ∀ {es : List (Sem Value)} {acc : Str} {Q Q' : Str → Shared → Prop} {s : Shared}, (∀ o s', Q o s' → Q' o s') → Joins M A E es acc Q s → Joins M A E es acc Q' s
  | [], _, _, _, _, h, j => h _ _ j
  | x :: es, acc, Q, Q', s, h, j => wpAny_mono j (fun v s1 ⟨y, k, e, hy, j'⟩ => ⟨y, k, e, hy, joins_imp h j'⟩) fun _ _ e => e
theorem pe_fstr {a b : Expr} {es : List Expr} {t : TF} {pos : Pos} (h : PF X (a :: b :: es) t) : PE X (.JoinedStr (a :: b :: es) pos) (tFs t) := fun pins s σ H Q I q =>
  wpAny_JoinedStr (joins_imp (fun o s' ⟨H', I', ho, q'⟩ => ⟨ho, .str o, H', I'.tok _, ⟨_, rfl⟩, q'⟩) (h pins s σ H _ _ I q))
end
end L2
set_option maxHeartbeats 1000000
namespace L2
open PySem PySem.Spec PyProof.Rows PySem.W
section
variable {prog : Program} {w : World} {A : Around} {E : Value → Shared → Prop} {s : Shared}
end
section
variable {X : Cx}
end
end L2
set_option maxHeartbeats 1000000
namespace L2
open PySem PySem.Spec PyProof.Rows PySem.W
section
variable {prog : Program} {w : World} {A : Around} {E : Value → Shared → Prop} {s : Shared}
end
section
variable {X : Cx}
end
end L2
set_option maxHeartbeats 1000000
namespace L2
open PySem PySem.Spec PyProof.Rows PySem.W
section
variable {X : Cx} {pins : List (Addr × Obj)} {s : Shared} {σ : St} {H : Hp} {a : Addr} {kvs : List (Str × Addr)}
end
end L2
set_option maxHeartbeats 1000000
namespace L2
open PySem PySem.Spec PyProof.Rows PySem.W
abbrev zipTT1 (h : Heap) (l1 : Addr) : Heap := h.push { cls := .type "tuple_iterator", data := .fields #[.ref l1, .int 0 0] }
abbrev zipTT2 (h : Heap) (l1 l2 : Addr) : Heap := (zipTT1 h l1).push { cls := .type "tuple_iterator", data := .fields #[.ref l2, .int 0 0] }
abbrev zipTT3 (h : Heap) (l1 l2 : Addr) : Heap := (zipTT2 h l1 l2).push { cls := .type "tuple", data := .seq #[.ref h.objs.size, .ref (zipTT1 h l1).objs.size] }
abbrev zipTT4 (h : Heap) (l1 l2 : Addr) : Heap := (zipTT3 h l1 l2).push { cls := .type "tuple", data := .seq #[.none, .none] }
abbrev zipTT5 (h : Heap) (l1 l2 : Addr) : Heap := (zipTT4 h l1 l2).push { cls := .type "zip", data := .fields #[.none, .bool false, .bool false, .ref (zipTT2 h l1 l2).objs.size, .ref (zipTT3 h l1 l2).objs.size] }
section
variable {prog : Program} {w : World} {A : Around} {E : Value → Shared → Prop} {s : Shared}
theorem zipTT_item {z TI TO i1 i2 l1 l2 : Addr} {k1 k2 : Nat} {xs ys : Array Value} {x y a b : Value} {Q : Value → Shared → Prop} (D : ZipApart z TI TO i1 i2 l1 l2) (hz : IsZip s.heap z TI TO .none) (hTI : IsPair s.heap TI (.ref i1) (.ref i2)) (hTO : IsPair s.heap TO a b)
    (h1 : s.heap.IsTupleIter i1 l1 k1) (h2 : s.heap.IsTupleIter i2 l2 k2) (hl1 : s.heap.IsTuple l1 xs) (hl2 : s.heap.IsTuple l2 ys) (hx : xs[k1]? = some x) (hy : ys[k2]? = some y)
    (hQ : ∀ h', IsZip h' z TI TO (rawInt s.heap.objs.size) → IsPair h' TO x y → h'.IsTupleIter i1 l1 (k1 + 1) → h'.IsTupleIter i2 l2 (k2 + 1) → IsPair h' s.heap.objs.size x y → (∀ c o, c ≠ z → c ≠ TO → c ≠ i1 → c ≠ i2 → s.heap.get? c = some o → h'.get? c = some o) → Q (.ref s.heap.objs.size) { s with heap := h' }) :
    wpAny (model prog w) A (Builtin.«zip.__next__» ⟨[.ref z], []⟩) (fun fin s' => ∃ v, fin = .done (.ret v) ∧ Q v s') E s := by
  show wpAny _ _ (field (.ref z) 2 >>= _) _ _ _; refine wpAny_bind (wpAny_field hz rfl (x := .bool false) rfl ?_)
  show wpAny _ _ (field (.ref z) 3 >>= _) _ _ _; refine wpAny_bind (wpAny_field hz rfl (x := .ref TI) rfl ?_); refine wpAny_bind (wpAny_seqItems hTI rfl ?_)
  show wpAny _ _ (Builtin.SmallTypes.ownedTupleIsFree (.ref z) >>= _) _ _ _; refine wpAny_bind ?_; unfold Builtin.SmallTypes.ownedTupleIsFree
  refine wpAny_bind (wpAny_field hz rfl (x := .none) rfl (wpAny_pure ?_)); simp only [if_true]; refine wpAny_bind (wpAny_rule ?_)
  refine wpAny_bind (wpAny_field hz rfl (x := .ref TO) rfl ?_); refine wpAny_bind (wpAny_setField_rec hz (by simp) fun g1 z1 c1 => ?_)
  replace z1 : IsZip g1 z TI TO .ellipsis := z1
  refine wpAny_bind ?_; simp only [List.zipIdx_cons, List.zipIdx_nil, List.forIn_cons, List.forIn_nil]; refine wpAny_bind (wpAny_bind (wpAny_onRaise ?_))
  show wpAny _ _ (Builtin.SmallTypes.nextOf (.ref i1) >>= _) _ _ _; refine wpAny_bind (nextOf_tup_item (h1.extBut c1.extBut D.i1z) (hl1.extBut c1.extBut D.l1z) hx fun g2 it2 c2 => wpAny_pure ?_)
  have t2 : IsPair g2 TO a b := c2.extBut _ _ D.TOi1 (c1.extBut _ _ D.TOz hTO)
  refine wpAny_bind (wpAny_seqItems t2 rfl ?_); refine wpAny_bind (wpAny_updateSeq_pair t2 fun g3 t3 c3 => ?_)
  replace t3 : IsPair g3 TO x b := t3
  refine wpAny_bind (wpAny_letGo (wpAny_pure ?_)); refine wpAny_bind (wpAny_bind (wpAny_onRaise ?_))
  show wpAny _ _ (Builtin.SmallTypes.nextOf (.ref i2) >>= _) _ _ _; refine wpAny_bind (nextOf_tup_item (((h2.extBut c1.extBut D.i2z).extBut c2.extBut D.i12.symm).extBut c3.extBut D.TOi2.symm) (((hl2.extBut c1.extBut D.l2z).extBut c2.extBut D.l2i1).extBut c3.extBut D.l2TO) hy fun g4 it4 c4 => wpAny_pure ?_)
  have t4 : IsPair g4 TO x b := c4.extBut _ _ D.TOi2 t3
  refine wpAny_bind (wpAny_seqItems t4 rfl ?_); refine wpAny_bind (wpAny_updateSeq_pair t4 fun g5 t5 c5 => ?_)
  replace t5 : IsPair g5 TO x y := t5
  refine wpAny_bind (wpAny_letGo (wpAny_pure (wpAny_pure ?_))); refine wpAny_bind (wpAny_seqItems t5 rfl ?_); refine wpAny_bind (wpAny_newTuple ?_)
  have sz : g5.objs.size = s.heap.objs.size := by rw [c5.1, c4.1, c3.1, c2.1, c1.1]
  have z5 : IsZip g5 z TI TO .ellipsis := c5.extBut _ _ D.TOz.symm (c4.extBut _ _ D.i2z.symm (c3.extBut _ _ D.TOz.symm (c2.extBut _ _ D.i1z.symm z1)))
  have k5 : ∀ c o, c ≠ z → c ≠ TO → c ≠ i1 → c ≠ i2 → s.heap.get? c = some o → g5.get? c = some o := fun c o d1 d2 d3 d4 e => c5.extBut _ _ d2 (c4.extBut _ _ d4 (c3.extBut _ _ d2 (c2.extBut _ _ d3 (c1.extBut _ _ d1 e))))
  have j1 : g5.IsTupleIter i1 l1 (k1 + 1) := ((it2.extBut c3.extBut D.TOi1.symm).extBut c4.extBut D.i12).extBut c5.extBut D.TOi1.symm
  have j2 : g5.IsTupleIter i2 l2 (k2 + 1) := it4.extBut c5.extBut D.TOi2.symm
  have zlt : z < g5.objs.size := Heap.lt_size z5
  show wpAny _ _ (Builtin.SmallTypes.ownedTupleHandOut (.ref z) (.ref g5.objs.size) >>= _) _ _ _; refine wpAny_bind ?_; unfold Builtin.SmallTypes.ownedTupleHandOut
  have z6 : IsZip (g5.push { cls := .type "tuple", data := .seq #[x, y] }) z TI TO .ellipsis := Heap.get?_push_of_some _ z5
  refine wpAny_bind (wpAny_setField_rec z6 (by simp) fun g7 z7 c7 => ?_)
  replace z7 : IsZip g7 z TI TO (rawInt g5.objs.size) := z7
  refine wpAny_setField_rec z7 (by simp) fun g8 z8 c8 => ?_
  replace z8 : IsZip g8 z TI TO (rawInt g5.objs.size) := z8
  have up : ∀ c o, c ≠ z → g5.get? c = some o → g8.get? c = some o := fun c o d1 e => c8.extBut _ _ d1 (c7.extBut _ _ d1 (Heap.get?_push_of_some _ e))
  have p8 : IsPair g8 g5.objs.size x y := c8.extBut _ _ (Nat.ne_of_gt zlt) (c7.extBut _ _ (Nat.ne_of_gt zlt) (Heap.get?_push_size _ rfl))
  rw [sz] at z8 p8
  refine wpAny_pure ⟨_, rfl, ?_⟩
  show Q (.ref g5.objs.size) _; rw [sz]
  exact hQ g8 z8 (up _ _ D.TOz t5) (j1.at fun o e => up _ o D.i1z e) (j2.at fun o e => up _ o D.i2z e) p8 fun c o d1 d2 d3 d4 e => up c o d1 (k5 c o d1 d2 d3 d4 e)
theorem zipTT_end {z TI TO i1 i2 l1 l2 : Addr} {k1 k2 : Nat} {xs ys : Array Value} {a b : Value} {Q : Fin → Shared → Prop} (hh : A.handled = none) (D : ZipApart z TI TO i1 i2 l1 l2) (hz : IsZip s.heap z TI TO .none) (hTI : IsPair s.heap TI (.ref i1) (.ref i2)) (hTO : IsPair s.heap TO a b)
    (h1 : s.heap.IsTupleIter i1 l1 k1) (h2 : s.heap.IsTupleIter i2 l2 k2) (hl1 : s.heap.IsTuple l1 xs) (hl2 : s.heap.IsTuple l2 ys) (hend : xs[k1]? = none ∨ ys[k2]? = none)
    (hE : ∀ h' e, (∀ c o, c ≠ z → c ≠ TO → c ≠ i1 → c ≠ i2 → s.heap.get? c = some o → h'.get? c = some o) → (∃ o, h'.get? e = some o ∧ o.cls = .type "StopIteration") → E (.ref e) { s with heap := h' }) : wpAny (model prog w) A (Builtin.«zip.__next__» ⟨[.ref z], []⟩) Q E s := by
  show wpAny _ _ (field (.ref z) 2 >>= _) _ _ _; refine wpAny_bind (wpAny_field hz rfl (x := .bool false) rfl ?_)
  show wpAny _ _ (field (.ref z) 3 >>= _) _ _ _; refine wpAny_bind (wpAny_field hz rfl (x := .ref TI) rfl ?_); refine wpAny_bind (wpAny_seqItems hTI rfl ?_)
  show wpAny _ _ (Builtin.SmallTypes.ownedTupleIsFree (.ref z) >>= _) _ _ _; refine wpAny_bind ?_; unfold Builtin.SmallTypes.ownedTupleIsFree
  refine wpAny_bind (wpAny_field hz rfl (x := .none) rfl (wpAny_pure ?_)); simp only [if_true]; refine wpAny_bind (wpAny_rule ?_)
  refine wpAny_bind (wpAny_field hz rfl (x := .ref TO) rfl ?_); refine wpAny_bind (wpAny_setField_rec hz (by simp) fun g1 z1 c1 => ?_)
  replace z1 : IsZip g1 z TI TO .ellipsis := z1
  refine wpAny_bind ?_; simp only [List.zipIdx_cons, List.zipIdx_nil, List.forIn_cons, List.forIn_nil]; refine wpAny_bind (wpAny_bind (wpAny_onRaise ?_))
  show wpAny _ _ (Builtin.SmallTypes.nextOf (.ref i1) >>= _) _ _ _
  cases hx : xs[k1]? with
  | none =>
    refine wpAny_bind (nextOf_tup_end hh (h1.extBut c1.extBut D.i1z) (hl1.extBut c1.extBut D.l1z) hx fun g2 e c2 ⟨oe, hoe, hce⟩ => ?_)
    have z2 : IsZip g2 z TI TO .ellipsis := c2 _ _ D.i1z.symm z1
    have ez : e ≠ z := fun q => by subst q; rw [z2] at hoe; cases hoe; simp at hce
    exact wpAny_setField_rec z2 (by simp) fun g3 _ c3 => hE g3 e (fun c o d1 _ d3 _ q => c3.extBut _ _ d1 (c2 _ _ d3 (c1.extBut _ _ d1 q))) ⟨oe, c3.extBut _ _ ez hoe, hce⟩
  | some x =>
    have hy : ys[k2]? = none := hend.resolve_left (by rw [hx]; exact nofun)
    refine wpAny_bind (nextOf_tup_item (h1.extBut c1.extBut D.i1z) (hl1.extBut c1.extBut D.l1z) hx fun g2 it2 c2 => wpAny_pure ?_)
    have t2 : IsPair g2 TO a b := c2.extBut _ _ D.TOi1 (c1.extBut _ _ D.TOz hTO)
    refine wpAny_bind (wpAny_seqItems t2 rfl ?_); refine wpAny_bind (wpAny_updateSeq_pair t2 fun g3 t3 c3 => ?_)
    refine wpAny_bind (wpAny_letGo (wpAny_pure ?_)); refine wpAny_bind (wpAny_bind (wpAny_onRaise ?_))
    show wpAny _ _ (Builtin.SmallTypes.nextOf (.ref i2) >>= _) _ _ _; refine wpAny_bind (nextOf_tup_end hh (((h2.extBut c1.extBut D.i2z).extBut c2.extBut D.i12.symm).extBut c3.extBut D.TOi2.symm) (((hl2.extBut c1.extBut D.l2z).extBut c2.extBut D.l2i1).extBut c3.extBut D.l2TO) hy fun g4 e c4 ⟨oe, hoe, hce⟩ => ?_)
    have z4 : IsZip g4 z TI TO .ellipsis := c4 _ _ D.i2z.symm (c3.extBut _ _ D.TOz.symm (c2.extBut _ _ D.i1z.symm z1))
    have ez : e ≠ z := fun q => by subst q; rw [z4] at hoe; cases hoe; simp at hce
    exact wpAny_setField_rec z4 (by simp) fun g5 _ c5 => hE g5 e (fun c o d1 d2 d3 d4 q => c5.extBut _ _ d1 (c4 _ _ d4 (c3.extBut _ _ d2 (c2.extBut _ _ d3 (c1.extBut _ _ d1 q))))) ⟨oe, c5.extBut _ _ ez hoe, hce⟩
theorem nextTT_item {z TI TO i1 i2 l1 l2 : Addr} {k1 k2 : Nat} {xs ys : Array Value} {x y a b : Value} {Q : Option Value → Shared → Prop} (D : ZipApart z TI TO i1 i2 l1 l2) (hz : IsZip s.heap z TI TO .none) (hTI : IsPair s.heap TI (.ref i1) (.ref i2)) (hTO : IsPair s.heap TO a b)
    (h1 : s.heap.IsTupleIter i1 l1 k1) (h2 : s.heap.IsTupleIter i2 l2 k2) (hl1 : s.heap.IsTuple l1 xs) (hl2 : s.heap.IsTuple l2 ys) (hx : xs[k1]? = some x) (hy : ys[k2]? = some y)
    (hQ : ∀ h', IsZip h' z TI TO (rawInt s.heap.objs.size) → IsPair h' TO x y → h'.IsTupleIter i1 l1 (k1 + 1) → h'.IsTupleIter i2 l2 (k2 + 1) → IsPair h' s.heap.objs.size x y → (∀ c o, c ≠ z → c ≠ TO → c ≠ i1 → c ≠ i2 → s.heap.get? c = some o → h'.get? c = some o) → Q (some (.ref s.heap.objs.size)) { s with heap := h' }) :
    wpAny (model prog w) A (pyNext (.ref z)) Q E s := by
  have hT : s.TypeIs (.ref z) "zip" := ⟨_, hz, rfl⟩; unfold pyNext
  exact wpAny_bind (wpAny_attempt (wpAny_callSpecial?_slot (name := Str.ofString "__next__") hT F.slot_zip_next (wpAny_call_entry F.slot_zip_next hT F.entry_zip_next (zipTT_item D hz hTI hTO h1 h2 hl1 hl2 hx hy fun h' a1 a2 a3 a4 a5 a6 => wpAny_pure (hQ h' a1 a2 a3 a4 a5 a6)) (F.args_zip_next_1 _))))
theorem nextTT_end {z TI TO i1 i2 l1 l2 : Addr} {k1 k2 : Nat} {xs ys : Array Value} {a b : Value} {Q : Option Value → Shared → Prop} (hh : A.handled = none) (D : ZipApart z TI TO i1 i2 l1 l2) (hz : IsZip s.heap z TI TO .none) (hTI : IsPair s.heap TI (.ref i1) (.ref i2)) (hTO : IsPair s.heap TO a b)
    (h1 : s.heap.IsTupleIter i1 l1 k1) (h2 : s.heap.IsTupleIter i2 l2 k2) (hl1 : s.heap.IsTuple l1 xs) (hl2 : s.heap.IsTuple l2 ys) (hend : xs[k1]? = none ∨ ys[k2]? = none)
    (hQ : ∀ h', (∀ c o, c ≠ z → c ≠ TO → c ≠ i1 → c ≠ i2 → s.heap.get? c = some o → h'.get? c = some o) → Q none { s with heap := h' }) : wpAny (model prog w) A (pyNext (.ref z)) Q E s := by
  have hT : s.TypeIs (.ref z) "zip" := ⟨_, hz, rfl⟩; unfold pyNext
  refine wpAny_bind (wpAny_attempt (wpAny_callSpecial?_slot (name := Str.ofString "__next__") hT F.slot_zip_next (wpAny_call_entry F.slot_zip_next hT F.entry_zip_next (zipTT_end hh D hz hTI hTO h1 h2 hl1 hl2 hend fun h' e hk ⟨o, ho, hc⟩ => ?_) (F.args_zip_next_1 _))))
  exact wpAny_bind (wpAny_isInstance (T := "StopIteration") (b := true) ⟨o, ho, hc⟩ isSubtype_stop (wpAny_pure (hQ _ hk)))
theorem meets_zipTT (l1 l2 : Addr) (xs ys : Array Value) (n n' : Nat) (dct dct' : Option Addr) (slt slt' : Array (Option Value)) :
    Meets (Builtin.«zip.__new__» ⟨[.type "zip", .ref l1, .ref l2], []⟩) (fun _ R s => s.heap.get? l1 = some { cls := .type "tuple", dict := dct', data := .seq xs n', slots := slt' } ∧ s.heap.get? l2 = some { cls := .type "tuple", dict := dct, data := .seq ys n, slots := slt } ∧
      R (.ok (.ret (.ref (zipTT4 s.heap l1 l2).objs.size))) { s with heap := zipTT5 s.heap l1 l2 }) :=
  .of_wp fun prog w A R s h => by
    obtain ⟨hp, g, d, tk, os⟩ := s; obtain ⟨hl1, hl2, h⟩ := h
    have hsub := sub_zip
    have hL1 : Heap.IsTuple (Shared.heap ⟨hp, g, d, tk, os⟩) l1 xs := ⟨_, hl1, rfl, n', rfl⟩
    have hl2' : (hp.push { cls := .type "tuple_iterator", data := .fields #[.ref l1, .int 0 0] }).get? l2 = some { cls := .type "tuple", dict := dct, data := .seq ys n, slots := slt } := Heap.get?_push_of_some _ hl2
    have hL2 : Heap.IsTuple (Shared.heap ⟨hp.push { cls := .type "tuple_iterator", data := .fields #[.ref l1, .int 0 0] }, g, d, tk, os⟩) l2 ys := ⟨_, hl2', rfl, n, rfl⟩
    wp_walk using wpAny_pyIter_tuple hL1, wpAny_pyIter_tuple hL2, AutoSeq1.wpAny_loadPart' hl1, AutoSeq1.wpAny_loadPart' hl2'
    exact ⟨_, rfl, h⟩
theorem call_zipTT {l1 l2 : Addr} {xs ys : Array Value} {Q : Value → Shared → Prop} (hl1 : s.heap.IsTuple l1 xs) (hl2 : s.heap.IsTuple l2 ys)
    (h : ∀ h', IsZip h' (s.heap.objs.size + 4) (s.heap.objs.size + 2) (s.heap.objs.size + 3) .none → IsPair h' (s.heap.objs.size + 2) (.ref s.heap.objs.size) (.ref (s.heap.objs.size + 1)) → IsPair h' (s.heap.objs.size + 3) .none .none → h'.IsTupleIter s.heap.objs.size l1 0 → h'.IsTupleIter (s.heap.objs.size + 1) l2 0 →
      (∀ c o, s.heap.get? c = some o → h'.get? c = some o) → Q (.ref (s.heap.objs.size + 4)) { s with heap := h' }) : wpAny (model prog w) A (call (.type "zip") [.ref l1, .ref l2]) Q E s := by
  obtain ⟨⟨c, dct, dt, sl⟩, hl, hc, n, hd⟩ := hl2
  replace hc : c = .type "tuple" := hc
  replace hd : dt = .seq ys n := hd
  subst hc hd
  obtain ⟨⟨c', dct', dt', sl'⟩, hl', hc', n', hd'⟩ := hl1
  replace hc' : c' = .type "tuple" := hc'
  replace hd' : dt' = .seq xs n' := hd'
  subst hc' hd'
  refine callType_new F.called_zip (by decide) (F.typeCall_zip_2 _ _) (F.newCall_zip_2 _ _) (fun obj => F.args_object_init_3 obj _ _) F.entry_zip_new (meets_zipTT l1 l2 xs ys n n' dct dct' sl sl') ⟨hl', hl, ?_⟩
  have y1 : (zipTT1 s.heap l1).objs.size = s.heap.objs.size + 1 := Heap.size_push ..
  have y2 : (zipTT2 s.heap l1 l2).objs.size = s.heap.objs.size + 2 := by rw [Heap.size_push, y1]
  have y3 : (zipTT3 s.heap l1 l2).objs.size = s.heap.objs.size + 3 := by rw [Heap.size_push, y2]
  have y4 : (zipTT4 s.heap l1 l2).objs.size = s.heap.objs.size + 4 := by rw [Heap.size_push, y3]
  have up : ∀ {h : Heap} {o : Obj} {c : Addr} {p : Obj}, h.get? c = some p → (h.push o).get? c = some p := fun q => Heap.get?_push_of_some _ q
  have v5 : (zipTT5 s.heap l1 l2).get? (zipTT4 s.heap l1 l2).objs.size = some _ := Heap.get?_push_size _ rfl
  have v4 : (zipTT5 s.heap l1 l2).get? (zipTT3 s.heap l1 l2).objs.size = some _ := up (Heap.get?_push_size _ rfl)
  have v3 : (zipTT5 s.heap l1 l2).get? (zipTT2 s.heap l1 l2).objs.size = some _ := up (up (Heap.get?_push_size _ rfl))
  have v2 : (zipTT5 s.heap l1 l2).get? (zipTT1 s.heap l1).objs.size = some _ := up (up (up (Heap.get?_push_size _ rfl)))
  have v1 : (zipTT5 s.heap l1 l2).get? s.heap.objs.size = some _ := up (up (up (up (Heap.get?_push_size _ rfl))))
  show _ ∧ _
  rw [y2, y3, y4] at v5
  rw [y1, y2] at v3
  rw [y3] at v4
  rw [y1] at v2
  rw [y4]
  exact ⟨⟨_, v5, rfl⟩, h _ v5 v3 v4 ⟨_, v1, rfl, rfl⟩ ⟨_, v2, rfl, rfl⟩ fun c o q => up (up (up (up (up q))))⟩
end
def Itztt (K : PySem.W.Frag) (a b : Addr) : It :=
  ⟨fun i H => ∃ xs ys x y, SqT K H a xs ∧ SqT K H b ys ∧ xs[i]? = some x ∧ ys[i]? = some y, fun i H z H' => ∃ p x y, H p = none ∧ H' = upd H p (.tup [x, y]) ∧ z = .ref p ∧ (∀ xs, SqT K H a xs → xs[i]? = some x) ∧ ∀ ys, SqT K H b ys → ys[i]? = some y,
   fun i H => ∃ xs ys, SqT K H a xs ∧ SqT K H b ys ∧ (xs.length ≤ i ∨ ys.length ≤ i)⟩
theorem turn_zipTT {P : Program} {w : World} {K : PySem.W.Frag} {elts : List Expr} {x1} {tp : Pos} (a b z TI TO i1 i2 : Addr) (D1 : TI ≠ z ∧ TO ≠ z ∧ i1 ≠ z ∧ i2 ≠ z ∧ TI ≠ TO ∧ TI ≠ i1 ∧ TI ≠ i2 ∧ TO ≠ i1 ∧ TO ≠ i2 ∧ i1 ≠ i2) (D2 : a ≠ TO ∧ b ≠ TO) :
    Turn P w K (.Tuple elts x1 tp) (Itztt K a b) [z, TI, TO, i1, i2] z (fun i h => IsZip h z TI TO .none ∧ IsPair h TI (.ref i1) (.ref i2) ∧ (∃ u v, IsPair h TO u v) ∧ h.IsTupleIter i1 a i ∧ h.IsTupleIter i2 b i) where
  mem := by simp
  obj := fun i h st c hc => by
    obtain ⟨hz, hTI, ⟨u, v, hTO⟩, ⟨o1, e1, c1, d1⟩, ⟨o2, e2, c2, d2⟩⟩ := st
    simp only [List.mem_cons, List.not_mem_nil, or_false] at hc
    rcases hc with rfl | rfl | rfl | rfl | rfl
    · exact ⟨_, hz, fun v z => by
        have z' : Data.fields _ = Data.cell v := z
        cases z'⟩
    · exact ⟨_, hTI, fun v z => by
        have z' : Data.seq _ _ = Data.cell v := z
        cases z'⟩
    · exact ⟨_, hTO, fun v z => by
        have z' : Data.seq _ _ = Data.cell v := z
        cases z'⟩
    · exact ⟨o1, e1, fun v z => by rw [d1] at z; cases z⟩
    · exact ⟨o2, e2, fun v z => by rw [d2] at z; cases z⟩
  keep := fun i h h' st k => by
    obtain ⟨hz, hTI, ⟨u, v, hTO⟩, h1, h2⟩ := st
    exact ⟨k z (by simp) _ hz, k TI (by simp) _ hTI, ⟨u, v, k TO (by simp) _ hTO⟩, h1.at fun o e => k i1 (by simp) o e, h2.at fun o e => k i2 (by simp) o e⟩
  item := by
    intro X hP hw hK hc i pins s σ H E I hf st hg
    subst hP hw hK
    obtain ⟨xs, ys, x, y, hq1, hq2, hx, hy⟩ := hg
    obtain ⟨its1, rv1, p1, _⟩ := I.tuple hq1
    obtain ⟨its2, rv2, p2, _⟩ := I.tuple hq2
    obtain ⟨u1, hu1, ru1⟩ := rv1.get hx
    obtain ⟨u2, hu2, ru2⟩ := rv2.get hy
    obtain ⟨hz, hTI, ⟨u, v, hTO⟩, h1, h2⟩ := st
    obtain ⟨d1, d2, d3, d4, d5, d6, d7, d8, d9, d10⟩ := D1
    have L1 : s.heap.IsTuple a its1.toArray := p1
    have L2 : s.heap.IsTuple b its2.toArray := p2
    have D : ZipApart z TI TO i1 i2 a b := by
      obtain ⟨o1, e1, c1, _⟩ := id L1
      obtain ⟨o2, e2, c2, _⟩ := id L2
      obtain ⟨o3, e3, c3, _⟩ := id h1
      obtain ⟨o4, e4, c4, _⟩ := id h2
      exact ⟨d1, d2, d3, d4, d5, d6, d7, d8, d9, d10, ne_cls e1 hz (by rw [c1]; exact fun z => absurd (Value.type.inj z) (by decide)), D2.1, ne_cls e1 e3 (by rw [c1, c3]; exact fun z => absurd (Value.type.inj z) (by decide)), ne_cls e1 e4 (by rw [c1, c4]; exact fun z => absurd (Value.type.inj z) (by decide)),
        ne_cls e2 hz (by rw [c2]; exact fun z => absurd (Value.type.inj z) (by decide)), D2.2, ne_cls e2 e3 (by rw [c2, c3]; exact fun z => absurd (Value.type.inj z) (by decide)), ne_cls e2 e4 (by rw [c2, c4]; exact fun z => absurd (Value.type.inj z) (by decide))⟩
    refine nextTT_item D hz hTI hTO h1 h2 L1 L2 (x := u1) (y := u2) (by simpa using hu1) (by simpa using hu2) fun h3 a1 a2 a3 a4 a5 hk => ?_
    refine ⟨_, rfl, wpAny_letOwnedTupleGo_zip a1 fun h4 hz4 hs4 => ?_⟩
    have hzl : z < s.heap.objs.size := Heap.lt_size hz
    have hn : H s.heap.objs.size = none := I.hok.fresh (Nat.le_refl _)
    have keep : ∀ c o, c ≠ z → c ≠ TO → c ≠ i1 → c ≠ i2 → s.heap.get? c = some o → h4.get? c = some o := fun c o c1 c2 c3 c4 q => (hs4.2 c c1).trans (hk c o c1 c2 c3 c4 q)
    have tup : h4.get? s.heap.objs.size = some { cls := .type "tuple", data := .seq #[u1, u2] } := (hs4.2 _ (ngt hzl)).trans a5
    have fpn : ∀ c ∈ [z, TI, TO, i1, i2], H c = none := fun c hc => (hf c hc).1
    have nit : ∀ c v, H c = some v → c ≠ z ∧ c ≠ TO ∧ c ≠ i1 ∧ c ≠ i2 := fun c v q => ⟨(fun e => by rw [e, fpn z (by simp)] at q; cases q), (fun e => by rw [e, fpn TO (by simp)] at q; cases q), (fun e => by rw [e, fpn i1 (by simp)] at q; cases q), (fun e => by rw [e, fpn i2 (by simp)] at q; cases q)⟩
    have kch : ∀ c o, c ∉ [z, TO, i1, i2] → s.heap.get? c = some o → h4.get? c = some o := fun c o hc q => keep c o (fun e => hc (by simp [e])) (fun e => hc (by simp [e])) (fun e => hc (by simp [e])) (fun e => hc (by simp [e])) q
    have I2 : Inv X pins σ (upd H s.heap.objs.size (.tup [x, y])) { s with heap := h4, toks := s.toks } := by
      refine I.step (g' := s.gens) (d' := s.drawn) (ch := [z, TO, i1, i2]) (fun c hc => ?_) (fun c o _ _ hc' q _ => kch c o hc' q) (fun c o _ _ hc' q _ => ⟨o.slots, kch c o hc' q⟩) (fun c o _ q n => by rw [upd_ne (nlt (Heap.lt_size q))]; exact n) (fun c o hc' q => ⟨o, kch c o hc' q⟩)
        (fun c xs q => by rw [upd_ne (ne_of_none q hn)]; exact q) (fun c o v q => by rw [upd_ne (ne_of_none q hn)]; exact q) (fun c ps q => ⟨#[], by rw [upd_ne (ne_of_none q hn), q]; simp⟩) (fun m hm => ?_) (fun c v q => ?_) I.bare
      · have hc' : c ∈ [z, TI, TO, i1, i2] := by
          simp only [List.mem_cons, List.not_mem_nil, or_false] at hc ⊢
          rcases hc with e | e | e | e <;> simp [e]
        obtain ⟨f0, f1, f2, f3, f4, f5⟩ := hf c hc'
        exact ⟨f3, f1, f4, f5⟩
      · obtain ⟨o, es, ep, ho, r⟩ := hm
        exact ⟨o, es, ep, keep _ o (Ne.symm (hf z (by simp)).2.1) (Ne.symm (hf TO (by simp)).2.1) (Ne.symm (hf i1 (by simp)).2.1) (Ne.symm (hf i2 (by simp)).2.1) ho, r⟩
      · by_cases hb : c = s.heap.objs.size
        · subst hb
          rw [upd_same] at q
          cases q
          exact ⟨(show 2 ≤ sizeLine by rw [sizeLine_eq]; decide), [u1, u2], .cons ru1 (.cons ru2 .nil), ⟨_, tup, rfl, 0, rfl⟩, _, tup, rfl⟩
        · rw [upd_ne hb] at q
          refine (I.hok c v q).stay (fun c' w' hc' q' => ?_) (fun c' q' => by rw [upd_ne (ne_of_none q' hn)]; exact q') fun c' xs q' => by rw [upd_ne (ne_of_none q' hn)]; exact q'
          rcases hc' with e | e
          · subst e; obtain ⟨n1, n2, n3, n4⟩ := nit c' v q; exact keep c' w' n1 n2 n3 n4 q'
          · obtain ⟨n1, n2, n3, n4⟩ := nit c' _ e; exact keep c' w' n1 n2 n3 n4 q'
    refine ⟨.ref s.heap.objs.size, _, I2, rfl, ⟨_, x, y, hn, rfl, rfl, fun xs' h' => by rw [I.tuple_inj h' hq1]; exact hx, fun ys' h' => by rw [I.tuple_inj h' hq2]; exact hy⟩, ?_, fun c hc => ?_⟩
    · exact ⟨hz4, hs4.extBut _ _ d1 (hk TI _ d1 d5 d6 d7 hTI), ⟨_, _, hs4.extBut _ _ d2 a2⟩, a3.at fun o e => hs4.extBut _ _ d3 e, a4.at fun o e => hs4.extBut _ _ d4 e⟩
    · have hb' : c < s.heap.objs.size := by
        simp only [List.mem_cons, List.not_mem_nil, or_false] at hc
        obtain ⟨o3, e3, _⟩ := h1
        obtain ⟨o4, e4, _⟩ := h2
        rcases hc with e | e | e | e | e
        · rw [e]; exact hzl
        · rw [e]; exact Heap.lt_size hTI
        · rw [e]; exact Heap.lt_size hTO
        · rw [e]; exact Heap.lt_size e3
        · rw [e]; exact Heap.lt_size e4
      rw [upd_ne (nlt hb')]
      exact fpn c hc
  done := by
    intro X hP hw hK hc i pins s σ H E I hf st hg
    subst hP hw hK
    obtain ⟨xs, ys, hq1, hq2, hend⟩ := hg
    obtain ⟨its1, rv1, p1, _⟩ := I.tuple hq1
    obtain ⟨its2, rv2, p2, _⟩ := I.tuple hq2
    obtain ⟨hz, hTI, ⟨u, v, hTO⟩, h1, h2⟩ := st
    obtain ⟨d1, d2, d3, d4, d5, d6, d7, d8, d9, d10⟩ := D1
    have L1 : s.heap.IsTuple a its1.toArray := p1
    have L2 : s.heap.IsTuple b its2.toArray := p2
    have D : ZipApart z TI TO i1 i2 a b := by
      obtain ⟨o1, e1, c1, _⟩ := id L1
      obtain ⟨o2, e2, c2, _⟩ := id L2
      obtain ⟨o3, e3, c3, _⟩ := id h1
      obtain ⟨o4, e4, c4, _⟩ := id h2
      exact ⟨d1, d2, d3, d4, d5, d6, d7, d8, d9, d10, ne_cls e1 hz (by rw [c1]; exact fun z => absurd (Value.type.inj z) (by decide)), D2.1, ne_cls e1 e3 (by rw [c1, c3]; exact fun z => absurd (Value.type.inj z) (by decide)), ne_cls e1 e4 (by rw [c1, c4]; exact fun z => absurd (Value.type.inj z) (by decide)),
        ne_cls e2 hz (by rw [c2]; exact fun z => absurd (Value.type.inj z) (by decide)), D2.2, ne_cls e2 e3 (by rw [c2, c3]; exact fun z => absurd (Value.type.inj z) (by decide)), ne_cls e2 e4 (by rw [c2, c4]; exact fun z => absurd (Value.type.inj z) (by decide))⟩
    have l1 := rv1.length
    have l2 := rv2.length
    have fpn : ∀ c ∈ [z, TI, TO, i1, i2], H c = none := fun c hc => (hf c hc).1
    refine nextTT_end (I.ok.hd hc) D hz hTI hTO h1 h2 L1 L2 (hend.imp (fun h => by simp; omega) fun h => by simp; omega) fun h4 hk => ⟨rfl, ?_⟩
    have nit : ∀ c v, H c = some v → c ≠ z ∧ c ≠ TO ∧ c ≠ i1 ∧ c ≠ i2 := fun c v q => ⟨(fun e => by rw [e, fpn z (by simp)] at q; cases q), (fun e => by rw [e, fpn TO (by simp)] at q; cases q), (fun e => by rw [e, fpn i1 (by simp)] at q; cases q), (fun e => by rw [e, fpn i2 (by simp)] at q; cases q)⟩
    have kch : ∀ c o, c ∉ [z, TO, i1, i2] → s.heap.get? c = some o → h4.get? c = some o := fun c o hc q => hk c o (fun e => hc (by simp [e])) (fun e => hc (by simp [e])) (fun e => hc (by simp [e])) (fun e => hc (by simp [e])) q
    refine I.step (t' := s.toks) (g' := s.gens) (d' := s.drawn) (ch := [z, TO, i1, i2]) (fun c hc => ?_) (fun c o _ _ hc' q _ => kch c o hc' q) (fun c o _ _ hc' q _ => ⟨o.slots, kch c o hc' q⟩) (fun c o _ q n => n) (fun c o hc' q => ⟨o, kch c o hc' q⟩)
      (fun c xs q => q) (fun c o v q => q) (fun c ps q => ⟨#[], by rw [q]; simp⟩) (fun m hm => ?_) (fun c v q => ?_) I.bare
    · have hc' : c ∈ [z, TI, TO, i1, i2] := by
        simp only [List.mem_cons, List.not_mem_nil, or_false] at hc ⊢
        rcases hc with e | e | e | e <;> simp [e]
      obtain ⟨f0, f1, f2, f3, f4, f5⟩ := hf c hc'
      exact ⟨f3, f1, f4, f5⟩
    · obtain ⟨o, es, ep, ho, r⟩ := hm
      exact ⟨o, es, ep, hk _ o (Ne.symm (hf z (by simp)).2.1) (Ne.symm (hf TO (by simp)).2.1) (Ne.symm (hf i1 (by simp)).2.1) (Ne.symm (hf i2 (by simp)).2.1) ho, r⟩
    · refine (I.hok c v q).stay (fun c' w' hc' q' => ?_) (fun c' q' => q') fun c' xs q' => q'
      rcases hc' with e | e
      · subst e; obtain ⟨n1, n2, n3, n4⟩ := nit c' v q; exact hk c' w' n1 n2 n3 n4 q'
      · obtain ⟨n1, n2, n3, n4⟩ := nit c' _ e; exact hk c' w' n1 n2 n3 n4 q'
  self := fun A i s Q E st h => wpAny_pyIter_zip st.1 h
theorem tup_lt {h : Heap} {a : Addr} {its : Array Value} (p : IsTup h a its) : a < h.objs.size := by
  obtain ⟨o, e, _⟩ := p
  exact Heap.lt_size e
section
variable {X : Cx}
def iZipTT (K : PySem.W.Frag) (ta : TA) : TI := fun σ H R => ta σ H fun vs H1 => ∃ a b, vs = [.ref a, .ref b] ∧ (∃ xs, SqT K H1 a xs) ∧ (∃ ys, SqT K H1 b ys) ∧ R (Itztt K a b) H1
theorem pi_zipTT {a b : Expr} {ta : TA} {p pos : Pos} {elts : List Expr} {x1} {tp : Pos} (hg : Gl X "zip") (hm : X.mg "zip" = none) (ha : PA X [a, b] ta) (hs : starEach [a, b] X.env = (false, eval a X.env) :: starEach [b] X.env := by rfl) (hpl : (backTo pos (starEach [b] X.env)).any (·.1) = false := by rfl) :
    PI X (.Tuple elts x1 tp) (.Call (.Name "zip" p) [a, b] [] pos) (iZipTT X.K ta) := by
  intro pins s σ H R I h
  refine Call_ (ld_blt I hg hm (u := .type "zip") (by decide +kernel) (PyProof.Rows.callWith_type1 (thn (ha pos pins s σ H _ I h) fun us s1 ⟨vs, H1, I1, r1, q1⟩ => ?_) hs hpl))
  obtain ⟨l, m, e, ⟨xs, hq1⟩, ⟨ys, hq2⟩, q⟩ := q1
  subst e
  obtain ⟨u, w', rfl, ru, rw'⟩ := vals2 r1
  cases ru
  cases rw'
  obtain ⟨its1, rv1, p1, _⟩ := I1.tuple hq1
  obtain ⟨its2, rv2, p2, _⟩ := I1.tuple hq2
  refine call_zipTT p1 p2 fun h' hz hTI hTO hi1 hi2 kp => ?_
  have I2 : Inv X pins σ H1 { s1 with heap := h' } := I1.kept (t' := s1.toks) kp
  have add : ∀ (n i j : Nat), i ≠ j → n + i ≠ n + j := fun n i j h z => h (Nat.add_left_cancel z)
  have T : Turn X.prog X.w X.K (.Tuple elts x1 tp) (Itztt X.K l m) [s1.heap.objs.size + 4, s1.heap.objs.size + 2, s1.heap.objs.size + 3, s1.heap.objs.size, s1.heap.objs.size + 1] (s1.heap.objs.size + 4) _ :=
    turn_zipTT l m (s1.heap.objs.size + 4) (s1.heap.objs.size + 2) (s1.heap.objs.size + 3) s1.heap.objs.size (s1.heap.objs.size + 1)
      ⟨add _ 2 4 (by decide), add _ 3 4 (by decide), add _ 0 4 (by decide), add _ 1 4 (by decide), add _ 2 3 (by decide), add _ 2 0 (by decide), add _ 2 1 (by decide), add _ 3 0 (by decide), add _ 3 1 (by decide), add _ 0 1 (by decide)⟩ ⟨Nat.ne_of_lt (Nat.lt_add_right 3 (tup_lt p1)), Nat.ne_of_lt (Nat.lt_add_right 3 (tup_lt p2))⟩
  refine T.self X.A 0 { s1 with heap := h' } _ _ ⟨hz, hTI, ⟨_, _, hTO⟩, hi1, hi2⟩ ?_
  refine ⟨s1.heap.objs.size + 4, _, _, _, H1, rfl, I2, T, ⟨hz, hTI, ⟨_, _, hTO⟩, hi1, hi2⟩, fun b hb => ?_, q⟩
  have hb' : s1.heap.objs.size ≤ b := by
    simp only [List.mem_cons, List.not_mem_nil, or_false] at hb
    rcases hb with e | e | e | e | e
    · rw [e]; exact Nat.le_add_right _ _
    · rw [e]; exact Nat.le_add_right _ _
    · rw [e]; exact Nat.le_add_right _ _
    · rw [e]; exact Nat.le_refl _
    · rw [e]; exact Nat.le_add_right _ _
  obtain ⟨f0, f1⟩ := I1.fpOk hb' (I1.hok.fresh hb')
  exact ⟨f0, f1⟩
theorem lc_zipTT {k : Nat} {ix : List Nat} {g : TG} {tt : TT} {te : TE} {σ : St} {H1 : Hp} {Q : List V → Hp → Prop} {K : PySem.W.Frag} {a b : Addr} {xs ys : List V} (Pv : Nat → List V → Hp → Prop) (h0 : Pv 0 [] H1) (hl : ∀ i zs H, Pv i zs H → SqT K H a xs ∧ SqT K H b ys)
    (hs : ∀ i zs H x y p, xs[i]? = some x → ys[i]? = some y → Pv i zs H → H p = none → lcTurn k ix g tt te σ (.ref p) zs (upd H p (.tup [x, y])) (Pv (i + 1))) (hd : ∀ zs H, Pv (min xs.length ys.length) zs H → Q zs H) : rLC (Itztt K a b) k ix g tt te σ H1 Q := by
  refine lc_by (n := min xs.length ys.length) Pv h0 (fun i zs H h p => ?_) (fun zs H p => ?_) (fun i zs H x H' h p y => ?_) hd
  · obtain ⟨q1, q2⟩ := hl i zs H p
    exact ⟨xs, ys, xs[i]'(by omega), ys[i]'(by omega), q1, q2, by simp, by simp⟩
  · obtain ⟨q1, q2⟩ := hl _ zs H p
    exact ⟨xs, ys, q1, q2, by omega⟩
  · obtain ⟨q1, q2⟩ := hl i zs H p
    obtain ⟨c, x', y', hb, e1, e2, hx, hy⟩ := y
    subst e1 e2
    exact hs i zs H x' y' c (hx xs q1) (hy ys q2) p hb
end
end L2
set_option maxHeartbeats 1000000
namespace L2
open PySem PySem.Spec PyProof.Rows PySem.W
section
variable {X : Cx}
theorem op_eqE (hu : X.A.units < cLine) : OpR X (compareOp .Eq) (fun x y H Q => ∃ (l b : Addr) (xs : List V), x = .ref l ∧ y = .ref b ∧ SqL X.K H l xs ∧ SqL X.K H b [] ∧ Q (.bl xs.isEmpty) H) := by
  intro pins s σ H x y v u Q I rx ry h
  obtain ⟨l, b, xs, rfl, rfl, hl, hb, q⟩ := h
  cases rx
  cases ry
  obtain ⟨its, r1, p1, _⟩ := I.list hl
  obtain ⟨its2, r2, p2, _⟩ := I.list hb
  have l1 := r1.length
  have l2 := r2.length
  cases xs with
  | nil =>
    refine SeqAt.RcAt.lists (e := fun _ => true) p1.isList p2.isList (by simp; omega) hu (fun j h1 h2 => ?_) X.prog X.w X.xe _ ?_
    · have : j < its.length := by simpa using h1
      simp at l1; omega
    · have e : ((List.range its.toArray.size).all fun _ => true) = true := by simp
      rw [e]
      exact ⟨.bl true, H, I, rfl, q⟩
  | cons x xs =>
    refine SeqAt.RcAt.lists_lengths p1.isList p2.isList ?_ hu X.prog X.w X.xe _ ⟨.bl false, H, I, rfl, q⟩
    rw [List.length_cons] at l1
    rw [List.length_nil] at l2
    rw [List.size_toArray, List.size_toArray, bne_iff_ne]
    omega
end
end L2
set_option maxHeartbeats 1000000
namespace L2
open PySem PySem.Spec PyProof.Rows PySem.W
section
variable {prog : Program} {w : World} {A : Around} {E : Value → Shared → Prop} {s : Shared}
end
section
variable {X : Cx}
end
end L2
set_option maxHeartbeats 1000000
namespace L2
open PySem PySem.Spec PyProof.Rows PySem.W
section
variable {X : Cx}
end
end L2
set_option maxHeartbeats 1000000
namespace L2
open PySem PySem.Spec PyProof.Rows PySem.W
section
variable {X : Cx}
end
end L2
set_option maxHeartbeats 1000000
namespace L2
open PySem PySem.Spec PyProof.Rows PySem.W
section
variable {prog : Program} {w : World} {A : Around} {E : Value → Shared → Prop}
end
section
variable {X : Cx} {pos : Pos}
end
end L2
set_option maxHeartbeats 1000000
namespace KB
open PySem L2
abbrev Pr := Str × Int
def nmLt (p q : Pr) : Prop := p.1.cps.toList < q.1.cps.toList
structure Canon (ps : List Pr) : Prop where
  pw : ps.Pairwise nmLt
  ge : ∀ p ∈ ps, 1 ≤ p.2
def putS (kvs : List Pr) (x : Str) (n : Int) : List Pr := if (kvs.any fun p => decide (p.1 = x)) = true then kvs.map (fun p => if p.1 = x then (p.1, n) else p) else kvs ++ [(x, n)]
def nmB (x : Str) : Bool := decide (1 ≤ x.cps.size) && decide (x.cps.size ≤ 8) && x.cps.toList.all fun c => decide (97 ≤ c) && decide (c ≤ 122)
def azB (c : Nat) : Bool := decide (97 ≤ c) && decide (c ≤ 122)
theorem Rep.tup_inv {H : Hp} {ds : List Dv} {v : V} (h : Rep H (.tup ds) v) : ∃ a vs, v = .ref a ∧ H a = some (.tup vs) ∧ Reps H ds vs := by simpa only [Rep] using h
theorem Reps.two {H : Hp} {d e : Dv} {vs : List V} (h : Reps H [d, e] vs) : ∃ x y, vs = [x, y] ∧ Rep H d x ∧ Rep H e y := by
  simp only [Reps] at h
  obtain ⟨x, r, rfl, h1, y, r2, rfl, h2, rfl⟩ := h
  exact ⟨x, y, rfl, h1, h2⟩
def Az (x : Str) (n : Nat) : Prop := x.cps.toList.length = n ∧ ∀ c ∈ x.cps.toList, azB c = true
theorem Az.len {x : Str} {n : Nat} (h : Az x n) : x.length = n := by
  have e : x.cps.toList.length = x.length := Array.length_toList
  rw [← e]; exact h.1
theorem az_app {x y : Str} {n m : Nat} (h : Az x n) (g : Az y m) : Az (x ++ y) (n + m) := by
  have e := PySem.W.KT.app_list x y
  refine ⟨by rw [e, List.length_append, h.1, g.1], fun c hc => ?_⟩
  rw [e] at hc
  rcases List.mem_append.mp hc with hc | hc
  · exact h.2 c hc
  · exact g.2 c hc
theorem az_one {c : Nat} (h : azB c = true) : Az ⟨#[c]⟩ 1 := ⟨rfl, fun d hd => by
  have e : d = c := by simpa using hd
  rw [e]; exact h⟩
theorem az_empty : Az Str.empty 0 := ⟨rfl, fun d hd => by cases hd⟩
theorem az_from {x : Str} {n : Nat} {i : Int} (h : Az x n) (h0 : 0 ≤ i) (h1 : i ≤ n) : Az (Txt.slice x (some i) none) (n - i.toNat) := by
  have e := PyProof.Rows.slice_from_eq (x := x) (i := i) (b := (x.length : Int)) h0 (by rw [h.len]; exact h1) rfl
  rw [e]
  refine ⟨?_, fun c hc => ?_⟩
  · show ((x.cps.toList.drop i.toNat).take ((x.length : Int) - i).toNat).toArray.toList.length = _
    simp only [List.length_take, List.length_drop, h.1, h.len]
    omega
  · have hc' : c ∈ (x.cps.toList.drop i.toNat).take ((x.length : Int) - i).toNat := by simpa using hc
    exact h.2 c (List.mem_of_mem_drop (List.mem_of_mem_take hc'))
theorem az_to {x : Str} {n : Nat} {i : Int} (h : Az x n) (h0 : 0 ≤ i) (h1 : i ≤ n) : Az (Txt.slice x none (some i)) i.toNat := by
  have e := eq_of_beq (PyProof.Rows.slice_closes_toL (x := x) (j := i) h0 (by rw [h.len]; exact h1))
  rw [e]
  refine ⟨?_, fun c hc => ?_⟩
  · show ((x.cps.toList.drop (0 : Int).toNat).take (i - 0).toNat).toArray.toList.length = _
    simp only [List.length_take, List.length_drop, h.1]
    have : (0 : Int).toNat = 0 := rfl
    omega
  · have hc' : c ∈ (x.cps.toList.drop (0 : Int).toNat).take (i - 0).toNat := by simpa using hc
    exact h.2 c (List.mem_of_mem_drop (List.mem_of_mem_take hc'))
theorem az_mul1 {x : Str} {n : Nat} (h : Az x n) : Az (Txt.mul x 1) n := by
  have e : Txt.mul x 1 = x := by
    unfold Txt.mul
    rw [if_neg (by decide)]
    exact if_pos rfl
  rw [e]; exact h
theorem az_mul0 {x : Str} : Az (Txt.mul x 0) 0 := az_empty
theorem az_nm {x : Str} {n : Nat} (h : Az x n) (h1 : 1 ≤ n) (h8 : n ≤ 8) : nmB x = true := by
  unfold nmB
  have e : x.cps.size = n := by have := h.1; simpa using this
  rw [e, decide_eq_true h1, decide_eq_true h8, Bool.and_self, Bool.true_and]
  exact List.all_eq_true.mpr fun c hc => h.2 c hc
def dk (kvs : List (Str × Int)) : List (Key × V) := kvs.map fun p => (Sum.inr p.1, V.int p.2)
def lenDv (c : Int) (ps : List (Str × Int)) : Dv := .tup [.int c, .tup (ps.map fun p => .tup [.str p.1, .int p.2])]
def tkV (r : TK) : Str × Int := (r.2.1, match r.2.2 with | [.int n] => n | _ => 0)
theorem reps_tups {H : Hp} : ∀ {rs : List TK}, (∀ r ∈ rs, H r.1 = some (.tup [.str (tkV r).1, .int (tkV r).2])) → Reps H ((rs.map tkV).map fun p => Dv.tup [.str p.1, .int p.2]) (rs.map fun r => V.ref r.1)
  | [], _ => by simp [Reps]
  | r :: rs, h => by
    simp only [List.map_cons, Reps]
    refine ⟨_, _, rfl, ?_, reps_tups fun x hx => h x (List.mem_cons_of_mem _ hx)⟩
    simp only [Rep, Reps]
    exact ⟨r.1, _, rfl, h r List.mem_cons_self, _, _, rfl, rfl, _, _, rfl, rfl, rfl⟩
theorem inr_iff {a b : Str} : ((Sum.inr a : Key) = Sum.inr b) ↔ a = b := ⟨fun h => by injection h, fun h => by rw [h]⟩
theorem dk_put (kvs : List (Str × Int)) (x : Str) (n : Int) : dk (putS kvs x n) = putK (dk kvs) (Sum.inr x) (.int n) := by
  unfold putS putK dk
  have e : ((kvs.map fun p => ((Sum.inr p.1 : Key), V.int p.2)).any fun kv => decide (kv.1 = Sum.inr x)) = kvs.any fun p => decide (p.1 = x) := by
    rw [List.any_map]
    congr 1
    funext p
    simp [Function.comp]
  rw [e]
  split
  · rw [List.map_map, List.map_map]
    refine List.map_congr_left fun p _ => ?_
    simp only [Function.comp]
    by_cases h : p.1 = x
    · rw [if_pos h, if_pos (inr_iff.mpr h)]
    · rw [if_neg h, if_neg (fun z => h (inr_iff.mp z))]
  · rw [List.map_append]
    rfl
theorem putS_keys {kvs : List (Str × Int)} {x : Str} {n : Int} (nd : (kvs.map (·.1)).Nodup) : ((putS kvs x n).map (·.1)).Nodup := by
  unfold putS
  split
  · have e : (kvs.map (fun p => if p.1 = x then (p.1, n) else p)).map (·.1) = kvs.map (·.1) := by
      rw [List.map_map]
      refine List.map_congr_left fun p _ => ?_
      simp only [Function.comp]
      split <;> rfl
    rw [e]; exact nd
  · rename_i h
    rw [List.map_append, List.nodup_append]
    refine ⟨nd, by simp, fun a ha b hb => ?_⟩
    have hb' : b = x := by simpa using hb
    subst hb'
    intro e
    subst e
    obtain ⟨p, hp, e⟩ := List.mem_map.mp ha
    exact h (List.any_eq_true.mpr ⟨p, hp, decide_eq_true e⟩)
theorem putS_len (kvs : List (Str × Int)) (x : Str) (n : Int) : (putS kvs x n).length ≤ kvs.length + 1 := by
  unfold putS
  split
  · rw [List.length_map]; omega
  · rw [List.length_append]; simp
theorem putS_all {R : Str × Int → Prop} {kvs : List (Str × Int)} {x : Str} {n : Int} (h : ∀ p ∈ kvs, R p) (hx : R (x, n)) : ∀ p ∈ putS kvs x n, R p := by
  intro p hp
  unfold putS at hp
  split at hp
  · obtain ⟨q, hq, e⟩ := List.mem_map.mp hp
    by_cases z : q.1 = x
    · rw [if_pos z] at e
      rw [← e, z]; exact hx
    · rw [if_neg z] at e
      rw [← e]; exact h q hq
  · rcases List.mem_append.mp hp with hp | hp
    · exact h p hp
    · rw [List.mem_singleton.mp hp]; exact hx
abbrev partsDv (ps : List Pr) : List Dv := ps.map fun p => .tup [.str p.1, .int p.2]
theorem part_at {H : Hp} {ps : List Pr} {us : List V} (ru : Reps H (partsDv ps) us) {i : Nat} {x : V} (hx : us[i]? = some x) : ∃ p b, ps[i]? = some p ∧ x = .ref b ∧ H b = some (.tup [.str p.1, .int p.2]) := by
  obtain ⟨d, hd, Rd⟩ := ru.get hx
  rw [List.getElem?_map] at hd
  cases e : ps[i]? with
  | none => rw [e] at hd; cases hd
  | some p =>
    rw [e] at hd
    obtain rfl : Dv.tup [.str p.1, .int p.2] = d := Option.some.inj hd
    obtain ⟨b, zs, rfl, hb, rz⟩ := Rep.tup_inv Rd
    obtain ⟨y, z, rfl, Ry, Rz⟩ := Reps.two rz
    simp only [Rep] at Ry Rz
    subst Ry Rz
    exact ⟨p, b, rfl, rfl, hb⟩
theorem len_inv {H : Hp} {c : Int} {ps : List Pr} {v : V} (R : Rep H (lenDv c ps) v) : ∃ a b us, v = .ref a ∧ H a = some (.tup [.int c, .ref b]) ∧ H b = some (.tup us) ∧ Reps H (partsDv ps) us ∧ us.length = ps.length := by
  obtain ⟨a, tv, rfl, ha, rt⟩ := Rep.tup_inv R
  obtain ⟨x, y, rfl, R0, R1⟩ := Reps.two rt
  simp only [Rep] at R0
  subst R0
  obtain ⟨b, us, rfl, hb, ru⟩ := Rep.tup_inv R1
  have := ru.length
  rw [List.length_map] at this
  exact ⟨a, b, us, rfl, ha, hb, ru, this⟩
theorem len_rep {H : Hp} {c : Int} {ps : List Pr} {a b : Addr} {us : List V} (ha : H a = some (.tup [.int c, .ref b])) (hb : H b = some (.tup us)) (ru : Reps H (partsDv ps) us) : Rep H (lenDv c ps) (.ref a) := by
  simp only [lenDv, Rep, Reps]
  exact ⟨a, _, rfl, ha, _, _, rfl, rfl, _, _, rfl, ⟨b, us, rfl, hb, ru⟩, rfl⟩
theorem eqI {i j : Int} (h : decide (V.int i = V.int j) = true) : i = j := by
  have := of_decide_eq_true h
  injection this
theorem z2 : 2 ≤ sizeLine := by rw [sizeLine_eq]; decide
theorem z1 : 1 ≤ sizeLine := by rw [sizeLine_eq]; decide
theorem z3 : 3 ≤ sizeLine := by rw [sizeLine_eq]; decide
theorem putS_new {kvs : List Pr} {x : Str} {n : Int} (h : x ∉ kvs.map (·.1)) : putS kvs x n = kvs ++ [(x, n)] := by
  unfold putS
  rw [if_neg]
  intro e
  rw [List.any_eq_true] at e
  obtain ⟨p, hp, e⟩ := e
  exact h (List.mem_map.mpr ⟨p, hp, of_decide_eq_true e⟩)
theorem putS_same {kvs : List Pr} {x : Str} {n : Int} (h : x ∈ kvs.map (·.1)) : (putS kvs x n).map (·.1) = kvs.map (·.1) := by
  unfold putS
  obtain ⟨p, hp, rfl⟩ := List.mem_map.mp h
  rw [if_pos (List.any_eq_true.mpr ⟨p, hp, decide_eq_true rfl⟩), List.map_map]
  refine List.map_congr_left fun r _ => ?_
  show (if r.1 = p.1 then (r.1, n) else r).1 = r.1
  split <;> rfl
section
variable {K : PySem.W.Frag}
end
theorem tnx {D : Ends} {σ : St} {H : Hp} (h : D.nx σ H) : tNext D σ H := h
theorem ints_at {ns : List Int} {k : Int} (h0 : 0 ≤ k) (h : k < (ns.length : Int)) : ∃ v : Int, atI (ns.map V.int) k = some (.int v) := by
  have hk : k.toNat < ns.length := by omega
  have q : atI (ns.map V.int) ((k.toNat : Nat) : Int) = some (.int ns[k.toNat]) := atI_nat (by rw [List.getElem?_map, List.getElem?_eq_getElem hk] <;> rfl)
  have ek : k = ((k.toNat : Nat) : Int) := by omega
  rw [← ek] at q
  exact ⟨_, q⟩
end KB
set_option maxHeartbeats 1000000
namespace KB
open PySem L2
theorem mod_lt {a : Int} (n : Int) (h : 0 < n) : 0 ≤ a % n ∧ a % n < n := ⟨Int.emod_nonneg _ (by omega), Int.emod_lt_of_pos _ h⟩
def SameB (a : Addr) (H H' : Hp) : Prop := ∀ g o, g ≠ a → H g = some o → H' g = some o
theorem SameB.refl (a : Addr) (H : Hp) : SameB a H H := fun _ _ _ e => e
theorem SameB.trans {a : Addr} {H H1 H2 : Hp} (s : SameB a H H1) (t : SameB a H1 H2) : SameB a H H2 := fun g o hg e => t g o hg (s g o hg e)
theorem Same.b {H H' : Hp} (a : Addr) (s : Same H H') : SameB a H H' := fun g o _ e => s g o e
theorem SameB.upd (H : Hp) (a : Addr) (o : HO) : SameB a H (upd H a o) := fun g u hg e => by rw [upd_ne hg]; exact e
theorem SameB.same {a : Addr} {H H1 H2 : Hp} (h : H a = none) (s : Same H H1) (t : SameB a H1 H2) : Same H H2 := fun g o e => t g o (ne_of_none e h) (s g o e)
def TupS (H H' : Hp) : Prop := ∀ b zs, H b = some (.tup zs) → H' b = some (.tup zs)
theorem SameB.tups {a : Addr} {H H' : Hp} {xs : List V} (s : SameB a H H') (h : H a = some (.lst xs)) : TupS H H' := fun b zs e => s b _ (fun z => by rw [z, h] at e; cases e) e
theorem reps_tupS {H H' : Hp} : ∀ {ds : List Dv} {vs : List V}, (∀ d ∈ ds, ∀ v, Rep H d v → Rep H' d v) → Reps H ds vs → Reps H' ds vs
  | [], vs, _, h => by simpa only [Reps] using h
  | d :: ds, vs, f, h => by
    simp only [Reps] at h ⊢
    obtain ⟨v, r, rfl, h1, h2⟩ := h
    exact ⟨v, r, rfl, f d List.mem_cons_self v h1, reps_tupS (fun e he => f e (List.mem_cons_of_mem _ he)) h2⟩
theorem rep_tupS {H H' : Hp} (t : TupS H H') {n : Nat} {d : Dv} (h : L2.Pl n d) : ∀ {v : V}, Rep H d v → Rep H' d v := by
  induction h with
  | int => intro v r; simpa only [Rep] using r
  | str => intro v r; simpa only [Rep] using r
  | non => intro v r; simpa only [Rep] using r
  | tup _ ih =>
    intro v r
    simp only [Rep] at r ⊢
    obtain ⟨a, vs, rfl, ha, rs⟩ := r
    exact ⟨a, vs, rfl, t _ _ ha, reps_tupS (fun d hd v r => ih d hd r) rs⟩
theorem pl_len (c : Int) (ps : List Pr) : L2.Pl 3 (lenDv c ps) := .tup fun d hd => by
  rcases List.mem_cons.mp hd with rfl | hd
  · exact .int
  · rw [List.mem_singleton.mp hd]
    refine .tup fun e he => ?_
    obtain ⟨p, _, rfl⟩ := List.mem_map.mp he
    refine .tup fun g hg => ?_
    rcases List.mem_cons.mp hg with rfl | hg
    · exact .str
    · rw [List.mem_singleton.mp hg]; exact .int
theorem while_m {c : TT} {tb : TS} {D : Ends} {σ : St} {H : Hp} (Pv : Nat → St → Hp → Prop) (m : Nat) (h0 : Pv m σ H)
    (hs : ∀ m σ H, Pv m σ H → c σ H fun b H1 => if b = true then tb { D with nx := fun σ' H' => ∃ m', m' < m ∧ Pv m' σ' H', ct := fun σ' H' => ∃ m', m' < m ∧ Pv m' σ' H', bk := D.nx } σ H1 else D.nx σ H1)
    (mono : ∀ σ H Q Q', (∀ b H1, Q b H1 → Q' b H1) → c σ H Q → c σ H Q') : tWhile c tb D σ H := by
  refine ⟨Pv, ⟨m, h0⟩, fun m σ H p => mono σ H _ _ (fun b H1 q => ?_) (hs m σ H p)⟩
  cases b with
  | true => exact ⟨_, fun σ' H' q' => q', q⟩
  | false => exact q
theorem mono_truth {K : PySem.W.Frag} {i : Nat} : ∀ σ H (Q Q' : Bool → Hp → Prop), (∀ b H1, Q b H1 → Q' b H1) → (fun (σ : St) (H : Hp) (Q : Bool → Hp → Prop) => tVar i σ H fun x H' => ∃ k, TruV K x H' k ∧ Q k H') σ H Q → (fun (σ : St) (H : Hp) (Q : Bool → Hp → Prop) => tVar i σ H fun x H' => ∃ k, TruV K x H' k ∧ Q k H') σ H Q' := by
  rintro σ H Q Q' h ⟨v, e, k, t, q⟩
  exact ⟨v, e, k, t, h _ _ q⟩
inductive Kd where
  | whole
  | place (c : Int) (ps : List Pr)
  | row (c : Int) (ps : List Pr) (k : Kd)
  | pair (k j : Kd)
def Kd.dv : Kd → Dv
  | .whole => .tup [.str "whole"]
  | .place c ps => .tup [.str "place", lenDv c ps]
  | .row c ps k => .tup [.str "row", lenDv c ps, k.dv]
  | .pair k j => .tup [.str "pair", k.dv, j.dv]
def Kd.size : Kd → Nat
  | .whole => 1
  | .place _ _ => 1
  | .row _ _ k => k.size + 1
  | .pair k j => k.size + j.size + 1
theorem Kd.size_pos : ∀ k : Kd, 1 ≤ k.size
  | .whole => Nat.le_refl _
  | .place _ _ => Nat.le_refl _
  | .row _ _ k => by show 1 ≤ k.size + 1; omega
  | .pair k j => by show 1 ≤ k.size + j.size + 1; omega
theorem Kd.pl : ∀ k : Kd, L2.Pl (k.size + 3) k.dv
  | .whole => .tup fun d hd => by rw [List.mem_singleton.mp hd]; exact .str
  | .place c ps => .tup fun d hd => by
    rcases List.mem_cons.mp hd with rfl | hd
    · exact .str
    · rw [List.mem_singleton.mp hd]; exact pl_len c ps
  | .row c ps k => .tup fun d hd => by
    rcases List.mem_cons.mp hd with rfl | hd
    · exact .str
    rcases List.mem_cons.mp hd with rfl | hd
    · exact (pl_len c ps).up (by show 3 ≤ k.size + 3; omega)
    · rw [List.mem_singleton.mp hd]; exact k.pl
  | .pair k j => .tup fun d hd => by
    rcases List.mem_cons.mp hd with rfl | hd
    · exact .str
    rcases List.mem_cons.mp hd with rfl | hd
    · exact k.pl.up (by show k.size + 3 ≤ k.size + j.size + 3; omega)
    · rw [List.mem_singleton.mp hd]; exact j.pl.up (by show j.size + 3 ≤ k.size + j.size + 3; omega)
def Kd.word : Kd → Str
  | .whole => "whole"
  | .place _ _ => "place"
  | .row _ _ _ => "row"
  | .pair _ _ => "pair"
def Kd.All (P : Int → List Pr → Prop) : Kd → Prop
  | .whole => True
  | .place c ps => P c ps
  | .row c ps k => P c ps ∧ k.All P
  | .pair k j => k.All P ∧ j.All P
theorem Kd.tupS {H H' : Hp} (t : TupS H H') {k : Kd} {v : V} (r : Rep H k.dv v) : Rep H' k.dv v := rep_tupS t k.pl r
theorem Kd.inv {H : Hp} {k : Kd} {v : V} (r : Rep H k.dv v) : ∃ a vs, v = .ref a ∧ H a = some (.tup (.str k.word :: vs)) ∧
    (match k with
     | .whole => vs = []
     | .place c ps => ∃ l, vs = [l] ∧ Rep H (lenDv c ps) l
     | .row c ps j => ∃ l u, vs = [l, u] ∧ Rep H (lenDv c ps) l ∧ Rep H j.dv u
     | .pair i j => ∃ u w, vs = [u, w] ∧ Rep H i.dv u ∧ Rep H j.dv w) := by
  cases k with
  | whole =>
    simp only [Kd.dv, Rep, Reps] at r
    obtain ⟨a, vs, rfl, ha, x, r1, rfl, rfl, rfl⟩ := r
    exact ⟨a, [], rfl, ha, rfl⟩
  | place c ps =>
    rw [Kd.dv, Rep] at r
    obtain ⟨a, vs, rfl, ha, rs⟩ := r
    simp only [Reps] at rs
    obtain ⟨x, r1, rfl, hx, y, r2, rfl, hy, rfl⟩ := rs
    simp only [Rep] at hx
    subst hx
    exact ⟨a, _, rfl, ha, y, rfl, hy⟩
  | row c ps j =>
    rw [Kd.dv, Rep] at r
    obtain ⟨a, vs, rfl, ha, rs⟩ := r
    simp only [Reps] at rs
    obtain ⟨x, r1, rfl, hx, y, r2, rfl, hy, z, r3, rfl, hz, rfl⟩ := rs
    simp only [Rep] at hx
    subst hx
    exact ⟨a, _, rfl, ha, y, z, rfl, hy, hz⟩
  | pair i j =>
    rw [Kd.dv, Rep] at r
    obtain ⟨a, vs, rfl, ha, rs⟩ := r
    simp only [Reps] at rs
    obtain ⟨x, r1, rfl, hx, y, r2, rfl, hy, z, r3, rfl, hz, rfl⟩ := rs
    simp only [Rep] at hx
    subst hx
    exact ⟨a, _, rfl, ha, y, z, rfl, hy, hz⟩
theorem rep_whole {H : Hp} {a : Addr} (h : H a = some (.tup [.str "whole"])) : Rep H Kd.whole.dv (.ref a) := by
  simp only [Kd.dv, Rep, Reps]
  exact ⟨a, _, rfl, h, _, _, rfl, rfl, rfl⟩
theorem rep_place {H : Hp} {a : Addr} {l : V} {c : Int} {ps : List Pr} (h : H a = some (.tup [.str "place", l])) (r : Rep H (lenDv c ps) l) : Rep H (Kd.place c ps).dv (.ref a) := by
  rw [Kd.dv, Rep]
  refine ⟨a, _, rfl, h, ?_⟩
  simp only [Reps]
  exact ⟨_, _, rfl, by simp only [Rep], _, _, rfl, r, rfl⟩
theorem rep_row {H : Hp} {a : Addr} {l u : V} {c : Int} {ps : List Pr} {k : Kd} (h : H a = some (.tup [.str "row", l, u])) (r : Rep H (lenDv c ps) l) (r2 : Rep H k.dv u) : Rep H (Kd.row c ps k).dv (.ref a) := by
  rw [Kd.dv, Rep]
  refine ⟨a, _, rfl, h, ?_⟩
  simp only [Reps]
  exact ⟨_, _, rfl, by simp only [Rep], _, _, rfl, r, _, _, rfl, r2, rfl⟩
theorem rep_pair {H : Hp} {a : Addr} {l u : V} {j k : Kd} (h : H a = some (.tup [.str "pair", l, u])) (r : Rep H j.dv l) (r2 : Rep H k.dv u) : Rep H (Kd.pair j k).dv (.ref a) := by
  rw [Kd.dv, Rep]
  refine ⟨a, _, rfl, h, ?_⟩
  simp only [Reps]
  exact ⟨_, _, rfl, by simp only [Rep], _, _, rfl, r, _, _, rfl, r2, rfl⟩
theorem items_canon {G H2 : Hp} {kvs : List Pr} {qs : List TK} (hq : ∀ r ∈ qs, H2 r.1 = some (.tup (.str r.2.1 :: r.2.2)) ∧ G r.1 = none) (pq : (qs.map (·.2)).Perm ((kvs.map fun p => (p.1, V.int p.2)).map fun p => (p.1, [p.2]))) (pw : qs.Pairwise tkLt) (hall : ∀ p ∈ kvs, 1 ≤ p.2) :
    (qs.map tkV).Perm kvs ∧ Canon (qs.map tkV) ∧ ∀ t, H2 t = none → Rep (upd H2 t (.tup (qs.map fun r => V.ref r.1))) (.tup (partsDv (qs.map tkV))) (.ref t) := by
  have shape : ∀ r ∈ qs, ∃ p ∈ kvs, r.2 = (p.1, [V.int p.2]) := fun r hr' => by
    have := pq.mem_iff.mp (List.mem_map_of_mem (f := (·.2)) hr')
    rw [List.map_map] at this
    obtain ⟨p, hp, e⟩ := List.mem_map.mp this
    exact ⟨p, hp, e.symm⟩
  have tk : ∀ r ∈ qs, r.2.1 = (tkV r).1 ∧ r.2.2 = [V.int (tkV r).2] := fun r hr' => by
    obtain ⟨p, _, e⟩ := shape r hr'
    unfold tkV
    rw [e]
    exact ⟨rfl, rfl⟩
  have perm : (qs.map tkV).Perm kvs := by
    have e1 : qs.map tkV = (qs.map (·.2)).map fun z => (z.1, match z.2 with | [.int n] => n | _ => 0) := by
      rw [List.map_map]; rfl
    have e2 : kvs = ((kvs.map fun p => (p.1, V.int p.2)).map fun p => (p.1, [p.2])).map fun z => (z.1, match z.2 with | [.int n] => n | _ => 0) := by
      rw [List.map_map, List.map_map]
      exact (List.map_id kvs).symm
    rw [e1]
    rw [e2]
    exact pq.map _
  refine ⟨perm, ⟨List.pairwise_map.mpr (pw.imp fun {x y} h => h), fun p hp => hall p (perm.mem_iff.mp hp)⟩, fun t ht => ?_⟩
  simp only [Rep]
  refine ⟨t, _, rfl, upd_same, reps_tups fun r hr' => ?_⟩
  have := (hq r hr').1
  rw [(tk r hr').1, (tk r hr').2] at this
  exact same_new ht _ _ _ this
theorem tups_len {H : Hp} {c : Int} {ps : List Pr} {p : Addr} {w : V} (hp : H p = some (.tup [.int c, w])) (R : Rep H (.tup (partsDv ps)) w) : Rep H (lenDv c ps) (.ref p) := by
  obtain ⟨b, us, rfl, hb, ru⟩ := Rep.tup_inv R
  exact len_rep hp hb ru
theorem reps_snoc {H : Hp} : ∀ {ds : List Dv} {d : Dv} {vs : List V}, Reps H (ds ++ [d]) vs → ∃ vs0 v, vs = vs0 ++ [v] ∧ Reps H ds vs0 ∧ Rep H d v
  | [], d, vs, h => by
    simp only [List.nil_append, Reps] at h
    obtain ⟨v, r, rfl, hv, rfl⟩ := h
    exact ⟨[], v, rfl, by simp only [Reps], hv⟩
  | e :: ds, d, vs, h => by
    simp only [List.cons_append, Reps] at h
    obtain ⟨v, r, rfl, hv, hr⟩ := h
    obtain ⟨vs0, u, rfl, h1, h2⟩ := reps_snoc hr
    exact ⟨v :: vs0, u, rfl, by simp only [Reps]; exact ⟨v, vs0, rfl, hv, h1⟩, h2⟩
theorem reps_one {H : Hp} {d : Dv} {v : V} (h : Rep H d v) : Reps H [d] [v] := by simp only [Reps]; exact ⟨v, [], rfl, h, rfl⟩
theorem pop_snoc (vs : List V) (v : V) : (vs ++ [v])[(vs ++ [v]).length - 1]? = some v := by simp
theorem and_two {t1 t2 : TT} {σ : St} {H : Hp} {Q : Bool → Hp → Prop} (C : Prop) (qT : C → Q true H) (qF : Q false H) (f : (C → Q true H) → Q false H → tAnd t1 t2 σ H Q) : tAnd t1 t2 σ H Q := f qT qF
theorem snoc_of {α : Type} : ∀ {l : List α}, l ≠ [] → ∃ l0 x, l = l0 ++ [x] := fun {l} h => by
  rcases List.eq_nil_or_concat l with e | ⟨l0, x, e⟩
  · exact absurd e h
  · exact ⟨l0, x, by rw [e]; simp⟩
theorem gnm {i : Nat} {x : V} {σ : St} {H : Hp} {N : St → Hp → Prop} (h : N (σ.set i (some x)) H) : gName i x σ H N := h
theorem ifT {A B : Prop} (h : if true = true then A else B) : A := by rwa [if_pos rfl] at h
theorem ifF {A B : Prop} (h : if false = true then A else B) : B := by rwa [if_neg Bool.false_ne_true] at h
theorem w_wp : ¬ (Str.ofString "whole" = Str.ofString "place") := by decide +kernel
theorem w_wr : ¬ (Str.ofString "whole" = Str.ofString "row") := by decide +kernel
theorem w_wq : ¬ (Str.ofString "whole" = Str.ofString "pair") := by decide +kernel
theorem w_pr : ¬ (Str.ofString "place" = Str.ofString "row") := by decide +kernel
theorem w_pq : ¬ (Str.ofString "place" = Str.ofString "pair") := by decide +kernel
theorem w_rq : ¬ (Str.ofString "row" = Str.ofString "pair") := by decide +kernel
theorem wne {x y : Str} (h : ¬ x = y) : ¬ V.str x = V.str y := fun e => h (V.str.inj e)
end KB
namespace L2
open PySem PySem.Spec PyProof.Rows PySem.W
section
variable {X : Cx}
def rEqU : R2 := fun x y H Q => (scal x y = true ∧ Q (.bl (decide (x = y))) H) ∨ ∃ (n : Nat) (ds es : List Dv), Pl n (.tup ds) ∧ Pl n (.tup es) ∧ n ≤ 140 ∧ Rep H (.tup ds) x ∧ Rep H (.tup es) y ∧ ∀ b : Bool, (b = true ↔ ds = es) → Q (.bl b) H
theorem op_eqU (hu : X.A.units + 150 < cLine) : OpR X (compareOp .Eq) rEqU := by
  intro pins s σ H x y v u Q I rx ry h
  rcases h with h | h
  · exact op_eq pins s σ H x y v u Q I rx ry h
  · exact op_eqT hu pins s σ H x y v u Q I rx ry h
end
end L2
set_option maxHeartbeats 1000000
namespace KB
open PySem L2
end KB
set_option maxHeartbeats 1000000
namespace KB
open PySem L2
theorem cut_to (xs : List V) (n : Nat) (h : n ≤ xs.length) : cutV xs none (some (n : Int)) = xs.take n := by
  unfold cutV
  rw [HT.sIx_none, HT.sIx_nat]
  simp [Nat.min_eq_left h]
theorem isT_tup (ds : List Dv) : isT (.tup ds) "tuple" = true := by
  unfold isT
  rw [show (Dv.tup ds).tn = "tuple" from rfl, beq_self_eq_true, Bool.true_or]
end KB
set_option maxHeartbeats 3200000
namespace L2
open PySem PySem.Spec PyProof.Rows PySem.W
section
variable {P : Program} {w : World} {A : Around} {E : Value → Shared → Prop} {s : Shared}
end
section
variable {X : Cx}
theorem ps_dead {st : Stmt} : PS X st (fun _ _ _ => False) := fun _ _ _ _ _ _ h => h.elim
end
end L2
set_option maxHeartbeats 1000000
namespace L2
open PySem PySem.Spec PyProof.Rows PySem.W
section
variable {X : Cx}
end
end L2
set_option maxHeartbeats 1000000
namespace L2
open PySem PySem.Spec PyProof.Rows PySem.W
section
variable {X : Cx}
end
end L2
set_option maxHeartbeats 1000000
namespace L2
open PySem PySem.Spec PyProof.Rows PySem.W
section
variable {X : Cx}
end
end L2
set_option maxHeartbeats 1000000
namespace L2
open PySem PySem.Spec PyProof.Rows PySem.W
section
variable {X : Cx}
end
section
variable {prog : Program} {w : World} {A : Around} {E : Value → Shared → Prop} {s : Shared} {r l : Addr} {items : Array Value}
end
section
variable {X : Cx} {e : Expr} {te : TE} {p p1 pos pos1 : Pos}
end
section
variable {X : Cx}
end
end L2
set_option maxHeartbeats 1000000
namespace L2
open PySem PySem.Spec PyProof.Rows PySem.W
section
variable {X : Cx}
theorem log_bigC {j : Int} (h0 : 0 < j) (h1 : j < 10 ^ 61) : j.natAbs.log2 < 9000 := by
  have hn : j.natAbs < 2 ^ 204 := by omega
  have := (Nat.log2_lt (n := j.natAbs) (k := 204) (by omega)).mpr hn
  omega
def CDivC (i j : Int) : Prop := 0 < j ∧ j < 10 ^ 61
theorem op_fdivC : OpR X (binaryOp .FloorDiv) (rI CDivC fun i j => .int (i / j)) := opI fun i j _ _ _ _ _ hc q => by
  have h1 : (0 : Int) < j := hc.1
  exact floordiv_int (by omega) (by rw [Int.fdiv_eq_ediv_of_nonneg i (by omega)]; exact q) (.inl (PyProof.noPylong_of_log2 (log_bigC hc.1 hc.2)))
def tFvI (te : TE) : TE := fun σ H Q => te σ H fun x H1 => ∃ i : Int, x = .int i ∧ i.natAbs.log2 < 1920 ∧ Q (.str (toString i)) H1
theorem pe_fvI {e : Expr} {te : TE} {pos : Pos} (he : PE X e te) : PE X (.FormattedValue e (-1) none pos) (tFvI te) := fun pins s σ H Q I h =>
  wpAny_FormattedValue_plain (thn (he pins s σ H _ I h) fun v s1 ⟨x, H1, I1, r1, i, ex, hd, q⟩ => by
    subst ex
    obtain ⟨k, rfl⟩ := r1
    exact wpAny_formatField_int hd ⟨.str (toString i), H1, I1.tok _, ⟨_, rfl⟩, q⟩)
theorem mt_starts3 : MtR X "str.startswith" (fun x xs H Q => ∃ (a b : Str) (i : Int), x = .str a ∧ xs = [.str b, .int i] ∧ Q (.bl (Txt.startswith3 a b i)) H) := by
  intro pins s σ H x xs v us Q I rx r h
  obtain ⟨a, b, i, rfl, rfl, q⟩ := h
  obtain ⟨t, rfl⟩ := rx
  cases r with
  | cons r1 rr =>
    cases rr with
    | cons r2 rr =>
      cases rr
      obtain ⟨t1, rfl⟩ := r1
      obtain ⟨t2, rfl⟩ := r2
      exact SC.startswith3 ⟨.bl _, H, I, rfl, q⟩
theorem call_int_text : CallR X (.type "int") (fun xs H Q => ∃ (a : Str) (n : Int), xs = [.str a] ∧ PySem.intText? a = some n ∧ a.length ≤ 640 ∧ Q (.int n) H) := by
  intro pins s σ H xs us Q I r h
  obtain ⟨a, n, rfl, hn, hl, q⟩ := h
  obtain ⟨u, rfl, t, rfl⟩ := vals1 r
  exact KIN.call_text hn hl ⟨.int n, H, I.tok _, ⟨_, rfl⟩, q⟩
theorem vals_texts : ∀ l : List (Str × Tok), Vals ((l.map (·.1)).map V.str) (strValues l)
  | [] => .nil
  | (x, t) :: l => .cons ⟨t, rfl⟩ (vals_texts l)
theorem mt_split : MtR X "str.split" (fun x xs H Q => ∃ a b : Str, x = .str a ∧ xs = [.str b] ∧ (b.length == 0) = false ∧ a.length ≤ sizeLine ∧ (Txt.split a b).length ≤ sizeLine ∧ ∀ p, H p = none → Q (.ref p) (upd H p (.lst ((Txt.split a b).map V.str)))) := by
  intro pins s σ H x xs v us Q I rx r h
  obtain ⟨a, b, rfl, rfl, hb, ha, hz, q⟩ := h
  obtain ⟨t, rfl⟩ := rx
  obtain ⟨u, rfl, t1, rfl⟩ := vals1 r
  have fin : ∀ (l : List (Str × Tok)) (tk : Nat), l.map (·.1) = Txt.split a b → EP X pins σ Q (.ref s.heap.objs.size) { s with heap := s.heap.push { cls := .type "list", data := .seq (strValues l).toArray }, toks := tk } := fun l tk e => by
    refine ⟨.ref _, _, I.laid (t' := tk) (o := .lst ((Txt.split a b).map V.str)) (fun b ob q => Heap.get?_push_of_some _ q) (Nat.le_refl _) ?_, rfl, q _ (I.hok.fresh (Nat.le_refl _))⟩
    refine ⟨by rw [List.length_map]; exact hz, strValues l, 0, ?_, Heap.get?_push_size _ rfl⟩
    rw [← e]; exact vals_texts l
  cases h1 : (decide (a.length < b.length) || decide (Builtin.Str.strKind a < Builtin.Str.strKind b))
  · cases hf : (Builtin.Str.occurrences a b 0 a.length (a.length + 1)).isEmpty
    · have es : Txt.split a b = Builtin.Str.partsBetween a (Builtin.Str.occurrences a b 0 a.length (a.length + 1)) b.length := (if_neg (ne_true_of_eq_false h1)).trans (if_neg (ne_true_of_eq_false hf))
      refine call_meets F.slot_str_split (typeIs_str _ _ _) F.entry_str_split (F.args_str_split_2 _ _) (meets_str_split_sep a b t t1 h1 hb hf ha (by rw [← es]; exact hz)) ?_
      show wants (EP X pins σ Q) X.xe _ { s with toks := _, heap := s.heap.push { cls := .type "list", data := .seq (strsFrom s.toks (Builtin.Str.partsBetween a (Builtin.Str.occurrences a b 0 a.length (a.length + 1)) b.length)).toArray } }
      rw [strsFrom_eq]
      exact fin (numbered s.toks _) _ ((numbered_texts _ _).trans es.symm)
    · exact call_meets F.slot_str_split (typeIs_str _ _ _) F.entry_str_split (F.args_str_split_2 _ _) (meets_str_split_not_found a b t t1 h1 hb hf) (fin [(a, t)] s.toks ((if_neg (ne_true_of_eq_false h1)).trans (if_pos hf)).symm)
  · exact call_meets F.slot_str_split (typeIs_str _ _ _) F.entry_str_split (F.args_str_split_2 _ _) (meets_str_split_cannot_occur a b t t1 h1) (fin [(a, t)] s.toks (if_pos h1).symm)
end
end L2
set_option maxHeartbeats 1000000
namespace K61
open PySem L2 KB
def top (i : Nat) : Stmt := PySem.Challenge.pw_indexwise_k61_lengths_and_kinds_written.main.body.getD i (.Pass ⟨0, 0, 0, 0⟩)
structure Txt (K : PySem.W.Frag) (mg : Str → Option Value) : Prop where
  len : mg "len" = none
  isinstance : mg "isinstance" = none
  int : mg "int" = none
  bool : mg "bool" = none
  str : mg "str" = none
  tuple : mg "tuple" = none
  all : mg "all" = none
  zip : mg "zip" = none
  range : mg "range" = none
  enumerate : mg "enumerate" = none
  sorted : mg "sorted" = none
  max : mg "max" = none
  min : mg "min" = none
  lLONGEST_NAME : ∃ t, mg "LONGEST_NAME" = some (.int 8 t)
  lGREATEST_SIZE : ∃ t, mg "GREATEST_SIZE" = some (.int 12 t)
  lGREATEST_NUMBER : ∃ t, mg "GREATEST_NUMBER" = some (.int 99 t)
  lMOST_FIGURES : ∃ t, mg "MOST_FIGURES" = some (.int 60 t)
  lMOST_BRACKETS : ∃ t, mg "MOST_BRACKETS" = some (.int 20 t)
theorem Txt.g_LONGEST_NAME {X : Cx} {pos : Pos} (T : Txt X.K X.mg) (hg : Gl X "LONGEST_NAME") : PE X (.Name "LONGEST_NAME" pos) (tC (.int 8)) := by
  obtain ⟨t, e⟩ := T.lLONGEST_NAME
  exact pe_glob hg e ⟨t, rfl⟩
theorem Txt.g_GREATEST_SIZE {X : Cx} {pos : Pos} (T : Txt X.K X.mg) (hg : Gl X "GREATEST_SIZE") : PE X (.Name "GREATEST_SIZE" pos) (tC (.int 12)) := by
  obtain ⟨t, e⟩ := T.lGREATEST_SIZE
  exact pe_glob hg e ⟨t, rfl⟩
theorem Txt.g_GREATEST_NUMBER {X : Cx} {pos : Pos} (T : Txt X.K X.mg) (hg : Gl X "GREATEST_NUMBER") : PE X (.Name "GREATEST_NUMBER" pos) (tC (.int 99)) := by
  obtain ⟨t, e⟩ := T.lGREATEST_NUMBER
  exact pe_glob hg e ⟨t, rfl⟩
theorem Txt.g_MOST_FIGURES {X : Cx} {pos : Pos} (T : Txt X.K X.mg) (hg : Gl X "MOST_FIGURES") : PE X (.Name "MOST_FIGURES" pos) (tC (.int 60)) := by
  obtain ⟨t, e⟩ := T.lMOST_FIGURES
  exact pe_glob hg e ⟨t, rfl⟩
theorem Txt.g_MOST_BRACKETS {X : Cx} {pos : Pos} (T : Txt X.K X.mg) (hg : Gl X "MOST_BRACKETS") : PE X (.Name "MOST_BRACKETS" pos) (tC (.int 20)) := by
  obtain ⟨t, e⟩ := T.lMOST_BRACKETS
  exact pe_glob hg e ⟨t, rfl⟩
end K61
set_option maxHeartbeats 1000000
namespace K61
open PySem L2 KB
abbrev s_draw : Stmt := top 38
abbrev s_state : Stmt := top 39
abbrev s_names : Stmt := top 40
def St2 (H : Hp) (a : Addr) : Prop := ∃ (n : Int) (b : Bool), H a = some (.lst [.int n, .bl b])
theorem St2.b {H H' : Hp} {a b : Addr} (h : St2 H a) (s : SameB b H H') (n : a ≠ b) : St2 H' a := let ⟨i, c, e⟩ := h; ⟨i, c, s _ _ n e⟩
theorem St2.m {H H' : Hp} {a : Addr} (h : St2 H a) (s : Same H H') : St2 H' a := let ⟨i, c, e⟩ := h; ⟨i, c, s _ _ e⟩
theorem St2.tups {H H' : Hp} {a : Addr} (h : St2 H a) (s : SameB a H H') : TupS H H' := let ⟨_, _, e⟩ := h; s.tups e
def spDraw : Sp := fun vs H Q _ => ∃ (a : Addr) (m : Int), vs = [.ref a, .int m] ∧ St2 H a ∧ 0 < m ∧ m < 10 ^ 61 ∧ ∀ (H' : Hp) (x : Int), SameB a H H' → St2 H' a → 0 ≤ x → x < m → Q (.int x) H'
def spState (K : PySem.W.Frag) : Sp := fun vs H Q _ => ∃ (s : Addr) (ns : List Int) (k : Int), vs = [.ref s, .int k] ∧ SqL K H s (ns.map V.int) ∧ 0 ≤ k ∧ ∀ (H' : Hp) (a : Addr), Same H H' → H a = none → St2 H' a → Q (.ref a) H'
def Nth (z : Int) (n : Nat) (ws : List Str) : Prop := ∀ (j : Nat) (u : Str), ws[j]? = some u → ∃ c, atI (Str.ofString "bcdfghjklmnpqrstvwxyz").cps.toList ((z + 5 * (j : Int)) % 21) = some c ∧ u.cps.toList[n]? = some c
theorem Nth.nil {z : Int} {n : Nat} : Nth z n [] := fun j u h => by simp at h
theorem Nth.snoc {z : Int} {n c : Nat} {ws : List Str} {x y : Str} (h : Nth z n ws) (hc : atI (Str.ofString "bcdfghjklmnpqrstvwxyz").cps.toList ((z + 5 * (ws.length : Int)) % 21) = some c) (hx : x.cps.toList.length = n) : Nth z n (ws ++ [x ++ ⟨#[c]⟩ ++ y]) := fun j u e => by
  by_cases hj : j < ws.length
  · rw [List.getElem?_append_left hj] at e; exact h j u e
  · rw [List.getElem?_append_right (by omega)] at e
    have hj2 : j = ws.length := by
      have := (List.getElem?_eq_some_iff.mp e).1
      rw [List.length_singleton] at this; omega
    subst hj2
    rw [Nat.sub_self] at e
    cases e
    refine ⟨c, hc, ?_⟩
    rw [PySem.W.KT.app_list, PySem.W.KT.app_list, List.append_assoc, List.getElem?_append_right (by omega), hx, Nat.sub_self]
    rfl
theorem let_inj : ∀ a : Nat, a < 21 → ∀ b : Nat, b < 21 → (Str.ofString "bcdfghjklmnpqrstvwxyz").cps.toList[a]? = (Str.ofString "bcdfghjklmnpqrstvwxyz").cps.toList[b]? → a = b := by decide +kernel
theorem Nth.nodup {z : Int} {n : Nat} {ws : List Str} (h : Nth z n ws) (hl : ws.length ≤ 21) : ws.Nodup := by
  rw [List.Nodup, List.pairwise_iff_getElem]
  intro i j hi hj hij e
  obtain ⟨c, h1, h2⟩ := h i _ (List.getElem?_eq_getElem hi)
  obtain ⟨d, h3, h4⟩ := h j _ (List.getElem?_eq_getElem hj)
  rw [e, h4] at h2
  cases h2
  have k : ∀ a : Int, 0 ≤ a → ∀ v, atI (Str.ofString "bcdfghjklmnpqrstvwxyz").cps.toList a = some v → (Str.ofString "bcdfghjklmnpqrstvwxyz").cps.toList[a.toNat]? = some v := fun a ha v hv => by
    unfold atI ixN at hv
    rw [if_pos ha] at hv
    split at hv
    · exact hv
    · cases hv
  have e1 := k _ (by omega) _ h1
  have e2 := k _ (by omega) _ h3
  have := let_inj ((z + 5 * (i : Int)) % 21).toNat (by omega) ((z + 5 * (j : Int)) % 21).toNat (by omega) (by rw [e1, e2])
  omega
def spNames : Sp := fun vs H Q _ => ∃ (a : Addr) (m : Nat), vs = [.ref a, .int m] ∧ St2 H a ∧ m ≤ 21 ∧ ∀ (H' : Hp) (r : Addr) (xs : List Str), SameB a H H' → St2 H' a → H r = none → H' r = some (.lst (xs.map V.str)) → xs.length = m → (∀ x ∈ xs, nmB x = true) → xs.Nodup → Q (.ref r) H'
theorem letter21 : ∀ j, j < 21 → ∃ c, (Str.ofString "bcdfghjklmnpqrstvwxyz").cps.toList[j]? = some c ∧ azB c = true := by
  have h : ∀ j, j < 21 → (((Str.ofString "bcdfghjklmnpqrstvwxyz").cps.toList[j]?).map azB) = some true := by decide +kernel
  intro j hj
  obtain ⟨c, e1, e2⟩ := Option.map_eq_some_iff.mp (h j hj)
  exact ⟨c, e1, e2⟩
theorem letterI {i : Int} (h0 : 0 ≤ i) (h1 : i < 21) : ∃ c, atI (Str.ofString "bcdfghjklmnpqrstvwxyz").cps.toList i = some c ∧ azB c = true := by
  obtain ⟨c, e, h⟩ := letter21 i.toNat (by omega)
  have q := atI_nat e
  rw [show ((i.toNat : Nat) : Int) = i by omega] at q
  exact ⟨c, q, h⟩
section
variable {P : Program} {w : World} {K : PySem.W.Frag} {mg : Str → Option Value} {base : Heap}
theorem sc_draw : FnScope ["_law_state_here", "_law_many", "_law_found"] ["_law_state_here", "_law_many"] (defScope s_draw) := ⟨rfl, rfl, rfl, by decide +kernel, rfl, by decide +kernel, by decide +kernel⟩
theorem ok_draw {f : Addr} {fd : FuncData} (F : Fun K "_law_draw" "_law_draw" s_draw f fd) (T : Txt K mg) : FnOk P w K mg base CX0 1 f fd ["_law_state_here", "_law_many"] spDraw := by
  have nd : (["_law_state_here", "_law_many", "_law_found"] : List Str).Nodup := sc_draw.nd
  refine F.ok sc_draw (fun vs H Q E h => ?_) (fun cdv A outer s H vs Q E hr h => ?_)
  · obtain ⟨a, m, rfl, _⟩ := h
    rfl
  obtain ⟨a, m, rfl, ⟨n, b, ha⟩, m0, mB, q⟩ := h
  refine ⟨_, (@pss_cons _ _ _ _ _ (@ps_if _ _ _ _ _ _ _ _ (@pt_val _ _ _ (@pe_ix _ _ _ _ _ _ _ ix_list (@pv _ 0 _ _ (by rfl) (by first | exact Or.inl rfl | exact Or.inr (Or.inl rfl) | exact Or.inr (Or.inr rfl)) (by decide) (by decide)) (@pe_int _ _ _ _) (fun _ _ => rfl)) (by intro _; rfl)) (@pss_cons _ _ _ _ _ (@ps_set _ _ (2) _ _ _ _ nd rfl (Or.inl rfl) (@pe_op _ _ _ _ _ _ _ _ op_mod (@pe_ix _ _ _ _ _ _ _ ix_list (@pv _ 0 _ _ (by rfl) (by first | exact Or.inl rfl | exact Or.inr (Or.inl rfl) | exact Or.inr (Or.inr rfl)) (by decide) (by decide)) (@pe_int _ _ _ _) (fun _ _ => rfl)) (@pv _ 1 _ _ (by rfl) (by first | exact Or.inl rfl | exact Or.inr (Or.inl rfl) | exact Or.inr (Or.inr rfl)) (by decide) (by decide))) (by rfl) (by first | exact .inl rfl | exact .inr rfl | assumption)) (@pss_cons _ _ _ _ _ (@ps_asg _ _ _ _ _ _ (@pe_op _ _ _ _ _ _ _ _ op_fdivC (@pe_ix _ _ _ _ _ _ _ ix_list (@pv _ 0 _ _ (by rfl) (by first | exact Or.inl rfl | exact Or.inr (Or.inl rfl) | exact Or.inr (Or.inr rfl)) (by decide) (by decide)) (@pe_int _ _ _ _) (fun _ _ => rfl)) (@pv _ 1 _ _ (by rfl) (by first | exact Or.inl rfl | exact Or.inr (Or.inl rfl) | exact Or.inr (Or.inr rfl)) (by decide) (by decide))) (@pg_sub _ _ _ _ _ _ _ (@pv _ 0 _ _ (by rfl) (by first | exact Or.inl rfl | exact Or.inr (Or.inl rfl) | exact Or.inr (Or.inr rfl)) (by decide) (by decide)) (@pe_int _ _ _ _) set_list (by intro _; rfl)) (by rfl) (by rfl) (by rfl)) (@pss_one _ _ _ (@ps_ret _ _ _ _ (@pv _ 2 _ _ (by rfl) (by first | exact Or.inl rfl | exact Or.inr (Or.inl rfl) | exact Or.inr (Or.inr rfl)) (by decide) (by decide)))))) (@pss_nil _)) (@pss_cons _ _ _ _ _ (@ps_asg _ _ _ _ _ _ (@pe_op _ _ _ _ _ _ _ _ op_mod (@pe_op _ _ _ _ _ _ _ _ op_add (@pe_op _ _ _ _ _ _ _ _ op_mul (@pe_ix _ _ _ _ _ _ _ ix_list (@pv _ 0 _ _ (by rfl) (by first | exact Or.inl rfl | exact Or.inr (Or.inl rfl) | exact Or.inr (Or.inr rfl)) (by decide) (by decide)) (@pe_int _ _ _ _) (fun _ _ => rfl)) (@pe_int _ _ _ _)) (@pe_int _ _ _ _)) (@pe_int _ _ _ _)) (@pg_sub _ _ _ _ _ _ _ (@pv _ 0 _ _ (by rfl) (by first | exact Or.inl rfl | exact Or.inr (Or.inl rfl) | exact Or.inr (Or.inr rfl)) (by decide) (by decide)) (@pe_int _ _ _ _) set_list (by intro _; rfl)) (by rfl) (by rfl) (by rfl)) (@pss_one _ _ _ (@ps_ret _ _ _ _ (@pe_op _ _ _ _ _ _ _ _ op_mod (@pe_op _ _ _ _ _ _ _ _ op_mod (@pe_op _ _ _ _ _ _ _ _ op_mul (@pe_op _ _ _ _ _ _ _ _ op_fdivC (@pe_op _ _ _ _ _ _ _ _ op_mod (@pe_op _ _ _ _ _ _ _ _ op_mul (@pe_ix _ _ _ _ _ _ _ ix_list (@pv _ 0 _ _ (by rfl) (by first | exact Or.inl rfl | exact Or.inr (Or.inl rfl) | exact Or.inr (Or.inr rfl)) (by decide) (by decide)) (@pe_int _ _ _ _) (fun _ _ => rfl)) (@pe_int _ _ _ _)) (@pe_int _ _ _ _)) (@pe_int _ _ _ _)) (@pe_int _ _ _ _)) (@pe_int _ _ _ _)) (@pv _ 1 _ _ (by rfl) (by first | exact Or.inl rfl | exact Or.inr (Or.inl rfl) | exact Or.inr (Or.inr rfl)) (by decide) (by decide))))))), ?_⟩
  refine ⟨_, rfl, a, _, 1, .bl b, rfl, rfl, SqL.of ha, atI_nat (j := 1) rfl, _, rfl, ?_⟩
  cases b with
  | true =>
    refine iteT ?_
    refine ⟨_, rfl, a, _, 0, .int n, rfl, rfl, SqL.of ha, atI_nat (j := 0) rfl, _, rfl, _, _, rfl, rfl, m0, ?_⟩
    refine ⟨_, rfl, a, _, 0, .int n, rfl, rfl, SqL.of ha, atI_nat (j := 0) rfl, _, rfl, _, _, rfl, rfl, ⟨m0, by omega⟩, _, rfl, a, _, 0, 0, rfl, rfl, ha, rfl, ?_⟩
    exact ⟨_, rfl, q _ _ (SameB.upd _ _ _) ⟨_, _, upd_same⟩ (mod_lt m m0).1 (mod_lt m m0).2⟩
  | false =>
    refine iteF ?_
    refine ⟨_, rfl, a, _, 0, .int n, rfl, rfl, SqL.of ha, atI_nat (j := 0) rfl, _, _, rfl, rfl, .inr ⟨by decide, by decide⟩, _, _, rfl, rfl, _, _, rfl, rfl, (by show (0 : Int) < 2147483647; decide), _, rfl, a, _, 0, 0, rfl, rfl, ha, rfl, ?_⟩
    refine ⟨_, rfl, a, _, 0, _, rfl, rfl, SqL.of upd_same, atI_nat (j := 0) rfl, _, _, rfl, rfl, .inr ⟨by decide, by decide⟩, _, _, rfl, rfl, (by show (0 : Int) < 2147483629; decide), _, _, rfl, rfl, ⟨by decide, by decide⟩, _, _, rfl, rfl, .inr ⟨by decide, by decide⟩, _, _, rfl, rfl, (by show (0 : Int) < 2147483587; decide), _, rfl, _, _, rfl, rfl, m0, ?_⟩
    exact q _ _ (SameB.upd _ _ _) ⟨_, _, upd_same⟩ (mod_lt m m0).1 (mod_lt m m0).2
theorem sc_state : FnScope ["_law_script", "_law_k", "_law_cell"] ["_law_script", "_law_k"] (defScope s_state) := ⟨rfl, rfl, rfl, by decide +kernel, rfl, by decide +kernel, by decide +kernel⟩
theorem ok_state {f : Addr} {fd : FuncData} (F : Fun K "_law_state" "_law_state" s_state f fd) (T : Txt K mg) : FnOk P w K mg base CX0 1 f fd ["_law_script", "_law_k"] (spState K) := by
  have nd : (["_law_script", "_law_k", "_law_cell"] : List Str).Nodup := sc_state.nd
  refine F.ok sc_state (fun vs H Q E h => ?_) (fun cdv A outer s H vs Q E hr h => ?_)
  · obtain ⟨a, ns, k, rfl, _⟩ := h
    rfl
  obtain ⟨a, ns, k, rfl, hS, k0, q⟩ := h
  have p15 : CPow 10 15 := ⟨by decide, by decide, by decide⟩
  refine ⟨_, (@pss_cons _ _ _ _ _ (@ps_set _ _ (2) _ _ _ _ nd rfl (Or.inl rfl) (@pe_int _ _ _ _) (by rfl) (by first | exact .inl rfl | exact .inr rfl | assumption)) (@pss_cons _ _ _ _ _ (@ps_if _ _ _ _ _ _ _ _ (@pt_cmpR _ _ _ _ _ _ _ _ op_lt (@pv _ 1 _ _ (by rfl) (by first | exact Or.inl rfl | exact Or.inr (Or.inl rfl) | exact Or.inr (Or.inr rfl)) (by decide) (by decide)) (@pe_callB _ _ _ _ _ _ _ _ _ call_len_seq rfl T.len (by decide +kernel) (@pa_cons _ _ _ _ _ (@pv _ 0 _ _ (by rfl) (by first | exact Or.inl rfl | exact Or.inr (Or.inl rfl) | exact Or.inr (Or.inr rfl)) (by decide) (by decide)) (@pa_nil _) (by rfl)) (by decide) (by decide) (by rfl) (by rfl)) (nomark _)) (@pss_one _ _ _ (@ps_set _ _ (2) _ _ _ _ nd rfl (Or.inl rfl) (@pe_ix _ _ _ _ _ _ _ ix_list (@pv _ 0 _ _ (by rfl) (by first | exact Or.inl rfl | exact Or.inr (Or.inl rfl) | exact Or.inr (Or.inr rfl)) (by decide) (by decide)) (@pv _ 1 _ _ (by rfl) (by first | exact Or.inl rfl | exact Or.inr (Or.inl rfl) | exact Or.inr (Or.inr rfl)) (by decide) (by decide)) (fun _ _ => rfl)) (by rfl) (by first | exact .inl rfl | exact .inr rfl | assumption))) (@pss_nil _)) (@pss_cons _ _ _ _ _ (@ps_if _ _ _ _ _ _ _ _ (@pt_cmpR _ _ _ _ _ _ _ _ op_lt (@pv _ 2 _ _ (by rfl) (by first | exact Or.inl rfl | exact Or.inr (Or.inl rfl) | exact Or.inr (Or.inr rfl)) (by decide) (by decide)) (@pe_op _ _ _ _ _ _ _ _ op_pow (@pe_int _ _ _ _) (@pe_int _ _ _ _)) (nomark _)) (@pss_one _ _ _ (@ps_ret _ _ _ _ (@pe_lst _ _ _ _ (@pa_cons _ _ _ _ _ (@pe_op _ _ _ _ _ _ _ _ op_add (@pe_op _ _ _ _ _ _ _ _ op_add (@pv _ 2 _ _ (by rfl) (by first | exact Or.inl rfl | exact Or.inr (Or.inl rfl) | exact Or.inr (Or.inr rfl)) (by decide) (by decide)) (@pe_op _ _ _ _ _ _ _ _ op_mul (@pe_int _ _ _ _) (@pv _ 1 _ _ (by rfl) (by first | exact Or.inl rfl | exact Or.inr (Or.inl rfl) | exact Or.inr (Or.inr rfl)) (by decide) (by decide)))) (@pe_int _ _ _ _)) (@pa_cons _ _ _ _ _ (@pe_bl _ _ _ _) (@pa_nil _) (by rfl)) (by rfl))))) (@pss_nil _)) (@pss_one _ _ _ (@ps_ret _ _ _ _ (@pe_lst _ _ _ _ (@pa_cons _ _ _ _ _ (@pv _ 2 _ _ (by rfl) (by first | exact Or.inl rfl | exact Or.inr (Or.inl rfl) | exact Or.inr (Or.inr rfl)) (by decide) (by decide)) (@pa_cons _ _ _ _ _ (@pe_bl _ _ _ _) (@pa_nil _) (by rfl)) (by rfl)))))))), ?_⟩
  refine ⟨_, rfl, _, rfl, a, _, rfl, .inl hS, _, _, rfl, rfl, _, rfl, ite2 (fun c => ?_) (fun c => ?_)⟩
  · have c' := of_decide_eq_true c
    rw [List.length_map] at c'
    obtain ⟨v, hv⟩ := ints_at k0 c'
    refine ⟨_, rfl, _, rfl, a, _, _, _, rfl, rfl, hS, hv, ?_⟩
    refine ⟨_, rfl, _, _, rfl, rfl, p15, _, _, rfl, rfl, _, rfl, ite2 (fun d => ?_) (fun d => ?_)⟩
    · exact ⟨_, rfl, _, rfl, _, _, rfl, rfl, .inl ⟨by decide, by decide⟩, _, _, rfl, rfl, _, _, rfl, rfl, z2, fun l hl => q _ l (same_new hl _) hl ⟨_, _, upd_same⟩⟩
    · exact ⟨_, rfl, z2, fun l hl => q _ l (same_new hl _) hl ⟨_, _, upd_same⟩⟩
  · refine ⟨_, rfl, _, _, rfl, rfl, p15, _, _, rfl, rfl, _, rfl, ite2 (fun d => ?_) (fun d => ?_)⟩
    · exact ⟨_, rfl, _, rfl, _, _, rfl, rfl, .inl ⟨by decide, by decide⟩, _, _, rfl, rfl, _, _, rfl, rfl, z2, fun l hl => q _ l (same_new hl _) hl ⟨_, _, upd_same⟩⟩
    · exact ⟨_, rfl, z2, fun l hl => q _ l (same_new hl _) hl ⟨_, _, upd_same⟩⟩
theorem sc_names : FnScope ["_law_state_here", "_law_many", "_law_letters", "_law_stem", "_law_k", "_law_at", "_law_turn", "_law_ends"] ["_law_state_here", "_law_many"] (defScope s_names) := ⟨rfl, rfl, rfl, by decide +kernel, rfl, by decide +kernel, by decide +kernel⟩
theorem ok_names {f : Addr} {fd : FuncData} {k : Nat} (F : Fun K "_law_names" "_law_names" s_names f fd) (T : Txt K mg) (D_law_draw : Def P w K mg base k "_law_draw" ["_law_state_here", "_law_many"] spDraw) : FnOk P w K mg base CX0 (k + 1) f fd ["_law_state_here", "_law_many"] spNames := by
  have nd : (["_law_state_here", "_law_many", "_law_letters", "_law_stem", "_law_k", "_law_at", "_law_turn", "_law_ends"] : List Str).Nodup := sc_names.nd
  refine F.ok sc_names (fun vs H Q E h => ?_) (fun cdv A outer s H vs Q E hr h => ?_)
  · obtain ⟨a, m, rfl, _⟩ := h
    rfl
  obtain ⟨a, m, rfl, h2, m10, q⟩ := h
  refine ⟨_, (@pss_cons _ _ _ _ _ (@ps_set _ _ (2) _ _ _ _ nd rfl (Or.inr rfl) (@pe_str _ _ _ _) (by rfl) (by first | exact .inl rfl | exact .inr rfl | assumption)) (@pss_cons _ _ _ _ _ (@ps_set _ _ (3) _ _ _ _ nd rfl (Or.inr rfl) (@pe_str _ _ _ _) (by rfl) (by first | exact .inl rfl | exact .inr rfl | assumption)) (@pss_cons _ _ _ _ _ (@ps_for _ _ _ _ _ _ _ _ PassesOwn.never rfl (@pi_range1 _ _ _ _ _ _ rfl T.range (@pa_cons _ _ _ _ _ (@pe_def _ _ _ _ _ _ _ _ _ _ D_law_draw hr rfl (@pa_cons _ _ _ _ _ (@pv _ 0 _ _ (by rfl) (by first | exact Or.inl rfl | exact Or.inr (Or.inl rfl) | exact Or.inr (Or.inr rfl)) (by decide) (by decide)) (@pa_cons _ _ _ _ _ (@pe_int _ _ _ _) (@pa_nil _) (by rfl)) (by rfl)) (by decide) (by rfl) (by rfl)) (@pa_nil _) (by rfl)) (by rfl)) (@pg_name _ _ (4) _ nd rfl (Or.inl rfl) (by first | exact .inl rfl | exact .inr rfl | assumption)) (@pss_one _ _ _ (@ps_set _ _ (3) _ _ _ _ nd rfl (Or.inr rfl) (@pe_op _ _ _ _ _ _ _ _ op_add_str (@pv _ 3 _ _ (by rfl) (by first | exact Or.inl rfl | exact Or.inr (Or.inl rfl) | exact Or.inr (Or.inr rfl)) (by decide) (by decide)) (@pe_ix _ _ _ _ _ _ _ ix_str (@pv _ 2 _ _ (by rfl) (by first | exact Or.inl rfl | exact Or.inr (Or.inl rfl) | exact Or.inr (Or.inr rfl)) (by decide) (by decide)) (@pe_def _ _ _ _ _ _ _ _ _ _ D_law_draw hr rfl (@pa_cons _ _ _ _ _ (@pv _ 0 _ _ (by rfl) (by first | exact Or.inl rfl | exact Or.inr (Or.inl rfl) | exact Or.inr (Or.inr rfl)) (by decide) (by decide)) (@pa_cons _ _ _ _ _ (@pe_int _ _ _ _) (@pa_nil _) (by rfl)) (by rfl)) (by decide) (by rfl) (by rfl)) (fun _ _ => rfl))) (by rfl) (by first | exact .inl rfl | exact .inr rfl | assumption))) (by intro _; rfl)) (@pss_cons _ _ _ _ _ (@ps_set _ _ (5) _ _ _ _ nd rfl (Or.inr rfl) (@pe_def _ _ _ _ _ _ _ _ _ _ D_law_draw hr rfl (@pa_cons _ _ _ _ _ (@pv _ 0 _ _ (by rfl) (by first | exact Or.inl rfl | exact Or.inr (Or.inl rfl) | exact Or.inr (Or.inr rfl)) (by decide) (by decide)) (@pa_cons _ _ _ _ _ (@pe_op _ _ _ _ _ _ _ _ op_add (@pe_callB _ _ _ _ _ _ _ _ _ call_len_str rfl T.len (by decide +kernel) (@pa_cons _ _ _ _ _ (@pv _ 3 _ _ (by rfl) (by first | exact Or.inl rfl | exact Or.inr (Or.inl rfl) | exact Or.inr (Or.inr rfl)) (by decide) (by decide)) (@pa_nil _) (by rfl)) (by decide) (by decide) (by rfl) (by rfl)) (@pe_int _ _ _ _)) (@pa_nil _) (by rfl)) (by rfl)) (by decide) (by rfl) (by rfl)) (by rfl) (by first | exact .inl rfl | exact .inr rfl | assumption)) (@pss_cons _ _ _ _ _ (@ps_set _ _ (6) _ _ _ _ nd rfl (Or.inr rfl) (@pe_def _ _ _ _ _ _ _ _ _ _ D_law_draw hr rfl (@pa_cons _ _ _ _ _ (@pv _ 0 _ _ (by rfl) (by first | exact Or.inl rfl | exact Or.inr (Or.inl rfl) | exact Or.inr (Or.inr rfl)) (by decide) (by decide)) (@pa_cons _ _ _ _ _ (@pe_int _ _ _ _) (@pa_nil _) (by rfl)) (by rfl)) (by decide) (by rfl) (by rfl)) (by rfl) (by first | exact .inl rfl | exact .inr rfl | assumption)) (@pss_cons _ _ _ _ _ (@ps_set _ _ (7) _ _ _ _ nd rfl (Or.inr rfl) (@pe_lst _ _ _ _ (@pa_cons _ _ _ _ _ (@pe_slice _ _ _ _ _ _ _ _ _ _ sl_str (@pv _ 3 _ _ (by rfl) (by first | exact Or.inl rfl | exact Or.inr (Or.inl rfl) | exact Or.inr (Or.inr rfl)) (by decide) (by decide)) (@po_some _ _ _ (@pv _ 5 _ _ (by rfl) (by first | exact Or.inl rfl | exact Or.inr (Or.inl rfl) | exact Or.inr (Or.inr rfl)) (by decide) (by decide))) (@po_none _)) (@pa_cons _ _ _ _ _ (@pe_op _ _ _ _ _ _ _ _ op_mul_str (@pe_slice _ _ _ _ _ _ _ _ _ _ sl_str (@pv _ 3 _ _ (by rfl) (by first | exact Or.inl rfl | exact Or.inr (Or.inl rfl) | exact Or.inr (Or.inr rfl)) (by decide) (by decide)) (@po_some _ _ _ (@pv _ 5 _ _ (by rfl) (by first | exact Or.inl rfl | exact Or.inr (Or.inl rfl) | exact Or.inr (Or.inr rfl)) (by decide) (by decide))) (@po_none _)) (@pe_callTy _ _ _ _ _ _ _ _ _ call_int1 rfl T.int (by decide +kernel) (@pa_cons _ _ _ _ _ (@pe_cmpR _ _ _ _ _ _ _ _ op_gt (@pe_op _ _ _ _ _ _ _ _ op_mod (@pv _ 6 _ _ (by rfl) (by first | exact Or.inl rfl | exact Or.inr (Or.inl rfl) | exact Or.inr (Or.inr rfl)) (by decide) (by decide)) (@pe_int _ _ _ _)) (@pe_int _ _ _ _) (nomark _)) (@pa_nil _) (by rfl)) (by decide) (by decide) (by rfl) (by rfl))) (@pa_nil _) (by rfl)) (by rfl))) (by rfl) (by first | exact .inl rfl | exact .inr rfl | assumption)) (@pss_one _ _ _ (@ps_ret _ _ _ _ (@pe_lc _ _ (["_law_k"]) ([2, 3, 5, 6, 7]) _ _ _ _ _ _ _ _ _ (@pi_range1 _ _ _ _ _ _ rfl T.range (@pa_cons _ _ _ _ _ (@pv _ 1 _ _ (by rfl) (by first | exact Or.inl rfl | exact Or.inr (Or.inl rfl) | exact Or.inr (Or.inr rfl)) (by decide) (by decide)) (@pa_nil _) (by rfl)) (by rfl)) (.of rfl) rfl (fun _ _ _ => pg_name (i := 0) (lc_nd (l := ["_law_k", "_law_letters", "_law_stem", "_law_at", "_law_turn", "_law_ends"]) ((by decide +kernel)) rfl) rfl (Or.inl rfl)) (gw_name (by decide)) (fun _ _ _ => (@pif_nil _)) (fun _ _ _ => (@pe_op _ _ _ _ _ _ _ _ op_add_str (@pe_op _ _ _ _ _ _ _ _ op_add_str (@pe_slice _ _ _ _ _ _ _ _ _ _ sl_str (@pv _ 2 _ _ (by rfl) (by first | exact Or.inl rfl | exact Or.inr (Or.inl rfl) | exact Or.inr (Or.inr rfl)) (by decide) (by decide)) (@po_none _) (@po_some _ _ _ (@pv _ 3 _ _ (by rfl) (by first | exact Or.inl rfl | exact Or.inr (Or.inl rfl) | exact Or.inr (Or.inr rfl)) (by decide) (by decide)))) (@pe_ix _ _ _ _ _ _ _ ix_str (@pv _ 1 _ _ (by rfl) (by first | exact Or.inl rfl | exact Or.inr (Or.inl rfl) | exact Or.inr (Or.inr rfl)) (by decide) (by decide)) (@pe_op _ _ _ _ _ _ _ _ op_mod (@pe_op _ _ _ _ _ _ _ _ op_add (@pv _ 4 _ _ (by rfl) (by first | exact Or.inl rfl | exact Or.inr (Or.inl rfl) | exact Or.inr (Or.inr rfl)) (by decide) (by decide)) (@pe_op _ _ _ _ _ _ _ _ op_mul (@pe_int _ _ _ _) (@pv _ 0 _ _ (by rfl) (by first | exact Or.inl rfl | exact Or.inr (Or.inl rfl) | exact Or.inr (Or.inr rfl)) (by decide) (by decide)))) (@pe_int _ _ _ _)) (fun _ _ => rfl))) (@pe_ix _ _ _ _ _ _ _ (ix_listK K rfl) (@pv _ 5 _ _ (by rfl) (by first | exact Or.inl rfl | exact Or.inr (Or.inl rfl) | exact Or.inr (Or.inr rfl)) (by decide) (by decide)) (@pe_op _ _ _ _ _ _ _ _ op_mod (@pv _ 0 _ _ (by rfl) (by first | exact Or.inl rfl | exact Or.inr (Or.inl rfl) | exact Or.inr (Or.inr rfl)) (by decide) (by decide)) (@pe_int _ _ _ _)) (fun _ _ => rfl)))) (by intro _; rfl)))))))))), ?_⟩
  have abc : (Str.ofString "bcdfghjklmnpqrstvwxyz").length ≤ sizeLine := by rw [sizeLine_eq]; decide +kernel
  refine ⟨_, rfl, a, 8, rfl, h2, by decide, by decide, fun H1 x s1 st1 x0 x8 => ?_⟩
  refine ⟨x, rfl, by omega, by omega, for_range (n := x.toNat) (fun i σ H' => ∃ (stem : Str) (o1 : Option V), σ = [some (.ref a), some (.int m), some (.str "bcdfghjklmnpqrstvwxyz"), some (.str stem), o1, none, none, none] ∧ SameB a H H' ∧ St2 H' a ∧ Az stem i) ⟨_, _, rfl, s1, st1, az_empty⟩ ?T1 ?_⟩
  case T1 =>
    rintro i σ H2 hi ⟨stem, o1, rfl, s2, st2, az⟩
    refine ⟨_, rfl, _, rfl, _, rfl, a, 21, rfl, st2, by decide, by decide, fun H3 y s3 st3 y0 y1 => ?_⟩
    obtain ⟨ch, hc, hz⟩ := letterI y0 y1
    refine ⟨_, _, ch, rfl, rfl, abc, hc, _, _, rfl, rfl, ?_, ?_⟩
    · rw [az.len, (az_one hz).len, sizeLine_eq]; omega
    · exact ⟨_, _, rfl, s2.trans s3, st3, az_app az (az_one hz)⟩
  rintro σ H2 ⟨stem, o1, rfl, s2, st2, az⟩
  have ln := az.len
  have stl : stem.length ≤ sizeLine := by rw [ln, sizeLine_eq]; omega
  refine ⟨_, rfl, _, rfl, _, rfl, stl, _, _, rfl, rfl, a, _, rfl, st2, by omega, by rw [ln]; omega, fun H3 y s3 st3 y0 y1 => ?_⟩
  refine ⟨_, rfl, a, 21, rfl, st3, by decide, by decide, fun H4 z s4 st4 z0 z1 => ?_⟩
  have at1 : y ≤ x.toNat := by rw [ln] at y1; omega
  have zf := az_from az y0 at1
  have zt := az_to az y0 at1
  obtain ⟨u, zu, hu'⟩ : ∃ u, Az (Txt.mul (Txt.slice stem (some y) none) (if decide (0 < z % 3) = true then 1 else 0)) u ∧ u ≤ x.toNat - y.toNat := by
    by_cases h : 0 < z % 3
    · rw [decide_eq_true h]
      exact ⟨_, az_mul1 zf, Nat.le_refl _⟩
    · rw [decide_eq_false h]
      exact ⟨_, az_mul0, Nat.zero_le _⟩
  have sl : (Txt.slice stem (some y) none).length ≤ 1000 := by rw [zf.len]; omega
  refine ⟨_, rfl, _, rfl, _, rfl, _, rfl, stl, _, rfl, _, rfl, _, rfl, _, rfl, stl, _, rfl, _, _, rfl, rfl, (by show (0 : Int) < 3; decide), _, _, rfl, rfl, .inr ⟨_, rfl, _, _, rfl, rfl, sl, ?_, ?_, (by show 2 ≤ sizeLine; rw [sizeLine_eq]; decide), fun e1 he1 => ?_⟩⟩
  · split <;> decide
  · split <;> decide
  have q5 := same_new he1 (.lst [.str (Txt.slice stem (some y) none), .str (Txt.mul (Txt.slice stem (some y) none) (if decide (0 < z % 3) = true then 1 else 0))])
  have h5 : upd H4 e1 (.lst [.str (Txt.slice stem (some y) none), .str (Txt.mul (Txt.slice stem (some y) none) (if decide (0 < z % 3) = true then 1 else 0))]) e1 = some (.lst [.str (Txt.slice stem (some y) none), .str (Txt.mul (Txt.slice stem (some y) none) (if decide (0 < z % 3) = true then 1 else 0))]) := upd_same
  replace s4 := s4.trans (Same.b a q5)
  replace st4 := st4.m q5
  generalize upd H4 e1 (.lst [.str (Txt.slice stem (some y) none), .str (Txt.mul (Txt.slice stem (some y) none) (if decide (0 < z % 3) = true then 1 else 0))]) = H4' at q5 h5 s4 st4 ⊢
  refine ⟨_, rfl, _, rfl, by omega, by omega, lc_range (n := ((m : Int)).toNat) (fun i ys H' => H' = H4' ∧ ∃ ws : List Str, ys = ws.map V.str ∧ ws.length = i ∧ (∀ z ∈ ws, nmB z = true) ∧ Nth z y.toNat ws) ⟨rfl, [], rfl, rfl, by simp, Nth.nil⟩ ?_ ?_⟩
  · rintro i ys H5 hi ⟨rfl, ws, rfl, hw, hw1, nth⟩
    obtain ⟨b0, b1⟩ := mod_lt (a := z + 5 * ((0 : Int) + (i : Int))) 21 (by decide)
    obtain ⟨ch, hc, hz2⟩ := letterI b0 b1
    have g1 := az_app zt (az_one hz2)
    obtain ⟨y2, t, hy, zy, ht⟩ : ∃ (y2 : Str) (t : Nat), atI ([V.str (Txt.slice stem (some y) none), V.str (Txt.mul (Txt.slice stem (some y) none) (if decide (0 < z % 3) = true then 1 else 0))] : List V) ((0 + (i : Int)) % 2) = some (.str y2) ∧ Az y2 t ∧ t ≤ x.toNat - y.toNat := by
      rcases Int.emod_two_eq (0 + (i : Int)) with h | h
      · rw [h]; exact ⟨_, _, atI_nat (j := 0) rfl, zf, Nat.le_refl _⟩
      · rw [h]; exact ⟨_, _, atI_nat (j := 1) rfl, zu, hu'⟩
    have g2 := az_app g1 zy
    refine turn_name ⟨_, rfl, _, rfl, _, rfl, _, rfl, stl, _, rfl, _, rfl, _, rfl, _, _, rfl, rfl, .inl ⟨by decide, by decide⟩, _, _, rfl, rfl, _, _, rfl, rfl, (by show (0 : Int) < 21; decide), _, _, ch, rfl, rfl, abc, hc, _, _, rfl, rfl, ?_, _, rfl, _, rfl, _, _, rfl, rfl, (by show (0 : Int) < 2; decide), e1, _, _, .str y2, rfl, rfl, SqL.of h5, hy, _, _, rfl, rfl, ?_, ?_, rfl, ws ++ [Txt.slice stem none (some y) ++ ⟨#[ch]⟩ ++ y2], by simp, by simp [hw], fun w hw' => ?_, nth.snoc (by rw [hw, ← Int.zero_add (i : Int)]; exact hc) zt.1⟩
    · rw [zt.len, (az_one hz2).len, sizeLine_eq]; omega
    · rw [g1.len, zy.len, sizeLine_eq]; omega
    · rw [List.length_map, sizeLine_eq]; omega
    · rcases List.mem_append.mp hw' with h | h
      · exact hw1 w h
      · rw [List.mem_singleton.mp h]; exact az_nm g2 (by omega) (by omega)
  rintro ys H5 ⟨rfl, ws, rfl, hw, hw1, nth⟩ r hr'
  have s05 : SameB a H H5 := s2.trans (s3.trans s4)
  have hra : r ≠ a := fun e => by obtain ⟨n, b, e2⟩ := st4; rw [e, e2] at hr'; cases hr'
  have hrn : H r = none := by
    cases e : H r with
    | none => rfl
    | some o => have := s05 r o hra e; rw [hr'] at this; cases this
  exact q _ r ws (s05.trans (Same.b a (same_new hr' _))) (st4.m (same_new hr' _)) hrn upd_same (by rw [hw]; omega) hw1 (nth.nodup (by rw [hw]; omega))
end
end K61
set_option maxHeartbeats 1000000
namespace K61
open PySem L2 KB
abbrev s_length : Stmt := top 41
structure Ln (xs : List Str) (most : Int) (c : Int) (ps : List Pr) : Prop where
  c0 : 0 ≤ c
  cB : c ≤ most
  can : Canon ps
  nm : ∀ p ∈ ps, p.1 ∈ xs ∧ p.2 ≤ most
  len : ps.length ≤ 10
def spLength : Sp := fun vs H Q _ => ∃ (a b : Addr) (m : Int) (xs : List Str), vs = [.ref a, .ref b, .int m] ∧ St2 H a ∧ H b = some (.lst (xs.map V.str)) ∧ b ≠ a ∧ xs.length ≤ 10 ∧ 2 ≤ m ∧ m < 10 ^ 60 + 1 ∧
  ∀ (H' : Hp) (v : V) (c : Int) (ps : List Pr), SameB a H H' → St2 H' a → Rep H' (lenDv c ps) v → Ln xs m c ps → Q v H'
theorem pick4 {i : Int} (h0 : 0 ≤ i) (h1 : i < 4) : ∃ n : Int, atI ([V.int 0, V.int 0, V.int 1, V.int 2] : List V) i = some (.int n) ∧ 0 ≤ n ∧ n ≤ 2 := by
  have e : i = 0 ∨ i = 1 ∨ i = 2 ∨ i = 3 := by omega
  rcases e with rfl | rfl | rfl | rfl
  · exact ⟨0, atI_nat (j := 0) rfl, by decide⟩
  · exact ⟨0, atI_nat (j := 1) rfl, by decide⟩
  · exact ⟨1, atI_nat (j := 2) rfl, by decide⟩
  · exact ⟨2, atI_nat (j := 3) rfl, by decide⟩
theorem z4 : 4 ≤ sizeLine := by rw [sizeLine_eq]; decide
section
variable {P : Program} {w : World} {K : PySem.W.Frag} {mg : Str → Option Value} {base : Heap}
theorem sc_length : FnScope ["_law_state_here", "_law_names_here", "_law_most", "_law_counts", "_law_name", "_law_way", "_law_count"] ["_law_state_here", "_law_names_here", "_law_most"] (defScope s_length) := ⟨rfl, rfl, rfl, by decide +kernel, rfl, by decide +kernel, by decide +kernel⟩
theorem ok_length {f : Addr} {fd : FuncData} {k : Nat} (F : Fun K "_law_length" "_law_length" s_length f fd) (T : Txt K mg) (D_law_draw : Def P w K mg base k "_law_draw" ["_law_state_here", "_law_many"] spDraw) : FnOk P w K mg base CX0 (k + 1) f fd ["_law_state_here", "_law_names_here", "_law_most"] spLength := by
  have nd : (["_law_state_here", "_law_names_here", "_law_most", "_law_counts", "_law_name", "_law_way", "_law_count"] : List Str).Nodup := sc_length.nd
  refine F.ok sc_length (fun vs H Q E h => ?_) (fun cdv A outer s H vs Q E hr h => ?_)
  · obtain ⟨a, b, m, xs, rfl, _⟩ := h
    rfl
  obtain ⟨a, b, m, xs, rfl, st, hb, hba, lx, m2, mB, q⟩ := h
  have hu := hu_of hr
  refine ⟨_, (@pss_cons _ _ _ _ _ (@ps_set _ _ (3) _ _ _ _ nd rfl (Or.inl rfl) (@pe_dnewK _ _) (by rfl) (by first | exact .inl rfl | exact .inr rfl | assumption)) (@pss_cons _ _ _ _ _ (@ps_for _ _ _ _ _ _ _ _ PassesOwn.never rfl (@pi_list _ _ _ _ (@pv _ 1 _ _ (by rfl) (by first | exact Or.inl rfl | exact Or.inr (Or.inl rfl) | exact Or.inr (Or.inr rfl)) (by decide) (by decide))) (@pg_name _ _ (4) _ nd rfl (Or.inl rfl) (by first | exact .inl rfl | exact .inr rfl | assumption)) (@pss_cons _ _ _ _ _ (@ps_set _ _ (5) _ _ _ _ nd rfl (Or.inl rfl) (@pe_def _ _ _ _ _ _ _ _ _ _ D_law_draw hr rfl (@pa_cons _ _ _ _ _ (@pv _ 0 _ _ (by rfl) (by first | exact Or.inl rfl | exact Or.inr (Or.inl rfl) | exact Or.inr (Or.inr rfl)) (by decide) (by decide)) (@pa_cons _ _ _ _ _ (@pe_int _ _ _ _) (@pa_nil _) (by rfl)) (by rfl)) (by decide) (by rfl) (by rfl)) (by rfl) (by first | exact .inl rfl | exact .inr rfl | assumption)) (@pss_cons _ _ _ _ _ (@ps_if _ _ _ _ _ _ _ _ (@pt_cmpR _ _ _ _ _ _ _ _ op_gt (@pv _ 5 _ _ (by rfl) (by first | exact Or.inl rfl | exact Or.inr (Or.inl rfl) | exact Or.inr (Or.inr rfl)) (by decide) (by decide)) (@pe_int _ _ _ _) (nomark _)) (@pss_one _ _ _ (@ps_dput _ _ _ _ _ _ _ _ _ hu (@pv _ 3 _ _ (by rfl) (by first | exact Or.inl rfl | exact Or.inr (Or.inl rfl) | exact Or.inr (Or.inr rfl)) (by decide) (by decide)) (@pv _ 4 _ _ (by rfl) (by first | exact Or.inl rfl | exact Or.inr (Or.inl rfl) | exact Or.inr (Or.inr rfl)) (by decide) (by decide)) (@pe_int _ _ _ _) rfl)) (@pss_nil _)) (@pss_one _ _ _ (@ps_if _ _ _ _ _ _ _ _ (@pt_cmpR _ _ _ _ _ _ _ _ op_eq (@pv _ 5 _ _ (by rfl) (by first | exact Or.inl rfl | exact Or.inr (Or.inl rfl) | exact Or.inr (Or.inr rfl)) (by decide) (by decide)) (@pe_int _ _ _ _) (nomark _)) (@pss_one _ _ _ (@ps_dput _ _ _ _ _ _ _ _ _ hu (@pv _ 3 _ _ (by rfl) (by first | exact Or.inl rfl | exact Or.inr (Or.inl rfl) | exact Or.inr (Or.inr rfl)) (by decide) (by decide)) (@pv _ 4 _ _ (by rfl) (by first | exact Or.inl rfl | exact Or.inr (Or.inl rfl) | exact Or.inr (Or.inr rfl)) (by decide) (by decide)) (@pe_op _ _ _ _ _ _ _ _ op_add (@pe_int _ _ _ _) (@pe_def _ _ _ _ _ _ _ _ _ _ D_law_draw hr rfl (@pa_cons _ _ _ _ _ (@pv _ 0 _ _ (by rfl) (by first | exact Or.inl rfl | exact Or.inr (Or.inl rfl) | exact Or.inr (Or.inr rfl)) (by decide) (by decide)) (@pa_cons _ _ _ _ _ (@pv _ 2 _ _ (by rfl) (by first | exact Or.inl rfl | exact Or.inr (Or.inl rfl) | exact Or.inr (Or.inr rfl)) (by decide) (by decide)) (@pa_nil _) (by rfl)) (by rfl)) (by decide) (by rfl) (by rfl))) rfl)) (@pss_nil _))))) (by intro _; rfl)) (@pss_cons _ _ _ _ _ (@ps_set _ _ (6) _ _ _ _ nd rfl (Or.inl rfl) (@pe_ix _ _ _ _ _ _ _ ix_list (@pe_lst _ _ _ _ (@pa_cons _ _ _ _ _ (@pe_int _ _ _ _) (@pa_cons _ _ _ _ _ (@pe_int _ _ _ _) (@pa_cons _ _ _ _ _ (@pe_int _ _ _ _) (@pa_cons _ _ _ _ _ (@pe_int _ _ _ _) (@pa_nil _) (by rfl)) (by rfl)) (by rfl)) (by rfl))) (@pe_def _ _ _ _ _ _ _ _ _ _ D_law_draw hr rfl (@pa_cons _ _ _ _ _ (@pv _ 0 _ _ (by rfl) (by first | exact Or.inl rfl | exact Or.inr (Or.inl rfl) | exact Or.inr (Or.inr rfl)) (by decide) (by decide)) (@pa_cons _ _ _ _ _ (@pe_int _ _ _ _) (@pa_nil _) (by rfl)) (by rfl)) (by decide) (by rfl) (by rfl)) (fun _ _ => rfl)) (by rfl) (by first | exact .inl rfl | exact .inr rfl | assumption)) (@pss_cons _ _ _ _ _ (@ps_if _ _ _ _ _ _ _ _ (@pt_cmpR _ _ _ _ _ _ _ _ op_eq (@pv _ 6 _ _ (by rfl) (by first | exact Or.inl rfl | exact Or.inr (Or.inl rfl) | exact Or.inr (Or.inr rfl)) (by decide) (by decide)) (@pe_int _ _ _ _) (nomark _)) (@pss_one _ _ _ (@ps_set _ _ (6) _ _ _ _ nd rfl (Or.inl rfl) (@pe_def _ _ _ _ _ _ _ _ _ _ D_law_draw hr rfl (@pa_cons _ _ _ _ _ (@pv _ 0 _ _ (by rfl) (by first | exact Or.inl rfl | exact Or.inr (Or.inl rfl) | exact Or.inr (Or.inr rfl)) (by decide) (by decide)) (@pa_cons _ _ _ _ _ (@pe_op _ _ _ _ _ _ _ _ op_add (@pv _ 2 _ _ (by rfl) (by first | exact Or.inl rfl | exact Or.inr (Or.inl rfl) | exact Or.inr (Or.inr rfl)) (by decide) (by decide)) (@pe_int _ _ _ _)) (@pa_nil _) (by rfl)) (by rfl)) (by decide) (by rfl) (by rfl)) (by rfl) (by first | exact .inl rfl | exact .inr rfl | assumption))) (@pss_nil _)) (@pss_one _ _ _ (@ps_ret _ _ _ _ (@pe_tup _ _ _ _ _ (@pa_cons _ _ _ _ _ (@pv _ 6 _ _ (by rfl) (by first | exact Or.inl rfl | exact Or.inr (Or.inl rfl) | exact Or.inr (Or.inr rfl)) (by decide) (by decide)) (@pa_cons _ _ _ _ _ (@pe_callTy _ _ _ _ _ _ _ _ _ call_tuple_of rfl T.tuple (by decide +kernel) (@pa_cons _ _ _ _ _ (@pe_callB _ _ _ _ _ _ _ _ _ (call_sortedI rfl) rfl T.sorted (by decide +kernel) (@pa_cons _ _ _ _ _ (@pe_bm0 _ _ _ _ _ _ _ _ _ PySem.F.plainAttrs_dict PySem.F.slot_dict_items PySem.F.type_dict_items mt_items (@pv _ 3 _ _ (by rfl) (by first | exact Or.inl rfl | exact Or.inr (Or.inl rfl) | exact Or.inr (Or.inr rfl)) (by decide) (by decide)) (by rfl) (by rfl)) (@pa_nil _) (by rfl)) (by decide) (by decide) (by rfl) (by rfl)) (@pa_nil _) (by rfl)) (by decide) (by decide) (by rfl) (by rfl)) (@pa_nil _) (by rfl)) (by rfl))))))))), ?_⟩
  intro d hd
  have s0 : SameB a H (upd H d (.dK [])) := Same.b a (same_new hd _)
  have da : d ≠ a := fun e => by obtain ⟨n, c, e2⟩ := st; rw [e, e2] at hd; cases hd
  have db : b ≠ d := ne_of_none hb hd
  refine ⟨_, rfl, b, rfl, ⟨_, SqL.of (s0 _ _ hba hb)⟩, for_list (xs := xs.map V.str) (fun i σ H' => ∃ (kvs : List Pr) (o1 o2 : Option V), σ = [some (.ref a), some (.ref b), some (.int m), some (.ref d), o1, o2, none] ∧ SameB a H H' ∧ St2 H' a ∧ H' d = some (.dK (dk kvs)) ∧ (kvs.map (·.1)).Nodup ∧ kvs.length ≤ i ∧ ∀ p ∈ kvs, p.1 ∈ xs ∧ 1 ≤ p.2 ∧ p.2 ≤ m)
    ⟨[], _, _, rfl, s0, st.m (same_new hd _), upd_same, by simp, by simp, by simp⟩ (fun i σ H' _ ⟨_, _, _, _, s1, _⟩ => SqL.of (s1 _ _ hba hb)) ?T1 ?_⟩
  case T1 =>
    rintro i x σ H1 hx ⟨kvs, o1, o2, rfl, s1, st1, d1, ndk, lk, hall⟩
    rw [List.getElem?_map] at hx
    obtain ⟨y, hy, rfl⟩ := Option.map_eq_some_iff.mp hx
    have hi : i < xs.length := (List.getElem?_eq_some_iff.mp hy).1
    have hyx := List.mem_of_getElem? hy
    refine ⟨_, rfl, a, 4, rfl, st1, by decide, by decide, fun H2 z s2 st2 z0 z4 => ?_⟩
    have d2 := s2 _ _ da d1
    have put : ∀ (H3 : Hp) (kv : List Pr) (n : Int), (kv.map (·.1)).Nodup → kv.length ≤ i + 1 → (kv.length ≤ i ∨ y ∈ kv.map (·.1)) → (∀ p ∈ kv, p.1 ∈ xs ∧ 1 ≤ p.2 ∧ p.2 ≤ m) → SameB a H H3 → St2 H3 a → H3 d = some (.dK (dk kv)) → 1 ≤ n → n ≤ m →
        (SameB a H (upd H3 d (.dK (putK (dk kv) (Sum.inr y) (.int n)))) ∧ St2 (upd H3 d (.dK (putK (dk kv) (Sum.inr y) (.int n)))) a ∧ upd H3 d (.dK (putK (dk kv) (Sum.inr y) (.int n))) d = some (.dK (dk (putS kv y n))) ∧ ((putS kv y n).map (·.1)).Nodup ∧ (putS kv y n).length ≤ i + 1 ∧ y ∈ (putS kv y n).map (·.1) ∧ ∀ p ∈ putS kv y n, p.1 ∈ xs ∧ 1 ≤ p.2 ∧ p.2 ≤ m) := fun H3 kv n ndv lv or hv s3 st3 d3 n1 nm => by
      refine ⟨fun g o hg e => ?_, st3.b (SameB.upd _ _ _) (Ne.symm da), by rw [upd_same, dk_put], putS_keys ndv, ?_, ?_, putS_all (R := fun p => p.1 ∈ xs ∧ 1 ≤ p.2 ∧ p.2 ≤ m) hv ⟨hyx, n1, nm⟩⟩
      · rw [upd_ne (ne_of_none e hd)]; exact s3 g o hg e
      · rcases or with h | h
        · exact Nat.le_trans (putS_len _ _ _) (by omega)
        · have := congrArg List.length (putS_same (n := n) h); rw [List.length_map, List.length_map] at this; omega
      · by_cases h : y ∈ kv.map (·.1)
        · rw [putS_same h]; exact h
        · rw [putS_new h, List.map_append]; exact List.mem_append.mpr (.inr (by simp))
    have szd : ∀ kv : List Pr, kv.length ≤ i + 1 → (dk kv).length < sizeLine := fun kv h => by rw [show (dk kv).length = kv.length from List.length_map _, sizeLine_eq]; omega
    refine ⟨_, rfl, _, _, rfl, rfl, _, rfl, ite2 (fun h1 => ?_) (fun h1 => ?_)⟩
    · refine ⟨_, rfl, _, rfl, d, _, rfl, DPut.k (k := Sum.inr y) d2 (szd _ (by omega)), ?_⟩
      obtain ⟨s3, st3, d3, nd3, l3, i3, a3⟩ := put H2 kvs 1 ndk (by omega) (.inl lk) hall (s1.trans s2) st2 d2 (by decide) (by omega)
      generalize upd H2 d (.dK (putK (dk kvs) (Sum.inr y) (.int 1))) = H3 at s3 st3 d3 ⊢
      generalize putS kvs y 1 = kv at d3 nd3 l3 i3 a3
      refine ⟨_, rfl, rfl, _, rfl, ite2 (fun h3 => ?_) (fun h3 => ⟨kv, _, _, rfl, s3, st3, d3, nd3, l3, a3⟩)⟩
      refine ⟨_, rfl, _, rfl, a, m, rfl, st3, by omega, by omega, fun H4 n s4 st4 n0 n1 => ?_⟩
      refine ⟨_, _, rfl, rfl, _, rfl, _, rfl, d, _, rfl, DPut.k (k := Sum.inr y) (s4 _ _ da d3) (szd _ l3), ?_⟩
      obtain ⟨s5, st5, d5, nd5, l5, i5, a5⟩ := put H4 kv (1 + n) nd3 l3 (.inr i3) a3 (s3.trans s4) st4 (s4 _ _ da d3) (by omega) (by omega)
      exact ⟨_, _, _, rfl, s5, st5, d5, nd5, l5, a5⟩
    · refine ⟨_, rfl, rfl, _, rfl, ite2 (fun h3 => ?_) (fun h3 => ⟨kvs, _, _, rfl, s1.trans s2, st2, d2, ndk, by omega, hall⟩)⟩
      exact absurd (eqI h3) (fun e => h1 (decide_eq_true (by omega)))
  rintro σ H1 ⟨kvs, o1, o2, rfl, s1, st1, d1, ndk, lk, hall⟩
  rw [List.length_map] at lk
  refine ⟨z4, fun l hl => ?_⟩
  have q1 := same_new hl (.lst [V.int 0, .int 0, .int 1, .int 2])
  refine ⟨_, rfl, a, 4, rfl, st1.m q1, by decide, by decide, fun H2 z s2 st2 z0 z4' => ?_⟩
  have la : l ≠ a := fun e => by obtain ⟨n, c, e2⟩ := st1; rw [e, e2] at hl; cases hl
  obtain ⟨n, hn, n0, n2⟩ := pick4 z0 z4'
  refine ⟨l, _, _, .int n, rfl, rfl, SqL.of (s2 _ _ la upd_same), hn, ?_⟩
  have d2 := s2 _ _ da (q1 _ _ d1)
  have s02 : SameB a H H2 := s1.trans ((Same.b a q1).trans s2)
  have fin : ∀ (H3 : Hp) (c : Int), SameB a H H3 → St2 H3 a → H3 d = some (.dK (dk kvs)) → 0 ≤ c → c ≤ m → ∀ (H4 : Hp) (w : V) (ps : List Pr), Same H3 H4 → Rep H4 (.tup (partsDv ps)) w → ps.Perm kvs → Canon ps → 2 ≤ sizeLine ∧ ∀ p, H4 p = none → Q (.ref p) (upd H4 p (.tup [.int c, w])) := fun H3 c s3 st3 _ c0 cB H4 w ps s4 R pq can => ⟨z2, fun p hp => by
    have s5 := same_new hp (.tup [.int c, w])
    exact q _ _ c ps (s3.trans (Same.b a (s4.trans s5))) (st3.m (s4.trans s5)) (tups_len upd_same (R.mono s5)) ⟨c0, cB, can, fun x hx => ⟨(hall x (pq.mem_iff.mp hx)).1, (hall x (pq.mem_iff.mp hx)).2.2⟩, by rw [pq.length_eq]; omega⟩⟩
  have items : ∀ (H3 : Hp) (c : Int), SameB a H H3 → St2 H3 a → H3 d = some (.dK (dk kvs)) → 0 ≤ c → c ≤ m → ∀ v, H3 v = none → ∀ (H4 : Hp) (l : Addr) (qs : List TK), Same (upd H3 v (ViewO v d)) H4 → (∀ r ∈ qs, H4 r.1 = some (.tup (.str r.2.1 :: r.2.2)) ∧ upd H3 v (ViewO v d) r.1 = none) → H4 l = some (.lst (qs.map fun r => V.ref r.1)) → (qs.map (·.2)).Perm ((kvs.map fun p => (p.1, V.int p.2)).map fun p => (p.1, [p.2])) → qs.Pairwise tkLt →
      ∀ t, H4 t = none → 2 ≤ sizeLine ∧ ∀ p, upd H4 t (.tup (qs.map fun r => V.ref r.1)) p = none → Q (.ref p) (upd (upd H4 t (.tup (qs.map fun r => V.ref r.1))) p (.tup [.int c, .ref t])) := fun H3 c s3 st3 d3 c0 cB v hv H4 l qs s4 hq hl pq pw t ht => by
    obtain ⟨perm, can, rep⟩ := items_canon hq pq pw fun p hp => (hall p hp).2.1
    exact fin H3 c s3 st3 d3 c0 cB _ _ _ ((same_new hv _).trans (s4.trans (same_new ht _))) (rep t ht) perm can
  have two : ∀ (H3 : Hp) (v : Addr), H3 d = some (.dK (dk kvs)) → H3 v = none → upd H3 v (ViewO v d) d = some (.dK ((kvs.map fun p => (p.1, V.int p.2)).map fun p => ((Sum.inr p.1 : Key), p.2))) := fun H3 v d3 hv => by rw [upd_ne (ne_of_none d3 hv), d3, List.map_map]; rfl
  have l64 : (kvs.map fun p => (p.1, V.int p.2)).length < 64 := by rw [List.length_map]; omega
  refine ⟨_, rfl, rfl, _, rfl, ite2 (fun h2 => ?_) (fun h2 => ?_)⟩
  · refine ⟨_, rfl, _, rfl, _, _, rfl, rfl, a, _, rfl, st2, by omega, by omega, fun H3 x s3 st3 x0 x1 => ?_⟩
    have d3 := s3 _ _ da d2
    refine ⟨_, rfl, _, rfl, .inr (.inr (.inl ⟨rfl, .inl ⟨_, d3⟩⟩)), d, _, rfl, rfl, d3, fun v hv => ?_⟩
    refine ⟨v, d, kvs.map fun p => (p.1, V.int p.2), rfl, upd_same, two H3 v d3 hv, l64, fun H4 l4 qs s4 _ hq hl4 pq pw => ⟨l4, _, rfl, .inl ⟨SqL.of hl4, fun t ht => ?_⟩⟩⟩
    exact items H3 x (s02.trans s3) st3 d3 x0 (by omega) v hv H4 l4 qs s4 hq hl4 pq pw t ht
  · refine ⟨_, rfl, _, rfl, .inr (.inr (.inl ⟨rfl, .inl ⟨_, d2⟩⟩)), d, _, rfl, rfl, d2, fun v hv => ?_⟩
    refine ⟨v, d, kvs.map fun p => (p.1, V.int p.2), rfl, upd_same, two H2 v d2 hv, l64, fun H4 l4 qs s4 _ hq hl4 pq pw => ⟨l4, _, rfl, .inl ⟨SqL.of hl4, fun t ht => ?_⟩⟩⟩
    exact items H2 n s02 st2 d2 n0 (by omega) v hv H4 l4 qs s4 hq hl4 pq pw t ht
end
end K61
set_option maxHeartbeats 1000000
namespace K61
open PySem L2 KB
abbrev s_is_whole : Stmt := top 5
abbrev s_is_name : Stmt := top 6
abbrev s_is_part : Stmt := top 7
abbrev s_are_parts : Stmt := top 8
abbrev s_is_length : Stmt := top 9
def wholeD : Dv → Bool
  | .int _ => true
  | _ => false
def nameD : Dv → Bool
  | .str x => nmB x
  | _ => false
def geD (k : Int) : Dv → Bool
  | .int i => decide (k ≤ i)
  | _ => false
def partD : Dv → Bool
  | .tup [a, b] => nameD a && (wholeD b && geD 1 b)
  | _ => false
def headD : Dv → Str
  | .tup (.str x :: _) => x
  | _ => ""
def goD (last : Str) : List Dv → Bool
  | [] => true
  | p :: r => partD p && (decide (last.cps.toList < (headD p).cps.toList) && goD (headD p) r)
def partsD : Dv → Bool
  | .tup xs => goD "" xs
  | _ => false
def islD : Dv → Bool
  | .tup [a, b] => wholeD a && (geD 0 a && partsD b)
  | _ => false
def spD (f : Dv → Bool) : Sp := fun vs H Q _ => ∃ v d, vs = [v] ∧ Rep H d v ∧ ∀ H', Same H H' → Q (.bl (f d)) H'
section
variable {P : Program} {w : World} {K : PySem.W.Frag} {mg : Str → Option Value} {base : Heap}
theorem sc_is_whole : FnScope ["thing"] ["thing"] (defScope s_is_whole) := ⟨rfl, rfl, rfl, by decide +kernel, rfl, by decide +kernel, by decide +kernel⟩
theorem ok_is_whole {f : Addr} {fd : FuncData} (F : Fun K "is_whole" "is_whole" s_is_whole f fd) (T : Txt K mg) : FnOk P w K mg base CX0 1 f fd ["thing"] (spD wholeD) := by
  refine F.ok sc_is_whole (fun vs H Q E h => ?_) (fun cdv A outer s H vs Q E hr h => ?_)
  · obtain ⟨v, d, rfl, _⟩ := h
    rfl
  obtain ⟨v, d, rfl, R, q⟩ := h
  refine ⟨_, (@pss_one _ _ _ (@ps_ret _ _ _ _ (@pe_and _ _ _ _ _ _ _ (@pe_callB _ _ _ _ _ _ _ _ _ call_isi rfl T.isinstance (by decide +kernel) (@pa_cons _ _ _ _ _ (@pv _ 0 _ _ (by rfl) (by first | exact Or.inl rfl | exact Or.inr (Or.inl rfl) | exact Or.inr (Or.inr rfl)) (by decide) (by decide)) (@pa_cons _ _ _ _ _ (@pe_bltn _ _ (.ty "int") _ _ rfl T.int (by decide +kernel) rfl (by decide) (by decide)) (@pa_nil _) (by rfl)) (by rfl)) (by decide) (by decide) (by rfl) (by rfl)) (@pe_one _ _ _ _ _ (@pe_not _ _ _ _ (@pe_callB _ _ _ _ _ _ _ _ _ call_isi rfl T.isinstance (by decide +kernel) (@pa_cons _ _ _ _ _ (@pv _ 0 _ _ (by rfl) (by first | exact Or.inl rfl | exact Or.inr (Or.inl rfl) | exact Or.inr (Or.inr rfl)) (by decide) (by decide)) (@pa_cons _ _ _ _ _ (@pe_bltn _ _ (.ty "bool") _ _ rfl T.bool (by decide +kernel) rfl (by decide) (by decide)) (@pa_nil _) (by rfl)) (by rfl)) (by decide) (by decide) (by rfl) (by rfl))))))), ?_⟩
  refine ⟨_, rfl, v, _, _, _, rfl, R.ty, kit_int K d, _, rfl, ?_⟩
  cases d with
  | int i => exact iteT ⟨_, rfl, v, _, _, _, rfl, R.ty, kit_bool K _, _, rfl, q H (Same.refl H)⟩
  | bl b => exact iteT ⟨_, rfl, v, _, _, _, rfl, R.ty, kit_bool K _, _, rfl, q H (Same.refl H)⟩
  | _ => exact iteF (q H (Same.refl H))
end
end K61
set_option maxHeartbeats 1000000
namespace K61
open PySem L2 KB
def spS (f : Dv → Bool) : Sp := fun vs H Q _ => ∃ v d, vs = [v] ∧ Rep H d v ∧ d.small = true ∧ ∀ H', Same H H' → Q (.bl (f d)) H'
section
variable {P : Program} {w : World} {K : PySem.W.Frag} {mg : Str → Option Value} {base : Heap}
theorem lt_one (a b : Nat) : decide (([a] : List Nat) < [b]) = decide (a < b) := by
  by_cases h : a < b
  · rw [decide_eq_true h]
    exact decide_eq_true (List.cons_lt_cons_iff.mpr (.inl h))
  · rw [decide_eq_false h]
    exact decide_eq_false fun z => by
      rcases List.cons_lt_cons_iff.mp z with z | ⟨_, z⟩
      · exact h z
      · exact List.not_lt_nil _ z
theorem all_az (x : Str) : ((List.range x.cps.size).map fun i => azB (x.cps.getD i 0)).all id = x.cps.toList.all azB := by
  have e : (List.range x.cps.size).map (fun i => azB (x.cps.getD i 0)) = x.cps.toList.map azB := by
    apply List.ext_getElem?
    intro i
    rw [List.getElem?_map, List.getElem?_map]
    by_cases hi : i < x.cps.size
    · rw [List.getElem?_range hi]
      simp [hi]
    · rw [List.getElem?_eq_none (by simpa using hi), List.getElem?_eq_none (by simpa using hi)]
      rfl
  rw [e, List.all_map]
  rfl
theorem sc_is_name : FnScope ["thing"] ["thing"] (defScope s_is_name) := ⟨rfl, rfl, rfl, by decide +kernel, rfl, by decide +kernel, by decide +kernel⟩
theorem ok_is_name {f : Addr} {fd : FuncData} (F : Fun K "is_name" "is_name" s_is_name f fd) (T : Txt K mg) : FnOk P w K mg base CX0 1 f fd ["thing"] (spS nameD) := by
  refine F.ok sc_is_name (fun vs H Q E h => ?_) (fun cdv A outer s H vs Q E hr h => ?_)
  · obtain ⟨v, d, rfl, _⟩ := h
    rfl
  obtain ⟨v, d, rfl, R, hsm, q⟩ := h
  refine ⟨_, (@pss_cons _ _ _ _ _ (@ps_if _ _ _ _ _ _ _ _ (@PW.pt _ _ _ (@pw_or _ _ _ _ _ _ _ (@pt_not _ _ _ _ (@pt_val _ _ _ (@pe_callB _ _ _ _ _ _ _ _ _ call_isi rfl T.isinstance (by decide +kernel) (@pa_cons _ _ _ _ _ (@pv _ 0 _ _ (by rfl) (by first | exact Or.inl rfl | exact Or.inr (Or.inl rfl) | exact Or.inr (Or.inr rfl)) (by decide) (by decide)) (@pa_cons _ _ _ _ _ (@pe_bltn _ _ (.ty "str") _ _ rfl T.str (by decide +kernel) rfl (by decide) (by decide)) (@pa_nil _) (by rfl)) (by rfl)) (by decide) (by decide) (by rfl) (by rfl)) (by intro _; rfl))) (@pw_or1 _ _ _ _ (@pt_not _ _ _ _ (@pt_chain _ _ _ _ _ _ _ _ _ _ _ _ op_le op_le (@pe_int _ _ _ _) (@pe_callB _ _ _ _ _ _ _ _ _ call_len_str rfl T.len (by decide +kernel) (@pa_cons _ _ _ _ _ (@pv _ 0 _ _ (by rfl) (by first | exact Or.inl rfl | exact Or.inr (Or.inl rfl) | exact Or.inr (Or.inr rfl)) (by decide) (by decide)) (@pa_nil _) (by rfl)) (by decide) (by decide) (by rfl) (by rfl)) (T.g_LONGEST_NAME rfl) (by with_unfolding_all rfl)))))) (@pss_one _ _ _ (@ps_ret _ _ _ _ (@pe_bl _ _ _ _))) (@pss_nil _)) (@pss_one _ _ _ (@ps_ret _ _ _ _ (@pe_callB _ _ _ _ _ _ _ _ _ (call_all rfl) rfl T.all (by decide +kernel) (@pa_cons _ _ _ _ _ (@pe_lc _ _ (["sign"]) ([]) _ _ _ _ _ _ _ _ _ (@pi_str _ _ _ _ (@pv _ 0 _ _ (by rfl) (by first | exact Or.inl rfl | exact Or.inr (Or.inl rfl) | exact Or.inr (Or.inr rfl)) (by decide) (by decide))) (.of rfl) rfl (fun _ _ _ => pg_name (i := 0) (lc_nd (l := ["sign"]) ((by decide +kernel)) rfl) rfl (Or.inl rfl)) (gw_name (by decide)) (fun _ _ _ => (@pif_nil _)) (fun _ _ _ => (@pe_chain _ _ _ _ _ _ _ _ _ _ _ _ op_le_str op_le_str (@pe_str _ _ _ _) (@pv _ 0 _ _ (by rfl) (by first | exact Or.inl rfl | exact Or.inr (Or.inl rfl) | exact Or.inr (Or.inr rfl)) (by decide) (by decide)) (@pe_str _ _ _ _) (by with_unfolding_all rfl))) (by intro _; rfl)) (@pa_nil _) (by rfl)) (by decide) (by decide) (by rfl) (by rfl))))), ?_⟩
  refine ⟨_, rfl, v, _, _, _, rfl, R.ty, kit_str K d, _, rfl, ?_⟩
  cases d with
  | str x =>
    have hx : x.cps.size ≤ 1000 := by simpa [Dv.small] using hsm
    obtain rfl : v = .str x := R
    refine iteF ⟨_, rfl, x, rfl, len1000 hx, _, _, rfl, rfl, _, rfl, ?_⟩
    have no : nmB x = false → Q (.bl false) H := fun e => by
      have := q H (Same.refl H)
      rwa [show nameD (.str x) = false from e] at this
    refine ite2 (fun h1 => ?_) (fun h1 => ?_)
    · refine ⟨_, _, rfl, rfl, _, rfl, ?_⟩
      have h1' : 1 ≤ x.cps.size := by
        have := of_decide_eq_true h1
        have e : x.length = x.cps.size := rfl
        omega
      by_cases h8 : x.cps.size ≤ 8
      · rw [show decide (((x.length : Nat) : Int) ≤ 8) = true from decide_eq_true (by have e : x.length = x.cps.size := rfl; omega)]
        refine iteF ?_
        refine ⟨_, rfl, x, rfl, lc_itf_map (F := fun i => V.bl (azB (x.cps.getD i 0))) (fun i ys hi hl => ?_) fun a ha => ⟨a, (List.range x.cps.size).map fun i => azB (x.cps.getD i 0), rfl, SqL.of ?_, ?_⟩⟩
        · refine turn_name ⟨_, rfl, _, _, rfl, rfl, _, rfl, ?_⟩
          have e1 : decide ((⟨#[x.cps.getD i 0]⟩ : Str).cps.toList < (Str.ofString "a").cps.toList) = decide (x.cps.getD i 0 < 97) := lt_one _ _
          have e2 : decide ((Str.ofString "z").cps.toList < (⟨#[x.cps.getD i 0]⟩ : Str).cps.toList) = decide (122 < x.cps.getD i 0) := lt_one _ _
          rw [e1]
          by_cases c1 : x.cps.getD i 0 < 97
          · rw [decide_eq_true c1]
            refine iteF ⟨by rw [hl, sizeLine_eq]; omega, ?_, rfl⟩
            unfold azB
            rw [decide_eq_false (by omega)]
            rfl
          · rw [decide_eq_false c1]
            refine iteT ⟨_, _, rfl, rfl, ?_⟩
            refine ⟨by rw [hl, sizeLine_eq]; omega, ?_, rfl⟩
            rw [e2]
            unfold azB
            rw [decide_eq_true (show 97 ≤ x.cps.getD i 0 by omega)]
            by_cases c2 : 122 < x.cps.getD i 0
            · rw [decide_eq_true c2, decide_eq_false (by omega)]; rfl
            · rw [decide_eq_false c2, decide_eq_true (by omega)]; rfl
        · rw [upd_same, List.map_map]
          rfl
        · rw [all_az]
          have := q _ (same_new ha (.lst ((List.range x.cps.size).map fun i => V.bl (azB (x.cps.getD i 0)))))
          rwa [show nameD (.str x) = x.cps.toList.all azB by
            show nmB x = _
            unfold nmB
            rw [decide_eq_true h1', decide_eq_true h8]
            rfl] at this
      · rw [show decide (((x.length : Nat) : Int) ≤ 8) = false from decide_eq_false (by have e : x.length = x.cps.size := rfl; omega)]
        refine iteT (no ?_)
        unfold nmB
        rw [decide_eq_false h8, Bool.and_false, Bool.false_and]
    · refine ⟨_, rfl, iteT (no ?_)⟩
      have h1' : ¬ 1 ≤ x.cps.size := by
        have := of_decide_eq_false (Bool.eq_false_iff.mpr h1)
        have e : x.length = x.cps.size := rfl
        omega
      unfold nmB
      rw [decide_eq_false h1', Bool.false_and, Bool.false_and]
  | _ => exact iteT (iteT (q H (Same.refl H)))
end
end K61
set_option maxHeartbeats 1000000
namespace K61
open PySem L2 KB
section
variable {P : Program} {w : World} {K : PySem.W.Frag} {mg : Str → Option Value} {base : Heap}
theorem two_or (ds : List Dv) : (∃ a b, ds = [a, b]) ∨ (∀ a b, ds ≠ [a, b]) := by
  match ds with
  | [] => exact .inr fun a b e => nomatch e
  | [_] => exact .inr fun a b e => nomatch e
  | [a, b] => exact .inl ⟨a, b, rfl⟩
  | _ :: _ :: _ :: _ => exact .inr fun a b e => nomatch e
theorem len_two {ds : List Dv} (h : ∀ a b, ds ≠ [a, b]) : ds.length ≠ 2 := fun e => by
  match ds, e with
  | [a, b], _ => exact h a b rfl
theorem part_not {ds : List Dv} (h : ∀ a b, ds ≠ [a, b]) : partD (.tup ds) = false := by
  match ds with
  | [] => rfl
  | [_] => rfl
  | [a, b] => exact absurd rfl (h a b)
  | _ :: _ :: _ :: _ => rfl
theorem len_not {ds : List Dv} (h : ∀ a b, ds ≠ [a, b]) : islD (.tup ds) = false := by
  match ds with
  | [] => rfl
  | [_] => rfl
  | [a, b] => exact absurd rfl (h a b)
  | _ :: _ :: _ :: _ => rfl
theorem geD_int {k : Int} {d : Dv} (h : wholeD d = true) : ∃ i, d = .int i ∧ geD k d = decide (k ≤ i) := by
  cases d with
  | int i => exact ⟨i, rfl, rfl⟩
  | _ => cases h
theorem small2 {a b : Dv} (h : (Dv.tup [a, b]).small = true) : a.small = true ∧ b.small = true := by
  simp only [Dv.small, smalls, Bool.and_eq_true] at h
  exact ⟨h.1.1, h.1.2.1⟩
theorem sc_is_part : FnScope ["thing"] ["thing"] (defScope s_is_part) := ⟨rfl, rfl, rfl, by decide +kernel, rfl, by decide +kernel, by decide +kernel⟩
theorem ok_is_part {f : Addr} {fd : FuncData} {k : Nat} (F : Fun K "is_part" "is_part" s_is_part f fd) (T : Txt K mg) (Dis_whole : Def P w K mg base k "is_whole" ["thing"] (spD wholeD)) (Dis_name : Def P w K mg base k "is_name" ["thing"] (spS nameD)) :
    FnOk P w K mg base CX0 (k + 1) f fd ["thing"] (spS partD) := by
  refine F.ok sc_is_part (fun vs H Q E h => ?_) (fun cdv A outer s H vs Q E hr h => ?_)
  · obtain ⟨v, d, rfl, _⟩ := h
    rfl
  obtain ⟨v, d, rfl, R, hsm, q⟩ := h
  refine ⟨_, (@pss_cons _ _ _ _ _ (@ps_if _ _ _ _ _ _ _ _ (@PW.pt _ _ _ (@pw_or _ _ _ _ _ _ _ (@pt_not _ _ _ _ (@pt_val _ _ _ (@pe_callB _ _ _ _ _ _ _ _ _ call_isi rfl T.isinstance (by decide +kernel) (@pa_cons _ _ _ _ _ (@pv _ 0 _ _ (by rfl) (by first | exact Or.inl rfl | exact Or.inr (Or.inl rfl) | exact Or.inr (Or.inr rfl)) (by decide) (by decide)) (@pa_cons _ _ _ _ _ (@pe_bltn _ _ (.ty "tuple") _ _ rfl T.tuple (by decide +kernel) rfl (by decide) (by decide)) (@pa_nil _) (by rfl)) (by rfl)) (by decide) (by decide) (by rfl) (by rfl)) (by intro _; rfl))) (@pw_or1 _ _ _ _ (@pt_cmpR _ _ _ _ _ _ _ _ op_ne (@pe_callB _ _ _ _ _ _ _ _ _ call_len_seq rfl T.len (by decide +kernel) (@pa_cons _ _ _ _ _ (@pv _ 0 _ _ (by rfl) (by first | exact Or.inl rfl | exact Or.inr (Or.inl rfl) | exact Or.inr (Or.inr rfl)) (by decide) (by decide)) (@pa_nil _) (by rfl)) (by decide) (by decide) (by rfl) (by rfl)) (@pe_int _ _ _ _) (nomark _))))) (@pss_one _ _ _ (@ps_ret _ _ _ _ (@pe_bl _ _ _ _))) (@pss_nil _)) (@pss_one _ _ _ (@ps_ret _ _ _ _ (@pe_and _ _ _ _ _ _ _ (@pe_def _ _ _ _ _ _ _ _ _ _ Dis_name hr rfl (@pa_cons _ _ _ _ _ (@pe_ix _ _ _ _ _ _ _ ix_tup (@pv _ 0 _ _ (by rfl) (by first | exact Or.inl rfl | exact Or.inr (Or.inl rfl) | exact Or.inr (Or.inr rfl)) (by decide) (by decide)) (@pe_int _ _ _ _) (fun _ _ => rfl)) (@pa_nil _) (by rfl)) (by decide) (by rfl) (by rfl)) (@pe_and _ _ _ _ _ _ _ (@pe_def _ _ _ _ _ _ _ _ _ _ Dis_whole hr rfl (@pa_cons _ _ _ _ _ (@pe_ix _ _ _ _ _ _ _ ix_tup (@pv _ 0 _ _ (by rfl) (by first | exact Or.inl rfl | exact Or.inr (Or.inl rfl) | exact Or.inr (Or.inr rfl)) (by decide) (by decide)) (@pe_int _ _ _ _) (fun _ _ => rfl)) (@pa_nil _) (by rfl)) (by decide) (by rfl) (by rfl)) (@pe_one _ _ _ _ _ (@pe_cmpR _ _ _ _ _ _ _ _ op_ge (@pe_ix _ _ _ _ _ _ _ ix_tup (@pv _ 0 _ _ (by rfl) (by first | exact Or.inl rfl | exact Or.inr (Or.inl rfl) | exact Or.inr (Or.inr rfl)) (by decide) (by decide)) (@pe_int _ _ _ _) (fun _ _ => rfl)) (@pe_int _ _ _ _) (nomark _)))))))), ?_⟩
  refine ⟨_, rfl, v, _, _, _, rfl, R.ty, kit_tuple K d, _, rfl, ?_⟩
  cases d with
  | tup ds =>
    obtain ⟨a, vs, rfl, ha, rs⟩ := Rep.tup_inv R
    have hl := rs.length
    refine iteF ⟨_, rfl, a, vs, rfl, .inr (SqT.of ha), rfl, _, rfl, ?_⟩
    rcases two_or ds with ⟨d0, d1, rfl⟩ | no
    · obtain ⟨x, y, rfl, R0, R1⟩ := Reps.two rs
      obtain ⟨z0, z1⟩ := small2 hsm
      refine iteNS rfl ?_
      have qe : ∀ c H', Same H H' → partD (.tup [d0, d1]) = c → Q (.bl c) H' := fun c H' s1 e => e ▸ q H' s1
      refine ⟨_, rfl, a, _, 0, x, rfl, rfl, SqT.of ha, atI_nat (j := 0) rfl, x, d0, rfl, R0, z0, fun H1 s1 => ⟨_, rfl, ?_⟩⟩
      cases c0 : nameD d0 with
      | false => exact iteF (qe _ H1 s1 (by show (nameD d0 && _) = false; rw [c0]; rfl))
      | true =>
        refine iteT ⟨_, rfl, a, _, 1, y, rfl, rfl, SqT.of (s1 _ _ ha), atI_nat (j := 1) rfl, y, d1, rfl, R1.mono s1, fun H2 s2 => ⟨_, rfl, ?_⟩⟩
        cases c1 : wholeD d1 with
        | false => exact iteF (qe _ H2 (s1.trans s2) (by show (nameD d0 && (wholeD d1 && _)) = false; rw [c0, c1]; rfl))
        | true =>
          obtain ⟨i, rfl, e⟩ := geD_int (k := 1) c1
          obtain rfl : y = .int i := R1
          refine iteT ⟨_, rfl, a, _, 1, .int i, rfl, rfl, SqT.of (s2 _ _ (s1 _ _ ha)), atI_nat (j := 1) rfl, _, _, rfl, rfl, ?_⟩
          refine qe _ H2 (s1.trans s2) ?_
          show (nameD d0 && (wholeD (.int i) && geD 1 (.int i))) = _
          rw [c0, c1, e]
          rfl
    · have hn : ¬ (V.int ((vs.length : Nat) : Int) = V.int 2) := fun e => len_two no (by injection e with e; omega)
      rw [decide_eq_false hn]
      refine iteT ?_
      have := q H (Same.refl H)
      rwa [part_not no] at this
  | _ => exact iteT (iteT (q H (Same.refl H)))
theorem sc_is_length : FnScope ["thing"] ["thing"] (defScope s_is_length) := ⟨rfl, rfl, rfl, by decide +kernel, rfl, by decide +kernel, by decide +kernel⟩
theorem ok_is_length {f : Addr} {fd : FuncData} {k : Nat} (F : Fun K "is_length" "is_length" s_is_length f fd) (T : Txt K mg) (Dis_whole : Def P w K mg base k "is_whole" ["thing"] (spD wholeD)) (Dare_parts : Def P w K mg base k "are_parts" ["thing"] (spS partsD)) :
    FnOk P w K mg base CX0 (k + 1) f fd ["thing"] (spS islD) := by
  refine F.ok sc_is_length (fun vs H Q E h => ?_) (fun cdv A outer s H vs Q E hr h => ?_)
  · obtain ⟨v, d, rfl, _⟩ := h
    rfl
  obtain ⟨v, d, rfl, R, hsm, q⟩ := h
  refine ⟨_, (@pss_cons _ _ _ _ _ (@ps_if _ _ _ _ _ _ _ _ (@PW.pt _ _ _ (@pw_or _ _ _ _ _ _ _ (@pt_not _ _ _ _ (@pt_val _ _ _ (@pe_callB _ _ _ _ _ _ _ _ _ call_isi rfl T.isinstance (by decide +kernel) (@pa_cons _ _ _ _ _ (@pv _ 0 _ _ (by rfl) (by first | exact Or.inl rfl | exact Or.inr (Or.inl rfl) | exact Or.inr (Or.inr rfl)) (by decide) (by decide)) (@pa_cons _ _ _ _ _ (@pe_bltn _ _ (.ty "tuple") _ _ rfl T.tuple (by decide +kernel) rfl (by decide) (by decide)) (@pa_nil _) (by rfl)) (by rfl)) (by decide) (by decide) (by rfl) (by rfl)) (by intro _; rfl))) (@pw_or1 _ _ _ _ (@pt_cmpR _ _ _ _ _ _ _ _ op_ne (@pe_callB _ _ _ _ _ _ _ _ _ call_len_seq rfl T.len (by decide +kernel) (@pa_cons _ _ _ _ _ (@pv _ 0 _ _ (by rfl) (by first | exact Or.inl rfl | exact Or.inr (Or.inl rfl) | exact Or.inr (Or.inr rfl)) (by decide) (by decide)) (@pa_nil _) (by rfl)) (by decide) (by decide) (by rfl) (by rfl)) (@pe_int _ _ _ _) (nomark _))))) (@pss_one _ _ _ (@ps_ret _ _ _ _ (@pe_bl _ _ _ _))) (@pss_nil _)) (@pss_one _ _ _ (@ps_ret _ _ _ _ (@pe_and _ _ _ _ _ _ _ (@pe_def _ _ _ _ _ _ _ _ _ _ Dis_whole hr rfl (@pa_cons _ _ _ _ _ (@pe_ix _ _ _ _ _ _ _ ix_tup (@pv _ 0 _ _ (by rfl) (by first | exact Or.inl rfl | exact Or.inr (Or.inl rfl) | exact Or.inr (Or.inr rfl)) (by decide) (by decide)) (@pe_int _ _ _ _) (fun _ _ => rfl)) (@pa_nil _) (by rfl)) (by decide) (by rfl) (by rfl)) (@pe_and _ _ _ _ _ _ _ (@pe_cmpR _ _ _ _ _ _ _ _ op_ge (@pe_ix _ _ _ _ _ _ _ ix_tup (@pv _ 0 _ _ (by rfl) (by first | exact Or.inl rfl | exact Or.inr (Or.inl rfl) | exact Or.inr (Or.inr rfl)) (by decide) (by decide)) (@pe_int _ _ _ _) (fun _ _ => rfl)) (@pe_int _ _ _ _) (nomark _)) (@pe_one _ _ _ _ _ (@pe_def _ _ _ _ _ _ _ _ _ _ Dare_parts hr rfl (@pa_cons _ _ _ _ _ (@pe_ix _ _ _ _ _ _ _ ix_tup (@pv _ 0 _ _ (by rfl) (by first | exact Or.inl rfl | exact Or.inr (Or.inl rfl) | exact Or.inr (Or.inr rfl)) (by decide) (by decide)) (@pe_int _ _ _ _) (fun _ _ => rfl)) (@pa_nil _) (by rfl)) (by decide) (by rfl) (by rfl)))))))), ?_⟩
  refine ⟨_, rfl, v, _, _, _, rfl, R.ty, kit_tuple K d, _, rfl, ?_⟩
  cases d with
  | tup ds =>
    obtain ⟨a, vs, rfl, ha, rs⟩ := Rep.tup_inv R
    have hl := rs.length
    refine iteF ⟨_, rfl, a, vs, rfl, .inr (SqT.of ha), rfl, _, rfl, ?_⟩
    rcases two_or ds with ⟨d0, d1, rfl⟩ | no
    · obtain ⟨x, y, rfl, R0, R1⟩ := Reps.two rs
      obtain ⟨z0, z1⟩ := small2 hsm
      refine iteNS rfl ?_
      have qe : ∀ c H', Same H H' → islD (.tup [d0, d1]) = c → Q (.bl c) H' := fun c H' s1 e => e ▸ q H' s1
      refine ⟨_, rfl, a, _, 0, x, rfl, rfl, SqT.of ha, atI_nat (j := 0) rfl, x, d0, rfl, R0, fun H1 s1 => ⟨_, rfl, ?_⟩⟩
      cases c0 : wholeD d0 with
      | false => exact iteF (qe _ H1 s1 (by show (wholeD d0 && _) = false; rw [c0]; rfl))
      | true =>
        obtain ⟨i, rfl, e⟩ := geD_int (k := 0) c0
        obtain rfl : x = .int i := R0
        refine iteT ⟨_, rfl, a, _, 0, .int i, rfl, rfl, SqT.of (s1 _ _ ha), atI_nat (j := 0) rfl, _, _, rfl, rfl, _, rfl, ?_⟩
        by_cases c1 : 0 ≤ i
        · rw [decide_eq_true c1]
          refine iteT ⟨_, rfl, a, _, 1, y, rfl, rfl, SqT.of (s1 _ _ ha), atI_nat (j := 1) rfl, y, d1, rfl, R1.mono s1, z1, fun H2 s2 => ?_⟩
          refine qe _ H2 (s1.trans s2) ?_
          show (wholeD (.int i) && (geD 0 (.int i) && partsD d1)) = _
          rw [c0, e, decide_eq_true c1]
          rfl
        · rw [decide_eq_false c1]
          refine iteF (qe _ H1 s1 ?_)
          show (wholeD (.int i) && (geD 0 (.int i) && partsD d1)) = _
          rw [c0, e, decide_eq_false c1]
          rfl
    · have hn : ¬ (V.int ((vs.length : Nat) : Int) = V.int 2) := fun e => len_two no (by injection e with e; omega)
      rw [decide_eq_false hn]
      refine iteT ?_
      have := q H (Same.refl H)
      rwa [len_not no] at this
  | _ => exact iteT (iteT (q H (Same.refl H)))
end
end K61
set_option maxHeartbeats 1000000
namespace K61
open PySem L2 KB
section
variable {P : Program} {w : World} {K : PySem.W.Frag} {mg : Str → Option Value} {base : Heap}
theorem part_shape {d : Dv} (h : partD d = true) : ∃ nm b, d = .tup [.str nm, .int b] ∧ headD d = nm ∧ nmB nm = true ∧ 1 ≤ b := by
  match d, h with
  | .tup [a, b], h =>
    simp only [partD, Bool.and_eq_true] at h
    obtain ⟨h1, h2, h3⟩ := h
    cases a with
    | str x =>
      cases b with
      | int i => exact ⟨x, i, rfl, rfl, h1, of_decide_eq_true h3⟩
      | _ => cases h2
    | _ => cases h1
theorem sc_are_parts : FnScope ["thing", "last", "part"] ["thing"] (defScope s_are_parts) := ⟨rfl, rfl, rfl, by decide +kernel, rfl, by decide +kernel, by decide +kernel⟩
theorem ok_are_parts {f : Addr} {fd : FuncData} {k : Nat} (F : Fun K "are_parts" "are_parts" s_are_parts f fd) (T : Txt K mg) (Dis_part : Def P w K mg base k "is_part" ["thing"] (spS partD)) :
    FnOk P w K mg base CX0 (k + 1) f fd ["thing"] (spS partsD) := by
  have nd : (["thing", "last", "part"] : List Str).Nodup := sc_are_parts.nd
  refine F.ok sc_are_parts (fun vs H Q E h => ?_) (fun cdv A outer s H vs Q E hr h => ?_)
  · obtain ⟨v, d, rfl, _⟩ := h
    rfl
  obtain ⟨v, d, rfl, R, hsm, q⟩ := h
  refine ⟨_, (@pss_cons _ _ _ _ _ (@ps_if _ _ _ _ _ _ _ _ (@pt_not _ _ _ _ (@pt_val _ _ _ (@pe_callB _ _ _ _ _ _ _ _ _ call_isi rfl T.isinstance (by decide +kernel) (@pa_cons _ _ _ _ _ (@pv _ 0 _ _ (by rfl) (by first | exact Or.inl rfl | exact Or.inr (Or.inl rfl) | exact Or.inr (Or.inr rfl)) (by decide) (by decide)) (@pa_cons _ _ _ _ _ (@pe_bltn _ _ (.ty "tuple") _ _ rfl T.tuple (by decide +kernel) rfl (by decide) (by decide)) (@pa_nil _) (by rfl)) (by rfl)) (by decide) (by decide) (by rfl) (by rfl)) (by intro _; rfl))) (@pss_one _ _ _ (@ps_ret _ _ _ _ (@pe_bl _ _ _ _))) (@pss_nil _)) (@pss_cons _ _ _ _ _ (@ps_set _ _ (1) _ _ _ _ nd rfl (Or.inl rfl) (@pe_str _ _ _ _) (by rfl) (by first | exact .inl rfl | exact .inr rfl | assumption)) (@pss_cons _ _ _ _ _ (@ps_for _ _ _ _ _ _ _ _ PassesOwn.never rfl (@pi_tup _ _ _ _ (@pv _ 0 _ _ (by rfl) (by first | exact Or.inl rfl | exact Or.inr (Or.inl rfl) | exact Or.inr (Or.inr rfl)) (by decide) (by decide))) (@pg_name _ _ (2) _ nd rfl (Or.inl rfl) (by first | exact .inl rfl | exact .inr rfl | assumption)) (@pss_cons _ _ _ _ _ (@ps_if _ _ _ _ _ _ _ _ (@PW.pt _ _ _ (@pw_or _ _ _ _ _ _ _ (@pt_not _ _ _ _ (@pt_val _ _ _ (@pe_def _ _ _ _ _ _ _ _ _ _ Dis_part hr rfl (@pa_cons _ _ _ _ _ (@pv _ 2 _ _ (by rfl) (by first | exact Or.inl rfl | exact Or.inr (Or.inl rfl) | exact Or.inr (Or.inr rfl)) (by decide) (by decide)) (@pa_nil _) (by rfl)) (by decide) (by rfl) (by rfl)) (by intro _; rfl))) (@pw_or1 _ _ _ _ (@pt_cmpR _ _ _ _ _ _ _ _ op_le_str (@pe_ix _ _ _ _ _ _ _ ix_tup (@pv _ 2 _ _ (by rfl) (by first | exact Or.inl rfl | exact Or.inr (Or.inl rfl) | exact Or.inr (Or.inr rfl)) (by decide) (by decide)) (@pe_int _ _ _ _) (fun _ _ => rfl)) (@pv _ 1 _ _ (by rfl) (by first | exact Or.inl rfl | exact Or.inr (Or.inl rfl) | exact Or.inr (Or.inr rfl)) (by decide) (by decide)) (nomark _))))) (@pss_one _ _ _ (@ps_ret _ _ _ _ (@pe_bl _ _ _ _))) (@pss_nil _)) (@pss_one _ _ _ (@ps_set _ _ (1) _ _ _ _ nd rfl (Or.inl rfl) (@pe_ix _ _ _ _ _ _ _ ix_tup (@pv _ 2 _ _ (by rfl) (by first | exact Or.inl rfl | exact Or.inr (Or.inl rfl) | exact Or.inr (Or.inr rfl)) (by decide) (by decide)) (@pe_int _ _ _ _) (fun _ _ => rfl)) (by rfl) (by first | exact .inl rfl | exact .inr rfl | assumption)))) (by intro _; rfl)) (@pss_one _ _ _ (@ps_ret _ _ _ _ (@pe_bl _ _ _ _)))))), ?_⟩
  refine ⟨_, rfl, v, _, _, _, rfl, R.ty, kit_tuple K d, _, rfl, ?_⟩
  cases d with
  | tup ds =>
    obtain ⟨a, vs, rfl, ha, rs⟩ := Rep.tup_inv R
    have hl := rs.length
    have hds : smalls ds = true := by
      simp only [Dv.small, Bool.and_eq_true] at hsm
      exact hsm.1
    refine iteF ?_
    refine ⟨_, rfl, a, rfl, ⟨vs, SqT.of ha⟩, for_tup (xs := vs) (fun i σ H' => ∃ (last : Str) (pv : Option V), σ = [some (.ref a), some (.str last), pv] ∧ Same H H' ∧ goD last (ds.drop i) = goD "" ds)
      ⟨"", none, rfl, Same.refl H, rfl⟩ (fun i σ H' _ ⟨_, _, _, s1, _⟩ => SqT.of (s1 _ _ ha)) ?_ ?_⟩
    · rintro i x σ H1 hi ⟨last, pv, rfl, s1, hg⟩
      obtain ⟨d, hd, Rd⟩ := rs.get hi
      have hdi : ds.drop i = d :: ds.drop (i + 1) := by
        obtain ⟨h1, h2⟩ := List.getElem?_eq_some_iff.mp hd
        rw [List.drop_eq_getElem_cons h1, h2]
      have hsd := smalls_get hds hd
      rw [hdi] at hg
      refine ⟨_, rfl, x, d, rfl, Rd.mono s1, hsd, fun H2 s2 => ⟨_, rfl, ?_⟩⟩
      have no : goD last (d :: ds.drop (i + 1)) = false → ∀ H', Same H H' → Q (.bl false) H' := fun e H' s' => by
        have := q H' s'
        rwa [show partsD (.tup ds) = false by show goD "" ds = false; rw [← hg, e]] at this
      cases c : partD d with
      | false =>
        refine iteT (iteT (no ?_ H2 (s1.trans s2)))
        simp only [goD, c, Bool.false_and]
      | true =>
        obtain ⟨nm, b, rfl, hh, _⟩ := part_shape c
        obtain ⟨p, us, rfl, hp, ru⟩ := Rep.tup_inv Rd
        obtain ⟨y, z, rfl, R0, R1⟩ := Reps.two ru
        obtain rfl : y = .str nm := R0
        have hp2 : H2 p = some (.tup [.str nm, z]) := s2 _ _ (s1 _ _ hp)
        refine iteF ⟨_, rfl, p, _, 0, .str nm, rfl, rfl, SqT.of hp2, atI_nat (j := 0) rfl, _, rfl, _, _, rfl, rfl, _, rfl, ?_⟩
        by_cases lt : last.cps.toList < nm.cps.toList
        · rw [decide_eq_true lt]
          refine iteF ⟨_, rfl, p, _, 0, .str nm, rfl, rfl, SqT.of hp2, atI_nat (j := 0) rfl, nm, _, rfl, s1.trans s2, ?_⟩
          rw [← hg]
          simp only [goD, c, hh, Bool.true_and]
          rw [decide_eq_true lt, Bool.true_and]
        · rw [decide_eq_false lt]
          refine iteT (no ?_ H2 (s1.trans s2))
          simp only [goD, c, hh, Bool.true_and]
          rw [decide_eq_false lt, Bool.false_and]
    · rintro σ H1 ⟨last, pv, rfl, s1, hg⟩
      have := q H1 s1
      rw [show partsD (.tup ds) = true by
        show goD "" ds = true
        rw [← hg, hl, List.drop_length]
        rfl] at this
      exact this
  | _ => exact iteT (q H (Same.refl H))
end
end K61
set_option maxHeartbeats 1000000
namespace K61
open PySem L2 KB
abbrev s_is_small : Stmt := top 13
abbrev s_has_word : Stmt := top 14
abbrev s_is_point : Stmt := top 15
abbrev s_things_of : Stmt := top 16
def timesD : Dv → Int
  | .tup [_, .int n] => n
  | _ => 0
def cntD : Dv → Int
  | .tup (.int c :: _) => c
  | _ => 0
def partsOf : Dv → List Dv
  | .tup [_, .tup ps] => ps
  | _ => []
def slD (d : Dv) : Bool := islD d && (decide (cntD d ≤ 99) && (partsOf d).all fun p => decide (timesD p ≤ 99))
def wordD : Dv → Bool
  | .tup (.str _ :: _) => true
  | _ => false
def pointD : Dv → Bool
  | .tup [.str x] => decide (x = "whole")
  | .tup [.str x, l] => decide (x = "place") && slD l
  | .tup [.str x, a, _] => (decide (x = "row") && slD a) || decide (x = "pair")
  | _ => false
def kids {α : Type} (x : Str) (r : List α) : List α := if x = "row" then r.drop 1 else if x = "pair" then r else []
theorem len_shape {d : Dv} (h : islD d = true) : ∃ c ps, d = .tup [.int c, .tup ps] ∧ 0 ≤ c ∧ goD "" ps = true := by
  match d, h with
  | .tup [a, b], h =>
    simp only [islD, Bool.and_eq_true] at h
    obtain ⟨h1, h2, h3⟩ := h
    cases a with
    | int i =>
      cases b with
      | tup ps => exact ⟨i, ps, rfl, of_decide_eq_true h2, h3⟩
      | _ => cases h3
    | _ => cases h1
theorem go_parts : ∀ {l : Str} {ps : List Dv}, goD l ps = true → ∀ p ∈ ps, partD p = true
  | _, [], _, p, hp => by cases hp
  | l, x :: ps, h, p, hp => by
    simp only [goD, Bool.and_eq_true] at h
    rcases List.mem_cons.mp hp with rfl | hp
    · exact h.1
    · exact go_parts h.2.2 p hp
def spThD : Sp := fun vs H Q _ => ∃ (a : Addr) (x : Str) (us : List V), vs = [.ref a] ∧ H a = some (.tup (.str x :: us)) ∧ (x = "row" → us.length = 2) ∧ (x = "pair" → us.length = 2) ∧ ∀ (l : Addr), H l = none → Q (.ref l) (upd H l (.lst (kids x us)))
theorem str_dec (x y : Str) : decide (V.str x = V.str y) = decide (x = y) := by
  by_cases h : x = y
  · rw [decide_eq_true h, decide_eq_true (by rw [h])]
  · rw [decide_eq_false h, decide_eq_false (fun z => h (by injection z))]
section
variable {P : Program} {w : World} {K : PySem.W.Frag} {mg : Str → Option Value} {base : Heap}
theorem sc_is_small : FnScope ["thing"] ["thing"] (defScope s_is_small) := ⟨rfl, rfl, rfl, by decide +kernel, rfl, by decide +kernel, by decide +kernel⟩
theorem ok_is_small {f : Addr} {fd : FuncData} {k : Nat} (F : Fun K "is_small_length" "is_small_length" s_is_small f fd) (T : Txt K mg) (Dis_length : Def P w K mg base k "is_length" ["thing"] (spS islD)) :
    FnOk P w K mg base CX0 (k + 1) f fd ["thing"] (spS slD) := by
  refine F.ok sc_is_small (fun vs H Q E h => ?_) (fun cdv A outer s H vs Q E hr h => ?_)
  · obtain ⟨v, d, rfl, _⟩ := h
    rfl
  obtain ⟨v, d, rfl, R, hsm, q⟩ := h
  refine ⟨_, (@pss_cons _ _ _ _ _ (@ps_if _ _ _ _ _ _ _ _ (@PW.pt _ _ _ (@pw_or _ _ _ _ _ _ _ (@pt_not _ _ _ _ (@pt_val _ _ _ (@pe_def _ _ _ _ _ _ _ _ _ _ Dis_length hr rfl (@pa_cons _ _ _ _ _ (@pv _ 0 _ _ (by rfl) (by first | exact Or.inl rfl | exact Or.inr (Or.inl rfl) | exact Or.inr (Or.inr rfl)) (by decide) (by decide)) (@pa_nil _) (by rfl)) (by decide) (by rfl) (by rfl)) (by intro _; rfl))) (@pw_or1 _ _ _ _ (@pt_cmpR _ _ _ _ _ _ _ _ op_gt (@pe_ix _ _ _ _ _ _ _ ix_tup (@pv _ 0 _ _ (by rfl) (by first | exact Or.inl rfl | exact Or.inr (Or.inl rfl) | exact Or.inr (Or.inr rfl)) (by decide) (by decide)) (@pe_int _ _ _ _) (fun _ _ => rfl)) (T.g_GREATEST_NUMBER rfl) (nomark _))))) (@pss_one _ _ _ (@ps_ret _ _ _ _ (@pe_bl _ _ _ _))) (@pss_nil _)) (@pss_one _ _ _ (@ps_ret _ _ _ _ (@pe_callB _ _ _ _ _ _ _ _ _ (call_all rfl) rfl T.all (by decide +kernel) (@pa_cons _ _ _ _ _ (@pe_lc _ _ (["name", "times"]) ([]) _ _ _ _ _ _ _ _ _ (@pi_tup _ _ _ _ (@pe_ix _ _ _ _ _ _ _ ix_tup (@pv _ 0 _ _ (by rfl) (by first | exact Or.inl rfl | exact Or.inr (Or.inl rfl) | exact Or.inr (Or.inr rfl)) (by decide) (by decide)) (@pe_int _ _ _ _) (fun _ _ => rfl))) (.of rfl) rfl (fun _ _ _ => pg_tup rfl (@pgs_cons _ _ _ _ _ (@pg_name _ _ (0) _ (lc_nd (l := ["name", "times"]) ((by decide +kernel)) rfl) rfl (Or.inl rfl) (by first | exact .inl rfl | exact .inr rfl | assumption)) (@pgs_cons _ _ _ _ _ (@pg_name _ _ (1) _ (lc_nd (l := ["name", "times"]) ((by decide +kernel)) rfl) rfl (Or.inl rfl) (by first | exact .inl rfl | exact .inr rfl | assumption)) (@pgs_nil _) (by rfl)) (by rfl))) (gw_two (by decide) (by decide)) (fun _ _ _ => (@pif_nil _)) (fun _ _ _ => (@pe_cmpR _ _ _ _ _ _ _ _ op_le (@pv _ 1 _ _ (by rfl) (by first | exact Or.inl rfl | exact Or.inr (Or.inl rfl) | exact Or.inr (Or.inr rfl)) (by decide) (by decide)) (T.g_GREATEST_NUMBER rfl) (nomark _))) (by intro _; rfl)) (@pa_nil _) (by rfl)) (by decide) (by decide) (by rfl) (by rfl))))), ?_⟩
  refine ⟨_, rfl, v, d, rfl, R, hsm, fun H1 s1 => ⟨_, rfl, ?_⟩⟩
  cases c0 : islD d with
  | false =>
    refine iteT ?_
    have := q H1 s1
    rwa [show slD d = false by unfold slD; rw [c0]; rfl] at this
  | true =>
    refine iteF ?_
    obtain ⟨c, ps, rfl, hc, hg⟩ := len_shape c0
    obtain ⟨a, vs, rfl, ha, rs⟩ := Rep.tup_inv R
    obtain ⟨x, y, rfl, R0, R1⟩ := Reps.two rs
    obtain rfl : x = .int c := R0
    obtain ⟨b, us, rfl, hb, ru⟩ := Rep.tup_inv R1
    have hps : ps.length ≤ 1000 := by
      have := (small2 hsm).2
      simp only [Dv.small, Bool.and_eq_true, decide_eq_true_eq] at this
      exact this.2
    have hl := ru.length
    have e0 : slD (.tup [.int c, .tup ps]) = (decide (c ≤ 99) && ps.all fun p => decide (timesD p ≤ 99)) := by
      unfold slD; rw [c0]; rfl
    refine ⟨_, rfl, a, _, 0, .int c, rfl, rfl, SqT.of (s1 _ _ ha), atI_nat (j := 0) rfl, _, _, rfl, rfl, _, rfl, ?_⟩
    refine ite2 (fun h => ?_) (fun h => ?_)
    · have h' : 99 < c := of_decide_eq_true h
      have := q H1 s1
      rw [e0, decide_eq_false (by omega), Bool.false_and] at this
      exact this
    have h' : c ≤ 99 := by have := of_decide_eq_false (Bool.eq_false_iff.mpr h); omega
    have hb1 := s1 _ _ hb
    refine ⟨_, rfl, a, _, 1, .ref b, rfl, rfl, SqT.of (s1 _ _ ha), atI_nat (j := 1) rfl, b, rfl, ⟨us, SqT.of hb1⟩, lc_tup (xs := us) (fun i ys H' => H' = H1 ∧ ys = (ps.take i).map fun p => V.bl (decide (timesD p ≤ 99))) ⟨rfl, rfl⟩ (fun i ys H' _ p => by rw [p.1]; exact SqT.of hb1) ?_ ?_⟩
    · rintro i ys H' x hx ⟨rfl, rfl⟩
      obtain ⟨d, hd, Rd⟩ := ru.get hx
      obtain ⟨hi, ed⟩ := List.getElem?_eq_some_iff.mp hd
      obtain ⟨nm, t, rfl, hh, _⟩ := part_shape (go_parts hg d (List.mem_of_getElem? hd))
      obtain ⟨p, zs, rfl, hp, rz⟩ := Rep.tup_inv Rd
      obtain ⟨y, z, rfl, Ry, Rz⟩ := Reps.two rz
      obtain rfl : y = .str nm := Ry
      obtain rfl : z = .int t := Rz
      refine turn_two (s1 _ _ hp) ⟨_, rfl, _, _, rfl, rfl, ?_, rfl, ?_⟩
      · rw [List.length_map, List.length_take, sizeLine_eq]; omega
      · rw [List.take_add_one, hd, List.map_append]
        rfl
    · rintro ys H' ⟨rfl, rfl⟩ r hr'
      rw [hl, List.take_length]
      refine ⟨r, ps.map fun p => decide (timesD p ≤ 99), rfl, SqL.of (by rw [upd_same, List.map_map]; rfl), ?_⟩
      have := q _ (s1.trans (same_new hr' (.lst (ps.map fun p => V.bl (decide (timesD p ≤ 99))))))
      rw [e0, decide_eq_true h', Bool.true_and] at this
      rw [List.all_map]
      exact this
theorem sc_has_word : FnScope ["thing"] ["thing"] (defScope s_has_word) := ⟨rfl, rfl, rfl, by decide +kernel, rfl, by decide +kernel, by decide +kernel⟩
theorem ok_has_word {f : Addr} {fd : FuncData} (F : Fun K "has_word" "has_word" s_has_word f fd) (T : Txt K mg) : FnOk P w K mg base CX0 1 f fd ["thing"] (spD wordD) := by
  refine F.ok sc_has_word (fun vs H Q E h => ?_) (fun cdv A outer s H vs Q E hr h => ?_)
  · obtain ⟨v, d, rfl, _⟩ := h
    rfl
  obtain ⟨v, d, rfl, R, q⟩ := h
  refine ⟨_, (@pss_one _ _ _ (@ps_ret _ _ _ _ (@pe_and _ _ _ _ _ _ _ (@pe_callB _ _ _ _ _ _ _ _ _ call_isi rfl T.isinstance (by decide +kernel) (@pa_cons _ _ _ _ _ (@pv _ 0 _ _ (by rfl) (by first | exact Or.inl rfl | exact Or.inr (Or.inl rfl) | exact Or.inr (Or.inr rfl)) (by decide) (by decide)) (@pa_cons _ _ _ _ _ (@pe_bltn _ _ (.ty "tuple") _ _ rfl T.tuple (by decide +kernel) rfl (by decide) (by decide)) (@pa_nil _) (by rfl)) (by rfl)) (by decide) (by decide) (by rfl) (by rfl)) (@pe_and _ _ _ _ _ _ _ (@pe_cmpR _ _ _ _ _ _ _ _ op_gt (@pe_callB _ _ _ _ _ _ _ _ _ call_len_seq rfl T.len (by decide +kernel) (@pa_cons _ _ _ _ _ (@pv _ 0 _ _ (by rfl) (by first | exact Or.inl rfl | exact Or.inr (Or.inl rfl) | exact Or.inr (Or.inr rfl)) (by decide) (by decide)) (@pa_nil _) (by rfl)) (by decide) (by decide) (by rfl) (by rfl)) (@pe_int _ _ _ _) (nomark _)) (@pe_one _ _ _ _ _ (@pe_callB _ _ _ _ _ _ _ _ _ call_isi rfl T.isinstance (by decide +kernel) (@pa_cons _ _ _ _ _ (@pe_ix _ _ _ _ _ _ _ ix_tup (@pv _ 0 _ _ (by rfl) (by first | exact Or.inl rfl | exact Or.inr (Or.inl rfl) | exact Or.inr (Or.inr rfl)) (by decide) (by decide)) (@pe_int _ _ _ _) (fun _ _ => rfl)) (@pa_cons _ _ _ _ _ (@pe_bltn _ _ (.ty "str") _ _ rfl T.str (by decide +kernel) rfl (by decide) (by decide)) (@pa_nil _) (by rfl)) (by rfl)) (by decide) (by decide) (by rfl) (by rfl))))))), ?_⟩
  refine ⟨_, rfl, v, _, _, _, rfl, R.ty, kit_tuple K d, _, rfl, ?_⟩
  cases d with
  | tup ds =>
    obtain ⟨a, vs, rfl, ha, rs⟩ := Rep.tup_inv R
    refine iteT ⟨_, rfl, a, vs, rfl, .inr (SqT.of ha), _, _, rfl, rfl, _, rfl, ?_⟩
    cases ds with
    | nil =>
      simp only [Reps] at rs
      subst rs
      exact iteF (q H (Same.refl H))
    | cons d0 ds =>
      simp only [Reps] at rs
      obtain ⟨x, r, rfl, R0, rr⟩ := rs
      rw [show decide (((0 : Int)) < (((x :: r).length : Nat) : Int)) = true from decide_eq_true (by rw [List.length_cons]; omega)]
      refine iteT ⟨_, rfl, a, _, 0, x, rfl, rfl, SqT.of ha, atI_nat (j := 0) rfl, x, _, _, _, rfl, R0.ty, kit_str K d0, ?_⟩
      have := q H (Same.refl H)
      cases d0 <;> exact this
  | _ => exact iteF (q H (Same.refl H))
end
end K61
set_option maxHeartbeats 1000000
namespace K61
open PySem L2 KB
section
variable {P : Program} {w : World} {K : PySem.W.Frag} {mg : Str → Option Value} {base : Heap}
theorem word_shape {d : Dv} (h : wordD d = true) : ∃ x r, d = .tup (.str x :: r) := by
  match d, h with
  | .tup (.str x :: r), _ => exact ⟨x, r, rfl⟩
theorem word_point {d : Dv} (h : wordD d = false) : pointD d = false := by
  match d, h with
  | .tup [.str x], h => cases h
  | .tup [.str x, l], h => cases h
  | .tup [.str x, a, b], h => cases h
  | .tup (.str x :: a :: b :: c :: r), h => cases h
  | .tup [], _ => rfl
  | .tup (.non :: r), _ => rfl
  | .tup (.bl _ :: r), _ => rfl
  | .tup (.int _ :: r), _ => rfl
  | .tup (.tup _ :: r), _ => rfl
  | .tup (.lst _ :: r), _ => rfl
  | .tup (.dct :: r), _ => rfl
  | .non, _ => rfl
  | .bl _, _ => rfl
  | .int _, _ => rfl
  | .str _, _ => rfl
  | .lst _, _ => rfl
  | .dct, _ => rfl
theorem w1 : (Str.ofString "whole") ≠ (Str.ofString "place") := by decide +kernel
theorem w2 : (Str.ofString "whole") ≠ (Str.ofString "row") := by decide +kernel
theorem w3 : (Str.ofString "whole") ≠ (Str.ofString "pair") := by decide +kernel
theorem w4 : (Str.ofString "place") ≠ (Str.ofString "row") := by decide +kernel
theorem w5 : (Str.ofString "place") ≠ (Str.ofString "pair") := by decide +kernel
theorem w6 : (Str.ofString "row") ≠ (Str.ofString "pair") := by decide +kernel
theorem p_whole {r : List Dv} : pointD (.tup (.str "whole" :: r)) = decide (r.length = 0) := by
  match r with
  | [] => show decide (Str.ofString "whole" = Str.ofString "whole") = _; rw [decide_eq_true rfl]; rfl
  | [l] => show (decide (Str.ofString "whole" = Str.ofString "place") && slD l) = _; rw [decide_eq_false w1]; rfl
  | [a, b] => show ((decide (Str.ofString "whole" = Str.ofString "row") && slD a) || decide (Str.ofString "whole" = Str.ofString "pair")) = _; rw [decide_eq_false w2, decide_eq_false w3]; rfl
  | a :: b :: c :: r => rfl
theorem p_place {r : List Dv} : pointD (.tup (.str "place" :: r)) = (decide (r.length = 1) && slD (r.headD .non)) := by
  match r with
  | [] => show decide (Str.ofString "place" = Str.ofString "whole") = _; rw [decide_eq_false (Ne.symm w1)]; rfl
  | [l] => show (decide (Str.ofString "place" = Str.ofString "place") && slD l) = _; rw [decide_eq_true rfl]; rfl
  | [a, b] => show ((decide (Str.ofString "place" = Str.ofString "row") && slD a) || decide (Str.ofString "place" = Str.ofString "pair")) = _; rw [decide_eq_false w4, decide_eq_false w5]; rfl
  | a :: b :: c :: r =>
    rw [decide_eq_false (by simp)]; rfl
theorem p_row {r : List Dv} : pointD (.tup (.str "row" :: r)) = (decide (r.length = 2) && slD (r.headD .non)) := by
  match r with
  | [] => show decide (Str.ofString "row" = Str.ofString "whole") = _; rw [decide_eq_false (Ne.symm w2)]; rfl
  | [l] => show (decide (Str.ofString "row" = Str.ofString "place") && slD l) = _; rw [decide_eq_false (Ne.symm w4)]; rfl
  | [a, b] => show ((decide (Str.ofString "row" = Str.ofString "row") && slD a) || decide (Str.ofString "row" = Str.ofString "pair")) = _; rw [decide_eq_true rfl, decide_eq_false w6, Bool.or_false]; rfl
  | a :: b :: c :: r =>
    rw [decide_eq_false (by simp)]; rfl
theorem p_else {x : Str} {r : List Dv} (h1 : x ≠ "whole") (h2 : x ≠ "place") (h3 : x ≠ "row") : pointD (.tup (.str x :: r)) = (decide (r.length = 2) && decide (x = "pair")) := by
  match r with
  | [] => show decide (x = "whole") = _; rw [decide_eq_false h1]; rfl
  | [l] => show (decide (x = "place") && slD l) = _; rw [decide_eq_false h2]; rfl
  | [a, b] => show ((decide (x = "row") && slD a) || decide (x = "pair")) = _; rw [decide_eq_false h3, Bool.false_and, Bool.false_or]; rfl
  | a :: b :: c :: r =>
    rw [decide_eq_false (by simp)]; rfl
theorem len_dec {vs : List V} {r : List Dv} {x : V} (h : vs.length = r.length) (n m : Nat) (e : m = n + 1) : decide (V.int (((x :: vs).length : Nat) : Int) = V.int (m : Int)) = decide (r.length = n) := by
  by_cases z : r.length = n
  · rw [decide_eq_true z, decide_eq_true (by rw [List.length_cons, h, z, e])]
  · rw [decide_eq_false z, decide_eq_false (fun y => z (by injection y with y; rw [List.length_cons, h] at y; omega))]
theorem sc_is_point : FnScope ["thing"] ["thing"] (defScope s_is_point) := ⟨rfl, rfl, rfl, by decide +kernel, rfl, by decide +kernel, by decide +kernel⟩
theorem ok_is_point {f : Addr} {fd : FuncData} {k : Nat} (F : Fun K "is_point" "is_point" s_is_point f fd) (T : Txt K mg) (Dhas_word : Def P w K mg base k "has_word" ["thing"] (spD wordD)) (Dis_small_length : Def P w K mg base k "is_small_length" ["thing"] (spS slD)) :
    FnOk P w K mg base CX0 (k + 1) f fd ["thing"] (spS pointD) := by
  refine F.ok sc_is_point (fun vs H Q E h => ?_) (fun cdv A outer s H vs Q E hr h => ?_)
  · obtain ⟨v, d, rfl, _⟩ := h
    rfl
  obtain ⟨v, d, rfl, R, hsm, q⟩ := h
  refine ⟨_, (@pss_cons _ _ _ _ _ (@ps_if _ _ _ _ _ _ _ _ (@pt_not _ _ _ _ (@pt_val _ _ _ (@pe_def _ _ _ _ _ _ _ _ _ _ Dhas_word hr rfl (@pa_cons _ _ _ _ _ (@pv _ 0 _ _ (by rfl) (by first | exact Or.inl rfl | exact Or.inr (Or.inl rfl) | exact Or.inr (Or.inr rfl)) (by decide) (by decide)) (@pa_nil _) (by rfl)) (by decide) (by rfl) (by rfl)) (by intro _; rfl))) (@pss_one _ _ _ (@ps_ret _ _ _ _ (@pe_bl _ _ _ _))) (@pss_nil _)) (@pss_cons _ _ _ _ _ (@ps_if _ _ _ _ _ _ _ _ (@pt_cmpR _ _ _ _ _ _ _ _ op_eq (@pe_ix _ _ _ _ _ _ _ ix_tup (@pv _ 0 _ _ (by rfl) (by first | exact Or.inl rfl | exact Or.inr (Or.inl rfl) | exact Or.inr (Or.inr rfl)) (by decide) (by decide)) (@pe_int _ _ _ _) (fun _ _ => rfl)) (@pe_str _ _ _ _) (nomark _)) (@pss_one _ _ _ (@ps_ret _ _ _ _ (@pe_cmpR _ _ _ _ _ _ _ _ op_eq (@pe_callB _ _ _ _ _ _ _ _ _ call_len_seq rfl T.len (by decide +kernel) (@pa_cons _ _ _ _ _ (@pv _ 0 _ _ (by rfl) (by first | exact Or.inl rfl | exact Or.inr (Or.inl rfl) | exact Or.inr (Or.inr rfl)) (by decide) (by decide)) (@pa_nil _) (by rfl)) (by decide) (by decide) (by rfl) (by rfl)) (@pe_int _ _ _ _) (nomark _)))) (@pss_nil _)) (@pss_cons _ _ _ _ _ (@ps_if _ _ _ _ _ _ _ _ (@pt_cmpR _ _ _ _ _ _ _ _ op_eq (@pe_ix _ _ _ _ _ _ _ ix_tup (@pv _ 0 _ _ (by rfl) (by first | exact Or.inl rfl | exact Or.inr (Or.inl rfl) | exact Or.inr (Or.inr rfl)) (by decide) (by decide)) (@pe_int _ _ _ _) (fun _ _ => rfl)) (@pe_str _ _ _ _) (nomark _)) (@pss_one _ _ _ (@ps_ret _ _ _ _ (@pe_and _ _ _ _ _ _ _ (@pe_cmpR _ _ _ _ _ _ _ _ op_eq (@pe_callB _ _ _ _ _ _ _ _ _ call_len_seq rfl T.len (by decide +kernel) (@pa_cons _ _ _ _ _ (@pv _ 0 _ _ (by rfl) (by first | exact Or.inl rfl | exact Or.inr (Or.inl rfl) | exact Or.inr (Or.inr rfl)) (by decide) (by decide)) (@pa_nil _) (by rfl)) (by decide) (by decide) (by rfl) (by rfl)) (@pe_int _ _ _ _) (nomark _)) (@pe_one _ _ _ _ _ (@pe_def _ _ _ _ _ _ _ _ _ _ Dis_small_length hr rfl (@pa_cons _ _ _ _ _ (@pe_ix _ _ _ _ _ _ _ ix_tup (@pv _ 0 _ _ (by rfl) (by first | exact Or.inl rfl | exact Or.inr (Or.inl rfl) | exact Or.inr (Or.inr rfl)) (by decide) (by decide)) (@pe_int _ _ _ _) (fun _ _ => rfl)) (@pa_nil _) (by rfl)) (by decide) (by rfl) (by rfl)))))) (@pss_nil _)) (@pss_cons _ _ _ _ _ (@ps_if _ _ _ _ _ _ _ _ (@pt_cmpR _ _ _ _ _ _ _ _ op_eq (@pe_ix _ _ _ _ _ _ _ ix_tup (@pv _ 0 _ _ (by rfl) (by first | exact Or.inl rfl | exact Or.inr (Or.inl rfl) | exact Or.inr (Or.inr rfl)) (by decide) (by decide)) (@pe_int _ _ _ _) (fun _ _ => rfl)) (@pe_str _ _ _ _) (nomark _)) (@pss_one _ _ _ (@ps_ret _ _ _ _ (@pe_and _ _ _ _ _ _ _ (@pe_cmpR _ _ _ _ _ _ _ _ op_eq (@pe_callB _ _ _ _ _ _ _ _ _ call_len_seq rfl T.len (by decide +kernel) (@pa_cons _ _ _ _ _ (@pv _ 0 _ _ (by rfl) (by first | exact Or.inl rfl | exact Or.inr (Or.inl rfl) | exact Or.inr (Or.inr rfl)) (by decide) (by decide)) (@pa_nil _) (by rfl)) (by decide) (by decide) (by rfl) (by rfl)) (@pe_int _ _ _ _) (nomark _)) (@pe_one _ _ _ _ _ (@pe_def _ _ _ _ _ _ _ _ _ _ Dis_small_length hr rfl (@pa_cons _ _ _ _ _ (@pe_ix _ _ _ _ _ _ _ ix_tup (@pv _ 0 _ _ (by rfl) (by first | exact Or.inl rfl | exact Or.inr (Or.inl rfl) | exact Or.inr (Or.inr rfl)) (by decide) (by decide)) (@pe_int _ _ _ _) (fun _ _ => rfl)) (@pa_nil _) (by rfl)) (by decide) (by rfl) (by rfl)))))) (@pss_nil _)) (@pss_one _ _ _ (@ps_ret _ _ _ _ (@pe_and _ _ _ _ _ _ _ (@pe_cmpR _ _ _ _ _ _ _ _ op_eq (@pe_callB _ _ _ _ _ _ _ _ _ call_len_seq rfl T.len (by decide +kernel) (@pa_cons _ _ _ _ _ (@pv _ 0 _ _ (by rfl) (by first | exact Or.inl rfl | exact Or.inr (Or.inl rfl) | exact Or.inr (Or.inr rfl)) (by decide) (by decide)) (@pa_nil _) (by rfl)) (by decide) (by decide) (by rfl) (by rfl)) (@pe_int _ _ _ _) (nomark _)) (@pe_one _ _ _ _ _ (@pe_cmpR _ _ _ _ _ _ _ _ op_eq (@pe_ix _ _ _ _ _ _ _ ix_tup (@pv _ 0 _ _ (by rfl) (by first | exact Or.inl rfl | exact Or.inr (Or.inl rfl) | exact Or.inr (Or.inr rfl)) (by decide) (by decide)) (@pe_int _ _ _ _) (fun _ _ => rfl)) (@pe_str _ _ _ _) (nomark _)))))))))), ?_⟩
  refine ⟨_, rfl, v, d, rfl, R, fun H1 s1 => ⟨_, rfl, ?_⟩⟩
  cases c0 : wordD d with
  | false =>
    refine iteT ?_
    have := q H1 s1
    rwa [word_point c0] at this
  | true =>
    refine iteF ?_
    obtain ⟨x, r, rfl⟩ := word_shape c0
    obtain ⟨a, vs, rfl, ha, rs⟩ := Rep.tup_inv (R.mono s1)
    simp only [Reps] at rs
    obtain ⟨y, us, rfl, R0, ru⟩ := rs
    obtain rfl : y = .str x := R0
    have hl := ru.length
    refine ⟨_, rfl, a, _, 0, .str x, rfl, rfl, SqT.of ha, atI_nat (j := 0) rfl, rfl, _, rfl, ?_⟩
    show if decide (V.str x = V.str "whole") = true then _ else _
    rw [str_dec]
    by_cases h1 : x = "whole"
    · subst h1
      rw [decide_eq_true rfl]
      refine iteT ⟨_, rfl, a, _, rfl, .inr (SqT.of ha), rfl, ?_⟩
      have := q H1 s1
      rw [p_whole, ← len_dec (x := .str "whole") hl 0 1 rfl] at this
      exact this
    rw [decide_eq_false h1]
    refine iteF ⟨_, rfl, a, _, 0, .str x, rfl, rfl, SqT.of ha, atI_nat (j := 0) rfl, rfl, _, rfl, ?_⟩
    show if decide (V.str x = V.str "place") = true then _ else _
    rw [str_dec]
    by_cases h2 : x = "place"
    · subst h2
      rw [decide_eq_true rfl]
      refine iteT ⟨_, rfl, a, _, rfl, .inr (SqT.of ha), rfl, _, rfl, ?_⟩
      show if decide (V.int _ = V.int ((2 : Nat) : Int)) = true then _ else _
      rw [len_dec (x := .str "place") hl 1 2 rfl]
      by_cases z : r.length = 1
      · rw [decide_eq_true z]
        match r, us, z, ru with
        | [l], us, _, ru =>
          simp only [Reps] at ru
          obtain ⟨u, rest, rfl, Ru, rfl⟩ := ru
          refine iteT ⟨_, rfl, a, _, 1, u, rfl, rfl, SqT.of ha, atI_nat (j := 1) rfl, u, l, rfl, Ru, smalls_get (i := 1) (ds := [.str "place", l]) (by simp only [Dv.small, Bool.and_eq_true] at hsm; exact hsm.1) rfl, fun H2 s2 => ?_⟩
          have := q H2 (s1.trans s2)
          rw [p_place] at this
          exact this
      · rw [decide_eq_false z]
        refine iteF ?_
        have := q H1 s1
        rw [p_place, decide_eq_false z] at this
        exact this
    rw [decide_eq_false h2]
    refine iteF ⟨_, rfl, a, _, 0, .str x, rfl, rfl, SqT.of ha, atI_nat (j := 0) rfl, rfl, _, rfl, ?_⟩
    show if decide (V.str x = V.str "row") = true then _ else _
    rw [str_dec]
    by_cases h3 : x = "row"
    · subst h3
      rw [decide_eq_true rfl]
      refine iteT ⟨_, rfl, a, _, rfl, .inr (SqT.of ha), rfl, _, rfl, ?_⟩
      show if decide (V.int _ = V.int ((3 : Nat) : Int)) = true then _ else _
      rw [len_dec (x := .str "row") hl 2 3 rfl]
      by_cases z : r.length = 2
      · rw [decide_eq_true z]
        match r, us, z, ru with
        | [l, m], us, _, ru =>
          obtain ⟨u, u', rfl, Ru, Ru'⟩ := Reps.two ru
          refine iteT ⟨_, rfl, a, _, 1, u, rfl, rfl, SqT.of ha, atI_nat (j := 1) rfl, u, l, rfl, Ru, smalls_get (i := 1) (ds := [.str "row", l, m]) (by simp only [Dv.small, Bool.and_eq_true] at hsm; exact hsm.1) rfl, fun H2 s2 => ?_⟩
          have := q H2 (s1.trans s2)
          rw [p_row] at this
          exact this
      · rw [decide_eq_false z]
        refine iteF ?_
        have := q H1 s1
        rw [p_row, decide_eq_false z] at this
        exact this
    rw [decide_eq_false h3]
    refine iteF ⟨_, rfl, a, _, rfl, .inr (SqT.of ha), rfl, _, rfl, ?_⟩
    show if decide (V.int _ = V.int ((3 : Nat) : Int)) = true then _ else _
    rw [len_dec (x := .str x) hl 2 3 rfl]
    have qq := q H1 s1
    rw [p_else h1 h2 h3] at qq
    by_cases z : r.length = 2
    · rw [decide_eq_true z] at qq ⊢
      refine iteT ⟨_, rfl, a, _, 0, .str x, rfl, rfl, SqT.of ha, atI_nat (j := 0) rfl, rfl, ?_⟩
      rw [Bool.true_and, ← str_dec] at qq
      exact qq
    · rw [decide_eq_false z] at qq ⊢
      exact iteF qq
theorem sc_thingsD : FnScope ["point"] ["point"] (defScope s_things_of) := ⟨rfl, rfl, rfl, by decide +kernel, rfl, by decide +kernel, by decide +kernel⟩
theorem ok_thingsD {f : Addr} {fd : FuncData} (F : Fun K "things_of" "things_of" s_things_of f fd) (T : Txt K mg) : FnOk P w K mg base CX0 1 f fd ["point"] spThD := by
  refine F.ok sc_thingsD (fun vs H Q E h => ?_) (fun cdv A outer s H vs Q E hr h => ?_)
  · obtain ⟨a, x, us, rfl, _⟩ := h
    rfl
  obtain ⟨a, x, us, rfl, ha, hr2, hp2, q⟩ := h
  refine ⟨_, (@pss_cons _ _ _ _ _ (@ps_if _ _ _ _ _ _ _ _ (@pt_cmpR _ _ _ _ _ _ _ _ op_eq (@pe_ix _ _ _ _ _ _ _ ix_tup (@pv _ 0 _ _ (by rfl) (by first | exact Or.inl rfl | exact Or.inr (Or.inl rfl) | exact Or.inr (Or.inr rfl)) (by decide) (by decide)) (@pe_int _ _ _ _) (fun _ _ => rfl)) (@pe_str _ _ _ _) (nomark _)) (@pss_one _ _ _ (@ps_ret _ _ _ _ (@pe_lst _ _ _ _ (@pa_cons _ _ _ _ _ (@pe_ix _ _ _ _ _ _ _ ix_tup (@pv _ 0 _ _ (by rfl) (by first | exact Or.inl rfl | exact Or.inr (Or.inl rfl) | exact Or.inr (Or.inr rfl)) (by decide) (by decide)) (@pe_int _ _ _ _) (fun _ _ => rfl)) (@pa_nil _) (by rfl))))) (@pss_nil _)) (@pss_cons _ _ _ _ _ (@ps_if _ _ _ _ _ _ _ _ (@pt_cmpR _ _ _ _ _ _ _ _ op_eq (@pe_ix _ _ _ _ _ _ _ ix_tup (@pv _ 0 _ _ (by rfl) (by first | exact Or.inl rfl | exact Or.inr (Or.inl rfl) | exact Or.inr (Or.inr rfl)) (by decide) (by decide)) (@pe_int _ _ _ _) (fun _ _ => rfl)) (@pe_str _ _ _ _) (nomark _)) (@pss_one _ _ _ (@ps_ret _ _ _ _ (@pe_lst _ _ _ _ (@pa_cons _ _ _ _ _ (@pe_ix _ _ _ _ _ _ _ ix_tup (@pv _ 0 _ _ (by rfl) (by first | exact Or.inl rfl | exact Or.inr (Or.inl rfl) | exact Or.inr (Or.inr rfl)) (by decide) (by decide)) (@pe_int _ _ _ _) (fun _ _ => rfl)) (@pa_cons _ _ _ _ _ (@pe_ix _ _ _ _ _ _ _ ix_tup (@pv _ 0 _ _ (by rfl) (by first | exact Or.inl rfl | exact Or.inr (Or.inl rfl) | exact Or.inr (Or.inr rfl)) (by decide) (by decide)) (@pe_int _ _ _ _) (fun _ _ => rfl)) (@pa_nil _) (by rfl)) (by rfl))))) (@pss_nil _)) (@pss_one _ _ _ (@ps_ret _ _ _ _ (@pe_lst _ _ _ _ (@pa_nil _)))))), ?_⟩
  refine ⟨_, rfl, a, _, 0, .str x, rfl, rfl, SqT.of ha, atI_nat (j := 0) rfl, rfl, _, rfl, ?_⟩
  show if decide (V.str x = V.str "row") = true then _ else _
  rw [str_dec]
  by_cases h1 : x = "row"
  · subst h1
    have hl := hr2 rfl
    match us, hl with
    | [u, u'], _ =>
      rw [decide_eq_true rfl]
      refine iteT ⟨_, rfl, a, _, 2, u', rfl, rfl, SqT.of ha, atI_nat (j := 2) rfl, z1, fun l hl => q l hl⟩
  rw [decide_eq_false h1]
  refine iteF ⟨_, rfl, a, _, 0, .str x, rfl, rfl, SqT.of ha, atI_nat (j := 0) rfl, rfl, _, rfl, ?_⟩
  show if decide (V.str x = V.str "pair") = true then _ else _
  rw [str_dec]
  by_cases h2 : x = "pair"
  · subst h2
    have hl := hp2 rfl
    match us, hl with
    | [u, u'], _ =>
      rw [decide_eq_true rfl]
      refine iteT ⟨_, rfl, a, _, 1, u, rfl, rfl, SqT.of ha, atI_nat (j := 1) rfl, _, rfl, a, _, 2, u', rfl, rfl, SqT.of ha, atI_nat (j := 2) rfl, z2, fun l hl => ?_⟩
      have := q l hl
      rw [show kids (Str.ofString "pair") [u, u'] = [u, u'] by unfold kids; rw [if_neg (Ne.symm w6), if_pos rfl]] at this
      exact this
  rw [decide_eq_false h2]
  refine iteF ⟨Nat.zero_le _, fun l hl => ?_⟩
  have := q l hl
  rw [show kids x us = [] by unfold kids; rw [if_neg h1, if_neg h2]] at this
  exact this
end
end K61
set_option maxHeartbeats 1000000
namespace K61
open PySem L2 KB
abbrev s_is_kind : Stmt := top 17
def sizeD : Dv → Nat
  | .tup [.str x] => if x = "whole" then 1 else 99
  | .tup [.str x, l] => if x = "place" ∧ slD l = true then 1 else 99
  | .tup [.str x, a, b] => if x = "pair" then 1 + sizeD a + sizeD b else if x = "row" ∧ slD a = true then 1 + sizeD b else 99
  | _ => 99
termination_by d => sizeOf d
decreasing_by all_goals simp_wf; omega
theorem size_no {d : Dv} (h : pointD d = false) : sizeD d = 99 := by
  match d, h with
  | .tup [.str x], h =>
    rw [sizeD, if_neg (of_decide_eq_false h)]
  | .tup [.str x, l], h =>
    rw [sizeD, if_neg (fun z => by
      have h' : (decide (x = "place") && slD l) = false := h
      rw [decide_eq_true z.1, z.2] at h'; cases h')]
  | .tup [.str x, a, b], h =>
    have h' : ((decide (x = "row") && slD a) || decide (x = "pair")) = false := h
    rw [Bool.or_eq_false_iff] at h'
    rw [sizeD, if_neg (of_decide_eq_false h'.2), if_neg (fun z => by
      have h2 := h'.1
      rw [decide_eq_true z.1, z.2] at h2; cases h2)]
  | .tup (.str x :: a :: b :: c :: r), _ => rw [sizeD] <;> simp
  | .tup [], _ => rw [sizeD] <;> simp
  | .tup (.non :: r), _ => rw [sizeD] <;> simp
  | .tup (.bl _ :: r), _ => rw [sizeD] <;> simp
  | .tup (.int _ :: r), _ => rw [sizeD] <;> simp
  | .tup (.tup _ :: r), _ => rw [sizeD] <;> simp
  | .tup (.lst _ :: r), _ => rw [sizeD] <;> simp
  | .tup (.dct :: r), _ => rw [sizeD] <;> simp
  | .non, _ => rw [sizeD] <;> simp
  | .bl _, _ => rw [sizeD] <;> simp
  | .int _, _ => rw [sizeD] <;> simp
  | .str _, _ => rw [sizeD] <;> simp
  | .lst _, _ => rw [sizeD] <;> simp
  | .dct, _ => rw [sizeD] <;> simp
theorem point_shape {d : Dv} (h : pointD d = true) : ∃ x r, d = .tup (.str x :: r) ∧ (x = "row" → r.length = 2) ∧ (x = "pair" → r.length = 2) ∧ sizeD d = 1 + ((kids x r).map sizeD).sum := by
  match d, h with
  | .tup [.str x], h =>
    have h' : x = "whole" := of_decide_eq_true h
    subst h'
    exact ⟨_, _, rfl, fun z => absurd z w2, fun z => absurd z w3, by rw [sizeD, if_pos rfl]; unfold kids; rw [if_neg w2, if_neg w3]; rfl⟩
  | .tup [.str x, l], h =>
    have h' : (decide (x = "place") && slD l) = true := h
    rw [Bool.and_eq_true] at h'
    have e : x = "place" := of_decide_eq_true h'.1
    subst e
    exact ⟨_, _, rfl, fun z => absurd z w4, fun z => absurd z w5, by rw [sizeD, if_pos ⟨rfl, h'.2⟩]; unfold kids; rw [if_neg w4, if_neg w5]; rfl⟩
  | .tup [.str x, a, b], h =>
    have h' : ((decide (x = "row") && slD a) || decide (x = "pair")) = true := h
    rw [Bool.or_eq_true, Bool.and_eq_true] at h'
    refine ⟨x, _, rfl, fun _ => rfl, fun _ => rfl, ?_⟩
    rw [sizeD]
    rcases h' with ⟨h1, h2⟩ | h1
    · have e : x = "row" := of_decide_eq_true h1
      subst e
      rw [if_neg w6, if_pos ⟨rfl, h2⟩]
      unfold kids
      rw [if_pos rfl]
      simp
    · have e : x = "pair" := of_decide_eq_true h1
      subst e
      rw [if_pos rfl]
      unfold kids
      rw [if_neg (Ne.symm w6), if_pos rfl]
      simp [Nat.add_assoc]
theorem size_pos (d : Dv) : 1 ≤ sizeD d := by
  cases h : pointD d with
  | false => rw [size_no h]; decide
  | true => obtain ⟨x, r, _, _, _, e⟩ := point_shape h; rw [e]; omega
theorem kids_reps {H : Hp} {x : Str} {r : List Dv} {us : List V} (h : Reps H r us) : Reps H (kids x r) (kids x us) := by
  unfold kids
  split
  · match r, us, h with
    | [], us, h => simp only [Reps] at h; subst h; simp only [List.drop_nil, Reps]
    | d :: r, us, h => simp only [Reps] at h; obtain ⟨v, q, rfl, _, h2⟩ := h; exact h2
  · split
    · exact h
    · simp only [Reps]
theorem kids_small {x : Str} {r : List Dv} (h : smalls r = true) : smalls (kids x r) = true := by
  unfold kids
  split
  · match r, h with
    | [], _ => rfl
    | d :: r, h => simp only [smalls, Bool.and_eq_true] at h; exact h.2
  · split
    · exact h
    · rfl
theorem kids_len {α : Type} {x : Str} {r : List α} (h1 : x = "row" → r.length = 2) (h2 : x = "pair" → r.length = 2) : (kids x r).length ≤ 2 := by
  unfold kids
  split
  · rename_i e; rw [List.length_drop, h1 e]; decide
  · split
    · rename_i e; rw [h2 e]; exact Nat.le_refl _
    · exact Nat.zero_le _
theorem smalls_app : ∀ {xs ys : List Dv}, smalls xs = true → smalls ys = true → smalls (xs ++ ys) = true
  | [], _, _, h => h
  | x :: xs, ys, g, h => by
    simp only [smalls, Bool.and_eq_true, List.cons_append] at g ⊢
    exact ⟨g.1, smalls_app g.2 h⟩
theorem smalls_snoc : ∀ {xs : List Dv} {y : Dv}, smalls (xs ++ [y]) = true → smalls xs = true ∧ y.small = true
  | [], y, h => by simpa [smalls] using h
  | x :: xs, y, h => by
    simp only [smalls, Bool.and_eq_true, List.cons_append] at h ⊢
    have := smalls_snoc h.2
    exact ⟨⟨h.1, this.1⟩, this.2⟩
theorem l1_upd {H : Hp} {l : Addr} {o : HO} : Same (less1 H l) (less1 (upd H l o) l) := fun b u h => by
  unfold less1 at h ⊢
  split at h
  · cases h
  · rename_i e; rw [if_neg e, upd_ne e]; exact h
def spIsKind : Sp := spS fun d => decide (sizeD d ≤ 12)
section
variable {P : Program} {w : World} {K : PySem.W.Frag} {mg : Str → Option Value} {base : Heap}
theorem sc_is_kind : FnScope ["thing", "size", "waiting", "point"] ["thing"] (defScope s_is_kind) := ⟨rfl, rfl, rfl, by decide +kernel, rfl, by decide +kernel, by decide +kernel⟩
theorem ok_is_kind {f : Addr} {fd : FuncData} {k : Nat} (F : Fun K "is_kind" "is_kind" s_is_kind f fd) (T : Txt K mg) (Dis_point : Def P w K mg base k "is_point" ["thing"] (spS pointD)) (Dthings_of : Def P w K mg base k "things_of" ["point"] spThD) :
    FnOk P w K mg base CX0 (k + 1) f fd ["thing"] spIsKind := by
  have nd : (["thing", "size", "waiting", "point"] : List Str).Nodup := sc_is_kind.nd
  refine F.ok sc_is_kind (fun vs H Q E h => ?_) (fun cdv A outer s H vs Q E hr h => ?_)
  · obtain ⟨v, d, rfl, _⟩ := h
    rfl
  obtain ⟨v, d, rfl, R, hsm, q⟩ := h
  replace q : ∀ (H' : Hp), Same H H' → Q (V.bl (decide (sizeD d ≤ 12))) H' := q
  refine ⟨_, (@pss_cons _ _ _ _ _ (@ps_set _ _ (1) _ _ _ _ nd rfl (Or.inl rfl) (@pe_int _ _ _ _) (by rfl) (by first | exact .inl rfl | exact .inr rfl | assumption)) (@pss_cons _ _ _ _ _ (@ps_set _ _ (2) _ _ _ _ nd rfl (Or.inl rfl) (@pe_lst _ _ _ _ (@pa_cons _ _ _ _ _ (@pv _ 0 _ _ (by rfl) (by first | exact Or.inl rfl | exact Or.inr (Or.inl rfl) | exact Or.inr (Or.inr rfl)) (by decide) (by decide)) (@pa_nil _) (by rfl))) (by rfl) (by first | exact .inl rfl | exact .inr rfl | assumption)) (@pss_cons _ _ _ _ _ (@ps_while _ _ _ _ _ _ PassesOwn.never (@pt_truth _ _ _ (@pv _ 2 _ _ (by rfl) (by first | exact Or.inl rfl | exact Or.inr (Or.inl rfl) | exact Or.inr (Or.inr rfl)) (by decide) (by decide)) (fun _ => rfl)) (@pss_cons _ _ _ _ _ (@ps_set _ _ (3) _ _ _ _ nd rfl (Or.inl rfl) (@pe_bm0 _ _ _ _ _ _ _ _ _ PySem.F.plainAttrs_list PySem.F.slot_list_pop PySem.F.type_list_pop mt_pop (@pv _ 2 _ _ (by rfl) (by first | exact Or.inl rfl | exact Or.inr (Or.inl rfl) | exact Or.inr (Or.inr rfl)) (by decide) (by decide)) (by rfl) (by rfl)) (by rfl) (by first | exact .inl rfl | exact .inr rfl | assumption)) (@pss_cons _ _ _ _ _ (@ps_aug _ _ (1) _ _ _ _ _ _ nd rfl (Or.inl rfl) (@pe_int _ _ _ _) ip_add (by first | exact .inl rfl | exact .inr rfl | assumption)) (@pss_cons _ _ _ _ _ (@ps_if _ _ _ _ _ _ _ _ (@PW.pt _ _ _ (@pw_or _ _ _ _ _ _ _ (@pt_cmpR _ _ _ _ _ _ _ _ op_gt (@pv _ 1 _ _ (by rfl) (by first | exact Or.inl rfl | exact Or.inr (Or.inl rfl) | exact Or.inr (Or.inr rfl)) (by decide) (by decide)) (T.g_GREATEST_SIZE rfl) (nomark _)) (@pw_or1 _ _ _ _ (@pt_not _ _ _ _ (@pt_val _ _ _ (@pe_def _ _ _ _ _ _ _ _ _ _ Dis_point hr rfl (@pa_cons _ _ _ _ _ (@pv _ 3 _ _ (by rfl) (by first | exact Or.inl rfl | exact Or.inr (Or.inl rfl) | exact Or.inr (Or.inr rfl)) (by decide) (by decide)) (@pa_nil _) (by rfl)) (by decide) (by rfl) (by rfl)) (by intro _; rfl)))))) (@pss_one _ _ _ (@ps_ret _ _ _ _ (@pe_bl _ _ _ _))) (@pss_nil _)) (@pss_one _ _ _ (@ps_expr _ _ _ _ (@pe_bm _ _ _ _ _ _ _ _ _ _ _ _ PySem.F.plainAttrs_list PySem.F.slot_list_extend PySem.F.type_list_extend mt_extend (@pv _ 2 _ _ (by rfl) (by first | exact Or.inl rfl | exact Or.inr (Or.inl rfl) | exact Or.inr (Or.inr rfl)) (by decide) (by decide)) (@pa_cons _ _ _ _ _ (@pe_def _ _ _ _ _ _ _ _ _ _ Dthings_of hr rfl (@pa_cons _ _ _ _ _ (@pv _ 3 _ _ (by rfl) (by first | exact Or.inl rfl | exact Or.inr (Or.inl rfl) | exact Or.inr (Or.inr rfl)) (by decide) (by decide)) (@pa_nil _) (by rfl)) (by decide) (by rfl) (by rfl)) (@pa_nil _) (by rfl)) (by rfl) (by rfl) (by rfl) (by rfl) (by rfl)) (by rfl))))))) (@pss_one _ _ _ (@ps_ret _ _ _ _ (@pe_bl _ _ _ _)))))), ?_⟩
  refine ⟨_, rfl, z1, fun W1 hW => ?_⟩
  have q1 := same_new hW (.lst [v])
  refine while_m (fun m σ H' => ∃ (o3 : Option V) (sz : Nat) (ws : List Dv) (vs : List V), σ = [some v, some (.int sz), some (.ref W1), o3] ∧ Same H (less1 H' W1) ∧ H' W1 = some (.lst vs) ∧ Reps (less1 H' W1) ws vs ∧ smalls ws = true ∧ (sz + (ws.map sizeD).sum ≤ 12 ↔ sizeD d ≤ 12) ∧ m = 12 - sz ∧ sz ≤ 12 ∧ ws.length ≤ 1 + sz) 12
    ⟨_, 0, [d], [v], rfl, less1_of q1 hW, upd_same, reps_one (R.mono (less1_of q1 hW)), by simp only [smalls, hsm, Bool.and_self], by simp, rfl, by decide, Nat.le_refl _⟩ ?_ mono_truth
  rintro m σ H1 ⟨o3, sz, ws, vs, rfl, s1, w1, R1, sm, eq, rfl, s12, lw⟩
  have s01 : Same H H1 := s1.trans less1_sub
  refine ⟨_, rfl, _, .inl ⟨vs, SqL.of w1, rfl⟩, ?_⟩
  by_cases ne : ws = []
  · subst ne
    have e : vs = [] := by simpa only [Reps] using R1
    subst e
    refine iteF ?_
    have := q H1 s01
    rw [decide_eq_true (eq.mp (by simpa using s12))] at this
    exact this
  · obtain ⟨w0, x, rfl⟩ := snoc_of ne
    obtain ⟨v0, u, rfl, Ra, Ru⟩ := reps_snoc R1
    have e : (!(v0 ++ [u]).isEmpty) = true := by simp
    rw [e]
    refine iteT ?_
    rw [List.map_append, List.sum_append, List.map_cons, List.map_nil, List.sum_cons, List.sum_nil] at eq
    rw [List.length_append, List.length_singleton] at lw
    obtain ⟨sm0, smx⟩ := smalls_snoc sm
    refine ⟨_, rfl, .inl ⟨rfl, _, SqL.of w1⟩, W1, _, _, rfl, rfl, w1, pop_snoc _ _, ?_⟩
    rw [List.dropLast_concat]
    have t2 : Same (less1 H1 W1) (less1 (upd H1 W1 (.lst v0)) W1) := l1_upd
    have w2 : upd H1 W1 (.lst v0) W1 = some (.lst v0) := upd_same
    have s02 : Same H _ := s1.trans (t2.trans less1_sub)
    generalize upd H1 W1 (.lst v0) = H2 at t2 w2 s02 ⊢
    have xp := size_pos x
    refine ⟨_, rfl, _, _, rfl, rfl, ?_⟩
    refine ⟨_, rfl, _, _, rfl, rfl, _, rfl, ?_⟩
    refine ite2 (fun h => ?_) (fun h => ?_)
    · have h' : (12 : Int) < (sz : Int) + 1 := of_decide_eq_true h
      have := q H2 s02
      rw [decide_eq_false (fun z => by have := eq.mpr z; omega)] at this
      exact iteT this
    have h' : sz + 1 ≤ 12 := by have z : ¬ ((12 : Int) < (sz : Int) + 1) := of_decide_eq_false (Bool.eq_false_iff.mpr h); omega
    refine ⟨_, rfl, u, x, rfl, Ru.mono (t2.trans less1_sub), smx, fun H3 s3 => ⟨_, rfl, ?_⟩⟩
    have s03 := s02.trans s3
    cases c : pointD x with
    | false =>
      have := q H3 s03
      rw [decide_eq_false (fun z => by have := eq.mpr z; rw [size_no c] at this; omega)] at this
      exact iteT this
    | true =>
      refine iteF ?_
      obtain ⟨wd, r, rfl, k1, k2, es⟩ := point_shape c
      have Rx : Rep (less1 H3 W1) (.tup (.str wd :: r)) u := Ru.mono (t2.trans (less1_same s3))
      obtain ⟨a, us, rfl, ha, rs⟩ := Rep.tup_inv Rx
      simp only [Reps] at rs
      obtain ⟨y, ur, rfl, R0, ru⟩ := rs
      obtain rfl : y = .str wd := R0
      have hl := ru.length
      have w3 := s3 _ _ w2
      have lk : (kids wd ur).length ≤ 2 := kids_len (fun z => by rw [hl]; exact k1 z) (fun z => by rw [hl]; exact k2 z)
      have lv : v0.length ≤ 12 := by rw [Ra.length]; omega
      refine ⟨_, rfl, .inl ⟨rfl, _, SqL.of w3⟩, _, rfl, a, wd, ur, rfl, less1_sub _ _ ha, fun z => by rw [hl]; exact k1 z, fun z => by rw [hl]; exact k2 z, fun l hl4 => ?_⟩
      have q4 := same_new hl4 (.lst (kids wd ur))
      refine ⟨W1, l, _, _, rfl, rfl, q4 _ _ w3, upd_same, by rw [sizeLine_eq]; omega, ?_⟩
      have t5 : Same (less1 H3 W1) (less1 (upd (upd H3 l (.lst (kids wd ur))) W1 (.lst (v0 ++ kids wd ur))) W1) := (less1_same q4).trans l1_upd
      have t15 := t2.trans ((less1_same s3).trans t5)
      refine ⟨12 - (sz + 1), by omega, _, sz + 1, w0 ++ kids wd r, v0 ++ kids wd ur, rfl, s1.trans t15, upd_same, Reps.append (Ra.mono t15) ((kids_reps ru).mono t5), smalls_app sm0 (kids_small (by simp only [Dv.small, smalls, Bool.and_eq_true] at smx; exact smx.1.2)), ?_, rfl, h', ?_⟩
      · rw [← eq, es, List.map_append, List.sum_append]
        constructor <;> intro z <;> omega
      · have := kids_len (α := Dv) k1 k2
        rw [List.length_append]; omega
end
end K61
set_option maxHeartbeats 1000000
namespace K61
open PySem L2 KB
abbrev s_show_part : Stmt := top 19
abbrev s_show_length : Stmt := top 20
abbrev s_inbr : Stmt := top 21
abbrev s_show_kind : Stmt := top 22
def numT (i : Int) : Str := Str.ofString (toString i)
def partT (p : Pr) : Str := if p.2 = 1 then p.1 else numT p.2 ++ Str.ofString "*" ++ p.1
def lenTs (c : Int) (ps : List Pr) : List Str := ps.map partT ++ (if c ≠ 0 ∨ ps = [] then [numT c] else [])
def lenT (c : Int) (ps : List Pr) : Str := Str.join (Str.ofString "+") (lenTs c ps)
def kdT : Kd → Str
  | .whole => Str.ofString "whole"
  | .place c ps => Str.ofString "place" ++ Str.ofString "(" ++ Str.join (Str.ofString ", ") [lenT c ps] ++ Str.ofString ")"
  | .row c ps k => Str.ofString "row" ++ Str.ofString "(" ++ Str.join (Str.ofString ", ") [lenT c ps, kdT k] ++ Str.ofString ")"
  | .pair a b => Str.ofString "pair" ++ Str.ofString "(" ++ Str.join (Str.ofString ", ") [kdT a, kdT b] ++ Str.ofString ")"
structure Wr (c : Int) (ps : List Pr) : Prop where
  can : Canon ps
  c0 : 0 ≤ c
  c1 : c < 10 ^ 60
  len : ps.length ≤ 21
  le : ∀ p ∈ ps, p.2 < 10 ^ 60 ∧ p.1.length ≤ 8
theorem log60 {i : Int} (h0 : 0 ≤ i) (h1 : i < 10 ^ 60) : i.natAbs.log2 < 1920 := by
  refine Nat.lt_trans ?_ (show 200 < 1920 by decide)
  by_cases e : i.natAbs = 0
  · rw [e]; decide
  · exact (Nat.log2_lt e).mpr (Nat.lt_of_lt_of_le (show i.natAbs < 10 ^ 60 by omega) (by decide))
theorem num_len {i : Int} (h0 : 0 ≤ i) (h1 : i < 10 ^ 60) : (numT i).length ≤ 60 := PyProof.Rows.toString_length_le h0 (k := 60) (by decide) h1
theorem lstar : (Str.ofString "*").length = 1 := by decide +kernel
theorem lplus : (Str.ofString "+").length = 1 := by decide +kernel
theorem part_len {p : Pr} (h0 : 1 ≤ p.2) (h1 : p.2 < 10 ^ 60) (h8 : p.1.length ≤ 8) : (partT p).length ≤ 69 := by
  unfold partT
  split
  · omega
  · rw [strLen_append, strLen_append, lstar]
    have := num_len (i := p.2) (by omega) h1
    omega
def spShP : Sp := fun vs H Q _ => ∃ (x : Str) (n : Int), vs = [.str x, .int n] ∧ x.length ≤ 8 ∧ 1 ≤ n ∧ n < 10 ^ 60 ∧ Q (.str (partT (x, n))) H
def spShL : Sp := fun vs H Q _ => ∃ (v : V) (c : Int) (ps : List Pr), vs = [v] ∧ Rep H (lenDv c ps) v ∧ Wr c ps ∧ ∀ H', Same H H' → Q (.str (lenT c ps)) H'
theorem tj (z : Str) (ys : List Str) : Txt.join z ys = Str.join z ys := by
  show Builtin.Str.glued z ys = _
  rw [StrLaws.glued_eq_join]
section
variable {P : Program} {w : World} {K : PySem.W.Frag} {mg : Str → Option Value} {base : Heap}
theorem sc_show_part : FnScope ["name", "times"] ["name", "times"] (defScope s_show_part) := ⟨rfl, rfl, rfl, by decide +kernel, rfl, by decide +kernel, by decide +kernel⟩
theorem ok_show_part {f : Addr} {fd : FuncData} (F : Fun K "show_part" "show_part" s_show_part f fd) (T : Txt K mg) : FnOk P w K mg base CX0 1 f fd ["name", "times"] spShP := by
  refine F.ok sc_show_part (fun vs H Q E h => ?_) (fun cdv A outer s H vs Q E hr h => ?_)
  · obtain ⟨x, n, rfl, _⟩ := h
    rfl
  obtain ⟨x, n, rfl, x8, n1, n60, q⟩ := h
  refine ⟨_, (@pss_one _ _ _ (@ps_ret _ _ _ _ (@pe_ifExp _ _ _ _ _ _ _ _ (@pt_cmpR _ _ _ _ _ _ _ _ op_eq (@pv _ 1 _ _ (by rfl) (by first | exact Or.inl rfl | exact Or.inr (Or.inl rfl) | exact Or.inr (Or.inr rfl)) (by decide) (by decide)) (@pe_int _ _ _ _) (nomark _)) (@pv _ 0 _ _ (by rfl) (by first | exact Or.inl rfl | exact Or.inr (Or.inl rfl) | exact Or.inr (Or.inr rfl)) (by decide) (by decide)) (@pe_fstr _ _ _ _ _ _ (@pf_cons _ _ _ _ _ (@pe_fvI _ _ _ _ (@pv _ 1 _ _ (by rfl) (by first | exact Or.inl rfl | exact Or.inr (Or.inl rfl) | exact Or.inr (Or.inr rfl)) (by decide) (by decide))) (@pf_cons _ _ _ _ _ (@pe_str _ _ _ _) (@pf_cons _ _ _ _ _ (@pe_fv _ _ _ _ (@pv _ 0 _ _ (by rfl) (by first | exact Or.inl rfl | exact Or.inr (Or.inl rfl) | exact Or.inr (Or.inr rfl)) (by decide) (by decide))) (@pf_nil _)))))))), ?_⟩
  refine ⟨_, rfl, rfl, _, rfl, ite2 (fun h => ?_) (fun h => ?_)⟩
  · have e : n = 1 := by simpa using h
    have ep : partT (x, n) = x := if_pos e
    rw [ep] at q
    exact ⟨_, rfl, q⟩
  · have e : ¬ n = 1 := by simpa using h
    have ep : partT (x, n) = numT n ++ Str.ofString "*" ++ x := if_neg e
    rw [ep] at q
    have l0 := num_len (i := n) (by omega) n60
    have e1 : Str.empty ++ numT n = numT n := PySem.Str.empty_append _
    have l1 : (numT n ++ Str.ofString "*").length ≤ 61 := by rw [strLen_append, lstar]; omega
    have l2 : (numT n ++ Str.ofString "*" ++ x).length ≤ 69 := by rw [strLen_append]; omega
    refine ⟨_, rfl, n, rfl, log60 (by omega) n60, numT n, rfl, by rw [e1, sizeLine_eq]; omega, ?_⟩
    rw [e1]
    exact ⟨_, rfl, by rw [sizeLine_eq]; omega, _, rfl, x, rfl, by rw [sizeLine_eq]; omega, x, rfl, by rw [sizeLine_eq]; omega, by rw [sizeLine_eq]; omega, q⟩
end
end K61
set_option maxHeartbeats 1000000
namespace K61
open PySem L2 KB
theorem join_one (s a : Str) : Str.join s [a] = a := rfl
theorem join_two (s a b : Str) (r : List Str) : Str.join s (a :: b :: r) = a ++ s ++ Str.join s (b :: r) := rfl
theorem join_len (s : Str) : ∀ ys : List Str, (Str.join s ys).length ≤ (ys.map (·.length)).sum + ys.length * s.length
  | [] => Nat.zero_le _
  | [a] => by rw [join_one]; simp
  | a :: b :: r => by
    have ih := join_len s (b :: r)
    rw [join_two, strLen_append, strLen_append]
    simp only [List.map_cons, List.sum_cons, List.length_cons, Nat.add_mul] at ih ⊢
    omega
theorem lsep : (Str.ofString ", ").length = 2 := by decide +kernel
theorem lb3 : (Str.ofString "(").length = 1 := by decide +kernel
theorem lb4 : (Str.ofString ")").length = 1 := by decide +kernel
theorem sum_leB {B : Nat} : ∀ {ys : List Str}, (∀ y ∈ ys, y.length ≤ B) → (ys.map (·.length)).sum ≤ ys.length * B
  | [], _ => by simp
  | y :: ys, h => by
    have h1 := h y List.mem_cons_self
    have h2 := sum_leB (ys := ys) fun e he => h e (List.mem_cons_of_mem _ he)
    rw [List.map_cons, List.sum_cons, List.length_cons, Nat.add_mul]
    omega
theorem lenTs_le {c : Int} {ps : List Pr} (h : Wr c ps) : (∀ y ∈ lenTs c ps, y.length ≤ 69) ∧ (lenTs c ps).length ≤ 22 := by
  have l := h.len
  unfold lenTs
  refine ⟨fun y hy => ?_, ?_⟩
  · rcases List.mem_append.mp hy with h1 | h1
    · obtain ⟨p, hp, rfl⟩ := List.mem_map.mp h1
      exact part_len (h.can.ge p hp) (h.le p hp).1 (h.le p hp).2
    · split at h1
      · rw [List.mem_singleton.mp h1]; have := num_len h.c0 h.c1; omega
      · cases h1
  · rw [List.length_append, List.length_map]
    split
    · rw [List.length_singleton]; omega
    · rw [List.length_nil]; omega
theorem lenT_len {c : Int} {ps : List Pr} (h : Wr c ps) : (lenT c ps).length ≤ 1540 := by
  obtain ⟨h1, h2⟩ := lenTs_le h
  have a := join_len (Str.ofString "+") (lenTs c ps)
  have b := sum_leB h1
  rw [lplus] at a
  unfold lenT
  have : (lenTs c ps).length * 69 ≤ 22 * 69 := Nat.mul_le_mul_right _ h2
  omega
theorem kdT_len : ∀ {k : Kd}, k.All Wr → (kdT k).length ≤ 1700 * k.size
  | .whole, _ => by show (Str.ofString "whole").length ≤ 1700 * 1; exact Nat.le_of_ble_eq_true (by decide +kernel)
  | .place c ps, h => by
    have l := lenT_len (c := c) (ps := ps) h
    have w : (Str.ofString "place").length = 5 := by decide +kernel
    rw [kdT, join_one, strLen_append, strLen_append, strLen_append, w, lb3, lb4]
    show _ ≤ 1700 * 1
    omega
  | .row c ps k, h => by
    have l := lenT_len (c := c) (ps := ps) h.1
    have i := kdT_len (k := k) h.2
    have w : (Str.ofString "row").length = 3 := by decide +kernel
    rw [kdT, join_two, join_one, strLen_append, strLen_append, strLen_append, strLen_append, strLen_append, w, lb3, lb4, lsep]
    show _ ≤ 1700 * (k.size + 1)
    omega
  | .pair a b, h => by
    have i := kdT_len (k := a) h.1
    have j := kdT_len (k := b) h.2
    have w : (Str.ofString "pair").length = 4 := by decide +kernel
    rw [kdT, join_two, join_one, strLen_append, strLen_append, strLen_append, strLen_append, strLen_append, w, lb3, lb4, lsep]
    show _ ≤ 1700 * (a.size + b.size + 1)
    omega
def spInBr : Sp := fun vs H Q _ => ∃ (z : Str) (l : Addr) (ys : List Str), vs = [.str z, .ref l] ∧ H l = some (.lst (ys.map V.str)) ∧ z.length ≤ 10 ∧ (ys.map (·.length)).sum + ys.length * 2 ≤ 200000 ∧ Q (.str (z ++ Str.ofString "(" ++ Str.join (Str.ofString ", ") ys ++ Str.ofString ")")) H
def spShK (n : Nat) : Sp := fun vs H Q _ => ∃ (v : V) (k : Kd), vs = [v] ∧ Rep H k.dv v ∧ k.size ≤ n ∧ n ≤ 12 ∧ k.All Wr ∧ ∀ H', Same H H' → Q (.str (kdT k)) H'
section
variable {P : Program} {w : World} {K : PySem.W.Frag} {mg : Str → Option Value} {base : Heap}
theorem sc_show_length : FnScope ["a", "parts"] ["a"] (defScope s_show_length) := ⟨rfl, rfl, rfl, by decide +kernel, rfl, by decide +kernel, by decide +kernel⟩
theorem ok_show_length {f : Addr} {fd : FuncData} {k : Nat} (F : Fun K "show_length" "show_length" s_show_length f fd) (T : Txt K mg) (Dshow_part : Def P w K mg base k "show_part" ["name", "times"] spShP) : FnOk P w K mg base CX0 (k + 1) f fd ["a"] spShL := by
  have nd : (["a", "parts"] : List Str).Nodup := sc_show_length.nd
  refine F.ok sc_show_length (fun vs H Q E h => ?_) (fun cdv A outer s H vs Q E hr h => ?_)
  · obtain ⟨v, c, ps, rfl, _⟩ := h
    rfl
  obtain ⟨v, c, ps, rfl, R, wr, q⟩ := h
  have hu9 := hu150_of hr
  have huL : (A.deeper (PyProof.Rows.envOfC (Str.ofString "show_length") (defScope s_show_length) s.heap.objs.size f cdv)).units < cLine := by omega
  obtain ⟨a, a1, us, rfl, ha, ha1, ru, lu⟩ := len_inv R
  obtain ⟨tl, tn⟩ := lenTs_le wr
  have wl := wr.len
  refine ⟨_, (@pss_cons _ _ _ _ _ (@ps_lc _ _ (["name", "times"]) ([]) _ _ _ _ _ _ _ _ _ _ _ (1) _ nd rfl rfl (@pi_tup _ _ _ _ (@pe_ix _ _ _ _ _ _ _ ix_tup (@pv _ 0 _ _ (by rfl) (by first | exact Or.inl rfl | exact Or.inr (Or.inl rfl) | exact Or.inr (Or.inr rfl)) (by decide) (by decide)) (@pe_int _ _ _ _) (fun _ _ => rfl))) (.of rfl) rfl (fun _ _ _ => pg_tup rfl (@pgs_cons _ _ _ _ _ (@pg_name _ _ (0) _ (lc_nd (l := ["name", "times"]) ((by decide +kernel)) rfl) rfl (Or.inl rfl) (by first | exact .inl rfl | exact .inr rfl | assumption)) (@pgs_cons _ _ _ _ _ (@pg_name _ _ (1) _ (lc_nd (l := ["name", "times"]) ((by decide +kernel)) rfl) rfl (Or.inl rfl) (by first | exact .inl rfl | exact .inr rfl | assumption)) (@pgs_nil _) (by rfl)) (by rfl))) (gw_two (by decide) (by decide)) (fun _ _ _ => (@pif_nil _)) (fun _ _ _ => (@pe_def _ _ _ _ _ _ _ _ _ _ Dshow_part hr rfl (@pa_cons _ _ _ _ _ (@pv _ 0 _ _ (by rfl) (by first | exact Or.inl rfl | exact Or.inr (Or.inl rfl) | exact Or.inr (Or.inr rfl)) (by decide) (by decide)) (@pa_cons _ _ _ _ _ (@pv _ 1 _ _ (by rfl) (by first | exact Or.inl rfl | exact Or.inr (Or.inl rfl) | exact Or.inr (Or.inr rfl)) (by decide) (by decide)) (@pa_nil _) (by rfl)) (by rfl)) (by decide) (by rfl) (by rfl))) (by rfl) (by intro _; rfl)) (@pss_cons _ _ _ _ _ (@ps_if _ _ _ _ _ _ _ _ (@PW.pt _ _ _ (@pw_or _ _ _ _ _ _ _ (@pt_cmpR _ _ _ _ _ _ _ _ op_ne (@pe_ix _ _ _ _ _ _ _ ix_tup (@pv _ 0 _ _ (by rfl) (by first | exact Or.inl rfl | exact Or.inr (Or.inl rfl) | exact Or.inr (Or.inr rfl)) (by decide) (by decide)) (@pe_int _ _ _ _) (fun _ _ => rfl)) (@pe_int _ _ _ _) (nomark _)) (@pw_or1 _ _ _ _ (@pt_cmpR _ _ _ _ _ _ _ _ (op_eqE huL) (@pv _ 1 _ _ (by rfl) (by first | exact Or.inl rfl | exact Or.inr (Or.inl rfl) | exact Or.inr (Or.inr rfl)) (by decide) (by decide)) (@pe_lst _ _ _ _ (@pa_nil _)) (nomark _))))) (@pss_one _ _ _ (@ps_expr _ _ _ _ (@pe_bm _ _ _ _ _ _ _ _ _ _ _ _ PySem.F.plainAttrs_list PySem.F.slot_list_append PySem.F.type_list_append mt_append (@pv _ 1 _ _ (by rfl) (by first | exact Or.inl rfl | exact Or.inr (Or.inl rfl) | exact Or.inr (Or.inr rfl)) (by decide) (by decide)) (@pa_cons _ _ _ _ _ (@pe_callTy _ _ _ _ _ _ _ _ _ call_str_int rfl T.str (by decide +kernel) (@pa_cons _ _ _ _ _ (@pe_ix _ _ _ _ _ _ _ ix_tup (@pv _ 0 _ _ (by rfl) (by first | exact Or.inl rfl | exact Or.inr (Or.inl rfl) | exact Or.inr (Or.inr rfl)) (by decide) (by decide)) (@pe_int _ _ _ _) (fun _ _ => rfl)) (@pa_nil _) (by rfl)) (by decide) (by decide) (by rfl) (by rfl)) (@pa_nil _) (by rfl)) (by rfl) (by rfl) (by rfl) (by rfl) (by rfl)) (by rfl))) (@pss_nil _)) (@pss_one _ _ _ (@ps_ret _ _ _ _ (@pe_bm _ _ _ _ _ _ _ _ _ _ _ _ PySem.F.plainAttrs_str PySem.F.slot_str_join PySem.F.type_str_join mt_join (@pe_str _ _ _ _) (@pa_cons _ _ _ _ _ (@pv _ 1 _ _ (by rfl) (by first | exact Or.inl rfl | exact Or.inr (Or.inl rfl) | exact Or.inr (Or.inr rfl)) (by decide) (by decide)) (@pa_nil _) (by rfl)) (by rfl) (by rfl) (by rfl) (by rfl) (by rfl)))))), ?_⟩
  refine ⟨_, rfl, a, _, 1, .ref a1, rfl, rfl, SqT.of ha, atI_nat (j := 1) rfl, a1, rfl, ⟨us, SqT.of ha1⟩, lc_tup (xs := us) (fun i ys H' => H' = H ∧ ys = ((ps.take i).map partT).map V.str) ⟨rfl, rfl⟩ (fun i ys H' _ p => by rw [p.1]; exact SqT.of ha1) ?L1 ?_⟩
  case L1 =>
    rintro i ys H' x hx ⟨rfl, rfl⟩
    obtain ⟨p, b, hp, rfl, hb⟩ := part_at ru hx
    have hi : i < us.length := (List.getElem?_eq_some_iff.mp hx).1
    have hpm := List.mem_of_getElem? hp
    refine turn_two hb ⟨_, rfl, _, rfl, p.1, p.2, rfl, (wr.le p hpm).2, wr.can.ge p hpm, (wr.le p hpm).1, ?_, rfl, ?_⟩
    · rw [List.length_map, List.length_map, List.length_take, sizeLine_eq]; omega
    · rw [List.take_add_one, hp, List.map_append, List.map_append]; rfl
  rintro ys H' ⟨rfl, rfl⟩ l hl
  rw [lu, List.take_length]
  have s1 := same_new hl (.lst ((ps.map partT).map V.str))
  have h1 : upd H' l (.lst ((ps.map partT).map V.str)) l = some (.lst ((ps.map partT).map V.str)) := upd_same
  generalize upd H' l (.lst ((ps.map partT).map V.str)) = H1 at s1 h1 ⊢
  refine gnm ?_
  have fin : ∀ (H2 : Hp) (ts : List Str), ts = lenTs c ps → Same H' H2 → H2 l = some (.lst (ts.map V.str)) → ∃ (z : Str) (a : Addr) (ys : List Str), V.str (Str.ofString "+") = .str z ∧ [V.ref l] = [.ref a] ∧ SqL K H2 a (ys.map V.str) ∧ (ys.map (·.length)).sum + ys.length * z.length ≤ 16777216 ∧ Q (.str (Txt.join z ys)) H2 := fun H2 ts e s2 h2 => by
    subst e
    have b := sum_leB tl
    have : (lenTs c ps).length * 69 ≤ 22 * 69 := Nat.mul_le_mul_right _ tn
    refine ⟨_, l, lenTs c ps, rfl, rfl, SqL.of h2, by rw [lplus]; omega, ?_⟩
    rw [tj]
    exact q H2 s2
  have lp : ((ps.map partT).map V.str).length ≤ 21 := by rw [List.length_map, List.length_map]; exact wl
  have app : (c ≠ 0 ∨ ps = []) → ps.map partT ++ [numT c] = lenTs c ps := fun e => by unfold lenTs; rw [if_pos e]
  refine ⟨_, rfl, a, _, 0, .int c, rfl, rfl, SqT.of (s1 _ _ ha), atI_nat (j := 0) rfl, rfl, _, rfl, ite2 (fun h => ?_) (fun h => ?_)⟩
  · have hc : c ≠ 0 := by simpa using h
    refine iteT ⟨_, rfl, .inl ⟨rfl, _, SqL.of h1⟩, _, rfl, a, _, 0, .int c, rfl, rfl, SqT.of (s1 _ _ ha), atI_nat (j := 0) rfl, c, rfl, log60 wr.c0 wr.c1, l, _, .str (numT c), rfl, rfl, h1, by rw [sizeLine_eq]; omega, rfl, _, rfl, ?_⟩
    exact fin _ _ (app (.inl hc)) (fun g o e => by rw [upd_ne (ne_of_none e hl)]; exact s1 _ _ e) (by rw [upd_same, List.map_append]; rfl)
  · have hc : c = 0 := by simpa using h
    refine ⟨_, rfl, Nat.zero_le _, fun e he => ⟨l, e, _, rfl, rfl, SqL.of (same_new he _ _ _ h1), SqL.of upd_same, _, rfl, ?_⟩⟩
    have s2 := same_new he (.lst [])
    have h2 := s2 _ _ h1
    have s02 := s1.trans s2
    generalize upd H1 e (.lst []) = H2 at s2 h2 s02 ⊢
    cases ps with
    | nil =>
      refine iteT ⟨_, rfl, .inl ⟨rfl, _, SqL.of h2⟩, _, rfl, a, _, 0, .int c, rfl, rfl, SqT.of (s02 _ _ ha), atI_nat (j := 0) rfl, c, rfl, log60 wr.c0 wr.c1, l, _, .str (numT c), rfl, rfl, h2, by rw [sizeLine_eq]; omega, rfl, _, rfl, ?_⟩
      exact fin _ _ (app (.inr rfl)) (fun g o e => by rw [upd_ne (ne_of_none e hl)]; exact s02 _ _ e) (by rw [upd_same]; rfl)
    | cons p ps =>
      refine iteF ⟨rfl, _, rfl, ?_⟩
      exact fin _ _ (by unfold lenTs; rw [if_neg (fun z => z.elim (fun y => y hc) (fun y => by cases y)), List.append_nil]) s02 h2
theorem sc_inbr : FnScope ["word", "texts", "inner"] ["word", "texts"] (defScope s_inbr) := ⟨rfl, rfl, rfl, by decide +kernel, rfl, by decide +kernel, by decide +kernel⟩
theorem ok_inbr {f : Addr} {fd : FuncData} (F : Fun K "in_brackets" "in_brackets" s_inbr f fd) (T : Txt K mg) : FnOk P w K mg base CX0 1 f fd ["word", "texts"] spInBr := by
  have nd : (["word", "texts", "inner"] : List Str).Nodup := sc_inbr.nd
  refine F.ok sc_inbr (fun vs H Q E h => ?_) (fun cdv A outer s H vs Q E hr h => ?_)
  · obtain ⟨z, l, ys, rfl, _⟩ := h
    rfl
  obtain ⟨z, l, ys, rfl, hl, lz, ls, q⟩ := h
  refine ⟨_, (@pss_cons _ _ _ _ _ (@ps_set _ _ (2) _ _ _ _ nd rfl (Or.inl rfl) (@pe_bm _ _ _ _ _ _ _ _ _ _ _ _ PySem.F.plainAttrs_str PySem.F.slot_str_join PySem.F.type_str_join mt_join (@pe_str _ _ _ _) (@pa_cons _ _ _ _ _ (@pv _ 1 _ _ (by rfl) (by first | exact Or.inl rfl | exact Or.inr (Or.inl rfl) | exact Or.inr (Or.inr rfl)) (by decide) (by decide)) (@pa_nil _) (by rfl)) (by rfl) (by rfl) (by rfl) (by rfl) (by rfl)) (by rfl) (by first | exact .inl rfl | exact .inr rfl | assumption)) (@pss_one _ _ _ (@ps_ret _ _ _ _ (@pe_fstr _ _ _ _ _ _ (@pf_cons _ _ _ _ _ (@pe_fv _ _ _ _ (@pv _ 0 _ _ (by rfl) (by first | exact Or.inl rfl | exact Or.inr (Or.inl rfl) | exact Or.inr (Or.inr rfl)) (by decide) (by decide))) (@pf_cons _ _ _ _ _ (@pe_str _ _ _ _) (@pf_cons _ _ _ _ _ (@pe_fv _ _ _ _ (@pv _ 2 _ _ (by rfl) (by first | exact Or.inl rfl | exact Or.inr (Or.inl rfl) | exact Or.inr (Or.inr rfl)) (by decide) (by decide))) (@pf_cons _ _ _ _ _ (@pe_str _ _ _ _) (@pf_nil _))))))))), ?_⟩
  refine ⟨rfl, _, rfl, _, l, ys, rfl, rfl, SqL.of hl, by rw [lsep]; omega, ?_⟩
  rw [tj]
  have hj := join_len (Str.ofString ", ") ys
  rw [lsep] at hj
  have lj : (Str.join (Str.ofString ", ") ys).length ≤ 200000 := by omega
  generalize Str.join (Str.ofString ", ") ys = jn at lj q ⊢
  have e1 : Str.empty ++ z = z := PySem.Str.empty_append z
  have l1 : (z ++ Str.ofString "(").length ≤ 11 := by rw [strLen_append, lb3]; omega
  have l2 : (z ++ Str.ofString "(" ++ jn).length ≤ 200011 := by rw [strLen_append]; omega
  have l3 : (z ++ Str.ofString "(" ++ jn ++ Str.ofString ")").length ≤ 200012 := by rw [strLen_append, lb4]; omega
  refine ⟨_, rfl, z, rfl, by rw [sizeLine_eq]; omega, z, rfl, by rw [e1, sizeLine_eq]; omega, ?_⟩
  rw [e1]
  refine ⟨_, rfl, by rw [sizeLine_eq]; omega, _, rfl, jn, rfl, by rw [sizeLine_eq]; omega, jn, rfl, by rw [sizeLine_eq]; omega, _, rfl, by rw [sizeLine_eq]; omega, by rw [sizeLine_eq]; omega, q⟩
theorem sc_show_kind : FnScope ["kind"] ["kind"] (defScope s_show_kind) := ⟨rfl, rfl, rfl, by decide +kernel, rfl, by decide +kernel, by decide +kernel⟩
theorem ok_show_kind {f : Addr} {fd : FuncData} {k0 n : Nat} (F : Fun K "show_kind" "show_kind" s_show_kind f fd) (T : Txt K mg) (Din_brackets : Def P w K mg base k0 "in_brackets" ["word", "texts"] spInBr) (Dshow_length : Def P w K mg base k0 "show_length" ["a"] spShL) (Dshow_kind : Def P w K mg base k0 "show_kind" ["kind"] (spShK n)) : FnOk P w K mg base CX0 (k0 + 1) f fd ["kind"] (spShK (n + 1)) := by
  refine F.ok sc_show_kind (fun vs H Q E h => ?_) (fun cdv A outer s H vs Q E hr h => ?_)
  · obtain ⟨v, k, rfl, _⟩ := h
    rfl
  obtain ⟨v, k, rfl, R, kn, n12, kA, q⟩ := h
  obtain ⟨b, vs, rfl, hb, hv⟩ := Kd.inv R
  have kl := kdT_len kA
  refine ⟨_, (@pss_cons _ _ _ _ _ (@ps_if _ _ _ _ _ _ _ _ (@pt_cmpR _ _ _ _ _ _ _ _ op_eq (@pe_ix _ _ _ _ _ _ _ ix_tup (@pv _ 0 _ _ (by rfl) (by first | exact Or.inl rfl | exact Or.inr (Or.inl rfl) | exact Or.inr (Or.inr rfl)) (by decide) (by decide)) (@pe_int _ _ _ _) (fun _ _ => rfl)) (@pe_str _ _ _ _) (nomark _)) (@pss_one _ _ _ (@ps_ret _ _ _ _ (@pe_def _ _ _ _ _ _ _ _ _ _ Din_brackets hr rfl (@pa_cons _ _ _ _ _ (@pe_str _ _ _ _) (@pa_cons _ _ _ _ _ (@pe_lst _ _ _ _ (@pa_cons _ _ _ _ _ (@pe_def _ _ _ _ _ _ _ _ _ _ Dshow_length hr rfl (@pa_cons _ _ _ _ _ (@pe_ix _ _ _ _ _ _ _ ix_tup (@pv _ 0 _ _ (by rfl) (by first | exact Or.inl rfl | exact Or.inr (Or.inl rfl) | exact Or.inr (Or.inr rfl)) (by decide) (by decide)) (@pe_int _ _ _ _) (fun _ _ => rfl)) (@pa_nil _) (by rfl)) (by decide) (by rfl) (by rfl)) (@pa_nil _) (by rfl))) (@pa_nil _) (by rfl)) (by rfl)) (by decide) (by rfl) (by rfl)))) (@pss_nil _)) (@pss_cons _ _ _ _ _ (@ps_if _ _ _ _ _ _ _ _ (@pt_cmpR _ _ _ _ _ _ _ _ op_eq (@pe_ix _ _ _ _ _ _ _ ix_tup (@pv _ 0 _ _ (by rfl) (by first | exact Or.inl rfl | exact Or.inr (Or.inl rfl) | exact Or.inr (Or.inr rfl)) (by decide) (by decide)) (@pe_int _ _ _ _) (fun _ _ => rfl)) (@pe_str _ _ _ _) (nomark _)) (@pss_one _ _ _ (@ps_ret _ _ _ _ (@pe_def _ _ _ _ _ _ _ _ _ _ Din_brackets hr rfl (@pa_cons _ _ _ _ _ (@pe_str _ _ _ _) (@pa_cons _ _ _ _ _ (@pe_lst _ _ _ _ (@pa_cons _ _ _ _ _ (@pe_def _ _ _ _ _ _ _ _ _ _ Dshow_length hr rfl (@pa_cons _ _ _ _ _ (@pe_ix _ _ _ _ _ _ _ ix_tup (@pv _ 0 _ _ (by rfl) (by first | exact Or.inl rfl | exact Or.inr (Or.inl rfl) | exact Or.inr (Or.inr rfl)) (by decide) (by decide)) (@pe_int _ _ _ _) (fun _ _ => rfl)) (@pa_nil _) (by rfl)) (by decide) (by rfl) (by rfl)) (@pa_cons _ _ _ _ _ (@pe_def _ _ _ _ _ _ _ _ _ _ Dshow_kind hr rfl (@pa_cons _ _ _ _ _ (@pe_ix _ _ _ _ _ _ _ ix_tup (@pv _ 0 _ _ (by rfl) (by first | exact Or.inl rfl | exact Or.inr (Or.inl rfl) | exact Or.inr (Or.inr rfl)) (by decide) (by decide)) (@pe_int _ _ _ _) (fun _ _ => rfl)) (@pa_nil _) (by rfl)) (by decide) (by rfl) (by rfl)) (@pa_nil _) (by rfl)) (by rfl))) (@pa_nil _) (by rfl)) (by rfl)) (by decide) (by rfl) (by rfl)))) (@pss_nil _)) (@pss_cons _ _ _ _ _ (@ps_if _ _ _ _ _ _ _ _ (@pt_cmpR _ _ _ _ _ _ _ _ op_eq (@pe_ix _ _ _ _ _ _ _ ix_tup (@pv _ 0 _ _ (by rfl) (by first | exact Or.inl rfl | exact Or.inr (Or.inl rfl) | exact Or.inr (Or.inr rfl)) (by decide) (by decide)) (@pe_int _ _ _ _) (fun _ _ => rfl)) (@pe_str _ _ _ _) (nomark _)) (@pss_one _ _ _ (@ps_ret _ _ _ _ (@pe_def _ _ _ _ _ _ _ _ _ _ Din_brackets hr rfl (@pa_cons _ _ _ _ _ (@pe_str _ _ _ _) (@pa_cons _ _ _ _ _ (@pe_lst _ _ _ _ (@pa_cons _ _ _ _ _ (@pe_def _ _ _ _ _ _ _ _ _ _ Dshow_kind hr rfl (@pa_cons _ _ _ _ _ (@pe_ix _ _ _ _ _ _ _ ix_tup (@pv _ 0 _ _ (by rfl) (by first | exact Or.inl rfl | exact Or.inr (Or.inl rfl) | exact Or.inr (Or.inr rfl)) (by decide) (by decide)) (@pe_int _ _ _ _) (fun _ _ => rfl)) (@pa_nil _) (by rfl)) (by decide) (by rfl) (by rfl)) (@pa_cons _ _ _ _ _ (@pe_def _ _ _ _ _ _ _ _ _ _ Dshow_kind hr rfl (@pa_cons _ _ _ _ _ (@pe_ix _ _ _ _ _ _ _ ix_tup (@pv _ 0 _ _ (by rfl) (by first | exact Or.inl rfl | exact Or.inr (Or.inl rfl) | exact Or.inr (Or.inr rfl)) (by decide) (by decide)) (@pe_int _ _ _ _) (fun _ _ => rfl)) (@pa_nil _) (by rfl)) (by decide) (by rfl) (by rfl)) (@pa_nil _) (by rfl)) (by rfl))) (@pa_nil _) (by rfl)) (by rfl)) (by decide) (by rfl) (by rfl)))) (@pss_nil _)) (@pss_one _ _ _ (@ps_ret _ _ _ _ (@pe_str _ _ _ _)))))), ?_⟩
  refine ⟨_, rfl, b, _, 0, .str k.word, rfl, rfl, SqT.of hb, atI_nat (j := 0) rfl, rfl, _, rfl, ?_⟩
  cases k with
  | whole =>
    refine ite2 (fun h => absurd (of_decide_eq_true h) (wne w_wp)) (fun _ => ?_)
    refine ⟨_, rfl, b, _, 0, .str "whole", rfl, rfl, SqT.of hb, atI_nat (j := 0) rfl, rfl, _, rfl, ite2 (fun h => absurd (of_decide_eq_true h) (wne w_wr)) (fun _ => ?_)⟩
    refine ⟨_, rfl, b, _, 0, .str "whole", rfl, rfl, SqT.of hb, atI_nat (j := 0) rfl, rfl, _, rfl, ite2 (fun h => absurd (of_decide_eq_true h) (wne w_wq)) (fun _ => ?_)⟩
    exact q H (Same.refl _)
  | place c ps =>
    obtain ⟨l, rfl, Rl⟩ := hv
    refine ite2 (fun _ => ?_) (fun h => absurd (decide_eq_true rfl) h)
    refine ⟨_, rfl, b, _, 1, l, rfl, rfl, SqT.of hb, atI_nat (j := 1) rfl, l, c, ps, rfl, Rl, kA, fun H1 s1 => ⟨z1, fun t ht => ?_⟩⟩
    have ll := lenT_len (c := c) (ps := ps) kA
    refine ⟨_, t, [lenT c ps], rfl, upd_same, by decide +kernel, by simp; omega, q _ (s1.trans (same_new ht _))⟩
  | row c ps j =>
    obtain ⟨l, u, rfl, Rl, Ru⟩ := hv
    have jn : j.size + 1 ≤ n + 1 := kn
    refine ite2 (fun h => absurd (of_decide_eq_true h) (wne (Ne.symm w_pr))) (fun _ => ?_)
    refine ⟨_, rfl, b, _, 0, .str "row", rfl, rfl, SqT.of hb, atI_nat (j := 0) rfl, rfl, _, rfl, ite2 (fun _ => ?_) (fun h => absurd (decide_eq_true rfl) h)⟩
    have ll := lenT_len (c := c) (ps := ps) kA.1
    have lk := kdT_len kA.2
    refine ⟨_, rfl, b, _, 1, l, rfl, rfl, SqT.of hb, atI_nat (j := 1) rfl, l, c, ps, rfl, Rl, kA.1, fun H1 s1 => ⟨_, rfl, b, _, 2, u, rfl, rfl, SqT.of (s1 _ _ hb), atI_nat (j := 2) rfl, u, j, rfl, Ru.mono s1, by omega, by omega, kA.2, fun H2 s2 => ⟨z2, fun t ht => ?_⟩⟩⟩
    refine ⟨_, t, [lenT c ps, kdT j], rfl, upd_same, by decide +kernel, by simp; omega, q _ (s1.trans (s2.trans (same_new ht _)))⟩
  | pair i j =>
    obtain ⟨u1, u2, rfl, Ru1, Ru2⟩ := hv
    have jn : i.size + j.size + 1 ≤ n + 1 := kn
    refine ite2 (fun h => absurd (of_decide_eq_true h) (wne (Ne.symm w_pq))) (fun _ => ?_)
    refine ⟨_, rfl, b, _, 0, .str "pair", rfl, rfl, SqT.of hb, atI_nat (j := 0) rfl, rfl, _, rfl, ite2 (fun h => absurd (of_decide_eq_true h) (wne (Ne.symm w_rq))) (fun _ => ?_)⟩
    refine ⟨_, rfl, b, _, 0, .str "pair", rfl, rfl, SqT.of hb, atI_nat (j := 0) rfl, rfl, _, rfl, ite2 (fun _ => ?_) (fun h => absurd (decide_eq_true rfl) h)⟩
    have l1 := kdT_len kA.1
    have l2 := kdT_len kA.2
    refine ⟨_, rfl, b, _, 1, u1, rfl, rfl, SqT.of hb, atI_nat (j := 1) rfl, u1, i, rfl, Ru1, by omega, by omega, kA.1, fun H1 s1 => ⟨_, rfl, b, _, 2, u2, rfl, rfl, SqT.of (s1 _ _ hb), atI_nat (j := 2) rfl, u2, j, rfl, Ru2.mono s1, by omega, by omega, kA.2, fun H2 s2 => ⟨z2, fun t ht => ?_⟩⟩⟩
    refine ⟨_, t, [kdT i, kdT j], rfl, upd_same, by decide +kernel, by simp; omega, q _ (s1.trans (s2.trans (same_new ht _)))⟩
end
end K61
set_option maxHeartbeats 1000000
namespace K61
open PySem L2 KB
abbrev s_ltext : Stmt := top 42
abbrev s_ktext : Stmt := top 43
section
variable {P : Program} {w : World} {K : PySem.W.Frag} {mg : Str → Option Value} {base : Heap}
theorem sc_ltext : FnScope ["_law_length_here", "_law_words", "_law_name", "_law_times"] ["_law_length_here"] (defScope s_ltext) := ⟨rfl, rfl, rfl, by decide +kernel, rfl, by decide +kernel, by decide +kernel⟩
theorem ok_ltext {f : Addr} {fd : FuncData} (F : Fun K "_law_length_text" "_law_length_text" s_ltext f fd) (T : Txt K mg) : FnOk P w K mg base CX0 1 f fd ["_law_length_here"] spShL := by
  have nd : (["_law_length_here", "_law_words", "_law_name", "_law_times"] : List Str).Nodup := sc_ltext.nd
  refine F.ok sc_ltext (fun vs H Q E h => ?_) (fun cdv A outer s H vs Q E hr h => ?_)
  · obtain ⟨v, c, ps, rfl, _⟩ := h
    rfl
  obtain ⟨v, c, ps, rfl, R, wr, q⟩ := h
  have hu9 := hu150_of hr
  have huL : (A.deeper (PyProof.Rows.envOfC (Str.ofString "_law_length_text") (defScope s_ltext) s.heap.objs.size f cdv)).units < cLine := by omega
  obtain ⟨a, a1, us, rfl, ha, ha1, ru, lu⟩ := len_inv R
  obtain ⟨tl, tn⟩ := lenTs_le wr
  have wl := wr.len
  refine ⟨_, (@pss_cons _ _ _ _ _ (@ps_set _ _ (1) _ _ _ _ nd rfl (Or.inl rfl) (@pe_lst _ _ _ _ (@pa_nil _)) (by rfl) (by first | exact .inl rfl | exact .inr rfl | assumption)) (@pss_cons _ _ _ _ _ (@ps_for _ _ _ _ _ _ _ _ PassesOwn.never rfl (@pi_tup _ _ _ _ (@pe_ix _ _ _ _ _ _ _ ix_tup (@pv _ 0 _ _ (by rfl) (by first | exact Or.inl rfl | exact Or.inr (Or.inl rfl) | exact Or.inr (Or.inr rfl)) (by decide) (by decide)) (@pe_int _ _ _ _) (fun _ _ => rfl))) (@pg_tup _ _ _ _ _ _ rfl (@pgs_cons _ _ _ _ _ (@pg_name _ _ (2) _ nd rfl (Or.inl rfl) (by first | exact .inl rfl | exact .inr rfl | assumption)) (@pgs_cons _ _ _ _ _ (@pg_name _ _ (3) _ nd rfl (Or.inl rfl) (by first | exact .inl rfl | exact .inr rfl | assumption)) (@pgs_nil _) (by rfl)) (by rfl)) (by rfl) (by rfl)) (@pss_one _ _ _ (@ps_expr _ _ _ _ (@pe_bm _ _ _ _ _ _ _ _ _ _ _ _ PySem.F.plainAttrs_list PySem.F.slot_list_append PySem.F.type_list_append mt_append (@pv _ 1 _ _ (by rfl) (by first | exact Or.inl rfl | exact Or.inr (Or.inl rfl) | exact Or.inr (Or.inr rfl)) (by decide) (by decide)) (@pa_cons _ _ _ _ _ (@pe_op _ _ _ _ _ _ _ _ op_add_str (@pe_ix _ _ _ _ _ _ _ ix_list (@pe_lst _ _ _ _ (@pa_cons _ _ _ _ _ (@pe_op _ _ _ _ _ _ _ _ op_add_str (@pe_callTy _ _ _ _ _ _ _ _ _ call_str_int rfl T.str (by decide +kernel) (@pa_cons _ _ _ _ _ (@pv _ 3 _ _ (by rfl) (by first | exact Or.inl rfl | exact Or.inr (Or.inl rfl) | exact Or.inr (Or.inr rfl)) (by decide) (by decide)) (@pa_nil _) (by rfl)) (by decide) (by decide) (by rfl) (by rfl)) (@pe_str _ _ _ _)) (@pa_cons _ _ _ _ _ (@pe_str _ _ _ _) (@pa_nil _) (by rfl)) (by rfl))) (@pe_callTy _ _ _ _ _ _ _ _ _ call_int1 rfl T.int (by decide +kernel) (@pa_cons _ _ _ _ _ (@pe_cmpR _ _ _ _ _ _ _ _ op_eq (@pv _ 3 _ _ (by rfl) (by first | exact Or.inl rfl | exact Or.inr (Or.inl rfl) | exact Or.inr (Or.inr rfl)) (by decide) (by decide)) (@pe_int _ _ _ _) (nomark _)) (@pa_nil _) (by rfl)) (by decide) (by decide) (by rfl) (by rfl)) (fun _ _ => rfl)) (@pv _ 2 _ _ (by rfl) (by first | exact Or.inl rfl | exact Or.inr (Or.inl rfl) | exact Or.inr (Or.inr rfl)) (by decide) (by decide))) (@pa_nil _) (by rfl)) (by rfl) (by rfl) (by rfl) (by rfl) (by rfl)) (by rfl))) (by intro _; rfl)) (@pss_cons _ _ _ _ _ (@ps_if _ _ _ _ _ _ _ _ (@PW.pt _ _ _ (@pw_or _ _ _ _ _ _ _ (@pt_cmpR _ _ _ _ _ _ _ _ op_ne (@pe_ix _ _ _ _ _ _ _ ix_tup (@pv _ 0 _ _ (by rfl) (by first | exact Or.inl rfl | exact Or.inr (Or.inl rfl) | exact Or.inr (Or.inr rfl)) (by decide) (by decide)) (@pe_int _ _ _ _) (fun _ _ => rfl)) (@pe_int _ _ _ _) (nomark _)) (@pw_or1 _ _ _ _ (@pt_cmpR _ _ _ _ _ _ _ _ (op_eqE huL) (@pv _ 1 _ _ (by rfl) (by first | exact Or.inl rfl | exact Or.inr (Or.inl rfl) | exact Or.inr (Or.inr rfl)) (by decide) (by decide)) (@pe_lst _ _ _ _ (@pa_nil _)) (nomark _))))) (@pss_one _ _ _ (@ps_expr _ _ _ _ (@pe_bm _ _ _ _ _ _ _ _ _ _ _ _ PySem.F.plainAttrs_list PySem.F.slot_list_append PySem.F.type_list_append mt_append (@pv _ 1 _ _ (by rfl) (by first | exact Or.inl rfl | exact Or.inr (Or.inl rfl) | exact Or.inr (Or.inr rfl)) (by decide) (by decide)) (@pa_cons _ _ _ _ _ (@pe_callTy _ _ _ _ _ _ _ _ _ call_str_int rfl T.str (by decide +kernel) (@pa_cons _ _ _ _ _ (@pe_ix _ _ _ _ _ _ _ ix_tup (@pv _ 0 _ _ (by rfl) (by first | exact Or.inl rfl | exact Or.inr (Or.inl rfl) | exact Or.inr (Or.inr rfl)) (by decide) (by decide)) (@pe_int _ _ _ _) (fun _ _ => rfl)) (@pa_nil _) (by rfl)) (by decide) (by decide) (by rfl) (by rfl)) (@pa_nil _) (by rfl)) (by rfl) (by rfl) (by rfl) (by rfl) (by rfl)) (by rfl))) (@pss_nil _)) (@pss_one _ _ _ (@ps_ret _ _ _ _ (@pe_bm _ _ _ _ _ _ _ _ _ _ _ _ PySem.F.plainAttrs_str PySem.F.slot_str_join PySem.F.type_str_join mt_join (@pe_str _ _ _ _) (@pa_cons _ _ _ _ _ (@pv _ 1 _ _ (by rfl) (by first | exact Or.inl rfl | exact Or.inr (Or.inl rfl) | exact Or.inr (Or.inr rfl)) (by decide) (by decide)) (@pa_nil _) (by rfl)) (by rfl) (by rfl) (by rfl) (by rfl) (by rfl))))))), ?_⟩
  refine ⟨Nat.zero_le _, fun l hl => ?_⟩
  have s0 := same_new hl (.lst [])
  have h0 : upd H l (.lst []) l = some (.lst []) := upd_same
  generalize upd H l (.lst []) = H0 at s0 h0 ⊢
  refine gnm ?_
  refine ⟨_, rfl, a, _, 1, .ref a1, rfl, rfl, SqT.of (s0 _ _ ha), atI_nat (j := 1) rfl, a1, rfl, ⟨us, SqT.of (s0 _ _ ha1)⟩, for_tup (xs := us) (fun i σ H' => ∃ (o2 o3 : Option V), σ = [some (.ref a), some (.ref l), o2, o3] ∧ Same H H' ∧ H' l = some (.lst (((ps.take i).map partT).map V.str))) ⟨_, _, rfl, s0, h0⟩ (fun i σ H' _ ⟨_, _, _, sx, _⟩ => SqT.of (sx _ _ ha1)) ?T1 ?_⟩
  case T1 =>
    rintro i x σ H1 hx ⟨o2, o3, rfl, s1, h1⟩
    obtain ⟨p, b, hp, rfl, hb⟩ := part_at ru hx
    have hi : i < us.length := (List.getElem?_eq_some_iff.mp hx).1
    have hpm := List.mem_of_getElem? hp
    have p1 := wr.can.ge p hpm
    obtain ⟨p60, p8⟩ := wr.le p hpm
    have nl := num_len (i := p.2) (by omega) p60
    have pl := part_len p1 p60 p8
    refine ⟨b, _, rfl, SqT.of (s1 _ _ hb), rfl, _, _, rfl, _, _, rfl, rfl, ?_⟩
    refine ⟨_, rfl, .inl ⟨rfl, _, SqL.of h1⟩, _, rfl, p.2, rfl, log60 (by omega) p60, _, _, rfl, rfl, by rw [lstar, sizeLine_eq]; show (numT p.2).length + 1 ≤ _; omega, z2, fun e he => ?_⟩
    have s2 := same_new he (.lst [.str (numT p.2 ++ Str.ofString "*"), .str (Str.ofString "")])
    have h2 := s2 _ _ h1
    have lp : ((((ps.take i).map partT).map V.str)).length ≤ 21 := by rw [List.length_map, List.length_map, List.length_take]; omega
    have inv : ∀ (z : Str), z = partT p → ∀ H2, Same H1 H2 → Same H (upd H2 l (.lst (((ps.take i).map partT).map V.str ++ [.str z]))) ∧ upd H2 l (.lst (((ps.take i).map partT).map V.str ++ [.str z])) l = some (.lst (((ps.take (i + 1)).map partT).map V.str)) := fun z ez H2 s' => by
      refine ⟨fun g o eg => by rw [upd_ne (ne_of_none eg hl)]; exact s' _ _ (s1 _ _ eg), ?_⟩
      rw [upd_same, List.take_add_one, hp, List.map_append, List.map_append, ez]; rfl
    by_cases e1 : p.2 = 1
    · have ei : (if decide (V.int p.2 = V.int 1) = true then (1 : Int) else 0) = 1 := by rw [e1]; simp
      have ez : Str.ofString "" ++ p.1 = partT p := by unfold partT; rw [if_pos e1]; exact PySem.Str.empty_append p.1
      obtain ⟨i1, i2⟩ := inv _ ez _ s2
      exact ⟨_, rfl, rfl, .inr ⟨_, rfl, e, _, _, .str (Str.ofString ""), rfl, rfl, SqL.of upd_same, by rw [ei]; rfl, _, rfl, _, _, rfl, rfl, by rw [← strLen_append, ez, sizeLine_eq]; omega, l, _, _, rfl, rfl, h2, by rw [sizeLine_eq]; omega, _, _, rfl, i1, i2⟩⟩
    · have ei : (if decide (V.int p.2 = V.int 1) = true then (1 : Int) else 0) = 0 := by rw [decide_eq_false (fun z => e1 (by injection z))]; rfl
      have ez : numT p.2 ++ Str.ofString "*" ++ p.1 = partT p := by unfold partT; rw [if_neg e1]
      obtain ⟨i1, i2⟩ := inv _ ez _ s2
      exact ⟨_, rfl, rfl, .inr ⟨_, rfl, e, _, _, .str (numT p.2 ++ Str.ofString "*"), rfl, rfl, SqL.of upd_same, by rw [ei]; rfl, _, rfl, _, _, rfl, rfl, by rw [← strLen_append, ez, sizeLine_eq]; omega, l, _, _, rfl, rfl, h2, by rw [sizeLine_eq]; omega, _, _, rfl, i1, i2⟩⟩
  rintro σ H1 ⟨o2, o3, rfl, s1, h1⟩
  rw [lu, List.take_length] at h1
  have fin : ∀ (H2 : Hp) (ts : List Str), ts = lenTs c ps → Same H H2 → H2 l = some (.lst (ts.map V.str)) → ∃ (z : Str) (a : Addr) (ys : List Str), V.str (Str.ofString "+") = .str z ∧ [V.ref l] = [.ref a] ∧ SqL K H2 a (ys.map V.str) ∧ (ys.map (·.length)).sum + ys.length * z.length ≤ 16777216 ∧ Q (.str (Txt.join z ys)) H2 := fun H2 ts e s2 h2 => by
    subst e
    have b := sum_leB tl
    have : (lenTs c ps).length * 69 ≤ 22 * 69 := Nat.mul_le_mul_right _ tn
    refine ⟨_, l, lenTs c ps, rfl, rfl, SqL.of h2, by rw [lplus]; omega, ?_⟩
    rw [tj]
    exact q H2 s2
  have lp : ((ps.map partT).map V.str).length ≤ 21 := by rw [List.length_map, List.length_map]; exact wl
  have app : (c ≠ 0 ∨ ps = []) → ps.map partT ++ [numT c] = lenTs c ps := fun e => by unfold lenTs; rw [if_pos e]
  refine ⟨_, rfl, a, _, 0, .int c, rfl, rfl, SqT.of (s1 _ _ ha), atI_nat (j := 0) rfl, rfl, _, rfl, ite2 (fun h => ?_) (fun h => ?_)⟩
  · have hc : c ≠ 0 := by simpa using h
    refine iteT ⟨_, rfl, .inl ⟨rfl, _, SqL.of h1⟩, _, rfl, a, _, 0, .int c, rfl, rfl, SqT.of (s1 _ _ ha), atI_nat (j := 0) rfl, c, rfl, log60 wr.c0 wr.c1, l, _, .str (numT c), rfl, rfl, h1, by rw [sizeLine_eq]; omega, rfl, _, rfl, ?_⟩
    exact fin _ _ (app (.inl hc)) (fun g o e => by rw [upd_ne (ne_of_none e hl)]; exact s1 _ _ e) (by rw [upd_same, List.map_append]; rfl)
  · have hc : c = 0 := by simpa using h
    refine ⟨_, rfl, Nat.zero_le _, fun e he => ⟨l, e, _, rfl, rfl, SqL.of (same_new he _ _ _ h1), SqL.of upd_same, _, rfl, ?_⟩⟩
    have s2 := same_new he (.lst [])
    have h2 := s2 _ _ h1
    have s02 := s1.trans s2
    generalize upd H1 e (.lst []) = H2 at s2 h2 s02 ⊢
    cases ps with
    | nil =>
      refine iteT ⟨_, rfl, .inl ⟨rfl, _, SqL.of h2⟩, _, rfl, a, _, 0, .int c, rfl, rfl, SqT.of (s02 _ _ ha), atI_nat (j := 0) rfl, c, rfl, log60 wr.c0 wr.c1, l, _, .str (numT c), rfl, rfl, h2, by rw [sizeLine_eq]; omega, rfl, _, rfl, ?_⟩
      exact fin _ _ (app (.inr rfl)) (fun g o e => by rw [upd_ne (ne_of_none e hl)]; exact s02 _ _ e) (by rw [upd_same]; rfl)
    | cons p ps =>
      refine iteF ⟨rfl, _, rfl, ?_⟩
      exact fin _ _ (by unfold lenTs; rw [if_neg (fun z => z.elim (fun y => y hc) (fun y => by cases y)), List.append_nil]) s02 h2
theorem sc_ktext : FnScope ["_law_kind_here"] ["_law_kind_here"] (defScope s_ktext) := ⟨rfl, rfl, rfl, by decide +kernel, rfl, by decide +kernel, by decide +kernel⟩
theorem ok_ktext {f : Addr} {fd : FuncData} {k0 n : Nat} (F : Fun K "_law_kind_text" "_law_kind_text" s_ktext f fd) (T : Txt K mg) (D_law_length_text : Def P w K mg base k0 "_law_length_text" ["_law_length_here"] spShL) (D_law_kind_text : Def P w K mg base k0 "_law_kind_text" ["_law_kind_here"] (spShK n)) : FnOk P w K mg base CX0 (k0 + 1) f fd ["_law_kind_here"] (spShK (n + 1)) := by
  refine F.ok sc_ktext (fun vs H Q E h => ?_) (fun cdv A outer s H vs Q E hr h => ?_)
  · obtain ⟨v, k, rfl, _⟩ := h
    rfl
  obtain ⟨v, k, rfl, R, kn, n12, kA, q⟩ := h
  obtain ⟨b, vs, rfl, hb, hv⟩ := Kd.inv R
  have kl := kdT_len kA
  have lpl : (Str.ofString "place(").length = 6 := by decide +kernel
  have lro : (Str.ofString "row(").length = 4 := by decide +kernel
  have lpa : (Str.ofString "pair(").length = 5 := by decide +kernel
  refine ⟨_, (@pss_cons _ _ _ _ _ (@ps_if _ _ _ _ _ _ _ _ (@pt_cmpR _ _ _ _ _ _ _ _ op_eq (@pe_ix _ _ _ _ _ _ _ ix_tup (@pv _ 0 _ _ (by rfl) (by first | exact Or.inl rfl | exact Or.inr (Or.inl rfl) | exact Or.inr (Or.inr rfl)) (by decide) (by decide)) (@pe_int _ _ _ _) (fun _ _ => rfl)) (@pe_str _ _ _ _) (nomark _)) (@pss_one _ _ _ (@ps_ret _ _ _ _ (@pe_str _ _ _ _))) (@pss_nil _)) (@pss_cons _ _ _ _ _ (@ps_if _ _ _ _ _ _ _ _ (@pt_cmpR _ _ _ _ _ _ _ _ op_eq (@pe_ix _ _ _ _ _ _ _ ix_tup (@pv _ 0 _ _ (by rfl) (by first | exact Or.inl rfl | exact Or.inr (Or.inl rfl) | exact Or.inr (Or.inr rfl)) (by decide) (by decide)) (@pe_int _ _ _ _) (fun _ _ => rfl)) (@pe_str _ _ _ _) (nomark _)) (@pss_one _ _ _ (@ps_ret _ _ _ _ (@pe_op _ _ _ _ _ _ _ _ op_add_str (@pe_op _ _ _ _ _ _ _ _ op_add_str (@pe_str _ _ _ _) (@pe_def _ _ _ _ _ _ _ _ _ _ D_law_length_text hr rfl (@pa_cons _ _ _ _ _ (@pe_ix _ _ _ _ _ _ _ ix_tup (@pv _ 0 _ _ (by rfl) (by first | exact Or.inl rfl | exact Or.inr (Or.inl rfl) | exact Or.inr (Or.inr rfl)) (by decide) (by decide)) (@pe_int _ _ _ _) (fun _ _ => rfl)) (@pa_nil _) (by rfl)) (by decide) (by rfl) (by rfl))) (@pe_str _ _ _ _)))) (@pss_nil _)) (@pss_cons _ _ _ _ _ (@ps_if _ _ _ _ _ _ _ _ (@pt_cmpR _ _ _ _ _ _ _ _ op_eq (@pe_ix _ _ _ _ _ _ _ ix_tup (@pv _ 0 _ _ (by rfl) (by first | exact Or.inl rfl | exact Or.inr (Or.inl rfl) | exact Or.inr (Or.inr rfl)) (by decide) (by decide)) (@pe_int _ _ _ _) (fun _ _ => rfl)) (@pe_str _ _ _ _) (nomark _)) (@pss_one _ _ _ (@ps_ret _ _ _ _ (@pe_op _ _ _ _ _ _ _ _ op_add_str (@pe_op _ _ _ _ _ _ _ _ op_add_str (@pe_op _ _ _ _ _ _ _ _ op_add_str (@pe_op _ _ _ _ _ _ _ _ op_add_str (@pe_str _ _ _ _) (@pe_def _ _ _ _ _ _ _ _ _ _ D_law_length_text hr rfl (@pa_cons _ _ _ _ _ (@pe_ix _ _ _ _ _ _ _ ix_tup (@pv _ 0 _ _ (by rfl) (by first | exact Or.inl rfl | exact Or.inr (Or.inl rfl) | exact Or.inr (Or.inr rfl)) (by decide) (by decide)) (@pe_int _ _ _ _) (fun _ _ => rfl)) (@pa_nil _) (by rfl)) (by decide) (by rfl) (by rfl))) (@pe_str _ _ _ _)) (@pe_def _ _ _ _ _ _ _ _ _ _ D_law_kind_text hr rfl (@pa_cons _ _ _ _ _ (@pe_ix _ _ _ _ _ _ _ ix_tup (@pv _ 0 _ _ (by rfl) (by first | exact Or.inl rfl | exact Or.inr (Or.inl rfl) | exact Or.inr (Or.inr rfl)) (by decide) (by decide)) (@pe_int _ _ _ _) (fun _ _ => rfl)) (@pa_nil _) (by rfl)) (by decide) (by rfl) (by rfl))) (@pe_str _ _ _ _)))) (@pss_nil _)) (@pss_one _ _ _ (@ps_ret _ _ _ _ (@pe_op _ _ _ _ _ _ _ _ op_add_str (@pe_op _ _ _ _ _ _ _ _ op_add_str (@pe_op _ _ _ _ _ _ _ _ op_add_str (@pe_op _ _ _ _ _ _ _ _ op_add_str (@pe_str _ _ _ _) (@pe_def _ _ _ _ _ _ _ _ _ _ D_law_kind_text hr rfl (@pa_cons _ _ _ _ _ (@pe_ix _ _ _ _ _ _ _ ix_tup (@pv _ 0 _ _ (by rfl) (by first | exact Or.inl rfl | exact Or.inr (Or.inl rfl) | exact Or.inr (Or.inr rfl)) (by decide) (by decide)) (@pe_int _ _ _ _) (fun _ _ => rfl)) (@pa_nil _) (by rfl)) (by decide) (by rfl) (by rfl))) (@pe_str _ _ _ _)) (@pe_def _ _ _ _ _ _ _ _ _ _ D_law_kind_text hr rfl (@pa_cons _ _ _ _ _ (@pe_ix _ _ _ _ _ _ _ ix_tup (@pv _ 0 _ _ (by rfl) (by first | exact Or.inl rfl | exact Or.inr (Or.inl rfl) | exact Or.inr (Or.inr rfl)) (by decide) (by decide)) (@pe_int _ _ _ _) (fun _ _ => rfl)) (@pa_nil _) (by rfl)) (by decide) (by rfl) (by rfl))) (@pe_str _ _ _ _))))))), ?_⟩
  refine ⟨_, rfl, b, _, 0, .str k.word, rfl, rfl, SqT.of hb, atI_nat (j := 0) rfl, rfl, _, rfl, ?_⟩
  cases k with
  | whole =>
    refine ite2 (fun _ => ?_) (fun h => absurd (decide_eq_true rfl) h)
    exact q H (Same.refl _)
  | place c ps =>
    obtain ⟨l, rfl, Rl⟩ := hv
    have ll := lenT_len (c := c) (ps := ps) kA
    refine ite2 (fun h => absurd (of_decide_eq_true h) (wne (Ne.symm w_wp))) (fun _ => ?_)
    refine ⟨_, rfl, b, _, 0, .str "place", rfl, rfl, SqT.of hb, atI_nat (j := 0) rfl, rfl, _, rfl, ite2 (fun _ => ?_) (fun h => absurd (decide_eq_true rfl) h)⟩
    refine ⟨_, rfl, b, _, 1, l, rfl, rfl, SqT.of hb, atI_nat (j := 1) rfl, l, c, ps, rfl, Rl, kA, fun H1 s1 => ⟨_, _, rfl, rfl, by rw [lpl, sizeLine_eq]; omega, _, _, rfl, rfl, by rw [strLen_append, lpl, lb4, sizeLine_eq]; omega, ?_⟩⟩
    have e : Str.ofString "place(" ++ lenT c ps ++ Str.ofString ")" = kdT (.place c ps) := by
      rw [kdT, join_one, show Str.ofString "place(" = Str.ofString "place" ++ Str.ofString "(" by decide +kernel]
    rw [e]; exact q H1 s1
  | row c ps j =>
    obtain ⟨l, u, rfl, Rl, Ru⟩ := hv
    have jn : j.size + 1 ≤ n + 1 := kn
    have ll := lenT_len (c := c) (ps := ps) kA.1
    have lk := kdT_len kA.2
    refine ite2 (fun h => absurd (of_decide_eq_true h) (wne (Ne.symm w_wr))) (fun _ => ?_)
    refine ⟨_, rfl, b, _, 0, .str "row", rfl, rfl, SqT.of hb, atI_nat (j := 0) rfl, rfl, _, rfl, ite2 (fun h => absurd (of_decide_eq_true h) (wne (Ne.symm w_pr))) (fun _ => ?_)⟩
    refine ⟨_, rfl, b, _, 0, .str "row", rfl, rfl, SqT.of hb, atI_nat (j := 0) rfl, rfl, _, rfl, ite2 (fun _ => ?_) (fun h => absurd (decide_eq_true rfl) h)⟩
    refine ⟨_, rfl, b, _, 1, l, rfl, rfl, SqT.of hb, atI_nat (j := 1) rfl, l, c, ps, rfl, Rl, kA.1, fun H1 s1 => ⟨_, _, rfl, rfl, by rw [lro, sizeLine_eq]; omega, _, _, rfl, rfl, by rw [strLen_append, lro, lsep, sizeLine_eq]; omega, _, rfl, b, _, 2, u, rfl, rfl, SqT.of (s1 _ _ hb), atI_nat (j := 2) rfl, u, j, rfl, Ru.mono s1, by omega, by omega, kA.2, fun H2 s2 => ⟨_, _, rfl, rfl, by rw [strLen_append, strLen_append, lro, lsep, sizeLine_eq]; omega, _, _, rfl, rfl, by rw [strLen_append, strLen_append, strLen_append, lro, lsep, lb4, sizeLine_eq]; omega, ?_⟩⟩⟩
    have e : Str.ofString "row(" ++ lenT c ps ++ Str.ofString ", " ++ kdT j ++ Str.ofString ")" = kdT (.row c ps j) := by
      rw [kdT, join_two, join_one, show Str.ofString "row(" = Str.ofString "row" ++ Str.ofString "(" by decide +kernel]
      simp only [PySem.Str.append_assoc]
    rw [e]; exact q H2 (s1.trans s2)
  | pair i j =>
    obtain ⟨u1, u2, rfl, Ru1, Ru2⟩ := hv
    have jn : i.size + j.size + 1 ≤ n + 1 := kn
    have l1 := kdT_len kA.1
    have l2 := kdT_len kA.2
    refine ite2 (fun h => absurd (of_decide_eq_true h) (wne (Ne.symm w_wq))) (fun _ => ?_)
    refine ⟨_, rfl, b, _, 0, .str "pair", rfl, rfl, SqT.of hb, atI_nat (j := 0) rfl, rfl, _, rfl, ite2 (fun h => absurd (of_decide_eq_true h) (wne (Ne.symm w_pq))) (fun _ => ?_)⟩
    refine ⟨_, rfl, b, _, 0, .str "pair", rfl, rfl, SqT.of hb, atI_nat (j := 0) rfl, rfl, _, rfl, ite2 (fun h => absurd (of_decide_eq_true h) (wne (Ne.symm w_rq))) (fun _ => ?_)⟩
    refine ⟨_, rfl, b, _, 1, u1, rfl, rfl, SqT.of hb, atI_nat (j := 1) rfl, u1, i, rfl, Ru1, by omega, by omega, kA.1, fun H1 s1 => ⟨_, _, rfl, rfl, by rw [lpa, sizeLine_eq]; omega, _, _, rfl, rfl, by rw [strLen_append, lpa, lsep, sizeLine_eq]; omega, _, rfl, b, _, 2, u2, rfl, rfl, SqT.of (s1 _ _ hb), atI_nat (j := 2) rfl, u2, j, rfl, Ru2.mono s1, by omega, by omega, kA.2, fun H2 s2 => ⟨_, _, rfl, rfl, by rw [strLen_append, strLen_append, lpa, lsep, sizeLine_eq]; omega, _, _, rfl, rfl, by rw [strLen_append, strLen_append, strLen_append, lpa, lsep, lb4, sizeLine_eq]; omega, ?_⟩⟩⟩
    have e : Str.ofString "pair(" ++ kdT i ++ Str.ofString ", " ++ kdT j ++ Str.ofString ")" = kdT (.pair i j) := by
      rw [kdT, join_two, join_one, show Str.ofString "pair(" = Str.ofString "pair" ++ Str.ofString "(" by decide +kernel]
      simp only [PySem.Str.append_assoc]
    rw [e]; exact q H2 (s1.trans s2)
end
end K61
set_option maxHeartbeats 1000000
namespace K61
open PySem L2 KB PySem.NumText PyProof.Rows
abbrev s_number_of : Stmt := top 28
def dgB (c : Nat) : Bool := decide (48 ≤ c) && decide (c ≤ 57)
def dgs (x : Str) : Bool := decide (1 ≤ x.cps.size) && decide (x.cps.size ≤ 60) && x.cps.toList.all dgB
def numV (x : Str) : V := if dgs x = true then .int ((digitsVal x.cps.toList : Nat) : Int) else .non
theorem all_dg (x : Str) : ((List.range x.cps.size).map fun i => dgB (x.cps.getD i 0)).all id = x.cps.toList.all dgB := by
  have e : (List.range x.cps.size).map (fun i => dgB (x.cps.getD i 0)) = x.cps.toList.map dgB := by
    apply List.ext_getElem
    · simp
    · intro i h1 h2
      have h3 : i < x.cps.size := by simpa using h1
      simp [Array.getD, h3]
  rw [e, List.all_map]
  rfl
theorem dgs_all {x : Str} (h : dgs x = true) : AllDigits x.cps.toList ∧ 1 ≤ x.cps.size ∧ x.cps.size ≤ 60 := by
  unfold dgs at h
  simp only [Bool.and_eq_true, decide_eq_true_eq, List.all_eq_true] at h
  refine ⟨fun c hc => ?_, h.1.1, h.1.2⟩
  have := h.2 c hc
  unfold dgB at this
  simpa using this
theorem dgs_int {x : Str} (h : dgs x = true) : PySem.intText? x = some ((digitsVal x.cps.toList : Nat) : Int) ∧ x.length ≤ 640 := by
  obtain ⟨h1, h2, h3⟩ := dgs_all h
  have e : x.length = x.cps.size := rfl
  exact ⟨intText_digits h1 (fun z => by have h9 : x.cps.toList.length = x.cps.size := Array.length_toList; rw [z, List.length_nil] at h9; omega) (by omega), by omega⟩
theorem num_dgs {n : Int} (h0 : 0 ≤ n) (h1 : n < 10 ^ 60) : dgs (numT n) = true ∧ digitsVal (numT n).cps.toList = n.toNat := by
  have hl := num_len h0 h1
  obtain ⟨m, rfl⟩ := Int.eq_ofNat_of_zero_le h0
  have es : (numT (m : Int)).cps.toList = (Nat.toDigits 10 m).map Char.toNat := PySem.W.KIN.signs_num m
  have hd : AllDigits (numT ((m : Nat) : Int)).cps.toList := by
    intro c hc
    rw [es] at hc
    obtain ⟨ch, hch, e⟩ := List.mem_map.mp hc
    have r := digit_range (Nat.isDigit_of_mem_toDigits (by decide) (by decide) hch)
    rw [← e]
    exact r
  have hne : 1 ≤ (numT ((m : Nat) : Int)).cps.size := by
    have h := toDigits_len_ge 10 m
    have e2 := congrArg List.length es
    rw [Array.length_toList, List.length_map] at e2
    omega
  refine ⟨?_, by rw [es, PySem.W.KIN.val_back]; rfl⟩
  unfold dgs
  rw [decide_eq_true hne, decide_eq_true (show (numT ((m : Nat) : Int)).cps.size ≤ 60 from hl), Bool.true_and, Bool.true_and, List.all_eq_true]
  intro c hc
  have := hd c hc
  unfold dgB
  rw [decide_eq_true this.1, decide_eq_true this.2]; rfl
theorem numV_num {n : Int} (h0 : 0 ≤ n) (h1 : n < 10 ^ 60) : numV (numT n) = .int n := by
  obtain ⟨a, b⟩ := num_dgs h0 h1
  unfold numV
  rw [if_pos a, b]
  exact congrArg V.int (Int.toNat_of_nonneg h0)
def spNum : Sp := fun vs H Q _ => ∃ x : Str, vs = [.str x] ∧ x.cps.size ≤ 1000 ∧ ∀ H', Same H H' → Q (numV x) H'
section
variable {P : Program} {w : World} {K : PySem.W.Frag} {mg : Str → Option Value} {base : Heap}
theorem sc_number_of : FnScope ["word"] ["word"] (defScope s_number_of) := ⟨rfl, rfl, rfl, by decide +kernel, rfl, by decide +kernel, by decide +kernel⟩
theorem ok_number_of {f : Addr} {fd : FuncData} (F : Fun K "number_of" "number_of" s_number_of f fd) (T : Txt K mg) : FnOk P w K mg base CX0 1 f fd ["word"] spNum := by
  refine F.ok sc_number_of (fun vs H Q E h => ?_) (fun cdv A outer s H vs Q E hr h => ?_)
  · obtain ⟨x, rfl, _⟩ := h
    rfl
  obtain ⟨x, rfl, hx, q⟩ := h
  refine ⟨_, (@pss_cons _ _ _ _ _ (@ps_if _ _ _ _ _ _ _ _ (@pt_not _ _ _ _ (@pt_chain _ _ _ _ _ _ _ _ _ _ _ _ op_le op_le (@pe_int _ _ _ _) (@pe_callB _ _ _ _ _ _ _ _ _ call_len_str rfl T.len (by decide +kernel) (@pa_cons _ _ _ _ _ (@pv _ 0 _ _ (by rfl) (by first | exact Or.inl rfl | exact Or.inr (Or.inl rfl) | exact Or.inr (Or.inr rfl)) (by decide) (by decide)) (@pa_nil _) (by rfl)) (by decide) (by decide) (by rfl) (by rfl)) (T.g_MOST_FIGURES rfl) (by with_unfolding_all rfl))) (@pss_one _ _ _ (@ps_ret _ _ _ _ (@pe_non _ _ _))) (@pss_nil _)) (@pss_cons _ _ _ _ _ (@ps_if _ _ _ _ _ _ _ _ (@pt_not _ _ _ _ (@pt_val _ _ _ (@pe_callB _ _ _ _ _ _ _ _ _ (call_all rfl) rfl T.all (by decide +kernel) (@pa_cons _ _ _ _ _ (@pe_lc _ _ (["sign"]) ([]) _ _ _ _ _ _ _ _ _ (@pi_str _ _ _ _ (@pv _ 0 _ _ (by rfl) (by first | exact Or.inl rfl | exact Or.inr (Or.inl rfl) | exact Or.inr (Or.inr rfl)) (by decide) (by decide))) (.of rfl) rfl (fun _ _ _ => pg_name (i := 0) (lc_nd (l := ["sign"]) ((by decide +kernel)) rfl) rfl (Or.inl rfl)) (gw_name (by decide)) (fun _ _ _ => (@pif_nil _)) (fun _ _ _ => (@pe_chain _ _ _ _ _ _ _ _ _ _ _ _ op_le_str op_le_str (@pe_str _ _ _ _) (@pv _ 0 _ _ (by rfl) (by first | exact Or.inl rfl | exact Or.inr (Or.inl rfl) | exact Or.inr (Or.inr rfl)) (by decide) (by decide)) (@pe_str _ _ _ _) (by with_unfolding_all rfl))) (by intro _; rfl)) (@pa_nil _) (by rfl)) (by decide) (by decide) (by rfl) (by rfl)) (by intro _; rfl))) (@pss_one _ _ _ (@ps_ret _ _ _ _ (@pe_non _ _ _))) (@pss_nil _)) (@pss_one _ _ _ (@ps_ret _ _ _ _ (@pe_callTy _ _ _ _ _ _ _ _ _ call_int_text rfl T.int (by decide +kernel) (@pa_cons _ _ _ _ _ (@pv _ 0 _ _ (by rfl) (by first | exact Or.inl rfl | exact Or.inr (Or.inl rfl) | exact Or.inr (Or.inr rfl)) (by decide) (by decide)) (@pa_nil _) (by rfl)) (by decide) (by decide) (by rfl) (by rfl)))))), ?_⟩
  have ex : x.length = x.cps.size := rfl
  have no : dgs x = false → ∀ H', Same H H' → Q .non H' := fun e H' s' => by
    have := q H' s'
    unfold numV at this
    rwa [if_neg (by rw [e]; decide)] at this
  refine ⟨_, rfl, x, rfl, len1000 hx, _, _, rfl, rfl, _, rfl, ?_⟩
  refine ite2 (fun h1 => ?_) (fun h1 => ?_)
  · refine ⟨_, _, rfl, rfl, _, rfl, ?_⟩
    have h1' : 1 ≤ x.cps.size := by have := of_decide_eq_true h1; omega
    by_cases h8 : x.cps.size ≤ 60
    · rw [show decide (((x.length : Nat) : Int) ≤ 60) = true from decide_eq_true (by omega)]
      refine iteF ?_
      refine ⟨_, rfl, x, rfl, lc_itf_map (F := fun i => V.bl (dgB (x.cps.getD i 0))) (fun i ys hi hl => ?_) fun a ha => ⟨a, (List.range x.cps.size).map fun i => dgB (x.cps.getD i 0), rfl, SqL.of ?_, _, rfl, ?_⟩⟩
      · refine turn_name ⟨_, rfl, _, _, rfl, rfl, _, rfl, ?_⟩
        have e1 : decide ((⟨#[x.cps.getD i 0]⟩ : Str).cps.toList < (Str.ofString "0").cps.toList) = decide (x.cps.getD i 0 < 48) := lt_one _ _
        have e2 : decide ((Str.ofString "9").cps.toList < (⟨#[x.cps.getD i 0]⟩ : Str).cps.toList) = decide (57 < x.cps.getD i 0) := lt_one _ _
        rw [e1]
        by_cases c1 : x.cps.getD i 0 < 48
        · rw [decide_eq_true c1]
          refine iteF ⟨by rw [hl, sizeLine_eq]; omega, ?_, rfl⟩
          unfold dgB
          rw [decide_eq_false (by omega)]
          rfl
        · rw [decide_eq_false c1]
          refine iteT ⟨_, _, rfl, rfl, ?_⟩
          refine ⟨by rw [hl, sizeLine_eq]; omega, ?_, rfl⟩
          rw [e2]
          unfold dgB
          rw [decide_eq_true (show 48 ≤ x.cps.getD i 0 by omega)]
          by_cases c2 : 57 < x.cps.getD i 0
          · rw [decide_eq_true c2, decide_eq_false (by omega)]; rfl
          · rw [decide_eq_false c2, decide_eq_true (by omega)]; rfl
      · rw [upd_same, List.map_map]
        rfl
      · rw [all_dg]
        have s1 := same_new ha (.lst ((List.range x.cps.size).map fun i => V.bl (dgB (x.cps.getD i 0))))
        have ed : dgs x = x.cps.toList.all dgB := by unfold dgs; rw [decide_eq_true h1', decide_eq_true h8]; rfl
        cases e : x.cps.toList.all dgB with
        | false => exact iteT (no (by rw [ed, e]) _ s1)
        | true =>
          rw [e] at ed
          obtain ⟨ei, el⟩ := dgs_int ed
          refine iteF ⟨_, rfl, x, _, rfl, ei, el, ?_⟩
          have := q _ s1
          unfold numV at this
          rwa [if_pos ed] at this
    · rw [show decide (((x.length : Nat) : Int) ≤ 60) = false from decide_eq_false (by omega)]
      refine iteT (no ?_ H (Same.refl _))
      unfold dgs
      rw [decide_eq_false h8, Bool.and_false, Bool.false_and]
  · refine ⟨_, rfl, iteT (no ?_ H (Same.refl _))⟩
    have h1' : ¬ 1 ≤ x.cps.size := by
      have := of_decide_eq_false (Bool.eq_false_iff.mpr h1)
      omega
    unfold dgs
    rw [decide_eq_false h1', Bool.false_and, Bool.false_and]
end
end K61
set_option maxHeartbeats 1000000
namespace K61
open PySem L2 KB
abbrev s_part_of : Stmt := top 29
abbrev s_length_of : Stmt := top 30
abbrev s_length_in : Stmt := top 31
theorem str_ext2 {a b : Str} (h : a.cps.toList = b.cps.toList) : a = b := by
  cases a; cases b; congr; exact Array.ext' h
theorem cps_app (a b : Str) : (a ++ b).cps.toList = a.cps.toList ++ b.cps.toList := by
  show (a.cps ++ b.cps).toList = _
  rw [Array.toList_append]
theorem cut_at {c : Nat} : ∀ {a a' r r' : List Nat}, c ∉ a → c ∉ a' → a ++ c :: r = a' ++ c :: r' → a = a' ∧ r = r'
  | [], [], r, r', _, _, h => by simpa using h
  | [], y :: a', r, r', _, h2, h => by
    simp only [List.nil_append, List.cons_append, List.cons.injEq] at h
    exact absurd (List.mem_cons.mpr (.inl h.1)) h2
  | y :: a, [], r, r', h1, _, h => by
    simp only [List.nil_append, List.cons_append, List.cons.injEq] at h
    exact absurd (List.mem_cons.mpr (.inl h.1.symm)) h1
  | y :: a, z :: a', r, r', h1, h2, h => by
    simp only [List.cons_append, List.cons.injEq] at h
    obtain ⟨e1, e2⟩ := cut_at (fun m => h1 (List.mem_cons_of_mem _ m)) (fun m => h2 (List.mem_cons_of_mem _ m)) h.2
    exact ⟨by rw [h.1, e1], e2⟩
theorem join_inj (c : Nat) : ∀ {A B : List Str}, A ≠ [] → B ≠ [] → (∀ p ∈ A, c ∉ p.cps.toList) → (∀ p ∈ B, c ∉ p.cps.toList) → Str.join ⟨#[c]⟩ A = Str.join ⟨#[c]⟩ B → A = B
  | [], _, h, _, _, _, _ => absurd rfl h
  | _, [], _, h, _, _, _ => absurd rfl h
  | [a], [b], _, _, _, _, h => by rw [join_one, join_one] at h; rw [h]
  | [a], b :: d :: r, _, _, h1, _, h => by
    rw [join_one, join_two] at h
    have := congrArg (fun z : Str => z.cps.toList) h
    simp only [cps_app] at this
    exact absurd (by rw [this]; simp) (h1 a List.mem_cons_self)
  | a :: d :: r, [b], _, _, _, h2, h => by
    rw [join_one, join_two] at h
    have := congrArg (fun z : Str => z.cps.toList) h
    simp only [cps_app] at this
    exact absurd (by rw [← this]; simp) (h2 b List.mem_cons_self)
  | a :: d :: r, b :: e :: t, _, _, h1, h2, h => by
    rw [join_two, join_two] at h
    have := congrArg (fun z : Str => z.cps.toList) h
    simp only [cps_app, List.append_assoc, List.singleton_append] at this
    obtain ⟨e1, e2⟩ := cut_at (h1 a List.mem_cons_self) (h2 b List.mem_cons_self) this
    rw [str_ext2 e1, join_inj c (A := d :: r) (B := e :: t) (by simp) (by simp) (fun p hp => h1 p (List.mem_cons_of_mem _ hp)) (fun p hp => h2 p (List.mem_cons_of_mem _ hp)) (str_ext2 e2)]
theorem split_ne (x y : Str) : Txt.split x y ≠ [] := by
  unfold Txt.split
  split
  · simp
  · split
    · simp
    · rw [StrLaws.partsBetween_eq]
      obtain ⟨p, r, e⟩ := StrLaws.partsFrom_ne x y.length 0 (Builtin.Str.occurrences x y 0 x.length (x.length + 1))
      rw [e]; simp
theorem split_join (c : Nat) {A : List Str} (h : A ≠ []) (hf : ∀ p ∈ A, c ∉ p.cps.toList) : Txt.split (Str.join ⟨#[c]⟩ A) ⟨#[c]⟩ = A :=
  join_inj c (split_ne _ _) h (StrLaws.split_free _ c) hf (StrLaws.join_split _ _)
def Wn (ps : List Pr) : Prop := ∀ p ∈ ps, nmB p.1 = true
theorem nm_az {x : Str} (h : nmB x = true) : 1 ≤ x.cps.size ∧ x.cps.size ≤ 8 ∧ ∀ c ∈ x.cps.toList, 97 ≤ c ∧ c ≤ 122 := by
  unfold nmB at h
  simp only [Bool.and_eq_true, decide_eq_true_eq, List.all_eq_true] at h
  exact ⟨h.1.1, h.1.2, h.2⟩
theorem star_eq : Str.ofString "*" = ⟨#[42]⟩ := by decide +kernel
theorem plus_eq : Str.ofString "+" = ⟨#[43]⟩ := by decide +kernel
theorem num_all {n : Int} (h0 : 0 ≤ n) (h1 : n < 10 ^ 60) : ∀ c ∈ (numT n).cps.toList, 48 ≤ c ∧ c ≤ 57 := (dgs_all (num_dgs h0 h1).1).1
theorem part_free {p : Pr} (h0 : 1 ≤ p.2) (h1 : p.2 < 10 ^ 60) (hn : nmB p.1 = true) : 43 ∉ (partT p).cps.toList := by
  obtain ⟨_, _, az⟩ := nm_az hn
  unfold partT
  split
  · intro h; have := az _ h; omega
  · intro h
    rw [cps_app, cps_app, star_eq] at h
    rcases List.mem_append.mp h with h | h
    · rcases List.mem_append.mp h with h | h
      · have := num_all (n := p.2) (by omega) h1 _ h; omega
      · simp at h
    · have := az _ h; omega
theorem part_notnum {p : Pr} (hn : nmB p.1 = true) : numV (partT p) = .non := by
  obtain ⟨n1, _, az⟩ := nm_az hn
  unfold numV
  rw [if_neg]
  intro h
  obtain ⟨ad, _, _⟩ := dgs_all h
  obtain ⟨c, hc⟩ : ∃ c, c ∈ p.1.cps.toList := by
    cases e : p.1.cps.toList with
    | nil => have := Array.length_toList (xs := p.1.cps); rw [e, List.length_nil] at this; omega
    | cons c r => exact ⟨c, List.mem_cons_self⟩
  have a := az c hc
  have : c ∈ (partT p).cps.toList := by
    unfold partT
    split
    · exact hc
    · rw [cps_app]; exact List.mem_append_right _ hc
  have := ad c this
  omega
def spPartOf : Sp := fun vs H Q _ => ∃ p : Pr, vs = [.str (partT p)] ∧ 1 ≤ p.2 ∧ p.2 < 10 ^ 60 ∧ nmB p.1 = true ∧ ∀ H' w, Same H H' → Rep H' (.tup [.str p.1, .int p.2]) w → Q w H'
section
variable {P : Program} {w : World} {K : PySem.W.Frag} {mg : Str → Option Value} {base : Heap}
theorem sc_part_of : FnScope ["text", "halves"] ["text"] (defScope s_part_of) := ⟨rfl, rfl, rfl, by decide +kernel, rfl, by decide +kernel, by decide +kernel⟩
theorem ok_part_of {f : Addr} {fd : FuncData} {k : Nat} (F : Fun K "part_of" "part_of" s_part_of f fd) (T : Txt K mg) (Dnumber_of : Def P w K mg base k "number_of" ["word"] spNum) : FnOk P w K mg base CX0 (k + 1) f fd ["text"] spPartOf := by
  have nd : (["text", "halves"] : List Str).Nodup := sc_part_of.nd
  refine F.ok sc_part_of (fun vs H Q E h => ?_) (fun cdv A outer s H vs Q E hr h => ?_)
  · obtain ⟨p, rfl, _⟩ := h
    rfl
  obtain ⟨p, rfl, p1, p60, pn, q⟩ := h
  obtain ⟨n1, n8, az⟩ := nm_az pn
  have pl := part_len p1 p60 n8
  refine ⟨_, (@pss_cons _ _ _ _ _ (@ps_set _ _ (1) _ _ _ _ nd rfl (Or.inl rfl) (@pe_bm _ _ _ _ _ _ _ _ _ _ _ _ PySem.F.plainAttrs_str PySem.F.slot_str_split PySem.F.type_str_split mt_split (@pv _ 0 _ _ (by rfl) (by first | exact Or.inl rfl | exact Or.inr (Or.inl rfl) | exact Or.inr (Or.inr rfl)) (by decide) (by decide)) (@pa_cons _ _ _ _ _ (@pe_str _ _ _ _) (@pa_nil _) (by rfl)) (by rfl) (by rfl) (by rfl) (by rfl) (by rfl)) (by rfl) (by first | exact .inl rfl | exact .inr rfl | assumption)) (@pss_cons _ _ _ _ _ (@ps_if _ _ _ _ _ _ _ _ (@pt_cmpR _ _ _ _ _ _ _ _ op_eq (@pe_callB _ _ _ _ _ _ _ _ _ call_len_seq rfl T.len (by decide +kernel) (@pa_cons _ _ _ _ _ (@pv _ 1 _ _ (by rfl) (by first | exact Or.inl rfl | exact Or.inr (Or.inl rfl) | exact Or.inr (Or.inr rfl)) (by decide) (by decide)) (@pa_nil _) (by rfl)) (by decide) (by decide) (by rfl) (by rfl)) (@pe_int _ _ _ _) (nomark _)) (@pss_one _ _ _ (@ps_ret _ _ _ _ (@pe_tup _ _ _ _ _ (@pa_cons _ _ _ _ _ (@pe_ix _ _ _ _ _ _ _ ix_list (@pv _ 1 _ _ (by rfl) (by first | exact Or.inl rfl | exact Or.inr (Or.inl rfl) | exact Or.inr (Or.inr rfl)) (by decide) (by decide)) (@pe_int _ _ _ _) (fun _ _ => rfl)) (@pa_cons _ _ _ _ _ (@pe_def _ _ _ _ _ _ _ _ _ _ Dnumber_of hr rfl (@pa_cons _ _ _ _ _ (@pe_ix _ _ _ _ _ _ _ ix_list (@pv _ 1 _ _ (by rfl) (by first | exact Or.inl rfl | exact Or.inr (Or.inl rfl) | exact Or.inr (Or.inr rfl)) (by decide) (by decide)) (@pe_int _ _ _ _) (fun _ _ => rfl)) (@pa_nil _) (by rfl)) (by decide) (by rfl) (by rfl)) (@pa_nil _) (by rfl)) (by rfl))))) (@pss_nil _)) (@pss_one _ _ _ (@ps_ret _ _ _ _ (@pe_tup _ _ _ _ _ (@pa_cons _ _ _ _ _ (@pv _ 0 _ _ (by rfl) (by first | exact Or.inl rfl | exact Or.inr (Or.inl rfl) | exact Or.inr (Or.inr rfl)) (by decide) (by decide)) (@pa_cons _ _ _ _ _ (@pe_int _ _ _ _) (@pa_nil _) (by rfl)) (by rfl))))))), ?_⟩
  have rp : ∀ {H' : Hp} {t : Addr}, H' t = some (.tup [.str p.1, .int p.2]) → Rep H' (.tup [.str p.1, .int p.2]) (.ref t) := fun {H' t} h => by
    rw [Rep]; exact ⟨t, _, rfl, h, by simp only [Reps]; exact ⟨_, _, rfl, by simp only [Rep], _, _, rfl, by simp only [Rep], rfl⟩⟩
  by_cases e1 : p.2 = 1
  · have ep : partT p = p.1 := if_pos e1
    have es : Txt.split (partT p) (Str.ofString "*") = [p.1] := by
      rw [ep, star_eq]
      exact split_join 42 (A := [p.1]) (by simp) fun z hz => by rw [List.mem_singleton.mp hz]; intro h; have := az _ h; omega
    refine ⟨_, rfl, rfl, partT p, Str.ofString "*", rfl, rfl, by decide +kernel, by rw [sizeLine_eq]; omega, by rw [es, sizeLine_eq]; exact Nat.le_of_ble_eq_true rfl, fun l hl => ?_⟩
    rw [es]
    refine gnm ?_
    refine ⟨_, rfl, l, _, rfl, .inl (SqL.of upd_same), rfl, _, rfl, ite2 (fun h => absurd (of_decide_eq_true h) (fun z => by injection z with z; exact absurd z (show ¬ ((1 : Nat) : Int) = 2 by decide))) (fun _ => ?_)⟩
    refine ⟨_, rfl, z2, fun t ht => ?_⟩
    rw [ep]
    refine q _ _ ((same_new hl _).trans (same_new ht _)) ?_
    have := @rp (upd (upd H l (.lst ([p.1].map V.str))) t (.tup [.str p.1, .int 1])) t (by rw [upd_same, e1])
    exact this
  · have ep : partT p = Str.join (Str.ofString "*") [numT p.2, p.1] := by unfold partT; rw [if_neg e1, join_two, join_one]
    have es : Txt.split (partT p) (Str.ofString "*") = [numT p.2, p.1] := by
      rw [ep, star_eq]
      refine split_join 42 (A := [numT p.2, p.1]) (by simp) fun z hz => ?_
      rcases List.mem_cons.mp hz with rfl | hz
      · intro h; have := num_all (n := p.2) (by omega) p60 _ h; omega
      · rw [List.mem_singleton.mp hz]; intro h; have := az _ h; omega
    have nl := num_len (i := p.2) (by omega) p60
    refine ⟨_, rfl, rfl, partT p, Str.ofString "*", rfl, rfl, by decide +kernel, by rw [sizeLine_eq]; omega, by rw [es, sizeLine_eq]; exact Nat.le_of_ble_eq_true rfl, fun l hl => ?_⟩
    rw [es]
    have s1 := same_new hl (.lst ([numT p.2, p.1].map V.str))
    have h1 : upd H l (.lst ([numT p.2, p.1].map V.str)) l = some (.lst [.str (numT p.2), .str p.1]) := upd_same
    generalize upd H l (.lst ([numT p.2, p.1].map V.str)) = H1 at s1 h1 ⊢
    refine gnm ?_
    refine ⟨_, rfl, l, _, rfl, .inl (SqL.of h1), rfl, _, rfl, ite2 (fun _ => ?_) (fun h => absurd (decide_eq_true rfl) h)⟩
    refine ⟨_, rfl, l, _, 1, .str p.1, rfl, rfl, SqL.of h1, atI_nat (j := 1) rfl, _, rfl, l, _, 0, .str (numT p.2), rfl, rfl, SqL.of h1, atI_nat (j := 0) rfl, numT p.2, rfl, (by show (numT p.2).length ≤ 1000; omega), fun H2 s2 => ⟨z2, fun t ht => ?_⟩⟩
    rw [numV_num (by omega) p60]
    exact q _ _ (s1.trans (s2.trans (same_new ht _))) (rp upd_same)
end
end K61
set_option maxHeartbeats 1000000
namespace K61
open PySem L2 KB
theorem at_last {α : Type} (ys : List α) (z : α) : atI (ys ++ [z]) (-1) = some z := by
  unfold atI ixN
  rw [if_neg (by decide), if_pos (by rw [List.length_append, List.length_singleton]; omega)]
  show (ys ++ [z])[((-1 : Int) + ((ys ++ [z]).length : Int)).toNat]? = some z
  rw [show ((-1 : Int) + ((ys ++ [z]).length : Int)).toNat = ys.length by rw [List.length_append, List.length_singleton]; omega]
  simp
theorem cut_last (ys : List V) (z : V) : cutV (ys ++ [z]) none (some (-1)) = ys := by
  have h : HT.sIx (ys ++ [z]).length (ys ++ [z]).length (some (-1)) = ys.length := by
    unfold HT.sIx
    simp
    omega
  have h0 : HT.sIx (ys ++ [z]).length 0 none = 0 := rfl
  unfold cutV
  rw [h, h0, List.drop_zero, Nat.sub_zero, List.take_left']
  rfl
theorem lenTs_ne {c : Int} {ps : List Pr} : lenTs c ps ≠ [] := by
  unfold lenTs
  split
  · simp
  · next h => intro e; rw [List.append_nil, List.map_eq_nil_iff] at e; exact h (.inr e)
theorem lenTs_free {c : Int} {ps : List Pr} (h : Wr c ps) (hn : Wn ps) : ∀ y ∈ lenTs c ps, 43 ∉ y.cps.toList := fun y hy => by
  unfold lenTs at hy
  rcases List.mem_append.mp hy with h1 | h1
  · obtain ⟨p, hp, rfl⟩ := List.mem_map.mp h1
    exact part_free (h.can.ge p hp) (h.le p hp).1 (hn p hp)
  · split at h1
    · rw [List.mem_singleton.mp h1]; intro z; have := num_all h.c0 h.c1 _ z; omega
    · cases h1
theorem split_len_text {c : Int} {ps : List Pr} (h : Wr c ps) (hn : Wn ps) : Txt.split (lenT c ps) (Str.ofString "+") = lenTs c ps := by
  unfold lenT
  rw [plus_eq]
  exact split_join 43 lenTs_ne (lenTs_free h hn)
def spLenOf : Sp := fun vs H Q _ => ∃ (c : Int) (ps : List Pr), vs = [.str (lenT c ps)] ∧ Wr c ps ∧ Wn ps ∧ ∀ H' w, Same H H' → Rep H' (lenDv c ps) w → Q w H'
section
variable {P : Program} {w : World} {K : PySem.W.Frag} {mg : Str → Option Value} {base : Heap}
theorem sc_length_of : FnScope ["text", "texts", "count"] ["text"] (defScope s_length_of) := ⟨rfl, rfl, rfl, by decide +kernel, rfl, by decide +kernel, by decide +kernel⟩
theorem ok_length_of {f : Addr} {fd : FuncData} {k : Nat} (F : Fun K "length_of" "length_of" s_length_of f fd) (T : Txt K mg) (Dnumber_of : Def P w K mg base k "number_of" ["word"] spNum) (Dpart_of : Def P w K mg base k "part_of" ["text"] spPartOf) : FnOk P w K mg base CX0 (k + 1) f fd ["text"] spLenOf := by
  have nd : (["text", "texts", "count"] : List Str).Nodup := sc_length_of.nd
  refine F.ok sc_length_of (fun vs H Q E h => ?_) (fun cdv A outer s H vs Q E hr h => ?_)
  · obtain ⟨c, ps, rfl, _⟩ := h
    rfl
  obtain ⟨c, ps, rfl, wr, wn, q⟩ := h
  obtain ⟨tl, tn⟩ := lenTs_le wr
  have ll := lenT_len wr
  have es := split_len_text wr wn
  have wl := wr.len
  refine ⟨_, (@pss_cons _ _ _ _ _ (@ps_set _ _ (1) _ _ _ _ nd rfl (Or.inl rfl) (@pe_bm _ _ _ _ _ _ _ _ _ _ _ _ PySem.F.plainAttrs_str PySem.F.slot_str_split PySem.F.type_str_split mt_split (@pv _ 0 _ _ (by rfl) (by first | exact Or.inl rfl | exact Or.inr (Or.inl rfl) | exact Or.inr (Or.inr rfl)) (by decide) (by decide)) (@pa_cons _ _ _ _ _ (@pe_str _ _ _ _) (@pa_nil _) (by rfl)) (by rfl) (by rfl) (by rfl) (by rfl) (by rfl)) (by rfl) (by first | exact .inl rfl | exact .inr rfl | assumption)) (@pss_cons _ _ _ _ _ (@ps_set _ _ (2) _ _ _ _ nd rfl (Or.inl rfl) (@pe_def _ _ _ _ _ _ _ _ _ _ Dnumber_of hr rfl (@pa_cons _ _ _ _ _ (@pe_ix _ _ _ _ _ _ _ ix_list (@pv _ 1 _ _ (by rfl) (by first | exact Or.inl rfl | exact Or.inr (Or.inl rfl) | exact Or.inr (Or.inr rfl)) (by decide) (by decide)) (@pe_un _ _ _ _ _ _ un_neg (@pe_int _ _ _ _)) (fun _ _ => rfl)) (@pa_nil _) (by rfl)) (by decide) (by rfl) (by rfl)) (by rfl) (by first | exact .inl rfl | exact .inr rfl | assumption)) (@pss_cons _ _ _ _ _ (@ps_if _ _ _ _ _ _ _ _ (@pt_cmpR _ _ _ _ _ _ _ _ op_isN (@pv _ 2 _ _ (by rfl) (by first | exact Or.inl rfl | exact Or.inr (Or.inl rfl) | exact Or.inr (Or.inr rfl)) (by decide) (by decide)) (@pe_non _ _ _) (nomark _)) (@pss_one _ _ _ (@ps_ret _ _ _ _ (@pe_tup _ _ _ _ _ (@pa_cons _ _ _ _ _ (@pe_int _ _ _ _) (@pa_cons _ _ _ _ _ (@pe_callTy _ _ _ _ _ _ _ _ _ call_tuple_of rfl T.tuple (by decide +kernel) (@pa_cons _ _ _ _ _ (@pe_lc _ _ (["each"]) ([]) _ _ _ _ _ _ _ _ _ (@pi_list _ _ _ _ (@pv _ 1 _ _ (by rfl) (by first | exact Or.inl rfl | exact Or.inr (Or.inl rfl) | exact Or.inr (Or.inr rfl)) (by decide) (by decide))) (.of rfl) rfl (fun _ _ _ => pg_name (i := 0) (lc_nd (l := ["each"]) ((by decide +kernel)) rfl) rfl (Or.inl rfl)) (gw_name (by decide)) (fun _ _ _ => (@pif_nil _)) (fun _ _ _ => (@pe_def _ _ _ _ _ _ _ _ _ _ Dpart_of hr rfl (@pa_cons _ _ _ _ _ (@pv _ 0 _ _ (by rfl) (by first | exact Or.inl rfl | exact Or.inr (Or.inl rfl) | exact Or.inr (Or.inr rfl)) (by decide) (by decide)) (@pa_nil _) (by rfl)) (by decide) (by rfl) (by rfl))) (by intro _; rfl)) (@pa_nil _) (by rfl)) (by decide) (by decide) (by rfl) (by rfl)) (@pa_nil _) (by rfl)) (by rfl))))) (@pss_nil _)) (@pss_one _ _ _ (@ps_ret _ _ _ _ (@pe_tup _ _ _ _ _ (@pa_cons _ _ _ _ _ (@pv _ 2 _ _ (by rfl) (by first | exact Or.inl rfl | exact Or.inr (Or.inl rfl) | exact Or.inr (Or.inr rfl)) (by decide) (by decide)) (@pa_cons _ _ _ _ _ (@pe_callTy _ _ _ _ _ _ _ _ _ call_tuple_of rfl T.tuple (by decide +kernel) (@pa_cons _ _ _ _ _ (@pe_lc _ _ (["each"]) ([]) _ _ _ _ _ _ _ _ _ (@pi_list _ _ _ _ (@pe_slice _ _ _ _ _ _ _ _ _ _ sl_list (@pv _ 1 _ _ (by rfl) (by first | exact Or.inl rfl | exact Or.inr (Or.inl rfl) | exact Or.inr (Or.inr rfl)) (by decide) (by decide)) (@po_none _) (@po_some _ _ _ (@pe_un _ _ _ _ _ _ un_neg (@pe_int _ _ _ _))))) (.of rfl) rfl (fun _ _ _ => pg_name (i := 0) (lc_nd (l := ["each"]) ((by decide +kernel)) rfl) rfl (Or.inl rfl)) (gw_name (by decide)) (fun _ _ _ => (@pif_nil _)) (fun _ _ _ => (@pe_def _ _ _ _ _ _ _ _ _ _ Dpart_of hr rfl (@pa_cons _ _ _ _ _ (@pv _ 0 _ _ (by rfl) (by first | exact Or.inl rfl | exact Or.inr (Or.inl rfl) | exact Or.inr (Or.inr rfl)) (by decide) (by decide)) (@pa_nil _) (by rfl)) (by decide) (by rfl) (by rfl))) (by intro _; rfl)) (@pa_nil _) (by rfl)) (by decide) (by decide) (by rfl) (by rfl)) (@pa_nil _) (by rfl)) (by rfl)))))))), ?_⟩
  refine ⟨_, rfl, rfl, lenT c ps, Str.ofString "+", rfl, rfl, by decide +kernel, by rw [sizeLine_eq]; omega, by rw [es, sizeLine_eq]; omega, fun l hl => ?_⟩
  rw [es]
  have s1 := same_new hl (.lst ((lenTs c ps).map V.str))
  have h1 : upd H l (.lst ((lenTs c ps).map V.str)) l = some (.lst ((lenTs c ps).map V.str)) := upd_same
  generalize upd H l (.lst ((lenTs c ps).map V.str)) = H1 at s1 h1 ⊢
  refine gnm ?_
  -- a list of texts of parts, read
  have rd : ∀ (l2 : Addr) (H2 : Hp) {σ : St} {Q2 : List V → Hp → Prop}, H2 l2 = some (.lst ((ps.map partT).map V.str)) → (∀ ys H', Same H2 H' → Reps H' (partsDv ps) ys → Q2 ys H') → rLC (Itl K l2) 1 [] (gName 0) tYes (tCall spPartOf [] E0 (tCons (tVar 0) tNil)) σ H2 Q2 := fun l2 H2 σ Q2 hl2 q2 => by
    refine lc_list (xs := (ps.map partT).map V.str) (fun i ys H' => Same H2 H' ∧ Reps H' (partsDv (ps.take i)) ys) ⟨Same.refl _, by simp [Reps]⟩ (fun i ys H' _ p => SqL.of (p.1 _ _ hl2)) ?_ ?_
    · rintro i ys H3 x hx ⟨s3, R3⟩
      rw [List.map_map, List.getElem?_map] at hx
      obtain ⟨p, hp, rfl⟩ := Option.map_eq_some_iff.mp hx
      have hpm := List.mem_of_getElem? hp
      have hi : i < ps.length := (List.getElem?_eq_some_iff.mp hp).1
      refine turn_name ⟨_, rfl, p, rfl, wr.can.ge p hpm, (wr.le p hpm).1, wn p hpm, fun H4 w4 s4 R4 => ⟨?_, s3.trans s4, ?_⟩⟩
      · rw [R3.length, List.length_map, List.length_take, sizeLine_eq]; omega
      · rw [List.take_add_one, hp, show partsDv (ps.take i ++ (some p).toList) = partsDv (ps.take i) ++ partsDv [p] from List.map_append]
        exact Reps.append (R3.mono s4) (reps_one R4)
    · rintro ys H3 ⟨s3, R3⟩
      rw [List.length_map, List.length_map, List.take_length] at R3
      exact q2 ys H3 s3 R3
  by_cases hc : c ≠ 0 ∨ ps = []
  · have el : lenTs c ps = ps.map partT ++ [numT c] := by unfold lenTs; rw [if_pos hc]
    rw [el, List.map_append] at h1
    have nl := num_len wr.c0 wr.c1
    refine ⟨_, rfl, _, rfl, l, _, -1, .str (numT c), rfl, rfl, SqL.of h1, at_last _ _, numT c, rfl, (by show (numT c).length ≤ 1000; omega), fun H2 s2 => ?_⟩
    rw [numV_num wr.c0 wr.c1]
    refine gnm ?_
    refine ⟨_, rfl, rfl, _, rfl, ite2 (fun h => absurd h (by simp)) (fun _ => ?_)⟩
    have h2 := s2 _ _ h1
    refine ⟨_, rfl, _, rfl, ?_⟩
    dsimp only [tNoPart]
    refine ⟨_, rfl, _, rfl, l, _, rfl, SqL.of h2, fun l3 hl3 => ?_⟩
    have ec : cutV ((ps.map partT).map V.str ++ [numT c].map V.str) none (some (-1)) = (ps.map partT).map V.str := cut_last _ _
    rw [ec]
    have s3 := same_new hl3 (.lst ((ps.map partT).map V.str))
    refine ⟨l3, rfl, ⟨_, SqL.of upd_same⟩, rd l3 _ upd_same fun ys H4 s4 R4 l5 hl5 => ?_⟩
    have s5 := same_new hl5 (.lst ys)
    refine ⟨l5, _, rfl, .inl ⟨SqL.of upd_same, fun t ht => ⟨z2, fun m hm => ?_⟩⟩⟩
    have s6 := same_new ht (.tup ys)
    have s7 := same_new hm (.tup [.int c, .ref t])
    have s57 := s5.trans (s6.trans s7)
    exact q _ _ (s1.trans (s2.trans (s3.trans (s4.trans s57)))) (len_rep upd_same (s7 _ _ upd_same) (R4.mono s57))
  · have el : lenTs c ps = ps.map partT := by unfold lenTs; rw [if_neg hc, List.append_nil]
    have c0 : c = 0 := Classical.byContradiction fun z => hc (.inl z)
    have pne : ps ≠ [] := fun z => hc (.inr z)
    obtain ⟨p0, pz, ep⟩ := snoc_of pne
    rw [el] at h1
    have pm : pz ∈ ps := by rw [ep]; exact List.mem_append_right _ (List.mem_singleton.mpr rfl)
    have hat : atI ((ps.map partT).map V.str) (-1) = some (.str (partT pz)) := by rw [ep, List.map_append, List.map_append]; exact at_last _ _
    have pl := part_len (wr.can.ge pz pm) (wr.le pz pm).1 (wr.le pz pm).2
    refine ⟨_, rfl, _, rfl, l, _, -1, .str (partT pz), rfl, rfl, SqL.of h1, hat, partT pz, rfl, (by show (partT pz).length ≤ 1000; omega), fun H2 s2 => ?_⟩
    rw [part_notnum (wn pz pm)]
    refine gnm ?_
    refine ⟨_, rfl, rfl, _, rfl, ite2 (fun _ => ?_) (fun h => absurd (by simp) h)⟩
    have h2 := s2 _ _ h1
    refine ⟨_, rfl, l, rfl, ⟨_, SqL.of h2⟩, rd l _ h2 fun ys H4 s4 R4 l5 hl5 => ?_⟩
    have s5 := same_new hl5 (.lst ys)
    refine ⟨l5, _, rfl, .inl ⟨SqL.of upd_same, fun t ht => ⟨z2, fun m hm => ?_⟩⟩⟩
    have s6 := same_new ht (.tup ys)
    have s7 := same_new hm (.tup [.int 0, .ref t])
    have s57 := s5.trans (s6.trans s7)
    refine q _ _ (s1.trans (s2.trans (s4.trans s57))) ?_
    rw [c0]
    exact len_rep upd_same (s7 _ _ upd_same) (R4.mono s57)
end
end K61
set_option maxHeartbeats 1000000
namespace K61
open PySem L2 KB
abbrev s_kind_in : Stmt := top 32
def leafD (x : Str) : Dv := .tup [.str x, .non]
def brD : Kd → Dv
  | .whole => leafD (Str.ofString "whole")
  | .place c ps => .tup [.str (Str.ofString "place"), .lst [leafD (lenT c ps)]]
  | .row c ps k => .tup [.str (Str.ofString "row"), .lst [leafD (lenT c ps), brD k]]
  | .pair a b => .tup [.str (Str.ofString "pair"), .lst [brD a, brD b]]
def Wa (c : Int) (ps : List Pr) : Prop := Wr c ps ∧ Wn ps
theorem leaf_inv {H : Hp} {x : Str} {v : V} (R : Rep H (leafD x) v) : ∃ a, v = .ref a ∧ H a = some (.tup [.str x, .non]) := by
  unfold leafD at R
  obtain ⟨a, vs, rfl, ha, rv⟩ := Rep.tup_inv R
  obtain ⟨x1, x2, rfl, r1, r2⟩ := Reps.two rv
  simp only [Rep] at r1 r2
  subst r1 r2
  exact ⟨a, rfl, ha⟩
theorem reps_one_inv {H : Hp} {d : Dv} {vs : List V} (h : Reps H [d] vs) : ∃ x, vs = [x] ∧ Rep H d x := by
  simp only [Reps] at h
  obtain ⟨v, r, rfl, h1, rfl⟩ := h
  exact ⟨v, rfl, h1⟩
def spLenIn : Sp := fun vs H Q _ => ∃ (v : V) (c : Int) (ps : List Pr), vs = [v] ∧ Rep H (leafD (lenT c ps)) v ∧ Wa c ps ∧ ∀ H' w, Same H H' → Rep H' (lenDv c ps) w → Q w H'
def spKindIn (n : Nat) : Sp := fun vs H Q _ => ∃ (v : V) (k : Kd), vs = [v] ∧ Rep H (brD k) v ∧ k.size ≤ n ∧ k.All Wa ∧ ∀ H' w, Same H H' → Rep H' k.dv w → Q w H'
theorem br_inv {H : Hp} {w : Str} {ds : List Dv} {v : V} (R : Rep H (.tup [.str w, .lst ds]) v) : ∃ a l us, v = .ref a ∧ H a = some (.tup [.str w, .ref l]) ∧ H l = some (.lst us) ∧ Reps H ds us := by
  obtain ⟨a, vs, rfl, ha, rv⟩ := Rep.tup_inv R
  obtain ⟨x1, x2, rfl, r1, r2⟩ := Reps.two rv
  simp only [Rep] at r1 r2
  obtain ⟨l, us, rfl, hl, ru⟩ := r2
  subst r1
  exact ⟨a, l, us, rfl, ha, hl, ru⟩
section
variable {P : Program} {w : World} {K : PySem.W.Frag} {mg : Str → Option Value} {base : Heap}
theorem sc_length_in : FnScope ["branch"] ["branch"] (defScope s_length_in) := ⟨rfl, rfl, rfl, by decide +kernel, rfl, by decide +kernel, by decide +kernel⟩
theorem ok_length_in {f : Addr} {fd : FuncData} {k : Nat} (F : Fun K "length_in" "length_in" s_length_in f fd) (T : Txt K mg) (Dlength_of : Def P w K mg base k "length_of" ["text"] spLenOf) : FnOk P w K mg base CX0 (k + 1) f fd ["branch"] spLenIn := by
  refine F.ok sc_length_in (fun vs H Q E h => ?_) (fun cdv A outer s H vs Q E hr h => ?_)
  · obtain ⟨v, c, ps, rfl, _⟩ := h
    rfl
  obtain ⟨v, c, ps, rfl, R, wa, q⟩ := h
  obtain ⟨a, rfl, ha⟩ := leaf_inv R
  refine ⟨_, (@pss_one _ _ _ (@ps_ret _ _ _ _ (@pe_ifExp _ _ _ _ _ _ _ _ (@pt_cmpR _ _ _ _ _ _ _ _ op_isN (@pe_ix _ _ _ _ _ _ _ ix_tup (@pv _ 0 _ _ (by rfl) (by first | exact Or.inl rfl | exact Or.inr (Or.inl rfl) | exact Or.inr (Or.inr rfl)) (by decide) (by decide)) (@pe_int _ _ _ _) (fun _ _ => rfl)) (@pe_non _ _ _) (nomark _)) (@pe_def _ _ _ _ _ _ _ _ _ _ Dlength_of hr rfl (@pa_cons _ _ _ _ _ (@pe_ix _ _ _ _ _ _ _ ix_tup (@pv _ 0 _ _ (by rfl) (by first | exact Or.inl rfl | exact Or.inr (Or.inl rfl) | exact Or.inr (Or.inr rfl)) (by decide) (by decide)) (@pe_int _ _ _ _) (fun _ _ => rfl)) (@pa_nil _) (by rfl)) (by decide) (by rfl) (by rfl)) (@pe_non _ _ _)))), ?_⟩
  refine ⟨_, rfl, a, _, 1, .non, rfl, rfl, SqT.of ha, atI_nat (j := 1) rfl, rfl, _, rfl, ite2 (fun _ => ?_) (fun h => absurd (by simp) h)⟩
  exact ⟨_, rfl, a, _, 0, .str (lenT c ps), rfl, rfl, SqT.of ha, atI_nat (j := 0) rfl, c, ps, rfl, wa.1, wa.2, q⟩
theorem sc_kind_in : FnScope ["branch", "word", "inner"] ["branch"] (defScope s_kind_in) := ⟨rfl, rfl, rfl, by decide +kernel, rfl, by decide +kernel, by decide +kernel⟩
theorem ok_kind_in {f : Addr} {fd : FuncData} {k0 n : Nat} (F : Fun K "kind_in" "kind_in" s_kind_in f fd) (T : Txt K mg) (Dlength_in : Def P w K mg base k0 "length_in" ["branch"] spLenIn) (Dkind_in : Def P w K mg base k0 "kind_in" ["branch"] (spKindIn n)) : FnOk P w K mg base CX0 (k0 + 1) f fd ["branch"] (spKindIn (n + 1)) := by
  have nd : (["branch", "word", "inner"] : List Str).Nodup := sc_kind_in.nd
  refine F.ok sc_kind_in (fun vs H Q E h => ?_) (fun cdv A outer s H vs Q E hr h => ?_)
  · obtain ⟨v, k, rfl, _⟩ := h
    rfl
  obtain ⟨v, k, rfl, R, kn, kA, q⟩ := h
  refine ⟨_, (@pss_cons _ _ _ _ _ (@ps_set _ _ (1) _ _ _ _ nd rfl (Or.inl rfl) (@pe_ix _ _ _ _ _ _ _ ix_tup (@pv _ 0 _ _ (by rfl) (by first | exact Or.inl rfl | exact Or.inr (Or.inl rfl) | exact Or.inr (Or.inr rfl)) (by decide) (by decide)) (@pe_int _ _ _ _) (fun _ _ => rfl)) (by rfl) (by first | exact .inl rfl | exact .inr rfl | assumption)) (@pss_cons _ _ _ _ _ (@ps_set _ _ (2) _ _ _ _ nd rfl (Or.inl rfl) (@pe_ix _ _ _ _ _ _ _ ix_tup (@pv _ 0 _ _ (by rfl) (by first | exact Or.inl rfl | exact Or.inr (Or.inl rfl) | exact Or.inr (Or.inr rfl)) (by decide) (by decide)) (@pe_int _ _ _ _) (fun _ _ => rfl)) (by rfl) (by first | exact .inl rfl | exact .inr rfl | assumption)) (@pss_cons _ _ _ _ _ (@ps_if _ _ _ _ _ _ _ _ (@pt_cmpR _ _ _ _ _ _ _ _ op_isN (@pv _ 2 _ _ (by rfl) (by first | exact Or.inl rfl | exact Or.inr (Or.inl rfl) | exact Or.inr (Or.inr rfl)) (by decide) (by decide)) (@pe_non _ _ _) (nomark _)) (@pss_one _ _ _ (@ps_ret _ _ _ _ (@pe_tup _ _ _ _ _ (@pa_cons _ _ _ _ _ (@pv _ 1 _ _ (by rfl) (by first | exact Or.inl rfl | exact Or.inr (Or.inl rfl) | exact Or.inr (Or.inr rfl)) (by decide) (by decide)) (@pa_nil _) (by rfl))))) (@pss_nil _)) (@pss_cons _ _ _ _ _ (@ps_if _ _ _ _ _ _ _ _ (@PW.pt _ _ _ (@pw_and _ _ _ _ _ _ _ (@pt_cmpR _ _ _ _ _ _ _ _ op_eq (@pv _ 1 _ _ (by rfl) (by first | exact Or.inl rfl | exact Or.inr (Or.inl rfl) | exact Or.inr (Or.inr rfl)) (by decide) (by decide)) (@pe_str _ _ _ _) (nomark _)) (@pw_and1 _ _ _ _ (@pt_cmpR _ _ _ _ _ _ _ _ op_eq (@pe_callB _ _ _ _ _ _ _ _ _ call_len_seq rfl T.len (by decide +kernel) (@pa_cons _ _ _ _ _ (@pv _ 2 _ _ (by rfl) (by first | exact Or.inl rfl | exact Or.inr (Or.inl rfl) | exact Or.inr (Or.inr rfl)) (by decide) (by decide)) (@pa_nil _) (by rfl)) (by decide) (by decide) (by rfl) (by rfl)) (@pe_int _ _ _ _) (nomark _))))) (@pss_one _ _ _ (@ps_ret _ _ _ _ (@pe_tup _ _ _ _ _ (@pa_cons _ _ _ _ _ (@pe_str _ _ _ _) (@pa_cons _ _ _ _ _ (@pe_def _ _ _ _ _ _ _ _ _ _ Dlength_in hr rfl (@pa_cons _ _ _ _ _ (@pe_ix _ _ _ _ _ _ _ ix_list (@pv _ 2 _ _ (by rfl) (by first | exact Or.inl rfl | exact Or.inr (Or.inl rfl) | exact Or.inr (Or.inr rfl)) (by decide) (by decide)) (@pe_int _ _ _ _) (fun _ _ => rfl)) (@pa_nil _) (by rfl)) (by decide) (by rfl) (by rfl)) (@pa_nil _) (by rfl)) (by rfl))))) (@pss_nil _)) (@pss_cons _ _ _ _ _ (@ps_if _ _ _ _ _ _ _ _ (@PW.pt _ _ _ (@pw_and _ _ _ _ _ _ _ (@pt_cmpR _ _ _ _ _ _ _ _ op_eq (@pv _ 1 _ _ (by rfl) (by first | exact Or.inl rfl | exact Or.inr (Or.inl rfl) | exact Or.inr (Or.inr rfl)) (by decide) (by decide)) (@pe_str _ _ _ _) (nomark _)) (@pw_and1 _ _ _ _ (@pt_cmpR _ _ _ _ _ _ _ _ op_eq (@pe_callB _ _ _ _ _ _ _ _ _ call_len_seq rfl T.len (by decide +kernel) (@pa_cons _ _ _ _ _ (@pv _ 2 _ _ (by rfl) (by first | exact Or.inl rfl | exact Or.inr (Or.inl rfl) | exact Or.inr (Or.inr rfl)) (by decide) (by decide)) (@pa_nil _) (by rfl)) (by decide) (by decide) (by rfl) (by rfl)) (@pe_int _ _ _ _) (nomark _))))) (@pss_one _ _ _ (@ps_ret _ _ _ _ (@pe_tup _ _ _ _ _ (@pa_cons _ _ _ _ _ (@pe_str _ _ _ _) (@pa_cons _ _ _ _ _ (@pe_def _ _ _ _ _ _ _ _ _ _ Dlength_in hr rfl (@pa_cons _ _ _ _ _ (@pe_ix _ _ _ _ _ _ _ ix_list (@pv _ 2 _ _ (by rfl) (by first | exact Or.inl rfl | exact Or.inr (Or.inl rfl) | exact Or.inr (Or.inr rfl)) (by decide) (by decide)) (@pe_int _ _ _ _) (fun _ _ => rfl)) (@pa_nil _) (by rfl)) (by decide) (by rfl) (by rfl)) (@pa_cons _ _ _ _ _ (@pe_def _ _ _ _ _ _ _ _ _ _ Dkind_in hr rfl (@pa_cons _ _ _ _ _ (@pe_ix _ _ _ _ _ _ _ ix_list (@pv _ 2 _ _ (by rfl) (by first | exact Or.inl rfl | exact Or.inr (Or.inl rfl) | exact Or.inr (Or.inr rfl)) (by decide) (by decide)) (@pe_int _ _ _ _) (fun _ _ => rfl)) (@pa_nil _) (by rfl)) (by decide) (by rfl) (by rfl)) (@pa_nil _) (by rfl)) (by rfl)) (by rfl))))) (@pss_nil _)) (@pss_cons _ _ _ _ _ (@ps_if _ _ _ _ _ _ _ _ (@PW.pt _ _ _ (@pw_and _ _ _ _ _ _ _ (@pt_cmpR _ _ _ _ _ _ _ _ op_eq (@pv _ 1 _ _ (by rfl) (by first | exact Or.inl rfl | exact Or.inr (Or.inl rfl) | exact Or.inr (Or.inr rfl)) (by decide) (by decide)) (@pe_str _ _ _ _) (nomark _)) (@pw_and1 _ _ _ _ (@pt_cmpR _ _ _ _ _ _ _ _ op_eq (@pe_callB _ _ _ _ _ _ _ _ _ call_len_seq rfl T.len (by decide +kernel) (@pa_cons _ _ _ _ _ (@pv _ 2 _ _ (by rfl) (by first | exact Or.inl rfl | exact Or.inr (Or.inl rfl) | exact Or.inr (Or.inr rfl)) (by decide) (by decide)) (@pa_nil _) (by rfl)) (by decide) (by decide) (by rfl) (by rfl)) (@pe_int _ _ _ _) (nomark _))))) (@pss_one _ _ _ (@ps_ret _ _ _ _ (@pe_tup _ _ _ _ _ (@pa_cons _ _ _ _ _ (@pe_str _ _ _ _) (@pa_cons _ _ _ _ _ (@pe_def _ _ _ _ _ _ _ _ _ _ Dkind_in hr rfl (@pa_cons _ _ _ _ _ (@pe_ix _ _ _ _ _ _ _ ix_list (@pv _ 2 _ _ (by rfl) (by first | exact Or.inl rfl | exact Or.inr (Or.inl rfl) | exact Or.inr (Or.inr rfl)) (by decide) (by decide)) (@pe_int _ _ _ _) (fun _ _ => rfl)) (@pa_nil _) (by rfl)) (by decide) (by rfl) (by rfl)) (@pa_cons _ _ _ _ _ (@pe_def _ _ _ _ _ _ _ _ _ _ Dkind_in hr rfl (@pa_cons _ _ _ _ _ (@pe_ix _ _ _ _ _ _ _ ix_list (@pv _ 2 _ _ (by rfl) (by first | exact Or.inl rfl | exact Or.inr (Or.inl rfl) | exact Or.inr (Or.inr rfl)) (by decide) (by decide)) (@pe_int _ _ _ _) (fun _ _ => rfl)) (@pa_nil _) (by rfl)) (by decide) (by rfl) (by rfl)) (@pa_nil _) (by rfl)) (by rfl)) (by rfl))))) (@pss_nil _)) (@pss_one _ _ _ (@ps_ret _ _ _ _ (@pe_non _ _ _))))))))), ?_⟩
  cases k with
  | whole =>
    obtain ⟨a, rfl, ha⟩ := leaf_inv R
    refine ⟨_, rfl, a, _, 0, .str "whole", rfl, rfl, SqT.of ha, atI_nat (j := 0) rfl, ?_⟩
    refine gnm ?_
    refine ⟨_, rfl, a, _, 1, .non, rfl, rfl, SqT.of ha, atI_nat (j := 1) rfl, ?_⟩
    refine gnm ?_
    refine ⟨_, rfl, rfl, _, rfl, ite2 (fun _ => ?_) (fun h => absurd (by simp) h)⟩
    refine ⟨_, rfl, z1, fun t ht => ?_⟩
    exact q _ _ (same_new ht _) (rep_whole upd_same)
  | place c ps =>
    obtain ⟨a, l, us, rfl, ha, hl, ru⟩ := br_inv R
    obtain ⟨u1, rfl, r1⟩ := reps_one_inv ru
    refine ⟨_, rfl, a, _, 0, .str "place", rfl, rfl, SqT.of ha, atI_nat (j := 0) rfl, ?_⟩
    refine gnm ?_
    refine ⟨_, rfl, a, _, 1, .ref l, rfl, rfl, SqT.of ha, atI_nat (j := 1) rfl, ?_⟩
    refine gnm ?_
    refine ⟨_, rfl, rfl, _, rfl, ite2 (fun h => absurd h (by simp)) (fun _ => ?_)⟩
    refine ⟨_, rfl, rfl, _, rfl, ite2 (fun _ => ?_) (fun h => absurd (decide_eq_true rfl) h)⟩
    refine ⟨_, rfl, l, _, rfl, .inl (SqL.of hl), rfl, _, rfl, ite2 (fun _ => ?_) (fun h => absurd (decide_eq_true rfl) h)⟩
    refine ⟨_, rfl, l, _, 0, u1, rfl, rfl, SqL.of hl, atI_nat (j := 0) rfl, u1, c, ps, rfl, r1, kA, fun H1 w1 s1 R1 => ⟨z2, fun t ht => ?_⟩⟩
    exact q _ _ (s1.trans (same_new ht _)) (rep_place upd_same (R1.mono (same_new ht _)))
  | row c ps j =>
    obtain ⟨a, l, us, rfl, ha, hl, ru⟩ := br_inv R
    obtain ⟨u1, u2, rfl, r1, r2⟩ := Reps.two ru
    have jn : j.size + 1 ≤ n + 1 := kn
    refine ⟨_, rfl, a, _, 0, .str "row", rfl, rfl, SqT.of ha, atI_nat (j := 0) rfl, ?_⟩
    refine gnm ?_
    refine ⟨_, rfl, a, _, 1, .ref l, rfl, rfl, SqT.of ha, atI_nat (j := 1) rfl, ?_⟩
    refine gnm ?_
    refine ⟨_, rfl, rfl, _, rfl, ite2 (fun h => absurd h (by simp)) (fun _ => ?_)⟩
    refine ⟨_, rfl, rfl, _, rfl, ite2 (fun h => absurd (of_decide_eq_true h) (wne (Ne.symm w_pr))) (fun _ => iteF ?_)⟩
    refine ⟨_, rfl, rfl, _, rfl, ite2 (fun _ => ?_) (fun h => absurd (decide_eq_true rfl) h)⟩
    refine ⟨_, rfl, l, _, rfl, .inl (SqL.of hl), rfl, _, rfl, ite2 (fun _ => ?_) (fun h => absurd (decide_eq_true rfl) h)⟩
    refine ⟨_, rfl, l, _, 0, u1, rfl, rfl, SqL.of hl, atI_nat (j := 0) rfl, u1, c, ps, rfl, r1, kA.1, fun H1 w1 s1 R1 => ⟨_, rfl, l, _, 1, u2, rfl, rfl, SqL.of (s1 _ _ hl), atI_nat (j := 1) rfl, u2, j, rfl, r2.mono s1, by omega, kA.2, fun H2 w2 s2 R2 => ⟨z3, fun t ht => ?_⟩⟩⟩
    have s3 := same_new ht (.tup [.str "row", w1, w2])
    exact q _ _ (s1.trans (s2.trans s3)) (rep_row upd_same (R1.mono (s2.trans s3)) (R2.mono s3))
  | pair i j =>
    obtain ⟨a, l, us, rfl, ha, hl, ru⟩ := br_inv R
    obtain ⟨u1, u2, rfl, r1, r2⟩ := Reps.two ru
    have jn : i.size + j.size + 1 ≤ n + 1 := kn
    refine ⟨_, rfl, a, _, 0, .str "pair", rfl, rfl, SqT.of ha, atI_nat (j := 0) rfl, ?_⟩
    refine gnm ?_
    refine ⟨_, rfl, a, _, 1, .ref l, rfl, rfl, SqT.of ha, atI_nat (j := 1) rfl, ?_⟩
    refine gnm ?_
    refine ⟨_, rfl, rfl, _, rfl, ite2 (fun h => absurd h (by simp)) (fun _ => ?_)⟩
    refine ⟨_, rfl, rfl, _, rfl, ite2 (fun h => absurd (of_decide_eq_true h) (wne (Ne.symm w_pq))) (fun _ => iteF ?_)⟩
    refine ⟨_, rfl, rfl, _, rfl, ite2 (fun h => absurd (of_decide_eq_true h) (wne (Ne.symm w_rq))) (fun _ => iteF ?_)⟩
    refine ⟨_, rfl, rfl, _, rfl, ite2 (fun _ => ?_) (fun h => absurd (decide_eq_true rfl) h)⟩
    refine ⟨_, rfl, l, _, rfl, .inl (SqL.of hl), rfl, _, rfl, ite2 (fun _ => ?_) (fun h => absurd (decide_eq_true rfl) h)⟩
    have ip := i.size_pos
    have jp := j.size_pos
    refine ⟨_, rfl, l, _, 0, u1, rfl, rfl, SqL.of hl, atI_nat (j := 0) rfl, u1, i, rfl, r1, by omega, kA.1, fun H1 w1 s1 R1 => ⟨_, rfl, l, _, 1, u2, rfl, rfl, SqL.of (s1 _ _ hl), atI_nat (j := 1) rfl, u2, j, rfl, r2.mono s1, by omega, kA.2, fun H2 w2 s2 R2 => ⟨z3, fun t ht => ?_⟩⟩⟩
    have s3 := same_new ht (.tup [.str "pair", w1, w2])
    exact q _ _ (s1.trans (s2.trans s3)) (rep_pair upd_same (R1.mono (s2.trans s3)) (R2.mono s3))
end
end K61
set_option maxHeartbeats 1000000
namespace K61
open PySem L2 KB
abbrev s_alike : Stmt := top 45
inductive Ak : Nat → Dv → Prop
  | int {n : Nat} {i : Int} : Ak (n + 1) (.int i)
  | str {n : Nat} {x : Str} : Ak (n + 1) (.str x)
  | tup {n : Nat} {ds : List Dv} : ds.length ≤ 30 → (∀ d ∈ ds, Ak n d) → Ak (n + 1) (.tup ds)
theorem t_it (i : Int) : isT (.int i) "tuple" = false := by show ("int" == "tuple" || "int" == "bool" && "tuple" == "int") = false; decide +kernel
theorem t_ii (i : Int) : isT (.int i) "int" = true := by show ("int" == "int" || "int" == "bool" && "int" == "int") = true; decide +kernel
theorem t_ib (i : Int) : isT (.int i) "bool" = false := by show ("int" == "bool" || "int" == "bool" && "bool" == "int") = false; decide +kernel
theorem t_st (x : Str) : isT (.str x) "tuple" = false := by show ("str" == "tuple" || "str" == "bool" && "tuple" == "int") = false; decide +kernel
theorem t_si (x : Str) : isT (.str x) "int" = false := by show ("str" == "int" || "str" == "bool" && "int" == "int") = false; decide +kernel
theorem t_ss (x : Str) : isT (.str x) "str" = true := by show ("str" == "str" || "str" == "bool" && "str" == "int") = true; decide +kernel
def spAlike (n : Nat) : Sp := fun vs H Q _ => ∃ (u v : V) (d : Dv), vs = [u, v] ∧ Rep H d u ∧ Rep H d v ∧ Ak n d ∧ ∀ H', Same H H' → Q (.bl true) H'
section
variable {P : Program} {w : World} {K : PySem.W.Frag} {mg : Str → Option Value} {base : Heap}
theorem sc_alike : FnScope ["_law_found", "_law_due"] ["_law_found", "_law_due"] (defScope s_alike) := ⟨rfl, rfl, rfl, by decide +kernel, rfl, by decide +kernel, by decide +kernel⟩
theorem ok_alike {f : Addr} {fd : FuncData} {k0 n : Nat} (F : Fun K "_law_alike" "_law_alike" s_alike f fd) (T : Txt K mg) (D_law_alike : Def P w K mg base k0 "_law_alike" ["_law_found", "_law_due"] (spAlike n)) : FnOk P w K mg base CX0 (k0 + 1) f fd ["_law_found", "_law_due"] (spAlike (n + 1)) := by
  refine F.ok sc_alike (fun vs H Q E h => ?_) (fun cdv A outer s H vs Q E hr h => ?_)
  · obtain ⟨u, v, d, rfl, _⟩ := h
    rfl
  obtain ⟨u, v, d, rfl, Ru, Rv, ak, q⟩ := h
  have hu := hu_of hr
  refine ⟨_, (@pss_cons _ _ _ _ _ (@ps_if _ _ _ _ _ _ _ _ (@pt_val _ _ _ (@pe_callB _ _ _ _ _ _ _ _ _ call_isi rfl T.isinstance (by decide +kernel) (@pa_cons _ _ _ _ _ (@pv _ 1 _ _ (by rfl) (by first | exact Or.inl rfl | exact Or.inr (Or.inl rfl) | exact Or.inr (Or.inr rfl)) (by decide) (by decide)) (@pa_cons _ _ _ _ _ (@pe_bltn _ _ (.ty "tuple") _ _ rfl T.tuple (by decide +kernel) rfl (by decide) (by decide)) (@pa_nil _) (by rfl)) (by rfl)) (by decide) (by decide) (by rfl) (by rfl)) (by intro _; rfl)) (@pss_cons _ _ _ _ _ (@ps_if _ _ _ _ _ _ _ _ (@PW.pt _ _ _ (@pw_or _ _ _ _ _ _ _ (@pt_not _ _ _ _ (@pt_val _ _ _ (@pe_callB _ _ _ _ _ _ _ _ _ call_isi rfl T.isinstance (by decide +kernel) (@pa_cons _ _ _ _ _ (@pv _ 0 _ _ (by rfl) (by first | exact Or.inl rfl | exact Or.inr (Or.inl rfl) | exact Or.inr (Or.inr rfl)) (by decide) (by decide)) (@pa_cons _ _ _ _ _ (@pe_bltn _ _ (.ty "tuple") _ _ rfl T.tuple (by decide +kernel) rfl (by decide) (by decide)) (@pa_nil _) (by rfl)) (by rfl)) (by decide) (by decide) (by rfl) (by rfl)) (by intro _; rfl))) (@pw_or1 _ _ _ _ (@pt_cmpR _ _ _ _ _ _ _ _ op_ne (@pe_callB _ _ _ _ _ _ _ _ _ call_len_seq rfl T.len (by decide +kernel) (@pa_cons _ _ _ _ _ (@pv _ 0 _ _ (by rfl) (by first | exact Or.inl rfl | exact Or.inr (Or.inl rfl) | exact Or.inr (Or.inr rfl)) (by decide) (by decide)) (@pa_nil _) (by rfl)) (by decide) (by decide) (by rfl) (by rfl)) (@pe_callB _ _ _ _ _ _ _ _ _ call_len_seq rfl T.len (by decide +kernel) (@pa_cons _ _ _ _ _ (@pv _ 1 _ _ (by rfl) (by first | exact Or.inl rfl | exact Or.inr (Or.inl rfl) | exact Or.inr (Or.inr rfl)) (by decide) (by decide)) (@pa_nil _) (by rfl)) (by decide) (by decide) (by rfl) (by rfl)) (nomark _))))) (@pss_one _ _ _ (@ps_ret _ _ _ _ (@pe_bl _ _ _ _))) (@pss_nil _)) (@pss_one _ _ _ (@ps_ret _ _ _ _ (@pe_callB _ _ _ _ _ _ _ _ _ (call_all rfl) rfl T.all (by decide +kernel) (@pa_cons _ _ _ _ _ (@pe_lc _ _ (["_law_one", "_law_other"]) ([]) _ _ _ _ _ _ _ _ _ (@pi_zipTT _ _ _ _ _ _ _ _ _ rfl T.zip (@pa_cons _ _ _ _ _ (@pv _ 0 _ _ (by rfl) (by first | exact Or.inl rfl | exact Or.inr (Or.inl rfl) | exact Or.inr (Or.inr rfl)) (by decide) (by decide)) (@pa_cons _ _ _ _ _ (@pv _ 1 _ _ (by rfl) (by first | exact Or.inl rfl | exact Or.inr (Or.inl rfl) | exact Or.inr (Or.inr rfl)) (by decide) (by decide)) (@pa_nil _) (by rfl)) (by rfl)) (by rfl) (by rfl)) (.of rfl) rfl (fun _ _ _ => pg_tup rfl (@pgs_cons _ _ _ _ _ (@pg_name _ _ (0) _ (lc_nd (l := ["_law_one", "_law_other"]) ((by decide +kernel)) rfl) rfl (Or.inl rfl) (by first | exact .inl rfl | exact .inr rfl | assumption)) (@pgs_cons _ _ _ _ _ (@pg_name _ _ (1) _ (lc_nd (l := ["_law_one", "_law_other"]) ((by decide +kernel)) rfl) rfl (Or.inl rfl) (by first | exact .inl rfl | exact .inr rfl | assumption)) (@pgs_nil _) (by rfl)) (by rfl))) (gw_two (by decide) (by decide)) (fun _ _ _ => (@pif_nil _)) (fun _ _ _ => (@pe_def _ _ _ _ _ _ _ _ _ _ D_law_alike hr rfl (@pa_cons _ _ _ _ _ (@pv _ 0 _ _ (by rfl) (by first | exact Or.inl rfl | exact Or.inr (Or.inl rfl) | exact Or.inr (Or.inr rfl)) (by decide) (by decide)) (@pa_cons _ _ _ _ _ (@pv _ 1 _ _ (by rfl) (by first | exact Or.inl rfl | exact Or.inr (Or.inl rfl) | exact Or.inr (Or.inr rfl)) (by decide) (by decide)) (@pa_nil _) (by rfl)) (by rfl)) (by decide) (by rfl) (by rfl))) (by intro _; rfl)) (@pa_nil _) (by rfl)) (by decide) (by decide) (by rfl) (by rfl))))) (@pss_nil _)) (@pss_cons _ _ _ _ _ (@ps_if _ _ _ _ _ _ _ _ (@pt_val _ _ _ (@pe_callB _ _ _ _ _ _ _ _ _ call_isi rfl T.isinstance (by decide +kernel) (@pa_cons _ _ _ _ _ (@pv _ 1 _ _ (by rfl) (by first | exact Or.inl rfl | exact Or.inr (Or.inl rfl) | exact Or.inr (Or.inr rfl)) (by decide) (by decide)) (@pa_cons _ _ _ _ _ (@pe_bltn _ _ (.ty "int") _ _ rfl T.int (by decide +kernel) rfl (by decide) (by decide)) (@pa_nil _) (by rfl)) (by rfl)) (by decide) (by decide) (by rfl) (by rfl)) (by intro _; rfl)) (@pss_one _ _ _ (@ps_ret _ _ _ _ (@pe_and _ _ _ _ _ _ _ (@pe_callB _ _ _ _ _ _ _ _ _ call_isi rfl T.isinstance (by decide +kernel) (@pa_cons _ _ _ _ _ (@pv _ 0 _ _ (by rfl) (by first | exact Or.inl rfl | exact Or.inr (Or.inl rfl) | exact Or.inr (Or.inr rfl)) (by decide) (by decide)) (@pa_cons _ _ _ _ _ (@pe_bltn _ _ (.ty "int") _ _ rfl T.int (by decide +kernel) rfl (by decide) (by decide)) (@pa_nil _) (by rfl)) (by rfl)) (by decide) (by decide) (by rfl) (by rfl)) (@pe_and _ _ _ _ _ _ _ (@pe_not _ _ _ _ (@pe_callB _ _ _ _ _ _ _ _ _ call_isi rfl T.isinstance (by decide +kernel) (@pa_cons _ _ _ _ _ (@pv _ 0 _ _ (by rfl) (by first | exact Or.inl rfl | exact Or.inr (Or.inl rfl) | exact Or.inr (Or.inr rfl)) (by decide) (by decide)) (@pa_cons _ _ _ _ _ (@pe_bltn _ _ (.ty "bool") _ _ rfl T.bool (by decide +kernel) rfl (by decide) (by decide)) (@pa_nil _) (by rfl)) (by rfl)) (by decide) (by decide) (by rfl) (by rfl))) (@pe_one _ _ _ _ _ (@pe_cmpR _ _ _ _ _ _ _ _ op_eq (@pv _ 0 _ _ (by rfl) (by first | exact Or.inl rfl | exact Or.inr (Or.inl rfl) | exact Or.inr (Or.inr rfl)) (by decide) (by decide)) (@pv _ 1 _ _ (by rfl) (by first | exact Or.inl rfl | exact Or.inr (Or.inl rfl) | exact Or.inr (Or.inr rfl)) (by decide) (by decide)) (nomark _))))))) (@pss_nil _)) (@pss_one _ _ _ (@ps_ret _ _ _ _ (@pe_and _ _ _ _ _ _ _ (@pe_callB _ _ _ _ _ _ _ _ _ call_isi rfl T.isinstance (by decide +kernel) (@pa_cons _ _ _ _ _ (@pv _ 0 _ _ (by rfl) (by first | exact Or.inl rfl | exact Or.inr (Or.inl rfl) | exact Or.inr (Or.inr rfl)) (by decide) (by decide)) (@pa_cons _ _ _ _ _ (@pe_bltn _ _ (.ty "str") _ _ rfl T.str (by decide +kernel) rfl (by decide) (by decide)) (@pa_nil _) (by rfl)) (by rfl)) (by decide) (by decide) (by rfl) (by rfl)) (@pe_one _ _ _ _ _ (@pe_cmpR _ _ _ _ _ _ _ _ op_eq (@pv _ 0 _ _ (by rfl) (by first | exact Or.inl rfl | exact Or.inr (Or.inl rfl) | exact Or.inr (Or.inr rfl)) (by decide) (by decide)) (@pv _ 1 _ _ (by rfl) (by first | exact Or.inl rfl | exact Or.inr (Or.inl rfl) | exact Or.inr (Or.inr rfl)) (by decide) (by decide)) (nomark _)))))))), ?_⟩
  refine ⟨_, rfl, v, _, _, _, rfl, Rv.ty, kit_tuple K d, _, rfl, ?_⟩
  cases ak with
  | @int _ i =>
    obtain rfl : u = .int i := by simpa only [Rep] using Ru
    obtain rfl : v = .int i := by simpa only [Rep] using Rv
    rw [t_it]
    refine iteF ?_
    refine ⟨_, rfl, _, _, _, _, rfl, TyOf.int i, kit_int K (.int i), _, rfl, ?_⟩
    rw [t_ii]
    refine iteT ?_
    refine ⟨_, rfl, _, _, _, _, rfl, TyOf.int i, kit_int K (.int i), _, rfl, ?_⟩
    rw [t_ii]
    refine iteT ?_
    refine ⟨_, rfl, _, _, _, _, rfl, TyOf.int i, kit_bool K (.int i), _, rfl, _, rfl, ?_⟩
    rw [t_ib]
    refine iteT ?_
    refine ⟨_, rfl, _, rfl, rfl, ?_⟩
    rw [decide_eq_true rfl]
    exact q H (Same.refl _)
  | @str _ x =>
    obtain rfl : u = .str x := by simpa only [Rep] using Ru
    obtain rfl : v = .str x := by simpa only [Rep] using Rv
    rw [t_st]
    refine iteF ?_
    refine ⟨_, rfl, _, _, _, _, rfl, TyOf.str x, kit_int K (.str x), _, rfl, ?_⟩
    rw [t_si]
    refine iteF ?_
    refine ⟨_, rfl, _, _, _, _, rfl, TyOf.str x, kit_str K (.str x), _, rfl, ?_⟩
    rw [t_ss]
    refine iteT ?_
    refine ⟨_, rfl, _, rfl, rfl, ?_⟩
    rw [decide_eq_true rfl]
    exact q H (Same.refl _)
  | @tup _ ds l30 hd =>
    obtain ⟨a, us, rfl, ha, ru⟩ := Rep.tup_inv Ru
    obtain ⟨b, vs, rfl, hb, rv⟩ := Rep.tup_inv Rv
    have l1 := ru.length
    have l2 := rv.length
    rw [isT_tup]
    refine iteT ?_
    refine ⟨_, rfl, _, _, _, _, rfl, TyOf.tup ha, kit_tuple K (.tup ds), _, rfl, ?_⟩
    rw [isT_tup]
    refine iteF ?_
    refine ⟨_, rfl, a, _, rfl, .inr (SqT.of ha), _, rfl, b, _, rfl, .inr (SqT.of hb), rfl, _, rfl, ?_⟩
    rw [show (!decide (V.int (us.length : Int) = V.int (vs.length : Int))) = false by rw [l1, l2]; simp]
    refine iteF ?_
    refine ⟨_, rfl, _, rfl, a, b, rfl, ⟨_, SqT.of ha⟩, ⟨_, SqT.of hb⟩, lc_zipTT (xs := us) (ys := vs) (fun i ys H' => Same H H' ∧ ys = (List.replicate i true).map V.bl ∧ i ≤ 30) ⟨Same.refl _, rfl, Nat.zero_le _⟩ (fun i zs H' p => ⟨SqT.of (p.1 _ _ ha), SqT.of (p.1 _ _ hb)⟩) ?_ ?_⟩
    · rintro i zs H1 x y p hx hy ⟨s1, rfl, i30⟩ hp
      obtain ⟨d1, hd1, Rd1⟩ := ru.get hx
      obtain ⟨d2, hd2, Rd2⟩ := rv.get hy
      rw [hd1] at hd2
      cases hd2
      have hi : i < us.length := (List.getElem?_eq_some_iff.mp hx).1
      have s2 := s1.trans (same_new hp (.tup [x, y]))
      refine turn_two upd_same ⟨_, rfl, _, rfl, x, y, d1, rfl, Rd1.mono s2, Rd2.mono s2, hd d1 (List.mem_of_getElem? hd1), fun H3 s3 => ⟨?_, s2.trans s3, ?_, by omega⟩⟩
      · rw [List.length_map, List.length_replicate, sizeLine_eq]; omega
      · rw [List.replicate_succ', List.map_append]; rfl
    · rintro zs H1 ⟨s1, rfl, _⟩ l hl
      refine ⟨l, _, rfl, SqL.of upd_same, ?_⟩
      have e : ∀ n, (List.replicate n true).all id = true := fun n => by rw [List.all_eq_true]; intro b hb; rw [(List.mem_replicate.mp hb).2]; rfl
      rw [e]
      exact q _ (s1.trans (same_new hl _))
end
end K61
set_option maxHeartbeats 1000000
namespace K61
open PySem L2 KB
abbrev s_kind : Stmt := top 44
def spKind (n : Nat) : Sp := fun vs H Q _ => ∃ (a b : Addr) (rm : Int) (xs : List Str), vs = [.ref a, .ref b, .int rm] ∧ 1 ≤ rm ∧ rm ≤ n ∧ n ≤ 12 ∧ St2 H a ∧ H b = some (.lst (xs.map V.str)) ∧ b ≠ a ∧ xs.length ≤ 10 ∧
  ∀ (H' : Hp) (v : V) (k : Kd), SameB a H H' → St2 H' a → Rep H' k.dv v → k.All (Ln xs 99) → (k.size : Int) ≤ rm → Q v H'
section
variable {P : Program} {w : World} {K : PySem.W.Frag} {mg : Str → Option Value} {base : Heap}
theorem sc_kind : FnScope ["_law_state_here", "_law_names_here", "_law_room", "_law_way", "_law_share", "_law_one", "_law_length_here"] ["_law_state_here", "_law_names_here", "_law_room"] (defScope s_kind) := ⟨rfl, rfl, rfl, by decide +kernel, rfl, by decide +kernel, by decide +kernel⟩
theorem ok_kind {f : Addr} {fd : FuncData} {k0 n : Nat} (F : Fun K "_law_kind" "_law_kind" s_kind f fd) (T : Txt K mg) (D_law_draw : Def P w K mg base k0 "_law_draw" ["_law_state_here", "_law_many"] spDraw) (D_law_length : Def P w K mg base k0 "_law_length" ["_law_state_here", "_law_names_here", "_law_most"] spLength) (D_law_kind : Def P w K mg base k0 "_law_kind" ["_law_state_here", "_law_names_here", "_law_room"] (spKind n)) : FnOk P w K mg base CX0 (k0 + 1) f fd ["_law_state_here", "_law_names_here", "_law_room"] (spKind (n + 1)) := by
  have nd : (["_law_state_here", "_law_names_here", "_law_room", "_law_way", "_law_share", "_law_one", "_law_length_here"] : List Str).Nodup := sc_kind.nd
  refine F.ok sc_kind (fun vs H Q E h => ?_) (fun cdv A outer s H vs Q E hr h => ?_)
  · obtain ⟨a, b, rm, xs, rfl, _⟩ := h
    rfl
  obtain ⟨a, b, rm, xs, rfl, r1, rn, n12, st, hb, hba, lx, q⟩ := h
  refine ⟨_, (@pss_cons _ _ _ _ _ (@ps_set _ _ (3) _ _ _ _ nd rfl (Or.inl rfl) (@pe_def _ _ _ _ _ _ _ _ _ _ D_law_draw hr rfl (@pa_cons _ _ _ _ _ (@pv _ 0 _ _ (by rfl) (by first | exact Or.inl rfl | exact Or.inr (Or.inl rfl) | exact Or.inr (Or.inr rfl)) (by decide) (by decide)) (@pa_cons _ _ _ _ _ (@pe_int _ _ _ _) (@pa_nil _) (by rfl)) (by rfl)) (by decide) (by rfl) (by rfl)) (by rfl) (by first | exact .inl rfl | exact .inr rfl | assumption)) (@pss_cons _ _ _ _ _ (@ps_if _ _ _ _ _ _ _ _ (@PW.pt _ _ _ (@pw_and _ _ _ _ _ _ _ (@pt_cmpR _ _ _ _ _ _ _ _ op_gt (@pv _ 2 _ _ (by rfl) (by first | exact Or.inl rfl | exact Or.inr (Or.inl rfl) | exact Or.inr (Or.inr rfl)) (by decide) (by decide)) (@pe_int _ _ _ _) (nomark _)) (@pw_and1 _ _ _ _ (@pt_cmpR _ _ _ _ _ _ _ _ op_eq (@pv _ 3 _ _ (by rfl) (by first | exact Or.inl rfl | exact Or.inr (Or.inl rfl) | exact Or.inr (Or.inr rfl)) (by decide) (by decide)) (@pe_int _ _ _ _) (nomark _))))) (@pss_cons _ _ _ _ _ (@ps_set _ _ (4) _ _ _ _ nd rfl (Or.inl rfl) (@pe_op _ _ _ _ _ _ _ _ op_add (@pe_int _ _ _ _) (@pe_def _ _ _ _ _ _ _ _ _ _ D_law_draw hr rfl (@pa_cons _ _ _ _ _ (@pv _ 0 _ _ (by rfl) (by first | exact Or.inl rfl | exact Or.inr (Or.inl rfl) | exact Or.inr (Or.inr rfl)) (by decide) (by decide)) (@pa_cons _ _ _ _ _ (@pe_op _ _ _ _ _ _ _ _ op_sub (@pv _ 2 _ _ (by rfl) (by first | exact Or.inl rfl | exact Or.inr (Or.inl rfl) | exact Or.inr (Or.inr rfl)) (by decide) (by decide)) (@pe_int _ _ _ _)) (@pa_nil _) (by rfl)) (by rfl)) (by decide) (by rfl) (by rfl))) (by rfl) (by first | exact .inl rfl | exact .inr rfl | assumption)) (@pss_cons _ _ _ _ _ (@ps_set _ _ (5) _ _ _ _ nd rfl (Or.inl rfl) (@pe_def _ _ _ _ _ _ _ _ _ _ D_law_kind hr rfl (@pa_cons _ _ _ _ _ (@pv _ 0 _ _ (by rfl) (by first | exact Or.inl rfl | exact Or.inr (Or.inl rfl) | exact Or.inr (Or.inr rfl)) (by decide) (by decide)) (@pa_cons _ _ _ _ _ (@pv _ 1 _ _ (by rfl) (by first | exact Or.inl rfl | exact Or.inr (Or.inl rfl) | exact Or.inr (Or.inr rfl)) (by decide) (by decide)) (@pa_cons _ _ _ _ _ (@pv _ 4 _ _ (by rfl) (by first | exact Or.inl rfl | exact Or.inr (Or.inl rfl) | exact Or.inr (Or.inr rfl)) (by decide) (by decide)) (@pa_nil _) (by rfl)) (by rfl)) (by rfl)) (by decide) (by rfl) (by rfl)) (by rfl) (by first | exact .inl rfl | exact .inr rfl | assumption)) (@pss_one _ _ _ (@ps_ret _ _ _ _ (@pe_tup _ _ _ _ _ (@pa_cons _ _ _ _ _ (@pe_str _ _ _ _) (@pa_cons _ _ _ _ _ (@pv _ 5 _ _ (by rfl) (by first | exact Or.inl rfl | exact Or.inr (Or.inl rfl) | exact Or.inr (Or.inr rfl)) (by decide) (by decide)) (@pa_cons _ _ _ _ _ (@pe_def _ _ _ _ _ _ _ _ _ _ D_law_kind hr rfl (@pa_cons _ _ _ _ _ (@pv _ 0 _ _ (by rfl) (by first | exact Or.inl rfl | exact Or.inr (Or.inl rfl) | exact Or.inr (Or.inr rfl)) (by decide) (by decide)) (@pa_cons _ _ _ _ _ (@pv _ 1 _ _ (by rfl) (by first | exact Or.inl rfl | exact Or.inr (Or.inl rfl) | exact Or.inr (Or.inr rfl)) (by decide) (by decide)) (@pa_cons _ _ _ _ _ (@pe_op _ _ _ _ _ _ _ _ op_sub (@pe_op _ _ _ _ _ _ _ _ op_sub (@pv _ 2 _ _ (by rfl) (by first | exact Or.inl rfl | exact Or.inr (Or.inl rfl) | exact Or.inr (Or.inr rfl)) (by decide) (by decide)) (@pe_int _ _ _ _)) (@pv _ 4 _ _ (by rfl) (by first | exact Or.inl rfl | exact Or.inr (Or.inl rfl) | exact Or.inr (Or.inr rfl)) (by decide) (by decide))) (@pa_nil _) (by rfl)) (by rfl)) (by rfl)) (by decide) (by rfl) (by rfl)) (@pa_nil _) (by rfl)) (by rfl)) (by rfl))))))) (@pss_nil _)) (@pss_cons _ _ _ _ _ (@ps_if _ _ _ _ _ _ _ _ (@pt_cmpR _ _ _ _ _ _ _ _ op_eq (@pv _ 3 _ _ (by rfl) (by first | exact Or.inl rfl | exact Or.inr (Or.inl rfl) | exact Or.inr (Or.inr rfl)) (by decide) (by decide)) (@pe_int _ _ _ _) (nomark _)) (@pss_one _ _ _ (@ps_ret _ _ _ _ (@pe_tup _ _ _ _ _ (@pa_cons _ _ _ _ _ (@pe_str _ _ _ _) (@pa_nil _) (by rfl))))) (@pss_nil _)) (@pss_cons _ _ _ _ _ (@ps_set _ _ (6) _ _ _ _ nd rfl (Or.inl rfl) (@pe_def _ _ _ _ _ _ _ _ _ _ D_law_length hr rfl (@pa_cons _ _ _ _ _ (@pv _ 0 _ _ (by rfl) (by first | exact Or.inl rfl | exact Or.inr (Or.inl rfl) | exact Or.inr (Or.inr rfl)) (by decide) (by decide)) (@pa_cons _ _ _ _ _ (@pv _ 1 _ _ (by rfl) (by first | exact Or.inl rfl | exact Or.inr (Or.inl rfl) | exact Or.inr (Or.inr rfl)) (by decide) (by decide)) (@pa_cons _ _ _ _ _ (@pe_int _ _ _ _) (@pa_nil _) (by rfl)) (by rfl)) (by rfl)) (by decide) (by rfl) (by rfl)) (by rfl) (by first | exact .inl rfl | exact .inr rfl | assumption)) (@pss_cons _ _ _ _ _ (@ps_if _ _ _ _ _ _ _ _ (@PW.pt _ _ _ (@pw_and _ _ _ _ _ _ _ (@pt_cmpR _ _ _ _ _ _ _ _ op_gt (@pv _ 2 _ _ (by rfl) (by first | exact Or.inl rfl | exact Or.inr (Or.inl rfl) | exact Or.inr (Or.inr rfl)) (by decide) (by decide)) (@pe_int _ _ _ _) (nomark _)) (@pw_and1 _ _ _ _ (@pt_cmpR _ _ _ _ _ _ _ _ op_lt (@pv _ 3 _ _ (by rfl) (by first | exact Or.inl rfl | exact Or.inr (Or.inl rfl) | exact Or.inr (Or.inr rfl)) (by decide) (by decide)) (@pe_int _ _ _ _) (nomark _))))) (@pss_one _ _ _ (@ps_ret _ _ _ _ (@pe_tup _ _ _ _ _ (@pa_cons _ _ _ _ _ (@pe_str _ _ _ _) (@pa_cons _ _ _ _ _ (@pv _ 6 _ _ (by rfl) (by first | exact Or.inl rfl | exact Or.inr (Or.inl rfl) | exact Or.inr (Or.inr rfl)) (by decide) (by decide)) (@pa_cons _ _ _ _ _ (@pe_def _ _ _ _ _ _ _ _ _ _ D_law_kind hr rfl (@pa_cons _ _ _ _ _ (@pv _ 0 _ _ (by rfl) (by first | exact Or.inl rfl | exact Or.inr (Or.inl rfl) | exact Or.inr (Or.inr rfl)) (by decide) (by decide)) (@pa_cons _ _ _ _ _ (@pv _ 1 _ _ (by rfl) (by first | exact Or.inl rfl | exact Or.inr (Or.inl rfl) | exact Or.inr (Or.inr rfl)) (by decide) (by decide)) (@pa_cons _ _ _ _ _ (@pe_op _ _ _ _ _ _ _ _ op_sub (@pv _ 2 _ _ (by rfl) (by first | exact Or.inl rfl | exact Or.inr (Or.inl rfl) | exact Or.inr (Or.inr rfl)) (by decide) (by decide)) (@pe_int _ _ _ _)) (@pa_nil _) (by rfl)) (by rfl)) (by rfl)) (by decide) (by rfl) (by rfl)) (@pa_nil _) (by rfl)) (by rfl)) (by rfl))))) (@pss_nil _)) (@pss_one _ _ _ (@ps_ret _ _ _ _ (@pe_tup _ _ _ _ _ (@pa_cons _ _ _ _ _ (@pe_str _ _ _ _) (@pa_cons _ _ _ _ _ (@pv _ 6 _ _ (by rfl) (by first | exact Or.inl rfl | exact Or.inr (Or.inl rfl) | exact Or.inr (Or.inr rfl)) (by decide) (by decide)) (@pa_nil _) (by rfl)) (by rfl)))))))))), ?_⟩
  refine ⟨_, rfl, a, 5, rfl, st, by decide, by decide, fun H1 x s1 st1 x0 x5 => ?_⟩
  have b1 := s1 _ _ hba hb
  refine gnm ?_
  dsimp only
  refine and_two (2 < rm ∧ x = 0) ?A ?B (fun qT qF => ⟨_, rfl, _, _, rfl, rfl, _, rfl, ite2 (fun h1 => ⟨_, rfl, rfl, _, rfl, ite2 (fun h2 => ifT (qT ⟨of_decide_eq_true h1, by simpa using h2⟩)) (fun _ => ifF qF)⟩) (fun _ => qF)⟩)
  case A =>
    rintro ⟨pr, hx⟩
    refine iteT ?_
    refine ⟨_, rfl, _, rfl, _, _, rfl, rfl, a, rm - 2, rfl, st1, by omega, by omega, fun H2 y s2 st2 y0 y1 => ⟨_, _, rfl, rfl, ?_⟩⟩
    refine gnm ?_
    have b2 := s2 _ _ hba b1
    have s02 := s1.trans s2
    refine ⟨_, rfl, _, rfl, _, rfl, a, b, 1 + y, xs, rfl, by omega, by omega, by omega, st2, b2, hba, lx, fun H3 v3 k3 s3 st3 R3 A3 z3' => ?_⟩
    refine gnm ?_
    have b3 := s3 _ _ hba b2
    refine ⟨_, rfl, _, rfl, _, rfl, _, rfl, _, _, rfl, rfl, _, rfl, _, _, rfl, rfl, a, b, rm - 1 - (1 + y), xs, rfl, by omega, by omega, by omega, st3, b3, hba, lx, fun H4 v4 k4 s4 st4 R4 A4 z4 => ⟨z3, fun t ht => ?_⟩⟩
    have t4 := st3.tups s4
    have s5 := same_new ht (.tup [.str "pair", v3, v4])
    refine q _ _ (.pair k3 k4) (s02.trans (s3.trans (s4.trans (Same.b a s5)))) (st4.m s5) (rep_pair upd_same ((Kd.tupS t4 R3).mono s5) (R4.mono s5)) ⟨A3, A4⟩ ?_
    show ((k3.size + k4.size + 1 : Nat) : Int) ≤ rm
    omega
  case B =>
    refine iteF (tnx ?_)
    dsimp only
    refine ⟨_, rfl, rfl, _, rfl, ite2 (fun _ => ⟨z1, fun t ht => ?_⟩) (fun _ => ?_)⟩
    · have s2 := same_new ht (.tup [.str "whole"])
      exact q _ _ .whole (s1.trans (Same.b a s2)) (st1.m s2) (rep_whole upd_same) trivial (by show (1 : Int) ≤ rm; omega)
    refine ⟨_, rfl, _, rfl, a, b, 99, xs, rfl, st1, b1, hba, lx, by decide, by decide, fun H2 v2 c ps s2 st2 R2 ln => ?_⟩
    refine gnm ?_
    dsimp only
    have b2 := s2 _ _ hba b1
    have s02 := s1.trans s2
    refine and_two (1 < rm) ?C ?D (fun qT qF => ⟨_, rfl, _, _, rfl, rfl, _, rfl, ite2 (fun h1 => ⟨_, rfl, _, _, rfl, rfl, _, rfl, ite2 (fun _ => ifT (qT (of_decide_eq_true h1))) (fun _ => ifF qF)⟩) (fun _ => qF)⟩)
    case C =>
      intro r2
      refine iteT ⟨_, rfl, _, rfl, _, rfl, _, rfl, _, _, rfl, rfl, a, b, rm - 1, xs, rfl, by omega, by omega, by omega, st2, b2, hba, lx, fun H3 v3 k3 s3 st3 R3 A3 z3' => ⟨z3, fun t ht => ?_⟩⟩
      have t3 := st2.tups s3
      have s4 := same_new ht (.tup [.str "row", v2, v3])
      refine q _ _ (.row c ps k3) (s02.trans (s3.trans (Same.b a s4))) (st3.m s4) (rep_row upd_same ((rep_tupS t3 (pl_len c ps) R2).mono s4) (R3.mono s4)) ⟨ln, A3⟩ ?_
      show ((k3.size + 1 : Nat) : Int) ≤ rm
      omega
    case D =>
      refine iteF ⟨_, rfl, z2, fun t ht => ?_⟩
      have s4 := same_new ht (.tup [.str "place", v2])
      exact q _ _ (.place c ps) (s02.trans (Same.b a s4)) (st2.m s4) (rep_place upd_same (R2.mono s4)) ln (by show (1 : Int) ≤ rm; omega)
end
end K61
set_option maxHeartbeats 1000000
namespace K61
open PySem L2 KB
def inCls (s : Stmt) (i : Nat) : Stmt := match s with | .ClassDef _ _ _ body _ _ _ _ _ _ _ => body.getD i (.Pass ⟨0, 0, 0, 0⟩) | _ => .Pass ⟨0, 0, 0, 0⟩
abbrev s_sinit : Stmt := inCls (top 26) 0
abbrev s_met : Stmt := inCls (top 26) 1
abbrev s_next_word : Stmt := inCls (top 26) 2
abbrev s_branch : Stmt := inCls (top 26) 3
def Sg (C : Addr) (H : Hp) (a : Addr) (x : Str) (i : Nat) : Prop := ∃ dx, H a = some (.ins C dx [(Str.ofString "text", .str x), (Str.ofString "at", .int i)])
theorem ne_at : (Str.ofString "at" == Str.ofString "text") = false := by decide +kernel
theorem lk_text (x : Str) (i : Int) : List.lookup (Str.ofString "text") [(Str.ofString "text", V.str x), (Str.ofString "at", V.int i)] = some (.str x) := by rw [List.lookup_cons, beq_self_eq_true]
theorem lk_at (x : Str) (i : Int) : List.lookup (Str.ofString "at") [(Str.ofString "text", V.str x), (Str.ofString "at", V.int i)] = some (.int i) := by rw [List.lookup_cons, ne_at, List.lookup_cons, beq_self_eq_true]
theorem put_at (x : Str) (i j : Int) : putF (Str.ofString "at") (.int j) [(Str.ofString "text", V.str x), (Str.ofString "at", V.int i)] = [(Str.ofString "text", V.str x), (Str.ofString "at", V.int j)] := by
  have h : ¬ Str.ofString "text" = Str.ofString "at" := by decide +kernel
  simp [putF, h]
def spMet (C : Addr) : Sp := fun vs H Q _ => ∃ (a : Addr) (x y : Str) (i : Nat), vs = [.ref a, .str y] ∧ Sg C H a x i ∧ y.length ≤ 10 ∧
  (Txt.startswith3 x y i = false → Q (.bl false) H) ∧ (Txt.startswith3 x y i = true → ∀ H', SameB a H H' → Sg C H' a x (i + y.length) → Q (.bl true) H')
section
variable {P : Program} {w : World} {K : PySem.W.Frag} {mg : Str → Option Value} {base : Heap}
theorem sc_met : FnScope ["self", "signs"] ["self", "signs"] (defScope s_met) := ⟨rfl, rfl, rfl, by decide +kernel, rfl, by decide +kernel, by decide +kernel⟩
theorem ok_met {f C : Addr} {fd : FuncData} (F : Fun K "met" "Signs.met" s_met f fd) (T : Txt K mg) (cl : Cls K C) (nT : NoAttr K C "text") (nA : NoAttr K C "at") : FnOk P w K mg base CX0 1 f fd ["self", "signs"] (spMet C) := by
  refine F.ok sc_met (fun vs H Q E h => ?_) (fun cdv A outer s H vs Q E hr h => ?_)
  · obtain ⟨a, x, y, i, rfl, _⟩ := h
    rfl
  obtain ⟨a, x, y, i, rfl, ⟨dx, ha⟩, ly, qf, qt⟩ := h
  refine ⟨_, (@pss_cons _ _ _ _ _ (@ps_if _ _ _ _ _ _ _ _ (@pt_not _ _ _ _ (@pt_val _ _ _ (@pe_bm _ _ _ _ _ _ _ _ _ _ _ _ PySem.F.plainAttrs_str PySem.F.slot_str_startswith PySem.F.type_str_startswith mt_starts3 (@pe_fld _ _ _ _ _ (@pv _ 0 _ _ (by rfl) (by first | exact Or.inl rfl | exact Or.inr (Or.inl rfl) | exact Or.inr (Or.inr rfl)) (by decide) (by decide)) rfl) (@pa_cons _ _ _ _ _ (@pv _ 1 _ _ (by rfl) (by first | exact Or.inl rfl | exact Or.inr (Or.inl rfl) | exact Or.inr (Or.inr rfl)) (by decide) (by decide)) (@pa_cons _ _ _ _ _ (@pe_fld _ _ _ _ _ (@pv _ 0 _ _ (by rfl) (by first | exact Or.inl rfl | exact Or.inr (Or.inl rfl) | exact Or.inr (Or.inr rfl)) (by decide) (by decide)) rfl) (@pa_nil _) (by rfl)) (by rfl)) (by rfl) (by rfl) (by rfl) (by rfl) (by rfl)) (by intro _; rfl))) (@pss_one _ _ _ (@ps_ret _ _ _ _ (@pe_bl _ _ _ _))) (@pss_nil _)) (@pss_cons _ _ _ _ _ (@ps_fldaug _ _ _ _ _ _ _ _ _ _ (@pv _ 0 _ _ (by rfl) (by first | exact Or.inl rfl | exact Or.inr (Or.inl rfl) | exact Or.inr (Or.inr rfl)) (by decide) (by decide)) (@pe_callB _ _ _ _ _ _ _ _ _ call_len_str rfl T.len (by decide +kernel) (@pa_cons _ _ _ _ _ (@pv _ 1 _ _ (by rfl) (by first | exact Or.inl rfl | exact Or.inr (Or.inl rfl) | exact Or.inr (Or.inr rfl)) (by decide) (by decide)) (@pa_nil _) (by rfl)) (by decide) (by decide) (by rfl) (by rfl)) in_add) (@pss_one _ _ _ (@ps_ret _ _ _ _ (@pe_bl _ _ _ _))))), ?_⟩
  refine ⟨_, rfl, a, C, dx, _, .str x, rfl, ha, cl, nT, lk_text _ _, rfl, _, rfl, _, rfl, a, C, dx, _, .int i, rfl, ha, cl, nA, lk_at _ _, x, y, i, rfl, rfl, _, rfl, ?_⟩
  cases e : Txt.startswith3 x y i with
  | false => exact iteT (qf e)
  | true =>
    refine iteF ?_
    refine ⟨_, rfl, a, C, dx, _, .int i, rfl, ha, cl, nA, lk_at _ _, _, rfl, y, rfl, ?_, i, y.length, rfl, rfl, dx, _, ha, Nat.le_of_ble_eq_true rfl, ?_⟩
    · rw [sizeLine_eq]; omega
    · refine qt e _ (SameB.upd _ _ _) ⟨dx, ?_⟩
      rw [upd_same, put_at]
      rfl
theorem sc_sinit : FnScope ["self", "text"] ["self", "text"] (defScope s_sinit) := ⟨rfl, rfl, rfl, by decide +kernel, rfl, by decide +kernel, by decide +kernel⟩
def spSInit (C : Addr) : Sp := fun vs H Q _ => ∃ (a dx : Addr) (x : Str), vs = [.ref a, .str x] ∧ H a = some (.ins C dx []) ∧ ∀ H', SameB a H H' → Sg C H' a x 0 → Q .non H'
theorem ok_sinit {f C : Addr} {fd : FuncData} (F : Fun K "__init__" "Signs.__init__" s_sinit f fd) (T : Txt K mg) (cl : Cls K C) (nT : NoAttr K C "text") (nA : NoAttr K C "at") : FnOk P w K mg base CX0 1 f fd ["self", "text"] (spSInit C) := by
  refine F.ok sc_sinit (fun vs H Q E h => ?_) (fun cdv A outer s H vs Q E hr h => ?_)
  · obtain ⟨a, dx, x, rfl, _⟩ := h
    rfl
  obtain ⟨a, dx, x, rfl, ha, q⟩ := h
  refine ⟨_, (@pss_cons _ _ _ _ _ (@ps_fld _ _ _ _ _ _ _ _ (@pv _ 0 _ _ (by rfl) (by first | exact Or.inl rfl | exact Or.inr (Or.inl rfl) | exact Or.inr (Or.inr rfl)) (by decide) (by decide)) (@pv _ 1 _ _ (by rfl) (by first | exact Or.inl rfl | exact Or.inr (Or.inl rfl) | exact Or.inr (Or.inr rfl)) (by decide) (by decide)) rfl) (@pss_one _ _ _ (@ps_fld _ _ _ _ _ _ _ _ (@pv _ 0 _ _ (by rfl) (by first | exact Or.inl rfl | exact Or.inr (Or.inl rfl) | exact Or.inr (Or.inr rfl)) (by decide) (by decide)) (@pe_int _ _ _ _) rfl))), ?_⟩
  refine ⟨_, rfl, _, rfl, a, C, dx, _, rfl, ha, cl, nT, Nat.le_of_ble_eq_true rfl, ?_⟩
  refine ⟨_, rfl, a, C, dx, _, rfl, upd_same, cl, nA, Nat.le_of_ble_eq_true rfl, ?_⟩
  refine q _ ((SameB.upd _ _ _).trans (SameB.upd _ _ _)) ⟨dx, ?_⟩
  rw [upd_same]
  have h : ¬ Str.ofString "text" = Str.ofString "at" := by decide +kernel
  simp [putF, h]
theorem sc_next_word : FnScope ["self", "start"] ["self"] (defScope s_next_word) := ⟨rfl, rfl, rfl, by decide +kernel, rfl, by decide +kernel, by decide +kernel⟩
def stopB (c : Nat) : Bool := c == 40 || c == 44 || c == 41
theorem in_stop (c : Nat) : inV (.str ⟨#[c]⟩) [.str (Str.ofString "("), .str (Str.ofString ","), .str (Str.ofString ")")] = stopB c := by
  have e1 : Str.ofString "(" = ⟨#[40]⟩ := by decide +kernel
  have e2 : Str.ofString "," = ⟨#[44]⟩ := by decide +kernel
  have e3 : Str.ofString ")" = ⟨#[41]⟩ := by decide +kernel
  have h : ∀ d : Nat, ((⟨#[d]⟩ : Str) == ⟨#[c]⟩) = (c == d) := fun d => by
    rw [Bool.eq_iff_iff, beq_iff_eq, beq_iff_eq]
    constructor
    · intro z; injection z with z; injection z with z; injection z with z _; exact z.symm
    · intro z; rw [z]
  rw [e1, e2, e3]
  show (((⟨#[40]⟩ : Str) == ⟨#[c]⟩) || (((⟨#[44]⟩ : Str) == ⟨#[c]⟩) || (((⟨#[41]⟩ : Str) == ⟨#[c]⟩) || false))) = stopB c
  rw [h, h, h, Bool.or_false]
  unfold stopB
  rw [Bool.or_assoc]
def spNext (C : Addr) : Sp := fun vs H Q _ => ∃ (a : Addr) (x : Str) (i j : Nat), vs = [.ref a] ∧ Sg C H a x i ∧ x.length ≤ 100000 ∧ i ≤ j ∧ j ≤ x.length ∧ (∀ m, i ≤ m → m < j → ∃ c, x.cps.toList[m]? = some c ∧ stopB c = false) ∧ (j < x.length → ∃ c, x.cps.toList[j]? = some c ∧ stopB c = true) ∧
  ∀ H', SameB a H H' → Sg C H' a x j → Q (.str (Txt.slice x (some i) (some j))) H'
theorem ok_next_word {f C : Addr} {fd : FuncData} (F : Fun K "next_word" "Signs.next_word" s_next_word f fd) (T : Txt K mg) (cl : Cls K C) (nT : NoAttr K C "text") (nA : NoAttr K C "at") : FnOk P w K mg base CX0 1 f fd ["self"] (spNext C) := by
  have nd : (["self", "start"] : List Str).Nodup := sc_next_word.nd
  refine F.ok sc_next_word (fun vs H Q E h => ?_) (fun cdv A outer s H vs Q E hr h => ?_)
  · obtain ⟨a, x, i, j, rfl, _⟩ := h
    rfl
  obtain ⟨a, x, i, j, rfl, ⟨dx, ha⟩, lx, hij, hj, nost, stp, q⟩ := h
  refine ⟨_, (@pss_cons _ _ _ _ _ (@ps_set _ _ (1) _ _ _ _ nd rfl (Or.inl rfl) (@pe_fld _ _ _ _ _ (@pv _ 0 _ _ (by rfl) (by first | exact Or.inl rfl | exact Or.inr (Or.inl rfl) | exact Or.inr (Or.inr rfl)) (by decide) (by decide)) rfl) (by rfl) (by first | exact .inl rfl | exact .inr rfl | assumption)) (@pss_cons _ _ _ _ _ (@ps_while _ _ _ _ _ _ PassesOwn.never (@PW.pt _ _ _ (@pw_and _ _ _ _ _ _ _ (@pt_cmpR _ _ _ _ _ _ _ _ op_lt (@pe_fld _ _ _ _ _ (@pv _ 0 _ _ (by rfl) (by first | exact Or.inl rfl | exact Or.inr (Or.inl rfl) | exact Or.inr (Or.inr rfl)) (by decide) (by decide)) rfl) (@pe_callB _ _ _ _ _ _ _ _ _ call_len_str rfl T.len (by decide +kernel) (@pa_cons _ _ _ _ _ (@pe_fld _ _ _ _ _ (@pv _ 0 _ _ (by rfl) (by first | exact Or.inl rfl | exact Or.inr (Or.inl rfl) | exact Or.inr (Or.inr rfl)) (by decide) (by decide)) rfl) (@pa_nil _) (by rfl)) (by decide) (by decide) (by rfl) (by rfl)) (nomark _)) (@pw_and1 _ _ _ _ (@pt_cmpR _ _ _ _ _ _ _ _ op_notIn_seq (@pe_ix _ _ _ _ _ _ _ ix_str (@pe_fld _ _ _ _ _ (@pv _ 0 _ _ (by rfl) (by first | exact Or.inl rfl | exact Or.inr (Or.inl rfl) | exact Or.inr (Or.inr rfl)) (by decide) (by decide)) rfl) (@pe_fld _ _ _ _ _ (@pv _ 0 _ _ (by rfl) (by first | exact Or.inl rfl | exact Or.inr (Or.inl rfl) | exact Or.inr (Or.inr rfl)) (by decide) (by decide)) rfl) (fun _ _ => rfl)) (@pe_tup _ _ _ _ _ (@pa_cons _ _ _ _ _ (@pe_str _ _ _ _) (@pa_cons _ _ _ _ _ (@pe_str _ _ _ _) (@pa_cons _ _ _ _ _ (@pe_str _ _ _ _) (@pa_nil _) (by rfl)) (by rfl)) (by rfl))) (by with_unfolding_all rfl))))) (@pss_one _ _ _ (@ps_fldaug _ _ _ _ _ _ _ _ _ _ (@pv _ 0 _ _ (by rfl) (by first | exact Or.inl rfl | exact Or.inr (Or.inl rfl) | exact Or.inr (Or.inr rfl)) (by decide) (by decide)) (@pe_int _ _ _ _) in_add))) (@pss_one _ _ _ (@ps_ret _ _ _ _ (@pe_slice _ _ _ _ _ _ _ _ _ _ sl_str (@pe_fld _ _ _ _ _ (@pv _ 0 _ _ (by rfl) (by first | exact Or.inl rfl | exact Or.inr (Or.inl rfl) | exact Or.inr (Or.inr rfl)) (by decide) (by decide)) rfl) (@po_some _ _ _ (@pv _ 1 _ _ (by rfl) (by first | exact Or.inl rfl | exact Or.inr (Or.inl rfl) | exact Or.inr (Or.inr rfl)) (by decide) (by decide))) (@po_some _ _ _ (@pe_fld _ _ _ _ _ (@pv _ 0 _ _ (by rfl) (by first | exact Or.inl rfl | exact Or.inr (Or.inl rfl) | exact Or.inr (Or.inr rfl)) (by decide) (by decide)) rfl))))))), ?_⟩
  refine ⟨_, rfl, a, C, dx, _, .int i, rfl, ha, cl, nA, lk_at _ _, ?_⟩
  refine gnm ?_
  have lz : x.length ≤ sizeLine := by rw [sizeLine_eq]; omega
  refine ⟨fun m σ H' => ∃ p : Nat, m = j - p ∧ i ≤ p ∧ p ≤ j ∧ σ = [some (.ref a), some (.int i)] ∧ SameB a H H' ∧ Sg C H' a x p, ⟨_, i, rfl, Nat.le_refl _, hij, rfl, SameB.refl _ _, dx, ha⟩, ?_⟩
  rintro m σ H1 ⟨p, rfl, ip, pj, rfl, s1, dx1, ha1⟩
  have stop : ∀ H2, SameB a H1 H2 → p = j → H2 a = some (.ins C dx1 [(Str.ofString "text", .str x), (Str.ofString "at", .int (p : Int))]) → Q (.str (Txt.slice x (some (i : Int)) (some (p : Int)))) H2 := fun H2 s2 e h2 => by
    subst e
    exact q H2 (s1.trans s2) ⟨dx1, h2⟩
  refine ⟨_, rfl, a, C, dx1, _, .int p, rfl, ha1, cl, nA, lk_at _ _, _, rfl, a, C, dx1, _, .str x, rfl, ha1, cl, nT, lk_text _ _, x, rfl, lz, _, _, rfl, rfl, _, rfl, ite2 (fun hp => ?_) (fun hp => ?_)⟩
  · have hp' : p < x.length := by have := of_decide_eq_true hp; omega
    have hl : p < x.cps.toList.length := by rw [Array.length_toList]; exact hp'
    have hat := atI_nat (List.getElem?_eq_getElem hl)
    refine ⟨_, rfl, a, C, dx1, _, .str x, rfl, ha1, cl, nT, lk_text _ _, _, rfl, a, C, dx1, _, .int p, rfl, ha1, cl, nA, lk_at _ _, x, p, _, rfl, rfl, lz, hat, z3, fun t ht => ⟨t, _, rfl, .inr (SqT.of upd_same), rfl, rfl, _, rfl, ?_⟩⟩
    have s2 := same_new ht (.tup [.str "(", .str ",", .str ")"])
    have ha2 := s2 _ _ ha1
    generalize upd H1 t (.tup [.str "(", .str ",", .str ")"]) = H2 at s2 ha2 ⊢
    show if (!inV (.str ⟨#[x.cps.toList[p]]⟩) [.str "(", .str ",", .str ")"]) = true then _ else _
    rw [in_stop]
    by_cases e : p = j
    · obtain ⟨c, hc, sc⟩ := stp (by omega)
      rw [← e, List.getElem?_eq_getElem hl] at hc
      cases hc
      rw [sc]
      refine iteF ⟨_, rfl, a, C, dx1, _, .str x, rfl, ha2, cl, nT, lk_text _ _, _, rfl, _, rfl, _, rfl, a, C, dx1, _, .int p, rfl, ha2, cl, nA, lk_at _ _, _, rfl, x, rfl, lz, ?_⟩
      exact stop H2 (Same.b a s2) e ha2
    · obtain ⟨c, hc, sc⟩ := nost p ip (by omega)
      rw [List.getElem?_eq_getElem hl] at hc
      cases hc
      rw [sc]
      refine iteT ⟨fun σ' H' => ∃ p' : Nat, j - p' < j - p ∧ i ≤ p' ∧ p' ≤ j ∧ σ' = [some (.ref a), some (.int i)] ∧ SameB a H H' ∧ Sg C H' a x p', fun σ' H' ⟨p', h1, h2, h3, h4, h5, h6⟩ => ⟨j - p', h1, p', rfl, h2, h3, h4, h5, h6⟩, ?_⟩
      refine ⟨_, rfl, a, C, dx1, _, .int p, rfl, ha2, cl, nA, lk_at _ _, p, 1, rfl, rfl, dx1, _, ha2, Nat.le_of_ble_eq_true rfl, p + 1, by omega, by omega, by omega, rfl, s1.trans ((Same.b a s2).trans (SameB.upd _ _ _)), dx1, ?_⟩
      rw [upd_same, put_at]
      rfl
  · have e : p = j := by
      have : ¬ (p : Int) < x.length := fun z => hp (decide_eq_true z)
      omega
    refine ⟨_, rfl, a, C, dx1, _, .str x, rfl, ha1, cl, nT, lk_text _ _, _, rfl, _, rfl, _, rfl, a, C, dx1, _, .int p, rfl, ha1, cl, nA, lk_at _ _, _, rfl, x, rfl, lz, ?_⟩
    exact stop H1 (SameB.refl _ _) e ha1
end
end K61
set_option maxHeartbeats 1000000
namespace K61
open PySem L2 KB
theorem drop_len {x w : Str} {i : Nat} {post : List Nat} (h : x.cps.toList.drop i = w.cps.toList ++ post) (hi : i ≤ x.length) : i + w.length + post.length = x.length := by
  have e := congrArg List.length h
  rw [List.length_drop, List.length_append, Array.length_toList, Array.length_toList] at e
  have e1 : x.length = x.cps.size := rfl
  have e2 : w.length = w.cps.size := rfl
  omega
theorem slice_at {x w : Str} {i : Nat} {post : List Nat} (h : x.cps.toList.drop i = w.cps.toList ++ post) (hi : i ≤ x.length) : Txt.slice x (some (i : Int)) (some ((i + w.length : Nat) : Int)) = w := by
  have hl := drop_len h hi
  have e := PyProof.Rows.slice_closesL (x := x) (i := i) (j := ((i + w.length : Nat) : Int)) (by omega) (by omega) (by omega)
  rw [beq_iff_eq.mp e, show ((i : Int)).toNat = i by omega, show (((i + w.length : Nat) : Int) - (i : Int)).toNat = w.length by omega, h]
  refine str_ext2 ?_
  show ((w.cps.toList ++ post).take w.length).toArray.toList = _
  rw [show w.length = w.cps.toList.length from (Array.length_toList).symm, List.take_left' rfl]
theorem starts_at {x y : Str} {i : Nat} (hi : i ≤ x.length) : Txt.startswith3 x y (i : Int) = ((x.cps.toList.drop i).take y.length == y.cps.toList) := by
  have ef : fromIndex x.length (i : Int) = i := by
    unfold fromIndex
    rw [if_neg (by omega)]
    omega
  unfold Txt.startswith3
  rw [ef, StrLaws.subAt_eq]
  by_cases h : i + y.length ≤ x.length
  · rw [decide_eq_true h, Bool.true_and]
  · rw [decide_eq_false h, Bool.false_and, eq_comm, beq_eq_false_iff_ne]
    intro e
    have := congrArg List.length e
    rw [List.length_take, List.length_drop, Array.length_toList, Array.length_toList] at this
    have e1 : x.length = x.cps.size := rfl
    have e2 : y.length = y.cps.size := rfl
    omega
def Bh (post : List Nat) : Prop := post = [] ∨ ∃ c r, post = c :: r ∧ (c = 44 ∨ c = 41)
theorem word_ends {x w : Str} {i : Nat} {post : List Nat} (h : x.cps.toList.drop i = w.cps.toList ++ post) (hi : i ≤ x.length) (hw : ∀ c ∈ w.cps.toList, stopB c = false) (hp : post = [] ∨ ∃ c r, post = c :: r ∧ stopB c = true) :
    i ≤ i + w.length ∧ i + w.length ≤ x.length ∧ (∀ m, i ≤ m → m < i + w.length → ∃ c, x.cps.toList[m]? = some c ∧ stopB c = false) ∧ (i + w.length < x.length → ∃ c, x.cps.toList[i + w.length]? = some c ∧ stopB c = true) := by
  have hl := drop_len h hi
  have lw : w.length = w.cps.toList.length := (Array.length_toList).symm
  have at_ : ∀ m, x.cps.toList[i + m]? = (w.cps.toList ++ post)[m]? := fun m => by rw [← h, List.getElem?_drop]
  refine ⟨by omega, by omega, fun m h1 h2 => ?_, fun h1 => ?_⟩
  · have e := at_ (m - i)
    have hm : m - i < w.cps.toList.length := by omega
    rw [show i + (m - i) = m by omega, List.getElem?_append_left hm, List.getElem?_eq_getElem hm] at e
    exact ⟨_, e, hw _ (List.getElem_mem _)⟩
  · rcases hp with rfl | ⟨c, r, rfl, hc⟩
    · simp at hl; omega
    · refine ⟨c, ?_, hc⟩
      rw [at_, lw, List.getElem?_append_right (Nat.le_refl _), Nat.sub_self]; rfl
end K61
set_option maxHeartbeats 1000000
namespace K61
open PySem L2 KB
def brT : Str ⊕ Kd → Str
  | .inl y => y
  | .inr k => kdT k
def brDv : Str ⊕ Kd → Dv
  | .inl y => leafD y
  | .inr k => brD k
def brOk : Str ⊕ Kd → Prop
  | .inl y => ∀ c ∈ y.cps.toList, stopB c = false
  | .inr k => k.All Wa
def brDp : Str ⊕ Kd → Nat
  | .inl _ => 0
  | .inr k => k.size
theorem lk_no {m : Str} (h1 : (m == Str.ofString "text") = false) (h2 : (m == Str.ofString "at") = false) (x : Str) (i : Int) : List.lookup m [(Str.ofString "text", V.str x), (Str.ofString "at", V.int i)] = none := by rw [List.lookup_cons, h1, List.lookup_cons, h2]; rfl
theorem bh_stop {post : List Nat} (h : Bh post) : post = [] ∨ ∃ c r, post = c :: r ∧ stopB c = true := by
  rcases h with h | ⟨c, r, h, rfl | rfl⟩
  · exact .inl h
  · exact .inr ⟨_, r, h, rfl⟩
  · exact .inr ⟨_, r, h, rfl⟩
theorem no_open {x w : Str} {i : Nat} {post : List Nat} (h : x.cps.toList.drop i = w.cps.toList ++ post) (hi : i ≤ x.length) (hp : Bh post) : Txt.startswith3 x (Str.ofString "(") ((i + w.length : Nat) : Int) = false := by
  have hl := drop_len h hi
  rw [starts_at (by omega), show (x.cps.toList.drop (i + w.length)) = post by
    rw [← List.drop_drop, h, show w.length = w.cps.toList.length from (Array.length_toList).symm, List.drop_left' rfl]]
  have e : (Str.ofString "(").cps.toList = [40] := by decide +kernel
  rw [e, lb3]
  rcases hp with rfl | ⟨c, r, rfl, rfl | rfl⟩
  · rfl
  · rfl
  · rfl
def nw (H H' : Hp) : Hp := fun b => match H b with | none => H' b | some _ => none
def spBranch (C : Addr) (n : Nat) : Sp := fun vs H Q _ => ∃ (a : Addr) (x : Str) (i : Nat) (most : Int) (t : Str ⊕ Kd) (post : List Nat), vs = [.ref a, .int most] ∧ Sg C H a x i ∧ x.length ≤ 100000 ∧ i ≤ x.length ∧ x.cps.toList.drop i = (brT t).cps.toList ++ post ∧ Bh post ∧ brOk t ∧ (brDp t : Int) ≤ most ∧ most < n ∧
  ∀ H' v, SameB a H H' → Sg C H' a x (i + (brT t).length) → Rep (nw H H') (brDv t) v → Q v H'
section
variable {P : Program} {w : World} {K : PySem.W.Frag} {mg : Str → Option Value} {base : Heap}
theorem sc_branch : FnScope ["self", "most", "word", "inner"] ["self", "most"] (defScope s_branch) := ⟨rfl, rfl, rfl, by decide +kernel, rfl, by decide +kernel, by decide +kernel⟩
end
end K61
set_option maxHeartbeats 1000000
namespace K61
open PySem L2 KB
theorem mem_join {s : Str} {c : Nat} : ∀ {ys : List Str}, c ∈ (Str.join s ys).cps.toList → c ∈ s.cps.toList ∨ ∃ y ∈ ys, c ∈ y.cps.toList
  | [], h => by cases h
  | [a], h => .inr ⟨a, List.mem_singleton.mpr rfl, h⟩
  | a :: b :: r, h => by
    rw [join_two, cps_app, cps_app] at h
    rcases List.mem_append.mp h with h | h
    · rcases List.mem_append.mp h with h | h
      · exact .inr ⟨a, List.mem_cons_self, h⟩
      · exact .inl h
    · rcases mem_join h with h | ⟨y, hy, h⟩
      · exact .inl h
      · exact .inr ⟨y, List.mem_cons_of_mem _ hy, h⟩
theorem stop_num {c : Nat} (h : 48 ≤ c ∧ c ≤ 57) : stopB c = false := by unfold stopB; simp; omega
theorem stop_az {c : Nat} (h : 97 ≤ c ∧ c ≤ 122) : stopB c = false := by unfold stopB; simp; omega
theorem part_stop {p : Pr} (h0 : 1 ≤ p.2) (h1 : p.2 < 10 ^ 60) (hn : nmB p.1 = true) : ∀ c ∈ (partT p).cps.toList, stopB c = false := fun c hc => by
  obtain ⟨_, _, az⟩ := nm_az hn
  unfold partT at hc
  split at hc
  · exact stop_az (az c hc)
  · rw [cps_app, cps_app, star_eq] at hc
    rcases List.mem_append.mp hc with h | h
    · rcases List.mem_append.mp h with h | h
      · exact stop_num (num_all (n := p.2) (by omega) h1 c h)
      · rw [List.mem_singleton.mp h]; rfl
    · exact stop_az (az c h)
theorem lenT_stop {c : Int} {ps : List Pr} (wa : Wa c ps) : ∀ d ∈ (lenT c ps).cps.toList, stopB d = false := fun d hd => by
  unfold lenT at hd
  rcases mem_join hd with h | ⟨y, hy, h⟩
  · rw [plus_eq] at h; rw [List.mem_singleton.mp h]; rfl
  · unfold lenTs at hy
    rcases List.mem_append.mp hy with h1 | h1
    · obtain ⟨p, hp, rfl⟩ := List.mem_map.mp h1
      exact part_stop (wa.1.can.ge p hp) (wa.1.le p hp).1 (wa.2 p hp) d h
    · split at h1
      · rw [List.mem_singleton.mp h1] at h; exact stop_num (num_all wa.1.c0 wa.1.c1 d h)
      · cases h1
theorem ne_of_size {x : Str} (h : 1 ≤ x.cps.size) : ∃ c r, x.cps.toList = c :: r := by
  cases e : x.cps.toList with
  | nil => have := Array.length_toList (xs := x.cps); rw [e, List.length_nil] at this; omega
  | cons c r => exact ⟨c, r, rfl⟩
theorem join_head {s a : Str} {c : Nat} {r : List Nat} (h : a.cps.toList = c :: r) : ∀ ys : List Str, ∃ r', (Str.join s (a :: ys)).cps.toList = c :: r'
  | [] => ⟨r, h⟩
  | b :: ys => by rw [join_two, cps_app, cps_app, h]; exact ⟨_, rfl⟩
theorem part_head {p : Pr} (h0 : 1 ≤ p.2) (h1 : p.2 < 10 ^ 60) (hn : nmB p.1 = true) : ∃ c r, (partT p).cps.toList = c :: r := by
  unfold partT
  split
  · exact ne_of_size (nm_az hn).1
  · obtain ⟨c, r, e⟩ := ne_of_size (dgs_all (num_dgs (n := p.2) (by omega) h1).1).2.1
    rw [cps_app, cps_app, e]; exact ⟨_, _, rfl⟩
theorem lenT_head {c : Int} {ps : List Pr} (wa : Wa c ps) : ∃ d r, (lenT c ps).cps.toList = d :: r ∧ d ≠ 41 := by
  have h : ∃ d r, (lenT c ps).cps.toList = d :: r := by
    unfold lenT lenTs
    cases ps with
    | nil =>
      obtain ⟨d, r, e⟩ := ne_of_size (dgs_all (num_dgs wa.1.c0 wa.1.c1).1).2.1
      rw [if_pos (.inr rfl), List.map_nil, List.nil_append]
      exact ⟨d, r, e⟩
    | cons p ps =>
      obtain ⟨d, r, e⟩ := part_head (wa.1.can.ge p List.mem_cons_self) (wa.1.le p List.mem_cons_self).1 (wa.2 p List.mem_cons_self)
      rw [List.map_cons, List.cons_append]
      obtain ⟨r', e'⟩ := join_head (s := Str.ofString "+") e (ps.map partT ++ if c ≠ 0 ∨ p :: ps = [] then [numT c] else [])
      exact ⟨d, r', e'⟩
  obtain ⟨d, r, e⟩ := h
  refine ⟨d, r, e, fun z => ?_⟩
  have := lenT_stop wa d (by rw [e]; exact List.mem_cons_self)
  rw [z] at this
  exact absurd this (by decide)
theorem kdT_head (k : Kd) : ∃ d r, (kdT k).cps.toList = d :: r ∧ d ≠ 41 := by
  cases k with
  | whole => exact ⟨_, _, (by decide +kernel : (Str.ofString "whole").cps.toList = 119 :: [104, 111, 108, 101]), by decide⟩
  | place c ps => rw [kdT, cps_app, cps_app, cps_app, (by decide +kernel : (Str.ofString "place").cps.toList = 112 :: [108, 97, 99, 101])]; exact ⟨_, _, rfl, by decide⟩
  | row c ps k => rw [kdT, cps_app, cps_app, cps_app, (by decide +kernel : (Str.ofString "row").cps.toList = 114 :: [111, 119])]; exact ⟨_, _, rfl, by decide⟩
  | pair a b => rw [kdT, cps_app, cps_app, cps_app, (by decide +kernel : (Str.ofString "pair").cps.toList = 112 :: [97, 105, 114])]; exact ⟨_, _, rfl, by decide⟩
def rem (post : List Nat) : List (Str ⊕ Kd) → List Nat
  | [] => 41 :: post
  | t :: ts => 44 :: 32 :: ((brT t).cps.toList ++ rem post ts)
structure Nd (t : Str ⊕ Kd) (w : Str) (t1 : Str ⊕ Kd) (ts : List (Str ⊕ Kd)) : Prop where
  fr : ∀ c ∈ w.cps.toList, stopB c = false
  tx : ∀ post, (brT t).cps.toList ++ post = w.cps.toList ++ 40 :: ((brT t1).cps.toList ++ rem post ts)
  dv : brDv t = .tup [.str w, .lst ((t1 :: ts).map brDv)]
  ok : ∀ u ∈ t1 :: ts, brOk u ∧ brDp u < brDp t
  le : ts.length ≤ 1
  hd : ∃ d r, (brT t1).cps.toList = d :: r ∧ d ≠ 41
theorem br_cases {t : Str ⊕ Kd} (ok : brOk t) : (brDv t = leafD (brT t) ∧ ∀ c ∈ (brT t).cps.toList, stopB c = false) ∨ ∃ w t1 ts, Nd t w t1 ts := by
  have cw : ∀ w : Str, w.cps.toList.all (fun c => !stopB c) = true → ∀ c ∈ w.cps.toList, stopB c = false := fun w h c hc => by
    have := List.all_eq_true.mp h c hc
    simpa using this
  have e1 : (Str.ofString "(").cps.toList = [40] := by decide +kernel
  have e2 : (Str.ofString ")").cps.toList = [41] := by decide +kernel
  have e3 : (Str.ofString ", ").cps.toList = [44, 32] := by decide +kernel
  cases t with
  | inl y => exact .inl ⟨rfl, ok⟩
  | inr k =>
    cases k with
    | whole => exact .inl ⟨rfl, cw (Str.ofString "whole") (by decide +kernel)⟩
    | place c ps =>
      refine .inr ⟨Str.ofString "place", .inl (lenT c ps), [], cw _ (by decide +kernel), fun post => ?_, rfl, fun u hu => ?_, Nat.zero_le _, lenT_head ok⟩
      · show (kdT (.place c ps)).cps.toList ++ post = _
        rw [kdT, join_one, cps_app, cps_app, cps_app, e1, e2]
        simp [brT, rem]
      · rw [List.mem_singleton.mp hu]; exact ⟨lenT_stop ok, Nat.zero_lt_one⟩
    | row c ps j =>
      refine .inr ⟨Str.ofString "row", .inl (lenT c ps), [.inr j], cw _ (by decide +kernel), fun post => ?_, rfl, fun u hu => ?_, Nat.le_refl _, lenT_head ok.1⟩
      · show (kdT (.row c ps j)).cps.toList ++ post = _
        rw [kdT, join_two, join_one, cps_app, cps_app, cps_app, cps_app, cps_app, e1, e2, e3]
        simp [brT, rem]
      · rcases List.mem_cons.mp hu with rfl | hu
        · exact ⟨lenT_stop ok.1, Nat.succ_pos _⟩
        · rw [List.mem_singleton.mp hu]; exact ⟨ok.2, Nat.lt_succ_self _⟩
    | pair i j =>
      refine .inr ⟨Str.ofString "pair", .inr i, [.inr j], cw _ (by decide +kernel), fun post => ?_, rfl, fun u hu => ?_, Nat.le_refl _, kdT_head i⟩
      · show (kdT (.pair i j)).cps.toList ++ post = _
        rw [kdT, join_two, join_one, cps_app, cps_app, cps_app, cps_app, cps_app, e1, e2, e3]
        simp [brT, rem]
      · rcases List.mem_cons.mp hu with rfl | hu
        · exact ⟨ok.1, by show i.size < i.size + j.size + 1; omega⟩
        · rw [List.mem_singleton.mp hu]; exact ⟨ok.2, by show j.size < i.size + j.size + 1; omega⟩
end K61
set_option maxHeartbeats 1000000
namespace K61
open PySem L2 KB
theorem nw_to {H H1 H2 : Hp} (h : ∀ b o, H b = none → H1 b = some o → H2 b = some o) : Same (nw H H1) (nw H H2) := fun b o e => by
  unfold nw at e ⊢
  cases hb : H b with
  | none => rw [hb] at e; exact h b o hb e
  | some _ => rw [hb] at e; cases e
theorem nw_from {H H1 H2 : Hp} (h : ∀ b, H1 b = none → H b = none) : Same (nw H1 H2) (nw H H2) := fun b o e => by
  unfold nw at e ⊢
  cases hb : H1 b with
  | none => rw [hb] at e; rw [h b hb]; exact e
  | some _ => rw [hb] at e; cases e
theorem sg_back {C a : Addr} {H1 H2 : Hp} {x : Str} {p : Nat} (s : SameB a H1 H2) (g : Sg C H2 a x p) {b : Addr} (h : H2 b = none) : H1 b = none := by
  have n : b ≠ a := fun z => by obtain ⟨_, e⟩ := g; rw [z, e] at h; cases h
  cases e : H1 b with
  | none => rfl
  | some o => rw [s b o n e] at h; cases h
theorem bh_rem (post : List Nat) (ts : List (Str ⊕ Kd)) : Bh (rem post ts) := by
  cases ts with
  | nil => exact .inr ⟨41, post, rfl, .inr rfl⟩
  | cons t ts => exact .inr ⟨44, _, rfl, .inl rfl⟩
theorem drop_on {x : Str} {i : Nat} {u v : List Nat} (h : x.cps.toList.drop i = u ++ v) : x.cps.toList.drop (i + u.length) = v := by
  rw [← List.drop_drop, h, List.drop_left' rfl]
theorem starts_is {x y : Str} {i : Nat} {u : List Nat} (hi : i ≤ x.length) (h : x.cps.toList.drop i = u) : Txt.startswith3 x y (i : Int) = (u.take y.length == y.cps.toList) := by rw [starts_at hi, h]
section
variable {P : Program} {w : World} {K : PySem.W.Frag} {mg : Str → Option Value} {base : Heap}
theorem ok_branch {f C g1 g2 g3 : Addr} {fd d1 d2 d3 : FuncData} {k0 n : Nat} (F : Fun K "branch" "Signs.branch" s_branch f fd) (T : Txt K mg) (cl : Cls K C) (m_next_word : Meth K C "next_word" g1) (F_next_word : FnOk P w K mg base CX0 k0 g1 d1 ["self"] (spNext C)) (b_next_word : Binds K d1 ["self"] [])
    (m_met : Meth K C "met" g2) (F_met : FnOk P w K mg base CX0 k0 g2 d2 ["self", "signs"] (spMet C)) (b_met : Binds K d2 ["self", "signs"] []) (m_branch : Meth K C "branch" g3) (F_branch : FnOk P w K mg base CX0 k0 g3 d3 ["self", "most"] (spBranch C n)) (b_branch : Binds K d3 ["self", "most"] []) : FnOk P w K mg base CX0 (k0 + 1) f fd ["self", "most"] (spBranch C (n + 1)) := by
  have nd : (["self", "most", "word", "inner"] : List Str).Nodup := sc_branch.nd
  refine F.ok sc_branch (fun vs H Q E h => ?_) (fun cdv A outer s H vs Q E hr h => ?_)
  · obtain ⟨a, x, i, most, t, post, rfl, _⟩ := h
    rfl
  obtain ⟨a, x, i, most, t, post, rfl, sg, lx, hi, hd, bh, ok, dm, mn, q⟩ := h
  refine ⟨_, (@pss_cons _ _ _ _ _ (@ps_set _ _ (2) _ _ _ _ nd rfl (Or.inl rfl) (@pe_meth0 _ _ _ _ _ _ _ _ _ _ _ _ _ _ _ _ _ (@pv _ 0 _ _ (by rfl) (by first | exact Or.inl rfl | exact Or.inr (Or.inl rfl) | exact Or.inr (Or.inr rfl)) (by decide) (by decide)) cl m_next_word F_next_word hr b_next_word .nil pass0 (by rfl)) (by rfl) (by first | exact .inl rfl | exact .inr rfl | assumption)) (@pss_cons _ _ _ _ _ (@ps_if _ _ _ _ _ _ _ _ (@PW.pt _ _ _ (@pw_or _ _ _ _ _ _ _ (@pt_cmpR _ _ _ _ _ _ _ _ op_eq (@pv _ 1 _ _ (by rfl) (by first | exact Or.inl rfl | exact Or.inr (Or.inl rfl) | exact Or.inr (Or.inr rfl)) (by decide) (by decide)) (@pe_int _ _ _ _) (nomark _)) (@pw_or1 _ _ _ _ (@pt_not _ _ _ _ (@pt_val _ _ _ (@pe_meth _ _ _ _ _ _ _ _ _ _ _ _ _ _ _ _ _ _ _ _ (@pv _ 0 _ _ (by rfl) (by first | exact Or.inl rfl | exact Or.inr (Or.inl rfl) | exact Or.inr (Or.inr rfl)) (by decide) (by decide)) cl m_met F_met hr b_met .nil pass0 (@pa_cons _ _ _ _ _ (@pe_str _ _ _ _) (@pa_nil _) (by rfl)) (by rfl) (by rfl) (by rfl)) (by intro _; rfl)))))) (@pss_one _ _ _ (@ps_ret _ _ _ _ (@pe_tup _ _ _ _ _ (@pa_cons _ _ _ _ _ (@pv _ 2 _ _ (by rfl) (by first | exact Or.inl rfl | exact Or.inr (Or.inl rfl) | exact Or.inr (Or.inr rfl)) (by decide) (by decide)) (@pa_cons _ _ _ _ _ (@pe_non _ _ _) (@pa_nil _) (by rfl)) (by rfl))))) (@pss_nil _)) (@pss_cons _ _ _ _ _ (@ps_set _ _ (3) _ _ _ _ nd rfl (Or.inl rfl) (@pe_lst _ _ _ _ (@pa_nil _)) (by rfl) (by first | exact .inl rfl | exact .inr rfl | assumption)) (@pss_cons _ _ _ _ _ (@ps_if _ _ _ _ _ _ _ _ (@pt_not _ _ _ _ (@pt_val _ _ _ (@pe_meth _ _ _ _ _ _ _ _ _ _ _ _ _ _ _ _ _ _ _ _ (@pv _ 0 _ _ (by rfl) (by first | exact Or.inl rfl | exact Or.inr (Or.inl rfl) | exact Or.inr (Or.inr rfl)) (by decide) (by decide)) cl m_met F_met hr b_met .nil pass0 (@pa_cons _ _ _ _ _ (@pe_str _ _ _ _) (@pa_nil _) (by rfl)) (by rfl) (by rfl) (by rfl)) (by intro _; rfl))) (@pss_cons _ _ _ _ _ (@ps_expr _ _ _ _ (@pe_bm _ _ _ _ _ _ _ _ _ _ _ _ PySem.F.plainAttrs_list PySem.F.slot_list_append PySem.F.type_list_append mt_append (@pv _ 3 _ _ (by rfl) (by first | exact Or.inl rfl | exact Or.inr (Or.inl rfl) | exact Or.inr (Or.inr rfl)) (by decide) (by decide)) (@pa_cons _ _ _ _ _ (@pe_meth _ _ _ _ _ _ _ _ _ _ _ _ _ _ _ _ _ _ _ _ (@pv _ 0 _ _ (by rfl) (by first | exact Or.inl rfl | exact Or.inr (Or.inl rfl) | exact Or.inr (Or.inr rfl)) (by decide) (by decide)) cl m_branch F_branch hr b_branch .nil pass0 (@pa_cons _ _ _ _ _ (@pe_op _ _ _ _ _ _ _ _ op_sub (@pv _ 1 _ _ (by rfl) (by first | exact Or.inl rfl | exact Or.inr (Or.inl rfl) | exact Or.inr (Or.inr rfl)) (by decide) (by decide)) (@pe_int _ _ _ _)) (@pa_nil _) (by rfl)) (by rfl) (by rfl) (by rfl)) (@pa_nil _) (by rfl)) (by rfl) (by rfl) (by rfl) (by rfl) (by rfl)) (by rfl)) (@pss_cons _ _ _ _ _ (@ps_while _ _ _ _ _ _ PassesOwn.never (@pt_val _ _ _ (@pe_meth _ _ _ _ _ _ _ _ _ _ _ _ _ _ _ _ _ _ _ _ (@pv _ 0 _ _ (by rfl) (by first | exact Or.inl rfl | exact Or.inr (Or.inl rfl) | exact Or.inr (Or.inr rfl)) (by decide) (by decide)) cl m_met F_met hr b_met .nil pass0 (@pa_cons _ _ _ _ _ (@pe_str _ _ _ _) (@pa_nil _) (by rfl)) (by rfl) (by rfl) (by rfl)) (by intro _; rfl)) (@pss_one _ _ _ (@ps_expr _ _ _ _ (@pe_bm _ _ _ _ _ _ _ _ _ _ _ _ PySem.F.plainAttrs_list PySem.F.slot_list_append PySem.F.type_list_append mt_append (@pv _ 3 _ _ (by rfl) (by first | exact Or.inl rfl | exact Or.inr (Or.inl rfl) | exact Or.inr (Or.inr rfl)) (by decide) (by decide)) (@pa_cons _ _ _ _ _ (@pe_meth _ _ _ _ _ _ _ _ _ _ _ _ _ _ _ _ _ _ _ _ (@pv _ 0 _ _ (by rfl) (by first | exact Or.inl rfl | exact Or.inr (Or.inl rfl) | exact Or.inr (Or.inr rfl)) (by decide) (by decide)) cl m_branch F_branch hr b_branch .nil pass0 (@pa_cons _ _ _ _ _ (@pe_op _ _ _ _ _ _ _ _ op_sub (@pv _ 1 _ _ (by rfl) (by first | exact Or.inl rfl | exact Or.inr (Or.inl rfl) | exact Or.inr (Or.inr rfl)) (by decide) (by decide)) (@pe_int _ _ _ _)) (@pa_nil _) (by rfl)) (by rfl) (by rfl) (by rfl)) (@pa_nil _) (by rfl)) (by rfl) (by rfl) (by rfl) (by rfl) (by rfl)) (by rfl)))) (@pss_one _ _ _ (@ps_expr _ _ _ _ (@pe_meth _ _ _ _ _ _ _ _ _ _ _ _ _ _ _ _ _ _ _ _ (@pv _ 0 _ _ (by rfl) (by first | exact Or.inl rfl | exact Or.inr (Or.inl rfl) | exact Or.inr (Or.inr rfl)) (by decide) (by decide)) cl m_met F_met hr b_met .nil pass0 (@pa_cons _ _ _ _ _ (@pe_str _ _ _ _) (@pa_nil _) (by rfl)) (by rfl) (by rfl) (by rfl)) (by rfl))))) (@pss_nil _)) (@pss_one _ _ _ (@ps_ret _ _ _ _ (@pe_tup _ _ _ _ _ (@pa_cons _ _ _ _ _ (@pv _ 2 _ _ (by rfl) (by first | exact Or.inl rfl | exact Or.inr (Or.inl rfl) | exact Or.inr (Or.inr rfl)) (by decide) (by decide)) (@pa_cons _ _ _ _ _ (@pv _ 3 _ _ (by rfl) (by first | exact Or.inl rfl | exact Or.inr (Or.inl rfl) | exact Or.inr (Or.inr rfl)) (by decide) (by decide)) (@pa_nil _) (by rfl)) (by rfl))))))))), ?_⟩
  obtain ⟨dx, ha⟩ := sg
  have nN : ∀ (y : Str) (p : Int), List.lookup (Str.ofString "next_word") [(Str.ofString "text", V.str y), (Str.ofString "at", V.int p)] = none := lk_no (by decide +kernel) (by decide +kernel)
  have nM : ∀ (y : Str) (p : Int), List.lookup (Str.ofString "met") [(Str.ofString "text", V.str y), (Str.ofString "at", V.int p)] = none := lk_no (by decide +kernel) (by decide +kernel)
  have nB : ∀ (y : Str) (p : Int), List.lookup (Str.ofString "branch") [(Str.ofString "text", V.str y), (Str.ofString "at", V.int p)] = none := lk_no (by decide +kernel) (by decide +kernel)
  have e40 : (Str.ofString "(").cps.toList = [40] := by decide +kernel
  have e41 : (Str.ofString ")").cps.toList = [41] := by decide +kernel
  have e44 : (Str.ofString ", ").cps.toList = [44, 32] := by decide +kernel
  rcases br_cases ok with ⟨ed, fr⟩ | ⟨w0, t1, ts, N⟩
  · obtain ⟨w1, w2, w3, w4⟩ := word_ends hd hi fr (bh_stop bh)
    refine ⟨_, rfl, a, dx, _, rfl, ha, nN _ _, a, x, i, i + (brT t).length, rfl, ⟨dx, ha⟩, lx, w1, w2, w3, w4, fun H1 s1 sg1 => ?_⟩
    rw [slice_at hd hi]
    obtain ⟨dx1, ha1⟩ := id sg1
    refine gnm ?_
    have done : ∀ t0, H1 t0 = none → Q (.ref t0) (upd H1 t0 (.tup [.str (brT t), .non])) := fun t0 h0 => by
      have n1 : t0 ≠ a := fun z => by rw [z, ha1] at h0; cases h0
      have h00 : H t0 = none := by
        cases e : H t0 with
        | none => rfl
        | some o => rw [s1 t0 o n1 e] at h0; cases h0
      refine q _ _ (s1.trans (Same.b a (same_new h0 _))) ⟨dx1, same_new h0 _ _ _ ha1⟩ ?_
      rw [ed]
      unfold leafD
      rw [Rep]
      refine ⟨t0, [.str (brT t), .non], rfl, ?_, by simp only [Reps]; exact ⟨_, _, rfl, by simp only [Rep], _, _, rfl, by simp only [Rep], rfl⟩⟩
      unfold nw
      rw [h00]; exact upd_same
    refine ⟨_, rfl, rfl, _, rfl, ite2 (fun _ => iteT ⟨_, rfl, z2, done⟩) (fun _ => ?_)⟩
    refine ⟨_, rfl, a, dx1, _, rfl, ha1, nM _ _, a, x, Str.ofString "(", i + (brT t).length, rfl, sg1, by decide +kernel, fun _ => ⟨_, rfl, iteT ⟨_, rfl, z2, done⟩⟩, fun e => absurd e (by rw [no_open hd hi bh]; decide)⟩
  · have hx : x.cps.toList.drop i = w0.cps.toList ++ 40 :: ((brT t1).cps.toList ++ rem post ts) := by rw [hd, N.tx]
    obtain ⟨w1, w2, w3, w4⟩ := word_ends hx hi N.fr (.inr ⟨40, _, rfl, rfl⟩)
    have hx1 : x.cps.toList.drop (i + w0.length) = 40 :: ((brT t1).cps.toList ++ rem post ts) := by
      rw [show w0.length = w0.cps.toList.length from (Array.length_toList).symm]; exact drop_on hx
    have hx2 : x.cps.toList.drop (i + w0.length + 1) = (brT t1).cps.toList ++ rem post ts := drop_on (u := [40]) hx1
    have d1 := (N.ok t1 List.mem_cons_self).2
    have lt1 : i + w0.length < x.length := by
      have := congrArg List.length hx1
      rw [List.length_drop, List.length_cons, Array.length_toList] at this
      have e1 : x.length = x.cps.size := rfl
      omega
    refine ⟨_, rfl, a, dx, _, rfl, ha, nN _ _, a, x, i, i + w0.length, rfl, ⟨dx, ha⟩, lx, w1, w2, w3, w4, fun H1 s1 sg1 => ?_⟩
    rw [slice_at hx hi]
    obtain ⟨dx1, ha1⟩ := id sg1
    refine gnm ?_
    refine ⟨_, rfl, rfl, _, rfl, ite2 (fun h => absurd (of_decide_eq_true h) (fun z => by injection z with z; omega)) (fun _ => ?_)⟩
    have so : Txt.startswith3 x (Str.ofString "(") ((i + w0.length : Nat) : Int) = true := by rw [starts_is (by omega) hx1, e40, lb3]; rfl
    refine ⟨_, rfl, a, dx1, _, rfl, ha1, nM _ _, a, x, Str.ofString "(", i + w0.length, rfl, sg1, by decide +kernel, fun e => absurd e (by rw [so]; decide), fun _ H2 s2 sg2 => ⟨_, rfl, iteF ?_⟩⟩
    rw [lb3] at sg2
    refine tnx ?_
    dsimp only
    refine ⟨Nat.zero_le _, fun l hl => ?_⟩
    refine gnm ?_
    dsimp only
    obtain ⟨dx2, ha2⟩ := id sg2
    have s02 := s1.trans s2
    have la : l ≠ a := fun z => by rw [z, ha2] at hl; cases hl
    have old : ∀ b, H2 b = none → b ≠ a → H b = none := fun b hb hba => by
      cases e : H b with
      | none => rfl
      | some o => rw [s02 b o hba e] at hb; cases hb
    have hl0 : H l = none := old l hl la
    have s3 := same_new hl (.lst [])
    have l3 : upd H2 l (.lst []) l = some (.lst []) := upd_same
    have o3 : ∀ b, upd H2 l (.lst []) b = none → H b = none := fun b hb => by
      have h1 : b ≠ l := fun z => by rw [z, upd_same] at hb; cases hb
      rw [upd_ne h1] at hb
      exact old b hb (fun z => by rw [z, ha2] at hb; cases hb)
    have ha3 := s3 _ _ ha2
    generalize upd H2 l (.lst []) = H3 at s3 l3 o3 ha3 ⊢
    have s03 := s02.trans (Same.b a s3)
    have ex : x.length = x.cps.size := rfl
    have dl : ∀ {p : Nat} {u : List Nat}, p ≤ x.length → x.cps.toList.drop p = u → p + u.length = x.length := fun {p u} hp e => by
      have := congrArg List.length e
      rw [List.length_drop, Array.length_toList] at this
      omega
    have nc : Txt.startswith3 x (Str.ofString ")") ((i + w0.length + 1 : Nat) : Int) = false := by
      obtain ⟨d, r, e, ne⟩ := N.hd
      rw [starts_is (by omega) hx2, e41, lb4, e]
      show ([d] == [41]) = false
      rw [beq_eq_false_iff_ne]
      intro z; injection z with z _; exact ne z
    -- one inner branch read
    have rd : ∀ (u : Str ⊕ Kd) (rest : List (Str ⊕ Kd)) (H4 : Hp) (us : List V) (p : Nat) (dxx : Addr) (Z : V → Hp → Prop), u ∈ t1 :: ts → H4 a = some (.ins C dxx [(Str.ofString "text", .str x), (Str.ofString "at", .int (p : Int))]) → p ≤ x.length → x.cps.toList.drop p = (brT u).cps.toList ++ rem post rest → H4 l = some (.lst us) → us.length ≤ 2 →
        (∀ H5 v5 q5, SameB a H4 H5 → Sg C H5 a x q5 → q5 ≤ x.length → x.cps.toList.drop q5 = rem post rest → Rep (nw H4 H5) (brDv u) v5 → Z .non (upd H5 l (.lst (us ++ [v5])))) →
        spBranch C n [.ref a, .int (most - 1)] H4 (fun v H5 => rAppend (.ref l) [v] H5 Z) E0 := fun u rest H4 us p dxx Z hu h4 hp hdp hl4 lus k => by
      obtain ⟨ou, du⟩ := N.ok u hu
      refine ⟨a, x, p, most - 1, u, rem post rest, rfl, ⟨dxx, h4⟩, lx, hp, hdp, bh_rem _ _, ou, by omega, by omega, fun H5 v5 s5 sg5 R5 => ?_⟩
      have hq := dl hp hdp
      rw [List.length_append, Array.length_toList] at hq
      have eb : (brT u).length = (brT u).cps.size := rfl
      refine ⟨l, us, v5, rfl, rfl, s5 _ _ la hl4, by rw [sizeLine_eq]; omega, k H5 v5 _ s5 sg5 (by omega) ?_ R5⟩
      rw [show (brT u).length = (brT u).cps.toList.length from (Array.length_toList).symm]
      exact drop_on hdp
    refine ⟨_, rfl, a, dx2, _, rfl, ha3, nM _ _, a, x, Str.ofString ")", i + w0.length + 1, rfl, ⟨dx2, ha3⟩, by decide +kernel, fun _ => ⟨_, rfl, iteT ?_⟩, fun e => absurd e (by rw [nc]; decide)⟩
    refine ⟨_, rfl, .inl ⟨rfl, _, SqL.of l3⟩, _, rfl, a, dx2, _, rfl, ha3, nB _ _, _, rfl, _, _, rfl, rfl, ?_⟩
    dsimp only [tNil, List.nil_append, List.cons_append, List.append_nil, tCons]
    refine rd t1 ts H3 [] (i + w0.length + 1) dx2 _ List.mem_cons_self ha3 (by omega) hx2 l3 (Nat.zero_le _) fun H4 v4 p4 s4 sg4 hp4 hd4 R4 => ?_
    have wl : ∀ {H' : Hp} {o : HO}, SameB a H H' → SameB a H (upd H' l o) := fun {H' o} s' b ob hb e => by rw [upd_ne (ne_of_none e hl0)]; exact s' b ob hb e
    have sgl : ∀ {H' : Hp} {o : HO} {p : Nat}, Sg C H' a x p → Sg C (upd H' l o) a x p := fun {H' o p} ⟨d, e⟩ => ⟨d, by rw [upd_ne (Ne.symm la)]; exact e⟩
    have nwl : ∀ {H' : Hp} {o : HO}, Same (nw H3 H') (nw H3 (upd H' l o)) := fun {H' o} => nw_to fun b ob hb e => by rw [upd_ne (fun z => by rw [z, l3] at hb; cases hb)]; exact e
    have unl : ∀ {H' : Hp} {o : HO} {b : Addr}, upd H' l o b = none → H' b = none := fun {H' o b} hb => by
      have h1 : b ≠ l := fun z => by rw [z, upd_same] at hb; cases hb
      rwa [upd_ne h1] at hb
    refine ⟨fun m σ H' => ∃ (dn rest : List (Str ⊕ Kd)) (us : List V) (p : Nat), t1 :: ts = dn ++ rest ∧ m = rest.length ∧ σ = [some (.ref a), some (.int most), some (.str w0), some (.ref l)] ∧ SameB a H H' ∧ Sg C H' a x p ∧ p ≤ x.length ∧ x.cps.toList.drop p = rem post rest ∧ H' l = some (.lst us) ∧ Reps (nw H3 H') (dn.map brDv) us ∧ ∀ b, H' b = none → H3 b = none, ⟨_, [t1], ts, [v4], p4, rfl, rfl, rfl, wl (s03.trans s4), sgl sg4, hp4, hd4, upd_same, (reps_one R4).mono nwl, fun b hb => sg_back s4 sg4 (unl hb)⟩, ?_⟩
    rintro m σ H5 ⟨dn, rest, us, p, et, rfl, rfl, s5, sg5, hp5, hd5, l5, R5, k5⟩
    have le := N.le
    have lus : us.length + rest.length ≤ 2 := by
      have := R5.length
      rw [List.length_map] at this
      have e2 := congrArg List.length et
      rw [List.length_cons, List.length_append] at e2
      omega
    obtain ⟨dx5, ha5⟩ := id sg5
    cases rest with
    | nil =>
      have hd5' : x.cps.toList.drop p = 41 :: post := hd5
      have n2 : Txt.startswith3 x (Str.ofString ", ") (p : Int) = false := by
        rw [starts_is hp5 hd5', e44, lsep, beq_eq_false_iff_ne]
        intro z; rw [List.take_succ_cons] at z; injection z with z _; exact absurd z (by decide)
      have y2 : Txt.startswith3 x (Str.ofString ")") (p : Int) = true := by rw [starts_is hp5 hd5', e41, lb4]; rfl
      refine ⟨_, rfl, a, dx5, _, rfl, ha5, nM _ _, a, x, Str.ofString ", ", p, rfl, sg5, by decide +kernel, fun _ => ⟨_, rfl, iteF ?_⟩, fun e => absurd e (by rw [n2]; decide)⟩
      refine ⟨_, rfl, a, dx5, _, rfl, ha5, nM _ _, a, x, Str.ofString ")", p, rfl, sg5, by decide +kernel, fun e => absurd e (by rw [y2]; decide), fun _ H6 s6 sg6 => ?_⟩
      rw [lb4] at sg6
      obtain ⟨dx6, ha6⟩ := id sg6
      refine ⟨_, rfl, _, rfl, z2, fun t0 h0 => ?_⟩
      have l6 := s6 _ _ la l5
      have s56 := s5.trans s6
      have t0a : t0 ≠ a := fun z => by rw [z, ha6] at h0; cases h0
      have h00 : H t0 = none := by
        cases e : H t0 with
        | none => rfl
        | some o => rw [s56 t0 o t0a e] at h0; cases h0
      have s7 := same_new h0 (.tup [.str w0, .ref l])
      have h1 := dl hp5 hd5'
      have h2 := dl hi hd
      rw [List.length_append, Array.length_toList] at h2
      rw [List.length_cons] at h1
      have eb : (brT t).length = (brT t).cps.size := rfl
      have ep : p + 1 = i + (brT t).length := by omega
      refine q _ _ (s56.trans (Same.b a s7)) ⟨dx6, by rw [← ep]; exact s7 _ _ ha6⟩ ?_
      rw [List.append_nil] at et
      have R7 : Reps (nw H (upd H6 t0 (.tup [.str w0, .ref l]))) ((t1 :: ts).map brDv) us := by
        rw [et]
        refine (R5.mono (nw_from o3)).mono (nw_to fun b ob hb e => s7 _ _ (s6 b ob (fun z => by rw [z] at hb; rw [hb] at ha; cases ha) e))
      rw [N.dv, Rep]
      refine ⟨t0, [.str w0, .ref l], rfl, ?_, ?_⟩
      · unfold nw; rw [h00]; exact upd_same
      · simp only [Reps]
        refine ⟨_, _, rfl, by simp only [Rep], _, _, rfl, ?_, rfl⟩
        rw [Rep]
        exact ⟨l, us, rfl, by unfold nw; rw [hl0]; exact s7 _ _ l6, R7⟩
    | cons u rest =>
      have hd5' : x.cps.toList.drop p = [44, 32] ++ ((brT u).cps.toList ++ rem post rest) := hd5
      have y2 : Txt.startswith3 x (Str.ofString ", ") (p : Int) = true := by rw [starts_is hp5 hd5', e44, lsep]; rfl
      refine ⟨_, rfl, a, dx5, _, rfl, ha5, nM _ _, a, x, Str.ofString ", ", p, rfl, sg5, by decide +kernel, fun e => absurd e (by rw [y2]; decide), fun _ H6 s6 sg6 => ⟨_, rfl, iteT ?_⟩⟩
      rw [lsep] at sg6
      obtain ⟨dx6, ha6⟩ := id sg6
      have l6 := s6 _ _ la l5
      have um : u ∈ t1 :: ts := by rw [et]; exact List.mem_append_right _ List.mem_cons_self
      have hd6 : x.cps.toList.drop (p + 2) = (brT u).cps.toList ++ rem post rest := drop_on hd5'
      have hp6 : p + 2 ≤ x.length := by
        have := dl hp5 hd5'
        rw [List.length_append] at this
        simp only [List.length_cons, List.length_nil] at this
        omega
      refine ⟨fun σ' H' => ∃ (dn' rest' : List (Str ⊕ Kd)) (us' : List V) (p' : Nat), t1 :: ts = dn' ++ rest' ∧ rest'.length < (u :: rest).length ∧ σ' = [some (.ref a), some (.int most), some (.str w0), some (.ref l)] ∧ SameB a H H' ∧ Sg C H' a x p' ∧ p' ≤ x.length ∧ x.cps.toList.drop p' = rem post rest' ∧ H' l = some (.lst us') ∧ Reps (nw H3 H') (dn'.map brDv) us' ∧ ∀ b, H' b = none → H3 b = none, fun σ' H' ⟨dn', rest', us', p', h1, h2, h3, h4, h5, h6, h7, h8, h9⟩ => ⟨rest'.length, h2, dn', rest', us', p', h1, rfl, h3, h4, h5, h6, h7, h8, h9⟩, ?_⟩
      rw [List.length_cons] at lus
      refine ⟨_, rfl, .inl ⟨rfl, _, SqL.of l6⟩, _, rfl, a, dx6, _, rfl, ha6, nB _ _, _, rfl, _, _, rfl, rfl, ?_⟩
      dsimp only [tNil, List.nil_append, List.cons_append, List.append_nil, tCons]
      refine rd u rest H6 us (p + 2) dx6 _ um ha6 hp6 hd6 l6 (by omega) fun H7 v7 p7 s7 sg7 hp7 hd7 R7 => ?_
      have keep : ∀ b, H6 b = none → H3 b = none := fun b hb => k5 b (sg_back s6 sg6 hb)
      refine ⟨dn ++ [u], rest, us ++ [v7], p7, by rw [et, List.append_assoc]; rfl, by rw [List.length_cons]; omega, rfl, wl ((s5.trans s6).trans s7), sgl sg7, hp7, hd7, upd_same, ?_, fun b hb => keep b (sg_back s7 sg7 (unl hb))⟩
      rw [List.map_append]
      refine Reps.append ((R5.mono (nw_to fun b ob hb e => s7 b ob (fun z => by rw [z, ha3] at hb; cases hb) (s6 b ob (fun z => by rw [z, ha3] at hb; cases hb) e))).mono nwl) (reps_one ((R7.mono (nw_from keep)).mono nwl))
end
end K61
set_option maxHeartbeats 1000000
namespace K61
open PySem L2 KB
abbrev s_branch_of : Stmt := top 27
abbrev s_kind_of_text : Stmt := top 33
theorem nw_sub {H H' : Hp} : Same (nw H H') H' := fun b o e => by
  unfold nw at e
  split at e
  · exact e
  · cases e
def spBrOf : Sp := fun vs H Q _ => ∃ k : Kd, vs = [.str (kdT k)] ∧ k.All Wa ∧ k.size ≤ 12 ∧ (kdT k).length ≤ 100000 ∧ ∀ H' v, Same H H' → Rep H' (brD k) v → Q v H'
def spKOT : Sp := fun vs H Q _ => ∃ k : Kd, vs = [.str (kdT k)] ∧ k.All Wa ∧ k.size ≤ 12 ∧ (kdT k).length ≤ 100000 ∧ ∀ H' v, Same H H' → Rep H' k.dv v → Q v H'
section
variable {P : Program} {w : World} {K : PySem.W.Frag} {mg : Str → Option Value} {base : Heap}
theorem sc_branch_of : FnScope ["text"] ["text"] (defScope s_branch_of) := ⟨rfl, rfl, rfl, by decide +kernel, rfl, by decide +kernel, by decide +kernel⟩
theorem ok_branch_of {f C g1 g2 : Addr} {fd d1 d2 : FuncData} {k0 : Nat} (F : Fun K "branch_of" "branch_of" s_branch_of f fd) (T : Txt K mg) (cl : Cls K C) (M_Signs : Mk K C g1) (F_Signs : FnOk P w K mg base CX0 k0 g1 d1 ["self", "text"] (spSInit C)) (B_Signs : Binds K d1 ["self", "text"] []) (G_Signs : mg "Signs" = some (.ref C))
    (m_branch : Meth K C "branch" g2) (F_branch : FnOk P w K mg base CX0 (k0 + 1) g2 d2 ["self", "most"] (spBranch C 21)) (b_branch : Binds K d2 ["self", "most"] []) : FnOk P w K mg base CX0 (k0 + 2) f fd ["text"] spBrOf := by
  refine F.ok sc_branch_of (fun vs H Q E h => ?_) (fun cdv A outer s H vs Q E hr h => ?_)
  · obtain ⟨k, rfl, _⟩ := h
    rfl
  obtain ⟨k, rfl, wa, k12, lk, q⟩ := h
  have nB : ∀ (y : Str) (p : Int), List.lookup (Str.ofString "branch") [(Str.ofString "text", V.str y), (Str.ofString "at", V.int p)] = none := lk_no (by decide +kernel) (by decide +kernel)
  refine ⟨_, (@pss_one _ _ _ (@ps_ret _ _ _ _ (@pe_meth _ _ _ _ _ _ _ _ _ _ _ _ _ _ _ _ _ _ _ _ (@pe_make _ _ _ _ _ _ _ _ _ _ _ _ _ _ _ _ _ M_Signs F_Signs hr rfl G_Signs B_Signs .nil pass0 (@pa_cons _ _ _ _ _ (@pv _ 0 _ _ (by rfl) (by first | exact Or.inl rfl | exact Or.inr (Or.inl rfl) | exact Or.inr (Or.inr rfl)) (by decide) (by decide)) (@pa_nil _) (by rfl)) (by decide) (by rfl) (by rfl)) cl m_branch F_branch hr b_branch .nil pass0 (@pa_cons _ _ _ _ _ (T.g_MOST_BRACKETS rfl) (@pa_nil _) (by rfl)) (by rfl) (by rfl) (by rfl)))), ?_⟩
  refine ⟨_, rfl, fun x dx nx ndx nex => ⟨x, dx, kdT k, rfl, upd_same, fun H1 s1 sg1 => ⟨rfl, ?_⟩⟩⟩
  obtain ⟨dx1, ha1⟩ := id sg1
  refine ⟨x, dx1, _, rfl, ha1, nB _ _, x, kdT k, 0, 20, .inr k, [], rfl, sg1, lk, Nat.zero_le _, by rw [List.drop_zero, List.append_nil]; rfl, .inl rfl, wa, by show (k.size : Int) ≤ 20; omega, by decide, fun H2 v s2 sg2 R2 => ?_⟩
  refine q H2 v (fun b o e => ?_) (R2.mono nw_sub)
  have bx : b ≠ x := ne_of_none e nx
  have bd : b ≠ dx := ne_of_none e ndx
  exact s2 b o bx (s1 b o bx (by rw [upd_ne bx, upd_ne bd]; exact e))
theorem sc_kind_of_text : FnScope ["text"] ["text"] (defScope s_kind_of_text) := ⟨rfl, rfl, rfl, by decide +kernel, rfl, by decide +kernel, by decide +kernel⟩
theorem ok_kind_of_text {f : Addr} {fd : FuncData} {k0 : Nat} (F : Fun K "kind_of_text" "kind_of_text" s_kind_of_text f fd) (T : Txt K mg) (Dbranch_of : Def P w K mg base k0 "branch_of" ["text"] spBrOf) (Dkind_in : Def P w K mg base k0 "kind_in" ["branch"] (spKindIn 12)) : FnOk P w K mg base CX0 (k0 + 1) f fd ["text"] spKOT := by
  refine F.ok sc_kind_of_text (fun vs H Q E h => ?_) (fun cdv A outer s H vs Q E hr h => ?_)
  · obtain ⟨k, rfl, _⟩ := h
    rfl
  obtain ⟨k, rfl, wa, k12, lk, q⟩ := h
  refine ⟨_, (@pss_one _ _ _ (@ps_ret _ _ _ _ (@pe_def _ _ _ _ _ _ _ _ _ _ Dkind_in hr rfl (@pa_cons _ _ _ _ _ (@pe_def _ _ _ _ _ _ _ _ _ _ Dbranch_of hr rfl (@pa_cons _ _ _ _ _ (@pv _ 0 _ _ (by rfl) (by first | exact Or.inl rfl | exact Or.inr (Or.inl rfl) | exact Or.inr (Or.inr rfl)) (by decide) (by decide)) (@pa_nil _) (by rfl)) (by decide) (by rfl) (by rfl)) (@pa_nil _) (by rfl)) (by decide) (by rfl) (by rfl)))), ?_⟩
  exact ⟨_, rfl, k, rfl, wa, k12, lk, fun H1 v1 s1 R1 => ⟨v1, k, rfl, R1, k12, wa, fun H2 v2 s2 R2 => q H2 v2 (s1.trans s2) R2⟩⟩
end
end K61
set_option maxHeartbeats 1000000
namespace K61
open PySem L2 KB
abbrev s_just_so : Stmt := top 34
abbrev s_read_length : Stmt := top 35
abbrev s_read_kind : Stmt := top 36
def SL (c : Int) (ps : List Pr) : Prop := slD (lenDv c ps) = true ∧ (lenDv c ps).small = true
theorem go_canon : ∀ {ps : List Pr} {l : Str}, ps.Pairwise (fun p q => p.1.cps.toList < q.1.cps.toList) → (∀ p ∈ ps, 1 ≤ p.2) → (∀ p ∈ ps, nmB p.1 = true) → (∀ p ∈ ps, l.cps.toList < p.1.cps.toList) → goD l (partsDv ps) = true
  | [], _, _, _, _, _ => rfl
  | p :: ps, l, h1, h2, h3, h4 => by
    have e : partsDv (p :: ps) = .tup [.str p.1, .int p.2] :: partsDv ps := rfl
    rw [e, goD]
    have h1' := List.pairwise_cons.mp h1
    show (partD _ && (decide (l.cps.toList < p.1.cps.toList) && goD p.1 (partsDv ps))) = true
    rw [go_canon h1'.2 (fun q hq => h2 q (List.mem_cons_of_mem _ hq)) (fun q hq => h3 q (List.mem_cons_of_mem _ hq)) (fun q hq => h1'.1 q hq)]
    show ((nmB p.1 && (true && decide (1 ≤ p.2))) && (decide (l.cps.toList < p.1.cps.toList) && true)) = true
    rw [h3 p List.mem_cons_self, decide_eq_true (h2 p List.mem_cons_self), decide_eq_true (h4 p List.mem_cons_self)]
    rfl
theorem smalls_parts : ∀ {ps : List Pr}, (∀ p ∈ ps, p.1.cps.size ≤ 8) → smalls (partsDv ps) = true
  | [], _ => rfl
  | p :: ps, h => by
    simp only [partsDv, List.map_cons, smalls, Dv.small, Bool.and_eq_true, decide_eq_true_eq]
    refine ⟨⟨⟨by have := h p List.mem_cons_self; omega, trivial, trivial⟩, by simp⟩, smalls_parts fun q hq => h q (List.mem_cons_of_mem _ hq)⟩
theorem nm_size {x : Str} (h : nmB x = true) : 1 ≤ x.cps.size ∧ x.cps.size ≤ 8 := by
  unfold nmB at h
  simp only [Bool.and_eq_true, decide_eq_true_eq] at h
  exact h.1
theorem empty_lt {x : Str} (h : nmB x = true) : (Str.ofString "").cps.toList < x.cps.toList := by
  have := (nm_size h).1
  have e : (Str.ofString "").cps.toList = [] := by decide +kernel
  rw [e]
  cases hx : x.cps.toList with
  | nil =>
    have : x.cps.toList.length = x.cps.size := by simp
    rw [hx] at this; simp at this; omega
  | cons c cs => exact List.nil_lt_cons c cs
theorem isl_of {c : Int} {ps : List Pr} (h : Wa c ps) : islD (lenDv c ps) = true ∧ (lenDv c ps).small = true := by
  have hn' : ∀ p ∈ ps, nmB p.1 = true := h.2
  constructor
  · show (true && (decide (0 ≤ c) && goD "" (partsDv ps))) = true
    rw [go_canon h.1.can.1 h.1.can.2 hn' (fun p hp => empty_lt (hn' p hp)), decide_eq_true h.1.c0]
    rfl
  · have h8 : ∀ p ∈ ps, p.1.cps.size ≤ 8 := fun p hp => (nm_size (hn' p hp)).2
    have h1 := smalls_parts h8
    have h2 : (Dv.tup (partsDv ps)).small = true := by
      simp only [Dv.small, h1, Bool.true_and]
      exact decide_eq_true (by have := h.1.len; rw [show (partsDv ps).length = ps.length from List.length_map _]; omega)
    show (Dv.tup [.int c, .tup (partsDv ps)]).small = true
    simp only [Dv.small, smalls] at h2 ⊢
    simp only [h2, Bool.true_and, Bool.and_true]
    rfl
def Ws (c : Int) (ps : List Pr) : Prop := Wa c ps ∧ c ≤ 99 ∧ ∀ p ∈ ps, p.2 ≤ 99
theorem sl_of {c : Int} {ps : List Pr} (h : Ws c ps) : SL c ps := by
  refine ⟨?_, (isl_of h.1).2⟩
  show (islD (lenDv c ps) && (decide (c ≤ 99) && (partsDv ps).all fun p => decide (timesD p ≤ 99))) = true
  rw [(isl_of h.1).1, decide_eq_true h.2.1]
  rw [show ((partsDv ps).all fun p => decide (timesD p ≤ 99)) = true by
    rw [List.all_eq_true]
    intro d hd
    obtain ⟨p, hp, rfl⟩ := List.mem_map.mp hd
    exact decide_eq_true (h.2.2 p hp)]
  rfl
theorem All.imp {A B : Int → List Pr → Prop} (h : ∀ c ps, A c ps → B c ps) : ∀ {k : Kd}, k.All A → k.All B
  | .whole, _ => trivial
  | .place _ _, z => h _ _ z
  | .row _ _ _, z => ⟨h _ _ z.1, All.imp h z.2⟩
  | .pair _ _, z => ⟨All.imp h z.1, All.imp h z.2⟩
theorem tup_small {ds : List Dv} (h : ∀ d ∈ ds, d.small = true) (hl : ds.length ≤ 1000) : (Dv.tup ds).small = true := by
  have : ∀ ds : List Dv, (∀ d ∈ ds, d.small = true) → smalls ds = true := by
    intro ds
    induction ds with
    | nil => intro _; rfl
    | cons d ds ih => intro h; simp only [smalls, Bool.and_eq_true]; exact ⟨h d List.mem_cons_self, ih fun e he => h e (List.mem_cons_of_mem _ he)⟩
  simp only [Dv.small, this ds h, Bool.true_and]
  exact decide_eq_true hl
theorem kd_small : ∀ {k : Kd}, k.All SL → k.dv.small = true
  | .whole, _ => by decide +kernel
  | .place c ps, h => tup_small (fun d hd => by
      rcases List.mem_cons.mp hd with rfl | hd
      · decide +kernel
      · rw [List.mem_singleton.mp hd]; exact h.2) (by show 2 ≤ 1000; decide)
  | .row c ps k, h => tup_small (fun d hd => by
      rcases List.mem_cons.mp hd with rfl | hd
      · decide +kernel
      · rcases List.mem_cons.mp hd with rfl | hd
        · exact h.1.2
        · rw [List.mem_singleton.mp hd]; exact kd_small h.2) (by show 3 ≤ 1000; decide)
  | .pair i j, h => tup_small (fun d hd => by
      rcases List.mem_cons.mp hd with rfl | hd
      · decide +kernel
      · rcases List.mem_cons.mp hd with rfl | hd
        · exact kd_small h.1
        · rw [List.mem_singleton.mp hd]; exact kd_small h.2) (by show 3 ≤ 1000; decide)
theorem s_r0 {x : Str} : sizeD (.tup [.str x]) = if x = "whole" then 1 else 99 := by rw [sizeD]
theorem s_r1 {x : Str} {l : Dv} : sizeD (.tup [.str x, l]) = if x = "place" ∧ slD l = true then 1 else 99 := by rw [sizeD]
theorem s_r2 {x : Str} {a b : Dv} : sizeD (.tup [.str x, a, b]) = if x = "pair" then 1 + sizeD a + sizeD b else if x = "row" ∧ slD a = true then 1 + sizeD b else 99 := by rw [sizeD]
theorem kd_size : ∀ {k : Kd}, k.All SL → sizeD k.dv = k.size
  | .whole, _ => by show sizeD (.tup [.str "whole"]) = 1; rw [s_r0, if_pos rfl]
  | .place c ps, h => by show sizeD (.tup [.str "place", lenDv c ps]) = 1; rw [s_r1, if_pos ⟨rfl, h.1⟩]
  | .row c ps k, h => by show sizeD (.tup [.str "row", lenDv c ps, k.dv]) = k.size + 1; rw [s_r2, if_neg w6, if_pos ⟨rfl, h.1.1⟩, kd_size h.2]; omega
  | .pair i j, h => by show sizeD (.tup [.str "pair", i.dv, j.dv]) = i.size + j.size + 1; rw [s_r2, if_pos rfl, kd_size h.1, kd_size h.2]; omega
def spRd (W : Dv → Str → Prop) : Sp := fun vs H Q _ => ∃ (x : Str) (d : Dv), vs = [.str x] ∧ W d x ∧ ∀ H' v, Same H H' → Rep H' d v → Q v H'
def spIs (W : Dv → Str → Prop) : Sp := fun vs H Q _ => ∃ (v : V) (x : Str) (d : Dv), vs = [v] ∧ Rep H d v ∧ W d x ∧ ∀ H', Same H H' → Q (.bl true) H'
def spSw (W : Dv → Str → Prop) : Sp := fun vs H Q _ => ∃ (v : V) (x : Str) (d : Dv), vs = [v] ∧ Rep H d v ∧ W d x ∧ ∀ H', Same H H' → Q (.str x) H'
def spJust (fr fi fs : Addr) (W : Dv → Str → Prop) : Sp := fun vs H Q _ => ∃ (x : Str) (d : Dv) (p : V), vs = [.str x, .ref fr, .ref fi, .ref fs, p] ∧ W d x ∧ ∀ H' v, Same H H' → Rep H' d v → Q v H'
def WL (d : Dv) (x : Str) : Prop := ∃ c ps, d = lenDv c ps ∧ x = lenT c ps ∧ Wa c ps
def WK (d : Dv) (x : Str) : Prop := ∃ k : Kd, d = k.dv ∧ x = kdT k ∧ k.All Ws ∧ k.size ≤ 12
theorem wl_rd (vs : List V) (H : Hp) (Q : VK) (E : XK) (h : spRd WL vs H Q E) : spLenOf vs H Q E := by
  obtain ⟨x, d, rfl, ⟨c, ps, rfl, rfl, wa⟩, q⟩ := h
  exact ⟨c, ps, rfl, wa.1, wa.2, q⟩
theorem wl_is (vs : List V) (H : Hp) (Q : VK) (E : XK) (h : spIs WL vs H Q E) : spS islD vs H Q E := by
  obtain ⟨v, x, d, rfl, R, ⟨c, ps, rfl, rfl, wa⟩, q⟩ := h
  refine ⟨v, _, rfl, R, (isl_of wa).2, fun H' s => ?_⟩
  rw [(isl_of wa).1]
  exact q H' s
theorem wl_sw (vs : List V) (H : Hp) (Q : VK) (E : XK) (h : spSw WL vs H Q E) : spShL vs H Q E := by
  obtain ⟨v, x, d, rfl, R, ⟨c, ps, rfl, rfl, wa⟩, q⟩ := h
  exact ⟨v, c, ps, rfl, R, wa.1, q⟩
theorem wk_wa {k : Kd} (h : k.All Ws) : k.All Wa := All.imp (fun _ _ z => z.1) h
theorem wk_wr {k : Kd} (h : k.All Ws) : k.All Wr := All.imp (fun _ _ z => z.1.1) h
theorem wk_rd (vs : List V) (H : Hp) (Q : VK) (E : XK) (h : spRd WK vs H Q E) : spKOT vs H Q E := by
  obtain ⟨x, d, rfl, ⟨k, rfl, rfl, wa, k12⟩, q⟩ := h
  have := kdT_len (wk_wr wa)
  exact ⟨k, rfl, wk_wa wa, k12, by omega, q⟩
theorem wk_is (vs : List V) (H : Hp) (Q : VK) (E : XK) (h : spIs WK vs H Q E) : spIsKind vs H Q E := by
  obtain ⟨v, x, d, rfl, R, ⟨k, rfl, rfl, wa, k12⟩, q⟩ := h
  have sl : k.All SL := All.imp (fun _ _ z => sl_of z) wa
  refine ⟨v, _, rfl, R, kd_small sl, fun H' s => ?_⟩
  show Q (.bl (decide (sizeD k.dv ≤ 12))) H'
  rw [kd_size sl, decide_eq_true k12]
  exact q H' s
theorem wk_sw (vs : List V) (H : Hp) (Q : VK) (E : XK) (h : spSw WK vs H Q E) : spShK 12 vs H Q E := by
  obtain ⟨v, x, d, rfl, R, ⟨k, rfl, rfl, wa, k12⟩, q⟩ := h
  exact ⟨v, k, rfl, R, k12, Nat.le_refl _, wk_wr wa, q⟩
section
variable {P : Program} {w : World} {K : PySem.W.Frag} {mg : Str → Option Value} {base : Heap}
theorem sc_just_so : FnScope ["text", "reader", "is_one", "shower", "place", "thing"] ["text", "reader", "is_one", "shower", "place"] (defScope s_just_so) := ⟨rfl, rfl, rfl, by decide +kernel, rfl, by decide +kernel, by decide +kernel⟩
theorem ok_just_so {f fr fi fs : Addr} {fd dr di ds : FuncData} {pr pi pz : List Str} {k0 : Nat} {W : Dv → Str → Prop} (F : Fun K "just_so" "just_so" s_just_so f fd) (T : Txt K mg) (FV_reader : FnOk P w K mg base CX0 k0 fr dr pr (spRd W)) (KV_reader : PySem.W.keepIn K (.ref fr) = true) (BV_reader : Binds K dr pr [])
    (FV_is_one : FnOk P w K mg base CX0 k0 fi di pi (spIs W)) (KV_is_one : PySem.W.keepIn K (.ref fi) = true) (BV_is_one : Binds K di pi []) (FV_shower : FnOk P w K mg base CX0 k0 fs ds pz (spSw W)) (KV_shower : PySem.W.keepIn K (.ref fs) = true) (BV_shower : Binds K ds pz []) :
    FnOk P w K mg base CX0 (k0 + 1) f fd ["text", "reader", "is_one", "shower", "place"] (spJust fr fi fs W) := by
  have nd : (["text", "reader", "is_one", "shower", "place", "thing"] : List Str).Nodup := sc_just_so.nd
  refine F.ok sc_just_so (fun vs H Q E h => ?_) (fun cdv A outer s H vs Q E hr h => ?_)
  · obtain ⟨x, d, p, rfl, _⟩ := h
    rfl
  obtain ⟨x, d, p, rfl, hw, q⟩ := h
  refine ⟨_, (@pss_cons _ _ _ _ _ (@ps_if _ _ _ _ _ _ _ _ (@pt_val _ _ _ (@pe_callB _ _ _ _ _ _ _ _ _ call_isi rfl T.isinstance (by decide +kernel) (@pa_cons _ _ _ _ _ (@pv _ 0 _ _ (by rfl) (by first | exact Or.inl rfl | exact Or.inr (Or.inl rfl) | exact Or.inr (Or.inr rfl)) (by decide) (by decide)) (@pa_cons _ _ _ _ _ (@pe_bltn _ _ (.ty "str") _ _ rfl T.str (by decide +kernel) rfl (by decide) (by decide)) (@pa_nil _) (by rfl)) (by rfl)) (by decide) (by decide) (by rfl) (by rfl)) (by intro _; rfl)) (@pss_cons _ _ _ _ _ (@ps_set _ _ (5) _ _ _ _ nd rfl (Or.inl rfl) (@pe_callV _ _ _ _ _ _ _ _ _ _ _ _ 1 FV_reader hr KV_reader BV_reader (@pa_cons _ _ _ _ _ (@pv _ 0 _ _ (by rfl) (by first | exact Or.inl rfl | exact Or.inr (Or.inl rfl) | exact Or.inr (Or.inr rfl)) (by decide) (by decide)) (@pa_nil _) (by rfl)) (by rfl) (by first | exact Or.inl rfl | exact Or.inr (Or.inl rfl) | exact Or.inr (Or.inr rfl)) (by decide) (by decide) (by rfl) (by rfl)) (by rfl) (by first | exact .inl rfl | exact .inr rfl | assumption)) (@pss_one _ _ _ (@ps_if _ _ _ _ _ _ _ _ (@PW.pt _ _ _ (@pw_and _ _ _ _ _ _ _ (@pt_val _ _ _ (@pe_callV _ _ _ _ _ _ _ _ _ _ _ _ 2 FV_is_one hr KV_is_one BV_is_one (@pa_cons _ _ _ _ _ (@pv _ 5 _ _ (by rfl) (by first | exact Or.inl rfl | exact Or.inr (Or.inl rfl) | exact Or.inr (Or.inr rfl)) (by decide) (by decide)) (@pa_nil _) (by rfl)) (by rfl) (by first | exact Or.inl rfl | exact Or.inr (Or.inl rfl) | exact Or.inr (Or.inr rfl)) (by decide) (by decide) (by rfl) (by rfl)) (by intro _; rfl)) (@pw_and1 _ _ _ _ (@pt_cmpR _ _ _ _ _ _ _ _ op_eq (@pe_callV _ _ _ _ _ _ _ _ _ _ _ _ 3 FV_shower hr KV_shower BV_shower (@pa_cons _ _ _ _ _ (@pv _ 5 _ _ (by rfl) (by first | exact Or.inl rfl | exact Or.inr (Or.inl rfl) | exact Or.inr (Or.inr rfl)) (by decide) (by decide)) (@pa_nil _) (by rfl)) (by rfl) (by first | exact Or.inl rfl | exact Or.inr (Or.inl rfl) | exact Or.inr (Or.inr rfl)) (by decide) (by decide) (by rfl) (by rfl)) (@pv _ 0 _ _ (by rfl) (by first | exact Or.inl rfl | exact Or.inr (Or.inl rfl) | exact Or.inr (Or.inr rfl)) (by decide) (by decide)) (nomark _))))) (@pss_one _ _ _ (@ps_ret _ _ _ _ (@pv _ 5 _ _ (by rfl) (by first | exact Or.inl rfl | exact Or.inr (Or.inl rfl) | exact Or.inr (Or.inr rfl)) (by decide) (by decide)))) (@pss_nil _)))) (@pss_nil _)) (@pss_one _ _ _ (@ps_dead _ _))), ?_⟩
  refine ⟨_, rfl, _, _, _, _, rfl, TyOf.str x, kit_str K (.str x), ?_⟩
  rw [t_ss]
  refine ⟨_, rfl, iteT ?_⟩
  refine ⟨rfl, _, rfl, x, d, rfl, hw, fun H1 v1 s1 R1 => ?_⟩
  refine gnm ?_
  refine ⟨rfl, _, rfl, v1, x, d, rfl, R1, hw, fun H2 s2 => ⟨_, rfl, iteT ?_⟩⟩
  refine ⟨rfl, _, rfl, v1, x, d, rfl, R1.mono s2, hw, fun H3 s3 => ⟨_, rfl, rfl, _, rfl, ite2 (fun _ => ?_) (fun h => absurd (decide_eq_true rfl) h)⟩⟩
  exact ⟨_, rfl, q H3 v1 (s1.trans (s2.trans s3)) (R1.mono (s2.trans s3))⟩
theorem sc_read_length : FnScope ["text"] ["text"] (defScope s_read_length) := ⟨rfl, rfl, rfl, by decide +kernel, rfl, by decide +kernel, by decide +kernel⟩
theorem ok_read_length {f flength_of fis_length fshow_length : Addr} {fd : FuncData} {k0 : Nat} (F : Fun K "read_length" "read_length" s_read_length f fd) (T : Txt K mg) (Djust_so : Def P w K mg base k0 "just_so" ["text", "reader", "is_one", "shower", "place"] (spJust flength_of fis_length fshow_length WL)) (Glength_of : mg "length_of" = some (.ref flength_of)) (Gis_length : mg "is_length" = some (.ref fis_length)) (Gshow_length : mg "show_length" = some (.ref fshow_length)) : FnOk P w K mg base CX0 (k0 + 1) f fd ["text"] (spRd WL) := by
  refine F.ok sc_read_length (fun vs H Q E h => ?_) (fun cdv A outer s H vs Q E hr h => ?_)
  · obtain ⟨x, d, rfl, _⟩ := h
    rfl
  obtain ⟨x, d, rfl, hw, q⟩ := h
  refine ⟨_, (@pss_one _ _ _ (@ps_ret _ _ _ _ (@pe_def _ _ _ _ _ _ _ _ _ _ Djust_so hr rfl (@pa_cons _ _ _ _ _ (@pv _ 0 _ _ (by rfl) (by first | exact Or.inl rfl | exact Or.inr (Or.inl rfl) | exact Or.inr (Or.inr rfl)) (by decide) (by decide)) (@pa_cons _ _ _ _ _ (@pe_glob _ _ (.ref flength_of) _ _ rfl Glength_of rfl (by decide)) (@pa_cons _ _ _ _ _ (@pe_glob _ _ (.ref fis_length) _ _ rfl Gis_length rfl (by decide)) (@pa_cons _ _ _ _ _ (@pe_glob _ _ (.ref fshow_length) _ _ rfl Gshow_length rfl (by decide)) (@pa_cons _ _ _ _ _ (@pe_tup _ _ _ _ _ (@pa_cons _ _ _ _ _ (@pe_int _ _ _ _) (@pa_cons _ _ _ _ _ (@pe_int _ _ _ _) (@pa_nil _) (by rfl)) (by rfl))) (@pa_nil _) (by rfl)) (by rfl)) (by rfl)) (by rfl)) (by rfl)) (by decide) (by rfl) (by rfl)))), ?_⟩
  exact ⟨_, rfl, z2, fun t ht => ⟨x, d, .ref t, rfl, hw, fun H1 v s1 R1 => q H1 v ((same_new ht _).trans s1) R1⟩⟩
theorem sc_read_kind : FnScope ["text"] ["text"] (defScope s_read_kind) := ⟨rfl, rfl, rfl, by decide +kernel, rfl, by decide +kernel, by decide +kernel⟩
theorem ok_read_kind {f fkind_of_text fis_kind fshow_kind : Addr} {fd : FuncData} {k0 : Nat} (F : Fun K "read_kind" "read_kind" s_read_kind f fd) (T : Txt K mg) (Djust_so : Def P w K mg base k0 "just_so" ["text", "reader", "is_one", "shower", "place"] (spJust fkind_of_text fis_kind fshow_kind WK)) (Gkind_of_text : mg "kind_of_text" = some (.ref fkind_of_text)) (Gis_kind : mg "is_kind" = some (.ref fis_kind)) (Gshow_kind : mg "show_kind" = some (.ref fshow_kind)) : FnOk P w K mg base CX0 (k0 + 1) f fd ["text"] (spRd WK) := by
  refine F.ok sc_read_kind (fun vs H Q E h => ?_) (fun cdv A outer s H vs Q E hr h => ?_)
  · obtain ⟨x, d, rfl, _⟩ := h
    rfl
  obtain ⟨x, d, rfl, hw, q⟩ := h
  refine ⟨_, (@pss_one _ _ _ (@ps_ret _ _ _ _ (@pe_def _ _ _ _ _ _ _ _ _ _ Djust_so hr rfl (@pa_cons _ _ _ _ _ (@pv _ 0 _ _ (by rfl) (by first | exact Or.inl rfl | exact Or.inr (Or.inl rfl) | exact Or.inr (Or.inr rfl)) (by decide) (by decide)) (@pa_cons _ _ _ _ _ (@pe_glob _ _ (.ref fkind_of_text) _ _ rfl Gkind_of_text rfl (by decide)) (@pa_cons _ _ _ _ _ (@pe_glob _ _ (.ref fis_kind) _ _ rfl Gis_kind rfl (by decide)) (@pa_cons _ _ _ _ _ (@pe_glob _ _ (.ref fshow_kind) _ _ rfl Gshow_kind rfl (by decide)) (@pa_cons _ _ _ _ _ (@pe_tup _ _ _ _ _ (@pa_cons _ _ _ _ _ (@pe_int _ _ _ _) (@pa_cons _ _ _ _ _ (@pe_int _ _ _ _) (@pa_nil _) (by rfl)) (by rfl))) (@pa_nil _) (by rfl)) (by rfl)) (by rfl)) (by rfl)) (by rfl)) (by decide) (by rfl) (by rfl)))), ?_⟩
  exact ⟨_, rfl, z2, fun t ht => ⟨x, d, .ref t, rfl, hw, fun H1 v s1 R1 => q H1 v ((same_new ht _).trans s1) R1⟩⟩
end
end K61
set_option maxHeartbeats 1000000
namespace K61
open PySem L2 KB
abbrev s_lright : Stmt := top 46
abbrev s_kright : Stmt := top 47
theorem Ak.up {n m : Nat} {d : Dv} (h : Ak n d) : n ≤ m → Ak m d := by
  induction h generalizing m with
  | int => intro hm; obtain ⟨k, rfl⟩ : ∃ k, m = k + 1 := ⟨m - 1, by omega⟩; exact .int
  | str => intro hm; obtain ⟨k, rfl⟩ : ∃ k, m = k + 1 := ⟨m - 1, by omega⟩; exact .str
  | tup l _ ih =>
    intro hm
    obtain ⟨k, rfl⟩ : ∃ k, m = k + 1 := ⟨m - 1, by omega⟩
    exact .tup l fun d hd => ih d hd (by omega)
theorem ak_len {c : Int} {ps : List Pr} (h : ps.length ≤ 21) : Ak 4 (lenDv c ps) := by
  refine .tup (by show 2 ≤ 30; decide) fun d hd => ?_
  rcases List.mem_cons.mp hd with rfl | hd
  · exact .int
  rw [List.mem_singleton.mp hd]
  refine .tup (by rw [show (partsDv ps).length = ps.length from List.length_map _]; omega) fun e he => ?_
  obtain ⟨p, hp, rfl⟩ := List.mem_map.mp he
  refine .tup (by show 2 ≤ 30; decide) fun g hg => ?_
  rcases List.mem_cons.mp hg with rfl | hg
  · exact .str
  rw [List.mem_singleton.mp hg]
  exact .int
theorem ak_kd : ∀ {k : Kd}, k.All Wr → Ak (k.size + 4) k.dv
  | .whole, _ => .tup (by show 1 ≤ 30; decide) fun d hd => by rw [List.mem_singleton.mp hd]; exact .str
  | .place c ps, h => .tup (by show 2 ≤ 30; decide) fun d hd => by
      rcases List.mem_cons.mp hd with rfl | hd
      · exact .str
      · rw [List.mem_singleton.mp hd]; exact ak_len h.len
  | .row c ps k, h => .tup (by show 3 ≤ 30; decide) fun d hd => by
      have kp := k.size_pos
      rcases List.mem_cons.mp hd with rfl | hd
      · exact .str
      · rcases List.mem_cons.mp hd with rfl | hd
        · exact (ak_len h.1.len).up (by show 4 ≤ k.size + 4; omega)
        · rw [List.mem_singleton.mp hd]; exact (ak_kd h.2).up (Nat.le_refl _)
  | .pair i j, h => .tup (by show 3 ≤ 30; decide) fun d hd => by
      rcases List.mem_cons.mp hd with rfl | hd
      · exact .str
      · rcases List.mem_cons.mp hd with rfl | hd
        · exact (ak_kd h.1).up (by show i.size + 4 ≤ i.size + j.size + 4; omega)
        · rw [List.mem_singleton.mp hd]; exact (ak_kd h.2).up (by show j.size + 4 ≤ i.size + j.size + 4; omega)
theorem kd_tup (k : Kd) : ∃ ds, k.dv = .tup ds := by cases k <;> exact ⟨_, rfl⟩
def spLR : Sp := fun vs H Q _ => ∃ (v : V) (c : Int) (ps : List Pr), vs = [v] ∧ Rep H (lenDv c ps) v ∧ Wa c ps ∧ ∀ H', Same H H' → Q (.bl true) H'
def spKR : Sp := fun vs H Q _ => ∃ (v : V) (k : Kd), vs = [v] ∧ Rep H k.dv v ∧ k.All Ws ∧ k.size ≤ 12 ∧ ∀ H', Same H H' → Q (.bl true) H'
section
variable {P : Program} {w : World} {K : PySem.W.Frag} {mg : Str → Option Value} {base : Heap}
theorem sc_lright : FnScope ["_law_length_here", "_law_text", "_law_found"] ["_law_length_here"] (defScope s_lright) := ⟨rfl, rfl, rfl, by decide +kernel, rfl, by decide +kernel, by decide +kernel⟩
theorem ok_lright {f : Addr} {fd : FuncData} {k0 : Nat} (F : Fun K "_law_length_right" "_law_length_right" s_lright f fd) (T : Txt K mg) (D_law_length_text : Def P w K mg base k0 "_law_length_text" ["_law_length_here"] spShL) (Dshow_length : Def P w K mg base k0 "show_length" ["a"] spShL)
    (D_law_alike : Def P w K mg base k0 "_law_alike" ["_law_found", "_law_due"] (spAlike 16)) (Dread_length : Def P w K mg base k0 "read_length" ["text"] (spRd WL)) : FnOk P w K mg base CX0 (k0 + 1) f fd ["_law_length_here"] spLR := by
  have nd : (["_law_length_here", "_law_text", "_law_found"] : List Str).Nodup := sc_lright.nd
  refine F.ok sc_lright (fun vs H Q E h => ?_) (fun cdv A outer s H vs Q E hr h => ?_)
  · obtain ⟨v, c, ps, rfl, _⟩ := h
    rfl
  obtain ⟨v, c, ps, rfl, R, wa, q⟩ := h
  have hu := hu150_of hr
  have ak := (ak_len (c := c) wa.1.len).up (show 4 ≤ 16 by decide)
  have hw : WL (lenDv c ps) (lenT c ps) := ⟨c, ps, rfl, rfl, wa⟩
  refine ⟨_, (@pss_cons _ _ _ _ _ (@ps_set _ _ (1) _ _ _ _ nd rfl (Or.inl rfl) (@pe_def _ _ _ _ _ _ _ _ _ _ D_law_length_text hr rfl (@pa_cons _ _ _ _ _ (@pv _ 0 _ _ (by rfl) (by first | exact Or.inl rfl | exact Or.inr (Or.inl rfl) | exact Or.inr (Or.inr rfl)) (by decide) (by decide)) (@pa_nil _) (by rfl)) (by decide) (by rfl) (by rfl)) (by rfl) (by first | exact .inl rfl | exact .inr rfl | assumption)) (@pss_cons _ _ _ _ _ (@ps_set _ _ (2) _ _ _ _ nd rfl (Or.inl rfl) (@pe_def _ _ _ _ _ _ _ _ _ _ Dshow_length hr rfl (@pa_cons _ _ _ _ _ (@pv _ 0 _ _ (by rfl) (by first | exact Or.inl rfl | exact Or.inr (Or.inl rfl) | exact Or.inr (Or.inr rfl)) (by decide) (by decide)) (@pa_nil _) (by rfl)) (by decide) (by rfl) (by rfl)) (by rfl) (by first | exact .inl rfl | exact .inr rfl | assumption)) (@pss_cons _ _ _ _ _ (@ps_if _ _ _ _ _ _ _ _ (@PW.pt _ _ _ (@pw_or _ _ _ _ _ _ _ (@pt_not _ _ _ _ (@pt_val _ _ _ (@pe_callB _ _ _ _ _ _ _ _ _ call_isi rfl T.isinstance (by decide +kernel) (@pa_cons _ _ _ _ _ (@pv _ 2 _ _ (by rfl) (by first | exact Or.inl rfl | exact Or.inr (Or.inl rfl) | exact Or.inr (Or.inr rfl)) (by decide) (by decide)) (@pa_cons _ _ _ _ _ (@pe_bltn _ _ (.ty "str") _ _ rfl T.str (by decide +kernel) rfl (by decide) (by decide)) (@pa_nil _) (by rfl)) (by rfl)) (by decide) (by decide) (by rfl) (by rfl)) (by intro _; rfl))) (@pw_or _ _ _ _ _ _ _ (@pt_cmpR _ _ _ _ _ _ _ _ op_ne (@pv _ 2 _ _ (by rfl) (by first | exact Or.inl rfl | exact Or.inr (Or.inl rfl) | exact Or.inr (Or.inr rfl)) (by decide) (by decide)) (@pv _ 1 _ _ (by rfl) (by first | exact Or.inl rfl | exact Or.inr (Or.inl rfl) | exact Or.inr (Or.inr rfl)) (by decide) (by decide)) (nomark _)) (@pw_or1 _ _ _ _ (@pt_not _ _ _ _ (@pt_val _ _ _ (@pe_def _ _ _ _ _ _ _ _ _ _ D_law_alike hr rfl (@pa_cons _ _ _ _ _ (@pe_def _ _ _ _ _ _ _ _ _ _ Dread_length hr rfl (@pa_cons _ _ _ _ _ (@pv _ 1 _ _ (by rfl) (by first | exact Or.inl rfl | exact Or.inr (Or.inl rfl) | exact Or.inr (Or.inr rfl)) (by decide) (by decide)) (@pa_nil _) (by rfl)) (by decide) (by rfl) (by rfl)) (@pa_cons _ _ _ _ _ (@pv _ 0 _ _ (by rfl) (by first | exact Or.inl rfl | exact Or.inr (Or.inl rfl) | exact Or.inr (Or.inr rfl)) (by decide) (by decide)) (@pa_nil _) (by rfl)) (by rfl)) (by decide) (by rfl) (by rfl)) (by intro _; rfl))))))) (@pss_one _ _ _ (@ps_ret _ _ _ _ (@pe_bl _ _ _ _))) (@pss_nil _)) (@pss_one _ _ _ (@ps_ret _ _ _ _ (@pe_cmpR _ _ _ _ _ _ _ _ (op_eqU hu) (@pe_def _ _ _ _ _ _ _ _ _ _ Dread_length hr rfl (@pa_cons _ _ _ _ _ (@pv _ 1 _ _ (by rfl) (by first | exact Or.inl rfl | exact Or.inr (Or.inl rfl) | exact Or.inr (Or.inr rfl)) (by decide) (by decide)) (@pa_nil _) (by rfl)) (by decide) (by rfl) (by rfl)) (@pv _ 0 _ _ (by rfl) (by first | exact Or.inl rfl | exact Or.inr (Or.inl rfl) | exact Or.inr (Or.inr rfl)) (by decide) (by decide)) (nomark _))))))), ?_⟩
  refine ⟨_, rfl, v, c, ps, rfl, R, wa.1, fun H1 s1 => ?_⟩
  refine gnm ?_
  refine ⟨_, rfl, v, c, ps, rfl, R.mono s1, wa.1, fun H2 s2 => ?_⟩
  refine gnm ?_
  have s02 := s1.trans s2
  refine ⟨_, rfl, _, _, _, _, rfl, TyOf.str (lenT c ps), kit_str K (.str (lenT c ps)), _, rfl, ?_⟩
  rw [t_ss]
  refine iteF ?_
  refine ⟨_, rfl, _, rfl, rfl, _, rfl, ?_⟩
  rw [decide_eq_true rfl]
  refine iteF ?_
  refine ⟨_, rfl, _, _, rfl, hw, fun H3 v3 s3 R3 => ⟨_, rfl, v3, v, _, rfl, R3, R.mono (s02.trans s3), ak, fun H4 s4 => ⟨_, rfl, iteF ?_⟩⟩⟩
  refine ⟨_, rfl, _, _, rfl, hw, fun H5 v5 s5 R5 => ?_⟩
  have s05 := s02.trans (s3.trans (s4.trans s5))
  refine ⟨_, rfl, .inr ⟨3, _, _, pl_len c ps, pl_len c ps, by decide, R5, R.mono s05, fun b hb => ?_⟩⟩
  rw [hb.mpr rfl]
  exact q H5 s05
theorem sc_kright : FnScope ["_law_kind_here", "_law_text", "_law_found"] ["_law_kind_here"] (defScope s_kright) := ⟨rfl, rfl, rfl, by decide +kernel, rfl, by decide +kernel, by decide +kernel⟩
theorem ok_kright {f : Addr} {fd : FuncData} {k0 : Nat} (F : Fun K "_law_kind_right" "_law_kind_right" s_kright f fd) (T : Txt K mg) (D_law_kind_text : Def P w K mg base k0 "_law_kind_text" ["_law_kind_here"] (spShK 12)) (Dshow_kind : Def P w K mg base k0 "show_kind" ["kind"] (spShK 12))
    (D_law_alike : Def P w K mg base k0 "_law_alike" ["_law_found", "_law_due"] (spAlike 16)) (Dread_kind : Def P w K mg base k0 "read_kind" ["text"] (spRd WK)) : FnOk P w K mg base CX0 (k0 + 1) f fd ["_law_kind_here"] spKR := by
  have nd : (["_law_kind_here", "_law_text", "_law_found"] : List Str).Nodup := sc_kright.nd
  refine F.ok sc_kright (fun vs H Q E h => ?_) (fun cdv A outer s H vs Q E hr h => ?_)
  · obtain ⟨v, k, rfl, _⟩ := h
    rfl
  obtain ⟨v, k, rfl, R, ws, k12, q⟩ := h
  have hu := hu150_of hr
  have wr := wk_wr ws
  have ak := (ak_kd wr).up (show k.size + 4 ≤ 16 by omega)
  have hw : WK k.dv (kdT k) := ⟨k, rfl, rfl, ws, k12⟩
  obtain ⟨ds, eds⟩ := kd_tup k
  have plk := k.pl
  refine ⟨_, (@pss_cons _ _ _ _ _ (@ps_set _ _ (1) _ _ _ _ nd rfl (Or.inl rfl) (@pe_def _ _ _ _ _ _ _ _ _ _ D_law_kind_text hr rfl (@pa_cons _ _ _ _ _ (@pv _ 0 _ _ (by rfl) (by first | exact Or.inl rfl | exact Or.inr (Or.inl rfl) | exact Or.inr (Or.inr rfl)) (by decide) (by decide)) (@pa_nil _) (by rfl)) (by decide) (by rfl) (by rfl)) (by rfl) (by first | exact .inl rfl | exact .inr rfl | assumption)) (@pss_cons _ _ _ _ _ (@ps_set _ _ (2) _ _ _ _ nd rfl (Or.inl rfl) (@pe_def _ _ _ _ _ _ _ _ _ _ Dshow_kind hr rfl (@pa_cons _ _ _ _ _ (@pv _ 0 _ _ (by rfl) (by first | exact Or.inl rfl | exact Or.inr (Or.inl rfl) | exact Or.inr (Or.inr rfl)) (by decide) (by decide)) (@pa_nil _) (by rfl)) (by decide) (by rfl) (by rfl)) (by rfl) (by first | exact .inl rfl | exact .inr rfl | assumption)) (@pss_one _ _ _ (@ps_ret _ _ _ _ (@pe_and _ _ _ _ _ _ _ (@pe_callB _ _ _ _ _ _ _ _ _ call_isi rfl T.isinstance (by decide +kernel) (@pa_cons _ _ _ _ _ (@pv _ 2 _ _ (by rfl) (by first | exact Or.inl rfl | exact Or.inr (Or.inl rfl) | exact Or.inr (Or.inr rfl)) (by decide) (by decide)) (@pa_cons _ _ _ _ _ (@pe_bltn _ _ (.ty "str") _ _ rfl T.str (by decide +kernel) rfl (by decide) (by decide)) (@pa_nil _) (by rfl)) (by rfl)) (by decide) (by decide) (by rfl) (by rfl)) (@pe_and _ _ _ _ _ _ _ (@pe_cmpR _ _ _ _ _ _ _ _ (op_eqU hu) (@pv _ 2 _ _ (by rfl) (by first | exact Or.inl rfl | exact Or.inr (Or.inl rfl) | exact Or.inr (Or.inr rfl)) (by decide) (by decide)) (@pv _ 1 _ _ (by rfl) (by first | exact Or.inl rfl | exact Or.inr (Or.inl rfl) | exact Or.inr (Or.inr rfl)) (by decide) (by decide)) (nomark _)) (@pe_and _ _ _ _ _ _ _ (@pe_def _ _ _ _ _ _ _ _ _ _ D_law_alike hr rfl (@pa_cons _ _ _ _ _ (@pe_def _ _ _ _ _ _ _ _ _ _ Dread_kind hr rfl (@pa_cons _ _ _ _ _ (@pv _ 1 _ _ (by rfl) (by first | exact Or.inl rfl | exact Or.inr (Or.inl rfl) | exact Or.inr (Or.inr rfl)) (by decide) (by decide)) (@pa_nil _) (by rfl)) (by decide) (by rfl) (by rfl)) (@pa_cons _ _ _ _ _ (@pv _ 0 _ _ (by rfl) (by first | exact Or.inl rfl | exact Or.inr (Or.inl rfl) | exact Or.inr (Or.inr rfl)) (by decide) (by decide)) (@pa_nil _) (by rfl)) (by rfl)) (by decide) (by rfl) (by rfl)) (@pe_one _ _ _ _ _ (@pe_cmpR _ _ _ _ _ _ _ _ (op_eqU hu) (@pe_def _ _ _ _ _ _ _ _ _ _ Dread_kind hr rfl (@pa_cons _ _ _ _ _ (@pv _ 1 _ _ (by rfl) (by first | exact Or.inl rfl | exact Or.inr (Or.inl rfl) | exact Or.inr (Or.inr rfl)) (by decide) (by decide)) (@pa_nil _) (by rfl)) (by decide) (by rfl) (by rfl)) (@pv _ 0 _ _ (by rfl) (by first | exact Or.inl rfl | exact Or.inr (Or.inl rfl) | exact Or.inr (Or.inr rfl)) (by decide) (by decide)) (nomark _)))))))))), ?_⟩
  refine ⟨_, rfl, v, k, rfl, R, k12, Nat.le_refl _, wr, fun H1 s1 => ?_⟩
  refine gnm ?_
  refine ⟨_, rfl, v, k, rfl, R.mono s1, k12, Nat.le_refl _, wr, fun H2 s2 => ?_⟩
  refine gnm ?_
  have s02 := s1.trans s2
  refine ⟨_, rfl, _, _, _, _, rfl, TyOf.str (kdT k), kit_str K (.str (kdT k)), _, rfl, ?_⟩
  rw [t_ss]
  refine iteT ?_
  refine ⟨_, rfl, _, rfl, .inl ⟨rfl, _, rfl, ?_⟩⟩
  rw [decide_eq_true rfl]
  refine iteT ?_
  refine ⟨_, rfl, _, _, rfl, hw, fun H3 v3 s3 R3 => ⟨_, rfl, v3, v, _, rfl, R3, R.mono (s02.trans s3), ak, fun H4 s4 => ⟨_, rfl, iteT ?_⟩⟩⟩
  refine ⟨_, rfl, _, _, rfl, hw, fun H5 v5 s5 R5 => ?_⟩
  have s05 := s02.trans (s3.trans (s4.trans s5))
  have R6 := R.mono s05
  rw [eds] at R5 R6 plk
  refine ⟨_, rfl, .inr ⟨_, _, _, plk, plk, by omega, R5, R6, fun b hb => ?_⟩⟩
  rw [hb.mpr rfl]
  exact q H5 s05
end
end K61
set_option maxHeartbeats 1000000
namespace K61
open PySem L2 KB
abbrev s_law : Stmt := top 48
def spLaw (K : PySem.W.Frag) : Sp := fun vs H Q _ => ∃ (a : Addr) (ns : List Int), vs = [.ref a] ∧ SqL K H a (ns.map V.int) ∧ ns.length ≤ 63 ∧ ∀ H', Q (.bl true) H'
theorem lc_enum {k : Nat} {ix : List Nat} {g : TG} {tt : TT} {te : TE} {σ : St} {H1 : Hp} {Q : List V → Hp → Prop} {K : PySem.W.Frag} {a : Addr} {xs : List V} (Pv : Nat → List V → Hp → Prop) (h0 : Pv 0 [] H1) (hl : ∀ i zs H, Pv i zs H → SqL K H a xs)
    (hs : ∀ i zs H x p, xs[i]? = some x → Pv i zs H → H p = none → lcTurn k ix g tt te σ (.ref p) zs (upd H p (.tup [.int i, x])) (Pv (i + 1))) (hd : ∀ zs H, Pv xs.length zs H → Q zs H) : rLC (Ite K a) k ix g tt te σ H1 Q := by
  refine lc_by (n := xs.length) Pv h0 (fun i zs H h p => ?_) (fun zs H p => ?_) (fun i zs H x H' h p y => ?_) hd
  · exact ⟨xs, xs[i], hl i zs H p, by simp [h]⟩
  · exact ⟨xs, hl _ zs H p, Nat.le_refl _⟩
  · obtain ⟨c, x', hb, e1, e2, hx⟩ := y
    subst e1 e2
    exact hs i zs H x' c (hx xs (hl i zs H p)) p hb
theorem pick3 {i : Int} (h0 : 0 ≤ i) (h1 : i < 3) : ∃ n : Int, atI ([V.int 99, V.int 99, V.int (10 ^ 60 - 1)] : List V) i = some (.int n) ∧ 99 ≤ n ∧ n < 10 ^ 60 := by
  have e : i = 0 ∨ i = 1 ∨ i = 2 := by omega
  rcases e with rfl | rfl | rfl
  · exact ⟨99, atI_nat (j := 0) rfl, by decide⟩
  · exact ⟨99, atI_nat (j := 1) rfl, by decide⟩
  · exact ⟨10 ^ 60 - 1, atI_nat (j := 2) rfl, by decide⟩
theorem cut_two (xs : List Str) (i d : Int) (h0 : 0 ≤ i) (h1 : 0 ≤ d) : ∃ ys : List Str, cutV (xs.map V.str) (some i) (some (i + d)) = ys.map V.str ∧ (∀ y ∈ ys, y ∈ xs) ∧ (ys.length : Int) ≤ d := by
  refine ⟨(xs.drop (HT.sIx (xs.map V.str).length 0 (some i))).take (HT.sIx (xs.map V.str).length (xs.map V.str).length (some (i + d)) - HT.sIx (xs.map V.str).length 0 (some i)), by unfold cutV; rw [List.map_take, List.map_drop], fun y hy => List.mem_of_mem_drop (List.mem_of_mem_take hy), ?_⟩
  rw [List.length_take]
  unfold HT.sIx
  simp only [List.length_map, List.length_drop]
  split <;> (try split) <;> omega
theorem wa_of {xs : List Str} {m c : Int} {ps : List Pr} (h : Ln xs m c ps) (hm : m < 10 ^ 60) (hn : ∀ x ∈ xs, nmB x = true) : Wa c ps :=
  ⟨⟨h.can, h.c0, by have := h.cB; omega, by have := h.len; omega, fun p hp => ⟨by have := (h.nm p hp).2; omega, (nm_size (hn _ (h.nm p hp).1)).2⟩⟩, fun p hp => hn _ (h.nm p hp).1⟩
section
variable {P : Program} {w : World} {K : PySem.W.Frag} {mg : Str → Option Value} {base : Heap}
theorem sc_law : FnScope ["_law_script", "_law_names_here", "_law_k", "_law_state_here", "_law_at", "_law_most"] ["_law_script"] (defScope s_law) := ⟨rfl, rfl, rfl, by decide +kernel, rfl, by decide +kernel, by decide +kernel⟩
theorem ok_law {f : Addr} {fd : FuncData} {k0 : Nat} (F : Fun K "law" "law" s_law f fd) (T : Txt K mg) (D_law_state : Def P w K mg base k0 "_law_state" ["_law_script", "_law_k"] (spState K)) (D_law_names : Def P w K mg base k0 "_law_names" ["_law_state_here", "_law_many"] spNames) (D_law_draw : Def P w K mg base k0 "_law_draw" ["_law_state_here", "_law_many"] spDraw)
    (D_law_length : Def P w K mg base k0 "_law_length" ["_law_state_here", "_law_names_here", "_law_most"] spLength) (D_law_kind : Def P w K mg base k0 "_law_kind" ["_law_state_here", "_law_names_here", "_law_room"] (spKind 12)) (D_law_length_right : Def P w K mg base k0 "_law_length_right" ["_law_length_here"] spLR) (D_law_kind_right : Def P w K mg base k0 "_law_kind_right" ["_law_kind_here"] spKR) :
    FnOk P w K mg base CX0 (k0 + 1) f fd ["_law_script"] (spLaw K) := by
  have nd : (["_law_script", "_law_names_here", "_law_k", "_law_state_here", "_law_at", "_law_most"] : List Str).Nodup := sc_law.nd
  refine F.ok sc_law (fun vs H Q E h => ?_) (fun cdv A outer s H vs Q E hr h => ?_)
  · obtain ⟨a, ns, rfl, _⟩ := h
    rfl
  obtain ⟨sc, ns, rfl, hS, h63, q⟩ := h
  have p60 : CPow 10 60 := ⟨by decide, by decide, by decide⟩
  refine ⟨_, (@pss_cons _ _ _ _ _ (@ps_set _ _ (1) _ _ _ _ nd rfl (Or.inl rfl) (@pe_def _ _ _ _ _ _ _ _ _ _ D_law_names hr rfl (@pa_cons _ _ _ _ _ (@pe_def _ _ _ _ _ _ _ _ _ _ D_law_state hr rfl (@pa_cons _ _ _ _ _ (@pv _ 0 _ _ (by rfl) (by first | exact Or.inl rfl | exact Or.inr (Or.inl rfl) | exact Or.inr (Or.inr rfl)) (by decide) (by decide)) (@pa_cons _ _ _ _ _ (@pe_int _ _ _ _) (@pa_nil _) (by rfl)) (by rfl)) (by decide) (by rfl) (by rfl)) (@pa_cons _ _ _ _ _ (@pe_int _ _ _ _) (@pa_nil _) (by rfl)) (by rfl)) (by decide) (by rfl) (by rfl)) (by rfl) (by first | exact .inl rfl | exact .inr rfl | assumption)) (@pss_cons _ _ _ _ _ (@ps_if _ _ _ _ _ _ _ _ (@pt_not _ _ _ _ (@pt_val _ _ _ (@pe_def _ _ _ _ _ _ _ _ _ _ D_law_length_right hr rfl (@pa_cons _ _ _ _ _ (@pe_tup _ _ _ _ _ (@pa_cons _ _ _ _ _ (@pe_int _ _ _ _) (@pa_cons _ _ _ _ _ (@pe_callTy _ _ _ _ _ _ _ _ _ call_tuple_of rfl T.tuple (by decide +kernel) (@pa_cons _ _ _ _ _ (@pe_lc _ _ (["_law_k", "_law_name"]) ([]) _ _ _ _ _ _ _ _ _ (@pi_enum _ _ _ _ _ _ _ _ rfl T.enumerate (@pa_cons _ _ _ _ _ (@pe_callB _ _ _ _ _ _ _ _ _ call_sortedL rfl T.sorted (by decide +kernel) (@pa_cons _ _ _ _ _ (@pv _ 1 _ _ (by rfl) (by first | exact Or.inl rfl | exact Or.inr (Or.inl rfl) | exact Or.inr (Or.inr rfl)) (by decide) (by decide)) (@pa_nil _) (by rfl)) (by decide) (by decide) (by rfl) (by rfl)) (@pa_nil _) (by rfl)) (by rfl)) (.of rfl) rfl (fun _ _ _ => pg_tup rfl (@pgs_cons _ _ _ _ _ (@pg_name _ _ (0) _ (lc_nd (l := ["_law_k", "_law_name"]) ((by decide +kernel)) rfl) rfl (Or.inl rfl) (by first | exact .inl rfl | exact .inr rfl | assumption)) (@pgs_cons _ _ _ _ _ (@pg_name _ _ (1) _ (lc_nd (l := ["_law_k", "_law_name"]) ((by decide +kernel)) rfl) rfl (Or.inl rfl) (by first | exact .inl rfl | exact .inr rfl | assumption)) (@pgs_nil _) (by rfl)) (by rfl))) (gw_two (by decide) (by decide)) (fun _ _ _ => (@pif_nil _)) (fun _ _ _ => (@pe_tup _ _ _ _ _ (@pa_cons _ _ _ _ _ (@pv _ 1 _ _ (by rfl) (by first | exact Or.inl rfl | exact Or.inr (Or.inl rfl) | exact Or.inr (Or.inr rfl)) (by decide) (by decide)) (@pa_cons _ _ _ _ _ (@pe_op _ _ _ _ _ _ _ _ op_add (@pe_int _ _ _ _) (@pe_op _ _ _ _ _ _ _ _ op_mod (@pe_op _ _ _ _ _ _ _ _ op_mul (@pv _ 0 _ _ (by rfl) (by first | exact Or.inl rfl | exact Or.inr (Or.inl rfl) | exact Or.inr (Or.inr rfl)) (by decide) (by decide)) (@pe_int _ _ _ _)) (@pe_int _ _ _ _))) (@pa_nil _) (by rfl)) (by rfl)))) (by intro _; rfl)) (@pa_nil _) (by rfl)) (by decide) (by decide) (by rfl) (by rfl)) (@pa_nil _) (by rfl)) (by rfl))) (@pa_nil _) (by rfl)) (by decide) (by rfl) (by rfl)) (by intro _; rfl))) (@pss_one _ _ _ (@ps_ret _ _ _ _ (@pe_bl _ _ _ _))) (@pss_nil _)) (@pss_cons _ _ _ _ _ (@ps_for _ _ _ _ _ _ _ _ PassesOwn.never rfl (@pi_range2 _ _ _ _ _ _ _ rfl T.range (@pa_cons _ _ _ _ _ (@pe_int _ _ _ _) (@pa_cons _ _ _ _ _ (@pe_callB _ _ _ _ _ _ _ _ _ (call_max2 rfl) rfl T.max (by decide +kernel) (@pa_cons _ _ _ _ _ (@pe_int _ _ _ _) (@pa_cons _ _ _ _ _ (@pe_callB _ _ _ _ _ _ _ _ _ (call_min2 rfl) rfl T.min (by decide +kernel) (@pa_cons _ _ _ _ _ (@pe_int _ _ _ _) (@pa_cons _ _ _ _ _ (@pe_callB _ _ _ _ _ _ _ _ _ call_len_seq rfl T.len (by decide +kernel) (@pa_cons _ _ _ _ _ (@pv _ 0 _ _ (by rfl) (by first | exact Or.inl rfl | exact Or.inr (Or.inl rfl) | exact Or.inr (Or.inr rfl)) (by decide) (by decide)) (@pa_nil _) (by rfl)) (by decide) (by decide) (by rfl) (by rfl)) (@pa_nil _) (by rfl)) (by rfl)) (by decide) (by decide) (by rfl) (by rfl)) (@pa_nil _) (by rfl)) (by rfl)) (by decide) (by decide) (by rfl) (by rfl)) (@pa_nil _) (by rfl)) (by rfl)) (by rfl) (by rfl)) (@pg_name _ _ (2) _ nd rfl (Or.inl rfl) (by first | exact .inl rfl | exact .inr rfl | assumption)) (@pss_cons _ _ _ _ _ (@ps_set _ _ (3) _ _ _ _ nd rfl (Or.inl rfl) (@pe_def _ _ _ _ _ _ _ _ _ _ D_law_state hr rfl (@pa_cons _ _ _ _ _ (@pv _ 0 _ _ (by rfl) (by first | exact Or.inl rfl | exact Or.inr (Or.inl rfl) | exact Or.inr (Or.inr rfl)) (by decide) (by decide)) (@pa_cons _ _ _ _ _ (@pv _ 2 _ _ (by rfl) (by first | exact Or.inl rfl | exact Or.inr (Or.inl rfl) | exact Or.inr (Or.inr rfl)) (by decide) (by decide)) (@pa_nil _) (by rfl)) (by rfl)) (by decide) (by rfl) (by rfl)) (by rfl) (by first | exact .inl rfl | exact .inr rfl | assumption)) (@pss_cons _ _ _ _ _ (@ps_set _ _ (4) _ _ _ _ nd rfl (Or.inl rfl) (@pe_def _ _ _ _ _ _ _ _ _ _ D_law_draw hr rfl (@pa_cons _ _ _ _ _ (@pv _ 3 _ _ (by rfl) (by first | exact Or.inl rfl | exact Or.inr (Or.inl rfl) | exact Or.inr (Or.inr rfl)) (by decide) (by decide)) (@pa_cons _ _ _ _ _ (@pe_int _ _ _ _) (@pa_nil _) (by rfl)) (by rfl)) (by decide) (by rfl) (by rfl)) (by rfl) (by first | exact .inl rfl | exact .inr rfl | assumption)) (@pss_cons _ _ _ _ _ (@ps_set _ _ (5) _ _ _ _ nd rfl (Or.inl rfl) (@pe_ix _ _ _ _ _ _ _ ix_list (@pe_lst _ _ _ _ (@pa_cons _ _ _ _ _ (@pe_int _ _ _ _) (@pa_cons _ _ _ _ _ (@pe_int _ _ _ _) (@pa_cons _ _ _ _ _ (@pe_op _ _ _ _ _ _ _ _ op_sub (@pe_op _ _ _ _ _ _ _ _ op_pow (@pe_int _ _ _ _) (@pe_int _ _ _ _)) (@pe_int _ _ _ _)) (@pa_nil _) (by rfl)) (by rfl)) (by rfl))) (@pe_def _ _ _ _ _ _ _ _ _ _ D_law_draw hr rfl (@pa_cons _ _ _ _ _ (@pv _ 3 _ _ (by rfl) (by first | exact Or.inl rfl | exact Or.inr (Or.inl rfl) | exact Or.inr (Or.inr rfl)) (by decide) (by decide)) (@pa_cons _ _ _ _ _ (@pe_int _ _ _ _) (@pa_nil _) (by rfl)) (by rfl)) (by decide) (by rfl) (by rfl)) (fun _ _ => rfl)) (by rfl) (by first | exact .inl rfl | exact .inr rfl | assumption)) (@pss_one _ _ _ (@ps_if _ _ _ _ _ _ _ _ (@pt_not _ _ _ _ (@pt_val _ _ _ (@pe_def _ _ _ _ _ _ _ _ _ _ D_law_length_right hr rfl (@pa_cons _ _ _ _ _ (@pe_def _ _ _ _ _ _ _ _ _ _ D_law_length hr rfl (@pa_cons _ _ _ _ _ (@pv _ 3 _ _ (by rfl) (by first | exact Or.inl rfl | exact Or.inr (Or.inl rfl) | exact Or.inr (Or.inr rfl)) (by decide) (by decide)) (@pa_cons _ _ _ _ _ (@pe_slice _ _ _ _ _ _ _ _ _ _ sl_list (@pv _ 1 _ _ (by rfl) (by first | exact Or.inl rfl | exact Or.inr (Or.inl rfl) | exact Or.inr (Or.inr rfl)) (by decide) (by decide)) (@po_some _ _ _ (@pv _ 4 _ _ (by rfl) (by first | exact Or.inl rfl | exact Or.inr (Or.inl rfl) | exact Or.inr (Or.inr rfl)) (by decide) (by decide))) (@po_some _ _ _ (@pe_op _ _ _ _ _ _ _ _ op_add (@pv _ 4 _ _ (by rfl) (by first | exact Or.inl rfl | exact Or.inr (Or.inl rfl) | exact Or.inr (Or.inr rfl)) (by decide) (by decide)) (@pe_def _ _ _ _ _ _ _ _ _ _ D_law_draw hr rfl (@pa_cons _ _ _ _ _ (@pv _ 3 _ _ (by rfl) (by first | exact Or.inl rfl | exact Or.inr (Or.inl rfl) | exact Or.inr (Or.inr rfl)) (by decide) (by decide)) (@pa_cons _ _ _ _ _ (@pe_int _ _ _ _) (@pa_nil _) (by rfl)) (by rfl)) (by decide) (by rfl) (by rfl))))) (@pa_cons _ _ _ _ _ (@pv _ 5 _ _ (by rfl) (by first | exact Or.inl rfl | exact Or.inr (Or.inl rfl) | exact Or.inr (Or.inr rfl)) (by decide) (by decide)) (@pa_nil _) (by rfl)) (by rfl)) (by rfl)) (by decide) (by rfl) (by rfl)) (@pa_nil _) (by rfl)) (by decide) (by rfl) (by rfl)) (by intro _; rfl))) (@pss_one _ _ _ (@ps_ret _ _ _ _ (@pe_bl _ _ _ _))) (@pss_nil _)))))) (by intro _; rfl)) (@pss_cons _ _ _ _ _ (@ps_for _ _ _ _ _ _ _ _ PassesOwn.never rfl (@pi_range2 _ _ _ _ _ _ _ rfl T.range (@pa_cons _ _ _ _ _ (@pe_int _ _ _ _) (@pa_cons _ _ _ _ _ (@pe_callB _ _ _ _ _ _ _ _ _ (call_max2 rfl) rfl T.max (by decide +kernel) (@pa_cons _ _ _ _ _ (@pe_int _ _ _ _) (@pa_cons _ _ _ _ _ (@pe_callB _ _ _ _ _ _ _ _ _ (call_min2 rfl) rfl T.min (by decide +kernel) (@pa_cons _ _ _ _ _ (@pe_int _ _ _ _) (@pa_cons _ _ _ _ _ (@pe_callB _ _ _ _ _ _ _ _ _ call_len_seq rfl T.len (by decide +kernel) (@pa_cons _ _ _ _ _ (@pv _ 0 _ _ (by rfl) (by first | exact Or.inl rfl | exact Or.inr (Or.inl rfl) | exact Or.inr (Or.inr rfl)) (by decide) (by decide)) (@pa_nil _) (by rfl)) (by decide) (by decide) (by rfl) (by rfl)) (@pa_nil _) (by rfl)) (by rfl)) (by decide) (by decide) (by rfl) (by rfl)) (@pa_nil _) (by rfl)) (by rfl)) (by decide) (by decide) (by rfl) (by rfl)) (@pa_nil _) (by rfl)) (by rfl)) (by rfl) (by rfl)) (@pg_name _ _ (2) _ nd rfl (Or.inl rfl) (by first | exact .inl rfl | exact .inr rfl | assumption)) (@pss_one _ _ _ (@ps_if _ _ _ _ _ _ _ _ (@pt_not _ _ _ _ (@pt_val _ _ _ (@pe_def _ _ _ _ _ _ _ _ _ _ D_law_kind_right hr rfl (@pa_cons _ _ _ _ _ (@pe_def _ _ _ _ _ _ _ _ _ _ D_law_kind hr rfl (@pa_cons _ _ _ _ _ (@pe_def _ _ _ _ _ _ _ _ _ _ D_law_state hr rfl (@pa_cons _ _ _ _ _ (@pv _ 0 _ _ (by rfl) (by first | exact Or.inl rfl | exact Or.inr (Or.inl rfl) | exact Or.inr (Or.inr rfl)) (by decide) (by decide)) (@pa_cons _ _ _ _ _ (@pv _ 2 _ _ (by rfl) (by first | exact Or.inl rfl | exact Or.inr (Or.inl rfl) | exact Or.inr (Or.inr rfl)) (by decide) (by decide)) (@pa_nil _) (by rfl)) (by rfl)) (by decide) (by rfl) (by rfl)) (@pa_cons _ _ _ _ _ (@pe_slice _ _ _ _ _ _ _ _ _ _ sl_list (@pv _ 1 _ _ (by rfl) (by first | exact Or.inl rfl | exact Or.inr (Or.inl rfl) | exact Or.inr (Or.inr rfl)) (by decide) (by decide)) (@po_none _) (@po_some _ _ _ (@pe_int _ _ _ _))) (@pa_cons _ _ _ _ _ (@pe_int _ _ _ _) (@pa_nil _) (by rfl)) (by rfl)) (by rfl)) (by decide) (by rfl) (by rfl)) (@pa_nil _) (by rfl)) (by decide) (by rfl) (by rfl)) (by intro _; rfl))) (@pss_one _ _ _ (@ps_ret _ _ _ _ (@pe_bl _ _ _ _))) (@pss_nil _))) (by intro _; rfl)) (@pss_one _ _ _ (@ps_ret _ _ _ _ (@pe_bl _ _ _ _))))))), ?_⟩
  refine ⟨_, rfl, sc, ns, 0, rfl, hS, by decide, fun H1 a s1 ha st1 => ?_⟩
  refine ⟨a, 21, rfl, st1, by decide, fun H2 r xs s2 st2 hrn hr2 lx hnm hnd => ?_⟩
  have s02 : Same H H2 := SameB.same ha s1 s2
  refine gnm ?_
  -- all names
  refine ⟨_, rfl, r, xs, rfl, hr2, hnd, by omega, fun l1 qs hl1 hp hs => ?_⟩
  have q3 := same_new hl1 (.lst (qs.map V.str))
  have l3 : upd H2 l1 (.lst (qs.map V.str)) l1 = some (.lst (qs.map V.str)) := upd_same
  generalize upd H2 l1 (.lst (qs.map V.str)) = H3 at q3 l3 ⊢
  have lq : qs.length = 21 := by rw [hp.length_eq, lx]
  refine ⟨l1, rfl, ⟨_, SqL.of l3⟩, lc_enum (xs := qs.map V.str) (fun i zs H' => Same H3 H' ∧ ∃ ps : List Pr, ps.map (·.1) = qs.take i ∧ Reps H' (partsDv ps) zs ∧ ∀ p ∈ ps, 1 ≤ p.2 ∧ p.2 ≤ 5) ⟨Same.refl _, [], by simp, by simp [partsDv, Reps], by simp⟩ (fun i zs H' p => SqL.of (p.1 _ _ l3)) ?_ ?_⟩
  · rintro i zs H4 x p hx ⟨s4, ps, e4, R4, b4⟩ hpn
    rw [List.getElem?_map] at hx
    obtain ⟨y, hy, rfl⟩ := Option.map_eq_some_iff.mp hx
    have hi : i < qs.length := (List.getElem?_eq_some_iff.mp hy).1
    have s5 := same_new hpn (.tup [.int i, .str y])
    obtain ⟨m0, m1⟩ := mod_lt (a := (i : Int) * 7) 5 (by decide)
    have lz := R4.length
    have lp := congrArg List.length e4
    rw [List.length_map, List.length_take] at lp
    rw [show (partsDv ps).length = ps.length from List.length_map _] at lz
    refine turn_two upd_same ⟨_, rfl, _, rfl, _, _, rfl, rfl, .inl ⟨by omega, by omega⟩, _, _, rfl, rfl, (by show (0 : Int) < 5; decide), _, _, rfl, rfl, z2, fun t ht => ⟨by rw [sizeLine_eq]; omega, s4.trans (s5.trans (same_new ht _)), ps ++ [(y, 1 + (i : Int) * 7 % 5)], ?_, ?_, fun u hu => ?_⟩⟩
    · rw [List.map_append, e4, List.take_add_one, hy]; rfl
    · rw [show partsDv (ps ++ [(y, 1 + (i : Int) * 7 % 5)]) = partsDv ps ++ partsDv [(y, 1 + (i : Int) * 7 % 5)] from List.map_append]
      refine Reps.append (R4.mono (s5.trans (same_new ht _))) (reps_one ?_)
      rw [Rep]
      exact ⟨t, _, rfl, upd_same, by simp only [Reps]; exact ⟨_, _, rfl, by simp only [Rep], _, _, rfl, by simp only [Rep], rfl⟩⟩
    · rcases List.mem_append.mp hu with h | h
      · exact b4 u h
      · rw [List.mem_singleton.mp h]; show 1 ≤ 1 + (i : Int) * 7 % 5 ∧ 1 + (i : Int) * 7 % 5 ≤ 5; omega
  rintro zs H4 ⟨s4, ps, e4, R4, b4⟩ l5 hl5
  rw [List.length_map, List.take_length] at e4
  have s5 := same_new hl5 (.lst zs)
  refine ⟨l5, _, rfl, .inl ⟨SqL.of upd_same, fun t ht => ⟨z2, fun m hm => ?_⟩⟩⟩
  have s6 := same_new ht (.tup zs)
  have s7 := same_new hm (.tup [.int 0, .ref t])
  have s57 := s5.trans (s6.trans s7)
  have pm : ∀ p ∈ ps, nmB p.1 = true := fun p hpp => hnm _ (hp.mem_iff.mp (by rw [← e4]; exact List.mem_map_of_mem hpp))
  have lps : ps.length = 21 := by have := congrArg List.length e4; rw [List.length_map, lq] at this; exact this
  have wa : Wa 0 ps := by
    refine ⟨⟨⟨?_, fun p hpp => (b4 p hpp).1⟩, by decide, by decide, by omega, fun p hpp => ⟨?_, (nm_size (pm p hpp)).2⟩⟩, pm⟩
    · rw [← e4, List.pairwise_map] at hs
      exact hs
    · have := (b4 p hpp).2
      exact Int.lt_of_le_of_lt this (by decide)
  refine ⟨.ref m, 0, ps, rfl, len_rep upd_same (s7 _ _ upd_same) (R4.mono s57), wa, fun H8 s8 => ⟨_, rfl, iteF ?_⟩⟩
  have s28 : Same H2 H8 := q3.trans (s4.trans (s57.trans s8))
  have r8 := s28 _ _ hr2
  have s08 := s02.trans s28
  clear s28 s57 s7 s6 s5 R4 hm ht hl5 l3 q3 hl1 s4
  refine ⟨_, rfl, sc, _, rfl, .inl (s08.seq hS), _, _, rfl, _, _, rfl, 1, _, rfl, ⟨by decide, by decide, ?B1, ?B2⟩, for_range (lo := 1) (fun i σ H' => ∃ o1 o2 o3 o4 : Option V, σ = [some (.ref sc), some (.ref r), o1, o2, o3, o4] ∧ Same H8 H') ⟨_, _, _, _, rfl, Same.refl _⟩ ?T1 ?_⟩
  case B1 => split <;> (try split) <;> omega
  case B2 =>
    rw [List.length_map]
    split <;> (try split) <;> omega
  case T1 =>
    rintro i σ H3 hi ⟨o1, o2, o3, o4, rfl, s3⟩
    refine gnm ?_
    refine ⟨_, rfl, _, rfl, sc, ns, _, rfl, (s08.trans s3).seq hS, by omega, fun H4 b s4 hb st4 => ?_⟩
    refine gnm ?_
    have s34 : Same H3 H4 := s4
    have rb : r ≠ b := ne_of_none (s3 _ _ r8) hb
    refine ⟨_, rfl, b, 13, rfl, st4, by decide, by decide, fun H5 x s5 st5 x0 x13 => ?_⟩
    refine gnm ?_
    refine ⟨_, _, rfl, rfl, p60, _, _, rfl, rfl, z3, fun l hl => ?_⟩
    have s6 := same_new hl (.lst [.int 99, .int 99, .int (10 ^ 60 - 1)])
    have l6 : upd H5 l (.lst [.int 99, .int 99, .int (10 ^ 60 - 1)]) l = some (.lst [.int 99, .int 99, .int (10 ^ 60 - 1)]) := upd_same
    have st6 := st5.m s6
    have lb : l ≠ b := fun z => by obtain ⟨n, u, e⟩ := st5; rw [z, e] at hl; cases hl
    refine ⟨_, rfl, b, 3, rfl, st6, by decide, by decide, fun H7 y s7 st7 y0 y3 => ?_⟩
    obtain ⟨n, hn, n9, n60⟩ := pick3 y0 y3
    refine ⟨l, _, y, _, rfl, rfl, SqL.of (s7 _ _ lb l6), hn, ?_⟩
    refine gnm ?_
    have s47 : SameB b H4 H7 := s5.trans ((Same.b b s6).trans s7)
    refine ⟨_, rfl, _, rfl, _, rfl, _, rfl, _, rfl, _, rfl, b, 10, rfl, st7, by decide, by decide, fun H9 d s9 st9 d0 d10 => ?_⟩
    have s49 := s47.trans s9
    have r9 := s49 _ _ rb (s4 _ _ (s3 _ _ r8))
    obtain ⟨ys, ey, my, ly⟩ := cut_two xs x d x0 d0
    refine ⟨_, _, rfl, rfl, _, rfl, r, _, rfl, SqL.of r9, fun c hc => ?_⟩
    rw [ey]
    have s10 := same_new hc (.lst (ys.map V.str))
    have cb : c ≠ b := fun z => by obtain ⟨n, u, e⟩ := st9; rw [z, e] at hc; cases hc
    refine ⟨_, rfl, b, c, n, ys, rfl, st9.m s10, upd_same, cb, by omega, by omega, by omega, fun H11 v c' ps' s11 st11 R11 ln => ?_⟩
    refine ⟨v, c', ps', rfl, R11, wa_of ln n60 fun y hy => hnm y (my y hy), fun H12 s12 => ⟨_, rfl, iteF ?_⟩⟩
    exact ⟨_, _, _, _, rfl, s3.trans ((SameB.same hb s4 (s49.trans ((Same.b b s10).trans s11))).trans s12)⟩
  rintro σ H3 ⟨o1, o2, o3, o4, rfl, s3⟩
  have s03 := s08.trans s3
  have r3 := s3 _ _ r8
  refine ⟨_, rfl, sc, _, rfl, .inl (s03.seq hS), _, _, rfl, _, _, rfl, 31, _, rfl, ⟨by decide, by decide, ?C1, ?C2⟩, for_range (lo := 31) (fun i σ H' => ∃ o1 o2 o3 o4 : Option V, σ = [some (.ref sc), some (.ref r), o1, o2, o3, o4] ∧ Same H3 H') ⟨_, _, _, _, rfl, Same.refl _⟩ ?T2 ?_⟩
  case C1 => split <;> (try split) <;> omega
  case C2 =>
    rw [List.length_map]
    split <;> (try split) <;> omega
  case T2 =>
    rintro i σ H4 hi ⟨p1, p2, p3, p4, rfl, s4⟩
    refine gnm ?_
    refine ⟨_, rfl, _, rfl, sc, ns, _, rfl, (s03.trans s4).seq hS, by omega, fun H5 b s5 hb st5 => ?_⟩
    have r5 := s5 _ _ (s4 _ _ r3)
    refine ⟨_, rfl, _, rfl, r, _, rfl, SqL.of r5, fun c hc => ?_⟩
    have ec : cutV (xs.map V.str) none (some 4) = (xs.take 4).map V.str := by rw [List.map_take]; exact cut_to (xs.map V.str) 4 (by rw [List.length_map]; omega)
    rw [ec]
    have s6 := same_new hc (.lst ((xs.take 4).map V.str))
    have cb : c ≠ b := fun z => by obtain ⟨n, u, e⟩ := st5; rw [z, e] at hc; cases hc
    refine ⟨b, c, 12, xs.take 4, rfl, by decide, by decide, by decide, st5.m s6, upd_same, cb, by rw [List.length_take]; omega, fun H7 v k s7 st7 R7 kA k12 => ?_⟩
    have ws : k.All Ws := All.imp (fun c ps ln => ⟨wa_of ln (by decide) fun y hy => hnm y (List.mem_of_mem_take hy), ln.cB, fun p hp => (ln.nm p hp).2⟩) kA
    refine ⟨v, k, rfl, R7, ws, by omega, fun H8 s8 => ⟨_, rfl, iteF ?_⟩⟩
    exact ⟨_, _, _, _, rfl, s4.trans ((SameB.same hb s5 ((Same.b b s6).trans s7)).trans s8)⟩
  rintro σ H4 ⟨p1, p2, p3, p4, rfl, s4⟩
  exact q H4
end
end K61
set_option maxHeartbeats 1000000
namespace K61
open PySem L2 KB
theorem us1 {p : List Value → Prop} (h : ∀ x0, p [x0]) : ∀ us : List Value, us.length = 1 → p us
  | [x0], _ => h x0
theorem us2 {p : List Value → Prop} (h : ∀ x0 x1, p [x0, x1]) : ∀ us : List Value, us.length = 2 → p us
  | [x0, x1], _ => h x0 x1
theorem us3 {p : List Value → Prop} (h : ∀ x0 x1 x2, p [x0, x1, x2]) : ∀ us : List Value, us.length = 3 → p us
  | [x0, x1, x2], _ => h x0 x1 x2
theorem us5 {p : List Value → Prop} (h : ∀ x0 x1 x2 x3 x4, p [x0, x1, x2, x3, x4]) : ∀ us : List Value, us.length = 5 → p us
  | [x0, x1, x2, x3, x4], _ => h x0 x1 x2 x3 x4
theorem all_mk {l : PySem.W.OpenLaw} {w : World} {K : PySem.W.Frag} {h : Heap} {mg : Str → Option Value} {fa f1 f2 f3 f4 f5 f6 f7 f8 f9 f10 f11 f12 f13 f14 f15 f16 f17 f18 f19 f20 f21 f22 f23 f24 f25 f26 f27 f28 f29 f30 f31 f32 f33 f34 f35 : Addr} (X : K.In h) (G : h.Ns mainGlobals mg) (hfa : mg "law" = some (.ref fa))
    {od1 an1 od2 an2 od3 an3 od4 an4 od5 an5 od6 an6 od7 an7 od8 an8 od9 an9 od10 an10 od11 an11 od12 an12 od13 an13 od14 an14 od15 an15 od16 an16 od17 an17 od18 an18 od19 an19 od20 an20 od21 an21 od22 an22 od23 an23 od24 an24 od25 an25 od26 an26 od27 an27 od28 an28 od29 an29 od30 an30 od31 an31 od32 an32 od33 an33 od34 an34 od35 an35 : Option Addr} {sl1 sl2 sl3 sl4 sl5 sl6 sl7 sl8 sl9 sl10 sl11 sl12 sl13 sl14 sl15 sl16 sl17 sl18 sl19 sl20 sl21 sl22 sl23 sl24 sl25 sl26 sl27 sl28 sl29 sl30 sl31 sl32 sl33 sl34 sl35 : Array (Option Value)}
    {oc1 kV1 dc1 pm1 cd1 ct1 oc2 kV2 dc2 pm2 cd2 ct2 oc3 kV3 dc3 pm3 cd3 ct3 oc4 kV4 dc4 pm4 cd4 ct4 oc5 kV5 dc5 pm5 cd5 ct5 oc6 kV6 dc6 pm6 cd6 ct6 oc7 kV7 dc7 pm7 cd7 ct7 oc8 kV8 dc8 pm8 cd8 ct8 oc9 kV9 dc9 pm9 cd9 ct9 oc10 kV10 dc10 pm10 cd10 ct10 oc11 kV11 dc11 pm11 cd11 ct11 oc12 kV12 dc12 pm12 cd12 ct12 oc13 kV13 dc13 pm13 cd13 ct13 oc14 kV14 dc14 pm14 cd14 ct14 oc15 kV15 dc15 pm15 cd15 ct15 oc16 kV16 dc16 pm16 cd16 ct16 oc17 kV17 dc17 pm17 cd17 ct17 oc18 kV18 dc18 pm18 cd18 ct18 oc19 kV19 dc19 pm19 cd19 ct19 oc20 kV20 dc20 pm20 cd20 ct20 oc21 kV21 dc21 pm21 cd21 ct21 oc22 kV22 dc22 pm22 cd22 ct22 oc23 kV23 dc23 pm23 cd23 ct23 oc24 kV24 dc24 pm24 cd24 ct24 oc25 kV25 dc25 pm25 cd25 ct25 oc26 kV26 dc26 pm26 cd26 ct26 oc27 kV27 dc27 pm27 cd27 ct27 oc28 kV28 dc28 pm28 cd28 ct28 oc29 kV29 dc29 pm29 cd29 ct29 oc30 kV30 dc30 pm30 cd30 ct30 oc31 kV31 dc31 pm31 cd31 ct31 oc32 kV32 dc32 pm32 cd32 ct32 oc33 kV33 dc33 pm33 cd33 ct33 oc34 kV34 dc34 pm34 cd34 ct34 oc35 kV35 dc35 pm35 cd35 ct35 : Value}
    (a1 : PySem.W.nsIn K mainGlobals "is_whole" = some (some (.ref f1)))
    (l1 : K.lookup f1 = some ⟨oc1, od1, .func (PySem.W.fnOf "is_whole" "is_whole" (defArgs s_is_whole) (defBody s_is_whole) (defScope s_is_whole) .none kV1 dc1 pm1 an1 cd1 ct1), sl1⟩)
    (c1 : PySem.W.codeIn K cd1 "is_whole" = true) (k1 : PySem.W.keepIn K (.ref f1) = true)
    (a2 : PySem.W.nsIn K mainGlobals "is_name" = some (some (.ref f2)))
    (l2 : K.lookup f2 = some ⟨oc2, od2, .func (PySem.W.fnOf "is_name" "is_name" (defArgs s_is_name) (defBody s_is_name) (defScope s_is_name) .none kV2 dc2 pm2 an2 cd2 ct2), sl2⟩)
    (c2 : PySem.W.codeIn K cd2 "is_name" = true) (k2 : PySem.W.keepIn K (.ref f2) = true)
    (a3 : PySem.W.nsIn K mainGlobals "is_part" = some (some (.ref f3)))
    (l3 : K.lookup f3 = some ⟨oc3, od3, .func (PySem.W.fnOf "is_part" "is_part" (defArgs s_is_part) (defBody s_is_part) (defScope s_is_part) .none kV3 dc3 pm3 an3 cd3 ct3), sl3⟩)
    (c3 : PySem.W.codeIn K cd3 "is_part" = true) (k3 : PySem.W.keepIn K (.ref f3) = true)
    (a4 : PySem.W.nsIn K mainGlobals "are_parts" = some (some (.ref f4)))
    (l4 : K.lookup f4 = some ⟨oc4, od4, .func (PySem.W.fnOf "are_parts" "are_parts" (defArgs s_are_parts) (defBody s_are_parts) (defScope s_are_parts) .none kV4 dc4 pm4 an4 cd4 ct4), sl4⟩)
    (c4 : PySem.W.codeIn K cd4 "are_parts" = true) (k4 : PySem.W.keepIn K (.ref f4) = true)
    (a5 : PySem.W.nsIn K mainGlobals "is_length" = some (some (.ref f5)))
    (l5 : K.lookup f5 = some ⟨oc5, od5, .func (PySem.W.fnOf "is_length" "is_length" (defArgs s_is_length) (defBody s_is_length) (defScope s_is_length) .none kV5 dc5 pm5 an5 cd5 ct5), sl5⟩)
    (c5 : PySem.W.codeIn K cd5 "is_length" = true) (k5 : PySem.W.keepIn K (.ref f5) = true)
    (a6 : PySem.W.nsIn K mainGlobals "is_small_length" = some (some (.ref f6)))
    (l6 : K.lookup f6 = some ⟨oc6, od6, .func (PySem.W.fnOf "is_small_length" "is_small_length" (defArgs s_is_small) (defBody s_is_small) (defScope s_is_small) .none kV6 dc6 pm6 an6 cd6 ct6), sl6⟩)
    (c6 : PySem.W.codeIn K cd6 "is_small_length" = true) (k6 : PySem.W.keepIn K (.ref f6) = true)
    (a7 : PySem.W.nsIn K mainGlobals "has_word" = some (some (.ref f7)))
    (l7 : K.lookup f7 = some ⟨oc7, od7, .func (PySem.W.fnOf "has_word" "has_word" (defArgs s_has_word) (defBody s_has_word) (defScope s_has_word) .none kV7 dc7 pm7 an7 cd7 ct7), sl7⟩)
    (c7 : PySem.W.codeIn K cd7 "has_word" = true) (k7 : PySem.W.keepIn K (.ref f7) = true)
    (a8 : PySem.W.nsIn K mainGlobals "is_point" = some (some (.ref f8)))
    (l8 : K.lookup f8 = some ⟨oc8, od8, .func (PySem.W.fnOf "is_point" "is_point" (defArgs s_is_point) (defBody s_is_point) (defScope s_is_point) .none kV8 dc8 pm8 an8 cd8 ct8), sl8⟩)
    (c8 : PySem.W.codeIn K cd8 "is_point" = true) (k8 : PySem.W.keepIn K (.ref f8) = true)
    (a9 : PySem.W.nsIn K mainGlobals "things_of" = some (some (.ref f9)))
    (l9 : K.lookup f9 = some ⟨oc9, od9, .func (PySem.W.fnOf "things_of" "things_of" (defArgs s_things_of) (defBody s_things_of) (defScope s_things_of) .none kV9 dc9 pm9 an9 cd9 ct9), sl9⟩)
    (c9 : PySem.W.codeIn K cd9 "things_of" = true) (k9 : PySem.W.keepIn K (.ref f9) = true)
    (a10 : PySem.W.nsIn K mainGlobals "is_kind" = some (some (.ref f10)))
    (l10 : K.lookup f10 = some ⟨oc10, od10, .func (PySem.W.fnOf "is_kind" "is_kind" (defArgs s_is_kind) (defBody s_is_kind) (defScope s_is_kind) .none kV10 dc10 pm10 an10 cd10 ct10), sl10⟩)
    (c10 : PySem.W.codeIn K cd10 "is_kind" = true) (k10 : PySem.W.keepIn K (.ref f10) = true)
    (a11 : PySem.W.nsIn K mainGlobals "show_part" = some (some (.ref f11)))
    (l11 : K.lookup f11 = some ⟨oc11, od11, .func (PySem.W.fnOf "show_part" "show_part" (defArgs s_show_part) (defBody s_show_part) (defScope s_show_part) .none kV11 dc11 pm11 an11 cd11 ct11), sl11⟩)
    (c11 : PySem.W.codeIn K cd11 "show_part" = true) (k11 : PySem.W.keepIn K (.ref f11) = true)
    (a12 : PySem.W.nsIn K mainGlobals "show_length" = some (some (.ref f12)))
    (l12 : K.lookup f12 = some ⟨oc12, od12, .func (PySem.W.fnOf "show_length" "show_length" (defArgs s_show_length) (defBody s_show_length) (defScope s_show_length) .none kV12 dc12 pm12 an12 cd12 ct12), sl12⟩)
    (c12 : PySem.W.codeIn K cd12 "show_length" = true) (k12 : PySem.W.keepIn K (.ref f12) = true)
    (a13 : PySem.W.nsIn K mainGlobals "in_brackets" = some (some (.ref f13)))
    (l13 : K.lookup f13 = some ⟨oc13, od13, .func (PySem.W.fnOf "in_brackets" "in_brackets" (defArgs s_inbr) (defBody s_inbr) (defScope s_inbr) .none kV13 dc13 pm13 an13 cd13 ct13), sl13⟩)
    (c13 : PySem.W.codeIn K cd13 "in_brackets" = true) (k13 : PySem.W.keepIn K (.ref f13) = true)
    (a14 : PySem.W.nsIn K mainGlobals "show_kind" = some (some (.ref f14)))
    (l14 : K.lookup f14 = some ⟨oc14, od14, .func (PySem.W.fnOf "show_kind" "show_kind" (defArgs s_show_kind) (defBody s_show_kind) (defScope s_show_kind) .none kV14 dc14 pm14 an14 cd14 ct14), sl14⟩)
    (c14 : PySem.W.codeIn K cd14 "show_kind" = true) (k14 : PySem.W.keepIn K (.ref f14) = true)
    (a15 : PySem.W.nsIn K mainGlobals "branch_of" = some (some (.ref f15)))
    (l15 : K.lookup f15 = some ⟨oc15, od15, .func (PySem.W.fnOf "branch_of" "branch_of" (defArgs s_branch_of) (defBody s_branch_of) (defScope s_branch_of) .none kV15 dc15 pm15 an15 cd15 ct15), sl15⟩)
    (c15 : PySem.W.codeIn K cd15 "branch_of" = true) (k15 : PySem.W.keepIn K (.ref f15) = true)
    (a16 : PySem.W.nsIn K mainGlobals "number_of" = some (some (.ref f16)))
    (l16 : K.lookup f16 = some ⟨oc16, od16, .func (PySem.W.fnOf "number_of" "number_of" (defArgs s_number_of) (defBody s_number_of) (defScope s_number_of) .none kV16 dc16 pm16 an16 cd16 ct16), sl16⟩)
    (c16 : PySem.W.codeIn K cd16 "number_of" = true) (k16 : PySem.W.keepIn K (.ref f16) = true)
    (a17 : PySem.W.nsIn K mainGlobals "part_of" = some (some (.ref f17)))
    (l17 : K.lookup f17 = some ⟨oc17, od17, .func (PySem.W.fnOf "part_of" "part_of" (defArgs s_part_of) (defBody s_part_of) (defScope s_part_of) .none kV17 dc17 pm17 an17 cd17 ct17), sl17⟩)
    (c17 : PySem.W.codeIn K cd17 "part_of" = true) (k17 : PySem.W.keepIn K (.ref f17) = true)
    (a18 : PySem.W.nsIn K mainGlobals "length_of" = some (some (.ref f18)))
    (l18 : K.lookup f18 = some ⟨oc18, od18, .func (PySem.W.fnOf "length_of" "length_of" (defArgs s_length_of) (defBody s_length_of) (defScope s_length_of) .none kV18 dc18 pm18 an18 cd18 ct18), sl18⟩)
    (c18 : PySem.W.codeIn K cd18 "length_of" = true) (k18 : PySem.W.keepIn K (.ref f18) = true)
    (a19 : PySem.W.nsIn K mainGlobals "length_in" = some (some (.ref f19)))
    (l19 : K.lookup f19 = some ⟨oc19, od19, .func (PySem.W.fnOf "length_in" "length_in" (defArgs s_length_in) (defBody s_length_in) (defScope s_length_in) .none kV19 dc19 pm19 an19 cd19 ct19), sl19⟩)
    (c19 : PySem.W.codeIn K cd19 "length_in" = true) (k19 : PySem.W.keepIn K (.ref f19) = true)
    (a20 : PySem.W.nsIn K mainGlobals "kind_in" = some (some (.ref f20)))
    (l20 : K.lookup f20 = some ⟨oc20, od20, .func (PySem.W.fnOf "kind_in" "kind_in" (defArgs s_kind_in) (defBody s_kind_in) (defScope s_kind_in) .none kV20 dc20 pm20 an20 cd20 ct20), sl20⟩)
    (c20 : PySem.W.codeIn K cd20 "kind_in" = true) (k20 : PySem.W.keepIn K (.ref f20) = true)
    (a21 : PySem.W.nsIn K mainGlobals "kind_of_text" = some (some (.ref f21)))
    (l21 : K.lookup f21 = some ⟨oc21, od21, .func (PySem.W.fnOf "kind_of_text" "kind_of_text" (defArgs s_kind_of_text) (defBody s_kind_of_text) (defScope s_kind_of_text) .none kV21 dc21 pm21 an21 cd21 ct21), sl21⟩)
    (c21 : PySem.W.codeIn K cd21 "kind_of_text" = true) (k21 : PySem.W.keepIn K (.ref f21) = true)
    (a22 : PySem.W.nsIn K mainGlobals "just_so" = some (some (.ref f22)))
    (l22 : K.lookup f22 = some ⟨oc22, od22, .func (PySem.W.fnOf "just_so" "just_so" (defArgs s_just_so) (defBody s_just_so) (defScope s_just_so) .none kV22 dc22 pm22 an22 cd22 ct22), sl22⟩)
    (c22 : PySem.W.codeIn K cd22 "just_so" = true) (k22 : PySem.W.keepIn K (.ref f22) = true)
    (a23 : PySem.W.nsIn K mainGlobals "read_length" = some (some (.ref f23)))
    (l23 : K.lookup f23 = some ⟨oc23, od23, .func (PySem.W.fnOf "read_length" "read_length" (defArgs s_read_length) (defBody s_read_length) (defScope s_read_length) .none kV23 dc23 pm23 an23 cd23 ct23), sl23⟩)
    (c23 : PySem.W.codeIn K cd23 "read_length" = true) (k23 : PySem.W.keepIn K (.ref f23) = true)
    (a24 : PySem.W.nsIn K mainGlobals "read_kind" = some (some (.ref f24)))
    (l24 : K.lookup f24 = some ⟨oc24, od24, .func (PySem.W.fnOf "read_kind" "read_kind" (defArgs s_read_kind) (defBody s_read_kind) (defScope s_read_kind) .none kV24 dc24 pm24 an24 cd24 ct24), sl24⟩)
    (c24 : PySem.W.codeIn K cd24 "read_kind" = true) (k24 : PySem.W.keepIn K (.ref f24) = true)
    (a25 : PySem.W.nsIn K mainGlobals "_law_draw" = some (some (.ref f25)))
    (l25 : K.lookup f25 = some ⟨oc25, od25, .func (PySem.W.fnOf "_law_draw" "_law_draw" (defArgs s_draw) (defBody s_draw) (defScope s_draw) .none kV25 dc25 pm25 an25 cd25 ct25), sl25⟩)
    (c25 : PySem.W.codeIn K cd25 "_law_draw" = true) (k25 : PySem.W.keepIn K (.ref f25) = true)
    (a26 : PySem.W.nsIn K mainGlobals "_law_state" = some (some (.ref f26)))
    (l26 : K.lookup f26 = some ⟨oc26, od26, .func (PySem.W.fnOf "_law_state" "_law_state" (defArgs s_state) (defBody s_state) (defScope s_state) .none kV26 dc26 pm26 an26 cd26 ct26), sl26⟩)
    (c26 : PySem.W.codeIn K cd26 "_law_state" = true) (k26 : PySem.W.keepIn K (.ref f26) = true)
    (a27 : PySem.W.nsIn K mainGlobals "_law_names" = some (some (.ref f27)))
    (l27 : K.lookup f27 = some ⟨oc27, od27, .func (PySem.W.fnOf "_law_names" "_law_names" (defArgs s_names) (defBody s_names) (defScope s_names) .none kV27 dc27 pm27 an27 cd27 ct27), sl27⟩)
    (c27 : PySem.W.codeIn K cd27 "_law_names" = true) (k27 : PySem.W.keepIn K (.ref f27) = true)
    (a28 : PySem.W.nsIn K mainGlobals "_law_length" = some (some (.ref f28)))
    (l28 : K.lookup f28 = some ⟨oc28, od28, .func (PySem.W.fnOf "_law_length" "_law_length" (defArgs s_length) (defBody s_length) (defScope s_length) .none kV28 dc28 pm28 an28 cd28 ct28), sl28⟩)
    (c28 : PySem.W.codeIn K cd28 "_law_length" = true) (k28 : PySem.W.keepIn K (.ref f28) = true)
    (a29 : PySem.W.nsIn K mainGlobals "_law_length_text" = some (some (.ref f29)))
    (l29 : K.lookup f29 = some ⟨oc29, od29, .func (PySem.W.fnOf "_law_length_text" "_law_length_text" (defArgs s_ltext) (defBody s_ltext) (defScope s_ltext) .none kV29 dc29 pm29 an29 cd29 ct29), sl29⟩)
    (c29 : PySem.W.codeIn K cd29 "_law_length_text" = true) (k29 : PySem.W.keepIn K (.ref f29) = true)
    (a30 : PySem.W.nsIn K mainGlobals "_law_kind_text" = some (some (.ref f30)))
    (l30 : K.lookup f30 = some ⟨oc30, od30, .func (PySem.W.fnOf "_law_kind_text" "_law_kind_text" (defArgs s_ktext) (defBody s_ktext) (defScope s_ktext) .none kV30 dc30 pm30 an30 cd30 ct30), sl30⟩)
    (c30 : PySem.W.codeIn K cd30 "_law_kind_text" = true) (k30 : PySem.W.keepIn K (.ref f30) = true)
    (a31 : PySem.W.nsIn K mainGlobals "_law_kind" = some (some (.ref f31)))
    (l31 : K.lookup f31 = some ⟨oc31, od31, .func (PySem.W.fnOf "_law_kind" "_law_kind" (defArgs s_kind) (defBody s_kind) (defScope s_kind) .none kV31 dc31 pm31 an31 cd31 ct31), sl31⟩)
    (c31 : PySem.W.codeIn K cd31 "_law_kind" = true) (k31 : PySem.W.keepIn K (.ref f31) = true)
    (a32 : PySem.W.nsIn K mainGlobals "_law_alike" = some (some (.ref f32)))
    (l32 : K.lookup f32 = some ⟨oc32, od32, .func (PySem.W.fnOf "_law_alike" "_law_alike" (defArgs s_alike) (defBody s_alike) (defScope s_alike) .none kV32 dc32 pm32 an32 cd32 ct32), sl32⟩)
    (c32 : PySem.W.codeIn K cd32 "_law_alike" = true) (k32 : PySem.W.keepIn K (.ref f32) = true)
    (a33 : PySem.W.nsIn K mainGlobals "_law_length_right" = some (some (.ref f33)))
    (l33 : K.lookup f33 = some ⟨oc33, od33, .func (PySem.W.fnOf "_law_length_right" "_law_length_right" (defArgs s_lright) (defBody s_lright) (defScope s_lright) .none kV33 dc33 pm33 an33 cd33 ct33), sl33⟩)
    (c33 : PySem.W.codeIn K cd33 "_law_length_right" = true) (k33 : PySem.W.keepIn K (.ref f33) = true)
    (a34 : PySem.W.nsIn K mainGlobals "_law_kind_right" = some (some (.ref f34)))
    (l34 : K.lookup f34 = some ⟨oc34, od34, .func (PySem.W.fnOf "_law_kind_right" "_law_kind_right" (defArgs s_kright) (defBody s_kright) (defScope s_kright) .none kV34 dc34 pm34 an34 cd34 ct34), sl34⟩)
    (c34 : PySem.W.codeIn K cd34 "_law_kind_right" = true) (k34 : PySem.W.keepIn K (.ref f34) = true)
    (a35 : PySem.W.nsIn K mainGlobals "law" = some (some (.ref f35)))
    (l35 : K.lookup f35 = some ⟨oc35, od35, .func (PySem.W.fnOf "law" "law" (defArgs s_law) (defBody s_law) (defScope s_law) .none kV35 dc35 pm35 an35 cd35 ct35), sl35⟩)
    (c35 : PySem.W.codeIn K cd35 "law" = true) (k35 : PySem.W.keepIn K (.ref f35) = true)
    (z1 : PySem.W.nsIn K mainGlobals "len" = some none)
    (z2 : PySem.W.nsIn K mainGlobals "isinstance" = some none)
    (z3 : PySem.W.nsIn K mainGlobals "int" = some none)
    (z4 : PySem.W.nsIn K mainGlobals "bool" = some none)
    (z5 : PySem.W.nsIn K mainGlobals "str" = some none)
    (z6 : PySem.W.nsIn K mainGlobals "tuple" = some none)
    (z7 : PySem.W.nsIn K mainGlobals "all" = some none)
    (z8 : PySem.W.nsIn K mainGlobals "zip" = some none)
    (z9 : PySem.W.nsIn K mainGlobals "range" = some none)
    (z10 : PySem.W.nsIn K mainGlobals "enumerate" = some none)
    (z11 : PySem.W.nsIn K mainGlobals "sorted" = some none)
    (z12 : PySem.W.nsIn K mainGlobals "max" = some none)
    (z13 : PySem.W.nsIn K mainGlobals "min" = some none)
    {tg0 tg1 tg2 tg3 tg4 : Tok}
    (zg0 : PySem.W.nsIn K mainGlobals "LONGEST_NAME" = some (some (.int 8 tg0)))
    (zg1 : PySem.W.nsIn K mainGlobals "GREATEST_SIZE" = some (some (.int 12 tg1)))
    (zg2 : PySem.W.nsIn K mainGlobals "GREATEST_NUMBER" = some (some (.int 99 tg2)))
    (zg3 : PySem.W.nsIn K mainGlobals "MOST_FIGURES" = some (some (.int 60 tg3)))
    (zg4 : PySem.W.nsIn K mainGlobals "MOST_BRACKETS" = some (some (.int 20 tg4)))
    {C fI fM fN fB : Addr} {odI anI odM anM odN anN odB anB : Option Addr} {slI slM slN slB : Array (Option Value)} {ocI kVI dcI pmI cdI ctI ocM kVM dcM pmM cdM ctM ocN kVN dcN pmN cdN ctN ocB kVB dcB pmB cdB ctB : Value}
    (aC : PySem.W.nsIn K mainGlobals "Signs" = some (some (.ref C)))
    (aI : PySem.W.findIn K (.ref C) "__init__" = some (some (.ref fI))) (iI : PySem.W.isFn K (.ref fI) = true)
    (lI : K.lookup fI = some ⟨ocI, odI, .func (PySem.W.fnOf "__init__" "Signs.__init__" (defArgs s_sinit) (defBody s_sinit) (defScope s_sinit) .none kVI dcI pmI anI cdI ctI), slI⟩)
    (cI : PySem.W.codeIn K cdI "Signs.__init__" = true) (kI : PySem.W.keepIn K (.ref fI) = true)
    (aM : PySem.W.findIn K (.ref C) "met" = some (some (.ref fM))) (iM : PySem.W.isFn K (.ref fM) = true)
    (lM : K.lookup fM = some ⟨ocM, odM, .func (PySem.W.fnOf "met" "Signs.met" (defArgs s_met) (defBody s_met) (defScope s_met) .none kVM dcM pmM anM cdM ctM), slM⟩)
    (cM : PySem.W.codeIn K cdM "Signs.met" = true) (kM : PySem.W.keepIn K (.ref fM) = true)
    (aN : PySem.W.findIn K (.ref C) "next_word" = some (some (.ref fN))) (iN : PySem.W.isFn K (.ref fN) = true)
    (lN : K.lookup fN = some ⟨ocN, odN, .func (PySem.W.fnOf "next_word" "Signs.next_word" (defArgs s_next_word) (defBody s_next_word) (defScope s_next_word) .none kVN dcN pmN anN cdN ctN), slN⟩)
    (cN : PySem.W.codeIn K cdN "Signs.next_word" = true) (kN : PySem.W.keepIn K (.ref fN) = true)
    (aB : PySem.W.findIn K (.ref C) "branch" = some (some (.ref fB))) (iB : PySem.W.isFn K (.ref fB) = true)
    (lB : K.lookup fB = some ⟨ocB, odB, .func (PySem.W.fnOf "branch" "Signs.branch" (defArgs s_branch) (defBody s_branch) (defScope s_branch) .none kVB dcB pmB anB cdB ctB), slB⟩)
    (cB : PySem.W.codeIn K cdB "Signs.branch" = true) (kB : PySem.W.keepIn K (.ref fB) = true)
    (pg : PySem.W.plainGet K C Str.empty = true) (hd : PySem.W.hasDictIn K C = true) (po : PySem.W.plainOver K C = true) (sa : PySem.W.findIn K (.ref C) "__setattr__" = some (some (.builtin "object.__setattr__"))) (mk : PySem.W.makesIn K C = true) (kc : PySem.W.keepIn K (.ref C) = true)
    (nT : PySem.W.findIn K (.ref C) "text" = some none) (nA : PySem.W.findIn K (.ref C) "at" = some none)
    :
    ∃ fd : FuncData, (∀ (s : Shared) (v : Value), BindsTo s fd ⟨[v], []⟩ [("_law_script", v)]) ∧ ∀ base : Heap, K.In base → base.Ns mainGlobals mg → FnOk l.prog w K mg base CX0 28 fa fd ["_law_script"] (spLaw K) := by
  have e := hfa.symm.trans (PySem.W.mg_of X G a35)
  cases e
  have T : Txt K mg := ⟨PySem.W.mg_none_of X G z1, PySem.W.mg_none_of X G z2, PySem.W.mg_none_of X G z3, PySem.W.mg_none_of X G z4, PySem.W.mg_none_of X G z5, PySem.W.mg_none_of X G z6, PySem.W.mg_none_of X G z7, PySem.W.mg_none_of X G z8, PySem.W.mg_none_of X G z9, PySem.W.mg_none_of X G z10, PySem.W.mg_none_of X G z11, PySem.W.mg_none_of X G z12, PySem.W.mg_none_of X G z13, ⟨tg0, PySem.W.mg_of X G zg0⟩, ⟨tg1, PySem.W.mg_of X G zg1⟩, ⟨tg2, PySem.W.mg_of X G zg2⟩, ⟨tg3, PySem.W.mg_of X G zg3⟩, ⟨tg4, PySem.W.mg_of X G zg4⟩⟩
  have F1 := fun_mk (st := s_is_whole) l1 c1 k1
  have b1 := F1.binds (ps := ["thing"]) fun _ _ _ _ _ _ => us1 fun _ => rfl
  have F2 := fun_mk (st := s_is_name) l2 c2 k2
  have b2 := F2.binds (ps := ["thing"]) fun _ _ _ _ _ _ => us1 fun _ => rfl
  have F3 := fun_mk (st := s_is_part) l3 c3 k3
  have b3 := F3.binds (ps := ["thing"]) fun _ _ _ _ _ _ => us1 fun _ => rfl
  have F4 := fun_mk (st := s_are_parts) l4 c4 k4
  have b4 := F4.binds (ps := ["thing"]) fun _ _ _ _ _ _ => us1 fun _ => rfl
  have F5 := fun_mk (st := s_is_length) l5 c5 k5
  have b5 := F5.binds (ps := ["thing"]) fun _ _ _ _ _ _ => us1 fun _ => rfl
  have F6 := fun_mk (st := s_is_small) l6 c6 k6
  have b6 := F6.binds (ps := ["thing"]) fun _ _ _ _ _ _ => us1 fun _ => rfl
  have F7 := fun_mk (st := s_has_word) l7 c7 k7
  have b7 := F7.binds (ps := ["thing"]) fun _ _ _ _ _ _ => us1 fun _ => rfl
  have F8 := fun_mk (st := s_is_point) l8 c8 k8
  have b8 := F8.binds (ps := ["thing"]) fun _ _ _ _ _ _ => us1 fun _ => rfl
  have F9 := fun_mk (st := s_things_of) l9 c9 k9
  have b9 := F9.binds (ps := ["point"]) fun _ _ _ _ _ _ => us1 fun _ => rfl
  have F10 := fun_mk (st := s_is_kind) l10 c10 k10
  have b10 := F10.binds (ps := ["thing"]) fun _ _ _ _ _ _ => us1 fun _ => rfl
  have F11 := fun_mk (st := s_show_part) l11 c11 k11
  have b11 := F11.binds (ps := ["name", "times"]) fun _ _ _ _ _ _ => us2 fun _ _ => rfl
  have F12 := fun_mk (st := s_show_length) l12 c12 k12
  have b12 := F12.binds (ps := ["a"]) fun _ _ _ _ _ _ => us1 fun _ => rfl
  have F13 := fun_mk (st := s_inbr) l13 c13 k13
  have b13 := F13.binds (ps := ["word", "texts"]) fun _ _ _ _ _ _ => us2 fun _ _ => rfl
  have F14 := fun_mk (st := s_show_kind) l14 c14 k14
  have b14 := F14.binds (ps := ["kind"]) fun _ _ _ _ _ _ => us1 fun _ => rfl
  have F15 := fun_mk (st := s_branch_of) l15 c15 k15
  have b15 := F15.binds (ps := ["text"]) fun _ _ _ _ _ _ => us1 fun _ => rfl
  have F16 := fun_mk (st := s_number_of) l16 c16 k16
  have b16 := F16.binds (ps := ["word"]) fun _ _ _ _ _ _ => us1 fun _ => rfl
  have F17 := fun_mk (st := s_part_of) l17 c17 k17
  have b17 := F17.binds (ps := ["text"]) fun _ _ _ _ _ _ => us1 fun _ => rfl
  have F18 := fun_mk (st := s_length_of) l18 c18 k18
  have b18 := F18.binds (ps := ["text"]) fun _ _ _ _ _ _ => us1 fun _ => rfl
  have F19 := fun_mk (st := s_length_in) l19 c19 k19
  have b19 := F19.binds (ps := ["branch"]) fun _ _ _ _ _ _ => us1 fun _ => rfl
  have F20 := fun_mk (st := s_kind_in) l20 c20 k20
  have b20 := F20.binds (ps := ["branch"]) fun _ _ _ _ _ _ => us1 fun _ => rfl
  have F21 := fun_mk (st := s_kind_of_text) l21 c21 k21
  have b21 := F21.binds (ps := ["text"]) fun _ _ _ _ _ _ => us1 fun _ => rfl
  have F22 := fun_mk (st := s_just_so) l22 c22 k22
  have b22 := F22.binds (ps := ["text", "reader", "is_one", "shower", "place"]) fun _ _ _ _ _ _ => us5 fun _ _ _ _ _ => rfl
  have F23 := fun_mk (st := s_read_length) l23 c23 k23
  have b23 := F23.binds (ps := ["text"]) fun _ _ _ _ _ _ => us1 fun _ => rfl
  have F24 := fun_mk (st := s_read_kind) l24 c24 k24
  have b24 := F24.binds (ps := ["text"]) fun _ _ _ _ _ _ => us1 fun _ => rfl
  have F25 := fun_mk (st := s_draw) l25 c25 k25
  have b25 := F25.binds (ps := ["_law_state_here", "_law_many"]) fun _ _ _ _ _ _ => us2 fun _ _ => rfl
  have F26 := fun_mk (st := s_state) l26 c26 k26
  have b26 := F26.binds (ps := ["_law_script", "_law_k"]) fun _ _ _ _ _ _ => us2 fun _ _ => rfl
  have F27 := fun_mk (st := s_names) l27 c27 k27
  have b27 := F27.binds (ps := ["_law_state_here", "_law_many"]) fun _ _ _ _ _ _ => us2 fun _ _ => rfl
  have F28 := fun_mk (st := s_length) l28 c28 k28
  have b28 := F28.binds (ps := ["_law_state_here", "_law_names_here", "_law_most"]) fun _ _ _ _ _ _ => us3 fun _ _ _ => rfl
  have F29 := fun_mk (st := s_ltext) l29 c29 k29
  have b29 := F29.binds (ps := ["_law_length_here"]) fun _ _ _ _ _ _ => us1 fun _ => rfl
  have F30 := fun_mk (st := s_ktext) l30 c30 k30
  have b30 := F30.binds (ps := ["_law_kind_here"]) fun _ _ _ _ _ _ => us1 fun _ => rfl
  have F31 := fun_mk (st := s_kind) l31 c31 k31
  have b31 := F31.binds (ps := ["_law_state_here", "_law_names_here", "_law_room"]) fun _ _ _ _ _ _ => us3 fun _ _ _ => rfl
  have F32 := fun_mk (st := s_alike) l32 c32 k32
  have b32 := F32.binds (ps := ["_law_found", "_law_due"]) fun _ _ _ _ _ _ => us2 fun _ _ => rfl
  have F33 := fun_mk (st := s_lright) l33 c33 k33
  have b33 := F33.binds (ps := ["_law_length_here"]) fun _ _ _ _ _ _ => us1 fun _ => rfl
  have F34 := fun_mk (st := s_kright) l34 c34 k34
  have b34 := F34.binds (ps := ["_law_kind_here"]) fun _ _ _ _ _ _ => us1 fun _ => rfl
  have F35 := fun_mk (st := s_law) l35 c35 k35
  refine ⟨PySem.W.fnOf "law" "law" (defArgs s_law) (defBody s_law) (defScope s_law) .none kV35 dc35 pm35 an35 cd35 ct35, fun s v => .of_eq rfl, fun base _ _ => ?_⟩
  have cl : Cls K C := ⟨pg, hd, po, sa⟩
  have FI := fun_mk (st := s_sinit) lI cI kI
  have bI := FI.binds (ps := ["self", "text"]) fun _ _ _ _ _ _ => us2 fun _ _ => rfl
  have FM := fun_mk (st := s_met) lM cM kM
  have bM := FM.binds (ps := ["self", "signs"]) fun _ _ _ _ _ _ => us2 fun _ _ => rfl
  have FN := fun_mk (st := s_next_word) lN cN kN
  have bN := FN.binds (ps := ["self"]) fun _ _ _ _ _ _ => us1 fun _ => rfl
  have FB := fun_mk (st := s_branch) lB cB kB
  have bB := FB.binds (ps := ["self", "most"]) fun _ _ _ _ _ _ => us2 fun _ _ => rfl
  have OI : FnOk l.prog w K mg base CX0 1 fI _ _ _ := ok_sinit FI T cl nT nA
  have OM : FnOk l.prog w K mg base CX0 1 fM _ _ _ := ok_met FM T cl nT nA
  have ON : FnOk l.prog w K mg base CX0 1 fN _ _ _ := ok_next_word FN T cl nT nA
  have chB : ∀ n, FnOk l.prog w K mg base CX0 (1 + n) fB _ ["self", "most"] (spBranch C n) := fun n => by
    induction n with
    | zero => exact ⟨fun vs H Q E h => (by obtain ⟨a, x, i, most, t, post, rfl, _⟩ := h; rfl), fun A outer s H args us vs Q E hr he hb hv h => (by obtain ⟨a, x, i, most, t, post, _, _, _, _, _, _, _, h1, h2, _⟩ := h; omega)⟩
    | succ n ih => exact ok_branch (k0 := 1 + n) FB T cl ⟨aN, iN, kN⟩ (ON.mono (by omega)) bN ⟨aM, iM, kM⟩ (OM.mono (by omega)) bM ⟨aB, iB, kB⟩ ih bB
  have D1 : Def l.prog w K mg base 1 "is_whole" ["thing"] (spD wholeD) := ⟨f1, _, ok_is_whole F1 T, b1, k1, PySem.W.mg_of X G a1⟩
  have D2 : Def l.prog w K mg base 1 "is_name" ["thing"] (spS nameD) := ⟨f2, _, ok_is_name F2 T, b2, k2, PySem.W.mg_of X G a2⟩
  have D3 : Def l.prog w K mg base 2 "is_part" ["thing"] (spS partD) := ⟨f3, _, ok_is_part (k := 1) F3 T (D1.up (by decide)) (D2.up (by decide)), b3, k3, PySem.W.mg_of X G a3⟩
  have D4 : Def l.prog w K mg base 3 "are_parts" ["thing"] (spS partsD) := ⟨f4, _, ok_are_parts (k := 2) F4 T (D3.up (by decide)), b4, k4, PySem.W.mg_of X G a4⟩
  have D5 : Def l.prog w K mg base 4 "is_length" ["thing"] (spS islD) := ⟨f5, _, ok_is_length (k := 3) F5 T (D1.up (by decide)) (D4.up (by decide)), b5, k5, PySem.W.mg_of X G a5⟩
  have D6 : Def l.prog w K mg base 5 "is_small_length" ["thing"] (spS slD) := ⟨f6, _, ok_is_small (k := 4) F6 T (D5.up (by decide)), b6, k6, PySem.W.mg_of X G a6⟩
  have D7 : Def l.prog w K mg base 1 "has_word" ["thing"] (spD wordD) := ⟨f7, _, ok_has_word F7 T, b7, k7, PySem.W.mg_of X G a7⟩
  have D8 : Def l.prog w K mg base 6 "is_point" ["thing"] (spS pointD) := ⟨f8, _, ok_is_point (k := 5) F8 T (D7.up (by decide)) (D6.up (by decide)), b8, k8, PySem.W.mg_of X G a8⟩
  have D9 : Def l.prog w K mg base 1 "things_of" ["point"] spThD := ⟨f9, _, ok_thingsD F9 T, b9, k9, PySem.W.mg_of X G a9⟩
  have D10 : Def l.prog w K mg base 7 "is_kind" ["thing"] spIsKind := ⟨f10, _, ok_is_kind (k := 6) F10 T (D8.up (by decide)) (D9.up (by decide)), b10, k10, PySem.W.mg_of X G a10⟩
  have D11 : Def l.prog w K mg base 1 "show_part" ["name", "times"] spShP := ⟨f11, _, ok_show_part F11 T, b11, k11, PySem.W.mg_of X G a11⟩
  have D12 : Def l.prog w K mg base 2 "show_length" ["a"] spShL := ⟨f12, _, ok_show_length (k := 1) F12 T (D11.up (by decide)), b12, k12, PySem.W.mg_of X G a12⟩
  have D13 : Def l.prog w K mg base 1 "in_brackets" ["word", "texts"] spInBr := ⟨f13, _, ok_inbr F13 T, b13, k13, PySem.W.mg_of X G a13⟩
  have ch14 : ∀ n, FnOk l.prog w K mg base CX0 (2 + n) f14 _ ["kind"] (spShK n) := fun n => by
    induction n with
    | zero => exact ⟨fun vs H Q E h => (by obtain ⟨v, k, rfl, _⟩ := h; rfl), fun A outer s H args us vs Q E hr he hb hv h => (by obtain ⟨v, k, _, _, h1, _⟩ := h; have := k.size_pos; omega)⟩
    | succ n ih => exact ok_show_kind (k0 := 2 + n) F14 T (D13.up (by omega)) (D12.up (by omega)) ⟨f14, _, ih, b14, k14, PySem.W.mg_of X G a14⟩
  have D14 : Def l.prog w K mg base 14 "show_kind" ["kind"] (spShK 12) := ⟨f14, _, ch14 12, b14, k14, PySem.W.mg_of X G a14⟩
  have D15 : Def l.prog w K mg base 23 "branch_of" ["text"] spBrOf := ⟨f15, _, ok_branch_of (k0 := 21) F15 T cl ⟨mk, aI, iI, kc⟩ (OI.mono (by decide)) bI (PySem.W.mg_of X G aC) ⟨aB, iB, kB⟩ (chB 21) bB, b15, k15, PySem.W.mg_of X G a15⟩
  have D16 : Def l.prog w K mg base 1 "number_of" ["word"] spNum := ⟨f16, _, ok_number_of F16 T, b16, k16, PySem.W.mg_of X G a16⟩
  have D17 : Def l.prog w K mg base 2 "part_of" ["text"] spPartOf := ⟨f17, _, ok_part_of (k := 1) F17 T (D16.up (by decide)), b17, k17, PySem.W.mg_of X G a17⟩
  have D18 : Def l.prog w K mg base 3 "length_of" ["text"] spLenOf := ⟨f18, _, ok_length_of (k := 2) F18 T (D16.up (by decide)) (D17.up (by decide)), b18, k18, PySem.W.mg_of X G a18⟩
  have D19 : Def l.prog w K mg base 4 "length_in" ["branch"] spLenIn := ⟨f19, _, ok_length_in (k := 3) F19 T (D18.up (by decide)), b19, k19, PySem.W.mg_of X G a19⟩
  have ch20 : ∀ n, FnOk l.prog w K mg base CX0 (4 + n) f20 _ ["branch"] (spKindIn n) := fun n => by
    induction n with
    | zero => exact ⟨fun vs H Q E h => (by obtain ⟨v, k, rfl, _⟩ := h; rfl), fun A outer s H args us vs Q E hr he hb hv h => (by obtain ⟨v, k, _, _, h1, _⟩ := h; have := k.size_pos; omega)⟩
    | succ n ih => exact ok_kind_in (k0 := 4 + n) F20 T (D19.up (by omega)) ⟨f20, _, ih, b20, k20, PySem.W.mg_of X G a20⟩
  have D20 : Def l.prog w K mg base 16 "kind_in" ["branch"] (spKindIn 12) := ⟨f20, _, ch20 12, b20, k20, PySem.W.mg_of X G a20⟩
  have D21 : Def l.prog w K mg base 24 "kind_of_text" ["text"] spKOT := ⟨f21, _, ok_kind_of_text (k0 := 23) F21 T (D15.up (by decide)) (D20.up (by decide)), b21, k21, PySem.W.mg_of X G a21⟩
  have DJwl : Def l.prog w K mg base 5 "just_so" ["text", "reader", "is_one", "shower", "place"] (spJust f18 f5 f12 WL) := ⟨f22, _, ok_just_so (k0 := 4) F22 T ((ok_length_of (k := 2) F18 T (D16.up (by decide)) (D17.up (by decide))).mono (show 3 ≤ 4 by decide) |>.imp wl_rd) k18 b18 ((ok_is_length (k := 3) F5 T (D1.up (by decide)) (D4.up (by decide))).mono (show 4 ≤ 4 by decide) |>.imp wl_is) k5 b5 ((ok_show_length (k := 1) F12 T (D11.up (by decide))).mono (show 2 ≤ 4 by decide) |>.imp wl_sw) k12 b12, b22, k22, PySem.W.mg_of X G a22⟩
  have DJwk : Def l.prog w K mg base 25 "just_so" ["text", "reader", "is_one", "shower", "place"] (spJust f21 f10 f14 WK) := ⟨f22, _, ok_just_so (k0 := 24) F22 T ((ok_kind_of_text (k0 := 23) F21 T (D15.up (by decide)) (D20.up (by decide))).mono (show 24 ≤ 24 by decide) |>.imp wk_rd) k21 b21 ((ok_is_kind (k := 6) F10 T (D8.up (by decide)) (D9.up (by decide))).mono (show 7 ≤ 24 by decide) |>.imp wk_is) k10 b10 ((ch14 12).mono (show 14 ≤ 24 by decide) |>.imp wk_sw) k14 b14, b22, k22, PySem.W.mg_of X G a22⟩
  have D23 : Def l.prog w K mg base 6 "read_length" ["text"] (spRd WL) := ⟨f23, _, ok_read_length (k0 := 5) F23 T DJwl (PySem.W.mg_of X G a18) (PySem.W.mg_of X G a5) (PySem.W.mg_of X G a12), b23, k23, PySem.W.mg_of X G a23⟩
  have D24 : Def l.prog w K mg base 26 "read_kind" ["text"] (spRd WK) := ⟨f24, _, ok_read_kind (k0 := 25) F24 T DJwk (PySem.W.mg_of X G a21) (PySem.W.mg_of X G a10) (PySem.W.mg_of X G a14), b24, k24, PySem.W.mg_of X G a24⟩
  have D25 : Def l.prog w K mg base 1 "_law_draw" ["_law_state_here", "_law_many"] spDraw := ⟨f25, _, ok_draw F25 T, b25, k25, PySem.W.mg_of X G a25⟩
  have D26 : Def l.prog w K mg base 1 "_law_state" ["_law_script", "_law_k"] (spState K) := ⟨f26, _, ok_state F26 T, b26, k26, PySem.W.mg_of X G a26⟩
  have D27 : Def l.prog w K mg base 2 "_law_names" ["_law_state_here", "_law_many"] spNames := ⟨f27, _, ok_names (k := 1) F27 T (D25.up (by decide)), b27, k27, PySem.W.mg_of X G a27⟩
  have D28 : Def l.prog w K mg base 2 "_law_length" ["_law_state_here", "_law_names_here", "_law_most"] spLength := ⟨f28, _, ok_length (k := 1) F28 T (D25.up (by decide)), b28, k28, PySem.W.mg_of X G a28⟩
  have D29 : Def l.prog w K mg base 1 "_law_length_text" ["_law_length_here"] spShL := ⟨f29, _, ok_ltext F29 T, b29, k29, PySem.W.mg_of X G a29⟩
  have ch30 : ∀ n, FnOk l.prog w K mg base CX0 (1 + n) f30 _ ["_law_kind_here"] (spShK n) := fun n => by
    induction n with
    | zero => exact ⟨fun vs H Q E h => (by obtain ⟨v, k, rfl, _⟩ := h; rfl), fun A outer s H args us vs Q E hr he hb hv h => (by obtain ⟨v, k, _, _, h1, _⟩ := h; have := k.size_pos; omega)⟩
    | succ n ih => exact ok_ktext (k0 := 1 + n) F30 T (D29.up (by omega)) ⟨f30, _, ih, b30, k30, PySem.W.mg_of X G a30⟩
  have D30 : Def l.prog w K mg base 13 "_law_kind_text" ["_law_kind_here"] (spShK 12) := ⟨f30, _, ch30 12, b30, k30, PySem.W.mg_of X G a30⟩
  have ch31 : ∀ n, FnOk l.prog w K mg base CX0 (2 + n) f31 _ ["_law_state_here", "_law_names_here", "_law_room"] (spKind n) := fun n => by
    induction n with
    | zero => exact ⟨fun vs H Q E h => (by obtain ⟨a, b, rm, xs, rfl, _⟩ := h; rfl), fun A outer s H args us vs Q E hr he hb hv h => (by obtain ⟨a, b, rm, xs, _, h1, h2, _⟩ := h; omega)⟩
    | succ n ih => exact ok_kind (k0 := 2 + n) F31 T (D25.up (by omega)) (D28.up (by omega)) ⟨f31, _, ih, b31, k31, PySem.W.mg_of X G a31⟩
  have D31 : Def l.prog w K mg base 14 "_law_kind" ["_law_state_here", "_law_names_here", "_law_room"] (spKind 12) := ⟨f31, _, ch31 12, b31, k31, PySem.W.mg_of X G a31⟩
  have ch32 : ∀ n, FnOk l.prog w K mg base CX0 (0 + n) f32 _ ["_law_found", "_law_due"] (spAlike n) := fun n => by
    induction n with
    | zero => exact ⟨fun vs H Q E h => (by obtain ⟨u, v, d, rfl, _⟩ := h; rfl), fun A outer s H args us vs Q E hr he hb hv h => (by obtain ⟨u, v, d, _, _, _, h1, _⟩ := h; cases h1)⟩
    | succ n ih => exact ok_alike (k0 := 0 + n) F32 T ⟨f32, _, ih, b32, k32, PySem.W.mg_of X G a32⟩
  have D32 : Def l.prog w K mg base 16 "_law_alike" ["_law_found", "_law_due"] (spAlike 16) := ⟨f32, _, ch32 16, b32, k32, PySem.W.mg_of X G a32⟩
  have D33 : Def l.prog w K mg base 17 "_law_length_right" ["_law_length_here"] spLR := ⟨f33, _, ok_lright (k0 := 16) F33 T (D29.up (by decide)) (D12.up (by decide)) (D32.up (by decide)) (D23.up (by decide)), b33, k33, PySem.W.mg_of X G a33⟩
  have D34 : Def l.prog w K mg base 27 "_law_kind_right" ["_law_kind_here"] spKR := ⟨f34, _, ok_kright (k0 := 26) F34 T (D30.up (by decide)) (D14.up (by decide)) (D32.up (by decide)) (D24.up (by decide)), b34, k34, PySem.W.mg_of X G a34⟩
  exact ok_law (k0 := 27) F35 T (D26.up (by decide)) (D27.up (by decide)) (D25.up (by decide)) (D28.up (by decide)) (D31.up (by decide)) (D33.up (by decide)) (D34.up (by decide))
theorem walk {l : PySem.W.OpenLaw} {q : Program} {loose : List Str} {XP : (Str → Option Value) → Heap → Prop} {YP : World → Heap → Prop} {d : DefRec} {K : Params → PySem.W.Frag} (hn : l.most = some 63) (hdf : d.params.defaults = [])
    (hY : ∀ (w : World) (h : Heap), YP w h → (K w.params).In h)
    (F : ∀ (w : World) (mg : Str → Option Value) (fa : Addr) (h : Heap), (K w.params).In h → h.Ns mainGlobals mg → mg d.name = some (.ref fa) →
      ∃ fd : FuncData, (∀ (s : Shared) (u : Value), BindsTo s fd ⟨[u], []⟩ [("_law_script", u)]) ∧ ∀ base : Heap, (K w.params).In base → base.Ns mainGlobals mg → FnOk l.prog w (K w.params) mg base CX0 28 fa fd ["_law_script"] (spLaw (K w.params))) :
    PySem.W.WalkO q loose XP YP l.row.toRowW d [] (fun f vs => PySem.call f vs) :=
  L2.walk_of (n := 63) (k := 28) (x := "_law_script") (CX := fun _ => CX0) (sp := fun w => spLaw (K w.params)) hn (by decide) hdf ⟨rfl, by decide, by decide⟩ hY F (fun _ _ a ns hl _ hS => ⟨a, ns, rfl, hS, hl, fun _ => rfl⟩) fun _ _ _ _ _ z => z
end K61
def PySem.W.Fast.tw11726965492573456748 : Nat := 0
def PySem.W.Fast.tw9967316897123687966 : Nat := 0
def PySem.W.Fast.tw6943095825339950641 : Nat := 0
def PySem.W.Fast.tw7226083573469564259 : Nat := 0
def PySem.W.Fast.tw16670606454258762617 : Nat := 0
def PySem.W.Fast.tw3202975332466658751 : Nat := 0
def PySem.W.Fast.tw1116337496809061160 : Nat := 0
def PySem.W.Fast.tw2159591310802114952 : Nat := 0
def PySem.W.Fast.tw18079674614499963998 : Nat := 0
def PySem.W.Fast.tw4190142574727066495 : Nat := 0
def PySem.W.Fast.tw6351330448568141151 : Nat := 0
def PySem.W.Fast.tw10194265992791014434 : Nat := 0
def PySem.W.Fast.tw9493325935871890607 : Nat := 0
def PySem.W.Fast.tw4451016411017459072 : Nat := 0
def PySem.W.Fast.tw8243978547694015502 : Nat := 0
def PySem.W.Fast.tw2382960482785363640 : Nat := 0
def PySem.W.Fast.tw17131936209360407018 : Nat := 0
def PySem.W.Fast.tw6843301339829429076 : Nat := 0
def PySem.W.Fast.tw11544404651953378184 : Nat := 0
def PySem.W.Fast.tw8077906487901710386 : Nat := 0
def PySem.W.Fast.tw6896418757864315417 : Nat := 0
def PySem.W.Fast.tw2755107794856199859 : Nat := 0
def PySem.W.Fast.tw5022583989438376482 : Nat := 0
def PySem.W.Fast.tw5213674686079599194 : Nat := 0
def PySem.W.Fast.tw15266623849423017093 : Nat := 0
def PySem.W.Fast.tw14089074356250852510 : Nat := 0
def PySem.W.Fast.tw16332958419717475584 : Nat := 0
def PySem.W.Fast.tw245065440360459901 : Nat := 0
def PySem.W.Fast.tw8723604056609290461 : Nat := 0
def PySem.W.Fast.tw2072639984085144452 : Nat := 0
def PySem.W.Fast.tw822266886571233612 : Nat := 0
def PySem.W.Fast.tw3330845707544688800 : Nat := 0
def PySem.W.Fast.tw5799914234379560184 : Nat := 0
open PySem PySem.W PyProof.Rows
set_option maxRecDepth 100000 in
set_option maxHeartbeats 0 in
theorem PySem.Challenge.cw_indexwise_k61_lengths_and_kinds_written_holds : PySem.Challenge.rw_indexwise_k61_lengths_and_kinds_written.Holds := by
  w_on; o_law; k_head; (case hw => w_witness2)
  k_fill
  refine K61.walk (l := PySem.Challenge.rw_indexwise_k61_lengths_and_kinds_written) rfl rfl (fun w h Y => PySem.W.kIn_of Y) ?F
  case F =>
    intro w mg fa h KX G hmg
    refine' K61.all_mk KX G hmg ?a1 ?l1 ?c1 ?k1 ?a2 ?l2 ?c2 ?k2 ?a3 ?l3 ?c3 ?k3 ?a4 ?l4 ?c4 ?k4 ?a5 ?l5 ?c5 ?k5 ?a6 ?l6 ?c6 ?k6 ?a7 ?l7 ?c7 ?k7 ?a8 ?l8 ?c8 ?k8 ?a9 ?l9 ?c9 ?k9 ?a10 ?l10 ?c10 ?k10 ?a11 ?l11 ?c11 ?k11 ?a12 ?l12 ?c12 ?k12 ?a13 ?l13 ?c13 ?k13 ?a14 ?l14 ?c14 ?k14 ?a15 ?l15 ?c15 ?k15 ?a16 ?l16 ?c16 ?k16 ?a17 ?l17 ?c17 ?k17 ?a18 ?l18 ?c18 ?k18 ?a19 ?l19 ?c19 ?k19 ?a20 ?l20 ?c20 ?k20 ?a21 ?l21 ?c21 ?k21 ?a22 ?l22 ?c22 ?k22 ?a23 ?l23 ?c23 ?k23 ?a24 ?l24 ?c24 ?k24 ?a25 ?l25 ?c25 ?k25 ?a26 ?l26 ?c26 ?k26 ?a27 ?l27 ?c27 ?k27 ?a28 ?l28 ?c28 ?k28 ?a29 ?l29 ?c29 ?k29 ?a30 ?l30 ?c30 ?k30 ?a31 ?l31 ?c31 ?k31 ?a32 ?l32 ?c32 ?k32 ?a33 ?l33 ?c33 ?k33 ?a34 ?l34 ?c34 ?k34 ?a35 ?l35 ?c35 ?k35 ?z1 ?z2 ?z3 ?z4 ?z5 ?z6 ?z7 ?z8 ?z9 ?z10 ?z11 ?z12 ?z13 ?zg0 ?zg1 ?zg2 ?zg3 ?zg4 ?aC ?aI ?iI ?lI ?cI ?kI ?aM ?iM ?lM ?cM ?kM ?aN ?iN ?lN ?cN ?kN ?aB ?iB ?lB ?cB ?kB ?pg ?hd ?po ?sa ?mk ?kc ?nT ?nA
    (case a1 => k_is); (case l1 => k_is); (case c1 => k_is); (case k1 => k_is)
    (case a2 => k_is); (case l2 => k_is); (case c2 => k_is); (case k2 => k_is)
    (case a3 => k_is); (case l3 => k_is); (case c3 => k_is); (case k3 => k_is)
    (case a4 => k_is); (case l4 => k_is); (case c4 => k_is); (case k4 => k_is)
    (case a5 => k_is); (case l5 => k_is); (case c5 => k_is); (case k5 => k_is)
    (case a6 => k_is); (case l6 => k_is); (case c6 => k_is); (case k6 => k_is)
    (case a7 => k_is); (case l7 => k_is); (case c7 => k_is); (case k7 => k_is)
    (case a8 => k_is); (case l8 => k_is); (case c8 => k_is); (case k8 => k_is)
    (case a9 => k_is); (case l9 => k_is); (case c9 => k_is); (case k9 => k_is)
    (case a10 => k_is); (case l10 => k_is); (case c10 => k_is); (case k10 => k_is)
    (case a11 => k_is); (case l11 => k_is); (case c11 => k_is); (case k11 => k_is)
    (case a12 => k_is); (case l12 => k_is); (case c12 => k_is); (case k12 => k_is)
    (case a13 => k_is); (case l13 => k_is); (case c13 => k_is); (case k13 => k_is)
    (case a14 => k_is); (case l14 => k_is); (case c14 => k_is); (case k14 => k_is)
    (case a15 => k_is); (case l15 => k_is); (case c15 => k_is); (case k15 => k_is)
    (case a16 => k_is); (case l16 => k_is); (case c16 => k_is); (case k16 => k_is)
    (case a17 => k_is); (case l17 => k_is); (case c17 => k_is); (case k17 => k_is)
    (case a18 => k_is); (case l18 => k_is); (case c18 => k_is); (case k18 => k_is)
    (case a19 => k_is); (case l19 => k_is); (case c19 => k_is); (case k19 => k_is)
    (case a20 => k_is); (case l20 => k_is); (case c20 => k_is); (case k20 => k_is)
    (case a21 => k_is); (case l21 => k_is); (case c21 => k_is); (case k21 => k_is)
    (case a22 => k_is); (case l22 => k_is); (case c22 => k_is); (case k22 => k_is)
    (case a23 => k_is); (case l23 => k_is); (case c23 => k_is); (case k23 => k_is)
    (case a24 => k_is); (case l24 => k_is); (case c24 => k_is); (case k24 => k_is)
    (case a25 => k_is); (case l25 => k_is); (case c25 => k_is); (case k25 => k_is)
    (case a26 => k_is); (case l26 => k_is); (case c26 => k_is); (case k26 => k_is)
    (case a27 => k_is); (case l27 => k_is); (case c27 => k_is); (case k27 => k_is)
    (case a28 => k_is); (case l28 => k_is); (case c28 => k_is); (case k28 => k_is)
    (case a29 => k_is); (case l29 => k_is); (case c29 => k_is); (case k29 => k_is)
    (case a30 => k_is); (case l30 => k_is); (case c30 => k_is); (case k30 => k_is)
    (case a31 => k_is); (case l31 => k_is); (case c31 => k_is); (case k31 => k_is)
    (case a32 => k_is); (case l32 => k_is); (case c32 => k_is); (case k32 => k_is)
    (case a33 => k_is); (case l33 => k_is); (case c33 => k_is); (case k33 => k_is)
    (case a34 => k_is); (case l34 => k_is); (case c34 => k_is); (case k34 => k_is)
    (case a35 => k_is); (case l35 => k_is); (case c35 => k_is); (case k35 => k_is)
    (case z1 => k_is); (case z2 => k_is); (case z3 => k_is); (case z4 => k_is); (case z5 => k_is); (case z6 => k_is); (case z7 => k_is); (case z8 => k_is); (case z9 => k_is); (case z10 => k_is); (case z11 => k_is); (case z12 => k_is); (case z13 => k_is); (case zg0 => k_is); (case zg1 => k_is); (case zg2 => k_is); (case zg3 => k_is); (case zg4 => k_is); (case aC => k_is); (case aI => k_is); (case iI => k_is); (case lI => k_is); (case cI => k_is); (case kI => k_is); (case aM => k_is); (case iM => k_is); (case lM => k_is); (case cM => k_is); (case kM => k_is); (case aN => k_is); (case iN => k_is); (case lN => k_is); (case cN => k_is); (case kN => k_is); (case aB => k_is); (case iB => k_is); (case lB => k_is); (case cB => k_is); (case kB => k_is); (case pg => k_is); (case hd => k_is); (case po => k_is); (case sa => k_is); (case mk => k_is); (case kc => k_is); (case nT => k_is); (case nA => k_is)
