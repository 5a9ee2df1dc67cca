import PyProof.Rows.All
import Wide.All
import OpenK.AllK
import Wide.FinOn
import Lean
import PyProof.EqAt
import PyProof.EqKinds
import PyProof.TupleCall
import PySem.Challenge.RW_indexwise_k21_what_is_an_expression
set_option Elab.async false
set_option linter.all false
set_option maxRecDepth 100000
namespace L2
open PySem PySem.Spec PyProof.Rows
abbrev Key := Sum Int Str
def keyIs : Key → Value → Bool
  | .inl k, v => Value.isInt k v
  | .inr x, v => Value.isStrOf x v
def keyH (w : World) : Key → Int
  | .inl k => hashInt k
  | .inr x => hashStr w x
theorem keyIs_shape : ∀ {k : Key} {v : Value}, keyIs k v = true → (∃ i t, k = Sum.inl i ∧ v = Value.int i t) ∨ (∃ x t, k = Sum.inr x ∧ v = Value.str x t)
  | .inl i, v, h => by
    obtain ⟨t, e⟩ := Value.isInt_shape (k := i) (v := v) h
    exact .inl ⟨i, t, rfl, e⟩
  | .inr x, v, h => by
    obtain ⟨t, e⟩ := Value.isStrOf_shape (x := x) (v := v) h
    exact .inr ⟨x, t, rfl, e⟩
theorem keyIs_int (i : Int) (t : Tok) : keyIs (.inl i) (.int i t) = true := by simp [keyIs, Value.isInt]
theorem keyIs_str (x : Str) (t : Tok) : keyIs (.inr x) (.str x t) = true := by simp [keyIs, Value.isStrOf]
theorem key_ll (a b : Int) : decide ((Sum.inl a : Key) = Sum.inl b) = (a == b) := by
  by_cases e : a = b
  · subst e; simp
  · have h : ¬ (Sum.inl a : Key) = Sum.inl b := fun q => e (Sum.inl.inj q)
    rw [decide_eq_false h]
    exact (beq_eq_false_iff_ne.mpr e).symm
theorem key_rr (a b : Str) : decide ((Sum.inr a : Key) = Sum.inr b) = decide (a = b) := by
  by_cases e : a = b
  · subst e; simp
  · have h : ¬ (Sum.inr a : Key) = Sum.inr b := fun q => e (Sum.inr.inj q)
    rw [decide_eq_false h, decide_eq_false e]
theorem key_lr (a : Int) (b : Str) : decide ((Sum.inl a : Key) = Sum.inr b) = false := decide_eq_false (fun q => nomatch q)
theorem key_rl (a : Str) (b : Int) : decide ((Sum.inr a : Key) = Sum.inl b) = false := decide_eq_false (fun q => nomatch q)
def mixKind (prog : Program) (w : World) : PySem.KeyKind prog w Key where
  is := keyIs
  hash := keyH w
  inj := fun v a b ha hb => by
    rcases keyIs_shape ha with ⟨i, t, rfl, rfl⟩ | ⟨x, t, rfl, rfl⟩
    · rcases keyIs_shape hb with ⟨j, u, rfl, e⟩ | ⟨y, u, rfl, e⟩
      · injection e with e1 _; rw [e1]
      · exact nomatch e
    · rcases keyIs_shape hb with ⟨j, u, rfl, e⟩ | ⟨y, u, rfl, e⟩
      · exact nomatch e
      · injection e with e1 _; rw [e1]
  byValue := fun k v h => by
    rcases keyIs_shape h with ⟨i, t, rfl, rfl⟩ | ⟨x, t, rfl, rfl⟩ <;> rfl
  pyHash := fun hv h => by
    rcases keyIs_shape hv with ⟨i, t, rfl, rfl⟩ | ⟨x, t, rfl, rfl⟩
    · exact wpAny_pyHash_int h
    · exact wpAny_pyHash_str h
  eqBool := fun hu hv h => by
    rcases keyIs_shape hu with ⟨i, t, rfl, rfl⟩ | ⟨x, t, rfl, rfl⟩
    · rcases keyIs_shape hv with ⟨j, u, rfl, rfl⟩ | ⟨y, u, rfl, rfl⟩
      · rw [key_ll] at h; exact wpAny_eqBool_int h
      · rw [key_lr] at h; exact SeqAt.EqAt.int_str i t y u _ _ _ _ h
    · rcases keyIs_shape hv with ⟨j, u, rfl, rfl⟩ | ⟨y, u, rfl, rfl⟩
      · rw [key_rl] at h; exact SeqAt.EqAt.str_int x t j u _ _ _ _ h
      · rw [key_rr] at h; exact wpAny_eqBool_str h
  «strs» := fun k x t v h => by
    rcases keyIs_shape h with ⟨i, u, rfl, e⟩ | ⟨y, u, rfl, e⟩
    · exact nomatch e
    · injection e with e1 _
      subst e1
      cases v <;> rfl
theorem mixKind_int (prog : Program) (w : World) (i : Int) (t : Tok) : (mixKind prog w).is (.inl i) (.int i t) = true := keyIs_int i t
theorem mixKind_str (prog : Program) (w : World) (x : Str) (t : Tok) : (mixKind prog w).is (.inr x) (.str x t) = true := keyIs_str x t
end L2
namespace L2
open PySem PySem.Spec PyProof.Rows
inductive V where
  | non | bl (b : Bool) | int (i : Int) | str (x : Str) | byt (b : Array UInt8) | flt (b : UInt64) | ref (a : Addr) | ty (n : String)
  deriving DecidableEq
def RelV : V → Value → Prop
  | .non, u => u = Value.none
  | .bl b, u => u = Value.bool b
  | .int i, u => ∃ t, u = Value.int i t
  | .str x, u => ∃ t, u = Value.str x t
  | .byt b, u => ∃ t, u = Value.bytes b t
  | .flt b, u => ∃ t, u = Value.float b t
  | .ref a, u => u = Value.ref a
  | .ty n, u => u = Value.type n
abbrev Vals : List V → List Value → Prop := Paired RelV
theorem Vals.length {xs : List V} {us : List Value} (r : Vals xs us) : xs.length = us.length := Paired.length r
theorem Vals.get : ∀ {xs : List V} {us : List Value} {i : Nat} {x : V}, Vals xs us → xs[i]? = some x → ∃ u, us[i]? = some u ∧ RelV x u
  | _, _, _, _, .nil, e => by simp at e
  | _, _, 0, _, .cons r _, e => by simp at e; subst e; exact ⟨_, rfl, r⟩
  | _, _, i + 1, x, .cons _ t, e => by
    obtain ⟨u, h1, h2⟩ := Vals.get (i := i) (x := x) t (by simpa using e)
    exact ⟨u, by simpa using h1, h2⟩
theorem Vals.set {x : V} {u : Value} (r : RelV x u) : ∀ {xs : List V} {us : List Value} (i : Nat), Vals xs us → Vals (xs.set i x) (us.set i u)
  | _, _, _, .nil => .nil
  | _, _, 0, .cons _ t => .cons r t
  | _, _, i + 1, .cons q t => .cons q (Vals.set r i t)
theorem Vals.append : ∀ {xs ys : List V} {us ws : List Value}, Vals xs us → Vals ys ws → Vals (xs ++ ys) (us ++ ws)
  | _, _, _, _, .nil, s => s
  | _, _, _, _, .cons r t, s => .cons r (Vals.append t s)
theorem Vals.take : ∀ {xs : List V} {us : List Value} (n : Nat), Vals xs us → Vals (xs.take n) (us.take n)
  | _, _, 0, _ => .nil
  | _, _, _ + 1, .nil => .nil
  | _, _, n + 1, .cons r t => .cons r (Vals.take n t)
theorem Vals.drop : ∀ {xs : List V} {us : List Value} (n : Nat), Vals xs us → Vals (xs.drop n) (us.drop n)
  | _, _, 0, r => r
  | _, _, _ + 1, .nil => .nil
  | _, _, n + 1, .cons _ t => Vals.drop n t
def RelO : Option V → Option Value → Prop
  | some v, some u => RelV v u
  | none, none => True
  | _, _ => False
def KV {κ : Type} : List (κ × V) → List (κ × Value) → Prop := Paired fun (p : κ × V) (q : κ × Value) => p.1 = q.1 ∧ RelV p.2 q.2
def kV : Key → V
  | .inl i => .int i
  | .inr x => .str x
inductive HO where
  /-- a list -/
  | lst (xs : List V)
  /-- a tuple (never changes) -/
  | tup (xs : List V)
  /-- a dict whose keys are ints and texts; one whose keys are tuples of ints and texts (the empty one is both) -/
  | dK (kvs : List (Key × V)) | dT (kvs : List (List Key × V))
  /-- a set of ints: its members, its size -/
  | set (S : Int → Bool) (n : Nat)
  /-- an instance of the class at C, its dict at dx, its attributes -/
  | ins (C dx : Addr) (fs : List (Str × V))
  /-- the dict of the instance at x -/
  | own (x : Addr)
  /-- the dict of an exception -/
  | xd (fs : List (Str × V))
  /-- a bound method, f of x -/
  | met (f x : Addr)
  /-- a range object lo, lo + 1, .. below hi -/
  | rng (lo hi : Int)
  /-- a thing that is known to the object (the script; a dict while a loop walks it): read, never written while it is so -/
  | frz (o : Obj) (u : HO)
  /-- a code object's table -/
  | tbl (ps : Array Value)
  /-- any other thing, by what is true of its one object (a def of one's own: SetO a S n := HO.ext fun h => ..) -/
  | ext (φ : Heap → Prop)
abbrev Hp := Addr → Option HO
def upd (H : Hp) (a : Addr) (o : HO) : Hp := fun b => if b = a then some o else H b
theorem upd_same {H : Hp} {a : Addr} {o : HO} : upd H a o a = some o := by unfold upd; rw [if_pos rfl]
theorem upd_ne {H : Hp} {a b : Addr} {o : HO} (h : b ≠ a) : upd H a o b = H b := by unfold upd; rw [if_neg h]
theorem ne_of_none {H : Hp} {a b : Addr} {o : HO} (h : H a = some o) (h' : H b = none) : a ≠ b := by
  intro e; subst e; rw [h] at h'; cases h'
def NoD (h : Heap) (a : Addr) : Prop := ∃ o, h.get? a = some o ∧ o.dict = none
theorem NoD.new (h : Heap) {o : Obj} (e : o.dict = none) (f : o.isFreed = false := by rfl) : NoD (h.push o) h.objs.size := ⟨_, Heap.get?_push_size _ f, e⟩
section
variable (P : Program) (w : World)
def ObjOk (H : Hp) (h : Heap) (a : Addr) : HO → Prop
  | .lst xs => xs.length ≤ sizeLine ∧ ∃ (its : List Value) (n : Nat), Vals xs its ∧ h.get? a = some { cls := .type "list", data := .seq its.toArray n }
  | .tup xs => xs.length ≤ sizeLine ∧ ∃ its : List Value, Vals xs its ∧ IsTup h a its.toArray ∧ NoD h a
  | .dK kvs => kvs.length ≤ sizeLine ∧ (a == sysModules) = false ∧ ∃ vs, KV kvs vs ∧ h.DictOf (mixKind P w) a vs
  | .dT kvs => kvs.length ≤ sizeLine ∧ (a == sysModules) = false ∧ ∃ xs : List (List Key × Addr × Value),
      Paired (fun (p : List Key × V) (q : List Key × Addr × Value) => p.1 = q.1 ∧ H q.2.1 = some (.tup (p.1.map kV)) ∧ RelV p.2 q.2.2) kvs xs ∧
      ∃ o es ep, h.get? a = some o ∧ o.ExactDict ∧ o.data = .dict es ep ∧ es.toList = xs.map (entryOfKey (tupleKind (mixKind P w))) ∧ (xs.map (·.1)).Nodup
  | .set S n => h.SetOf (intKind P w) a S n
  | .ins C dx fs => H dx = some (.own a) ∧ fs.length ≤ 1000 ∧ dx ≠ a ∧ h.get? a = some (PySem.W.instObj C dx) ∧
      ∃ mA, h.Ns1 dx mA ∧ (∀ f, RelO (fs.lookup f) (mA f)) ∧ PySem.Within mA (fs.map (·.1))
  | .own _ => ∃ o, h.get? a = some o
  | .xd fs => ∃ mA, h.Ns1 a mA ∧ ∀ f, RelO (fs.lookup f) (mA f)
  | .rng lo hi => ∃ t u v, h.get? a = some { cls := .type "range", data := .fields #[.int lo t, .int hi u, .int 1 v] }
  | .frz o u => h.get? a = some o ∧ ObjOk H h a u
  | .tbl ps => h.get? a = some { cls := .none, data := .fields ps }
  | .met f x => h.get? a = some (PySem.W.methodObj (.ref f) (.ref x))
  | .ext φ => φ h ∧ (∃ o, h.get? a = some o) ∧ ∀ h1 h2 : Heap, φ h1 → (∀ o, h1.get? a = some o → h2.get? a = some o) → φ h2
def HOk (H : Hp) (h : Heap) : Prop := ∀ a o, H a = some o → ObjOk P w H h a o
end
section
variable {P : Program} {w : World} {H H' : Hp} {h h' : Heap} {a : Addr} {o : HO}
theorem ObjOk.lt (x : ObjOk P w H h a o) : a < h.objs.size := by
  cases o with
  | lst xs => obtain ⟨_, _, _, _, e⟩ := x; exact Heap.lt_size e
  | tup xs => obtain ⟨_, _, _, p⟩ := x; exact p.1.lt
  | dK kvs => obtain ⟨_, _, _, _, o, _, _, e, _⟩ := x; exact Heap.lt_size e
  | dT kvs => obtain ⟨_, _, _, _, o, _, _, e, _⟩ := x; exact Heap.lt_size e
  | set S n => obtain ⟨o, _, _, _, e, _⟩ := x; exact Heap.lt_size e
  | ins C dx fs => obtain ⟨_, _, _, e, _⟩ := x; exact Heap.lt_size e
  | own y => obtain ⟨_, e⟩ := x; exact Heap.lt_size e
  | xd fs => obtain ⟨_, ⟨_, _, _, e, _⟩, _⟩ := x; exact Heap.lt_size e
  | rng lo hi => obtain ⟨_, _, _, e⟩ := x; exact Heap.lt_size e
  | frz ob u => obtain ⟨e, _⟩ := x; exact Heap.lt_size e
  | tbl ps => exact Heap.lt_size (show h.get? a = some _ from x)
  | met f y => exact Heap.lt_size (show h.get? a = some _ from x)
  | ext φ => obtain ⟨_, ⟨_, e⟩, _⟩ := x; exact Heap.lt_size e
theorem Paired.mapP {α β : Type} {F G : α → β → Prop} : ∀ {l₁ : List α} {l₂ : List β}, Paired F l₁ l₂ → (∀ a b, F a b → G a b) → Paired G l₁ l₂
  | _, _, .nil, _ => .nil
  | _, _, .cons r t, f => .cons (f _ _ r) (Paired.mapP t f)
theorem ObjOk.stay (x : ObjOk P w H h a o) (k : ∀ b u, (b = a ∨ H b = some (.own a)) → h.get? b = some u → h'.get? b = some u)
    (ho : ∀ b, H b = some (.own a) → H' b = some (.own a)) (ht : ∀ b xs, H b = some (.tup xs) → H' b = some (.tup xs)) : ObjOk P w H' h' a o := by
  induction o with
  | lst xs => obtain ⟨z, its, n, r, e⟩ := x; exact ⟨z, its, n, r, k _ _ (.inl rfl) e⟩
  | tup xs => obtain ⟨z, its, r, ⟨ob, e, c⟩, od, e2, c2⟩ := x; exact ⟨z, its, r, ⟨ob, k _ _ (.inl rfl) e, c⟩, od, k _ _ (.inl rfl) e2, c2⟩
  | dK kvs => obtain ⟨z, y, vs, r, ob, es, ep, e, c⟩ := x; exact ⟨z, y, vs, r, ob, es, ep, k _ _ (.inl rfl) e, c⟩
  | dT kvs =>
    obtain ⟨z, y, xs, r, ob, es, ep, e, c⟩ := x
    exact ⟨z, y, xs, Paired.mapP r fun p q z => ⟨z.1, ht _ _ z.2.1, z.2.2⟩, ob, es, ep, k _ _ (.inl rfl) e, c⟩
  | set S n => obtain ⟨ob, es, ep, t, e, c⟩ := x; exact ⟨ob, es, ep, t, k _ _ (.inl rfl) e, c⟩
  | ins C dx fs =>
    obtain ⟨d, z, ne, e, mA, ⟨od, es, ep, e2, c⟩, r⟩ := x
    exact ⟨ho _ d, z, ne, k _ _ (.inl rfl) e, mA, ⟨od, es, ep, k _ _ (.inr d) e2, c⟩, r⟩
  | own y => obtain ⟨ob, e⟩ := x; exact ⟨ob, k _ _ (.inl rfl) e⟩
  | xd fs => obtain ⟨mA, ⟨od, es, ep, e, c⟩, r⟩ := x; exact ⟨mA, ⟨od, es, ep, k _ _ (.inl rfl) e, c⟩, r⟩
  | rng lo hi => obtain ⟨t, u, v, e⟩ := x; exact ⟨t, u, v, k _ _ (.inl rfl) e⟩
  | frz ob u ih => obtain ⟨e, q⟩ := x; exact ⟨k _ _ (.inl rfl) e, ih q⟩
  | tbl ps =>
    have e : h.get? a = some { cls := .none, data := .fields ps } := x
    show h'.get? a = some { cls := .none, data := .fields ps }
    exact k a _ (.inl rfl) e
  | met f y =>
    have e : h.get? a = some (PySem.W.methodObj (.ref f) (.ref y)) := x
    show h'.get? a = some (PySem.W.methodObj (.ref f) (.ref y))
    exact k a _ (.inl rfl) e
  | ext φ => obtain ⟨p, ⟨o, e⟩, st⟩ := x; exact ⟨st _ _ p fun o q => k _ _ (.inl rfl) q, ⟨o, k _ _ (.inl rfl) e⟩, st⟩
theorem HOk.lt (x : HOk P w H h) (e : H a = some o) : a < h.objs.size := (x a o e).lt
theorem HOk.fresh (x : HOk P w H h) (e : h.objs.size ≤ a) : H a = none := by
  cases q : H a with
  | none => rfl
  | some u => exact absurd (Nat.lt_of_lt_of_le (x.lt q) e) (Nat.lt_irrefl _)
theorem HOk.kept (x : HOk P w H h) (k : ∀ b u, h.get? b = some u → h'.get? b = some u) : HOk P w H h' := fun a o e =>
  (x a o e).stay (fun b u _ q => k b u q) (fun _ q => q) fun _ _ q => q
theorem HOk.laid (x : HOk P w H h) (k : ∀ b u, h.get? b = some u → h'.get? b = some u) (hp : h.objs.size ≤ a) (new : ObjOk P w (upd H a o) h' a o) : HOk P w (upd H a o) h' := fun b u e => by
  have hn := x.fresh hp
  by_cases hb : b = a
  · subst hb; rw [upd_same] at e; cases e; exact new
  · rw [upd_ne hb] at e
    exact (x b u e).stay (fun c v _ q => k c v q) (fun c q => by rw [upd_ne (ne_of_none q hn)]; exact q) fun c xs q => by rw [upd_ne (ne_of_none q hn)]; exact q
end
def Rd (H : Hp) (a : Addr) (u : HO) : Prop := H a = some u ∨ ∃ o, H a = some (.frz o u)
theorem Rd.ok {P : Program} {w : World} {H : Hp} {h : Heap} {a : Addr} {u : HO} (r : Rd H a u) (x : HOk P w H h) : ObjOk P w H h a u := by
  rcases r with r | ⟨o, r⟩
  · exact x a u r
  · obtain ⟨_, q⟩ := x a _ r
    exact q
def Mut : Option HO → Prop
  | some (.lst _) => True
  | some (.dK _) => True
  | some (.dT _) => True
  | some (.set _ _) => True
  | some (.ins _ _ _) => True
  | some (.ext _) => True
  | _ => False
section
variable {P : Program} {w : World} {H : Hp} {h h' : Heap} {x e : Addr} {o' : HO}
theorem HOk.write (ok : HOk P w H h) (mu : Mut (H x)) (he : e = x ∨ H e = some (.own x)) (k : ∀ b u, b ≠ e → h.get? b = some u → h'.get? b = some u) (heo : ∃ u, h'.get? e = some u)
    (new : ObjOk P w (upd H x o') h' x o') : HOk P w (upd H x o') h' := fun b u q => by
  have nown : ∀ c y, H c = some (.own y) → c ≠ x := fun c y r z => by subst z; rw [r] at mu; exact mu
  have ntup : ∀ c xs, H c = some (.tup xs) → c ≠ x := fun c xs r z => by subst z; rw [r] at mu; exact mu
  by_cases hb : b = x
  · subst hb; rw [upd_same] at q; cases q; exact new
  · rw [upd_ne hb] at q
    by_cases hbe : b = e
    · have q' : H b = some (.own x) := by
        rcases he with z | z
        · exact absurd (hbe.trans z) hb
        · rw [hbe]; exact z
      rw [q] at q'; cases q'
      obtain ⟨v, hv⟩ := heo
      exact ⟨v, by rw [hbe]; exact hv⟩
    · refine (ok b u q).stay (fun c v hc r => k c v ?_ r) (fun c r => by rw [upd_ne (nown c b r)]; exact r) fun c xs r => by rw [upd_ne (ntup c xs r)]; exact r
      rcases hc with rfl | hc
      · exact hbe
      · rintro rfl
        rcases he with z | z
        · exact nown c b hc z
        · rw [hc] at z; cases z; exact hb rfl
end
structure Un (fs ex : List Addr) (H H' : Hp) (h h' : Heap) : Prop where
  keep : ∀ b o, h.get? b = some o → H b = none → b ∉ fs → b ∉ ex → h'.get? b = some o
  slot : ∀ b o, h.get? b = some o → H b = none → b ∈ fs → b ∉ ex → ∃ sl, h'.get? b = some { o with slots := sl }
  free : ∀ b o, h.get? b = some o → H b = none → b ∉ ex → H' b = none
  there : ∀ b o, h.get? b = some o → b ∉ ex → ∃ o', h'.get? b = some o'
  tups : ∀ b xs, H b = some (.tup xs) → H' b = some (.tup xs)
  frzs : ∀ b o u, H b = some (.frz o u) → H' b = some (.frz o u)
  tbls : ∀ b ps, H b = some (.tbl ps) → ∃ more, H' b = some (.tbl (ps ++ more))
section
variable {fs fs' ex ex' : List Addr} {H H1 H2 : Hp} {h h1 h2 h' : Heap} {a x e : Addr} {o : HO}
theorem Un.any (u : Un fs ex H H1 h h1) {b : Addr} {ob : Obj} (q : h.get? b = some ob) (n : H b = none) (hx : b ∉ ex) : ∃ sl, h1.get? b = some { ob with slots := sl } := by
  by_cases hb : b ∈ fs
  · exact u.slot b ob q n hb hx
  · exact ⟨ob.slots, u.keep b ob q n hb hx⟩
theorem Un.kept (k : ∀ b u, h.get? b = some u → h'.get? b = some u) : Un fs ex H H h h' :=
  ⟨fun b ob q _ _ _ => k b ob q, fun b ob q _ _ _ => ⟨ob.slots, k b ob q⟩, fun _ _ _ n _ => n, fun b ob q _ => ⟨ob, k b ob q⟩, fun _ _ q => q, fun _ _ _ q => q, fun _ ps q => ⟨#[], by rw [q]; simp⟩⟩
theorem Un.refl : Un fs ex H H h h := Un.kept fun _ _ q => q
theorem Un.laid (k : ∀ b u, h.get? b = some u → h'.get? b = some u) (hp : h.objs.size ≤ a) (hn : H a = none) : Un fs ex H (upd H a o) h h' where
  keep := fun b u q _ _ _ => k b u q
  slot := fun b u q _ _ _ => ⟨u.slots, k b u q⟩
  free := fun b u q n _ => by rw [upd_ne (Nat.ne_of_lt (Nat.lt_of_lt_of_le (Heap.lt_size q) hp))]; exact n
  there := fun b u q _ => ⟨u, k b u q⟩
  tups := fun b xs q => by rw [upd_ne (ne_of_none q hn)]; exact q
  frzs := fun b u xs q => by rw [upd_ne (ne_of_none q hn)]; exact q
  tbls := fun b ps q => ⟨#[], by rw [upd_ne (ne_of_none q hn), q]; simp⟩
theorem Un.write (mu : Mut (H x)) (he : e = x ∨ H e = some (.own x)) (k : ∀ b u, b ≠ e → h.get? b = some u → h'.get? b = some u) (heo : ∃ u, h'.get? e = some u) : Un fs ex H (upd H x o) h h' := by
  have hx : ∀ b, H b = none → b ≠ x := fun b n z => by subst z; rw [n] at mu; exact mu
  have hb : ∀ b, H b = none → b ≠ e := fun b n z => by
    subst z
    rcases he with r | r
    · exact hx b n r
    · rw [n] at r; cases r
  have hm : ∀ b u, H b = some u → ¬ Mut (some u) → b ≠ x := fun b u q nm z => by subst z; rw [q] at mu; exact nm mu
  refine ⟨fun b u q n _ _ => k b u (hb b n) q, fun b u q n _ _ => ⟨u.slots, k b u (hb b n) q⟩, fun b u q n _ => by rw [upd_ne (hx b n)]; exact n, fun b u q _ => ?_,
    fun b xs q => by rw [upd_ne (hm b _ q fun z => z)]; exact q, fun b u xs q => by rw [upd_ne (hm b _ q fun z => z)]; exact q, fun b ps q => ⟨#[], by rw [upd_ne (hm b _ q fun z => z), q]; simp⟩⟩
  by_cases hbe : b = e
  · subst hbe; exact heo
  · exact ⟨u, k b u hbe q⟩
end
def trk (h : Heap) (H : Hp) : List Addr := (List.range h.objs.size).filter fun a => (H a).isSome
def hidT (h : Heap) (H : Hp) : Heap := PySem.W.hideAll h (trk h H)
theorem hidT_size (h : Heap) (H : Hp) : (hidT h H).objs.size = h.objs.size := PySem.W.hideAll_size _ _
theorem hidT_get {h : Heap} {H : Hp} {b : Addr} {o : Obj} (e : h.get? b = some o) (n : H b = none) : (hidT h H).get? b = some o :=
  PySem.W.hideAll_get _ e fun hm => by
    have q : (H b).isSome = true := (List.mem_filter.mp hm).2
    rw [n] at q; simp at q
theorem of_hidT {h : Heap} {H : Hp} {b : Addr} {o : Obj} (e : (hidT h H).get? b = some o) : h.get? b = some o ∧ H b = none := by
  have e' : h.get? b = some o := PySem.W.of_hideAll (trk h H) e
  refine ⟨e', ?_⟩
  cases q : H b with
  | none => rfl
  | some x =>
    have hm : b ∈ trk h H := List.mem_filter.mpr ⟨List.mem_range.mpr (Heap.lt_size e'), by simp [q]⟩
    have z : (hidT h H).get? b = none := PySem.W.hideAll_none (trk h H) hm
    rw [z] at e; cases e
def allNews (g h : Heap) (L : Addr) : List (Addr × Obj) := (List.range h.objs.size).filterMap fun a => if a = L ∨ (g.get? a).isSome = true then none else (h.get? a).map fun o => (a, o)
theorem mem_allNews {g h : Heap} {L a : Addr} {o : Obj} (h1 : a ≠ L) (h2 : g.get? a = none) (h3 : h.get? a = some o) : (a, o) ∈ allNews g h L :=
  List.mem_filterMap.mpr ⟨a, List.mem_range.mpr (Heap.lt_size h3), by simp [h1, h2, h3]⟩
theorem of_mem_allNews {g h : Heap} {L : Addr} {p : Addr × Obj} (hp : p ∈ allNews g h L) : p.1 ≠ L ∧ g.get? p.1 = none ∧ h.get? p.1 = some p.2 := by
  obtain ⟨b, _, e⟩ := List.mem_filterMap.mp hp
  split at e
  · cases e
  · rename_i hn
    cases q : h.get? b with
    | none => rw [q] at e; simp at e
    | some u =>
      rw [q] at e
      simp only [Option.map_some, Option.some.injEq] at e
      subst e
      refine ⟨fun z => hn (.inl z), ?_, q⟩
      show g.get? b = none
      cases r : g.get? b with
      | none => rfl
      | some v => exact (hn (.inr (by simp [r]))).elim
theorem news_all {g h : Heap} {L : Addr} : News g L h (allNews g h L) := fun p hp => let ⟨a, b, c⟩ := of_mem_allNews hp; ⟨c, a, b⟩
end L2
namespace L2
open PySem PySem.Spec PyProof.Rows
structure Mod (K : PySem.W.Frag) (mg : Str → Option Value) (base : Heap) : Prop where
  kin : K.In base
  glob : base.Ns mainGlobals mg
  blt : ∃ mb, base.Ns builtinsNs mb ∧ ∀ x : Str, x ≠ "__name__" → mb x = bootBuiltins x
  nolimit : base.NoLimit
structure Cx where
  prog : Program
  w : World
  K : PySem.W.Frag
  mg : Str → Option Value
  base : Heap
  A : Around
  N : List Str
  s₀ : Shared
  H₀ : Hp
  env : Env
  outer : List Env
  stack : List Env
  ex : List Addr
  fn : Str → Bool
  calm : Bool
  pn : List (Addr × Obj)
  xe : Value → Shared → Prop
def frs (l : List Env) : List Addr := l.filterMap (·.frame)
abbrev Cx.fs (X : Cx) : List Addr := frs X.outer
def Vis (sc : Scope) (x : Str) : Prop := sc.names.lookup x = some .local ∨ sc.names.lookup x = some .cell ∨ sc.names.lookup x = some .free
def Loc (sc : Scope) (x : Str) : Prop := sc.names.lookup x = some .local ∨ sc.names.lookup x = some .cell
def Look (env : Env) (h : Heap) (m : Str → Option Value) (x : Str) (u : Value) : Prop :=
  (env.kindOf x = some .local ∧ m x = some u) ∨ ((env.kindOf x = some .cell ∨ env.kindOf x = some .free) ∧ ∃ c, env.cells.lookup x = some c ∧ h.IsCell c (some u))
structure Cx.Ok (X : Cx) : Prop where
  mod : Mod X.K X.mg X.base
  kind : X.env.scope.kind = .function
  glob : X.env.globals = mainGlobals
  blt : X.env.builtins = builtinsNs
  above : X.s₀.heap.objs.size ≤ X.env.locals
  inj : ∀ x y c, X.env.cells.lookup x = some c → X.env.cells.lookup y = some c → x = y
  has : ∀ x, (X.env.kindOf x = some .cell ∨ X.env.kindOf x = some .free) → ∃ c, X.env.cells.lookup x = some c
  cab : ∀ x c, X.fn x = true → X.env.cells.lookup x = some c → X.s₀.heap.objs.size ≤ c
  hd : X.calm = true → X.A.handled = none
  frames : X.A.frames = some X.stack
  stk : X.stack = X.outer ∨ (X.stack = X.env :: X.outer ∧ X.env.frame = some X.env.locals)
  exf : ∀ b ∈ X.ex, b ≠ X.env.locals ∧ ∀ x c, X.env.cells.lookup x = some c → c ≠ b
  bs : ∀ b o, X.base.get? b = some o → X.s₀.heap.get? b = some o ∧ X.H₀ b = none
  bsz : X.base.objs.size ≤ X.s₀.heap.objs.size
  noex : ∀ b o, X.base.get? b = some o → b ∉ X.ex
  exfs : ∀ b ∈ X.ex, b ∉ X.fs
  funs : X.s₀.heap.FunFrames X.base X.outer
  frf : ∀ b ∈ X.fs, X.H₀ b = none
structure Inv (X : Cx) (pins : List (Addr × Obj)) (σ : List (Option V)) (H : Hp) (s : Shared) : Prop where
  ok : X.Ok
  os : s.os = X.s₀.os
  bare : AllBare s.gens
  base : Un X.fs X.ex X.H₀ H X.s₀.heap s.heap
  loc : ∃ m, s.heap.Ns X.env.locals m ∧ ∀ (i : Nat) (x : Str) (v : V), X.N[i]? = some x → σ[i]? = some (some v) → Vis X.env.scope x → ∃ u, RelV v u ∧ Look X.env s.heap m x u
  cell : ∀ x c, X.env.cells.lookup x = some c → ∃ v, s.heap.IsCell c v
  free : H X.env.locals = none
  freeC : ∀ x c, X.env.cells.lookup x = some c → H c = none
  pin : ∀ p ∈ X.pn ++ pins, s.heap.get? p.1 = some p.2 ∧ H p.1 = none ∧ p.1 ≠ X.env.locals ∧ p.1 ∉ X.fs ∧ ∀ v, p.2.data ≠ .cell v
  hok : HOk X.prog X.w H s.heap
  len : σ.length = X.N.length
section
variable {X : Cx} {pins : List (Addr × Obj)} {σ : List (Option V)} {H H' : Hp} {s : Shared} {h' : Heap}
theorem Cx.Ok.nofr (ok : X.Ok) {b : Addr} {o : Obj} (e : X.base.get? b = some o) : b ∉ X.fs := fun hb => by
  have := (ok.funs.mem hb).1
  rw [e] at this; cases this
theorem Inv.bs (I : Inv X pins σ H s) : ∀ b o, X.base.get? b = some o → s.heap.get? b = some o ∧ H b = none := fun b o e =>
  ⟨I.base.keep b o (I.ok.bs b o e).1 (I.ok.bs b o e).2 (I.ok.nofr e) (I.ok.noex b o e), I.base.free b o (I.ok.bs b o e).1 (I.ok.bs b o e).2 (I.ok.noex b o e)⟩
theorem Inv.bk (I : Inv X pins σ H s) : ∀ b o, X.base.get? b = some o → s.heap.get? b = some o := fun b o e => (I.bs b o e).1
theorem Inv.mod (I : Inv X pins σ H s) : Mod X.K X.mg X.base := I.ok.mod
theorem Inv.kIn (I : Inv X pins σ H s) : X.K.In s.heap := I.ok.mod.kin.keeps I.bk
theorem Inv.lt (I : Inv X pins σ H s) : X.env.locals < s.heap.objs.size := let ⟨_, hn, _⟩ := I.loc; hn.lt
theorem Inv.sz (I : Inv X pins σ H s) : X.s₀.heap.objs.size ≤ s.heap.objs.size := Nat.le_trans I.ok.above (Nat.le_of_lt I.lt)
theorem Inv.nofs (I : Inv X pins σ H s) {a : Addr} (h : s.heap.objs.size ≤ a) : a ∉ X.fs := fun hb => by
  obtain ⟨_, o, ho, _⟩ := I.ok.funs.mem hb
  exact absurd (Nat.lt_of_lt_of_le (Heap.lt_size ho) (Nat.le_trans I.sz h)) (Nat.lt_irrefl _)
theorem Inv.cne (I : Inv X pins σ H s) : ∀ x c, X.env.cells.lookup x = some c → c ≠ X.env.locals := fun x c e z => by
  obtain ⟨v, o, ho, hd⟩ := I.cell x c e
  obtain ⟨m, ⟨o', es, ep, ho', hd', _⟩, _⟩ := I.loc
  rw [z, ho'] at ho; cases ho; rw [hd'] at hd; cases hd
theorem Inv.funs (I : Inv X pins σ H s) : s.heap.FunFrames X.base X.outer := by
  have all : ∀ (l : List Env), (∀ b ∈ frs l, b ∈ X.fs) → X.s₀.heap.FunFrames X.base l → s.heap.FunFrames X.base l := by
    intro l
    induction l with
    | nil => intro _ _; trivial
    | cons env r ih =>
      intro hs hl
      obtain ⟨hk, ⟨L, o, hf, hn, ho, hd⟩, hr⟩ := hl
      have hL : L ∈ X.fs := hs L (by unfold frs; rw [List.filterMap_cons, hf]; exact List.mem_cons_self)
      obtain ⟨sl, e⟩ := I.base.slot L o ho (I.ok.frf L hL) hL fun z => I.ok.exfs L z hL
      exact ⟨hk, ⟨L, _, hf, hn, e, hd⟩, ih (fun b hb => hs b (by unfold frs; rw [List.filterMap_cons, hf]; exact List.mem_cons_of_mem _ hb)) hr⟩
  exact all X.outer (fun _ hb => hb) I.ok.funs
theorem Inv.stack (I : Inv X pins σ H s) : s.heap.FunFrames X.base X.stack := by
  rcases I.ok.stk with e | ⟨e, hf⟩
  · rw [e]; exact I.funs
  · rw [e]
    obtain ⟨m, hn, _⟩ := I.loc
    refine .cons (by rw [I.ok.kind]; decide) hf hn ?_ I.funs
    exact Heap.get?_none_of_le (Nat.le_trans I.ok.bsz I.ok.above)
theorem Inv.stkSub (I : Inv X pins σ H s) : ∀ b ∈ frs X.stack, b ∈ X.env.locals :: X.fs := fun b hb => by
  rcases I.ok.stk with e | ⟨e, hf⟩
  · rw [e] at hb; exact List.mem_cons_of_mem _ hb
  · rw [e] at hb
    unfold frs at hb
    rw [List.filterMap_cons, hf] at hb
    exact hb
theorem Inv.stkFree (I : Inv X pins σ H s) : ∀ b ∈ frs X.stack, H b = none := fun b hb => by
  rcases List.mem_cons.mp (I.stkSub b hb) with e | hb
  · rw [e]; exact I.free
  · obtain ⟨_, o, ho, _⟩ := I.ok.funs.mem hb
    exact I.base.free b o ho (I.ok.frf b hb) fun z => I.ok.exfs b z hb
theorem Inv.step {g' : Array GenState} {t' : Nat} {d' : Drawn} {ch : List Addr} (I : Inv X pins σ H s)
    (hch : ∀ b ∈ ch, (b ∈ X.ex ∨ X.s₀.heap.objs.size ≤ b) ∧ b ≠ X.env.locals ∧ (∀ x c, X.env.cells.lookup x = some c → c ≠ b) ∧ ∀ p ∈ X.pn ++ pins, p.1 ≠ b)
    (keep : ∀ b o, b ≠ X.env.locals → b ∉ X.fs → b ∉ ch → s.heap.get? b = some o → H b = none → h'.get? b = some o)
    (slot : ∀ b o, b ≠ X.env.locals → b ∈ X.fs → b ∉ ch → s.heap.get? b = some o → H b = none → ∃ sl, h'.get? b = some { o with slots := sl }) (free : ∀ b o, b ∉ ch → s.heap.get? b = some o → H b = none → H' b = none)
    (there : ∀ b o, b ∉ ch → s.heap.get? b = some o → ∃ o', h'.get? b = some o')
    (tups : ∀ b xs, H b = some (.tup xs) → H' b = some (.tup xs)) (frzs : ∀ b o u, H b = some (.frz o u) → H' b = some (.frz o u)) (tbls : ∀ b ps, H b = some (.tbl ps) → ∃ more, H' b = some (.tbl (ps ++ more)))
    (ns : ∀ m, s.heap.Ns X.env.locals m → h'.Ns X.env.locals m) (hok : HOk X.prog X.w H' h') (hg : AllBare g') :
    Inv X pins σ H' { s with heap := h', gens := g', drawn := d', toks := t' } := by
  have neL : ∀ b o, X.s₀.heap.get? b = some o → b ≠ X.env.locals := fun b o e => Nat.ne_of_lt (Nat.lt_of_lt_of_le (Heap.lt_size e) I.ok.above)
  have neC : ∀ b o, X.s₀.heap.get? b = some o → b ∉ X.ex → b ∉ ch := fun b o e hx hb => by
    rcases (hch b hb).1 with z | z
    · exact hx z
    · exact absurd (Nat.lt_of_lt_of_le (Heap.lt_size e) z) (Nat.lt_irrefl _)
  have cellK : ∀ x c, X.env.cells.lookup x = some c → ∀ v, s.heap.IsCell c v → h'.IsCell c v := fun x c e v ⟨o, ho, hd⟩ => by
    have nch : c ∉ ch := fun z => (hch c z).2.2.1 x c e rfl
    by_cases hc : c ∈ X.fs
    · obtain ⟨sl, q⟩ := slot c o (I.cne x c e) hc nch ho (I.freeC x c e)
      exact ⟨_, q, hd⟩
    · exact ⟨o, keep c o (I.cne x c e) hc nch ho (I.freeC x c e), hd⟩
  refine ⟨I.ok, I.os, hg, ⟨fun b o e n hb hx => ?_, fun b o e n hb hx => ?_, fun b o e n hx => ?_, fun b o e hx => ?_, fun b xs e => tups b xs (I.base.tups b xs e), fun b o xs e => frzs b o xs (I.base.frzs b o xs e), fun b ps e => ?_⟩, ?_, fun x c e => ?_, ?_, fun x c e => ?_, fun p hp => ?_, hok, I.len⟩
  · exact keep b o (neL b o e) hb (neC b o e hx) (I.base.keep b o e n hb hx) (I.base.free b o e n hx)
  · obtain ⟨sl, e1⟩ := I.base.slot b o e n hb hx
    obtain ⟨sl', e2⟩ := slot b _ (neL b o e) hb (neC b o e hx) e1 (I.base.free b o e n hx)
    exact ⟨sl', e2⟩
  · obtain ⟨o', e1⟩ := I.base.there b o e hx
    exact free b o' (neC b o e hx) e1 (I.base.free b o e n hx)
  · obtain ⟨o', e1⟩ := I.base.there b o e hx
    exact there b o' (neC b o e hx) e1
  · obtain ⟨m1, e1⟩ := I.base.tbls b ps e
    obtain ⟨m2, e2⟩ := tbls b _ e1
    exact ⟨m1 ++ m2, by rw [e2, Array.append_assoc]⟩
  · obtain ⟨m, hn, hl⟩ := I.loc
    refine ⟨m, ns m hn, fun i x v e1 e2 e3 => ?_⟩
    obtain ⟨u, r, l⟩ := hl i x v e1 e2 e3
    refine ⟨u, r, ?_⟩
    rcases l with l | ⟨k, c, e, z⟩
    · exact .inl l
    · exact .inr ⟨k, c, e, cellK x c e _ z⟩
  · obtain ⟨v, z⟩ := I.cell x c e
    exact ⟨v, cellK x c e v z⟩
  · obtain ⟨m, ⟨o, _, _, ho, _⟩, _⟩ := I.loc
    exact free _ o (fun z => (hch _ z).2.1 rfl) ho I.free
  · obtain ⟨v, o, ho, hd⟩ := I.cell x c e
    exact free c o (fun z => (hch c z).2.2.1 x c e rfl) ho (I.freeC x c e)
  · obtain ⟨e, n, ne, nf, d⟩ := I.pin p hp
    have nch : p.1 ∉ ch := fun z => (hch p.1 z).2.2.2 p hp rfl
    exact ⟨keep p.1 p.2 ne nf nch e n, free p.1 p.2 nch e n, ne, nf, d⟩
theorem Inv.un {t' : Nat} (I : Inv X pins σ H s) (u : Un X.fs [] H H' s.heap h') (hok : HOk X.prog X.w H' h') : Inv X pins σ H' { s with heap := h', toks := t' } := by
  obtain ⟨m, ⟨o, es, ep, ho, r⟩, _⟩ := id I.loc
  obtain ⟨sl, hL⟩ := u.any ho I.free (by simp)
  exact I.step (g' := s.gens) (d' := s.drawn) (ch := []) (fun _ z => nomatch z) (fun b o _ hb _ e n => u.keep b o e n hb (by simp)) (fun b o _ hb _ e n => u.slot b o e n hb (by simp)) (fun b o _ e n => u.free b o e n (by simp)) (fun b o _ e => u.there b o e (by simp)) u.tups u.frzs u.tbls (fun m' hm => by
    obtain ⟨o', es', ep', ho', r'⟩ := hm
    rw [ho] at ho'; cases ho'
    exact ⟨_, es', ep', hL, r'⟩) hok I.bare
theorem Inv.call {g' : Array GenState} {t' : Nat} {d' : Drawn} {ch : List Addr} (I : Inv X pins σ H s) (u : Un (frs X.stack) ch H H' s.heap h') (hok : HOk X.prog X.w H' h') (hg : AllBare g')
    (hch : ∀ b ∈ ch, (b ∈ X.ex ∨ X.s₀.heap.objs.size ≤ b) ∧ b ≠ X.env.locals ∧ (∀ x c, X.env.cells.lookup x = some c → c ≠ b) ∧ ∀ p ∈ X.pn ++ pins, p.1 ≠ b) :
    Inv X pins σ H' { s with heap := h', gens := g', drawn := d', toks := t' } := by
  obtain ⟨m, ⟨o, es, ep, ho, r⟩, _⟩ := id I.loc
  obtain ⟨sl, hL⟩ := u.any ho I.free fun z => (hch _ z).2.1 rfl
  exact I.step (ch := ch) hch (fun b o hL hb hc e n => u.keep b o e n (fun z => (List.mem_cons.mp (I.stkSub b z)).elim hL hb) hc) (fun b o _ _ hc e n => u.any e n hc) (fun b o hc e n => u.free b o e n hc) (fun b o hc e => u.there b o e hc) u.tups u.frzs u.tbls (fun m' hm => by
    obtain ⟨o', es', ep', ho', r'⟩ := hm
    rw [ho] at ho'; cases ho'
    exact ⟨_, es', ep', hL, r'⟩) hok hg
theorem Inv.turned {t' : Nat} {it : Addr} (I : Inv X pins σ H s) (k : ∀ b o, b ≠ it → s.heap.get? b = some o → h'.get? b = some o) (hn : H it = none) (hL : it ≠ X.env.locals)
    (h1 : it ∈ X.ex ∨ X.s₀.heap.objs.size ≤ it) (h2 : ∀ x c, X.env.cells.lookup x = some c → c ≠ it) (h3 : ∀ p ∈ X.pn ++ pins, p.1 ≠ it) : Inv X pins σ H { s with heap := h', toks := t' } := by
  have nit : ∀ b u, H b = some u → b ≠ it := fun b u e z => by rw [z, hn] at e; cases e
  refine I.step (g' := s.gens) (d' := s.drawn) (ch := [it]) (fun b hb => ?_) (fun b o _ _ hc e _ => k b o (fun z => hc (by simp [z])) e) (fun b o _ _ hc e _ => ⟨o.slots, k b o (fun z => hc (by simp [z])) e⟩) (fun _ _ _ _ n => n)
    (fun b o hc e => ⟨o, k b o (fun z => hc (by simp [z])) e⟩) (fun _ _ e => e) (fun _ _ _ e => e) (fun b ps e => ⟨#[], by rw [e]; simp⟩) (fun m hm => ?_) (fun b u e => ?_) I.bare
  · have e : b = it := by simpa using hb
    subst e
    exact ⟨h1, hL, h2, h3⟩
  · obtain ⟨o, es, ep, ho, r⟩ := hm
    exact ⟨o, es, ep, k _ o (Ne.symm hL) ho, r⟩
  · refine (I.hok b u e).stay (fun c v hc q => k c v ?_ q) (fun _ q => q) fun _ _ q => q
    rcases hc with z | z
    · rw [z]; exact nit b u e
    · exact nit c _ z
theorem Inv.tok (I : Inv X pins σ H s) (t : Nat) : Inv X pins σ H { s with toks := t } := I.un (h' := s.heap) (t' := t) Un.refl I.hok
theorem Inv.kept {t' : Nat} (I : Inv X pins σ H s) (k : ∀ b u, s.heap.get? b = some u → h'.get? b = some u) : Inv X pins σ H { s with heap := h', toks := t' } := I.un (Un.kept k) (I.hok.kept k)
theorem Inv.laid {a : Addr} {o : HO} {t' : Nat} (I : Inv X pins σ H s) (k : ∀ b u, s.heap.get? b = some u → h'.get? b = some u) (hp : s.heap.objs.size ≤ a) (new : ObjOk X.prog X.w (upd H a o) h' a o) :
    Inv X pins σ (upd H a o) { s with heap := h', toks := t' } := I.un (Un.laid k hp (I.hok.fresh hp)) (I.hok.laid k hp new)
theorem Inv.write {x e : Addr} {o : HO} {t' : Nat} (I : Inv X pins σ H s) (mu : Mut (H x)) (he : e = x ∨ H e = some (.own x)) (k : ∀ b u, b ≠ e → s.heap.get? b = some u → h'.get? b = some u) (heo : ∃ u, h'.get? e = some u)
    (new : ObjOk X.prog X.w (upd H x o) h' x o) : Inv X pins σ (upd H x o) { s with heap := h', toks := t' } := I.un (Un.write mu he k heo) (I.hok.write mu he k heo new)
theorem Inv.weak {σ' : List (Option V)} (I : Inv X pins σ H s) (hl : σ'.length = σ.length) (w : ∀ (i : Nat) v, σ'[i]? = some (some v) → σ[i]? = some (some v)) : Inv X pins σ' H s :=
  ⟨I.ok, I.os, I.bare, I.base, let ⟨m, hn, hl'⟩ := I.loc; ⟨m, hn, fun i x v e1 e2 e3 => hl' i x v e1 (w i v e2) e3⟩, I.cell, I.free, I.freeC, I.pin, I.hok, hl.trans I.len⟩
theorem Inv.pins_of {pins' : List (Addr × Obj)} (I : Inv X pins σ H s) (h : ∀ p ∈ pins', s.heap.get? p.1 = some p.2 ∧ H p.1 = none ∧ p.1 ≠ X.env.locals ∧ p.1 ∉ X.fs ∧ ∀ v, p.2.data ≠ .cell v) : Inv X pins' σ H s :=
  ⟨I.ok, I.os, I.bare, I.base, I.loc, I.cell, I.free, I.freeC, fun p hp => (List.mem_append.mp hp).elim (fun z => I.pin p (List.mem_append_left _ z)) (h p), I.hok, I.len⟩
theorem nodup_ix {N : List Str} (hN : N.Nodup) {i j : Nat} {x : Str} (a : N[i]? = some x) (b : N[j]? = some x) : i = j := by
  obtain ⟨h1, e1⟩ := List.getElem?_eq_some_iff.mp a
  obtain ⟨h2, e2⟩ := List.getElem?_eq_some_iff.mp b
  exact (List.getElem_inj hN).mp (e1.trans e2.symm)
theorem store_ok2 {M : Model} {A : Around} {E : Value → Shared → Prop} {i : Nat} {x : Str} {v : V} {u : Value} {Q : Unit → Shared → Prop} (I : Inv X pins σ H s) (hN : X.N.Nodup) (hi : X.N[i]? = some x) (hx : Loc X.env.scope x) (r : RelV v u)
    (h : ∀ s', Inv X pins (σ.set i (some v)) H s' → (∃ a, Heap.SameBut a s.heap s'.heap ∧ (a = X.env.locals ∨ X.env.cells.lookup x = some a)) → Q () s') (hf : X.fn x = true ∨ X.env.scope.names.lookup x = some .local := by first | exact .inl rfl | exact .inr rfl | assumption) : wpAny M A (storeName X.env x u) Q E s := by
  obtain ⟨m, hn, hl⟩ := id I.loc
  have hcls : (X.env.scope.kind == .class || (X.env.scope.kind == .module && X.env.locals != X.env.globals)) = false := by rw [I.ok.kind]; rfl
  have hiσ : i < σ.length := by rw [I.len]; exact (List.getElem?_eq_some_iff.mp hi).1
  have cne := I.cne
  have tracked : ∀ {a : Addr} {h' : Heap}, (∃ o, s.heap.get? a = some o ∧ H a = none) → Heap.SameBut a s.heap h' → HOk X.prog X.w H h' := fun {a h'} ha hs b ob e => by
    obtain ⟨_, _, hfree⟩ := ha
    refine (I.hok b ob e).stay (fun c w' hc q => (hs.2 c ?_).trans q) (fun _ q => q) fun _ _ q => q
    rintro rfl
    rcases hc with rfl | hc
    · rw [hfree] at e; cases e
    · rw [hfree] at hc; cases hc
  rcases hx with hk | hk
  · refine wpAny_storeName_local hk hn (fun h' hn' hs => ?_) hcls
    obtain ⟨oL, _, _, hoL, _⟩ := id hn
    refine h _ ⟨I.ok, I.os, I.bare, ⟨fun b o e n hb hx => ?_, fun b o e n hb hx => ?_, I.base.free, fun b o e hx => ?_, I.base.tups, I.base.frzs, I.base.tbls⟩, ⟨_, hn', fun j y v' e1 e2 e3 => ?_⟩, fun y c e => ?_, I.free, I.freeC, fun p hp => ?_, tracked ⟨oL, hoL, I.free⟩ hs, by simpa using I.len⟩ ⟨_, hs, .inl rfl⟩
    · exact (hs.2 b (Nat.ne_of_lt (Nat.lt_of_lt_of_le (Heap.lt_size e) I.ok.above))).trans (I.base.keep b o e n hb hx)
    · obtain ⟨sl, e1⟩ := I.base.slot b o e n hb hx
      exact ⟨sl, (hs.2 b (Nat.ne_of_lt (Nat.lt_of_lt_of_le (Heap.lt_size e) I.ok.above))).trans e1⟩
    · obtain ⟨o', e1⟩ := I.base.there b o e hx
      exact ⟨o', (hs.2 b (Nat.ne_of_lt (Nat.lt_of_lt_of_le (Heap.lt_size e) I.ok.above))).trans e1⟩
    · by_cases hj : j = i
      · subst hj
        rw [hi] at e1; cases e1
        rw [List.getElem?_set_self hiσ] at e2
        cases e2
        exact ⟨u, r, .inl ⟨hk, by simp⟩⟩
      · rw [List.getElem?_set_ne (Ne.symm hj)] at e2
        obtain ⟨u', r', q⟩ := hl j y v' e1 e2 e3
        refine ⟨u', r', ?_⟩
        rcases q with ⟨k, e⟩ | ⟨k, c, e, z⟩
        · refine .inl ⟨k, ?_⟩
          have : y ≠ x := fun e => hj (nodup_ix hN e1 (e ▸ hi))
          simp [this, e]
        · exact .inr ⟨k, c, e, z.sameBut hs (cne y c e)⟩
    · obtain ⟨w', z⟩ := I.cell y c e
      exact ⟨w', z.sameBut hs (cne y c e)⟩
    · obtain ⟨e, n, ne, nf, d⟩ := I.pin p hp
      exact ⟨(hs.2 p.1 ne).trans e, n, ne, nf, d⟩
  · have hfn : X.fn x = true := by
      rcases hf with z | z
      · exact z
      · rw [z] at hk; cases hk
    obtain ⟨c, hc⟩ := I.ok.has x (.inl hk)
    obtain ⟨w', z⟩ := I.cell x c hc
    refine wpAny_storeName_cell I.ok.kind hk hc z (fun h' hc' hs => ?_)
    obtain ⟨oc, hoc, hocd⟩ := id z
    refine h { s with heap := h' } ⟨I.ok, I.os, I.bare, ⟨fun b o e n hb hx => ?_, fun b o e n hb hx => ?_, I.base.free, fun b o e hx => ?_, I.base.tups, I.base.frzs, I.base.tbls⟩, ⟨m, hn.sameBut hs (Ne.symm (cne x c hc)), fun j y v' e1 e2 e3 => ?_⟩, fun y c' e => ?_, I.free, I.freeC, fun p hp => ?_, tracked ⟨oc, hoc, I.freeC x c hc⟩ hs, by simpa using I.len⟩ ⟨c, hs, .inr hc⟩
    · exact (hs.2 b (Nat.ne_of_lt (Nat.lt_of_lt_of_le (Heap.lt_size e) (I.ok.cab x c hfn hc)))).trans (I.base.keep b o e n hb hx)
    · obtain ⟨sl, e1⟩ := I.base.slot b o e n hb hx
      exact ⟨sl, (hs.2 b (Nat.ne_of_lt (Nat.lt_of_lt_of_le (Heap.lt_size e) (I.ok.cab x c hfn hc)))).trans e1⟩
    · obtain ⟨o', e1⟩ := I.base.there b o e hx
      exact ⟨o', (hs.2 b (Nat.ne_of_lt (Nat.lt_of_lt_of_le (Heap.lt_size e) (I.ok.cab x c hfn hc)))).trans e1⟩
    · by_cases hj : j = i
      · subst hj
        rw [hi] at e1; cases e1
        rw [List.getElem?_set_self hiσ] at e2
        cases e2
        exact ⟨u, r, .inr ⟨.inl hk, c, hc, hc'⟩⟩
      · rw [List.getElem?_set_ne (Ne.symm hj)] at e2
        obtain ⟨u', r', q⟩ := hl j y v' e1 e2 e3
        refine ⟨u', r', ?_⟩
        rcases q with q | ⟨k, c', e, z'⟩
        · exact .inl q
        · refine .inr ⟨k, c', e, z'.sameBut hs ?_⟩
          rintro rfl
          exact hj (nodup_ix hN e1 (I.ok.inj _ _ _ e hc ▸ hi))
    · by_cases hcc : c' = c
      · subst hcc; exact ⟨_, hc'⟩
      · obtain ⟨w2, z2⟩ := I.cell y c' e
        exact ⟨w2, z2.sameBut hs hcc⟩
    · obtain ⟨e, n, ne, nf, d⟩ := I.pin p hp
      refine ⟨(hs.2 p.1 ?_).trans e, n, ne, nf, d⟩
      intro q
      rw [q, hoc] at e
      have q' : oc = p.2 := Option.some.inj e
      exact d w' (by rw [← q']; exact hocd)
theorem store_ok {M : Model} {A : Around} {E : Value → Shared → Prop} {i : Nat} {x : Str} {v : V} {u : Value} {Q : Unit → Shared → Prop} (I : Inv X pins σ H s) (hN : X.N.Nodup) (hi : X.N[i]? = some x) (hx : Loc X.env.scope x) (r : RelV v u)
    (h : ∀ s', Inv X pins (σ.set i (some v)) H s' → Q () s') (hf : X.fn x = true ∨ X.env.scope.names.lookup x = some .local := by first | exact .inl rfl | exact .inr rfl | assumption) : wpAny M A (storeName X.env x u) Q E s :=
  store_ok2 I hN hi hx r (fun s' I' _ => h s' I') hf
theorem Inv.call' {s' : Shared} {ch : List Addr} (I : Inv X pins σ H s) (ho : s'.os = s.os) (u : Un (frs X.stack) ch H H' s.heap s'.heap) (hok : HOk X.prog X.w H' s'.heap) (hg : AllBare s'.gens)
    (hch : ∀ b ∈ ch, (b ∈ X.ex ∨ X.s₀.heap.objs.size ≤ b) ∧ b ≠ X.env.locals ∧ (∀ x c, X.env.cells.lookup x = some c → c ≠ b) ∧ ∀ p ∈ X.pn ++ pins, p.1 ≠ b) : Inv X pins σ H' s' := by
  obtain ⟨h', g', d', t', o'⟩ := s'
  have e : o' = s.os := ho
  subst e
  exact I.call (g' := g') (t' := t') (d' := d') u hok hg hch
end
abbrev XK := Value → Option Addr → Hp → Prop
abbrev St := List (Option V)
abbrev VK := V → Hp → Prop
abbrev TE := St → Hp → VK → Prop
abbrev TT := St → Hp → (Bool → Hp → Prop) → Prop
abbrev TA := St → Hp → (List V → Hp → Prop) → Prop
structure Ends where
  nx : St → Hp → Prop
  rt : VK
  bk : St → Hp → Prop := fun _ _ => False
  ct : St → Hp → Prop := fun _ _ => False
abbrev TS := Ends → St → Hp → Prop
def EP (X : Cx) (pins : List (Addr × Obj)) (σ : St) (Q : VK) (u : Value) (s' : Shared) : Prop := ∃ v H', Inv X pins σ H' s' ∧ RelV v u ∧ Q v H'
def TP (X : Cx) (pins : List (Addr × Obj)) (σ : St) (Q : Bool → Hp → Prop) (b : Bool) (s' : Shared) : Prop := ∃ H', Inv X pins σ H' s' ∧ Q b H'
def AP (X : Cx) (pins : List (Addr × Obj)) (σ : St) (Q : List V → Hp → Prop) (us : List Value) (s' : Shared) : Prop := ∃ vs H', Inv X pins σ H' s' ∧ Vals vs us ∧ Q vs H'
def SP (X : Cx) (pins : List (Addr × Obj)) (D : Ends) (f : Flow) (s' : Shared) : Prop :=
  match f with
  | .next => ∃ σ' H', Inv X pins σ' H' s' ∧ D.nx σ' H'
  | .brk => ∃ σ' H', Inv X pins σ' H' s' ∧ D.bk σ' H'
  | .cont => ∃ σ' H', Inv X pins σ' H' s' ∧ D.ct σ' H'
  | .ret u => ∃ v σ' H', Inv X pins σ' H' s' ∧ RelV v u ∧ D.rt v H'
def PE (X : Cx) (e : Expr) (t : TE) : Prop :=
  ∀ (pins : List (Addr × Obj)) (s : Shared) (σ : St) (H : Hp) (Q : VK), Inv X pins σ H s → t σ H Q → wpAny (model X.prog X.w) X.A (eval e X.env) (EP X pins σ Q) X.xe s
def PT (X : Cx) (e : Expr) (t : TT) : Prop :=
  ∀ (pins : List (Addr × Obj)) (s : Shared) (σ : St) (H : Hp) (Q : Bool → Hp → Prop), Inv X pins σ H s → t σ H Q → wpAny (model X.prog X.w) X.A (isTrue e X.env (eval e X.env)) (TP X pins σ Q) X.xe s
def PW (X : Cx) (e : Expr) (t : TT) : Prop :=
  ∀ (whole : Sem Value) (pins : List (Addr × Obj)) (s : Shared) (σ : St) (H : Hp) (Q : Bool → Hp → Prop), Inv X pins σ H s → t σ H Q → wpAny (model X.prog X.w) X.A (isTrue e X.env whole) (TP X pins σ Q) X.xe s
theorem PW.pt {X : Cx} {e : Expr} {t : TT} (h : PW X e t) : PT X e t := h _
def PA (X : Cx) (es : List Expr) (t : TA) : Prop :=
  ∀ (pos : Pos) (pins : List (Addr × Obj)) (s : Shared) (σ : St) (H : Hp) (Q : List V → Hp → Prop), Inv X pins σ H s → t σ H Q → wpAny (model X.prog X.w) X.A (spliced (backTo pos (starEach es X.env))) (AP X pins σ Q) X.xe s
def PS (X : Cx) (st : Stmt) (t : TS) : Prop :=
  ∀ (pins : List (Addr × Obj)) (s : Shared) (σ : St) (H : Hp) (D : Ends), Inv X pins σ H s → t D σ H → wpAny (model X.prog X.w) X.A (exec st X.env) (SP X pins D) X.xe s
def PSs (X : Cx) (st : List Stmt) (t : TS) : Prop :=
  ∀ (pins : List (Addr × Obj)) (s : Shared) (σ : St) (H : Hp) (D : Ends), Inv X pins σ H s → t D σ H → wpAny (model X.prog X.w) X.A (execs st X.env) (SP X pins D) X.xe s
theorem thn {α : Type} {t : Sem α} {Q Q' : α → Shared → Prop} {M : Model} {A : Around} {E : Value → Shared → Prop} {s : Shared} (h : wpAny M A t Q E s) (hQ : ∀ a s, Q a s → Q' a s) : wpAny M A t Q' E s := wpAny_mono h hQ fun _ _ x => x
end L2
namespace L2
open PySem PySem.Spec PyProof.Rows
section
variable {X : Cx}
def tVar (i : Nat) : TE := fun σ H Q => ∃ v, σ[i]? = some (some v) ∧ Q v H
def tC (v : V) : TE := fun _ H Q => Q v H
theorem pe_var {i : Nat} {x : Str} {pos : Pos} (hN : X.N[i]? = some x) (hv : Vis X.env.scope x) (hd : (x == ("__debug__" : Str)) = false := by decide) (hcd : (x == ("__classdict__" : Str)) = false := by decide) : PE X (.Name x pos) (tVar i) := by
  intro pins s σ H Q I h
  obtain ⟨v, e, h⟩ := h
  obtain ⟨m, hn, hl⟩ := I.loc
  obtain ⟨u, r, l⟩ := hl i x v hN e hv
  have fin : EP X pins σ Q u s := ⟨v, H, I, r, h⟩
  rcases l with ⟨hk, hm⟩ | ⟨hk, c, hc, hcell⟩
  · exact wpAny_Name (wpAny_loadName_local I.ok.kind hk hn hm fin) hd
  · rcases hk with hk | hk
    · exact wpAny_Name (wpAny_loadName_cell I.ok.kind hk hc hcell fin) hd
    · exact wpAny_Name (wpAny_loadName_free I.ok.kind hk hc hcell fin hcd) hd
theorem pe_int {i j pos} : PE X (.Constant (.int i) j pos) (tC (.int i)) := fun _ _ _ H _ I h => wpAny_Constant_int ⟨.int i, H, I.tok _, ⟨_, rfl⟩, h⟩
theorem pe_bl {b j pos} : PE X (.Constant (.bool b) j pos) (tC (.bl b)) := fun _ _ _ H _ I h => Constant_bool ⟨.bl b, H, I, rfl, h⟩
theorem pe_non {j pos} : PE X (.Constant .none j pos) (tC .non) := fun _ _ _ H _ I h => Constant_none ⟨.non, H, I, rfl, h⟩
theorem pe_str {x j pos} : PE X (.Constant (.str x) j pos) (tC (.str x)) := fun _ _ _ H _ I h => Calls.Constant_str ⟨.str x, H, I.tok _, ⟨_, rfl⟩, h⟩
def Gl (X : Cx) (x : Str) : Prop := X.env.kindOf x = some .globalImplicit
theorem ld_glob {E : Value → Shared → Prop} {pins : List (Addr × Obj)} {s : Shared} {σ : St} {H : Hp} {x : Str} {u : Value} {pos : Pos} {Q : Value → Shared → Prop} (I : Inv X pins σ H s) (hg : Gl X x) (hm : X.mg x = some u) (h : Q u s)
    (hd : (x == ("__debug__" : Str)) = false := by decide) : wpAny (model X.prog X.w) X.A (eval (.Name x pos) X.env) Q E s :=
  Calls.Name_function_global I.ok.kind hg (Calls.loadGlobal_global (by rw [I.ok.glob]; exact I.mod.glob.keeps I.bk) hm h) hd
theorem ld_blt {E : Value → Shared → Prop} {pins : List (Addr × Obj)} {s : Shared} {σ : St} {H : Hp} {x : Str} {u : Value} {pos : Pos} {Q : Value → Shared → Prop} (I : Inv X pins σ H s) (hg : Gl X x) (hm : X.mg x = none) (hv : bootBuiltins x = some u) (h : Q u s)
    (hn : x ≠ "__name__" := by decide) (hd : (x == ("__debug__" : Str)) = false := by decide) : wpAny (model X.prog X.w) X.A (eval (.Name x pos) X.env) Q E s := by
  obtain ⟨mb, h1, h2⟩ := I.mod.blt
  exact Calls.Name_function_global I.ok.kind hg (Calls.loadGlobal_builtin (by rw [I.ok.glob]; exact I.mod.glob.keeps I.bk) hm (by rw [I.ok.blt]; exact h1.keeps I.bk) ((h2 x hn).trans hv) h) hd
theorem pe_glob {x : Str} {v : V} {u : Value} {pos : Pos} (hg : Gl X x) (hm : X.mg x = some u) (r : RelV v u) (hd : (x == ("__debug__" : Str)) = false := by decide) : PE X (.Name x pos) (tC v) :=
  fun _ _ _ H _ I h => ld_glob I hg hm ⟨v, H, I, r, h⟩ hd
theorem pe_bltn {x : Str} {v : V} {u : Value} {pos : Pos} (hg : Gl X x) (hm : X.mg x = none) (hv : bootBuiltins x = some u) (r : RelV v u) (hn : x ≠ "__name__" := by decide) (hd : (x == ("__debug__" : Str)) = false := by decide) : PE X (.Name x pos) (tC v) :=
  fun _ _ _ H _ I h => ld_blt I hg hm hv ⟨v, H, I, r, h⟩ hn hd
variable {a b : Expr} {ta tb : TE} {pos : Pos}
def tB (t : TE) : TT := fun σ H Q => t σ H fun x H1 => ∃ c, x = .bl c ∧ Q c H1
theorem pt_val {e : Expr} {t : TE} (h : PE X e t) (he : ∀ whole, isTrue e X.env whole = (do let v ← whole; standAt e.pos; holding [v] (truthy v)) := by intro _; rfl) : PT X e (tB t) := by
  intro pins s σ H Q I hw
  refine isTrue_plain (thn (h pins s σ H _ I hw) fun v s1 ⟨x, H1, I1, r1, q1⟩ => ?_) (he _)
  obtain ⟨d, rfl, q⟩ := q1
  cases r1
  exact wpAny_truthy_bool ⟨H1, I1, q⟩
variable {tA tB' : TT} {rest : List Expr}
def tAnd (t u : TT) : TT := fun σ H Q => t σ H fun c H1 => if c = true then u σ H1 Q else Q false H1
def tOr (t u : TT) : TT := fun σ H Q => t σ H fun c H1 => if c = true then Q true H1 else u σ H1 Q
def tNot (t : TT) : TT := fun σ H Q => t σ H fun c H1 => Q (!c) H1
theorem pw_and1 (ha : PT X a tA) : PW X (.BoolOp .And [a] pos) tA := by
  intro wh pins s σ H Q I h
  refine isTrue_and (thn (ha pins s σ H Q I h) fun c s1 e => ?_)
  cases c with
  | true => exact isTrue_and_nil e
  | false => exact e
theorem pw_or1 (ha : PT X a tA) : PW X (.BoolOp .Or [a] pos) tA := by
  intro wh pins s σ H Q I h
  refine isTrue_or (thn (ha pins s σ H Q I h) fun c s1 e => ?_)
  cases c with
  | false => exact isTrue_or_nil e
  | true => exact e
theorem pw_and (ha : PT X a tA) (hb : PW X (.BoolOp .And (b :: rest) pos) tB') : PW X (.BoolOp .And (a :: b :: rest) pos) (tAnd tA tB') := by
  intro wh pins s σ H Q I h
  refine isTrue_and (thn (ha pins s σ H _ I h) fun c s1 ⟨H1, I1, q1⟩ => ?_)
  cases c with
  | true => exact hb wh pins s1 σ H1 Q I1 q1
  | false => exact ⟨H1, I1, q1⟩
theorem pw_or (ha : PT X a tA) (hb : PW X (.BoolOp .Or (b :: rest) pos) tB') : PW X (.BoolOp .Or (a :: b :: rest) pos) (tOr tA tB') := by
  intro wh pins s σ H Q I h
  refine isTrue_or (thn (ha pins s σ H _ I h) fun c s1 ⟨H1, I1, q1⟩ => ?_)
  cases c with
  | true => exact ⟨H1, I1, q1⟩
  | false => exact hb wh pins s1 σ H1 Q I1 q1
theorem pt_not (ha : PT X a tA) : PT X (.UnaryOp .Not a pos) (tNot tA) := by
  intro pins s σ H Q I h
  exact isTrue_not (ha pins s σ H (fun c H1 => Q (!c) H1) I h)
def tAndV (ta tb : TE) : TE := fun σ H Q => ta σ H fun x H1 => ∃ c, x = .bl c ∧ if c = true then tb σ H1 Q else Q (.bl false) H1
def tOrV (ta tb : TE) : TE := fun σ H Q => ta σ H fun x H1 => ∃ c, x = .bl c ∧ if c = true then Q (.bl true) H1 else tb σ H1 Q
def tNotV (ta : TE) : TE := fun σ H Q => ta σ H fun x H1 => ∃ c, x = .bl c ∧ Q (.bl (!c)) H1
theorem pe_one {op} {t : TE} (h : PE X a t) : PE X (.BoolOp op [a] pos) t := fun pins s σ H Q I hw => BoolOp_one (h pins s σ H Q I hw)
theorem pe_and (ha : PE X a ta) (hb : PE X (.BoolOp .And (b :: rest) pos) tb) : PE X (.BoolOp .And (a :: b :: rest) pos) (tAndV ta tb) := by
  intro pins s σ H Q I h
  refine BoolOp_and (thn (ha pins s σ H _ I h) fun v s1 ⟨x, H1, I1, r1, q1⟩ => ?_)
  obtain ⟨c, rfl, q1⟩ := q1
  cases r1
  refine wpAny_truthy_bool ?_
  cases c with
  | true => exact hb pins s1 σ H1 Q I1 q1
  | false => exact ⟨.bl false, H1, I1, rfl, q1⟩
theorem pe_or (ha : PE X a ta) (hb : PE X (.BoolOp .Or (b :: rest) pos) tb) : PE X (.BoolOp .Or (a :: b :: rest) pos) (tOrV ta tb) := by
  intro pins s σ H Q I h
  refine BoolOp_or (thn (ha pins s σ H _ I h) fun v s1 ⟨x, H1, I1, r1, q1⟩ => ?_)
  obtain ⟨c, rfl, q1⟩ := q1
  cases r1
  refine wpAny_truthy_bool ?_
  cases c with
  | false => exact hb pins s1 σ H1 Q I1 q1
  | true => exact ⟨.bl true, H1, I1, rfl, q1⟩
theorem pe_not (ha : PE X a ta) : PE X (.UnaryOp .Not a pos) (tNotV ta) := by
  intro pins s σ H Q I h
  refine UnaryOp_ (thn (ha pins s σ H _ I h) fun v s1 ⟨x, H1, I1, r1, q1⟩ => ?_)
  obtain ⟨c, rfl, q1⟩ := q1
  cases r1
  exact not_of (wpAny_truthy_bool ⟨.bl (!c), H1, I1, rfl, q1⟩)
end
end L2
namespace L2
open PySem PySem.Spec PyProof.Rows
def SqL (K : PySem.W.Frag) (H : Hp) (a : Addr) (xs : List V) : Prop :=
  Rd H a (.lst xs) ∨
    ∃ (o : Obj) (its : Array Value) (n : Nat), K.lookup a = some o ∧ o.cls = .type "list" ∧ o.dict = none ∧ o.data = .seq its n ∧ its.size ≤ sizeLine ∧ Vals xs its.toList
def SqT (K : PySem.W.Frag) (H : Hp) (a : Addr) (xs : List V) : Prop :=
  Rd H a (.tup xs) ∨
    ∃ (o : Obj) (its : Array Value) (n : Nat), K.lookup a = some o ∧ o.cls = .type "tuple" ∧ o.data = .seq its n ∧ its.size ≤ sizeLine ∧ Vals xs its.toList
def absV : Value → Option V
  | .none => some .non
  | .bool b => some (.bl b)
  | .int i _ => some (.int i)
  | .str x _ => some (.str x)
  | .bytes b _ => some (.byt b)
  | .float b _ => some (.flt b)
  | .ref a => some (.ref a)
  | .type n => some (.ty n)
  | _ => none
theorem RelV.abs {x : V} {u : Value} (r : RelV x u) : absV u = some x := by
  cases x with
  | non => cases r; rfl
  | bl _ => cases r; rfl
  | int _ => obtain ⟨t, rfl⟩ := r; rfl
  | str _ => obtain ⟨t, rfl⟩ := r; rfl
  | byt _ => obtain ⟨t, rfl⟩ := r; rfl
  | flt _ => obtain ⟨t, rfl⟩ := r; rfl
  | ref _ => cases r; rfl
  | ty _ => cases r; rfl
theorem RelV.inj {x y : V} {u : Value} (r : RelV x u) (q : RelV y u) : x = y := Option.some.inj (r.abs.symm.trans q.abs)
theorem Vals.inj : ∀ {xs ys : List V} {us : List Value}, Vals xs us → Vals ys us → xs = ys
  | _, _, _, .nil, .nil => rfl
  | _, _, _, .cons r t, .cons r' t' => by rw [r.inj r', Vals.inj t t']
section
variable {X : Cx} {pins : List (Addr × Obj)} {σ : St} {H : Hp} {s : Shared} {a : Addr} {xs ys : List V}
theorem SqL.of {K : PySem.W.Frag} (h : H a = some (.lst xs)) : SqL K H a xs := .inl (.inl h)
theorem SqT.of {K : PySem.W.Frag} (h : H a = some (.tup xs)) : SqT K H a xs := .inl (.inl h)
theorem Inv.list (I : Inv X pins σ H s) (h : SqL X.K H a xs) : ∃ its : List Value, Vals xs its ∧ PlainL s.heap a its.toArray ∧ xs.length ≤ sizeLine := by
  rcases h with h | ⟨o, its, n, hk, hc, hd, hs, hz, r⟩
  · obtain ⟨z, its, n, r, e⟩ := h.ok I.hok
    exact ⟨its, r, ⟨_, n, e, rfl, rfl, rfl⟩, z⟩
  · refine ⟨its.toList, r, ⟨o, n, I.kIn a o hk, hc, hd, by simpa using hs⟩, ?_⟩
    have e := r.length
    simp only [Array.length_toList] at e
    omega
theorem Inv.tuple (I : Inv X pins σ H s) (h : SqT X.K H a xs) : ∃ its : List Value, Vals xs its ∧ IsTup s.heap a its.toArray ∧ xs.length ≤ sizeLine := by
  rcases h with h | ⟨o, its, n, hk, hc, hs, hz, r⟩
  · obtain ⟨z, its, r, p⟩ := h.ok I.hok
    exact ⟨its, r, p.1, z⟩
  · refine ⟨its.toList, r, ⟨o, I.kIn a o hk, hc, n, by simpa using hs⟩, ?_⟩
    have e := r.length
    simp only [Array.length_toList] at e
    omega
theorem Inv.list_inj (I : Inv X pins σ H s) (h : SqL X.K H a xs) (h' : SqL X.K H a ys) : xs = ys := by
  obtain ⟨its, r, ⟨o, n, e, _, _, d⟩, _⟩ := I.list h
  obtain ⟨its', r', ⟨o', n', e', _, _, d'⟩, _⟩ := I.list h'
  rw [e] at e'; cases e'
  rw [d] at d'
  injection d' with d1 _
  have : its = its' := by simpa using congrArg Array.toList d1
  subst this
  exact r.inj r'
theorem Inv.tuple_inj (I : Inv X pins σ H s) (h : SqT X.K H a xs) (h' : SqT X.K H a ys) : xs = ys := by
  obtain ⟨its, r, ⟨o, e, _, n, d⟩, _⟩ := I.tuple h
  obtain ⟨its', r', ⟨o', e', _, n', d'⟩, _⟩ := I.tuple h'
  rw [e] at e'; cases e'
  rw [d] at d'
  injection d' with d1 _
  have : its = its' := by simpa using congrArg Array.toList d1
  subst this
  exact r.inj r'
end
abbrev Cx.wish (X : Cx) (E : Value → Shared → Prop) : Cx := { X with xe := E }
abbrev Cx.nox (X : Cx) : Cx := X.wish fun _ _ => False
theorem Cx.Ok.wish {X : Cx} (ok : X.Ok) (E : Value → Shared → Prop) : (X.wish E).Ok :=
  ⟨ok.mod, ok.kind, ok.glob, ok.blt, ok.above, ok.inj, ok.has, ok.cab, ok.hd, ok.frames, ok.stk, ok.exf, ok.bs, ok.bsz, ok.noex, ok.exfs, ok.funs, ok.frf⟩
theorem Cx.Ok.unwish {X : Cx} {E : Value → Shared → Prop} (ok : (X.wish E).Ok) : X.Ok :=
  ⟨ok.mod, ok.kind, ok.glob, ok.blt, ok.above, ok.inj, ok.has, ok.cab, ok.hd, ok.frames, ok.stk, ok.exf, ok.bs, ok.bsz, ok.noex, ok.exfs, ok.funs, ok.frf⟩
section
variable {X : Cx} {pins : List (Addr × Obj)} {σ : St} {H : Hp} {s : Shared} {E : Value → Shared → Prop}
theorem Inv.wish (I : Inv X pins σ H s) (E : Value → Shared → Prop) : Inv (X.wish E) pins σ H s := ⟨I.ok.wish E, I.os, I.bare, I.base, I.loc, I.cell, I.free, I.freeC, I.pin, I.hok, I.len⟩
theorem Inv.unwish (I : Inv (X.wish E) pins σ H s) : Inv X pins σ H s := ⟨I.ok.unwish, I.os, I.bare, I.base, I.loc, I.cell, I.free, I.freeC, I.pin, I.hok, I.len⟩
theorem SP.unwish {D : Ends} {f : Flow} {s' : Shared} (h : SP (X.wish E) pins D f s') : SP X pins D f s' := by
  cases f with
  | next => obtain ⟨σ', H', I, q⟩ := h; exact ⟨σ', H', I.unwish, q⟩
  | brk => obtain ⟨σ', H', I, q⟩ := h; exact ⟨σ', H', I.unwish, q⟩
  | cont => obtain ⟨σ', H', I, q⟩ := h; exact ⟨σ', H', I.unwish, q⟩
  | ret u => obtain ⟨v, σ', H', I, r, q⟩ := h; exact ⟨v, σ', H', I.unwish, r, q⟩
theorem PSs.nox {st : List Stmt} {t : TS} (h : PSs X.nox st t) : PSs X st t := fun pins s σ H D I hw =>
  wpAny_mono (h pins s σ H D (I.wish _) hw) (fun _ _ q => q.unwish) fun _ _ z => False.elim z
end
section
variable {X : Cx} {st : Stmt} {rest : List Stmt} {t u : TS} {e : Expr} {te : TE} {pos : Pos}
def tNext : TS := fun D σ H => D.nx σ H
def tSeq (t u : TS) : TS := fun D σ H => t { D with nx := u D } σ H
theorem pss_nil : PSs X [] tNext := fun _ _ σ H _ I h => wpAny_execs_nil ⟨σ, H, I, h⟩
theorem pss_cons (h1 : PS X st t) (h2 : PSs X rest u) : PSs X (st :: rest) (tSeq t u) := by
  intro pins s σ H D I h
  refine wpAny_execs_cons (thn (h1 pins s σ H { D with nx := u D } I h) fun f s1 q => ?_)
  cases f with
  | next =>
    obtain ⟨σ', H', I', q⟩ := q
    exact h2 pins s1 σ' H' D I' q
  | ret v => exact q
  | brk => exact q
  | cont => exact q
theorem pss_one (h1 : PS X st t) : PSs X [st] t := by
  intro pins s σ H D I h
  refine wpAny_execs_cons (thn (h1 pins s σ H D I h) fun f s1 q => ?_)
  cases f with
  | next => exact wpAny_execs_nil q
  | ret v => exact q
  | brk => exact q
  | cont => exact q
theorem Inv.quiet {pins : List (Addr × Obj)} {σ : St} {H : Hp} {s : Shared} (I : Inv X pins σ H s) : interactive X.env = false := by simp [interactive, I.ok.kind]
def tDrop (te : TE) : TS := fun D σ H => te σ H fun _ H1 => D.nx σ H1
theorem ps_expr (he : PE X e te) (hs : swapsWith e none pos.line X.env = pure false := by rfl) : PS X (.Expr e pos) (tDrop te) := by
  intro pins s σ H D I h
  exact wpAny_Expr_any (thn (he pins s σ H _ I h) fun v s1 ⟨x, H1, I1, r1, q1⟩ => ⟨σ, H1, I1, q1⟩) I.quiet hs
def tRet (te : TE) : TS := fun D σ H => te σ H D.rt
theorem ps_ret (he : PE X e te) : PS X (.Return (some e) pos) (tRet te) := by
  intro pins s σ H D I h
  exact wpAny_Return_some (thn (he pins s σ H _ I h) fun v s1 ⟨x, H1, I1, r1, q1⟩ => ⟨x, σ, H1, I1, r1, q1⟩)
def tIfS (c : TT) (t u : TS) : TS := fun D σ H => c σ H fun b H1 => if b = true then t D σ H1 else u D σ H1
theorem ps_if {c : Expr} {a b : List Stmt} {tc : TT} (hc : PT X c tc) (ha : PSs X a t) (hb : PSs X b u) : PS X (.If c a b pos) (tIfS tc t u) := by
  intro pins s σ H D I h
  refine wpAny_If (thn (hc pins s σ H _ I h) fun d s1 ⟨H1, I1, q1⟩ => ?_)
  cases d with
  | true => exact ha pins s1 σ H1 D I1 q1
  | false => exact hb pins s1 σ H1 D I1 q1
end
abbrev TG := V → St → Hp → (St → Hp → Prop) → Prop
abbrev TGs := List V → St → Hp → (St → Hp → Prop) → Prop
def PG (X : Cx) (target : Expr) (t : TG) : Prop :=
  ∀ (pins : List (Addr × Obj)) (s : Shared) (σ : St) (H : Hp) (v : V) (u : Value) (Q : St → Hp → Prop), Inv X pins σ H s → RelV v u → t v σ H Q →
    wpAny (model X.prog X.w) X.A (assign target X.env u) (fun _ s' => ∃ σ' H', Inv X pins σ' H' s' ∧ Q σ' H') X.xe s
def PGs (X : Cx) (ts : List Expr) (t : TGs) : Prop :=
  ∀ (pins : List (Addr × Obj)) (s : Shared) (σ : St) (H : Hp) (vs : List V) (us : List Value) (Q : St → Hp → Prop), Inv X pins σ H s → Vals vs us → t vs σ H Q →
    wpAny (model X.prog X.w) X.A (assignInOrder ((assignEach ts X.env).map (·.2)) us) (fun _ s' => ∃ σ' H', Inv X pins σ' H' s' ∧ Q σ' H') X.xe s
abbrev TSet := V → V → V → Hp → (Hp → Prop) → Prop
def PSet (X : Cx) (t : TSet) : Prop :=
  ∀ (pins : List (Addr × Obj)) (s : Shared) (σ : St) (H : Hp) (o i v : V) (ov iv u : Value) (Q : Hp → Prop), Inv X pins σ H s → RelV o ov → RelV i iv → RelV v u → t o i v H Q →
    wpAny (model X.prog X.w) X.A (setItem ov iv u) (fun _ s' => ∃ H', Inv X pins σ H' s' ∧ Q H') X.xe s
abbrev TIp := V → V → Hp → VK → Prop
def PIp (X : Cx) (op : Operator) (t : TIp) : Prop :=
  ∀ (pins : List (Addr × Obj)) (s : Shared) (σ : St) (H : Hp) (x y : V) (v u : Value) (Q : VK), Inv X pins σ H s → RelV x v → RelV y u → t x y H Q →
    wpAny (model X.prog X.w) X.A (inplaceOp op v u) (EP X pins σ Q) X.xe s
section
variable {X : Cx} {pos : Pos}
def gName (i : Nat) : TG := fun v σ H Q => Q (σ.set i (some v)) H
theorem pg_name {i : Nat} {x : Str} (hN : X.N.Nodup) (hi : X.N[i]? = some x) (hx : Loc X.env.scope x) (hf : X.fn x = true ∨ X.env.scope.names.lookup x = some .local := by first | exact .inl rfl | exact .inr rfl | assumption) : PG X (.Name x pos) (gName i) := by
  intro pins s σ H v u Q I r h
  exact wpAny_assign_Name (store_ok I hN hi hx r (fun s' I' => ⟨_, H, I', h⟩) hf)
def gNil : TGs := fun vs σ H Q => vs = [] ∧ Q σ H
def gCons (t : TG) (u : TGs) : TGs := fun vs σ H Q => ∃ v r, vs = v :: r ∧ t v σ H fun σ' H' => u r σ' H' Q
theorem pgs_nil : PGs X [] gNil := by
  intro pins s σ H vs us Q I r h
  obtain ⟨e, h⟩ := h
  subst e
  cases r
  exact assignInOrder_nil ⟨σ, H, I, h⟩
theorem pgs_cons {e : Expr} {es : List Expr} {t : TG} {u : TGs} (h1 : PG X e t) (h2 : PGs X es u)
    (hs : (assignEach (e :: es) X.env).map (·.2) = assign e X.env :: (assignEach es X.env).map (·.2) := by rfl) : PGs X (e :: es) (gCons t u) := by
  intro pins s σ H vs us Q I r h
  obtain ⟨v, vr, e1, h⟩ := h
  subst e1
  cases r with
  | cons r rr =>
    rw [hs]
    refine assignInOrder_cons (thn (h1 pins s σ H _ _ _ I r h) fun _ s1 ⟨σ1, H1, I1, q1⟩ => ?_)
    exact h2 pins s1 σ1 H1 _ _ Q I1 rr q1
def gTup (K : PySem.W.Frag) (n : Nat) (t : TGs) : TG := fun v σ H Q => ∃ a xs, v = .ref a ∧ SqT K H a xs ∧ xs.length = n ∧ t xs σ H Q
theorem pg_tup {es : List Expr} {k : Nat} {t : TGs} {n : Nat} (hc : X.calm = true) (h : PGs X es t)
    (hn : (assignEach es X.env).length = n := by rfl) (hst : (assignEach es X.env).findIdx? (·.1) = none := by rfl) : PG X (.Tuple es k pos) (gTup X.K n t) := by
  intro pins s σ H v u Q I r hw
  obtain ⟨a, xs, e1, hq, hl, hw⟩ := hw
  subst e1
  cases r
  obtain ⟨its, rv, ht, hz⟩ := I.tuple hq
  refine assign_Tuple_tuple (I.ok.hd hc) ht (by simp [hn, ← hl, rv.length]) hst fun h' hx => ?_
  have I1 : Inv X pins σ H { s with heap := h' } := I.kept (t' := s.toks) fun b o e => hx b o (Nat.ne_of_lt (Heap.lt_size e)) e
  exact h pins _ σ H xs _ Q I1 (by simpa using rv) hw
def gSub (to ti : TE) (t : TSet) : TG := fun v σ H Q => to σ H fun o H1 => ti σ H1 fun i H2 => t o i v H2 fun H3 => Q σ H3
theorem pg_sub {o i : Expr} {to ti : TE} {t : TSet} (ho : PE X o to) (hi : PE X i ti) (hs : PSet X t)
    (ha : ∀ v, assign (.Subscript o i pos) X.env v = (do
      let ov ← holding [v] (eval o X.env)
      let iv ← holding [v, ov] (eval i X.env)
      standAt pos
      holding [v, ov, iv] (setItem ov iv v)
      release [v, ov, iv] []) := by intro _; rfl) : PG X (.Subscript o i pos) (gSub to ti t) := by
  intro pins s σ H v u Q I r h
  rw [ha]
  refine wpAny_bind (wpAny_holding (thn (ho pins s σ H _ I h) fun ov s1 ⟨x, H1, I1, r1, q1⟩ => ?_))
  refine wpAny_bind (wpAny_holding (thn (hi pins s1 σ H1 _ I1 q1) fun iv s2 ⟨y, H2, I2, r2, q2⟩ => ?_))
  refine wpAny_bind (wpAny_standAt (wpAny_bind (wpAny_holding (thn (hs pins s2 σ H2 x y v ov iv u _ I2 r1 r2 r q2) fun _ s3 ⟨H3, I3, q3⟩ => ?_))))
  exact wpAny_release ⟨σ, H3, I3, q3⟩
def tAsg (te : TE) (g : TG) : TS := fun D σ H => te σ H fun x H1 => g x σ H1 D.nx
theorem ps_asg {tg e : Expr} {te : TE} {g : TG} (he : PE X e te) (hg : PG X tg g) (hs : swapsWithSole [tg] e pos.line X.env = pure false := by rfl) (hw : swappedStores [tg] e X.env = pure none := by rfl)
    (h1 : (assignEach [tg] X.env).map (·.2) = [assign tg X.env] := by rfl) : PS X (.Assign [tg] e pos) (tAsg te g) := by
  intro pins s σ H D I h
  refine wpAny_Assign_stores (thn (he pins s σ H _ I h) fun v s1 ⟨x, H1, I1, r1, q1⟩ => ?_) hs hw
  rw [h1]
  exact thn (hg pins s1 σ H1 x v _ I1 r1 q1) fun _ s2 q => q
theorem ps_set {i : Nat} {x : Str} {e : Expr} {te : TE} {pos' : Pos} (hN : X.N.Nodup) (hi : X.N[i]? = some x) (hx : Loc X.env.scope x) (he : PE X e te) (hs : swapsWith e (some (.Name x pos')) pos.line X.env = pure false := by rfl) (hf : X.fn x = true ∨ X.env.scope.names.lookup x = some .local := by first | exact .inl rfl | exact .inr rfl | assumption) :
    PS X (.Assign [.Name x pos'] e pos) (tAsg te (gName i)) := by
  intro pins s σ H D I h
  refine wpAny_Assign_Name (thn (he pins s σ H _ I h) fun v s1 ⟨y, H1, I1, r1, q1⟩ => ?_) hs
  exact store_ok I1 hN hi hx r1 (fun s2 I2 => ⟨_, H1, I2, q1⟩) hf
def tAug (i : Nat) (te : TE) (ti : TIp) : TS := fun D σ H => ∃ x, σ[i]? = some (some x) ∧ te σ H fun y H1 => ti x y H1 fun z H2 => D.nx (σ.set i (some z)) H2
theorem ps_aug {i : Nat} {x : Str} {e : Expr} {te : TE} {op : Operator} {ti : TIp} {pos' : Pos} (hN : X.N.Nodup) (hi : X.N[i]? = some x) (hx : Loc X.env.scope x) (he : PE X e te) (ho : PIp X op ti) (hf : X.fn x = true ∨ X.env.scope.names.lookup x = some .local := by first | exact .inl rfl | exact .inr rfl | assumption) :
    PS X (.AugAssign (.Name x pos') op e pos) (tAug i te ti) := by
  intro pins s σ H D I h
  obtain ⟨v, e1, h⟩ := h
  obtain ⟨m, hn, hl⟩ := I.loc
  have vis : Vis X.env.scope x := by rcases hx with k | k; exact .inl k; exact .inr (.inl k)
  obtain ⟨u, r, l⟩ := hl i x v hi e1 vis
  refine wpAny_AugAssign_Name ?_
  have go : wpAny (model X.prog X.w) X.A (eval e X.env) (fun w s₂ => wpAny (model X.prog X.w) X.A (inplaceOp op u w) (fun r s₃ => wpAny (model X.prog X.w) X.A (storeName X.env x r) (fun _ => SP X pins D .next) X.xe s₃) X.xe s₂) X.xe s := by
    refine thn (he pins s σ H _ I h) fun w s1 ⟨y, H1, I1, r1, q1⟩ => ?_
    refine thn (ho pins s1 σ H1 v y u w _ I1 r r1 q1) fun z s2 ⟨zv, H2, I2, r2, q2⟩ => ?_
    exact store_ok I2 hN hi hx r2 (fun s3 I3 => ⟨_, H2, I3, q2⟩) hf
  rcases l with ⟨hk, hm⟩ | ⟨hk, c, hc, hcell⟩
  · exact wpAny_loadName_local I.ok.kind hk hn hm go
  · rcases hk with hk | hk
    · exact wpAny_loadName_cell I.ok.kind hk hc hcell go
    · rcases hx with k | k
      · have : X.env.scope.names.lookup x = some .free := hk
        rw [k] at this; cases this
      · have : X.env.scope.names.lookup x = some .free := hk
        rw [k] at this; cases this
def ipI (f : Int → Int → Int) : TIp := fun x y H Q => ∃ i j, x = .int i ∧ y = .int j ∧ Q (.int (f i j)) H
theorem ip_add : PIp X .Add (ipI fun i j => i + j) := by
  intro pins s σ H x y v u Q I r1 r2 h
  obtain ⟨i, j, e1, e2, q⟩ := h
  subst e1; subst e2
  obtain ⟨t, rfl⟩ := r1
  obtain ⟨t', rfl⟩ := r2
  exact iadd_int ⟨.int _, H, I.tok _, ⟨_, rfl⟩, q⟩
end
section
variable {X : Cx} {pos : Pos}
def tWhile (c : TT) (tb : TS) : TS := fun D σ H => ∃ W : Nat → St → Hp → Prop, (∃ m, W m σ H) ∧ ∀ m σ H, W m σ H →
  c σ H fun b H1 => if b = true then ∃ N : St → Hp → Prop, (∀ σ' H', N σ' H' → ∃ m', m' < m ∧ W m' σ' H') ∧ tb { D with nx := N, ct := N, bk := D.nx } σ H1 else D.nx σ H1
theorem ps_while {c : Expr} {body : List Stmt} {tc : TT} {tb : TS} (hp : PassesOwn (model X.prog X.w) X.A X.env X.xe) (hc : PT X c tc) (hb : PSs X body tb) : PS X (.While c body [] pos) (tWhile tc tb) := by
  intro pins s σ H D I h
  obtain ⟨W, ⟨m0, w0⟩, turn⟩ := h
  refine wpAny_While (codeAny_whileLoop (fun n s' => ∃ σ' H', Inv X pins σ' H' s' ∧ W n σ' H') ?_ m0 ⟨σ, H, I, w0⟩)
  rintro n s1 ⟨σ1, H1, I1, w1⟩
  refine wpAny_passesOwn hp (thn (hc pins s1 σ1 H1 _ I1 (turn n σ1 H1 w1)) fun b s2 ⟨H2, I2, q2⟩ => ?_)
  cases b with
  | true =>
    obtain ⟨N, hN, q2⟩ := q2
    rw [if_pos rfl]
    refine wpAny_passesOwn hp (thn (hb pins s2 σ1 H2 _ I2 q2) fun f s3 q3 => ?_)
    cases f with
    | next =>
      obtain ⟨σ3, H3, I3, n3⟩ := q3
      obtain ⟨m', hm, w3⟩ := hN σ3 H3 n3
      exact ⟨m', hm, σ3, H3, I3, w3⟩
    | cont =>
      obtain ⟨σ3, H3, I3, n3⟩ := q3
      obtain ⟨m', hm, w3⟩ := hN σ3 H3 n3
      exact ⟨m', hm, σ3, H3, I3, w3⟩
    | brk => exact q3
    | ret v => exact q3
  | false =>
    rw [if_neg Bool.false_ne_true]
    exact wpAny_execs_nil ⟨σ1, H2, I2, q2⟩
end
structure It where
  go : Nat → Hp → Prop
  yld : Nat → Hp → V → Hp → Prop
  stop : Nat → Hp → Prop
def FpOk (X : Cx) (pins : List (Addr × Obj)) (H : Hp) (b : Addr) : Prop :=
  H b = none ∧ b ≠ X.env.locals ∧ b ∉ X.fs ∧ (b ∈ X.ex ∨ X.s₀.heap.objs.size ≤ b) ∧ (∀ x c, X.env.cells.lookup x = some c → c ≠ b) ∧ ∀ p ∈ X.pn ++ pins, p.1 ≠ b
theorem Inv.fpOk {X : Cx} {pins : List (Addr × Obj)} {σ : St} {H H' : Hp} {s : Shared} {b : Addr} (I : Inv X pins σ H s) (hb : s.heap.objs.size ≤ b) (hn : H' b = none) : FpOk X pins H' b := by
  refine ⟨hn, Nat.ne_of_gt (Nat.lt_of_lt_of_le I.lt hb), I.nofs hb, .inr (Nat.le_trans I.sz hb), fun x c e z => ?_, fun p hp z => ?_⟩
  · obtain ⟨v, q⟩ := I.cell x c e
    exact absurd (Nat.lt_of_lt_of_le q.lt (by rw [z]; exact hb)) (Nat.lt_irrefl _)
  · exact absurd (Nat.lt_of_lt_of_le (Heap.lt_size (I.pin p hp).1) (by rw [z]; exact hb)) (Nat.lt_irrefl _)
structure Turn (P : Program) (w : World) (K : PySem.W.Frag) (tg : Expr) (J : It) (fp : List Addr) (it : Addr) (tn : Nat → Heap → Prop) : Prop where
  mem : it ∈ fp
  obj : ∀ i h, tn i h → ∀ b ∈ fp, ∃ o, h.get? b = some o ∧ ∀ v, o.data ≠ .cell v
  keep : ∀ i h h', tn i h → (∀ b ∈ fp, ∀ o, h.get? b = some o → h'.get? b = some o) → tn i h'
  item : ∀ (X : Cx), X.prog = P → X.w = w → X.K = K → X.calm = true → ∀ (i : Nat) (pins : List (Addr × Obj)) (s : Shared) (σ : St) (H : Hp) (E : Value → Shared → Prop), Inv X pins σ H s → (∀ b ∈ fp, FpOk X pins H b) → tn i s.heap → J.go i H →
    wpAny (model P w) X.A (pyNext (.ref it)) (fun r s1 => ∃ u, r = some u ∧
      wpAny (model P w) X.A (letOwnedTupleGo tg (.ref it) u) (fun _ s2 => ∃ x H', Inv X pins σ H' s2 ∧ RelV x u ∧ J.yld i H x H' ∧ tn (i + 1) s2.heap ∧ ∀ b ∈ fp, H' b = none) E s1) E s
  done : ∀ (X : Cx), X.prog = P → X.w = w → X.K = K → X.calm = true → ∀ (i : Nat) (pins : List (Addr × Obj)) (s : Shared) (σ : St) (H : Hp) (E : Value → Shared → Prop), Inv X pins σ H s → (∀ b ∈ fp, FpOk X pins H b) → tn i s.heap → J.stop i H →
    wpAny (model P w) X.A (pyNext (.ref it)) (fun r s1 => r = none ∧ Inv X pins σ H s1) E s
  self : ∀ (A : Around) (i : Nat) (s : Shared) (Q : Value → Shared → Prop) (E : Value → Shared → Prop), tn i s.heap → Q (.ref it) s → wpAny (model P w) A (pyIter (.ref it)) Q E s
abbrev TI := St → Hp → (It → Hp → Prop) → Prop
def PIE (X : Cx) (pins : List (Addr × Obj)) (σ : St) (tg : Expr) (R : It → Hp → Prop) (itv : Value) (s2 : Shared) : Prop :=
  ∃ (it : Addr) (fp : List Addr) (tn : Nat → Heap → Prop) (J : It) (H' : Hp), itv = .ref it ∧ Inv X pins σ H' s2 ∧ Turn X.prog X.w X.K tg J fp it tn ∧ tn 0 s2.heap ∧ (∀ b ∈ fp, FpOk X pins H' b) ∧ R J H'
def PI (X : Cx) (tg iter : Expr) (wi : TI) : Prop :=
  ∀ (pins : List (Addr × Obj)) (s : Shared) (σ : St) (H : Hp) (R : It → Hp → Prop), Inv X pins σ H s → wi σ H R →
    wpAny (model X.prog X.w) X.A (eval iter X.env) (fun v s1 => wpAny (model X.prog X.w) X.A (pyIter v) (PIE X pins σ tg R) X.xe s1) X.xe s
theorem go_of {M : Model} {A : Around} {E : Value → Shared → Prop} {s : Shared} {tg : Expr} {it : Addr} {u : Value} {o : Obj} {n : String} {vs : Array Value} {Q : Unit → Shared → Prop} (ho : s.heap.get? it = some o) (hc : o.cls = .type n) (hd : o.data = .fields vs)
    (hn : ["enumerate", "zip", "dict_itemiterator", "dict_reverseitemiterator", "odict_iterator", "itertools.zip_longest", "itertools.pairwise"].contains n = false) (hQ : Q () s) : wpAny M A (letOwnedTupleGo tg (.ref it) u) Q E s := by
  unfold letOwnedTupleGo
  cases tg <;> first
    | exact wpAny_pure hQ
    | (cases u <;> first
        | exact wpAny_pure hQ
        | (refine wpAny_bind (wpAny_load ho ?_)
           rw [hc, hd]
           show wpAny M A (if (["enumerate", "zip", "dict_itemiterator", "dict_reverseitemiterator", "odict_iterator", "itertools.zip_longest", "itertools.pairwise"].contains n && vs[0]? == some (rawInt _)) = true then _ else _) Q E s
           rw [if_neg (by intro h; rw [hn, Bool.false_and] at h; cases h)]
           exact wpAny_pure hQ))
def Itl (K : PySem.W.Frag) (a : Addr) : It :=
  ⟨fun i H => ∃ xs x, SqL K H a xs ∧ xs[i]? = some x, fun i H x H' => H' = H ∧ ∀ xs, SqL K H a xs → xs[i]? = some x, fun i H => ∃ xs, SqL K H a xs ∧ xs.length ≤ i⟩
def Itt (K : PySem.W.Frag) (a : Addr) : It :=
  ⟨fun i H => ∃ xs x, SqT K H a xs ∧ xs[i]? = some x, fun i H x H' => H' = H ∧ ∀ xs, SqT K H a xs → xs[i]? = some x, fun i H => ∃ xs, SqT K H a xs ∧ xs.length ≤ i⟩
def Itr (lo : Int) (n : Nat) : It := ⟨fun i _ => i < n, fun i H x H' => H' = H ∧ x = .int (lo + i), fun i _ => n ≤ i⟩
theorem turn_list {P : Program} {w : World} {K : PySem.W.Frag} {tg : Expr} (a it : Addr) : Turn P w K tg (Itl K a) [it] it (fun i h => h.IsListIter it a i) where
  mem := by simp
  obj := fun i h st b hb => by
    have e : b = it := by simpa using hb
    subst e
    obtain ⟨o, e, c, d⟩ := st
    exact ⟨o, e, fun v z => by rw [d] at z; cases z⟩
  keep := fun i h h' st k => st.at fun o e => k it (by simp) o e
  item := by
    intro X hP hw hK hc i pins s σ H E I hf st hg
    subst hP hw hK
    obtain ⟨xs, x, hq, hx⟩ := hg
    obtain ⟨its, rv, p, hz⟩ := I.list hq
    obtain ⟨u, hu, ru⟩ := rv.get hx
    obtain ⟨f0, f1, f2, f3, f4, f5⟩ := hf it (by simp)
    refine wpAny_pyNext_list_item st p.isList (x := u) (by simpa using hu) fun h' st' sb => ?_
    have I1 : Inv X pins σ H { s with heap := h' } := I.turned (t' := s.toks) (fun b o hb e => (sb.2 b hb).trans e) f0 f1 f3 f4 f5
    obtain ⟨o, e, c, d⟩ := id st'
    exact ⟨u, rfl, go_of (s := { s with heap := h' }) e c d (by decide) ⟨x, H, I1, ru, ⟨rfl, fun ys hy => by rw [I.list_inj hy hq]; exact hx⟩, st', fun b hb => (hf b hb).1⟩⟩
  done := by
    intro X hP hw hK hc i pins s σ H E I hf st hg
    subst hP hw hK
    obtain ⟨xs, hq, hx⟩ := hg
    obtain ⟨its, rv, p, hz⟩ := I.list hq
    obtain ⟨f0, f1, f2, f3, f4, f5⟩ := hf it (by simp)
    have hl := rv.length
    exact wpAny_pyNext_list_end (I.ok.hd hc) st p.isList (by simp; omega) fun h' eb => ⟨rfl, I.turned (t' := s.toks) (fun b o hb e => eb b o hb e) f0 f1 f3 f4 f5⟩
  self := fun _ _ _ _ _ st h => wpAny_pyIter_listiter st h
theorem turn_tuple {P : Program} {w : World} {K : PySem.W.Frag} {tg : Expr} (a it : Addr) : Turn P w K tg (Itt K a) [it] it (fun i h => h.IsTupleIter it a i) where
  mem := by simp
  obj := fun i h st b hb => by
    have e : b = it := by simpa using hb
    subst e
    obtain ⟨o, e, c, d⟩ := st
    exact ⟨o, e, fun v z => by rw [d] at z; cases z⟩
  keep := fun i h h' st k => st.at fun o e => k it (by simp) o e
  item := by
    intro X hP hw hK hc i pins s σ H E I hf st hg
    subst hP hw hK
    obtain ⟨xs, x, hq, hx⟩ := hg
    obtain ⟨its, rv, p, hz⟩ := I.tuple hq
    obtain ⟨u, hu, ru⟩ := rv.get hx
    obtain ⟨f0, f1, f2, f3, f4, f5⟩ := hf it (by simp)
    refine wpAny_pyNext_tuple_item st (show s.heap.IsTuple a its.toArray from p) (x := u) (by simpa using hu) fun h' st' sb => ?_
    have I1 : Inv X pins σ H { s with heap := h' } := I.turned (t' := s.toks) (fun b o hb e => (sb.2 b hb).trans e) f0 f1 f3 f4 f5
    obtain ⟨o, e, c, d⟩ := id st'
    exact ⟨u, rfl, go_of (s := { s with heap := h' }) e c d (by decide) ⟨x, H, I1, ru, ⟨rfl, fun ys hy => by rw [I.tuple_inj hy hq]; exact hx⟩, st', fun b hb => (hf b hb).1⟩⟩
  done := by
    intro X hP hw hK hc i pins s σ H E I hf st hg
    subst hP hw hK
    obtain ⟨xs, hq, hx⟩ := hg
    obtain ⟨its, rv, p, hz⟩ := I.tuple hq
    obtain ⟨f0, f1, f2, f3, f4, f5⟩ := hf it (by simp)
    have hl := rv.length
    exact wpAny_pyNext_tuple_end (I.ok.hd hc) st (show s.heap.IsTuple a its.toArray from p) (by simp; omega) fun h' eb => ⟨rfl, I.turned (t' := s.toks) (fun b o hb e => eb b o hb e) f0 f1 f3 f4 f5⟩
  self := fun _ _ _ _ _ st h => wpAny_pyIter_tupleiter st h
theorem turn_range {P : Program} {w : World} {K : PySem.W.Frag} {tg : Expr} (it : Addr) (lo : Int) (n : Nat) : Turn P w K tg (Itr lo n) [it] it (fun i h => IsRangeIter h it (lo + (i : Nat) * 1) ((n : Int) - (i : Nat)) 1) where
  mem := by simp
  obj := fun i h st b hb => by
    have e : b = it := by simpa using hb
    subst e
    exact ⟨_, st, fun v z => by
      have z' : Data.fields _ = Data.cell v := z
      cases z'⟩
  keep := fun i h h' st k => k it (by simp) _ st
  item := by
    intro X hP hw hK hc i pins s σ H E I hf st hg
    subst hP hw hK
    obtain ⟨f0, f1, f2, f3, f4, f5⟩ := hf it (by simp)
    have W := Walks.range (prog := X.prog) (w := X.w) (I.ok.hd hc) it lo 1 n
    refine W.item i s _ _ hg st fun v h' tk hv st' kk => ?_
    obtain ⟨t, rfl⟩ := hv
    have I1 : Inv X pins σ H { s with heap := h', toks := tk } := I.turned (fun b o hb e => kk b o (by simpa using hb) e) f0 f1 f3 f4 f5
    refine ⟨_, rfl, go_of (s := { s with heap := h', toks := tk }) (n := "range_iterator") st' rfl rfl (by decide) ⟨.int (lo + i), H, I1, ⟨t, ?_⟩, ⟨rfl, rfl⟩, st', fun b hb => (hf b hb).1⟩⟩
    rw [Int.mul_one]
  done := by
    intro X hP hw hK hc i pins s σ H E I hf st hg
    subst hP hw hK
    obtain ⟨f0, f1, f2, f3, f4, f5⟩ := hf it (by simp)
    exact wpAny_pyNext_range_end (I.ok.hd hc) st (by have : n ≤ i := hg; omega) fun h' eb => ⟨rfl, I.turned (t' := s.toks) (fun b o hb e => eb b o hb e) f0 f1 f3 f4 f5⟩
  self := fun _ _ _ _ _ st h => wpAny_pyIter_rangeiter st h
end L2
namespace L2
open PySem PySem.Spec PyProof.Rows
section
variable {X : Cx} {tg : Expr}
def iList (K : PySem.W.Frag) (tl : TE) : TI := fun σ H R => tl σ H fun x H1 => ∃ a, x = .ref a ∧ (∃ xs, SqL K H1 a xs) ∧ R (Itl K a) H1
def iTup (K : PySem.W.Frag) (tl : TE) : TI := fun σ H R => tl σ H fun x H1 => ∃ a, x = .ref a ∧ (∃ xs, SqT K H1 a xs) ∧ R (Itt K a) H1
theorem pi_list {l : Expr} {tl : TE} (hl : PE X l tl) : PI X tg l (iList X.K tl) := by
  intro pins s σ H R I h
  refine thn (hl pins s σ H _ I h) fun v s1 ⟨x, H1, I1, r1, q1⟩ => ?_
  obtain ⟨a, e, ⟨xs, hq⟩, q⟩ := q1
  subst e
  cases r1
  obtain ⟨its, rv, p, hz⟩ := I1.list hq
  refine wpAny_pyIter_list p.isList ?_
  refine ⟨s1.heap.objs.size, [s1.heap.objs.size], _, _, H1, rfl, I1.kept (t' := s1.toks) fun b o e => Heap.get?_push_of_some _ e, turn_list a _, ⟨_, Heap.get?_push_size _ rfl, rfl, rfl⟩, fun b hb => ?_, q⟩
  have e : b = s1.heap.objs.size := by simpa using hb
  subst e
  exact I1.fpOk (Nat.le_refl _) (I1.hok.fresh (Nat.le_refl _))
theorem pi_tup {l : Expr} {tl : TE} (hl : PE X l tl) : PI X tg l (iTup X.K tl) := by
  intro pins s σ H R I h
  refine thn (hl pins s σ H _ I h) fun v s1 ⟨x, H1, I1, r1, q1⟩ => ?_
  obtain ⟨a, e, ⟨xs, hq⟩, q⟩ := q1
  subst e
  cases r1
  obtain ⟨its, rv, p, hz⟩ := I1.tuple hq
  refine wpAny_pyIter_tuple (show s1.heap.IsTuple a its.toArray from p) ?_
  refine ⟨s1.heap.objs.size, [s1.heap.objs.size], _, _, H1, rfl, I1.kept (t' := s1.toks) fun b o e => Heap.get?_push_of_some _ e, turn_tuple a _, ⟨_, Heap.get?_push_size _ rfl, rfl, rfl⟩, fun b hb => ?_, q⟩
  have e : b = s1.heap.objs.size := by simpa using hb
  subst e
  exact I1.fpOk (Nat.le_refl _) (I1.hok.fresh (Nat.le_refl _))
theorem range_it {pins : List (Addr × Obj)} {σ : St} {H : Hp} {s : Shared} {R : It → Hp → Prop} {E : Value → Shared → Prop} {lo hi : Int} {t u v : Tok} {tk : Nat} (I : Inv X pins σ H s) (h1 : -(2 ^ 62) ≤ lo) (h2 : lo < 2 ^ 62) (h3 : -(2 ^ 62) ≤ hi) (h4 : hi < 2 ^ 62)
    (q : R (Itr lo (hi - lo).toNat) H) : wpAny (model X.prog X.w) X.A (pyIter (.ref s.heap.objs.size)) (PIE X pins σ tg R) E { s with heap := s.heap.push { cls := .type "range", data := .fields #[.int lo t, .int hi u, .int 1 v] }, toks := tk } := by
  refine wpAny_pyIter_range (IsRange.new ..) (small_one h1 h2 h3 h4) ?_
  have I1 : Inv X pins σ H { s with heap := s.heap.push { cls := .type "range", data := .fields #[.int lo t, .int hi u, .int 1 v] }, toks := tk } := I.kept fun b o e => Heap.get?_push_of_some _ e
  refine ⟨(s.heap.push { cls := .type "range", data := .fields #[.int lo t, .int hi u, .int 1 v] }).objs.size, [(s.heap.push { cls := .type "range", data := .fields #[.int lo t, .int hi u, .int 1 v] }).objs.size], _, _, H, rfl,
    I1.kept (t' := tk) fun b o e => Heap.get?_push_of_some _ e, turn_range _ lo (hi - lo).toNat, ?_, fun b hb => ?_, q⟩
  · have e1 : lo + ((0 : Nat) : Int) * 1 = lo := by simp
    have e2 : (((hi - lo).toNat : Nat) : Int) - ((0 : Nat) : Int) = Builtin.Range.rangeSize lo hi 1 := by rw [rangeSize_one]; split <;> omega
    show IsRangeIter _ _ (lo + ((0 : Nat) : Int) * 1) ((((hi - lo).toNat : Nat) : Int) - ((0 : Nat) : Int)) 1
    rw [e1, e2]
    exact Heap.get?_push_size _ rfl
  · have e : b = (s.heap.push { cls := .type "range", data := .fields #[.int lo t, .int hi u, .int 1 v] }).objs.size := by simpa using hb
    subst e
    exact I1.fpOk (Nat.le_refl _) (I1.hok.fresh (Nat.le_refl _))
def iRng1 (ta : TA) : TI := fun σ H R => ta σ H fun vs H1 => ∃ j : Int, vs = [.int j] ∧ -(2 ^ 62) ≤ j ∧ j < 2 ^ 62 ∧ R (Itr 0 j.toNat) H1
theorem pi_range1 {a : Expr} {ta : TA} {p pos : Pos} (hg : Gl X "range") (hm : X.mg "range" = none) (ha : PA X [a] ta) (hs : starEach [a] X.env = [(false, eval a X.env)] := by rfl) : PI X tg (.Call (.Name "range" p) [a] [] pos) (iRng1 ta) := by
  intro pins s σ H R I h
  refine Call_ (ld_blt I hg hm boot_range (PyProof.Rows.callWith_type1 (thn (ha pos pins s σ H _ I h) fun us s1 ⟨vs, H1, I1, r1, q1⟩ => ?_) hs rfl))
  obtain ⟨j, e, q1, q2, q⟩ := q1
  subst e
  cases r1 with
  | cons r rr =>
    cases rr
    obtain ⟨t, rfl⟩ := r
    exact call_range_1 (range_it I1 (by omega) (by omega) q1 q2 (by simpa using q))
def tFor (wi : TI) (g : TG) (tb : TS) : TS := fun D σ H => wi σ H fun J H1 => ∃ W : Nat → Nat → St → Hp → Prop, (∃ m, W 0 m σ H1) ∧ ∀ i m σ H, W i m σ H →
  (J.stop i H ∧ D.nx σ H) ∨ (J.go i H ∧ ∃ N : St → Hp → Prop, (∀ σ' H', N σ' H' → ∃ m', m' < m ∧ W (i + 1) m' σ' H') ∧ ∀ x H', J.yld i H x H' → g x σ H' fun σ2 H2 => tb { D with nx := N, ct := N, bk := D.nx } σ2 H2)
def pinsAt (fp : List Addr) (h : Heap) : List (Addr × Obj) := fp.filterMap fun b => (h.get? b).map fun o => (b, o)
theorem mem_pinsAt {fp : List Addr} {h : Heap} {b : Addr} {o : Obj} (hb : b ∈ fp) (e : h.get? b = some o) : (b, o) ∈ pinsAt fp h := List.mem_filterMap.mpr ⟨b, hb, by rw [e]; rfl⟩
theorem of_pinsAt {fp : List Addr} {h : Heap} {p : Addr × Obj} (hp : p ∈ pinsAt fp h) : p.1 ∈ fp ∧ h.get? p.1 = some p.2 := by
  obtain ⟨b, hb, e⟩ := List.mem_filterMap.mp hp
  cases q : h.get? b with
  | none => rw [q] at e; cases e
  | some o =>
    rw [q] at e
    have e' : (b, o) = p := Option.some.inj e
    subst e'
    exact ⟨hb, q⟩
theorem Inv.pinned {pins : List (Addr × Obj)} {σ : St} {H : Hp} {s : Shared} {fp : List Addr} (I : Inv X pins σ H s) (hf : ∀ b ∈ fp, FpOk X pins H b) (ho : ∀ b ∈ fp, ∃ o, s.heap.get? b = some o ∧ ∀ v, o.data ≠ .cell v) : Inv X (pins ++ pinsAt fp s.heap) σ H s :=
  I.pins_of fun p hp => (List.mem_append.mp hp).elim (fun z => I.pin p (List.mem_append_right _ z)) fun z => by
    obtain ⟨hb, e⟩ := of_pinsAt z
    obtain ⟨f0, f1, f2, _⟩ := hf p.1 hb
    obtain ⟨o, e', d⟩ := ho p.1 hb
    rw [e] at e'; cases e'
    exact ⟨e, f0, f1, f2, d⟩
theorem Inv.unpinned {pins pl : List (Addr × Obj)} {σ : St} {H : Hp} {s : Shared} (I : Inv X (pins ++ pl) σ H s) : Inv X pins σ H s := I.pins_of fun p hp => I.pin p (List.mem_append_right _ (List.mem_append_left _ hp))
theorem ps_for {iter : Expr} {body : List Stmt} {wi : TI} {g : TG} {tb : TS} {pos : Pos} (hp : PassesOwn (model X.prog X.w) X.A X.env X.xe) (hc : X.calm = true) (hi : PI X tg iter wi) (hg : PG X tg g) (hb : PSs X body tb)
    (hs : ∀ x, foldedSetIterable iter X.env x = pure x := by intro _; rfl) : PS X (.For tg iter body [] pos) (tFor wi g tb) := by
  intro pins s σ H D I h
  refine wpAny_For (thn (hi pins s σ H _ I h) fun v s1 h1 => thn h1 fun itv s2 h2 => ?_) hs
  obtain ⟨it, fp, tn, J, H2, e, I2, T, st2, f2, W, ⟨m0, w0⟩, turn⟩ := h2
  subst e
  -- what stays true of the iterator's objects through the loop
  have stat : ∀ {H' : Hp}, (∀ b ∈ fp, H' b = none) → ∀ b ∈ fp, FpOk X pins H' b := fun hn b hb => ⟨hn b hb, (f2 b hb).2⟩
  refine codeAny_forLoop_any (fun n s' => ∃ i σ' H', Inv X pins σ' H' s' ∧ tn i s'.heap ∧ (∀ b ∈ fp, H' b = none) ∧ W i n σ' H') ?_ m0 ⟨0, σ, H2, I2, st2, fun b hb => (f2 b hb).1, w0⟩
  rintro n s3 ⟨i, σ3, H3, I3, st3, fr3, w3⟩
  rcases turn i n σ3 H3 w3 with ⟨stop, qn⟩ | ⟨go, N, hN, step⟩
  · refine wpAny_passesOwn hp (thn (T.done X rfl rfl rfl hc i pins s3 σ3 H3 X.xe I3 (stat fr3) st3 stop) fun r s4 ⟨hr, I4⟩ => ?_)
    subst hr
    exact wpAny_execs_nil ⟨σ3, H3, I4, qn⟩
  · refine wpAny_passesOwn hp (thn (T.item X rfl rfl rfl hc i pins s3 σ3 H3 X.xe I3 (stat fr3) st3 go) fun r s4 ⟨u, hr, h4⟩ => ?_)
    subst hr
    refine wpAny_passesOwn hp (thn h4 fun _ s5 ⟨x, H5, I5, r5, y5, st5, fr5⟩ => ?_)
    have I5' := I5.pinned (stat fr5) (T.obj _ _ st5)
    refine wpAny_passesOwn hp (thn (hg _ s5 σ3 H5 x u _ I5' r5 (step x H5 y5)) fun _ s6 ⟨σ6, H6, I6, q6⟩ => ?_)
    refine wpAny_passesOwn hp (thn (hb _ s6 σ6 H6 _ I6 q6) fun f s7 q7 => ?_)
    have again : ∀ {σ7 : St} {H7 : Hp}, Inv X (pins ++ pinsAt fp s5.heap) σ7 H7 s7 → N σ7 H7 → ∃ m, m < n ∧ ∃ i σ' H', Inv X pins σ' H' s7 ∧ tn i s7.heap ∧ (∀ b ∈ fp, H' b = none) ∧ W i m σ' H' := fun {σ7 H7} I7 n7 => by
      obtain ⟨m', hm, w7⟩ := hN σ7 H7 n7
      refine ⟨m', hm, i + 1, σ7, H7, I7.unpinned, T.keep _ _ _ st5 fun b hb o e => (I7.pin (b, o) (List.mem_append_right _ (List.mem_append_right _ (mem_pinsAt hb e)))).1, fun b hb => ?_, w7⟩
      obtain ⟨o, e, d⟩ := T.obj _ _ st5 b hb
      exact (I7.pin (b, o) (List.mem_append_right _ (List.mem_append_right _ (mem_pinsAt hb e)))).2.1
    cases f with
    | next => obtain ⟨σ7, H7, I7, n7⟩ := q7; exact again I7 n7
    | cont => obtain ⟨σ7, H7, I7, n7⟩ := q7; exact again I7 n7
    | brk => obtain ⟨σ7, H7, I7, q7⟩ := q7; exact ⟨σ7, H7, I7.unpinned, q7⟩
    | ret v => obtain ⟨x7, σ7, H7, I7, r7, q7⟩ := q7; exact ⟨x7, σ7, H7, I7.unpinned, r7, q7⟩
end
theorem for_list {K : PySem.W.Frag} {a : Addr} {xs : List V} {g : TG} {tb : TS} {D : Ends} {σ : St} {H : Hp} (Pv : Nat → St → Hp → Prop) (h0 : Pv 0 σ H) (hl : ∀ i σ H, i ≤ xs.length → Pv i σ H → SqL K H a xs)
    (hs : ∀ i x σ H, xs[i]? = some x → Pv i σ H → g x σ H fun σ2 H2 => tb { D with nx := Pv (i + 1), ct := Pv (i + 1), bk := D.nx } σ2 H2) (hd : ∀ σ H, Pv xs.length σ H → D.nx σ H) :
    ∃ W : Nat → Nat → St → Hp → Prop, (∃ m, W 0 m σ H) ∧ ∀ i m σ H, W i m σ H →
      ((Itl K a).stop i H ∧ D.nx σ H) ∨ ((Itl K a).go i H ∧ ∃ N : St → Hp → Prop, (∀ σ' H', N σ' H' → ∃ m', m' < m ∧ W (i + 1) m' σ' H') ∧ ∀ x H', (Itl K a).yld i H x H' → g x σ H' fun σ2 H2 => tb { D with nx := N, ct := N, bk := D.nx } σ2 H2) := by
  refine ⟨fun i m σ H => m = xs.length - i ∧ i ≤ xs.length ∧ Pv i σ H, ⟨xs.length, by simp, Nat.zero_le _, h0⟩, ?_⟩
  rintro i m σ H ⟨rfl, hi, p⟩
  have q := hl i σ H hi p
  by_cases hlt : i < xs.length
  · refine .inr ⟨⟨xs, xs[i], q, by simp [hlt]⟩, Pv (i + 1), fun σ' H' p' => ⟨xs.length - (i + 1), by omega, rfl, hlt, p'⟩, fun x H' y => ?_⟩
    obtain ⟨e, y⟩ := y
    subst e
    exact hs i x σ _ (y xs q) p
  · have e : i = xs.length := by omega
    subst e
    exact .inl ⟨⟨xs, q, Nat.le_refl _⟩, hd σ H p⟩
theorem for_tup {K : PySem.W.Frag} {a : Addr} {xs : List V} {g : TG} {tb : TS} {D : Ends} {σ : St} {H : Hp} (Pv : Nat → St → Hp → Prop) (h0 : Pv 0 σ H) (hl : ∀ i σ H, i ≤ xs.length → Pv i σ H → SqT K H a xs)
    (hs : ∀ i x σ H, xs[i]? = some x → Pv i σ H → g x σ H fun σ2 H2 => tb { D with nx := Pv (i + 1), ct := Pv (i + 1), bk := D.nx } σ2 H2) (hd : ∀ σ H, Pv xs.length σ H → D.nx σ H) :
    ∃ W : Nat → Nat → St → Hp → Prop, (∃ m, W 0 m σ H) ∧ ∀ i m σ H, W i m σ H →
      ((Itt K a).stop i H ∧ D.nx σ H) ∨ ((Itt K a).go i H ∧ ∃ N : St → Hp → Prop, (∀ σ' H', N σ' H' → ∃ m', m' < m ∧ W (i + 1) m' σ' H') ∧ ∀ x H', (Itt K a).yld i H x H' → g x σ H' fun σ2 H2 => tb { D with nx := N, ct := N, bk := D.nx } σ2 H2) := by
  refine ⟨fun i m σ H => m = xs.length - i ∧ i ≤ xs.length ∧ Pv i σ H, ⟨xs.length, by simp, Nat.zero_le _, h0⟩, ?_⟩
  rintro i m σ H ⟨rfl, hi, p⟩
  have q := hl i σ H hi p
  by_cases hlt : i < xs.length
  · refine .inr ⟨⟨xs, xs[i], q, by simp [hlt]⟩, Pv (i + 1), fun σ' H' p' => ⟨xs.length - (i + 1), by omega, rfl, hlt, p'⟩, fun x H' y => ?_⟩
    obtain ⟨e, y⟩ := y
    subst e
    exact hs i x σ _ (y xs q) p
  · have e : i = xs.length := by omega
    subst e
    exact .inl ⟨⟨xs, q, Nat.le_refl _⟩, hd σ H p⟩
theorem for_range {lo : Int} {n : Nat} {g : TG} {tb : TS} {D : Ends} {σ : St} {H : Hp} (Pv : Nat → St → Hp → Prop) (h0 : Pv 0 σ H)
    (hs : ∀ i σ H, i < n → Pv i σ H → g (.int (lo + i)) σ H fun σ2 H2 => tb { D with nx := Pv (i + 1), ct := Pv (i + 1), bk := D.nx } σ2 H2) (hd : ∀ σ H, Pv n σ H → D.nx σ H) :
    ∃ W : Nat → Nat → St → Hp → Prop, (∃ m, W 0 m σ H) ∧ ∀ i m σ H, W i m σ H →
      ((Itr lo n).stop i H ∧ D.nx σ H) ∨ ((Itr lo n).go i H ∧ ∃ N : St → Hp → Prop, (∀ σ' H', N σ' H' → ∃ m', m' < m ∧ W (i + 1) m' σ' H') ∧ ∀ x H', (Itr lo n).yld i H x H' → g x σ H' fun σ2 H2 => tb { D with nx := N, ct := N, bk := D.nx } σ2 H2) := by
  refine ⟨fun i m σ H => m = n - i ∧ i ≤ n ∧ Pv i σ H, ⟨n, by simp, Nat.zero_le _, h0⟩, ?_⟩
  rintro i m σ H ⟨rfl, hi, p⟩
  by_cases hlt : i < n
  · refine .inr ⟨hlt, Pv (i + 1), fun σ' H' p' => ⟨n - (i + 1), by omega, rfl, hlt, p'⟩, fun x H' y => ?_⟩
    obtain ⟨e, y⟩ := y
    subst e y
    exact hs i σ _ hlt p
  · have e : i = n := by omega
    subst e
    exact .inl ⟨Nat.le_refl _, hd σ H p⟩
end L2
namespace L2
open PySem PySem.Spec PyProof.Rows
abbrev R2 := V → V → Hp → VK → Prop
def OpR (X : Cx) (f : Value → Value → Sem Value) (r : R2) : Prop :=
  ∀ (pins : List (Addr × Obj)) (s : Shared) (σ : St) (H : Hp) (x y : V) (v u : Value) (Q : VK), Inv X pins σ H s → RelV x v → RelV y u → r x y H Q →
    wpAny (model X.prog X.w) X.A (f v u) (EP X pins σ Q) X.xe s
def UnR (X : Cx) (f : Value → Sem Value) (r : V → Hp → VK → Prop) : Prop :=
  ∀ (pins : List (Addr × Obj)) (s : Shared) (σ : St) (H : Hp) (x : V) (v : Value) (Q : VK), Inv X pins σ H s → RelV x v → r x H Q →
    wpAny (model X.prog X.w) X.A (f v) (EP X pins σ Q) X.xe s
def CallR (X : Cx) (f : Value) (r : List V → Hp → VK → Prop) : Prop :=
  ∀ (pins : List (Addr × Obj)) (s : Shared) (σ : St) (H : Hp) (xs : List V) (us : List Value) (Q : VK), Inv X pins σ H s → Vals xs us → r xs H Q →
    wpAny (model X.prog X.w) X.A (call f us) (EP X pins σ Q) X.xe s
def TruR (X : Cx) (r : V → Hp → (Bool → Hp → Prop) → Prop) : Prop :=
  ∀ (pins : List (Addr × Obj)) (s : Shared) (σ : St) (H : Hp) (x : V) (v : Value) (Q : Bool → Hp → Prop), Inv X pins σ H s → RelV x v → r x H Q →
    wpAny (model X.prog X.w) X.A (truthy v) (TP X pins σ Q) X.xe s
def tOp (r : R2) (ta tb : TE) : TE := fun σ H Q => ta σ H fun x H1 => tb σ H1 fun y H2 => r x y H2 Q
def tUn (r : V → Hp → VK → Prop) (ta : TE) : TE := fun σ H Q => ta σ H fun x H1 => r x H1 Q
def rI (C : Int → Int → Prop) (g : Int → Int → V) : R2 := fun x y H Q => ∃ i j, x = .int i ∧ y = .int j ∧ C i j ∧ Q (g i j) H
def rI0 (g : Int → Int → V) : R2 := fun x y H Q => ∃ i j, x = .int i ∧ y = .int j ∧ Q (g i j) H
def rU (g : Int → V) : V → Hp → VK → Prop := fun x H Q => ∃ i, x = .int i ∧ Q (g i) H
section
variable {X : Cx} {a b c : Expr} {ta tb tc : TE} {pos : Pos}
theorem binT (ha : PE X a ta) (hb : PE X b tb) {pins : List (Addr × Obj)} {s : Shared} {σ : St} {H : Hp} {R : V → V → Hp → Prop} (I : Inv X pins σ H s)
    (h : ta σ H fun x H1 => tb σ H1 fun y H2 => R x y H2) {Q : Value → Shared → Prop} {f : Value → Value → Sem Value}
    (hf : ∀ v u s2 x y H2, Inv X pins σ H2 s2 → RelV x v → RelV y u → R x y H2 → wpAny (model X.prog X.w) X.A (f v u) Q X.xe s2) :
    wpAny (model X.prog X.w) X.A (eval a X.env) (fun v s₁ => wpAny (model X.prog X.w) X.A (eval b X.env) (fun u s₂ => wpAny (model X.prog X.w) X.A (f v u) Q X.xe s₂) X.xe s₁) X.xe s := by
  refine thn (ha pins s σ H _ I h) fun v s1 ⟨x, H1, I1, r1, q1⟩ => ?_
  refine thn (hb pins s1 σ H1 _ I1 q1) fun u s2 ⟨y, H2, I2, r2, q2⟩ => ?_
  exact hf v u s2 x y H2 I2 r1 r2 q2
theorem pe_op {op : Operator} {r : R2} (ho : OpR X (binaryOp op) r) (ha : PE X a ta) (hb : PE X b tb) : PE X (.BinOp a op b pos) (tOp r ta tb) := by
  intro pins s σ H Q I h
  exact wpAny_BinOp (binT ha hb I h fun v u s2 x y H2 I2 rx ry q => ho pins s2 σ H2 x y v u Q I2 rx ry q)
theorem pe_un {op : UnaryOp} {r : V → Hp → VK → Prop} (ho : UnR X (unaryOp op) r) (ha : PE X a ta) : PE X (.UnaryOp op a pos) (tUn r ta) := by
  intro pins s σ H Q I h
  exact UnaryOp_ (thn (ha pins s σ H _ I h) fun v s1 ⟨x, H1, I1, r1, q1⟩ => ho pins s1 σ H1 x v Q I1 r1 q1)
theorem opI {f : Value → Value → Sem Value} {C : Int → Int → Prop} {g : Int → Int → Int}
    (rule : ∀ (i j : Int) (t u : Tok) (s : Shared) (Q : Value → Shared → Prop) (E : Value → Shared → Prop), C i j → Q (.int (g i j) s.toks) { s with toks := s.toks + 1 } → wpAny (model X.prog X.w) X.A (f (.int i t) (.int j u)) Q E s) :
    OpR X f (rI C fun i j => .int (g i j)) := by
  intro pins s σ H x y v u Q I rx ry h
  obtain ⟨i, j, rfl, rfl, hc, q⟩ := h
  obtain ⟨t, rfl⟩ := rx
  obtain ⟨t', rfl⟩ := ry
  exact rule i j t t' s _ _ hc ⟨.int (g i j), H, I.tok _, ⟨_, rfl⟩, q⟩
theorem opI0 {f : Value → Value → Sem Value} {g : Int → Int → Int}
    (rule : ∀ (i j : Int) (t u : Tok) (s : Shared) (Q : Value → Shared → Prop) (E : Value → Shared → Prop), Q (.int (g i j) s.toks) { s with toks := s.toks + 1 } → wpAny (model X.prog X.w) X.A (f (.int i t) (.int j u)) Q E s) :
    OpR X f (rI0 fun i j => .int (g i j)) := by
  intro pins s σ H x y v u Q I rx ry h
  obtain ⟨i, j, rfl, rfl, q⟩ := h
  obtain ⟨t, rfl⟩ := rx
  obtain ⟨t', rfl⟩ := ry
  exact rule i j t t' s _ _ ⟨.int (g i j), H, I.tok _, ⟨_, rfl⟩, q⟩
theorem opB0 {f : Value → Value → Sem Value} {g : Int → Int → Bool}
    (rule : ∀ (i j : Int) (t u : Tok) (s : Shared) (Q : Value → Shared → Prop) (E : Value → Shared → Prop), Q (.bool (g i j)) s → wpAny (model X.prog X.w) X.A (f (.int i t) (.int j u)) Q E s) :
    OpR X f (rI0 fun i j => .bl (g i j)) := by
  intro pins s σ H x y v u Q I rx ry h
  obtain ⟨i, j, rfl, rfl, q⟩ := h
  obtain ⟨t, rfl⟩ := rx
  obtain ⟨t', rfl⟩ := ry
  exact rule i j t t' s _ _ ⟨.bl (g i j), H, I, rfl, q⟩
def CDiv (i j : Int) : Prop := 0 < j ∧ j < 1073741824
def CPow (i j : Int) : Prop := 0 ≤ j ∧ j ≤ 1000000 ∧ i.natAbs < 2 ^ 64
def CMul (i j : Int) : Prop := (-(2 ^ 64) < i ∧ i < 2 ^ 64) ∨ (-(2 ^ 64) < j ∧ j < 2 ^ 64)
theorem CMul.ok {i j : Int} (h : CMul i j) : IntMulOk i j := by
  rcases h with ⟨h1, h2⟩ | ⟨h1, h2⟩
  · exact .of_left (intBits_le_64 h1 h2)
  · exact .of_right (intBits_le_64 h1 h2)
theorem op_add : OpR X (binaryOp .Add) (rI0 fun i j => .int (i + j)) := opI0 fun _ _ _ _ _ _ _ q => add_int q
theorem op_sub : OpR X (binaryOp .Sub) (rI0 fun i j => .int (i - j)) := opI0 fun _ _ _ _ _ _ _ q => sub_int q
theorem op_mul : OpR X (binaryOp .Mult) (rI CMul fun i j => .int (i * j)) := opI fun _ _ _ _ _ _ _ hc q => mul_int q hc.ok
theorem op_fdiv : OpR X (binaryOp .FloorDiv) (rI CDiv fun i j => .int (i / j)) := opI fun i j _ _ _ _ _ hc q => by
  have h1 : (0 : Int) < j := hc.1
  have h2 : j < 1073741824 := hc.2
  exact floordiv_int (by omega) (by rw [Int.fdiv_eq_ediv_of_nonneg i (by omega)]; exact q) (.inl (PyProof.noPylong_small (by omega)))
theorem op_mod : OpR X (binaryOp .Mod) (rI (fun _ j => 0 < j) fun i j => .int (i % j)) := opI fun i j _ _ _ _ _ hc q => by
  have h1 : (0 : Int) < j := hc
  exact mod_int' (by omega) (by rw [Int.fmod_eq_emod_of_nonneg i (by omega)]; exact q)
theorem op_pow : OpR X (binaryOp .Pow) (rI CPow fun i j => .int (i ^ j.toNat)) := opI fun _ _ _ _ _ _ _ hc q => pow_int_small hc.1 hc.2.1 hc.2.2 q
theorem unI {f : Value → Sem Value} {g : Int → Int}
    (rule : ∀ (i : Int) (t : Tok) (s : Shared) (Q : Value → Shared → Prop) (E : Value → Shared → Prop), Q (.int (g i) s.toks) { s with toks := s.toks + 1 } → wpAny (model X.prog X.w) X.A (f (.int i t)) Q E s) :
    UnR X f (rU fun i => .int (g i)) := by
  intro pins s σ H x v Q I rx h
  obtain ⟨i, rfl, q⟩ := h
  obtain ⟨t, rfl⟩ := rx
  exact rule i t s _ _ ⟨.int (g i), H, I.tok _, ⟨_, rfl⟩, q⟩
theorem un_neg : UnR X (unaryOp .USub) (rU fun i => .int (-i)) := unI fun _ _ _ _ _ q => neg_int q
end
def scal : V → V → Bool
  | .non, .non => true | .non, .int _ => true | .int _, .non => true | .non, .bl _ => true | .bl _, .non => true | .non, .str _ => true | .str _, .non => true
  | .int _, .int _ => true | .bl _, .bl _ => true | .str _, .str _ => true | .byt _, .byt _ => true
  | .int _, .str _ => true | .str _, .int _ => true | .bl _, .str _ => true | .str _, .bl _ => true
  | _, _ => false
def rEq : R2 := fun x y H Q => scal x y = true ∧ Q (.bl (decide (x = y))) H
def rNe : R2 := fun x y H Q => scal x y = true ∧ Q (.bl (!decide (x = y))) H
theorem dec_int {i j : Int} : decide (V.int i = V.int j) = (i == j) := by
  rw [Bool.eq_iff_iff]
  simp
theorem dec_bl {i j : Bool} : decide (V.bl i = V.bl j) = (i == j) := by
  rw [Bool.eq_iff_iff]
  simp
theorem dec_str {i j : Str} : decide (V.str i = V.str j) = (i == j) := by
  rw [Bool.eq_iff_iff]
  simp
theorem dec_byt {i j : Array UInt8} : decide (V.byt i = V.byt j) = (i.toList == j.toList) := by
  rw [Bool.eq_iff_iff]
  cases i
  cases j
  simp
section
variable {X : Cx} {a b c : Expr} {ta tb tc : TE} {pos : Pos}
theorem fin_bl {pins : List (Addr × Obj)} {σ : St} {H : Hp} {s : Shared} {Q : VK} {k k' : Bool} (I : Inv X pins σ H s) (q : Q (.bl k) H) (e : k = k') : EP X pins σ Q (.bool k') s := by
  subst e
  exact ⟨.bl k, H, I, rfl, q⟩
theorem op_eq : OpR X (compareOp .Eq) rEq := by
  intro pins s σ H x y v u Q I rx ry h
  obtain ⟨hs, q⟩ := h
  cases x with
  | non =>
    cases rx
    cases y with
    | non => cases ry; exact PySem.EqNone.eq_none_none (fin_bl I q (by simp))
    | bl j => cases ry; exact PySem.EqNone.eq_none_bool (fin_bl I q (by simp))
    | int j => obtain ⟨t', rfl⟩ := ry; exact PySem.EqNone.eq_none_int (fin_bl I q (by simp))
    | str j => obtain ⟨t', rfl⟩ := ry; exact PySem.EqNone.eq_none_str (fin_bl I q (by simp))
    | _ => exact absurd (show false = true from hs) Bool.false_ne_true
  | bl i =>
    cases rx
    cases y with
    | non => cases ry; exact PySem.EqNone.eq_bool_none (fin_bl I q (by simp))
    | bl j => cases ry; exact eq_bool (fin_bl I q dec_bl)
    | str j => obtain ⟨t', rfl⟩ := ry; exact PySem.EqMixed.eq_bool_str (fin_bl I q (by simp))
    | _ => exact absurd (show false = true from hs) Bool.false_ne_true
  | int i =>
    obtain ⟨t, rfl⟩ := rx
    cases y with
    | non => cases ry; exact PySem.EqNone.eq_int_none (fin_bl I q (by simp))
    | int j => obtain ⟨t', rfl⟩ := ry; exact eq_int (fin_bl I q dec_int)
    | str j => obtain ⟨t', rfl⟩ := ry; exact PySem.EqMixed.eq_int_str (fin_bl I q (by simp))
    | _ => exact absurd (show false = true from hs) Bool.false_ne_true
  | str i =>
    obtain ⟨t, rfl⟩ := rx
    cases y with
    | non => cases ry; exact PySem.EqNone.eq_str_none (fin_bl I q (by simp))
    | bl j => cases ry; exact PySem.EqMixed.eq_str_bool (fin_bl I q (by simp))
    | int j => obtain ⟨t', rfl⟩ := ry; exact PySem.EqMixed.eq_str_int (fin_bl I q (by simp))
    | str j => obtain ⟨t', rfl⟩ := ry; exact eq_str (fin_bl I q dec_str)
    | _ => exact absurd (show false = true from hs) Bool.false_ne_true
  | byt i =>
    obtain ⟨t, rfl⟩ := rx
    cases y with
    | byt j => obtain ⟨t', rfl⟩ := ry; exact PySem.W.eq_bytes (fin_bl I q dec_byt)
    | _ => exact absurd (show false = true from hs) Bool.false_ne_true
  | _ => cases y <;> exact absurd (show false = true from hs) Bool.false_ne_true
theorem op_ne : OpR X (compareOp .NotEq) rNe := by
  intro pins s σ H x y v u Q I rx ry h
  obtain ⟨hs, q⟩ := h
  cases x with
  | non =>
    cases rx
    cases y with
    | non => cases ry; exact PySem.EqNone.ne_none_none (fin_bl I q (by simp))
    | bl j => cases ry; exact PySem.EqNone.ne_none_bool (fin_bl I q (by simp))
    | int j => obtain ⟨t', rfl⟩ := ry; exact PySem.EqNone.ne_none_int (fin_bl I q (by simp))
    | str j => obtain ⟨t', rfl⟩ := ry; exact PySem.EqNone.ne_none_str (fin_bl I q (by simp))
    | _ => exact absurd (show false = true from hs) Bool.false_ne_true
  | bl i =>
    cases rx
    cases y with
    | non => cases ry; exact PySem.EqNone.ne_bool_none (fin_bl I q (by simp))
    | bl j => cases ry; exact ne_bool (fin_bl I q (congrArg not dec_bl))
    | str j => obtain ⟨t', rfl⟩ := ry; exact PySem.EqMixed.ne_bool_str (fin_bl I q (by simp))
    | _ => exact absurd (show false = true from hs) Bool.false_ne_true
  | int i =>
    obtain ⟨t, rfl⟩ := rx
    cases y with
    | non => cases ry; exact PySem.EqNone.ne_int_none (fin_bl I q (by simp))
    | int j => obtain ⟨t', rfl⟩ := ry; exact ne_int (fin_bl I q (congrArg not dec_int))
    | str j => obtain ⟨t', rfl⟩ := ry; exact PySem.EqMixed.ne_int_str (fin_bl I q (by simp))
    | _ => exact absurd (show false = true from hs) Bool.false_ne_true
  | str i =>
    obtain ⟨t, rfl⟩ := rx
    cases y with
    | non => cases ry; exact PySem.EqNone.ne_str_none (fin_bl I q (by simp))
    | bl j => cases ry; exact PySem.EqMixed.ne_str_bool (fin_bl I q (by simp))
    | int j => obtain ⟨t', rfl⟩ := ry; exact PySem.EqMixed.ne_str_int (fin_bl I q (by simp))
    | str j => obtain ⟨t', rfl⟩ := ry; exact ne_str (fin_bl I q (congrArg not dec_str))
    | _ => exact absurd (show false = true from hs) Bool.false_ne_true
  | byt i =>
    obtain ⟨t, rfl⟩ := rx
    cases y with
    | byt j => obtain ⟨t', rfl⟩ := ry; exact PySem.W.ne_bytes (fin_bl I q (congrArg not dec_byt))
    | _ => exact absurd (show false = true from hs) Bool.false_ne_true
  | _ => cases y <;> exact absurd (show false = true from hs) Bool.false_ne_true
theorem op_lt : OpR X (compareOp .Lt) (rI0 fun i j => .bl (decide (i < j))) := opB0 fun _ _ _ _ _ _ _ q => lt_int q
theorem op_le : OpR X (compareOp .LtE) (rI0 fun i j => .bl (decide (i ≤ j))) := opB0 fun _ _ _ _ _ _ _ q => le_int q
theorem op_gt : OpR X (compareOp .Gt) (rI0 fun i j => .bl (decide (j < i))) := opB0 fun _ _ _ _ _ _ _ q => gt_int q
theorem op_ge : OpR X (compareOp .GtE) (rI0 fun i j => .bl (decide (j ≤ i))) := opB0 fun _ _ _ _ _ _ _ q => ge_int q
theorem nomark (b : Expr) {op : CmpOp} (h : op ≠ .In := by decide) (h2 : op ≠ .NotIn := by decide) : behindInMarks op b = false := by
  have e1 : (op == CmpOp.In) = false := by cases op <;> first | rfl | exact absurd rfl h
  have e2 : (op == CmpOp.NotIn) = false := by cases op <;> first | rfl | exact absurd rfl h2
  cases b <;> simp [behindInMarks, e1, e2]
theorem pe_cmpR {op : CmpOp} {r : R2} (ho : OpR X (compareOp op) r) (ha : PE X a ta) (hb : PE X b tb) (hm : behindInMarks op b = false) : PE X (.Compare a [op] [b] pos) (tOp r ta tb) := by
  intro pins s σ H Q I h
  exact wpAny_Compare1 (binT ha hb I h fun v u s2 x y H2 I2 rx ry q => ho pins s2 σ H2 x y v u Q I2 rx ry q) hm
def tTest (t : TE) : TT := fun σ H Q => t σ H fun x H' => ∃ k, x = .bl k ∧ Q k H'
theorem pt_cmpR {op : CmpOp} {r : R2} (ho : OpR X (compareOp op) r) (ha : PE X a ta) (hb : PE X b tb) (hm : behindInMarks op b = false) : PT X (.Compare a [op] [b] pos) (tTest (tOp r ta tb)) := by
  intro pins s σ H Q I h
  refine wpAny_isTrue_Compare1 (thn (ha pins s σ H _ I h) fun v s1 ⟨x, H1, I1, r1, q1⟩ => thn (hb pins s1 σ H1 _ I1 q1) fun u s2 ⟨y, H2, I2, r2, q2⟩ =>
    thn (ho pins s2 σ H2 x y v u _ I2 r1 r2 q2) fun c s3 ⟨z, H3, I3, r3, k, e, q3⟩ => ?_) hm
  subst e
  cases r3
  exact wpAny_truthy_bool ⟨H3, I3, q3⟩
def tChain (r r' : R2) (ta tb tc : TE) : TE := fun σ H Q => ta σ H fun x H1 => tb σ H1 fun y H2 => r x y H2 fun z H3 => ∃ k, z = .bl k ∧
  (if k = true then tc σ H3 fun w' H4 => r' y w' H4 Q else Q (.bl false) H3)
theorem pe_chain {op op' : CmpOp} {r r' : R2} (ho : OpR X (compareOp op) r) (ho' : OpR X (compareOp op') r') (ha : PE X a ta) (hb : PE X b tb) (hc : PE X c tc)
    (hm : lastMarks [op, op'] [b, c] = false := by with_unfolding_all rfl) : PE X (.Compare a [op, op'] [b, c] pos) (tChain r r' ta tb tc) := by
  intro pins s σ H Q I h
  refine Compare_chain (thn (ha pins s σ H _ I h) fun v s1 ⟨x, H1, I1, r1, q1⟩ => chain_link (thn (hb pins s1 σ H1 _ I1 q1) fun u s2 ⟨y, H2, I2, r2, q2⟩ =>
    thn (ho pins s2 σ H2 x y v u _ I2 r1 r2 q2) fun d s3 ⟨z, H3, I3, r3, k, e, q3⟩ => ?_)) hm
  subst e
  cases r3
  refine wpAny_truthy_bool ?_
  cases k with
  | false => exact ite_ff ⟨.bl false, H3, I3, rfl, q3⟩
  | true => exact ite_tt (chain_last (thn (hc pins s3 σ H3 _ I3 q3) fun w' s4 ⟨z', H4, I4, r4, q4⟩ => ho' pins s4 σ H4 y z' u w' Q I4 r2 r4 q4))
theorem pt_chain {op op' : CmpOp} {r r' : R2} (ho : OpR X (compareOp op) r) (ho' : OpR X (compareOp op') r') (ha : PE X a ta) (hb : PE X b tb) (hc : PE X c tc)
    (hm : lastMarks [op, op'] [b, c] = false := by with_unfolding_all rfl) : PT X (.Compare a [op, op'] [b, c] pos) (tTest (tChain r r' ta tb tc)) := by
  intro pins s σ H Q I h
  refine isTrue_chain (thn (ha pins s σ H _ I h) fun v s1 ⟨x, H1, I1, r1, q1⟩ => test_link (thn (hb pins s1 σ H1 _ I1 q1) fun u s2 ⟨y, H2, I2, r2, q2⟩ =>
    thn (ho pins s2 σ H2 x y v u _ I2 r1 r2 q2) fun d s3 ⟨z, H3, I3, r3, k, e, q3⟩ => ?_)) hm
  subst e
  cases r3
  refine wpAny_truthy_bool ?_
  cases k with
  | false =>
    obtain ⟨k', e', q'⟩ := q3
    cases e'
    exact ite_ff ⟨H3, I3, q'⟩
  | true =>
    refine ite_tt (test_last (thn (hc pins s3 σ H3 _ I3 q3) fun w' s4 ⟨z', H4, I4, r4, q4⟩ => thn (ho' pins s4 σ H4 y z' u w' _ I4 r2 r4 q4) fun d' s5 ⟨z2, H5, I5, r5, k2, e2, q5⟩ => ?_))
    subst e2
    cases r5
    exact wpAny_truthy_bool ⟨H5, I5, q5⟩
def TruV (K : PySem.W.Frag) (x : V) (H : Hp) (k : Bool) : Prop :=
  match x with
  | .non => k = false
  | .bl b => k = b
  | .int i => k = (i != 0)
  | .str y => y.length ≤ sizeLine ∧ k = ((y.length : Int) != 0)
  | .byt y => y.size ≤ sizeLine ∧ k = ((y.size : Int) != 0)
  | .ref p => (∃ xs, SqL K H p xs ∧ k = !xs.isEmpty) ∨ (∃ xs, SqT K H p xs ∧ k = !xs.isEmpty) ∨ ∃ kvs, H p = some (.dK kvs) ∧ k = !kvs.isEmpty
  | _ => False
theorem isEmpty_kv {κ : Type} {kvs : List (κ × V)} {vs : List (κ × Value)} (r : KV kvs vs) : (!vs.isEmpty) = !kvs.isEmpty := by
  cases r <;> rfl
theorem isEmpty_of {xs : List V} {its : List Value} (r : Vals xs its) : (!its.toArray.isEmpty) = !xs.isEmpty := by
  cases r <;> simp
theorem line63 : (sizeLine : Nat) < 2 ^ 63 := by rw [sizeLine_eq]; decide
theorem tru_ok : TruR X (fun x H Q => ∃ k, TruV X.K x H k ∧ Q k H) := by
  intro pins s σ H x v Q I rx h
  obtain ⟨k, e, q⟩ := h
  have hl := line63
  have hs : sizeLine = 16777216 := sizeLine_eq
  cases x with
  | non =>
    cases rx
    have e' : k = false := e
    subst e'
    exact truthy_none ⟨H, I, q⟩
  | bl b =>
    cases rx
    have e' : k = b := e
    subst e'
    exact wpAny_truthy_bool ⟨H, I, q⟩
  | int i =>
    obtain ⟨t, rfl⟩ := rx
    have e' : k = (i != 0) := e
    subst e'
    exact PySem.P.truthy_int ⟨H, I, q⟩
  | str y =>
    obtain ⟨t, rfl⟩ := rx
    obtain ⟨hy, e'⟩ : y.length ≤ sizeLine ∧ k = ((y.length : Int) != 0) := e
    subst e'
    exact PySem.P.truthy_str (by omega) ⟨H, I.tok _, q⟩
  | byt y =>
    obtain ⟨t, rfl⟩ := rx
    obtain ⟨hy, e'⟩ : y.size ≤ sizeLine ∧ k = ((y.size : Int) != 0) := e
    subst e'
    exact PySem.W.truthy_bytes (by omega) ⟨H, I.tok _, q⟩
  | ref p =>
    cases rx
    have e' : (∃ xs, SqL X.K H p xs ∧ k = !xs.isEmpty) ∨ (∃ xs, SqT X.K H p xs ∧ k = !xs.isEmpty) ∨ ∃ kvs, H p = some (.dK kvs) ∧ k = !kvs.isEmpty := e
    rcases e' with ⟨xs, hx, e'⟩ | ⟨xs, hx, e'⟩ | ⟨kvs, hx, e'⟩
    · subst e'
      obtain ⟨its, r, pl, hz⟩ := I.list hx
      have hlen := r.length
      exact wpAny_truthy_list pl.isList (by simp only [List.size_toArray]; omega) ⟨H, I.tok _, by rw [isEmpty_of r]; exact q⟩
    · subst e'
      obtain ⟨its, r, pl, hz⟩ := I.tuple hx
      have hlen := r.length
      exact truthy_tuple pl (by simp only [List.size_toArray]; omega) ⟨H, I.tok _, by rw [isEmpty_of r]; exact q⟩
    · subst e'
      obtain ⟨hz, hS, vs, r, m⟩ : kvs.length ≤ sizeLine ∧ (p == sysModules) = false ∧ ∃ vs, KV kvs vs ∧ s.heap.DictOf (mixKind X.prog X.w) p vs := I.hok p _ hx
      have hlen : kvs.length = vs.length := Paired.length r
      exact wpAny_truthy_dict hS m (by omega) ⟨H, I.tok _, by rw [isEmpty_kv r]; exact q⟩
  | _ => exact (show False from e).elim
theorem pt_truth (ha : PE X a ta) (he : ∀ whole, isTrue a X.env whole = (do let v ← whole; standAt a.pos; holding [v] (truthy v))) :
    PT X a (fun σ H Q => ta σ H fun x H' => ∃ k, TruV X.K x H' k ∧ Q k H') := by
  intro pins s σ H Q I h
  exact isTrue_plain (thn (ha pins s σ H _ I h) fun v s1 ⟨x, H1, I1, r1, q1⟩ => tru_ok pins s1 σ H1 x v Q I1 r1 q1) (he _)
theorem op_add_str : OpR X (binaryOp .Add) (fun x y H Q => ∃ i j, x = .str i ∧ y = .str j ∧ i.length + j.length ≤ sizeLine ∧ Q (.str (i ++ j)) H) := by
  intro pins s σ H x y v u Q I rx ry h
  obtain ⟨i, j, rfl, rfl, hz, q⟩ := h
  obtain ⟨t, rfl⟩ := rx
  obtain ⟨t', rfl⟩ := ry
  exact add_str (fun t' tk => ⟨.str (i ++ j), H, I.tok _, ⟨_, rfl⟩, q⟩) hz
theorem vals1 {x : V} {us : List Value} (r : Vals [x] us) : ∃ u, us = [u] ∧ RelV x u := by
  cases r with
  | cons r1 r2 => cases r2; exact ⟨_, rfl, r1⟩
theorem vals2 {x y : V} {us : List Value} (r : Vals [x, y] us) : ∃ u w', us = [u, w'] ∧ RelV x u ∧ RelV y w' := by
  cases r with
  | cons r1 r2 =>
    cases r2 with
    | cons r3 r4 => cases r4; exact ⟨_, _, rfl, r1, r3⟩
theorem call_max2 (hc : X.calm = true) : CallR X (.builtin "max") (fun xs H Q => ∃ i j, xs = [.int i, .int j] ∧ Q (.int (if j > i then j else i)) H) := by
  intro pins s σ H xs us Q I r h
  obtain ⟨i, j, rfl, q⟩ := h
  obtain ⟨u, w', rfl, ⟨t, rfl⟩, ⟨t', rfl⟩⟩ := vals2 r
  refine max_two_ints (I.ok.hd hc) fun h' tk k => ⟨_, H, I.kept k, ?_, q⟩
  by_cases hj : j > i
  · rw [if_pos hj, if_pos hj]; exact ⟨_, rfl⟩
  · rw [if_neg hj, if_neg hj]; exact ⟨_, rfl⟩
theorem call_int1 : CallR X (.type "int") (fun xs H Q => (∃ i, xs = [.int i] ∧ Q (.int i) H) ∨ ∃ k, xs = [.bl k] ∧ Q (.int (if k then 1 else 0)) H) := by
  intro pins s σ H xs us Q I r h
  rcases h with ⟨i, rfl, q⟩ | ⟨k, rfl, q⟩
  · obtain ⟨u, rfl, t, rfl⟩ := vals1 r
    exact call_int_int ⟨.int i, H, I, ⟨_, rfl⟩, q⟩
  · obtain ⟨u, rfl, r1⟩ := vals1 r
    cases r1
    exact call_int_bool ⟨.int (if k then 1 else 0), H, I.tok _, ⟨_, rfl⟩, q⟩
end
end L2
namespace L2
open PySem PySem.Spec PyProof.Rows
structure ObjM (h : Heap) (x dx C : Addr) (mA : Str → Option Value) : Prop where
  obj : h.get? x = some (PySem.W.instObj C dx)
  ns : h.Ns1 dx mA
  ne : dx ≠ x
theorem lookIn_ns {h : Heap} {dx : Addr} {mA : Str → Option Value} (n : h.Ns1 dx mA) : ∃ od, h.get? dx = some od ∧ ∀ name, PySem.W.lookIn name od = some (mA name) := by
  obtain ⟨o, es, ep, ho, hd, hk, _, hm⟩ := n
  refine ⟨o, ho, fun name => ?_⟩
  have e := hm name
  unfold nsFind findBy at e
  rw [← Array.find?_toList] at e
  unfold PySem.W.lookIn
  rw [hd]
  dsimp only
  split
  · rename_i y q
    rw [q] at e
    exact congrArg some e
  · rename_i q
    rw [q] at e
    have a : es.toList.any (·.refKey) = false := by
      rw [List.any_eq_false]
      intro y hy
      obtain ⟨z, t, hkey⟩ := hk y (Array.mem_toList_iff.mp hy)
      simp [DictEntry.refKey, hkey]
    have a' : ¬ es.toList.any (·.refKey) = true := by rw [a]; exact Bool.false_ne_true
    rw [if_neg a']
    exact congrArg some e
theorem ObjM.look {h : Heap} {x dx C : Addr} {mA : Str → Option Value} (I : ObjM h x dx C mA) : ∃ od, PySem.W.InstAt h x (PySem.W.instObj C dx) C (some od) ∧ ∀ name, PySem.W.lookIn name od = some (mA name) :=
  let ⟨od, ho, hl⟩ := lookIn_ns I.ns
  ⟨od, ⟨I.obj, rfl, rfl, ho⟩, hl⟩
section
variable {prog : Program} {w : World} {A : Around} {E : Value → Shared → Prop} {s : Shared} {K : PySem.W.Frag} {x dx C f : Addr} {mA : Str → Option Value} {name : Str} {v : Value}
end
theorem RelO.some_of {v : V} {o : Option Value} (r : RelO (some v) o) : ∃ u, o = some u ∧ RelV v u := by
  cases o with
  | none => exact (show False from r).elim
  | some u => exact ⟨u, rfl, r⟩
section
variable {P : Program} {w : World} {H H' : Hp} {h h' : Heap} {a C dx : Addr} {fs fs' : List (Str × V)}
theorem ins_get (hok : HOk P w H h) (e : H a = some (.ins C dx fs)) : ∃ mA, ObjM h a dx C mA ∧ (∀ f, RelO (fs.lookup f) (mA f)) ∧ PySem.Within mA (fs.map (·.1)) ∧ fs.length ≤ 1000 ∧ H dx = some (.own a) := by
  obtain ⟨d, z, ne, ob, mA, n, r, q⟩ := (show ObjOk P w H h a (.ins C dx fs) from hok a _ e)
  exact ⟨mA, ⟨ob, n, ne⟩, r, q, z, d⟩
end
structure Cls (K : PySem.W.Frag) (C : Addr) : Prop where
  pg : PySem.W.plainGet K C Str.empty = true
  hd : PySem.W.hasDictIn K C = true
  po : PySem.W.plainOver K C = true
  sa : PySem.W.findIn K (.ref C) "__setattr__" = some (some (.builtin "object.__setattr__"))
theorem Cls.get {K : PySem.W.Frag} {C : Addr} (c : Cls K C) (f : Str) : PySem.W.plainGet K C f = true := c.pg
section
variable {X : Cx} {pins : List (Addr × Obj)} {σ : St} {H : Hp} {s : Shared} {a C dx : Addr} {fs : List (Str × V)} {f : Str} {v : V} {A : Around} {E : Value → Shared → Prop}
end
section
variable {X : Cx} {o e value : Expr} {f : Str} {pos pos' tpos : Pos} {ta tv : TE}
end
section
variable {X : Cx} {pins : List (Addr × Obj)} {σ : St} {H : Hp} {s : Shared} {A : Around} {E : Value → Shared → Prop} {Q : Value → Shared → Prop} {c : Value} {b : Bool}
inductive TyOf (K : PySem.W.Frag) (H : Hp) : V → Value → Prop where
  | non : TyOf K H .non (.type "NoneType")
  | bl (x : Bool) : TyOf K H (.bl x) (.type "bool")
  | int (i : Int) : TyOf K H (.int i) (.type "int")
  | str (x : Str) : TyOf K H (.str x) (.type "str")
  | flt (x : UInt64) : TyOf K H (.flt x) (.type "float")
  | lst {a : Addr} {xs : List V} (e : H a = some (.lst xs)) : TyOf K H (.ref a) (.type "list")
  | frz {a : Addr} {o : Obj} {xs : List V} (e : H a = some (.frz o (.lst xs))) : TyOf K H (.ref a) (.type "list")
  | tup {a : Addr} {xs : List V} (e : H a = some (.tup xs)) : TyOf K H (.ref a) (.type "tuple")
  | dK {a : Addr} {kvs : List (Key × V)} (e : H a = some (.dK kvs)) : TyOf K H (.ref a) (.type "dict")
  | dT {a : Addr} {kvs : List (List Key × V)} (e : H a = some (.dT kvs)) : TyOf K H (.ref a) (.type "dict")
  | ins {a C dx : Addr} {fs : List (Str × V)} (e : H a = some (.ins C dx fs)) (cl : Cls K C) (ha : PySem.W.findIn K (.ref C) "__class__" = some (some (.builtin "object.__class__")))
      (hn : PySem.W.specialIn K (.builtin "object.__class__") "__get__" = some (some (.builtin "getset_descriptor.__get__"))) (htk : PySem.W.takesIn K (.builtin "object.__class__") = some true)
      (hm : PySem.W.mroIn K C (.type "object") = some true) : TyOf K H (.ref a) (.ref C)
theorem isinst_ok {x : V} {u t : Value} (I : Inv X pins σ H s) (rx : RelV x u) (ty : TyOf X.K H x t) (e : PySem.W.kitOne X.K t c = some b) (h : ∀ tk, Q (.bool b) { s with toks := tk }) :
    wpAny (model X.prog X.w) A (call (.builtin "isinstance") [u, c]) Q E s := by
  cases ty with
  | non => cases (show u = Value.none from rx); exact PySem.W.kia_one PySem.W.kitx_none I.kIn True.intro e (fun z => nomatch z) h
  | bl y => cases (show u = Value.bool y from rx); exact PySem.W.kia_one PySem.W.kitx_bool I.kIn True.intro e (fun z => nomatch z) h
  | int i => obtain ⟨t, q⟩ := (show ∃ t, u = Value.int i t from rx); cases q; exact PySem.W.kia_one PySem.W.kitx_int I.kIn True.intro e (fun z => nomatch z) h
  | str y => obtain ⟨t, q⟩ := (show ∃ t, u = Value.str y t from rx); cases q; exact PySem.W.kia_one PySem.W.kitx_str I.kIn True.intro e (fun z => nomatch z) h
  | flt y => obtain ⟨t, q⟩ := (show ∃ t, u = Value.float y t from rx); cases q; exact PySem.W.kia_one PySem.W.kitx_float I.kIn True.intro e (fun z => nomatch z) h
  | @lst a xs ea =>
    cases (show u = Value.ref a from rx)
    obtain ⟨_, _, n, _, h1⟩ := (show ObjOk X.prog X.w H s.heap a (.lst xs) from I.hok a _ ea)
    exact PySem.W.kia_one PySem.W.kitx_list I.kIn ⟨_, h1, rfl⟩ e (fun z => nomatch z) h
  | @frz a ob xs ea =>
    cases (show u = Value.ref a from rx)
    obtain ⟨_, _, _, n, _, h1⟩ := (show ObjOk X.prog X.w H s.heap a (.frz ob (.lst xs)) from I.hok a _ ea)
    exact PySem.W.kia_one PySem.W.kitx_list I.kIn ⟨_, h1, rfl⟩ e (fun z => nomatch z) h
  | @tup a xs ea =>
    cases (show u = Value.ref a from rx)
    obtain ⟨_, _, _, p⟩ := (show ObjOk X.prog X.w H s.heap a (.tup xs) from I.hok a _ ea)
    obtain ⟨⟨o, h1, h2, _⟩, _⟩ := p
    exact PySem.W.kia_one PySem.W.kitx_tuple I.kIn ⟨o, h1, h2⟩ e (fun z => nomatch z) h
  | @dK a kvs ea =>
    cases (show u = Value.ref a from rx)
    obtain ⟨_, _, vs, _, p⟩ := (show ObjOk X.prog X.w H s.heap a (.dK kvs) from I.hok a _ ea)
    obtain ⟨o, es, ep, h1, h2, _⟩ := p
    exact PySem.W.kia_one PySem.W.kitx_dict I.kIn ⟨o, h1, h2.1⟩ e (fun z => nomatch z) h
  | @dT a kvs ea =>
    cases (show u = Value.ref a from rx)
    obtain ⟨_, _, xs, _, o, es, ep, h1, h2, _⟩ := (show ObjOk X.prog X.w H s.heap a (.dT kvs) from I.hok a _ ea)
    exact PySem.W.kia_one PySem.W.kitx_dict I.kIn ⟨o, h1, h2.1⟩ e (fun z => nomatch z) h
  | @ins a C dx fs ea cl ha hn htk hm =>
    cases (show u = Value.ref a from rx)
    obtain ⟨mA, O, _⟩ := ins_get I.hok ea
    obtain ⟨od, J, _⟩ := O.look
    exact PySem.W.kia_one (PySem.W.kitx_own (cl.get _) cl.hd ha hn htk hm) I.kIn J e (fun z => nomatch z) h
end
end L2
namespace L2
open PySem PySem.Spec PyProof.Rows
structure Room (k : Nat) (A : Around) : Prop where
  hd : A.handled = none
  dp : A.depth + 3 * k + 5 < recursionLimit
  un : A.units + 16 * k + 200 < cLine
theorem Room.mono {j k : Nat} {A : Around} (r : Room k A) (h : j ≤ k) : Room j A := ⟨r.hd, by have := r.dp; omega, by have := r.un; omega⟩
theorem Room.deeper {k : Nat} {A : Around} (r : Room (k + 1) A) (env : Env) : Room k (A.deeper env) :=
  ⟨r.hd, by have := r.dp; show A.depth + 1 + 3 * k + 5 < _; omega, by have := r.un; show A.units + 3 + 16 * k + 200 < _; omega⟩
theorem Room.depth {k : Nat} {A : Around} (r : Room k A) : A.depth < recursionLimit := by have := r.dp; omega
theorem Room.units {k : Nat} {A : Around} (r : Room k A) : A.units + 64 < cLine := by have := r.un; omega
def tNil : TA := fun _ H Q => Q [] H
def tCons (ta : TE) (tr : TA) : TA := fun σ H Q => ta σ H fun x H1 => tr σ H1 fun xs H2 => Q (x :: xs) H2
section
variable {X : Cx} {e : Expr} {es : List Expr} {te : TE} {t : TA} {pos : Pos}
theorem pa_nil : PA X [] tNil := fun _ _ _ _ H Q I h => Calls.spliced_nil ⟨[], H, I, .nil, h⟩
theorem pa_cons (ha : PE X e te) (hr : PA X es t) (hs : starEach (e :: es) X.env = (false, eval e X.env) :: starEach es X.env := by rfl) : PA X (e :: es) (tCons te t) := by
  intro pos pins s σ H Q I h
  rw [hs]
  show wpAny _ _ (spliced ((false, eval e X.env) :: backTo pos (starEach es X.env))) _ _ s
  refine Calls.spliced_cons (thn (ha pins s σ H _ I h) fun u s1 ⟨x, H1, I1, r1, q1⟩ => ?_)
  exact thn (hr pos pins s1 σ H1 _ I1 q1) fun us s2 ⟨xs, H2, I2, r2, q2⟩ => ⟨x :: xs, H2, I2, .cons r1 r2, q2⟩
def tTup (t : TA) : TE := fun σ H Q => t σ H fun xs H1 => xs.length ≤ sizeLine ∧ ∀ p, H1 p = none → Q (.ref p) (upd H1 p (.tup xs))
def tLst (t : TA) : TE := fun σ H Q => t σ H fun xs H1 => xs.length ≤ sizeLine ∧ ∀ p, H1 p = none → Q (.ref p) (upd H1 p (.lst xs))
theorem pe_tup {x1} (h : PA X es t) : PE X (.Tuple es x1 pos) (tTup t) := by
  intro pins s σ H Q I hq
  refine wpAny_Tuple_spliced (thn (h pos pins s σ H _ I hq) fun us s1 ⟨xs, H1, I1, r, z, q⟩ => ⟨by rw [← r.length]; exact z, ?_⟩)
  have hf : H1 s1.heap.objs.size = none := I1.hok.fresh (Nat.le_refl _)
  refine ⟨.ref s1.heap.objs.size, upd H1 s1.heap.objs.size (.tup xs), I1.laid (t' := s1.toks) (fun b u e => Heap.get?_push_of_some _ e) (Nat.le_refl _) ?_, rfl, q _ hf⟩
  exact ⟨z, us, r, ⟨_, Heap.get?_push_size _ rfl, rfl, _, rfl⟩, NoD.new _ rfl⟩
theorem pe_lst (h : PA X es t) : PE X (.List es pos) (tLst t) := by
  intro pins s σ H Q I hq
  refine wpAny_List_spliced (thn (h pos pins s σ H _ I hq) fun us s1 ⟨xs, H1, I1, r, z, q⟩ => ⟨by rw [← r.length]; exact z, ?_⟩)
  have hf : H1 s1.heap.objs.size = none := I1.hok.fresh (Nat.le_refl _)
  refine ⟨.ref s1.heap.objs.size, upd H1 s1.heap.objs.size (.lst xs), I1.laid (t' := s1.toks) (fun b u e => Heap.get?_push_of_some _ e) (Nat.le_refl _) ?_, rfl, q _ hf⟩
  exact ⟨z, us, 0, r, Heap.get?_push_size _ rfl⟩
end
abbrev Sp := List V → Hp → VK → XK → Prop
abbrev CXT := List Env → Hp → Shared → XK → Value → Shared → Prop
structure Env0 (P : Program) (w : World) (K : PySem.W.Frag) (mg : Str → Option Value) (base : Heap) (A : Around) (outer : List Env) (s : Shared) (H : Hp) : Prop where
  frames : A.frames = some outer
  mod : Mod K mg base
  bs : ∀ b o, base.get? b = some o → s.heap.get? b = some o ∧ H b = none
  bsz : base.objs.size ≤ s.heap.objs.size
  funs : s.heap.FunFrames base outer
  frf : ∀ b ∈ frs outer, H b = none
  hok : HOk P w H s.heap
  bare : AllBare s.gens
def CE (outer : List Env) (P : Program) (w : World) (H : Hp) (s : Shared) (Q : VK) (u : Value) (s' : Shared) : Prop :=
  ∃ v H', s'.os = s.os ∧ AllBare s'.gens ∧ Un (frs outer) [] H H' s.heap s'.heap ∧ HOk P w H' s'.heap ∧ RelV v u ∧ Q v H'
def CR (CX : CXT) (outer : List Env) (P : Program) (w : World) (H : Hp) (s : Shared) (Q : VK) (E : XK) (r : Result) (s' : Shared) : Prop :=
  match r with
  | .ok (.ret u) => CE outer P w H s Q u s'
  | .ok _ => False
  | .error e => CX outer H s E e s'
structure FnOk (P : Program) (w : World) (K : PySem.W.Frag) (mg : Str → Option Value) (base : Heap) (CX : CXT) (k : Nat) (f : Addr) (fd : FuncData) (ps : List Str) (sp : Sp) : Prop where
  len : ∀ vs H Q E, sp vs H Q E → vs.length = ps.length
  run : ∀ (A : Around) (outer : List Env) (s : Shared) (H : Hp) (args : Args) (us : List Value) (vs : List V) (Q : VK) (E : XK), Room k A → Env0 P w K mg base A outer s H → BindsTo s fd args (ps.zip us) → Vals vs us → sp vs H Q E →
    codeAny (model P w) A (.call (.ref f) args) (CR CX outer P w H s Q E) s
theorem FnOk.mono {P : Program} {w : World} {K : PySem.W.Frag} {mg : Str → Option Value} {base : Heap} {CX : CXT} {j k : Nat} {f : Addr} {fd : FuncData} {ps : List Str} {sp : Sp} (F : FnOk P w K mg base CX j f fd ps sp) (h : j ≤ k) :
    FnOk P w K mg base CX k f fd ps sp := ⟨F.len, fun A outer s H args us vs Q E hr => F.run A outer s H args us vs Q E (hr.mono h)⟩
section
variable {X : Cx} {pins : List (Addr × Obj)} {σ : St} {H : Hp} {s s' : Shared}
theorem Inv.env0 (I : Inv X pins σ H s) : Env0 X.prog X.w X.K X.mg X.base X.A X.stack s H :=
  ⟨I.ok.frames, I.ok.mod, I.bs, Nat.le_trans I.ok.bsz I.sz, I.stack, I.stkFree, I.hok, I.bare⟩
theorem Inv.after {Q : VK} {u : Value} (I : Inv X pins σ H s) (h : CE X.stack X.prog X.w H s Q u s') : EP X pins σ Q u s' := by
  obtain ⟨v, H', os, bare, un, hok, r, q⟩ := h
  obtain ⟨hh, g, d, t, os'⟩ := s'
  obtain rfl : os' = s.os := os
  exact ⟨v, H', I.call (h' := hh) (g' := g) (d' := d) (t' := t) (ch := []) un hok bare (fun b z => absurd z (by simp)), r, q⟩
end
def tCall (sp : Sp) (dvs : List V) (E : XK) (t : TA) : TE := fun σ H Q => t σ H fun vs H1 => sp (vs ++ dvs) H1 Q E
def Binds (K : PySem.W.Frag) (fd : FuncData) (ps : List Str) (ds : List Value) : Prop :=
  ∀ (s : Shared) (us : List Value), K.In s.heap → (us ++ ds).length = ps.length → BindsTo s fd ⟨us, []⟩ (ps.zip (us ++ ds))
theorem Binds.all {K : PySem.W.Frag} {fd : FuncData} {ps : List Str} (h : ∀ us : List Value, us.length = ps.length → bindArgs fd ⟨us, []⟩ = pure (ps.zip us)) : Binds K fd ps [] := fun s us _ hl => by
  rw [List.append_nil] at hl ⊢
  exact .of_eq (h us hl)
def Passes (CX : CXT) (X : Cx) (E : XK) : Prop := ∀ (pins : List (Addr × Obj)) (σ : St) (H : Hp) (s : Shared) (e : Value) (s' : Shared), Inv X pins σ H s → CX X.stack H s E e s' → X.xe e s'
section
variable {X : Cx} {CX : CXT} {k : Nat} {f C : Addr} {fd : FuncData} {ps : List Str} {sp : Sp} {dvs : List V} {ds : List Value} {E : XK} {x m : Str} {p pos apos : Pos} {e o : Expr} {es : List Expr} {ta : TE} {t : TA}
theorem run_fn {pins : List (Addr × Obj)} {σ : St} {H : Hp} {s : Shared} {Q : VK} {us : List Value} {vs : List V} (F : FnOk X.prog X.w X.K X.mg X.base CX k f fd ps sp) (hr : Room k X.A) (hb : Binds X.K fd ps ds) (hd : Vals dvs ds) (hx : Passes CX X E)
    (I : Inv X pins σ H s) (r : Vals vs us) (h : sp (vs ++ dvs) H Q E) : wpAny (model X.prog X.w) X.A (call (.ref f) us) (EP X pins σ Q) X.xe s := by
  have r2 : Vals (vs ++ dvs) (us ++ ds) := r.append hd
  have hl : (us ++ ds).length = ps.length := by rw [← r2.length]; exact F.len _ _ _ _ h
  refine wpAny_call (codeAny_mono (F.run X.A X.stack s H ⟨us, []⟩ (us ++ ds) (vs ++ dvs) Q E hr I.env0 (hb s us I.kIn hl) r2 h) fun r s' hq => ?_)
  cases r with
  | error e => exact hx pins σ H s e s' I hq
  | ok fl =>
    cases fl with
    | ret u => exact I.after hq
    | next => exact False.elim hq
    | brk => exact False.elim hq
    | cont => exact False.elim hq
theorem pe_call (F : FnOk X.prog X.w X.K X.mg X.base CX k f fd ps sp) (hr : Room k X.A) (hg : Gl X x) (hm : X.mg x = some (.ref f)) (hk : PySem.W.keepIn X.K (.ref f) = true) (hb : Binds X.K fd ps ds) (hd : Vals dvs ds) (hx : Passes CX X E)
    (ha : PA X (e :: es) t) (hdb : (x == ("__debug__" : Str)) = false := by decide) (he : starEach (e :: es) X.env = (false, eval e X.env) :: starEach es X.env := by rfl) (hpl : (backTo pos (starEach es X.env)).any (·.1) = false := by rfl) :
    PE X (.Call (.Name x p) (e :: es) [] pos) (tCall sp dvs E t) := by
  intro pins s σ H Q I h
  refine wpAny_Call_Name_kw (ld_glob I hg hm ?_ hdb)
  refine PySem.W.callWith_K (h₀ := X.base) I.ok.mod.kin hk (thn (ha pos pins s σ H _ I h) fun us s1 ⟨vs, H1, I1, r, q⟩ => ⟨I1.kIn, ?_⟩) he hpl
  exact run_fn F hr hb hd hx I1 r q
theorem pe_call0 (F : FnOk X.prog X.w X.K X.mg X.base CX k f fd ps sp) (hr : Room k X.A) (hg : Gl X x) (hm : X.mg x = some (.ref f)) (hk : PySem.W.keepIn X.K (.ref f) = true) (hb : Binds X.K fd ps ds) (hd : Vals dvs ds) (hx : Passes CX X E)
    (hdb : (x == ("__debug__" : Str)) = false := by decide) : PE X (.Call (.Name x p) [] [] pos) (tCall sp dvs E tNil) := by
  intro pins s σ H Q I h
  refine wpAny_Call_Name_kw (ld_glob I hg hm ?_ hdb)
  exact PySem.W.callWith_K0 I.kIn hk (run_fn (us := []) F hr hb hd hx I .nil h)
end
section
variable {X : Cx} {CX : CXT} {k : Nat} {f C : Addr} {fd : FuncData} {ps ks : List Str} {sp : Sp} {E : XK} {x m : Str} {p pos apos kpos : Pos} {e o : Expr} {es : List Expr} {kws : List Keyword} {te ta : TE} {t tk : TA} {nm : Option Str}
variable {g : List Value → List Value → List Value} {gV : List V → List V → List V}
end
structure FnScope (N P : List Str) (sc : Scope) : Prop where
  kind : sc.kind = .function
  co : sc.isCoroutine = false
  gen : sc.isGenerator = false
  nd : N.Nodup
  pre : N.take P.length = P
  par : ∀ x ∈ P, sc.names.lookup x = some .local ∨ sc.names.lookup x = some .cell
  nofree : ∀ y ∈ sc.names, y.2 ≠ .free
theorem bindL_out {kindOf : Str → Option NameKind} {x : Str} : ∀ {binds : List (Str × Value)} {m : Str → Option Value}, (∀ v, (x, v) ∉ binds) → bindL kindOf binds m x = m x
  | [], _, _ => rfl
  | (n, v) :: r, m, h => by
    unfold bindL
    rw [bindL_out fun w hw => h w (List.mem_cons_of_mem _ hw)]
    split
    · have : x ≠ n := by rintro rfl; exact h v List.mem_cons_self
      simp [this]
    · rfl
theorem bindC_out {kindOf : Str → Option NameKind} {x : Str} : ∀ {binds : List (Str × Value)} {m : Str → Option Value}, (∀ v, (x, v) ∉ binds) → bindC kindOf binds m x = m x
  | [], _, _ => rfl
  | (n, v) :: r, m, h => by
    unfold bindC
    rw [bindC_out fun w hw => h w (List.mem_cons_of_mem _ hw)]
    split
    · rfl
    · have : x ≠ n := by rintro rfl; exact h v List.mem_cons_self
      simp [this]
theorem bindL_get {kindOf : Str → Option NameKind} {x : Str} {v : Value} : ∀ {P : List Str} {vs : List Value} {i : Nat} {m : Str → Option Value}, P.Nodup → P[i]? = some x → vs[i]? = some v → kindOf x = some .local →
    bindL kindOf (P.zip vs) m x = some v
  | [], _, _, _, _, h, _, _ => by simp at h
  | _ :: _, [], _, _, _, _, h, _ => by simp at h
  | p :: P, w :: vs, 0, m, nd, h1, h2, hk => by
    simp at h1 h2; subst h1; subst h2
    show bindL kindOf ((p, w) :: P.zip vs) m p = _
    unfold bindL
    rw [bindL_out fun v hv => (List.nodup_cons.mp nd).1 (List.of_mem_zip hv).1, if_pos hk]
    simp
  | p :: P, w :: vs, i + 1, m, nd, h1, h2, hk => by
    show bindL kindOf ((p, w) :: P.zip vs) m x = _
    unfold bindL
    exact bindL_get (i := i) (List.nodup_cons.mp nd).2 (by simpa using h1) (by simpa using h2) hk
theorem bindC_get {kindOf : Str → Option NameKind} {x : Str} {v : Value} : ∀ {P : List Str} {vs : List Value} {i : Nat} {m : Str → Option Value}, P.Nodup → P[i]? = some x → vs[i]? = some v → kindOf x ≠ some .local →
    bindC kindOf (P.zip vs) m x = some v
  | [], _, _, _, _, h, _, _ => by simp at h
  | _ :: _, [], _, _, _, _, h, _ => by simp at h
  | p :: P, w :: vs, 0, m, nd, h1, h2, hk => by
    simp at h1 h2; subst h1; subst h2
    show bindC kindOf ((p, w) :: P.zip vs) m p = _
    unfold bindC
    rw [bindC_out fun v hv => (List.nodup_cons.mp nd).1 (List.of_mem_zip hv).1, if_neg hk]
    simp
  | p :: P, w :: vs, i + 1, m, nd, h1, h2, hk => by
    show bindC kindOf ((p, w) :: P.zip vs) m x = _
    unfold bindC
    exact bindC_get (i := i) (List.nodup_cons.mp nd).2 (by simpa using h1) (by simpa using h2) hk
def start (N : List Str) (vs : List V) : St := vs.map some ++ List.replicate (N.length - vs.length) none
def cxOf (CX : CXT) (P : Program) (w : World) (K : PySem.W.Frag) (mg : Str → Option Value) (base : Heap) (N : List Str) (qual : Str) (scope : Scope) (f : Addr) (cd : Value) (A : Around) (outer : List Env) (s : Shared) (H : Hp) (E : XK) : Cx where
  prog := P
  w := w
  K := K
  mg := mg
  base := base
  A := A.deeper (envOfC qual scope s.heap.objs.size f cd)
  N := N
  s₀ := s
  H₀ := H
  env := envOfC qual scope s.heap.objs.size f cd
  outer := outer
  stack := envOfC qual scope s.heap.objs.size f cd :: outer
  ex := []
  calm := true
  fn := fun _ => true
  pn := []
  xe := fun e s' => wpAny (model P w) (A.deeper (envOfC qual scope s.heap.objs.size f cd)) (leaving (envOfC qual scope s.heap.objs.size f cd) e) (fun _ s'' => CX outer H s E e s'') (fun e' s'' => CX outer H s E e' s'') s'
theorem cell_has {sc : Scope} {n : Nat} {x : Str} (h : sc.names.lookup x = some .cell) : ∃ c, (cellsFrom n sc.names []).lookup x = some c := by
  have q := PySem.W.cellsFrom_some sc.names n [] (.inl h)
  exact Option.isSome_iff_exists.mp q
theorem inv_start {CX : CXT} {P : Program} {w : World} {K : PySem.W.Frag} {mg : Str → Option Value} {base : Heap} {N ps : List Str} {qual : Str} {scope : Scope} {f : Addr} {cd : Value} {A : Around} {outer : List Env} {s s1 : Shared} {H : Hp} {E : XK} {us : List Value} {vs : List V}
    (S : FnScope N ps scope) (hd : A.handled = none) (e0 : Env0 P w K mg base A outer s H) (hl : vs.length = ps.length) (r : Vals vs us)
    (x : InCallC s s.heap.objs.size (bindL (envOfC qual scope s.heap.objs.size f cd).kindOf (ps.zip us) fun _ => none) (cellsFrom (s.heap.objs.size + 1) scope.names []) (bindC (envOfC qual scope s.heap.objs.size f cd).kindOf (ps.zip us) fun _ => none) s1) :
    Inv (cxOf CX P w K mg base N qual scope f cd A outer s H E) [] (start N vs) H s1 := by
  have hpl : ps.length ≤ N.length := by have := congrArg List.length S.pre; rw [List.length_take] at this; omega
  obtain ⟨h1, tk, rfl, hk⟩ := x.done
  have noA : ∀ b : Addr, b ∉ (cxOf CX P w K mg base N qual scope f cd A outer s H E).ex := fun b z => absurd (show b ∈ ([] : List Addr) from z) (by simp)
  refine ⟨⟨e0.mod, S.kind, rfl, rfl, Nat.le_refl _, fun y z c h1 h2 => ?_, fun y hy => ?_, fun y c _ h => ?_, fun _ => hd, Around.frames_deeper e0.frames, .inr ⟨rfl, rfl⟩, fun b z => absurd z (noA b), e0.bs, e0.bsz, fun b _ _ => noA b, fun b z => absurd z (noA b), e0.funs, e0.frf⟩,
    rfl, e0.bare, Un.kept hk, ⟨_, x.toInCall.ns, fun i y v h1 h2 h3 => ?_⟩, fun y c h => ⟨_, x.cell y c h⟩, e0.hok.fresh (Nat.le_refl _), fun y c h => ?_, fun p hp => absurd (show p ∈ ([] : List (Addr × Obj)) from hp) (by simp), e0.hok.kept hk, ?_⟩
  · exact name_of_addr x.apart (PySem.mem_of_lookup h1) (PySem.mem_of_lookup h2)
  · have hy : scope.names.lookup y = some .cell ∨ scope.names.lookup y = some .free := hy
    rcases hy with hy | hy
    · exact cell_has hy
    · exact absurd rfl (S.nofree _ (PySem.mem_of_lookup hy))
  · exact Nat.le_of_lt (x.above y c (PySem.mem_of_lookup h))
  · have hi : i < vs.length := by
      unfold start at h2
      by_cases hi : i < vs.length
      · exact hi
      · rw [List.getElem?_append_right (by simpa using hi)] at h2
        rw [List.getElem?_replicate] at h2
        split at h2 <;> cases h2
    have ha : vs[i]? = some v := by
      unfold start at h2
      rw [List.getElem?_append_left (by simpa using hi), List.getElem?_map] at h2
      cases e : vs[i]? with
      | none => rw [e] at h2; cases h2
      | some a => rw [e] at h2; cases h2; rfl
    obtain ⟨u, hu, rv⟩ := r.get ha
    have hp : ps[i]? = some y := by
      rw [← S.pre, List.getElem?_take_of_lt (by omega)]; exact h1
    have ndP : ps.Nodup := by rw [← S.pre]; exact S.nd.sublist (List.take_sublist _ _)
    refine ⟨u, rv, ?_⟩
    rcases S.par y (List.mem_of_getElem? hp) with k | k
    · exact .inl ⟨k, bindL_get ndP hp hu k⟩
    · obtain ⟨c, e⟩ := cell_has (n := s.heap.objs.size + 1) k
      refine .inr ⟨.inl k, c, e, ?_⟩
      have q := x.cell y c e
      rw [bindC_get ndP hp hu (by show scope.names.lookup y ≠ _; rw [k]; decide)] at q
      exact q
  · exact e0.hok.fresh (Nat.le_of_lt (x.above y c (PySem.mem_of_lookup h)))
  · unfold start
    show _ = N.length
    rw [List.length_append, List.length_map, List.length_replicate]
    omega
theorem fn_of {CX : CXT} {P : Program} {w : World} {K : PySem.W.Frag} {mg : Str → Option Value} {base : Heap} {k : Nat} {f : Addr} {name qual : Str} {params : Arguments} {body : List Stmt} {scope : Scope} {dV kV doc pm cdv ct oc : Value} {an od : Option Addr}
    {osl : Array (Option Value)} {N ps : List Str} {sp : Sp} (lk : K.lookup f = some ⟨oc, od, .func (PySem.W.fnOf name qual params body scope dV kV doc pm an cdv ct), osl⟩) (hcd : PySem.W.codeIn K cdv qual = true) (S : FnScope N ps scope)
    (len : ∀ vs H Q E, sp vs H Q E → vs.length = ps.length)
    (hbody : ∀ (A : Around) (outer : List Env) (s : Shared) (H : Hp) (vs : List V) (Q : VK) (E : XK), Room k (A.deeper (envOfC qual scope s.heap.objs.size f cdv)) → sp vs H Q E →
      ∃ t, PSs (cxOf CX P w K mg base N qual scope f cdv A outer s H E) body t ∧ t { nx := fun _ H' => Q .non H', rt := Q } (start N vs) H) :
    FnOk P w K mg base CX (k + 1) f (PySem.W.fnOf name qual params body scope dV kV doc pm an cdv ct) ps sp := by
  refine ⟨len, fun A outer s H args us vs Q E hr e0 hb r hsp => ?_⟩
  have hl := len _ _ _ _ hsp
  have KX : K.In s.heap := e0.mod.kin.keeps fun b o e => (e0.bs b o e).1
  have lim : s.heap.NoLimit := e0.mod.nolimit.keeps fun b o e => (e0.bs b o e).1
  have hkind : ∀ y ∈ ps.zip us, scope.names.lookup y.1 = some .local ∨ (scope.names.lookup y.1 = some .cell ∧ ((cellsFrom (s.heap.objs.size + 1) scope.names []).lookup y.1).isSome = true) := fun ⟨n, v⟩ hy => by
    rcases S.par n (List.of_mem_zip hy).1 with q | q
    · exact .inl q
    · exact .inr ⟨q, PySem.W.cellsFrom_some _ _ _ (.inl q)⟩
  refine codeAny_call_function hr.depth (KX _ _ lk) rfl S.co S.gen rfl (PySem.W.codeRec_of KX hcd) (hb _ _ _ _ ?_)
  refine wpAny_newFunctionEnv_cells S.kind hkind fun env he s1 x => ?_
  subst he
  refine ⟨lim.keeps x.toInCall.keep, codeAny_func ?_⟩
  obtain ⟨t, ht, hq⟩ := hbody A outer s H vs Q E (hr.deeper _) hsp
  have I : Inv (cxOf CX P w K mg base N qual scope f cdv A outer s H E) [] (start N vs) H s1 := inv_start S hr.hd e0 hl r x
  refine wpAny_mono (ht [] s1 (start N vs) H _ I hq) (fun fl s' hs => ?_) fun e s' hs => hs
  have fin : ∀ {σ' : St} {H' : Hp} {v : V} {u : Value}, Inv (cxOf CX P w K mg base N qual scope f cdv A outer s H E) [] σ' H' s' → RelV v u → Q v H' → CE outer P w H s Q u s' :=
    fun {σ' H' v u} J rv q => ⟨v, H', J.os, J.bare, J.base, J.hok, rv, q⟩
  cases fl with
  | ret u =>
    obtain ⟨v, σ', H', J, rv, q⟩ := hs
    exact fin J rv q
  | next =>
    obtain ⟨σ', H', J, q⟩ := hs
    exact fin (v := V.non) (u := Value.none) J rfl q
  | brk =>
    obtain ⟨_, _, _, q⟩ := hs
    exact False.elim q
  | cont =>
    obtain ⟨_, _, _, q⟩ := hs
    exact False.elim q
end L2
namespace L2
open PySem PySem.Spec PyProof.Rows
section
variable {X : Cx} {x : Str} {p pos : Pos} {e : Expr} {es : List Expr} {t : TA} {id T : String} {r : List V → Hp → VK → Prop}
def tCB (r : List V → Hp → VK → Prop) (t : TA) : TE := fun σ H Q => t σ H fun vs H1 => r vs H1 Q
theorem pe_callB (hc : CallR X (.builtin id) r) (hg : Gl X x) (hm : X.mg x = none) (hv : bootBuiltins x = some (.builtin id)) (ha : PA X (e :: es) t) (hn : x ≠ "__name__" := by decide) (hdb : (x == ("__debug__" : Str)) = false := by decide)
    (he : starEach (e :: es) X.env = (false, eval e X.env) :: starEach es X.env := by rfl) (hpl : (backTo pos (starEach es X.env)).any (·.1) = false := by rfl) : PE X (.Call (.Name x p) (e :: es) [] pos) (tCB r t) := by
  intro pins s σ H Q I h
  refine wpAny_Call_Name_kw (ld_blt I hg hm hv ?_ hn hdb)
  exact PyProof.Rows.callWith_builtin1 (thn (ha pos pins s σ H _ I h) fun us s1 ⟨vs, H1, I1, r1, q1⟩ => hc pins s1 σ H1 vs us Q I1 r1 q1) he hpl
theorem pe_callTy (hc : CallR X (.type T) r) (hg : Gl X x) (hm : X.mg x = none) (hv : bootBuiltins x = some (.type T)) (ha : PA X (e :: es) t) (hn : x ≠ "__name__" := by decide) (hdb : (x == ("__debug__" : Str)) = false := by decide)
    (he : starEach (e :: es) X.env = (false, eval e X.env) :: starEach es X.env := by rfl) (hpl : (backTo pos (starEach es X.env)).any (·.1) = false := by rfl) : PE X (.Call (.Name x p) (e :: es) [] pos) (tCB r t) := by
  intro pins s σ H Q I h
  refine wpAny_Call_Name_kw (ld_blt I hg hm hv ?_ hn hdb)
  exact PyProof.Rows.callWith_type1 (thn (ha pos pins s σ H _ I h) fun us s1 ⟨vs, H1, I1, r1, q1⟩ => hc pins s1 σ H1 vs us Q I1 r1 q1) he hpl
end
end L2
namespace L2
open PySem PySem.Spec PyProof.Rows
section
variable {κ : Type} [DecidableEq κ]
def valV (kvs : List (κ × V)) (k : κ) : Option V := (kvs.find? fun kv => decide (kv.1 = k)).map (·.2)
def putK (kvs : List (κ × V)) (k : κ) (v : V) : List (κ × V) :=
  if (kvs.any fun kv => decide (kv.1 = k)) = true then kvs.map (fun kv => if kv.1 = k then (kv.1, v) else kv) else kvs ++ [(k, v)]
theorem valV_pos {p : κ × V} {r : List (κ × V)} {k : κ} (e : p.1 = k) : valV (p :: r) k = some p.2 := by simp [valV, List.find?_cons, e]
theorem valV_neg {p : κ × V} {r : List (κ × V)} {k : κ} (e : ¬ p.1 = k) : valV (p :: r) k = valV r k := by simp [valV, List.find?_cons, e]
theorem length_putK (kvs : List (κ × V)) (k : κ) (v : V) : (putK kvs k v).length ≤ kvs.length + 1 := by
  unfold putK
  split
  · rw [List.length_map]; omega
  · rw [List.length_append, List.length_cons, List.length_nil]; omega
theorem KV.val {kvs : List (κ × V)} {vs : List (κ × Value)} (r : KV kvs vs) (k : κ) : RelO (valV kvs k) (valueAt vs k) := by
  unfold KV at r
  induction r with
  | nil => exact True.intro
  | @cons p q ps qs h t ih =>
    obtain ⟨h1, h2⟩ := h
    by_cases e : p.1 = k
    · have e' : q.1 = k := h1.symm.trans e
      have b : valueAt (q :: qs) k = some q.2 := by simp [valueAt, List.find?_cons, e']
      rw [valV_pos e, b]; exact h2
    · have e' : ¬ q.1 = k := fun z => e (h1.trans z)
      have b : valueAt (q :: qs) k = valueAt qs k := by simp [valueAt, List.find?_cons, e']
      rw [valV_neg e, b]; exact ih
theorem KV.any {kvs : List (κ × V)} {vs : List (κ × Value)} (r : KV kvs vs) (k : κ) : (kvs.any fun kv => decide (kv.1 = k)) = vs.any fun kv => decide (kv.1 = k) := by
  unfold KV at r
  induction r with
  | nil => rfl
  | cons h t ih => rw [List.any_cons, List.any_cons, ih, h.1]
theorem KV.repl {kvs : List (κ × V)} {vs : List (κ × Value)} (r : KV kvs vs) (k : κ) {y : V} {u : Value} (ry : RelV y u) :
    KV (kvs.map fun kv => if kv.1 = k then (kv.1, y) else kv) (vs.map fun kv => if kv.1 = k then (kv.1, u) else kv) := by
  unfold KV at r ⊢
  induction r with
  | nil => exact .nil
  | @cons p q ps qs h t ih =>
    rw [List.map_cons, List.map_cons]
    refine .cons ?_ ih
    obtain ⟨h1, h2⟩ := h
    by_cases e : p.1 = k
    · rw [if_pos e, if_pos (h1.symm.trans e)]; exact ⟨h1, ry⟩
    · rw [if_neg e, if_neg (fun z => e (h1.trans z))]; exact ⟨h1, h2⟩
theorem KV.put {kvs : List (κ × V)} {vs : List (κ × Value)} (r : KV kvs vs) (k : κ) {y : V} {u : Value} (ry : RelV y u) : KV (putK kvs k y) (stored vs k u) := by
  unfold putK stored
  rw [r.any k]
  by_cases e : (vs.any fun kv => decide (kv.1 = k)) = true
  · rw [if_pos e, if_pos e]; exact r.repl k ry
  · rw [if_neg e, if_neg e]; exact Paired.snoc r ⟨rfl, ry⟩
theorem KV.length {kvs : List (κ × V)} {vs : List (κ × Value)} (r : KV kvs vs) : kvs.length = vs.length := Paired.length r
end
theorem kV_is {P : Program} {w : World} {k : Key} {u : Value} (r : RelV (kV k) u) : (mixKind P w).is k u = true := by
  cases k with
  | inl i => obtain ⟨t, e⟩ := (show ∃ t, u = Value.int i t from r); subst e; exact mixKind_int P w i t
  | inr x => obtain ⟨t, e⟩ := (show ∃ t, u = Value.str x t from r); subst e; exact mixKind_str P w x t
theorem items_are {P : Program} {w : World} : ∀ {ks : List Key} {us : List Value}, Vals (ks.map kV) us → ItemsAre (mixKind P w) ks us
  | [], _, r => by rw [List.map_nil] at r; cases r; exact .nil
  | k :: ks, _, r => by
    rw [List.map_cons] at r
    cases r with
    | cons h t => exact .cons (kV_is h) (items_are t)
abbrev KT (H : Hp) : List (List Key × V) → List (List Key × Addr × Value) → Prop := Paired fun p q => p.1 = q.1 ∧ H q.2.1 = some (.tup (p.1.map kV)) ∧ RelV p.2 q.2.2
theorem KT.val {H : Hp} {kvs : List (List Key × V)} {xs : List (List Key × Addr × Value)} (r : KT H kvs xs) (k : List Key) : RelO (valV kvs k) ((atKey xs k).map (·.2)) := by
  induction r with
  | nil => exact True.intro
  | @cons p q ps qs h t ih =>
    obtain ⟨h1, _, h2⟩ := h
    by_cases e : p.1 = k
    · have e' : q.1 = k := h1.symm.trans e
      have b : atKey (q :: qs) k = some q.2 := by simp [atKey, List.find?_cons, e']
      rw [valV_pos e, b]; exact h2
    · have e' : ¬ q.1 = k := fun z => e (h1.trans z)
      have b : atKey (q :: qs) k = atKey qs k := by simp [atKey, List.find?_cons, e']
      rw [valV_neg e, b]; exact ih
section
variable {P : Program} {w : World} {H : Hp} {h : Heap} {a : Addr}
theorem rd_of {u : HO} (ok : HOk P w H h) (e : Rd H a u) : ObjOk P w H h a u := e.ok ok
theorem dk_rd {kvs : List (Key × V)} (ok : HOk P w H h) (e : Rd H a (.dK kvs)) : kvs.length ≤ sizeLine ∧ (a == sysModules) = false ∧ ∃ vs, KV kvs vs ∧ h.DictOf (mixKind P w) a vs :=
  show ObjOk P w H h a (.dK kvs) from rd_of ok e
theorem dk_of {kvs : List (Key × V)} (ok : HOk P w H h) (e : H a = some (.dK kvs)) : kvs.length ≤ sizeLine ∧ (a == sysModules) = false ∧ ∃ vs, KV kvs vs ∧ h.DictOf (mixKind P w) a vs := dk_rd ok (.inl e)
theorem key_of {ks : List Key} (ok : HOk P w H h) (e : H a = some (.tup (ks.map kV))) : (tupleKind (mixKind P w)).is h ks a := by
  obtain ⟨_, its, r, ⟨o, h1, h2, n, h3⟩, _⟩ := (show ObjOk P w H h a (.tup (ks.map kV)) from ok a _ e)
  exact ⟨o, its.toArray, n, h1, h2, h3, by simpa using items_are r⟩
theorem dt_rd {kvs : List (List Key × V)} (ok : HOk P w H h) (e : Rd H a (.dT kvs)) : kvs.length ≤ sizeLine ∧ (a == sysModules) = false ∧
    ∃ xs, KT H kvs xs ∧ h.DictOfH (tupleKind (mixKind P w)) a xs := by
  obtain ⟨z, y, xs, r, o, es, ep, h1, h2, h3, h4, h5⟩ := (show ObjOk P w H h a (.dT kvs) from rd_of ok e)
  refine ⟨z, y, xs, r, o, es, ep, h1, h2, h3, h4, fun x hx => ?_, h5⟩
  have all : ∀ {l : List (List Key × V)} {m : List (List Key × Addr × Value)}, KT H l m → ∀ x ∈ m, (tupleKind (mixKind P w)).is h x.1 x.2.1 := by
    intro l m q
    induction q with
    | nil => intro x hx; exact nomatch hx
    | @cons p q ps qs hq t ih =>
      intro x hx
      rcases List.mem_cons.mp hx with e | hx
      · subst e
        exact key_of ok (by rw [← hq.1]; exact hq.2.1)
      · exact ih x hx
  exact all r x hx
end
def DGet (H : Hp) (a : Addr) (y : V) (r : Option V) : Prop :=
  (∃ kvs k, Rd H a (.dK kvs) ∧ y = kV k ∧ r = valV kvs k) ∨ ∃ kvs k b, Rd H a (.dT kvs) ∧ y = .ref b ∧ H b = some (.tup (k.map kV)) ∧ r = valV kvs k
theorem DGet.k {H : Hp} {a : Addr} {kvs : List (Key × V)} {k : Key} (e : H a = some (.dK kvs)) : DGet H a (kV k) (valV kvs k) := .inl ⟨kvs, k, .inl e, rfl, rfl⟩
section
variable {X : Cx} {pins : List (Addr × Obj)} {σ : St} {H : Hp} {s : Shared} {a : Addr} {y v : V} {u r : Value} {o : Option V} {A : Around} {E : Value → Shared → Prop}
theorem Inv.big (I : Inv X pins σ H s) : sysModules < s.heap.objs.size := by
  have h : mainGlobals < s.heap.objs.size := (I.mod.glob.keeps I.bk).lt
  exact Nat.lt_trans (by decide) h
theorem d_getItem {Q : Value → Shared → Prop} (hu : A.units + 1 < cLine) (I : Inv X pins σ H s) (g : DGet H a y (some v)) (ry : RelV y u) (h : ∀ w' s', Inv X pins σ H s' → RelV v w' → Q w' s') :
    wpAny (model X.prog X.w) A (getItem (.ref a) u) Q E s := by
  rcases g with ⟨kvs, k, e, ey, l⟩ | ⟨kvs, k, b, e, ey, eb, l⟩
  · subst ey
    obtain ⟨z, hd, vs, rel, dd⟩ := dk_rd I.hok e
    obtain ⟨w', hw, rw'⟩ := RelO.some_of (v := v) (o := valueAt vs k) (by rw [l]; exact rel.val k)
    exact wpAny_getItem_of (kV_is ry) dd.mapOf hw (h w' _ (I.tok _) rw')
  · subst ey
    cases (show u = Value.ref b from ry)
    obtain ⟨z, hd, xs, rel, dd⟩ := dt_rd I.hok e
    obtain ⟨w', hw, rw'⟩ := RelO.some_of (v := v) (o := (atKey xs k).map (·.2)) (by rw [l]; exact rel.val k)
    obtain ⟨p, hp, hp2⟩ := Option.map_eq_some_iff.mp hw
    refine wpAny_getItem_heap (tupleKind_room_in1 hu) (key_of I.hok eb) dd hp ?_
    rw [hp2]
    exact h w' _ (I.tok _) rw'
theorem d_write {h' : Heap} {t' : Nat} {ob : HO} (I : Inv X pins σ H s) (mu : Mut (H a)) (hs : Heap.SameBut a s.heap h') (he : ∃ q, h'.get? a = some q) (new : ObjOk X.prog X.w (upd H a ob) h' a ob) :
    Inv X pins σ (upd H a ob) { s with heap := h', toks := t' } :=
  I.write (x := a) (e := a) mu (.inl rfl) (fun b q hb z => (hs.2 b hb).trans z) he new
theorem dk_new {P : Program} {w : World} {H' : Hp} {h' : Heap} {kvs : List (Key × V)} {vs : List (Key × Value)} (z : kvs.length ≤ sizeLine) (hd : (a == sysModules) = false) (rel : KV kvs vs) (dd : h'.DictOf (mixKind P w) a vs) :
    ObjOk P w H' h' a (.dK kvs) := ⟨z, hd, vs, rel, dd⟩
end
section
variable {X : Cx} {pins : List (Addr × Obj)} {σ : St} {H : Hp} {s : Shared} {a : Addr} {kvs : List (Key × V)} {k : Key} {u : Value} {A : Around} {E : Value → Shared → Prop}
end
def NoSl (i : Expr) : Prop := ∀ ov iv, subscripted i false ov iv = operate [ov, iv] (getItem ov iv)
theorem subD_of {prog : Program} {w : World} {A : Around} {E : Value → Shared → Prop} {s : Shared} {env : Env} {value slice : Expr} {pos : Pos} {T id : String} {Q : Value → Shared → Prop}
    (hl : typeLookup (.type T) "__getitem__" = pure (some (.builtin id))) (hs : NoSl slice)
    (h : wpAny (model prog w) A (eval value env) (fun o s₁ => wpAny (model prog w) A (eval slice env) (fun i s₂ => s₂.TypeIs o T ∧ wpAny (model prog w) A (getItem o i) Q E s₂) E s₁) E s) :
    wpAny (model prog w) A (eval (.Subscript value slice pos) env) Q E s := by
  refine Subscript_ (wpAny_mono h (fun o s₁ h₁ => wpAny_mono h₁ (fun i s₂ h₂ => ?_) fun _ _ x => x) fun _ _ x => x)
  obtain ⟨hT, h₂⟩ := h₂
  unfold subscriptTail
  refine wpAny_bind ?_
  rw [getitemInPython_of_ne hT.not_modules]
  refine wpAny_bind (wpAny_specialOf hT hl ?_)
  have fin : wpAny (model prog w) A (subscripted slice false o i) (fun r s₃ => wpAny (model prog w) A (letTemporaryGo value o r >>= fun _ => pure r) Q E s₃) E s₂ := by
    rw [hs o i]
    exact wpAny_operating (wpAny_mono h₂ (fun r s₃ h₃ => wpAny_bind (wpAny_letTemporaryGo (wpAny_pure h₃))) fun _ _ x => x)
  first
    | exact wpAny_pure (wpAny_bind fin)
    | exact wpAny_bind (wpAny_pure (wpAny_bind fin))
    | exact wpAny_bind fin
theorem dict_typeIs {X : Cx} {pins : List (Addr × Obj)} {σ : St} {H : Hp} {s : Shared} {a : Addr} {y : V} {o : Option V} (I : Inv X pins σ H s) (g : DGet H a y o) : s.TypeIs (.ref a) "dict" := by
  rcases g with ⟨kvs, k, e, _, _⟩ | ⟨kvs, k, b, e, _, _, _⟩
  · obtain ⟨_, _, vs, _, dd⟩ := dk_rd I.hok e
    exact dd.typeIs
  · obtain ⟨_, _, xs, _, dd⟩ := dt_rd I.hok e
    exact dd.typeIs
def tDGet (td ty : TE) : TE := fun σ H Q => td σ H fun x H1 => ty σ H1 fun y H2 => ∃ a v, x = .ref a ∧ DGet H2 a y (some v) ∧ Q v H2
section
variable {X : Cx} {o i e value : Expr} {pos pos' tpos : Pos} {td ty tv : TE}
theorem pe_dget (hu : X.A.units + 1 < cLine) (ho : PE X o td) (hi : PE X i ty) (hs : NoSl i) : PE X (.Subscript o i pos) (tDGet td ty) := by
  intro pins s σ H Q I h
  refine subD_of PySem.F.slot_dict_getitem.lookup hs (thn (ho pins s σ H _ I h) fun u s1 ⟨x, H1, I1, rx, q1⟩ => thn (hi pins s1 σ H1 _ I1 q1) fun iv s2 ⟨y, H2, I2, ry, a, v, ex, g, q2⟩ => ?_)
  subst ex
  obtain rfl : u = Value.ref a := rx
  exact ⟨dict_typeIs I2 g, d_getItem hu I2 g ry fun w' s3 I3 rw' => ⟨v, H2, I3, rw', q2⟩⟩
end
theorem dk_empty {P : Program} {w : World} {H : Hp} (h : Heap) (hb : sysModules < h.objs.size) : ObjOk P w H (h.push { cls := .type "dict", data := .dict #[] }) h.objs.size (.dK []) :=
  ⟨Nat.zero_le _, beq_eq_false_iff_ne.mpr (Ne.symm (Nat.ne_of_lt hb)), [], .nil, Heap.DictOf.new h⟩
def tDNewK : TE := fun _ H Q => ∀ p, H p = none → Q (.ref p) (upd H p (.dK []))
section
variable {X : Cx} {pos : Pos}
theorem pe_dnewK : PE X (.Dict [] [] pos) tDNewK := fun pins s σ H Q I h =>
  wpAny_Dict_empty ⟨.ref s.heap.objs.size, _, I.laid (a := s.heap.objs.size) (o := .dK []) (t' := s.toks) (fun _ _ q => Heap.get?_push_of_some _ q) (Nat.le_refl _) (dk_empty s.heap I.big), rfl, h _ (I.hok.fresh (Nat.le_refl _))⟩
end
def tPairs : List (TE × TE) → St → Hp → (List (V × V) → Hp → Prop) → Prop
  | [], _, H, Q => Q [] H
  | (tk, tv) :: r, σ, H, Q => tk σ H fun x H1 => tv σ H1 fun y H2 => tPairs r σ H2 fun ps H3 => Q ((x, y) :: ps) H3
abbrev VV : List (V × V) → List (Value × Value) → Prop := Paired fun p q => RelV p.1 q.1 ∧ RelV p.2 q.2
def PPs (X : Cx) (pos : Pos) (keys : List (Option Expr)) (values : List Expr) (trs : List (TE × TE)) : Prop :=
  ∀ (pins : List (Addr × Obj)) (s : Shared) (σ : St) (H : Hp) (Q : List (V × V) → Hp → Prop), Inv X pins σ H s → tPairs trs σ H Q →
    wpAny (model X.prog X.w) X.A (evalPairs (pairTrees keys values X.env pos)) (fun vs s' => ∃ ps H', Inv X pins σ H' s' ∧ VV ps vs ∧ Q ps H') X.xe s
theorem pps_nil {X : Cx} {pos : Pos} : PPs X pos [] [] [] := fun pins s σ H Q I h => pairTrees_nil_walk ⟨[], H, I, .nil, h⟩
theorem pps_cons {X : Cx} {pos : Pos} {k v : Expr} {ks : List (Option Expr)} {vs : List Expr} {tk tv : TE} {trs : List (TE × TE)} (hk : PE X k tk) (hv : PE X v tv) (hr : PPs X pos ks vs trs) :
    PPs X pos (some k :: ks) (v :: vs) ((tk, tv) :: trs) := fun pins s σ H Q I h =>
  pairTrees_cons_walk (thn (hk pins s σ H _ I h) fun u s1 ⟨x, H1, I1, rx, q1⟩ => thn (hv pins s1 σ H1 _ I1 q1) fun w2 s2 ⟨y, H2, I2, ry, q2⟩ =>
    thn (hr pins s2 σ H2 _ I2 q2) fun ws s3 ⟨ps, H3, I3, rel, q3⟩ => ⟨(x, y) :: ps, H3, I3, .cons ⟨rx, ry⟩ rel, q3⟩)
def mergeK (kvs more : List (Key × V)) : List (Key × V) := more.foldl (fun acc kv => putK acc kv.1 kv.2) kvs
theorem KV.merge : ∀ {more : List (Key × V)} {rs : List (Key × Value)} {kvs : List (Key × V)} {vs : List (Key × Value)}, KV more rs → KV kvs vs → KV (mergeK kvs more) (merged vs rs) := by
  intro more rs kvs vs r
  unfold KV at r
  induction r generalizing kvs vs with
  | nil => intro q; exact q
  | @cons p q ps qs h t ih =>
    intro r0
    have e : KV (putK kvs p.1 p.2) (stored vs q.1 q.2) := by
      have := r0.put p.1 h.2
      rw [← h.1]; exact this
    exact ih e
theorem length_mergeK : ∀ (more kvs : List (Key × V)), (mergeK kvs more).length ≤ kvs.length + more.length
  | [], kvs => by show kvs.length ≤ kvs.length + 0; omega
  | p :: r, kvs => by
    have h1 := length_mergeK r (putK kvs p.1 p.2)
    have h2 := length_putK kvs p.1 p.2
    show (mergeK (putK kvs p.1 p.2) r).length ≤ _
    rw [List.length_cons]; omega
theorem carries_of {P : Program} {w : World} : ∀ {kvs : List (Key × V)} {ws : List (Value × Value)}, VV (kvs.map fun kv => (kV kv.1, kv.2)) ws → ∃ rs, Carries (mixKind P w) ws rs ∧ KV kvs rs
  | [], _, r => by rw [List.map_nil] at r; cases r; exact ⟨[], True.intro, .nil⟩
  | p :: kvs, _, r => by
    rw [List.map_cons] at r
    cases r with
    | @cons a b as bs h t =>
      obtain ⟨rs, c, q⟩ := carries_of (P := P) (w := w) t
      obtain ⟨b1, b2⟩ := b
      exact ⟨(p.1, b2) :: rs, ⟨kV_is h.1, rfl, c⟩, .cons ⟨rfl, h.2⟩ q⟩
def tDisp (trs : List (TE × TE)) : TE := fun σ H Q => ∀ p, H p = none → tPairs trs σ (upd H p (.dK [])) fun ps H2 => H2 p = some (.dK []) ∧ ∃ kvs : List (Key × V), ps = kvs.map (fun kv => (kV kv.1, kv.2)) ∧ kvs.length ≤ 15 ∧ Q (.ref p) (upd H2 p (.dK (mergeK [] kvs)))
theorem pe_disp {X : Cx} {pos : Pos} {keys : List (Option Expr)} {values : List Expr} {trs : List (TE × TE)} (h : PPs X pos keys values trs) (hall : keys.all (·.isSome) = true) (hl : keys.length = values.length) (h0 : keys ≠ [])
    (h15 : keys.length ≤ 15) : PE X (.Dict keys values pos) (tDisp trs) := by
  intro pins s σ H Q I q
  have hn := I.hok.fresh (Nat.le_refl s.heap.objs.size)
  have I1 := I.laid (a := s.heap.objs.size) (o := .dK []) (h' := s.heap.push { cls := .type "dict", data := .dict #[] }) (t' := s.toks) (fun _ _ q => Heap.get?_push_of_some _ q) (Nat.le_refl _) (dk_empty s.heap I.big)
  refine wpAny_Dict_walk (knd := mixKind X.prog X.w) hall hl h0 h15 (thn (h pins _ σ _ _ I1 (q _ hn)) fun ws s2 ⟨ps, H2, I2, rel, e, kvs, ep, lk, q2⟩ => ?_)
  subst ep
  obtain ⟨rs, c, rk⟩ := carries_of (P := X.prog) (w := X.w) rel
  obtain ⟨z, hd, vs0, r0, dd⟩ := dk_of I2.hok e
  cases r0
  refine ⟨rs, c, dd, fun h' dd' hs => ⟨.ref s.heap.objs.size, _, ?_, rfl, q2⟩⟩
  have hz : (mergeK [] kvs).length ≤ sizeLine := by
    have h1 := length_mergeK kvs []
    rw [List.length_nil] at h1
    rw [sizeLine_eq]; omega
  have he : ∃ q, h'.get? s.heap.objs.size = some q := let ⟨q, _, _, hq, _⟩ := dd'; ⟨q, hq⟩
  exact d_write I2 (by rw [e]; exact True.intro) hs he (dk_new hz hd (rk.merge .nil) dd')
section
variable {X : Cx} {pins : List (Addr × Obj)} {σ : St} {H : Hp} {s : Shared} {a : Addr} {y d : V} {u r : Value} {o : Option V} {A : Around} {E : Value → Shared → Prop}
end
section
variable {X : Cx} {o e f : Expr} {apos cpos : Pos} {td ty tx : TE}
end
section
variable {X : Cx} {pins : List (Addr × Obj)} {σ : St} {H : Hp} {s : Shared} {a : Addr} {kvs : List (Key × V)} {A : Around} {E : Value → Shared → Prop}
end
section
variable {X : Cx} {pins : List (Addr × Obj)} {σ : St} {H : Hp} {s : Shared} {a : Addr} {y : V} {u : Value} {A : Around} {E : Value → Shared → Prop}
end
end L2
namespace HT
open PySem PyProof.Rows
section
open PySem.SeqAt
open PySem.AutoSeq1 (wpAny_loadPart')
open PySem.MeetsSeq PySem.MeetsSeq2 PySem.MeetsSeq3
end
section
variable {prog : Program} {w : World} {A : Around} {E : Value → Shared → Prop} {s : Shared}
def sIx (n d : Nat) : Option Int → Nat
  | none => d
  | some v => if v < 0 then (v + (n : Int)).toNat else min v.toNat n
theorem sIx_nat (n d k : Nat) : sIx n d (some (k : Int)) = min k n := by
  show (if (k : Int) < 0 then ((k : Int) + (n : Int)).toNat else min (k : Int).toNat n) = min k n
  rw [if_neg (by omega), Int.toNat_natCast]
theorem sIx_le (n d : Nat) (hd : d ≤ n) (o : Option Int) : sIx n d o ≤ n := by
  cases o with
  | none => exact hd
  | some v =>
    show (if v < 0 then (v + (n : Int)).toNat else min v.toNat n) ≤ n
    by_cases hv : v < 0
    · rw [if_pos hv]; omega
    · rw [if_neg hv]; exact Nat.min_le_right _ _
theorem clip_eq (v : Int) (n d : Nat) : (if v < 0 then max (v + (n : Int)) 0 else min v (n : Int)) = ((sIx n d (some v) : Nat) : Int) := by
  show (if v < 0 then max (v + (n : Int)) 0 else min v (n : Int)) = (((if v < 0 then (v + (n : Int)).toNat else min v.toNat n) : Nat) : Int)
  by_cases hv : v < 0
  · simp only [if_pos hv]; omega
  · simp only [if_neg hv]; omega
theorem adjust_gen (lo hi : Option Int) (n : Nat) : Builtin.Slice.sliceAdjust lo hi 1 (n : Int) = (((sIx n 0 lo : Nat) : Int), ((sIx n n hi : Nat) : Int)) := by
  have h1 : ¬ ((1 : Int) < 0) := by omega
  unfold Builtin.Slice.sliceAdjust
  simp only [h1, if_false]
  refine Prod.ext ?_ ?_
  · cases lo with
    | none => rfl
    | some v => exact clip_eq v n 0
  · cases hi with
    | none => rfl
    | some v => exact clip_eq v n n
theorem places_gen (i j : Nat) : Builtin.Slice.slicePlaces (i : Int) (j : Int) 1 = j - i := by
  unfold Builtin.Slice.slicePlaces
  have h1 : (1 : Int) > 0 := by omega
  simp only [h1, if_true, Int.ediv_one]
  split <;> omega
theorem slicePart_ {v : Value} {o : Option Int} {Q : Option Int → Shared → Prop} (p : IsPart v o) (h : Q o s) : wpAny (model prog w) A (Builtin.Slice.slicePartIndex v) Q E s := by
  cases p with
  | none => exact slicePart_none h
  | int i t => exact slicePart_int h
theorem sliceApplied_gen {sl : Addr} {vl vu : Value} {lo hi : Option Int} {n : Nat} {Q : Int × Int × Nat → Shared → Prop} (hs : s.heap.IsSliceOf sl vl vu .none) (pl : IsPart vl lo) (pu : IsPart vu hi)
    (h : Q (((sIx n 0 lo : Nat) : Int), 1, sIx n n hi - sIx n 0 lo) s) : wpAny (model prog w) A (Builtin.Slice.sliceApplied (.ref sl) (pure (n : Int))) Q E s := by
  obtain ⟨os, hos, hcs, hds⟩ := id hs
  unfold Builtin.Slice.sliceApplied Builtin.Slice.sliceFields
  refine wpAny_bind (wpAny_bind (wpAny_field hos hds (x := vl) rfl (wpAny_bind (wpAny_field hos hds (x := vu) rfl (wpAny_bind (wpAny_field hos hds (x := .none) rfl (wpAny_pure ?_)))))))
  refine wpAny_bind (slicePart_none ?_)
  show wpAny _ _ (if ((1 : Int) == 0) = true then _ else _) _ _ s
  rw [if_neg (by decide)]
  refine wpAny_bind (slicePart_ pl (wpAny_bind (slicePart_ pu (wpAny_bind (wpAny_pure ?_)))))
  show wpAny _ _ (match Builtin.Slice.sliceAdjust lo hi 1 (n : Int) with | (lo, hi) => pure (lo, (1 : Int), Builtin.Slice.slicePlaces lo hi 1)) _ _ s
  rw [adjust_gen lo hi n]
  show wpAny _ _ (pure (((sIx n 0 lo : Nat) : Int), (1 : Int), Builtin.Slice.slicePlaces ((sIx n 0 lo : Nat) : Int) ((sIx n n hi : Nat) : Int) 1)) _ _ s
  rw [places_gen]
  exact wpAny_pure h
theorem pick_gen (xs : Array Value) (i k : Nat) : ((List.range k).filterMap fun (m : Nat) => xs[((i : Int) + (m : Int) * 1).toNat]?).toArray = ((xs.toList.drop i).take k).toArray := by
  have e : (fun (m : Nat) => xs[((i : Int) + (m : Int) * 1).toNat]?) = fun m => xs[i + m]? := by
    funext m
    have : ((i : Int) + (m : Int) * 1).toNat = i + m := by omega
    rw [this]
  rw [e]
  have := pick_run xs i k
  rw [List.filterMap_map] at this
  have e2 : ((fun x => xs[x]?) ∘ fun x => i + x) = fun m => xs[i + m]? := rfl
  rw [e2] at this
  rw [this]
theorem getItem_tuple_cut {t sl : Addr} {items : Array Value} {vl vu : Value} {lo hi : Option Int} {Q : Value → Shared → Prop} (ht : IsTup s.heap t items) (hs : s.heap.IsSliceOf sl vl vu .none) (pl : IsPart vl lo) (pu : IsPart vu hi)
    (hw : ¬ (sIx items.size 0 lo = 0 ∧ sIx items.size items.size hi = items.size))
    (h : Q (.ref s.heap.objs.size) { s with heap := s.heap.push { cls := .type "tuple", data := .seq ((items.toList.drop (sIx items.size 0 lo)).take (sIx items.size items.size hi - sIx items.size 0 lo)).toArray } })
    (hsz : items.size ≤ sizeLine) : wpAny (model prog w) A (getItem (.ref t) (.ref sl)) Q E s := by
  have htake : sizeOk (.seq ((items.toList.drop (sIx items.size 0 lo)).take (sIx items.size items.size hi - sIx items.size 0 lo)).toArray) := by
    show ((items.toList.drop (sIx items.size 0 lo)).take (sIx items.size items.size hi - sIx items.size 0 lo)).toArray.size ≤ sizeLine
    rw [List.size_toArray, List.length_take, List.length_drop, Array.length_toList]
    omega
  have hj : sIx items.size items.size hi ≤ items.size := sIx_le _ _ (Nat.le_refl _) hi
  obtain ⟨os, hos, hcs, hds⟩ := id hs
  have hTs : s.TypeIs (.ref sl) "slice" := ⟨os, hos, hcs⟩
  unfold getItem
  try with_reducible refine wpAny_holding ?_
  first | refine wpAny_bind (wpAny_pure ?_) | skip
  refine wpAny_bind (wpAny_sequenceKey ht.typeIs (by decide) ?_)
  refine wpAny_bind (wpAny_callSpecial?_slot (name := Str.ofString "__getitem__") ht.typeIs PyProof.Rows.slot_tuple_getitem
    (wpAny_call_entry PyProof.Rows.slot_tuple_getitem ht.typeIs entry_tuple_getitem ?_ (args_tuple_getitem _ _)))
  show wpAny _ _ (Builtin.Tuple.tupleItemsOf (.ref t) >>= _) _ _ s
  refine wpAny_bind (tupleItemsOf_ ht ?_)
  refine wpAny_bind (wpAny_typeOf hTs ?_)
  rw [if_pos (by decide)]
  refine wpAny_bind (sliceApplied_gen hs pl pu ?_)
  have hno : ¬ ((((sIx items.size 0 lo : Nat) : Int) == 0 && (1 : Int) == 1 && (sIx items.size items.size hi - sIx items.size 0 lo) == items.size) = true) := by
    intro q
    rw [Bool.and_eq_true, Bool.and_eq_true] at q
    have q1 : ((sIx items.size 0 lo : Nat) : Int) = 0 := eq_of_beq q.1.1
    have q2 : sIx items.size items.size hi - sIx items.size 0 lo = items.size := eq_of_beq q.2
    exact hw ⟨by omega, by omega⟩
  show wpAny _ _ (if (((sIx items.size 0 lo : Nat) : Int) == 0 && (1 : Int) == 1 && (sIx items.size items.size hi - sIx items.size 0 lo) == items.size) = true then _ else _) _ _ s
  rw [if_neg hno, pick_gen]
  first
    | exact wpAny_bind (m := Builtin.Tuple.tupleExact _) (wpAny_newObj_type (wpAny_pure ⟨_, rfl, wpAny_pure h⟩) htake)
    | exact wpAny_bind (m := Builtin.Tuple.tupleExact _) (wpAny_newObj_type (wpAny_bind (wpAny_pure (wpAny_pure ⟨_, rfl, wpAny_pure h⟩))) htake)
    | exact wpAny_bind (wpAny_bind (m := Builtin.Tuple.tupleExact _) (wpAny_newObj_type (wpAny_pure (wpAny_pure ⟨_, rfl, wpAny_pure h⟩)) htake))
    | exact wpAny_bind (wpAny_bind (m := Builtin.Tuple.tupleExact _) (wpAny_newObj_type (wpAny_pure ⟨_, rfl, wpAny_pure h⟩) htake))
end
end HT
namespace L2
open PySem PySem.Spec PyProof.Rows
abbrev TO := St → Hp → (Option Int → Hp → Prop) → Prop
def PO (X : Cx) (e : Option Expr) (t : TO) : Prop :=
  ∀ (pins : List (Addr × Obj)) (s : Shared) (σ : St) (H : Hp) (Q : Option Int → Hp → Prop), Inv X pins σ H s → t σ H Q →
    wpAny (model X.prog X.w) X.A (evalPart e X.env) (fun u s' => ∃ o H', Inv X pins σ H' s' ∧ IsPart u o ∧ Q o H') X.xe s
def tNoPart : TO := fun _ H Q => Q none H
def tPart (t : TE) : TO := fun σ H Q => t σ H fun x H1 => ∃ i, x = .int i ∧ Q (some i) H1
section
variable {X : Cx} {e : Expr} {te : TE} {lo hi : Option Expr} {tl th : TO} {pos p2 : Pos}
theorem po_none : PO X none tNoPart := by
  intro pins s σ H Q I h
  rw [evalPart_none]
  exact wpAny_pure ⟨none, H, I, .none, h⟩
theorem po_some (h : PE X e te) : PO X (some e) (tPart te) := by
  intro pins s σ H Q I hw
  rw [evalPart_some]
  refine thn (h pins s σ H _ I hw) fun u s1 ⟨x, H1, I1, r1, q1⟩ => ?_
  obtain ⟨i, rfl, q⟩ := q1
  obtain ⟨t, rfl⟩ := r1
  exact ⟨some i, H1, I1, .int i t, q⟩
def SlR (X : Cx) (r : V → Option Int → Option Int → Hp → VK → Prop) : Prop :=
  ∀ (pins : List (Addr × Obj)) (s : Shared) (σ : St) (H : Hp) (x : V) (v vl vu : Value) (lo hi : Option Int) (sl : Addr) (Q : VK), Inv X pins σ H s → RelV x v → s.heap.IsSliceOf sl vl vu .none → IsPart vl lo → IsPart vu hi → r x lo hi H Q →
    ∃ T id, typeLookup (.type T) "__getitem__" = pure (some (.builtin id)) ∧ s.TypeIs v T ∧ wpAny (model X.prog X.w) X.A (getItem v (.ref sl)) (EP X pins σ Q) X.xe s
def tSl (r : V → Option Int → Option Int → Hp → VK → Prop) (te : TE) (tl th : TO) : TE := fun σ H Q => te σ H fun x H1 => tl σ H1 fun l H2 => th σ H2 fun u H3 => r x l u H3 Q
theorem pe_slice {r : V → Option Int → Option Int → Hp → VK → Prop} (hr : SlR X r) (he : PE X e te) (hl : PO X lo tl) (hu : PO X hi th) : PE X (.Subscript e (.Slice lo hi none p2) pos) (tSl r te tl th) := by
  intro pins s σ H Q I h
  refine Subscript_ (thn (he pins s σ H _ I h) fun v s1 ⟨x, H1, I1, r1, q1⟩ => ?_)
  refine wpAny_Slice (thn (hl pins s1 σ H1 _ I1 q1) fun vl s2 ⟨l, H2, I2, pl, q2⟩ => thn (hu pins s2 σ H2 _ I2 q2) fun vu s3 ⟨u, H3, I3, pu, q3⟩ => ?_)
  rw [evalPart_none]
  refine wpAny_pure ?_
  have I4 : Inv X pins σ H3 { s3 with heap := s3.heap.push { cls := .type "slice", data := .fields #[vl, vu, .none] } } := I3.kept (t' := s3.toks) fun b ob q => Heap.get?_push_of_some _ q
  obtain ⟨T, id, hT, ht, hg⟩ := hr pins { s3 with heap := s3.heap.push { cls := .type "slice", data := .fields #[vl, vu, .none] } } σ H3 x v vl vu l u s3.heap.objs.size Q I4 r1 (Heap.IsSliceOf.new ..) pl pu q3
  show wpAny (model X.prog X.w) X.A (subscriptTail e (.Slice lo hi none p2) v (.ref s3.heap.objs.size)) (EP X pins σ Q) X.xe { s3 with heap := s3.heap.push { cls := .type "slice", data := .fields #[vl, vu, .none] } }
  exact tail_any (ops := [.ref s3.heap.objs.size, v]) ht hT hg (by with_unfolding_all rfl)
def cutV (xs : List V) (lo hi : Option Int) : List V := (xs.drop (HT.sIx xs.length 0 lo)).take (HT.sIx xs.length xs.length hi - HT.sIx xs.length 0 lo)
theorem cutV_length (xs : List V) (lo hi : Option Int) : (cutV xs lo hi).length ≤ xs.length := by
  unfold cutV
  rw [List.length_take, List.length_drop]
  omega
def rSlT (K : PySem.W.Frag) : V → Option Int → Option Int → Hp → VK → Prop := fun x lo hi H Q => ∃ a xs, x = .ref a ∧ SqT K H a xs ∧
  ¬ (HT.sIx xs.length 0 lo = 0 ∧ HT.sIx xs.length xs.length hi = xs.length) ∧ ∀ p, H p = none → Q (.ref p) (upd H p (.tup (cutV xs lo hi)))
theorem sl_tup : SlR X (rSlT X.K) := by
  intro pins s σ H x v vl vu lo hi sl Q I rx hs pl pu h
  obtain ⟨a, xs, rfl, hx, hw, q⟩ := h
  cases rx
  obtain ⟨its, r, ht, hz⟩ := I.tuple hx
  have hlen : its.toArray.size = xs.length := by rw [List.size_toArray]; exact r.length.symm
  refine ⟨"tuple", _, PyProof.Rows.slot_tuple_getitem.lookup, ht.typeIs, ?_⟩
  refine HT.getItem_tuple_cut ht hs pl pu (by rw [hlen]; exact hw) ?_ (by rw [hlen]; exact hz)
  rw [hlen]
  refine ⟨.ref s.heap.objs.size, _, I.laid (t' := s.toks) (o := .tup (cutV xs lo hi)) (fun b ob q => Heap.get?_push_of_some _ q) (Nat.le_refl _) ?_, rfl, q _ (I.hok.fresh (Nat.le_refl _))⟩
  exact ⟨Nat.le_trans (cutV_length xs lo hi) hz, _, (r.drop (HT.sIx xs.length 0 lo)).take (HT.sIx xs.length xs.length hi - HT.sIx xs.length 0 lo), IsTup.new _ _, NoD.new _ rfl⟩
end
end L2
namespace L2
open PySem PySem.Spec PyProof.Rows
def ixN (n : Nat) (i : Int) : Option Nat := if 0 ≤ i then (if i < n then some i.toNat else none) else if -(n : Int) ≤ i then some (i + n).toNat else none
def atI {α : Type} (xs : List α) (i : Int) : Option α := (ixN xs.length i).bind fun j => xs[j]?
theorem ixN_seq {n : Nat} {i : Int} {j : Nat} (h : ixN n i = some j) : seqIndex? i n = some j ∧ j < n ∧ -(n : Int) ≤ i ∧ i < n := by
  unfold ixN at h
  by_cases h0 : 0 ≤ i
  · rw [if_pos h0] at h
    by_cases h1 : i < n
    · rw [if_pos h1] at h
      have e : i.toNat = j := Option.some.inj h
      exact ⟨by rw [seqIndex_of h0 h1, e], by omega, by omega, h1⟩
    · rw [if_neg h1] at h; cases h
  · rw [if_neg h0] at h
    by_cases h1 : -(n : Int) ≤ i
    · rw [if_pos h1] at h
      have e : (i + n).toNat = j := Option.some.inj h
      exact ⟨by rw [seqIndex_neg (by omega) h1, e], by omega, h1, by omega⟩
    · rw [if_neg h1] at h; cases h
theorem atI_get {α : Type} {xs : List α} {i : Int} {v : α} (h : atI xs i = some v) : ∃ j, seqIndex? i xs.length = some j ∧ xs[j]? = some v ∧ j < xs.length ∧ -(xs.length : Int) ≤ i ∧ i < xs.length := by
  unfold atI at h
  cases e : ixN xs.length i with
  | none => rw [e] at h; cases h
  | some j =>
    rw [e] at h
    obtain ⟨h1, h2, h3, h4⟩ := ixN_seq e
    exact ⟨j, h1, h, h2, h3, h4⟩
theorem atI_nat {α : Type} {xs : List α} {j : Nat} {v : α} (h : xs[j]? = some v) : atI xs (j : Int) = some v := by
  have hj : j < xs.length := (List.getElem?_eq_some_iff.mp h).1
  have e : ixN xs.length (j : Int) = some j := by
    unfold ixN
    rw [if_pos (by omega), if_pos (by omega)]; simp
  unfold atI; rw [e]; exact h
def PlainIx (b : Expr) : Prop := ∀ o i, subscripted b false o i = operate [o, i] (getItem o i)
def IxR (X : Cx) (r : R2) : Prop :=
  ∀ (value slice : Expr) (pins : List (Addr × Obj)) (s : Shared) (σ : St) (H : Hp) (x y : V) (v u : Value) (Q : VK), Inv X pins σ H s → RelV x v → RelV y u → r x y H Q →
    subscripted slice false v u = operate [v, u] (getItem v u) → wpAny (model X.prog X.w) X.A (subscriptTail value slice v u) (EP X pins σ Q) X.xe s
def MtR (X : Cx) (id : String) (r : V → List V → Hp → VK → Prop) : Prop :=
  ∀ (pins : List (Addr × Obj)) (s : Shared) (σ : St) (H : Hp) (x : V) (xs : List V) (v : Value) (us : List Value) (Q : VK), Inv X pins σ H s → RelV x v → Vals xs us → r x xs H Q →
    wpAny (model X.prog X.w) X.A (call (.builtin id) (v :: us)) (EP X pins σ Q) X.xe s
section
variable {X : Cx} {a b : Expr} {ta tb : TE} {pos : Pos}
theorem pe_ix {r : R2} (hr : IxR X r) (ha : PE X a ta) (hb : PE X b tb) (hs : PlainIx b) : PE X (.Subscript a b pos) (tOp r ta tb) := by
  intro pins s σ H Q I h
  exact Subscript_ (binT ha hb I h fun v u s2 x y H2 I2 rx ry q => hr a b pins s2 σ H2 x y v u Q I2 rx ry q (hs _ _))
def rIxL (K : PySem.W.Frag) : R2 := fun x y H Q => ∃ p xs i v, x = .ref p ∧ y = .int i ∧ SqL K H p xs ∧ atI xs i = some v ∧ Q v H
def rIxT (K : PySem.W.Frag) : R2 := fun x y H Q => ∃ p xs i v, x = .ref p ∧ y = .int i ∧ SqT K H p xs ∧ atI xs i = some v ∧ Q v H
def rIxS : R2 := fun x y H Q => ∃ z i c, x = .str z ∧ y = .int i ∧ z.length ≤ sizeLine ∧ atI z.cps.toList i = some c ∧ Q (.str ⟨#[c]⟩) H
theorem ix_list : IxR X (rIxL X.K) := by
  intro value slice pins s σ H x y v u Q I rx ry h hs
  obtain ⟨p, xs, i, z, rfl, rfl, hq, he, q⟩ := h
  cases rx
  obtain ⟨t, rfl⟩ := ry
  obtain ⟨its, r, pl, hz⟩ := I.list hq
  obtain ⟨j, h1, h2, h3, h4, h5⟩ := atI_get he
  obtain ⟨w, ew, rw'⟩ := r.get h2
  have hl := r.length
  have hn := line63
  have fin : EP X pins σ Q w s := ⟨z, H, I, rw', q⟩
  by_cases h0 : 0 ≤ i
  · have hj : i.toNat = j := by
      rw [seqIndex_of h0 h5] at h1
      exact Option.some.inj h1
    exact item_listR pl.isList h0 (by omega) (by rw [hj]; simpa using ew) fin hs
  · have hj : (i + (its.toArray.size : Int)).toNat = j := by
      rw [seqIndex_neg (by omega) h4] at h1
      rw [List.size_toArray, ← hl]
      exact Option.some.inj h1
    exact subscriptTail_builtinR (x := w) pl.isList.typeIs slot_list_getitem.lookup
      (wpAny_getItem_list_neg (Q := fun r s' => r = w ∧ EP X pins σ Q r s') pl.isList (by omega) (by rw [List.size_toArray] <;> omega) (by omega) (by rw [hj]; simpa using ew) ⟨rfl, fin⟩) hs
theorem ix_tup : IxR X (rIxT X.K) := by
  intro value slice pins s σ H x y v u Q I rx ry h hs
  obtain ⟨p, xs, i, z, rfl, rfl, hq, he, q⟩ := h
  cases rx
  obtain ⟨t, rfl⟩ := ry
  obtain ⟨its, r, pl, hz⟩ := I.tuple hq
  obtain ⟨j, h1, h2, h3, h4, h5⟩ := atI_get he
  obtain ⟨w, ew, rw'⟩ := r.get h2
  have hl := r.length
  have hn := line63
  have fin : EP X pins σ Q w s := ⟨z, H, I, rw', q⟩
  exact subscriptTail_builtinR (x := w) pl.typeIs slot_tuple_getitem.lookup
    (getItem_tuple (j := j) (Q := fun r s' => r = w ∧ EP X pins σ Q r s') pl (by omega) (by omega) (by rw [List.size_toArray, ← hl]; exact h1) (by simpa using ew) ⟨rfl, fin⟩) hs
theorem ix_str : IxR X rIxS := by
  intro value slice pins s σ H x y v u Q I rx ry h hs
  obtain ⟨z, i, c, rfl, rfl, hz, he, q⟩ := h
  obtain ⟨t, rfl⟩ := rx
  obtain ⟨t', rfl⟩ := ry
  obtain ⟨j, h1, h2, h3, h4, h5⟩ := atI_get he
  have hl : z.cps.toList.length = z.length := by simp [Str.length]
  rw [hl] at h1 h4 h5
  have hn := line63
  exact tail_any (typeIs_str s z t) slot_str_getitem.lookup (getItem_str (c := c) (by
    have e1 : decide (i < -(2 ^ 63 : Int)) = false := decide_eq_false (by omega)
    have e2 : decide (i ≥ 2 ^ 63) = false := decide_eq_false (by omega)
    rw [e1, e2, Bool.or_false]) (by rw [h1]; simpa using h2) ⟨.str ⟨#[c]⟩, H, I.tok _, ⟨_, rfl⟩, q⟩) hs
theorem mapSeq_set (its : List Value) (n j : Nat) (u : Value) : Obj.mapSeq (·.setIfInBounds j u) { cls := .type "list", data := .seq its.toArray n } = { cls := .type "list", data := .seq (its.set j u).toArray n } := by
  simp [Obj.mapSeq]
theorem Inv.lst {pins : List (Addr × Obj)} {σ : St} {H : Hp} {s : Shared} {p : Addr} {xs : List V} (I : Inv X pins σ H s) (h : H p = some (.lst xs)) :
    ∃ (its : List Value) (n : Nat), Vals xs its ∧ s.heap.get? p = some { cls := .type "list", data := .seq its.toArray n } ∧ xs.length ≤ sizeLine := by
  obtain ⟨z, its, n, r, e⟩ := I.hok p _ h
  exact ⟨its, n, r, e, z⟩
theorem Inv.lstUpd {pins : List (Addr × Obj)} {σ : St} {H : Hp} {s : Shared} {p : Addr} {xs ys : List V} {its its' : List Value} {n n' : Nat} {f : Obj → Obj} (I : Inv X pins σ H s) (h : H p = some (.lst xs))
    (ho : s.heap.get? p = some { cls := .type "list", data := .seq its.toArray n }) (hf : f { cls := .type "list", data := .seq its.toArray n } = { cls := .type "list", data := .seq its'.toArray n' }) (r : Vals ys its') (hz : ys.length ≤ sizeLine) (t : Nat) :
    Inv X pins σ (upd H p (.lst ys)) { s with heap := s.heap.update p f, toks := t } := by
  have e : (s.heap.update p f).get? p = some { cls := .type "list", data := .seq its'.toArray n' } := by
    rw [Heap.get?_update_self f ho (by rw [hf] <;> rfl), hf]
  refine I.write (x := p) (e := p) (by rw [h]; trivial) (.inl rfl) (fun b u hb q => (Heap.get?_update_other _ _ (Ne.symm hb)).trans q) ⟨_, e⟩ ?_
  exact ⟨hz, its', n', r, e⟩
def rSetL : V → V → V → Hp → (Hp → Prop) → Prop := fun o i v H Q => ∃ p xs k j, o = .ref p ∧ i = .int k ∧ H p = some (.lst xs) ∧ ixN xs.length k = some j ∧ Q (upd H p (.lst (xs.set j v)))
theorem set_list : PSet X rSetL := by
  intro pins s σ H o i v ov iv u Q I ro ri rv h
  obtain ⟨p, xs, k, j, rfl, rfl, hp, hj, q⟩ := h
  cases ro
  obtain ⟨t, rfl⟩ := ri
  obtain ⟨its, n, r, ho, hz⟩ := I.lst hp
  obtain ⟨h1, h2, h3, h4⟩ := ixN_seq hj
  have hl := r.length
  have hn := line63
  have I' : Inv X pins σ (upd H p (.lst (xs.set j v))) { s with heap := s.heap.update p (Obj.mapSeq (·.setIfInBounds j u)) } :=
    I.lstUpd hp ho (mapSeq_set its n j u) (r.set rv j) (by rw [List.length_set]; exact hz) s.toks
  by_cases h0 : 0 ≤ k
  · have hk : k.toNat = j := by
      rw [seqIndex_of h0 h4] at h1
      exact Option.some.inj h1
    exact PySem.W.ki_setAt ho h0 (by omega) (by rw [List.size_toArray, ← hl]; exact h4) (by rw [hk]; exact ⟨_, I', q⟩)
  · have hk : (k + (its.toArray.size : Int)).toNat = j := by
      rw [seqIndex_neg (by omega) h3] at h1
      rw [List.size_toArray, ← hl]
      exact Option.some.inj h1
    exact PySem.W.ki_setBack ho (by omega) (by rw [List.size_toArray, ← hl]; exact h3) (by omega) (by rw [hk]; exact ⟨_, I', q⟩)
theorem slice_bounds (lo hi : Option Int) (n : Nat) : (sliceBounds lo hi none n).1 = ((HT.sIx n 0 lo : Nat) : Int) ∧ (sliceBounds lo hi none n).2.1 = ((HT.sIx n n hi : Nat) : Int) ∧ (sliceBounds lo hi none n).2.2 = 1 := by
  refine ⟨?_, ?_, rfl⟩
  · cases lo with
    | none => simp [sliceBounds, HT.sIx]
    | some i =>
      simp only [sliceBounds, HT.sIx, Option.getD_none, show (1 : Int) > 0 by decide, if_true]
      by_cases h : i < 0
      · simp only [h, if_true] <;> omega
      · simp only [h, if_false] <;> omega
  · cases hi with
    | none => simp [sliceBounds, HT.sIx]
    | some i =>
      simp only [sliceBounds, HT.sIx, Option.getD_none, show (1 : Int) > 0 by decide, if_true]
      by_cases h : i < 0
      · simp only [h, if_true] <;> omega
      · simp only [h, if_false] <;> omega
theorem slicePick_cut (its : List Value) (lo hi : Option Int) : slicePick its.toArray lo hi none = ((its.drop (HT.sIx its.length 0 lo)).take (HT.sIx its.length its.length hi - HT.sIx its.length 0 lo)).toArray := by
  obtain ⟨h1, h2, h3⟩ := slice_bounds lo hi its.toArray.size
  unfold slicePick
  rw [h1, h2, h3]
  simp only [sliceRange_one, pick_run, List.size_toArray] <;> rfl
def rSlL (K : PySem.W.Frag) : V → Option Int → Option Int → Hp → VK → Prop := fun x lo hi H Q => ∃ a xs, x = .ref a ∧ SqL K H a xs ∧ ∀ p, H p = none → Q (.ref p) (upd H p (.lst (cutV xs lo hi)))
theorem sl_list : SlR X (rSlL X.K) := by
  intro pins s σ H x v vl vu lo hi sl Q I rx hs pl pu h
  obtain ⟨a, xs, rfl, hx, q⟩ := h
  cases rx
  obtain ⟨its, r, ht, hz⟩ := I.list hx
  have hlen := r.length
  refine ⟨"list", _, slot_list_getitem.lookup, ht.isList.typeIs, ?_⟩
  refine wpAny_getItem_list_slice ht.isList hs pl pu .none (by simp) ?_ (by rw [List.size_toArray] <;> omega)
  rw [slicePick_cut, ← hlen]
  refine ⟨.ref s.heap.objs.size, _, I.laid (t' := s.toks) (o := .lst (cutV xs lo hi)) (fun b ob q => Heap.get?_push_of_some _ q) (Nat.le_refl _) ?_, rfl, q _ (I.hok.fresh (Nat.le_refl _))⟩
  exact ⟨Nat.le_trans (cutV_length xs lo hi) hz, _, 0, (r.drop (HT.sIx xs.length 0 lo)).take (HT.sIx xs.length xs.length hi - HT.sIx xs.length 0 lo), Heap.get?_push_size _ rfl⟩
def flatV : V → Bool
  | .non => true
  | .bl _ => true
  | .int _ => true
  | .str _ => true
  | _ => false
def eqV : V → V → Bool
  | .non, .non => true
  | .bl a, .bl b => a == b
  | .bl a, .int b => (if a then 1 else 0) == b
  | .int a, .bl b => a == (if b then 1 else 0)
  | .int a, .int b => a == b
  | .str a, .str b => a == b
  | _, _ => false
theorem eqAt_V {A : Around} {s : Shared} {y x : V} {u v : Value} (ry : RelV y u) (rx : RelV x v) (fy : flatV y = true) (fx : flatV x = true) : SeqAt.EqAt A s u v (eqV y x) := by
  cases y with
  | non =>
    cases ry
    cases x with
    | non => cases rx; exact SeqAt.EqAt.same _
    | bl b => cases rx; exact SeqAt.EqAt.none_bool b
    | int b => obtain ⟨t, rfl⟩ := rx; exact SeqAt.EqAt.none_int b t
    | str b => obtain ⟨t, rfl⟩ := rx; exact SeqAt.EqAt.none_str b t
    | _ => exact absurd (show false = true from fx) Bool.false_ne_true
  | bl a =>
    cases ry
    cases x with
    | non => cases rx; exact SeqAt.EqAt.bool_none a
    | bl b => cases rx; exact SeqAt.EqAt.bool_bool a b
    | int b => obtain ⟨t, rfl⟩ := rx; exact SeqAt.EqAt.bool_int a b t
    | str b => obtain ⟨t, rfl⟩ := rx; exact SeqAt.EqAt.bool_str a b t
    | _ => exact absurd (show false = true from fx) Bool.false_ne_true
  | int a =>
    obtain ⟨t', rfl⟩ := ry
    cases x with
    | non => cases rx; exact SeqAt.EqAt.int_none a t'
    | bl b => cases rx; exact SeqAt.EqAt.int_bool a t' b
    | int b => obtain ⟨t, rfl⟩ := rx; exact SeqAt.EqAt.int_int a t' b t
    | str b => obtain ⟨t, rfl⟩ := rx; exact SeqAt.EqAt.int_str a t' b t
    | _ => exact absurd (show false = true from fx) Bool.false_ne_true
  | str a =>
    obtain ⟨t', rfl⟩ := ry
    cases x with
    | non => cases rx; exact SeqAt.EqAt.str_none a t'
    | bl b => cases rx; exact SeqAt.EqAt.str_bool a t' b
    | int b => obtain ⟨t, rfl⟩ := rx; exact SeqAt.EqAt.str_int a t' b t
    | str b => obtain ⟨t, rfl⟩ := rx; exact SeqAt.EqAt.str_str a t' b t
    | _ => exact absurd (show false = true from fx) Bool.false_ne_true
  | _ => exact absurd (show false = true from fy) Bool.false_ne_true
def eqU (x : V) (u : Value) : Bool := match u with
  | .none => eqV .non x
  | .bool b => eqV (.bl b) x
  | .int i _ => eqV (.int i) x
  | .str z _ => eqV (.str z) x
  | _ => false
theorem eqU_of {x y : V} {u : Value} (r : RelV y u) (f : flatV y = true) : eqU x u = eqV y x := by
  cases y with
  | non => cases r; rfl
  | bl b => cases r; rfl
  | int i => obtain ⟨t, rfl⟩ := r; rfl
  | str z => obtain ⟨t, rfl⟩ := r; rfl
  | _ => exact absurd (show false = true from f) Bool.false_ne_true
theorem any_eqU {x : V} : ∀ {xs : List V} {us : List Value}, Vals xs us → xs.all flatV = true → us.any (eqU x) = xs.any fun y => eqV y x
  | _, _, .nil, _ => rfl
  | y :: xs, u :: us, .cons r t, f => by
    rw [List.all_cons, Bool.and_eq_true] at f
    rw [List.any_cons, List.any_cons, eqU_of r f.1, any_eqU t f.2]
theorem mem_eqAt {A : Around} {s : Shared} {x : V} {v : Value} (rx : RelV x v) (fx : flatV x = true) : ∀ {xs : List V} {us : List Value}, Vals xs us → xs.all flatV = true → ∀ u ∈ us, SeqAt.EqAt A s u v (eqU x u)
  | _, _, .nil, _ => fun u hu => by cases hu
  | y :: xs, u :: us, .cons r t, f => fun u' hu => by
    rw [List.all_cons, Bool.and_eq_true] at f
    rcases List.mem_cons.mp hu with rfl | hu
    · rw [eqU_of r f.1]; exact eqAt_V r rx f.1 fx
    · exact mem_eqAt rx fx t f.2 u' hu
def inV (x : V) (xs : List V) : Bool := xs.any fun y => eqV y x
def rIn (K : PySem.W.Frag) (neg : Bool) : R2 := fun x y H Q => ∃ p xs, y = .ref p ∧ (SqL K H p xs ∨ SqT K H p xs) ∧ flatV x = true ∧ xs.all flatV = true ∧ Q (.bl (if neg then !inV x xs else inV x xs)) H
theorem op_in_seq : OpR X (compareOp .In) (rIn X.K false) := by
  intro pins s σ H x y v u Q I rx ry h
  obtain ⟨p, xs, rfl, hq, fx, fs, q⟩ := h
  cases ry
  rcases hq with hq | hq
  · obtain ⟨its, r, pl, hz⟩ := I.list hq
    refine SeqAt.in_listAt (eqU x) pl.isList (fun w hw => mem_eqAt rx fx r fs w (by simpa using hw)) ⟨.bl _, H, I, rfl, ?_⟩
    rw [show its.toArray.any (eqU x) = its.any (eqU x) by simp, any_eqU r fs]
    exact q
  · obtain ⟨its, r, pl, hz⟩ := I.tuple hq
    refine SeqAt.in_tupleAt (eqU x) pl (fun w hw => mem_eqAt rx fx r fs w (by simpa using hw)) ⟨.bl _, H, I, rfl, ?_⟩
    rw [show its.toArray.any (eqU x) = its.any (eqU x) by simp, any_eqU r fs]
    exact q
theorem op_notIn_seq : OpR X (compareOp .NotIn) (rIn X.K true) := by
  intro pins s σ H x y v u Q I rx ry h
  obtain ⟨p, xs, rfl, hq, fx, fs, q⟩ := h
  cases ry
  rcases hq with hq | hq
  · obtain ⟨its, r, pl, hz⟩ := I.list hq
    refine SeqAt.notIn_listAt (eqU x) pl.isList (fun w hw => mem_eqAt rx fx r fs w (by simpa using hw)) ⟨.bl _, H, I, rfl, ?_⟩
    rw [show its.toArray.any (eqU x) = its.any (eqU x) by simp, any_eqU r fs]
    exact q
  · obtain ⟨its, r, pl, hz⟩ := I.tuple hq
    refine SeqAt.notIn_tupleAt (eqU x) pl (fun w hw => mem_eqAt rx fx r fs w (by simpa using hw)) ⟨.bl _, H, I, rfl, ?_⟩
    rw [show its.toArray.any (eqU x) = its.any (eqU x) by simp, any_eqU r fs]
    exact q
theorem call_len_seq : CallR X (.builtin "len") (fun xs H Q => ∃ p ys, xs = [.ref p] ∧ (SqL X.K H p ys ∨ SqT X.K H p ys) ∧ Q (.int ys.length) H) := by
  intro pins s σ H xs us Q I r h
  obtain ⟨p, ys, rfl, hq, q⟩ := h
  obtain ⟨u, rfl, rx⟩ := vals1 r
  cases rx
  have hn := line63
  rcases hq with hq | hq
  · obtain ⟨its, r', pl, hz⟩ := I.list hq
    have hlen := r'.length
    exact Calls.call_len_list pl.isList (by simp only [List.size_toArray] <;> omega) ⟨.int ys.length, H, I.tok _, ⟨s.toks + 1, by rw [List.size_toArray, hlen]⟩, q⟩
  · obtain ⟨its, r', pl, hz⟩ := I.tuple hq
    have hlen := r'.length
    exact len_tuple pl (by simp only [List.size_toArray] <;> omega) ⟨.int ys.length, H, I.tok _, ⟨s.toks + 1, by rw [List.size_toArray, hlen]⟩, q⟩
theorem call_len_str : CallR X (.builtin "len") (fun xs H Q => ∃ z, xs = [.str z] ∧ z.length ≤ sizeLine ∧ Q (.int z.length) H) := by
  intro pins s σ H xs us Q I r h
  obtain ⟨z, rfl, hz, q⟩ := h
  obtain ⟨u, rfl, t, rfl⟩ := vals1 r
  have hn := line63
  exact len_str (by omega) ⟨.int z.length, H, I.tok _, ⟨_, rfl⟩, q⟩
theorem call_list_of : CallR X (.type "list") (fun xs H Q => ∃ p ys, xs = [.ref p] ∧ (SqL X.K H p ys ∨ SqT X.K H p ys) ∧ ∀ l, H l = none → Q (.ref l) (upd H l (.lst ys))) := by
  intro pins s σ H xs us Q I r h
  obtain ⟨p, ys, rfl, hq, q⟩ := h
  obtain ⟨u, rfl, rx⟩ := vals1 r
  cases rx
  have fin : ∀ (its : List Value), Vals ys its → ys.length ≤ sizeLine → ∀ (h' : Heap) (c' : Nat), (∀ b o', s.heap.get? b = some o' → h'.get? b = some o') →
      h'.get? s.heap.objs.size = some { cls := .type "list", dict := none, data := .seq its.toArray c', slots := #[] } → EP X pins σ Q (.ref s.heap.objs.size) { s with heap := h' } := fun its r' hz h' c' kp e =>
    ⟨.ref s.heap.objs.size, _, I.laid (t' := s.toks) kp (Nat.le_refl _) (show ObjOk X.prog X.w _ h' _ (.lst ys) from ⟨hz, its, c', r', e⟩), rfl, q _ (I.hok.fresh (Nat.le_refl _))⟩
  rcases hq with hq | hq
  · obtain ⟨its, r', pl, hz⟩ := I.list hq
    have hlen := r'.length
    obtain ⟨o, ho, hc, n, hd⟩ := pl.isList
    exact call_list_seq p (.inl rfl) ho hc hd (fun h' c' kp e => fin its r' hz h' c' kp e) (by simp only [List.size_toArray] <;> omega)
  · obtain ⟨its, r', pl, hz⟩ := I.tuple hq
    have hlen := r'.length
    obtain ⟨o, ho, hc, n, hd⟩ := pl
    exact call_list_seq p (.inr rfl) ho hc hd (fun h' c' kp e => fin its r' hz h' c' kp e) (by simp only [List.size_toArray] <;> omega)
theorem call_tuple_of : CallR X (.type "tuple") (fun xs H Q => ∃ p ys, xs = [.ref p] ∧ ((SqL X.K H p ys ∧ ∀ l, H l = none → Q (.ref l) (upd H l (.tup ys))) ∨ (SqT X.K H p ys ∧ Q (.ref p) H))) := by
  intro pins s σ H xs us Q I r h
  obtain ⟨p, ys, rfl, h⟩ := h
  obtain ⟨u, rfl, rx⟩ := vals1 r
  cases rx
  rcases h with ⟨hq, q⟩ | ⟨hq, q⟩
  · obtain ⟨its, r', pl, hz⟩ := I.list hq
    have hlen := r'.length
    refine call_tuple_list pl.isList (fun h' kp => ?_) (by simp only [List.size_toArray] <;> omega)
    have I1 : Inv X pins σ H { s with heap := h' } := I.kept (t' := s.toks) kp
    have I2 : Inv X pins σ (upd H h'.objs.size (.tup ys)) { s with heap := h'.push { cls := .type "tuple", data := .seq its.toArray } } :=
      I1.laid (t' := s.toks) (fun b o e => Heap.get?_push_of_some _ e) (Nat.le_refl _) (show ObjOk X.prog X.w _ _ _ (.tup ys) from ⟨hz, its, r', IsTup.new _ _, NoD.new _ rfl⟩)
    exact ⟨.ref h'.objs.size, _, I2, rfl, q _ (I1.hok.fresh (Nat.le_refl _))⟩
  · obtain ⟨its, r', pl, hz⟩ := I.tuple hq
    exact call_tuple_same pl ⟨.ref p, H, I, rfl, q⟩
def tyV (K : PySem.W.Frag) (T : String) (x : V) (H : Hp) : Prop := match x with
  | .str _ => T = "str"
  | .int _ => T = "int"
  | .ref p => (T = "list" ∧ ∃ xs, SqL K H p xs) ∨ (T = "tuple" ∧ ∃ o, K.lookup p = some o ∧ o.cls = .type "tuple" ∧ o.dict = none) ∨
      (T = "dict" ∧ ((∃ kvs, H p = some (.dK kvs)) ∨ ∃ kvs, H p = some (.dT kvs))) ∨ (T = "set" ∧ ∃ S n, H p = some (.set S n))
  | _ => False
theorem tyV_is {pins : List (Addr × Obj)} {σ : St} {H : Hp} {s : Shared} {T : String} {x : V} {v : Value} (I : Inv X pins σ H s) (r : RelV x v) (ty : tyV X.K T x H) :
    s.TypeIs v T ∧ ∀ a, v = .ref a → ∃ ob, s.heap.get? a = some ob ∧ ob.dict = none := by
  cases x with
  | str z =>
    obtain ⟨t, rfl⟩ := r
    cases (show T = "str" from ty)
    exact ⟨typeIs_str s z t, fun _ e => nomatch e⟩
  | int i =>
    obtain ⟨t, rfl⟩ := r
    cases (show T = "int" from ty)
    exact ⟨typeIs_int s i t, fun _ e => nomatch e⟩
  | ref p =>
    cases r
    rcases ty with ⟨rfl, xs, hq⟩ | ⟨rfl, o, hk, hc, hd⟩ | ⟨rfl, hk⟩ | ⟨rfl, S, n, hk⟩
    · obtain ⟨its, _, pl, _⟩ := I.list hq
      refine ⟨pl.isList.typeIs, fun a e => ?_⟩
      cases e
      obtain ⟨o, n, e, c, hd, _⟩ := pl
      exact ⟨o, e, hd⟩
    · refine ⟨⟨o, I.kIn p o hk, hc⟩, fun a e => ?_⟩
      cases e
      exact ⟨o, I.kIn _ o hk, hd⟩
    · have z : ∃ o, s.heap.get? p = some o ∧ o.ExactDict := by
        rcases hk with ⟨kvs, hk⟩ | ⟨kvs, hk⟩
        · obtain ⟨_, _, _, _, o, _, _, e, ex, _⟩ := I.hok p _ hk
          exact ⟨o, e, ex⟩
        · obtain ⟨_, _, _, _, o, _, _, e, ex, _⟩ := I.hok p _ hk
          exact ⟨o, e, ex⟩
      obtain ⟨o, e, ex⟩ := z
      refine ⟨⟨o, e, ex.1⟩, fun a e2 => ?_⟩
      cases e2
      exact ⟨o, e, ex.2.1⟩
    · obtain ⟨o, _, _, _, e, ex, _⟩ := I.hok p _ hk
      refine ⟨⟨o, e, ex.1⟩, fun a e2 => ?_⟩
      cases e2
      exact ⟨o, e, ex.2.1⟩
  | _ => exact False.elim ty
def tBM0 (K : PySem.W.Frag) (T : String) (r : V → List V → Hp → VK → Prop) (to : TE) : TE := fun σ H Q => to σ H fun x H1 => tyV K T x H1 ∧ r x [] H1 Q
def tBM (K : PySem.W.Frag) (T : String) (r : V → List V → Hp → VK → Prop) (to : TE) (t : TA) : TE := fun σ H Q => to σ H fun x H1 => tyV K T x H1 ∧ t σ H1 fun xs H2 => r x xs H2 Q
variable {o e : Expr} {es : List Expr} {to : TE} {t : TA} {name : Str} {apos cpos : Pos} {T id : String} {r : V → List V → Hp → VK → Prop}
theorem pe_bm0 (pa : PlainAttrs T) (slot : Slot T name id) (hty : typeOf (.builtin id) = pure (.type "method_descriptor")) (hm : MtR X id r) (ho : PE X o to)
    (hbase : attributeBase o name X.env (eval o X.env) = eval o X.env := by rfl) (hline : (apos.endLine == cpos.line) = true := by rfl) : PE X (.Call (.Attribute o name apos) [] [] cpos) (tBM0 X.K T r to) := by
  intro pins s σ H Q I h
  refine wpAny_Call_method0_late hbase hline (thn (ho pins s σ H _ I h) fun v s1 ⟨x, H1, I1, r1, ty, q1⟩ => ?_)
  obtain ⟨h1, h2⟩ := tyV_is I1 r1 ty
  exact ⟨T, id, pa, slot, hty, h1, h2, Calls.callWith_builtin rfl (PySem.evalArgs_none (hm pins s1 σ H1 x [] v [] Q I1 r1 .nil q1))⟩
theorem pe_bm (pa : PlainAttrs T) (slot : Slot T name id) (hty : typeOf (.builtin id) = pure (.type "method_descriptor")) (hm : MtR X id r) (ho : PE X o to) (ha : PA X (e :: es) t)
    (hbase : attributeBase o name X.env (eval o X.env) = eval o X.env := by rfl)
    (hfew : ((backTo cpos (starEach (e :: es) X.env)).all (fun x => !x.1) && (backToKw cpos (keywordEach [] X.env)).all (fun x => x.1.isSome)
      && decide ((e :: es).length + ([] : List Keyword).length + (if ([] : List Keyword).isEmpty then 0 else 1) < 30)) = true := by rfl)
    (hline : (apos.endLine == cpos.line) = true := by rfl) (hs : starEach (e :: es) X.env = (false, eval e X.env) :: starEach es X.env := by rfl) (hplain : (backTo cpos (starEach es X.env)).any (·.1) = false := by rfl) :
    PE X (.Call (.Attribute o name apos) (e :: es) [] cpos) (tBM X.K T r to t) := by
  intro pins s σ H Q I h
  refine wpAny_Call_method_late hbase hfew hline rfl (thn (ho pins s σ H _ I h) fun v s1 ⟨x, H1, I1, r1, ty, q1⟩ => ?_)
  obtain ⟨h1, h2⟩ := tyV_is I1 r1 ty
  refine ⟨T, id, pa, slot, hty, h1, h2, ?_⟩
  have hA := ha cpos pins s1 σ H1 _ I1 q1
  rw [hs] at hA ⊢
  refine Calls.callWith_builtin (by show (false || (backTo cpos (starEach es X.env)).any (·.1)) = false; rw [hplain] <;> rfl) (Calls.evalArgs_plain ?_)
  exact thn hA fun us s2 ⟨vs, H2, I2, r2, q2⟩ => hm pins s2 σ H2 x vs v us Q I2 r1 r2 q2
/- xs.append(e), list.index on a module's tuple .. are MtR facts of 06m -/
end
end L2
namespace L2
open PySem PySem.Spec PyProof.Rows
def MtM (X : Cx) (id : String) (r : V → List V → Hp → VK → Prop) : Prop :=
  ∀ (pins : List (Addr × Obj)) (s : Shared) (σ : St) (H : Hp) (x : V) (xs : List V) (v : Value) (us : List Value) (Q : VK), Inv X pins σ H s → RelV x v → Vals xs us → r x xs H Q →
    wpAny (model X.prog X.w) X.A (call (.builtin id) (v :: us)) (EP X pins σ Q) X.xe s
theorem Vals.one : ∀ {x : V} {us : List Value}, Vals [x] us → ∃ u, us = [u] ∧ RelV x u
  | _, _, .cons r .nil => ⟨_, rfl, r⟩
theorem Vals.zero : ∀ {us : List Value}, Vals [] us → us = []
  | _, .nil => rfl
theorem Vals.dropLast {xs : List V} {us : List Value} (h : Vals xs us) : Vals xs.dropLast us.dropLast := by
  induction h with
  | nil => exact .nil
  | cons r t ih =>
    cases t with
    | nil => exact .nil
    | cons q t' => exact .cons r ih
theorem Vals.rep {xs : List V} {us : List Value} (h : Vals xs us) : ∀ k : Nat, Vals (List.replicate k xs).flatten (List.replicate k us).flatten
  | 0 => .nil
  | k + 1 => by
    rw [List.replicate_succ, List.replicate_succ, List.flatten_cons, List.flatten_cons]
    exact Vals.append h (Vals.rep h k)
theorem erase_last {α : Type} (l : List α) : l.eraseIdx (l.length - 1) = l.dropLast := by
  induction l with
  | nil => rfl
  | cons a r ih =>
    cases r with
    | nil => rfl
    | cons b r =>
      have e : (a :: b :: r).length - 1 = ((b :: r).length - 1) + 1 := by
        have h1 : (a :: b :: r).length = r.length + 2 := rfl
        have h2 : (b :: r).length = r.length + 1 := rfl
        omega
      rw [e, List.eraseIdx_cons_succ, ih]
      all_goals rfl
theorem foldl_rep (its : List Value) : ∀ (k : Nat) (acc : List Value),
    List.foldl (fun x1 x2 => x1 ++ x2) acc.toArray (List.replicate k its.toArray) = (acc ++ (List.replicate k its).flatten).toArray
  | 0, acc => by simp
  | k + 1, acc => by
    have e : acc.toArray ++ its.toArray = (acc ++ its).toArray := by simp
    have e2 : (acc ++ its) ++ (List.replicate k its).flatten = acc ++ (List.replicate (k + 1) its).flatten := by
      rw [List.replicate_succ, List.flatten_cons, List.append_assoc]
    rw [← e2, ← foldl_rep its k (acc ++ its), ← e, List.replicate_succ, List.foldl_cons]
section
variable {X : Cx} {pins : List (Addr × Obj)} {σ : St} {H : Hp} {s : Shared} {l b : Addr} {xs ys zs : List V}
theorem Inv.lset {its its' : List Value} {n : Nat} {f : Array Value → Array Value} {t' : Nat} (I : Inv X pins σ H s) (hH : H l = some (.lst xs))
    (e : s.heap.get? l = some { cls := .type "list", data := .seq its.toArray n }) (hf : f its.toArray = its'.toArray) (hv : Vals ys its') (hz : ys.length ≤ sizeLine) :
    Inv X pins σ (upd H l (.lst ys)) { s with heap := s.heap.update l (Obj.mapSeq f), toks := t' } := by
  have q := PySem.IsL.update e f
  rw [hf] at q
  refine I.write (x := l) (e := l) (by rw [hH]; exact trivial) (.inl rfl) (fun b' u hb hu => (Heap.get?_update_other s.heap (Obj.mapSeq f) (Ne.symm hb)).trans hu) ⟨_, q⟩ ?_
  exact ⟨hz, its', _, hv, q⟩
theorem Inv.lnew {its : List Value} {t' : Nat} (I : Inv X pins σ H s) (hv : Vals ys its) (hz : ys.length ≤ sizeLine) :
    Inv X pins σ (upd H s.heap.objs.size (.lst ys)) { s with heap := s.heap.push { cls := .type "list", data := .seq its.toArray }, toks := t' } :=
  I.laid (fun _ _ q => Heap.get?_push_of_some _ q) (Nat.le_refl _) ⟨hz, its, 0, hv, Heap.get?_push_size _ rfl⟩
theorem Inv.fresh (I : Inv X pins σ H s) : H s.heap.objs.size = none := I.hok.fresh (Nat.le_refl _)
theorem Inv.lstM (I : Inv X pins σ H s) (hH : H l = some (.lst xs)) : xs.length ≤ sizeLine ∧ ∃ (its : List Value) (n : Nat), Vals xs its ∧ xs.length = its.length ∧ s.heap.get? l = some { cls := .type "list", data := .seq its.toArray n } := by
  obtain ⟨z, its, n, r, e⟩ := I.hok l _ hH
  exact ⟨z, its, n, r, r.length, e⟩
theorem notLongL {n : Nat} (h : n ≤ sizeLine) : Builtin.List.listTooLong n = false := by
  unfold Builtin.List.listTooLong
  exact decide_eq_false (by omega)
end
section
variable {X : Cx}
def rAppend : V → List V → Hp → VK → Prop := fun x vs H Q => ∃ l xs y, x = .ref l ∧ vs = [y] ∧ H l = some (.lst xs) ∧ xs.length < sizeLine ∧ Q .non (upd H l (.lst (xs ++ [y])))
theorem mt_append : MtM X "list.append" rAppend := by
  intro pins s σ H x vs v us Q I rx rv h
  obtain ⟨l, xs, y, rfl, rfl, hH, hz, q⟩ := h
  cases rx
  obtain ⟨u, rfl, ru⟩ := rv.one
  obtain ⟨z, its, n, r, hl, e⟩ := I.lstM hH
  refine call_meets F.slot_list_append ⟨_, e, rfl⟩ F.entry_list_append (F.args_list_append_2 _ _) (PySem.list_append l its.toArray n u (by rw [List.size_toArray]; omega)) ⟨e, ?_⟩
  refine ⟨.non, _, I.lset (its' := its ++ [u]) hH e (by simp) (r.append (.cons ru .nil)) ?_, rfl, q⟩
  rw [List.length_append, List.length_singleton]
  omega
def rExtend : V → List V → Hp → VK → Prop := fun x vs H Q => ∃ l b xs zs, x = .ref l ∧ vs = [.ref b] ∧ H l = some (.lst xs) ∧ H b = some (.lst zs) ∧ xs.length + zs.length ≤ sizeLine ∧ Q .non (upd H l (.lst (xs ++ zs)))
theorem mt_extend : MtM X "list.extend" rExtend := by
  intro pins s σ H x vs v us Q I rx rv h
  obtain ⟨l, b, xs, zs, rfl, rfl, hH, hB, hz, q⟩ := h
  cases rx
  obtain ⟨u, rfl, ru⟩ := rv.one
  cases ru
  obtain ⟨z, its, n, r, hl, e⟩ := I.lstM hH
  obtain ⟨z2, its2, n2, r2, hl2, e2⟩ := I.lstM hB
  have hsz : its.toArray.size + its2.toArray.size ≤ sizeLine := by rw [List.size_toArray, List.size_toArray]; omega
  have hlong : ¬ (!its.toArray.isEmpty && Builtin.List.listTooLong (its.toArray.size + its2.toArray.size)) = true := by
    rw [notLongL hsz, Bool.and_false]
    exact Bool.false_ne_true
  refine call_meets F.slot_list_extend ⟨_, e, rfl⟩ F.entry_list_extend (F.args_list_extend_2 _ _)
    (AutoSeq1.list_extend_list_list_0 l its.toArray n b its2.toArray n2 hlong (by rw [List.size_toArray]; omega) (by omega)) ⟨e, e2, ?_⟩
  refine ⟨.non, _, I.lset (its' := its ++ its2) hH e (by simp) (r.append r2) ?_, rfl, q⟩
  rw [List.length_append]
  omega
def rPop : V → List V → Hp → VK → Prop := fun x vs H Q => ∃ l xs y, x = .ref l ∧ vs = [] ∧ H l = some (.lst xs) ∧ xs[xs.length - 1]? = some y ∧ Q y (upd H l (.lst xs.dropLast))
theorem mt_pop : MtM X "list.pop" rPop := by
  intro pins s σ H x vs v us Q I rx rv h
  obtain ⟨l, xs, y, rfl, rfl, hH, hy, q⟩ := h
  cases rx
  have hus := rv.zero
  subst hus
  obtain ⟨z, its, n, r, hl, e⟩ := I.lstM hH
  obtain ⟨u, hu, ru⟩ := r.get hy
  have hy' : its.toArray[its.toArray.size - 1]? = some u := by
    show its.toArray[its.length - 1]? = some u
    rw [← Array.getElem?_toList, ← hl]
    exact hu
  refine call_meets F.slot_list_pop ⟨_, e, rfl⟩ F.entry_list_pop (F.args_list_pop_1 _) (MeetsSeq.list_pop_last l its.toArray n u hy' (by rw [List.size_toArray]; omega)) ⟨e, ?_⟩
  refine ⟨y, _, I.lset (its' := its.dropLast) hH e ?_ r.dropLast ?_, ru, q⟩
  · show its.toArray.eraseIdxIfInBounds (its.toArray.size - 1) = its.dropLast.toArray
    rw [List.size_toArray, List.eraseIdxIfInBounds_toArray, erase_last]
  · rw [List.length_dropLast]
    omega
def rCat : R2 := fun x y H Q => ∃ l b xs zs, x = .ref l ∧ y = .ref b ∧ H l = some (.lst xs) ∧ H b = some (.lst zs) ∧ xs.length + zs.length ≤ sizeLine ∧ ∀ p, H p = none → Q (.ref p) (upd H p (.lst (xs ++ zs)))
theorem op_cat : OpR X (binaryOp .Add) rCat := by
  intro pins s σ H x y v u Q I rx ry h
  obtain ⟨l, b, xs, zs, rfl, rfl, hH, hB, hz, q⟩ := h
  cases rx
  cases ry
  obtain ⟨z, its, n, r, hl, e⟩ := I.lstM hH
  obtain ⟨z2, its2, n2, r2, hl2, e2⟩ := I.lstM hB
  refine PySem.P.add_list e e2 ?_ (by rw [List.size_toArray, List.size_toArray]; omega)
  have ea : its.toArray ++ its2.toArray = (its ++ its2).toArray := by simp
  rw [ea]
  exact ⟨.ref _, _, I.lnew (t' := s.toks) (r.append r2) (by rw [List.length_append]; omega), rfl, q _ I.fresh⟩
def rRep : R2 := fun x y H Q => ∃ l k xs, x = .ref l ∧ y = .int k ∧ H l = some (.lst xs) ∧ -(2 ^ 63) ≤ k ∧ k < 2 ^ 63 ∧ xs.length * k.toNat ≤ sizeLine ∧
  ∀ p, H p = none → Q (.ref p) (upd H p (.lst (List.replicate k.toNat xs).flatten))
theorem len_rep {α : Type} (xs : List α) (k : Nat) : (List.replicate k xs).flatten.length = k * xs.length := by
  induction k with
  | zero => simp
  | succ k ih => rw [List.replicate_succ, List.flatten_cons, List.length_append, ih, Nat.succ_mul, Nat.add_comm]
theorem op_rep : OpR X (binaryOp .Mult) rRep := by
  intro pins s σ H x y v u Q I rx ry h
  obtain ⟨l, k, xs, rfl, rfl, hH, h1, h2, hz, q⟩ := h
  cases rx
  obtain ⟨t, rfl⟩ := ry
  obtain ⟨z, its, n, r, hl, e⟩ := I.lstM hH
  have hlen : its.toArray.size * k.toNat ≤ sizeLine := by rw [List.size_toArray, ← hl]; exact hz
  have hcap : ¬ its.toArray.size * k.toNat > (2 ^ 63 - 1) / 8 := by
    have : (sizeLine : Nat) ≤ (2 ^ 63 - 1) / 8 := by decide
    omega
  have hfit : ¬ (!Builtin.List.listFitsIndex k) = true := by
    rw [fitsIndex_both h1 h2]
    exact Bool.false_ne_true
  have hlong : ¬ Builtin.List.listTooLong (its.toArray.size * k.toNat) = true := by
    rw [notLongL hlen]
    exact Bool.false_ne_true
  have hnew : List.foldl (fun x1 x2 => x1 ++ x2) #[] (List.replicate (if its.toArray.isEmpty = true then 0 else k.toNat) its.toArray) = (List.replicate k.toNat its).flatten.toArray := by
    have f0 : ∀ m : Nat, List.foldl (fun x1 x2 => x1 ++ x2) #[] (List.replicate m its.toArray) = (List.replicate m its).flatten.toArray := fun m => by
      have := foldl_rep its m []
      rw [List.nil_append] at this
      exact this
    rw [f0]
    cases its with
    | nil => simp
    | cons a r' => rw [if_neg (by simp)]
  refine wpAny_binaryOp_repeat_ref (T := "list") (U := "int") (by decide) ⟨_, e, rfl⟩ (fun s' => typeIs_int s' k t) noFill_list_mul F.fills_int_mul F.slot_int_rmul repeat_list F.slot_int_index.lookup
    (call_meets F.slot_int_rmul (typeIs_int s k t) F.entry_int_rmul (F.args_int_rmul_2 _ _) (int___rmul___int_list k t l its.toArray n)
      ⟨e, rfl, ⟨_, e, rfl⟩, call_meets F.slot_list_mul ⟨_, e, rfl⟩ F.entry_list_mul (F.args_list_mul_2 _ _) (AutoListH.list___mul___list_int_3 l its.toArray n k t hfit hcap hlong) ⟨e, ?_⟩⟩)
  rw [hnew]
  exact ⟨.ref _, _, I.lnew (t' := s.toks) (r.rep k.toNat) (by rw [len_rep, Nat.mul_comm]; exact hz), rfl, q _ I.fresh⟩
end
section
variable {prog : Program} {w : World} {A : Around} {E : Value → Shared → Prop} {s : Shared}
end
section
variable {X : Cx}
end
end L2
namespace Att
open PySem PySem.W PySem.Calls PyProof.Rows
theorem ints_of_wellAll {P : Params} {h : Heap} : ∀ (ns : List Int) (vs : List Value), WellAll P h vs (ns.map WData.int) → IntsAre vs ns := by
  intro ns
  induction ns with
  | nil =>
    intro vs w
    rw [List.map_nil] at w
    cases w
    exact .nil
  | cons n ns ih =>
    intro vs w
    rw [List.map_cons] at w
    cases w with
    | cons a b =>
      cases a
      exact .cons _ _ (ih _ b)
theorem script_of {l : OpenLaw} {n : Nat} (hn : l.most = some n) {P : Params} {h : Heap} {args : List WData} {vals : List Value}
    (hpre : l.row.toRowW.claim.pre args = true) (hwl : WellAll P h vals args) :
    ∃ a vs ns, vals = [Value.ref a] ∧ args = [WData.list (ns.map WData.int)] ∧ h.get? a = some { cls := .type "list", data := .seq vs.toArray } ∧ IntsAre vs ns ∧ ns.length ≤ n := by
  have hsh : WShape.hasAll [] args [.list .int] = true := (pre_splitW hpre).1
  have hc : l.pre.holds [] { args := args } = true := (pre_splitW hpre).2
  obtain ⟨d, r, rfl, h1, h2⟩ := hasAllW_cons hsh
  obtain rfl := hasAllW_nil h2
  obtain ⟨xs, rfl, h3⟩ := hasW_list h1
  obtain ⟨ns, rfl⟩ := items_int h3
  have hlen : ns.length ≤ n := by
    unfold OpenLaw.pre at hc
    have h4 : (WTm.not (.lt (.lit (.int (n : Int))) (.len (.arg 0)))).holds [] { args := [.list (ns.map .int)] } = true := by
      have h4 := (holds_andW hc).1
      rw [hn] at h4
      exact h4
    have h5 := condW_of h4 (w_not (w_lt w_lit (w_len_list (w_arg rfl))))
    rw [List.length_map] at h5
    refine Nat.le_of_not_lt fun q => ?_
    have q' : (n : Int) < ((ns.length : Nat) : Int) := by omega
    first
      | (rw [decide_eq_true q'] at h5; exact absurd h5 (by decide))
      | (simp at h5; omega)
  cases hwl with
  | cons w1 w2 =>
    cases w2
    cases w1 with
    | list ho hall => exact ⟨_, _, ns, rfl, rfl, ho, ints_of_wellAll ns _ hall, hlen⟩
theorem post_true (l : OpenLaw) (args : List WData) : l.row.toRowW.claim.post args (.bool true) args = true :=
  postW_of (r := l.row.toRowW) (X := (true == true))
    (show WShape.has [] (.bool true) .bool = true by first | rfl | decide | simp [WShape.has, WShape.arms, WShape.armsAll])
    (show (WTm.eq .res (.lit (.bool true))).value [] { args := args, res := some (.bool true), after := args } = some (.bool (true == true)) from w_eq_bool (w_res rfl) w_lit) rfl
theorem attach_call {l : OpenLaw} {n : Nat} {q : Program} {loose : List Str} {XP : (Str → Option Value) → Heap → Prop} {YP : World → Heap → Prop} {d : DefRec}
    (hn : l.most = some n) (hdf : d.params.defaults = [])
    (call : ∀ (w : World) (s₀ s₁ : Shared) (mg mb : Str → Option Value) (fa : Addr) (o : Obj) (pm cd doc : Value) (a : Addr) (vs : List Value) (ns : List Int),
      Ground q loose [] XP w s₀ mg mb s₁.heap → YP w s₁.heap →
      s₁.heap.get? fa = some o → o.data = .func (docDef d.name d.params d.body d.scope pm cd doc) → s₁.heap.CodeRec cd d.name → mg d.name = some (.ref fa) →
      s₁.heap.get? a = some { cls := .type "list", data := .seq vs.toArray } → IntsAre vs ns → ns.length ≤ n → s₁.gens = #[] →
      codeAny (model l.prog w) callerA (.call (.ref fa) ⟨[.ref a], []⟩) (fun r s' => r = .ok (.ret (.bool true)) ∧ OldK s₁.heap s'.heap ∧ s'.os = s₁.os ∧ AllBare s'.gens) s₁) :
    WalkO q loose XP YP l.row.toRowW d [] (fun f vs => PySem.call f vs) := by
  intro w s₀ s₁ mg mb G Y fa o pm cd doc dV kV ho hd hcd hD hmg hg args vals as hpre hlay hrd hwl hlo
  obtain rfl : dV = .none := Dflts.none hD hdf
  obtain rfl : kV = .none := Dflts.noKw hD
  obtain ⟨a, vs, ns, rfl, rfl, hobj, hints, hlen⟩ := script_of hn hpre hwl
  refine enter_call (codeAny_mono (call w s₀ s₁ mg mb fa o pm cd doc a vs ns G Y ho (fd_plain hd) hcd hmg hobj hints hlen hg) fun r s' hq => ?_)
  obtain ⟨rfl, h2, h3, h4⟩ := hq
  exact ⟨.inl ⟨.bool true, .bool true, [], rfl, fun _ => rfl, .bool true, post_true l _, fun _ => ⟨List.Pairwise.nil, fun _ hm => (nomatch hm)⟩⟩, h2, h3, h4⟩
section
variable {prog : Program} {w : World} {A : Around} {E : Value → Shared → Prop} {s : Shared} {K : Frag}
def noObjs (h : Heap) : Heap := { h with objs := #[] }
theorem noObjs_get (h : Heap) (b : Addr) : (noObjs h).get? b = none := by
  cases e : (noObjs h).get? b with
  | none => rfl
  | some o => exact absurd (Heap.lt_size e) (Nat.not_lt_zero _)
theorem fr_all {h : Heap} {L : Addr} {m : Str → Option Value} (n : h.Ns L m) : Fr (noObjs h) L h m :=
  ⟨n, fun b o e => (by rw [noObjs_get] at e; cases e), Nat.zero_le _⟩
end
end Att
namespace L2
open PySem PySem.Spec PyProof.Rows
theorem vals_ints : ∀ {vs : List Value} {ns : List Int}, IntsAre vs ns → Vals (ns.map V.int) vs
  | _, _, .nil => .nil
  | _, _, .cons n t h => .cons ⟨t, rfl⟩ (vals_ints h)
def Only (H : Hp) : Prop := ∀ b, H b = none ∨ ∃ o xs, H b = some (.frz o (.lst xs))
theorem law_call {P : Program} {w : World} {K : PySem.W.Frag} {mg mb : Str → Option Value} {CX : CXT} {k : Nat} {fa a : Addr} {fd : FuncData} {x : Str} {sp : Sp} {s₁ : Shared} {vs : List Value} {ns : List Int}
    (KX : K.In s₁.heap) (hns : s₁.heap.Ns mainGlobals mg) (hb : s₁.heap.Ns builtinsNs mb) (hbb : ∀ x : Str, x ≠ "__name__" → mb x = bootBuiltins x) (hlim : s₁.heap.NoLimit) (hg : s₁.gens = #[])
    (ha : s₁.heap.get? a = some { cls := .type "list", data := .seq vs.toArray }) (hi : IntsAre vs ns) (hl : ns.length ≤ sizeLine) (hr : Room k callerA)
    (F : ∀ base : Heap, K.In base → base.Ns mainGlobals mg → FnOk P w K mg base CX k fa fd [x] sp) (hbind : ∀ (s : Shared) (u : Value), BindsTo s fd ⟨[u], []⟩ [(x, u)])
    (hsp : ∀ H : Hp, Only H → SqL K H a (ns.map V.int) → sp [.ref a] H (fun v _ => v = .bl true) fun _ _ _ => False)
    (hCX : ∀ H e s', CX [] H s₁ (fun _ _ _ => False) e s' → False) :
    codeAny (model P w) callerA (.call (.ref fa) ⟨[.ref a], []⟩) (fun r s' => r = .ok (.ret (.bool true)) ∧ OldK s₁.heap s'.heap ∧ s'.os = s₁.os ∧ AllBare s'.gens) s₁ := by
  have rv := vals_ints hi
  have lenV := hi.length
  -- from an abstract heap in which nothing but the script may be tracked
  have core : ∀ H : Hp, Only H → SqL K H a (ns.map V.int) → HOk P w H s₁.heap → (∀ b, H b ≠ none → b = a) → (H a ≠ none → K.lookup a = none) →
      codeAny (model P w) callerA (.call (.ref fa) ⟨[.ref a], []⟩) (fun r s' => r = .ok (.ret (.bool true)) ∧ OldK s₁.heap s'.heap ∧ s'.os = s₁.os ∧ AllBare s'.gens) s₁ := by
    intro H hO hS hok hA hK
    have base_of : ∀ {b : Addr} {o : Obj}, s₁.heap.get? b = some o → H b = none → (hidT s₁.heap H).get? b = some o := fun e n => hidT_get e n
    have noA : ∀ {b : Addr} {o : Obj} {es : Array DictEntry} {ep : Nat}, s₁.heap.get? b = some o → o.data = .dict es ep → H b = none := fun {b o es ep} e d => by
      cases q : H b with
      | none => rfl
      | some u =>
        have e' : b = a := hA b (by rw [q]; simp)
        subst e'
        rw [ha] at e; cases e
        have d' : Data.seq vs.toArray _ = Data.dict es ep := d
        cases d'
    have nsK : ∀ {b : Addr} {m : Str → Option Value}, s₁.heap.Ns b m → (hidT s₁.heap H).Ns b m := fun {b m} ⟨o, es, ep, e, d, r⟩ => ⟨o, es, ep, base_of e (noA e d), d, r⟩
    have hKb : K.In (hidT s₁.heap H) := fun b o e => base_of (KX b o e) (by
      cases q : H b with
      | none => rfl
      | some u =>
        have e' : b = a := hA b (by rw [q]; simp)
        subst e'
        rw [hK (by rw [q]; simp)] at e; cases e)
    have hM : Mod K mg (hidT s₁.heap H) := ⟨hKb, nsK hns, ⟨mb, nsK hb, hbb⟩, let ⟨mc, h1, h2⟩ := hlim; ⟨mc, nsK h1, h2⟩⟩
    have e0 : Env0 P w K mg (hidT s₁.heap H) callerA [] s₁ H := ⟨rfl, hM, fun b o e => of_hidT e, Nat.le_of_eq (hidT_size _ _), trivial, fun b hb => absurd (show b ∈ ([] : List Addr) from hb) (by simp), hok, .of_eq hg⟩
    refine codeAny_mono ((F _ hKb (nsK hns)).run callerA [] s₁ H ⟨[.ref a], []⟩ [.ref a] [.ref a] _ _ hr e0 (hbind s₁ (.ref a)) (.cons rfl .nil) (hsp H hO hS)) fun r s' h => ?_
    cases r with
    | error e => exact (hCX H e s' h).elim
    | ok fl =>
      cases fl with
      | next => exact False.elim h
      | brk => exact False.elim h
      | cont => exact False.elim h
      | ret u =>
        obtain ⟨v, H', os, bare, un, hok', r', q⟩ := h
        have q' : v = .bl true := q
        subst q'
        obtain rfl : u = Value.bool true := r'
        refine ⟨rfl, OldK.of_keep fun b o e => ?_, os, bare⟩
        cases q : H b with
        | none => exact un.keep b o e q (by intro z; exact absurd (show b ∈ ([] : List Addr) from z) (by simp)) (by simp)
        | some u =>
          rcases hO b with z | ⟨ob, xs, z⟩
          · rw [q] at z; cases z
          · have z2 := un.frzs b ob _ z
            obtain ⟨e1, _⟩ := hok b _ z
            obtain ⟨e2, _⟩ := hok' b _ z2
            rw [e] at e1; cases e1
            exact e2
  cases hk : K.lookup a with
  | some o =>
    -- the script is one of the module's own objects
    have e := KX a o hk
    rw [ha] at e
    cases e
    refine core (fun _ => none) (fun _ => .inl rfl) (.inr ⟨_, vs.toArray, _, hk, rfl, rfl, rfl, by rw [List.size_toArray, lenV]; exact hl, by simpa using rv⟩) (fun b u z => by have z' : (none : Option HO) = some u := z; cases z') (fun b z => absurd rfl z) fun z => absurd rfl z
  | none =>
    refine core (fun b => if b = a then some (.frz { cls := .type "list", data := .seq vs.toArray } (.lst (ns.map V.int))) else none) (fun b => ?_) (.inl (.inr ⟨{ cls := .type "list", data := .seq vs.toArray }, if_pos rfl⟩)) (fun b u z => ?_) (fun b z => ?_) fun _ => hk
    · by_cases hb : b = a
      · exact .inr ⟨_, _, if_pos hb⟩
      · exact .inl (if_neg hb)
    · by_cases hb : b = a
      · have z' := (if_pos hb).symm.trans z
        cases z'
        subst hb
        exact ⟨ha, by rw [List.length_map]; exact hl, vs, _, rv, ha⟩
      · have z' := (if_neg hb).symm.trans z
        cases z'
    · by_cases hb : b = a
      · exact hb
      · exact absurd (if_neg hb) z
end L2
namespace L2
open PySem PySem.Spec PyProof.Rows
theorem walk_of {l : PySem.W.OpenLaw} {n k : Nat} {q : Program} {loose : List Str} {XP : (Str → Option Value) → Heap → Prop} {YP : World → Heap → Prop} {d : DefRec} {K : Params → PySem.W.Frag} {CX : World → CXT} {sp : World → Sp} {x : Str}
    (hn : l.most = some n) (hn2 : n ≤ sizeLine) (hdf : d.params.defaults = []) (hr : Room k callerA)
    (hY : ∀ (w : World) (h : Heap), YP w h → (K w.params).In h)
    (F : ∀ (w : World) (mg : Str → Option Value) (fa : Addr) (h : Heap), (K w.params).In h → h.Ns mainGlobals mg → mg d.name = some (.ref fa) →
      ∃ fd : FuncData, (∀ (s : Shared) (u : Value), BindsTo s fd ⟨[u], []⟩ [(x, u)]) ∧
        ∀ base : Heap, (K w.params).In base → base.Ns mainGlobals mg → FnOk l.prog w (K w.params) mg base (CX w) k fa fd [x] (sp w))
    (hsp : ∀ (w : World) (H : Hp) (a : Addr) (ns : List Int), ns.length ≤ n → Only H → SqL (K w.params) H a (ns.map V.int) → sp w [.ref a] H (fun v _ => v = .bl true) fun _ _ _ => False)
    (hCX : ∀ (w : World) (H : Hp) (s : Shared) (e : Value) (s' : Shared), CX w [] H s (fun _ _ _ => False) e s' → False) :
    PySem.W.WalkO q loose XP YP l.row.toRowW d [] (fun f vs => PySem.call f vs) := by
  refine Att.attach_call hn hdf fun w s₀ s₁ mg mb fa o pm cd doc a vs ns G Y ho hd hcd hmg hobj hints hlen hg => ?_
  have KX := hY w _ Y
  obtain ⟨fd, hb, hF⟩ := F w mg fa _ KX G.T.g hmg
  exact law_call KX G.T.g G.T.b G.T.builtins G.T.nolimit hg hobj hints (Nat.le_trans hlen hn2) hr hF hb (fun H hO hS => hsp w H a ns hlen hO hS) fun H e s' => hCX w H s₁ e s'
end L2
/- THE LAST THEOREM (shape; LID, My.* are yours):
   My.Adr: a structure of the addresses that your layer names (classes, functions); My.Txt K t: a structure (Prop) of the equations over K;
   My.txt_mk : {K} {implicit addresses ..} (e1 : nsIn K mainGlobals "law" = some (some (.ref f))) (e2 : K.lookup f = some ⟨oc, od, .func (fnOf "law" "law" params body scope dV kV doc pm an cdv ct), sl⟩) (e3 : codeIn K cdv "law" = true) .. : ∃ t, My.Txt K t
set_option maxRecDepth 100000 in
set_option maxHeartbeats 0 in
theorem PySem.Challenge.cw_LID_holds : PySem.Challenge.rw_LID.Holds := by
  w_on; o_law; k_head; (case hw => w_witness2)
  k_fill
  refine L2.walk_of (l := PySem.Challenge.rw_LID) (n := 63) (k := 40) (x := "script") (CX := fun w => ..) (sp := fun _ => My.sp_law) rfl (by decide) rfl ⟨rfl, by decide, by decide⟩ (fun w h Y => PySem.W.kIn_of Y) ?F ?S ?C
  case F =>
    intro w mg fa h KX G hmg
    have T : ∃ t, My.Txt (L2.KOf KX) t := by
      dsimp only [L2.KOf]                          -- K must stand as «<heap const> w.params» for k_is
      refine' My.txt_mk ?e1 ?e2 ?e3 ..
      (case e1 => PySem.W.k_is)                    -- in the order: a name -> its address -> its object -> its parts
      (case e2 => PySem.W.k_is)
      ..
    obtain ⟨t, T⟩ := T
    have e0 := hmg.symm.trans (PySem.W.mg_of KX G T.law)
    cases e0                                       -- fa is the law's own address
    exact ⟨_, fun s u => .of_eq rfl, fun base kb nb => My.law_fn T kb nb⟩     -- if «.of_eq rfl» comes too early: refine' ⟨_, ?b, fun base kb nb => My.law_fn T kb nb⟩; exact fun s u => .of_eq rfl
  case S => exact fun w H a ns hl hO hS => ..
  case C => exact ..
(the tactic k_is has no namespace: write k_is) -/
namespace L2
open PySem PySem.Spec PyProof.Rows
def defArgs (s : Stmt) : Arguments := match s with
  | .FunctionDef _ a _ _ _ _ _ _ _ _ => a
  | _ => { posonlyargs := [], args := [], vararg := none, kwonlyargs := [], kw_defaults := [], kwarg := none, defaults := [] }
def defBody (s : Stmt) : List Stmt := match s with
  | .FunctionDef _ _ b _ _ _ _ _ _ _ => b
  | _ => []
def defScope (s : Stmt) : Scope := match s with
  | .FunctionDef _ _ _ _ _ _ sc _ _ _ => sc
  | _ => { kind := .function, names := [], isGenerator := false, isCoroutine := false }
abbrev CX0 : CXT := fun _ _ _ _ _ _ => False
abbrev E0 : XK := fun _ _ _ => False
theorem pass0 {X : Cx} : Passes CX0 X E0 := fun _ _ _ _ _ _ _ h => h.elim
structure Fun (K : PySem.W.Frag) (x qual : Str) (st : Stmt) (f : Addr) (fd : FuncData) : Prop where
  ex : ∃ (oc : Value) (od : Option Addr) (kV doc pm : Value) (an : Option Addr) (cdv ct : Value) (osl : Array (Option Value)),
    fd = PySem.W.fnOf x qual (defArgs st) (defBody st) (defScope st) .none kV doc pm an cdv ct ∧ K.lookup f = some ⟨oc, od, .func fd, osl⟩ ∧ PySem.W.codeIn K cdv qual = true
  kp : PySem.W.keepIn K (.ref f) = true
section
variable {P : Program} {w : World} {K : PySem.W.Frag} {mg : Str → Option Value} {base : Heap}
theorem Fun.ok {x qual : Str} {st : Stmt} {f : Addr} {fd : FuncData} {N ps : List Str} {k : Nat} {sp : Sp} (F : Fun K x qual st f fd) (S : FnScope N ps (defScope st)) (len : ∀ vs H Q E, sp vs H Q E → vs.length = ps.length)
    (hbody : ∀ (cdv : Value) (A : Around) (outer : List Env) (s : Shared) (H : Hp) (vs : List V) (Q : VK) (E : XK), Room k (A.deeper (envOfC qual (defScope st) s.heap.objs.size f cdv)) → sp vs H Q E →
      ∃ t, PSs (cxOf CX0 P w K mg base N qual (defScope st) f cdv A outer s H E).nox (defBody st) t ∧ t { nx := fun _ H' => Q .non H', rt := Q } (start N vs) H) : FnOk P w K mg base CX0 (k + 1) f fd ps sp := by
  obtain ⟨oc, od, kV, doc, pm, an, cdv, ct, osl, rfl, lk, hcd⟩ := F.ex
  refine fn_of lk hcd S len fun A outer s H vs Q E hr hsp => ?_
  obtain ⟨t, h, q⟩ := hbody cdv A outer s H vs Q E hr hsp
  exact ⟨t, h.nox, q⟩
theorem Fun.binds {x qual : Str} {st : Stmt} {f : Addr} {fd : FuncData} {ps : List Str} (F : Fun K x qual st f fd)
    (h : ∀ (kV doc pm : Value) (an : Option Addr) (cdv ct : Value) (us : List Value), us.length = ps.length → bindArgs (PySem.W.fnOf x qual (defArgs st) (defBody st) (defScope st) .none kV doc pm an cdv ct) ⟨us, []⟩ = pure (ps.zip us)) : Binds K fd ps [] := by
  obtain ⟨oc, od, kV, doc, pm, an, cdv, ct, osl, rfl, lk, hcd⟩ := F.ex
  exact .all (h kV doc pm an cdv ct)
theorem fun_mk {x qual : Str} {st : Stmt} {f : Addr} {oc : Value} {od an : Option Addr} {osl : Array (Option Value)} {kV doc pm cdv ct : Value} (l : K.lookup f = some ⟨oc, od, .func (PySem.W.fnOf x qual (defArgs st) (defBody st) (defScope st) .none kV doc pm an cdv ct), osl⟩)
    (c : PySem.W.codeIn K cdv qual = true) (k : PySem.W.keepIn K (.ref f) = true) : Fun K x qual st f (PySem.W.fnOf x qual (defArgs st) (defBody st) (defScope st) .none kV doc pm an cdv ct) := ⟨⟨oc, od, kV, doc, pm, an, cdv, ct, osl, rfl, l, c⟩, k⟩
end
theorem hu_of {A : Around} {k : Nat} (hr : Room k A) : A.units + 1 < cLine := Nat.lt_of_le_of_lt (Nat.add_le_add_left (by decide : 1 ≤ 64) _) hr.units
theorem small1000 {n : Nat} (h : n ≤ 1000) : n < sizeLine := Nat.lt_of_le_of_lt h (by decide)
section
variable {X : Cx}
theorem pv (i : Nat) {x : Str} {pos : Pos} (hN : X.N[i]? = some x := by rfl) (hv : Vis X.env.scope x := by first | exact Or.inl rfl | exact Or.inr (Or.inl rfl) | exact Or.inr (Or.inr rfl)) (hd : (x == ("__debug__" : Str)) = false := by decide)
    (hcd : (x == ("__classdict__" : Str)) = false := by decide) : PE X (.Name x pos) (tVar i) := pe_var hN hv hd hcd
end
theorem iteF {A B : Prop} (h : B) : if false = true then A else B := by
  rw [if_neg Bool.false_ne_true]
  exact h
theorem iteT {A B : Prop} (h : A) : if true = true then A else B := by
  rw [if_pos rfl]
  exact h
theorem ite2 {c A B : Prop} [Decidable c] (h1 : c → A) (h2 : ¬ c → B) : if c then A else B := by
  by_cases h : c
  · rw [if_pos h]
    exact h1 h
  · rw [if_neg h]
    exact h2 h
theorem iteNS {c A B : Prop} [Decidable c] (hc : c) (h : B) : if (!decide c) = true then A else B := by
  rw [decide_eq_true hc]
  exact iteF h
def Same (H H' : Hp) : Prop := ∀ b o, H b = some o → H' b = some o
theorem Same.refl (H : Hp) : Same H H := fun _ _ h => h
theorem Same.trans {H H1 H2 : Hp} (a : Same H H1) (b : Same H1 H2) : Same H H2 := fun c o h => b c o (a c o h)
theorem Same.free {H H' : Hp} (e : Same H H') {l : Addr} (h : H' l = Option.none) : H l = Option.none := by
  cases q : H l with
  | none => rfl
  | some o =>
    rw [e l o q] at h
    cases h
theorem Same.seq {K : PySem.W.Frag} {H H' : Hp} {a : Addr} {xs : List V} (e : Same H H') (h : SqL K H a xs) : SqL K H' a xs := by
  rcases h with (h | ⟨o, h⟩) | h
  · exact .inl (.inl (e _ _ h))
  · exact .inl (.inr ⟨o, e _ _ h⟩)
  · exact .inr h
section
variable {κ : Type} [DecidableEq κ]
end
end L2
set_option maxHeartbeats 4000000
namespace L2
open PySem PySem.Spec PyProof.Rows
theorem lc_loop {prog : Program} {w : World} {A : Around} {R : Result → Shared → Prop} {s : Shared} {elt target iter : Expr} {ifs : List Expr} {scope : Scope} {pos : Pos} {it acc : Value} {env : Env} (I : Nat → Shared → Prop)
    (turn : ∀ n s, I n s → wpAny (model prog w) A (pyNext it) (fun r s₁ => match r with
      | none => R (.ok .next) s₁
      | some v => wpAny (model prog w) A (letOwnedTupleGo target it v) (fun _ s₁' => wpAny (model prog w) A (assign target env v) (fun _ s₂ =>
          wpAny (model prog w) A (forIn ifs true fun c r => if r = true then do let ok ← isTrue c env (eval c env); pure (ForInStep.yield ok) else pure (ForInStep.yield r)) (fun ok s₃ =>
            if ok = true then wpAny (model prog w) A (eval elt env) (fun x s₄ =>
              wpAny (model prog w) A (call (.builtin "list.append") [acc, x]) (fun _ s₅ => ∃ m, m < n ∧ I m s₅) (fun _ _ => False) s₄) (fun _ _ => False) s₃
            else ∃ m, m < n ∧ I m s₃) (fun _ _ => False) s₂) (fun _ _ => False) s₁') (fun _ _ => False) s₁) (fun _ _ => False) s)
    (n : Nat) (h : I n s) :
    codeAny (model prog w) A (.compLoop (.ListComp elt [⟨target, iter, ifs, 0⟩] scope pos) 0 it acc env) R s := by
  refine codeAny_loop rfl I (fun n s hI => ?_) n h
  show wpAny _ A ((compTurn (.ListComp elt [⟨target, iter, ifs, 0⟩] scope pos) 0 it acc env).onRaise (fun x => do noteFrame x env; theTreesLotGoes x)) _ _ s
  refine wpAny_noted ?_
  rw [compTurn_list]
  have no : ∀ {E : Value → Shared → Prop} (x : Value) (s : Shared), False → E x s := fun _ _ z => z.elim
  refine wpAny_bind (wpAny_standAt (wpAny_bind (wpAny_mono (turn n s hI) (fun r s₁ h₁ => ?_) no)))
  cases r with
  | none => exact wpAny_pure h₁
  | some v =>
    refine wpAny_bind (wpAny_mono h₁ (fun _ s₁' h₁' => ?_) no)
    refine wpAny_bind (wpAny_mono h₁' (fun _ s₂ h₂ => wpAny_bind (wpAny_mono h₂ (fun ok s₃ h₃ => ?_) no)) no)
    cases ok with
    | false => exact wpAny_pure ⟨rfl, h₃⟩
    | true =>
      exact wpAny_bind (wpAny_bind (wpAny_mono h₃ (fun x s₄ h₄ => wpAny_bind (wpAny_mono h₄ (fun _ s₅ h₅ => wpAny_pure (wpAny_pure ⟨rfl, h₅⟩)) no)) no))
def capCells (env : Env) : List (Str × NameKind) → List (Str × Addr) → List (Str × Addr)
  | [], acc => acc
  | (n, k) :: r, acc => if k = .free then capCells env r (match env.cells.lookup n with | some c => (n, c) :: acc | none => acc) else capCells env r acc
theorem closure_cap {env : Env} {scope : Scope} (h : ∀ x ∈ scope.names, x.2 = .free → ∃ c, env.cells.lookup x.1 = some c) : closureFor scope env = pure (capCells env scope.names []) := by
  have all : ∀ (l : List (Str × NameKind)) (acc : List (Str × Addr)), (∀ x ∈ l, x.2 = NameKind.free → ∃ c, env.cells.lookup x.1 = some c) →
      (forIn l acc fun x cs => (do
        if x.2 == NameKind.free then
          let a ← cellOf env x.1
          pure (ForInStep.yield ((x.1, a) :: cs))
        else pure (ForInStep.yield cs) : Sem _)) = pure (capCells env l acc) := by
    intro l
    induction l with
    | nil => intro acc _; rfl
    | cons x r ih =>
      intro acc hl
      obtain ⟨n, k⟩ := x
      have hr := fun y hy => hl y (List.mem_cons_of_mem _ hy)
      rw [List.forIn_cons]
      by_cases hk : k = .free
      · subst hk
        obtain ⟨c, hc⟩ := hl (n, .free) List.mem_cons_self rfl
        simp only [beq_self_eq_true, if_true, capCells]
        have e : cellOf env n = pure c := by unfold cellOf; rw [show env.cells.lookup n = some c from hc]
        rw [e]
        simp only [pure_bind]
        rw [ih _ hr, show env.cells.lookup n = some c from hc]
      · have hb : (k == NameKind.free) = false := by simpa using hk
        simp only [hb, Bool.false_eq_true, if_false, capCells, if_neg hk, pure_bind]
        exact ih _ hr
  unfold closureFor
  exact (congrArg (fun t : Sem (List (Str × Addr)) => t >>= pure) (all scope.names [] h)).trans (by simp)
theorem capCells_sub {env : Env} : ∀ (l : List (Str × NameKind)) (acc : List (Str × Addr)), (∀ n c, acc.lookup n = some c → env.cells.lookup n = some c) → ∀ n c, (capCells env l acc).lookup n = some c → env.cells.lookup n = some c
  | [], acc, h, n, c, e => h n c e
  | (m, k) :: r, acc, h, n, c, e => by
    unfold capCells at e
    split at e
    · refine capCells_sub r _ ?_ n c e
      intro n' c' e'
      split at e'
      · rename_i c0 hc0
        rw [List.lookup_cons] at e'
        split at e'
        · rename_i hb
          have : n' = m := by simpa using hb
          subst this
          cases e'
          exact hc0
        · exact h n' c' e'
      · exact h n' c' e'
    · exact capCells_sub r _ h n c e
theorem capCells_acc {env : Env} {n : Str} : ∀ (l : List (Str × NameKind)) (acc : List (Str × Addr)), (∃ c, acc.lookup n = some c) → ∃ c, (capCells env l acc).lookup n = some c
  | [], acc, h => h
  | (m, k) :: r, acc, h => by
    unfold capCells
    split
    · refine capCells_acc r _ ?_
      obtain ⟨c, hc⟩ := h
      split
      · rw [List.lookup_cons]
        split
        · exact ⟨_, rfl⟩
        · exact ⟨c, hc⟩
      · exact ⟨c, hc⟩
    · exact capCells_acc r _ h
theorem capCells_has {env : Env} {n : Str} (hc : ∃ c, env.cells.lookup n = some c) : ∀ (l : List (Str × NameKind)) (acc : List (Str × Addr)), (n, NameKind.free) ∈ l → ∃ c, (capCells env l acc).lookup n = some c
  | [], _, h => by cases h
  | (m, k) :: r, acc, h => by
    obtain ⟨c, hc⟩ := hc
    unfold capCells
    rcases List.mem_cons.mp h with e | h
    · cases e
      rw [if_pos rfl, hc]
      exact capCells_acc r _ ⟨c, by simp⟩
    · split
      · exact capCells_has ⟨c, hc⟩ r _ h
      · exact capCells_has ⟨c, hc⟩ r _ h
def Cx.comp (X : Cx) (N : List Str) (scope : Scope) (fp : List Addr) (s : Shared) (H : Hp) : Cx where
  prog := X.prog
  w := X.w
  K := X.K
  mg := X.mg
  base := X.base
  A := X.A
  N := N
  s₀ := s
  H₀ := H
  env := compEnvC scope (capCells X.env scope.names []) (s.heap.objs.size + 1) X.env
  outer := X.stack
  stack := X.stack
  ex := fp
  calm := X.calm
  fn := fun _ => false
  pn := []
  xe := fun _ _ => False
def capSt (k : Nat) (ix : List Nat) (σ : St) : St := List.replicate k none ++ ix.map fun j => (σ[j]?).join
structure LcScope (N : List Str) (sc : Scope) (scope : Scope) (own : List Str) (ix : List Nat) : Prop where
  kind : scope.kind = .function
  nocell : ∀ y ∈ scope.names, y.2 ≠ .cell
  names : ∀ y ∈ scope.names, y.2 = .local → scope.names.lookup y.1 = some .local
  free : ∀ y ∈ scope.names, y.2 = .free → sc.names.lookup y.1 = some .cell ∨ sc.names.lookup y.1 = some .free
  cap : ∀ j ∈ ix, ∀ x, N[j]? = some x → (x, NameKind.free) ∈ scope.names ∧ (scope.names.lookup x = some .free)
  inN : ∀ j ∈ ix, j < N.length
abbrev lcN (N own : List Str) (ix : List Nat) : List Str := own ++ ix.filterMap fun j => N[j]?
theorem lcN_len {N own : List Str} {ix : List Nat} (h : ∀ j ∈ ix, j < N.length) : (lcN N own ix).length = own.length + ix.length := by
  unfold lcN
  rw [List.length_append]
  congr 1
  induction ix with
  | nil => rfl
  | cons j r ih =>
    have hj : j < N.length := h j List.mem_cons_self
    rw [List.filterMap_cons, List.getElem?_eq_getElem hj]
    show _ + 1 = _ + 1
    rw [ih fun i hi => h i (List.mem_cons_of_mem _ hi)]
theorem filterMap_get {N : List Str} : ∀ {ix : List Nat}, (∀ j ∈ ix, j < N.length) → ∀ {i : Nat} {x : Str}, (ix.filterMap fun j => N[j]?)[i]? = some x → ∃ j, ix[i]? = some j ∧ N[j]? = some x
  | [], _, i, x, e => by simp at e
  | j :: r, h, i, x, e => by
    have hj : j < N.length := h j List.mem_cons_self
    rw [List.filterMap_cons, List.getElem?_eq_getElem hj] at e
    cases i with
    | zero =>
      refine ⟨j, rfl, ?_⟩
      rw [List.getElem?_eq_getElem hj]
      exact e
    | succ i =>
      obtain ⟨j', e1, e2⟩ := filterMap_get (fun i hi => h i (List.mem_cons_of_mem _ hi)) (i := i) (x := x) (by simpa using e)
      exact ⟨j', by simpa using e1, e2⟩
theorem capSt_get {k : Nat} {ix : List Nat} {σ : St} {i : Nat} {v : V} (h : (capSt k ix σ)[i]? = some (some v)) : ∃ i' j, i = k + i' ∧ ix[i']? = some j ∧ σ[j]? = some (some v) := by
  unfold capSt at h
  by_cases hi : i < k
  · rw [List.getElem?_append_left (by simpa using hi), List.getElem?_replicate, if_pos hi] at h
    cases h
  · rw [List.getElem?_append_right (by simpa using hi), List.length_replicate, List.getElem?_map] at h
    refine ⟨i - k, ?_⟩
    cases e : ix[i - k]? with
    | none => rw [e] at h; cases h
    | some j =>
      rw [e] at h
      refine ⟨j, by omega, rfl, ?_⟩
      have h' : (σ[j]?).join = some v := by simpa using h
      cases q : σ[j]? with
      | none => rw [q] at h'; cases h'
      | some o =>
        rw [q] at h'
        exact congrArg some h'
theorem lookup_relabel_free {env : Env} {x : Str} : ∀ {names : List (Str × NameKind)}, names.lookup x = some .free →
    (names.map fun (n, k) => if (k == NameKind.free && env.scope.kind == .function && env.kindOf n == some .cell) then (n, NameKind.cell) else (n, k)).lookup x = some .cell ∨
    (names.map fun (n, k) => if (k == NameKind.free && env.scope.kind == .function && env.kindOf n == some .cell) then (n, NameKind.cell) else (n, k)).lookup x = some .free
  | [], h => by simp at h
  | (n, k) :: r, h => by
    have ih := @lookup_relabel_free env x r
    rw [List.map_cons]
    show List.lookup x ((if (k == NameKind.free && env.scope.kind == .function && env.kindOf n == some .cell) = true then (n, NameKind.cell) else (n, k)) :: _) = _ ∨ List.lookup x ((if (k == NameKind.free && env.scope.kind == .function && env.kindOf n == some .cell) = true then (n, NameKind.cell) else (n, k)) :: _) = _
    cases hx : x == n with
    | true =>
      simp only [List.lookup_cons, hx] at h
      cases h
      by_cases hc : (NameKind.free == NameKind.free && env.scope.kind == .function && env.kindOf n == some .cell) = true
      · rw [if_pos hc]; left; simp only [List.lookup_cons, hx]
      · rw [if_neg hc]; right; simp only [List.lookup_cons, hx]
    | false =>
      simp only [List.lookup_cons, hx] at h
      by_cases hc : (k == NameKind.free && env.scope.kind == .function && env.kindOf n == some .cell) = true
      · rw [if_pos hc]; simp only [List.lookup_cons, hx]; exact ih h
      · rw [if_neg hc]; simp only [List.lookup_cons, hx]; exact ih h
theorem relabel_kind_of {env : Env} {x : Str} {kd : NameKind} : ∀ {names : List (Str × NameKind)},
    (names.map fun (n, k) => if (k == NameKind.free && env.scope.kind == .function && env.kindOf n == some .cell) then (n, NameKind.cell) else (n, k)).lookup x = some kd → (kd = .cell ∨ kd = .free) → (∀ y ∈ names, y.2 ≠ .cell) →
    (x, NameKind.free) ∈ names
  | [], h, _, _ => by simp at h
  | (n, k) :: r, h, hk, hc => by
    have ih := @relabel_kind_of env x kd r
    rw [List.map_cons] at h
    have hcr : ∀ y ∈ r, y.2 ≠ .cell := fun y hy => hc y (List.mem_cons_of_mem _ hy)
    by_cases hf : k = .free
    · subst hf
      cases hx : x == n with
      | true =>
        have : x = n := by simpa using hx
        subst this
        exact List.mem_cons_self
      | false =>
        refine List.mem_cons_of_mem _ (ih ?_ hk hcr)
        by_cases hcc : (NameKind.free == NameKind.free && env.scope.kind == .function && env.kindOf n == some .cell) = true
        · have h2 : List.lookup x ((if (NameKind.free == NameKind.free && env.scope.kind == .function && env.kindOf n == some .cell) = true then (n, NameKind.cell) else (n, NameKind.free)) :: r.map fun (n, k) => if (k == NameKind.free && env.scope.kind == .function && env.kindOf n == some .cell) then (n, NameKind.cell) else (n, k)) = some kd := h
          rw [if_pos hcc, List.lookup_cons, hx] at h2
          exact h2
        · have h2 : List.lookup x ((if (NameKind.free == NameKind.free && env.scope.kind == .function && env.kindOf n == some .cell) = true then (n, NameKind.cell) else (n, NameKind.free)) :: r.map fun (n, k) => if (k == NameKind.free && env.scope.kind == .function && env.kindOf n == some .cell) then (n, NameKind.cell) else (n, k)) = some kd := h
          rw [if_neg hcc, List.lookup_cons, hx] at h2
          exact h2
    · have hb : (k == NameKind.free) = false := by simpa using hf
      have h2 : List.lookup x ((if (k == NameKind.free && env.scope.kind == .function && env.kindOf n == some .cell) = true then (n, NameKind.cell) else (n, k)) :: r.map fun (n, k) => if (k == NameKind.free && env.scope.kind == .function && env.kindOf n == some .cell) then (n, NameKind.cell) else (n, k)) = some kd := h
      rw [hb, Bool.false_and, Bool.false_and, if_neg Bool.false_ne_true, List.lookup_cons] at h2
      cases hx : x == n with
      | true =>
        rw [hx] at h2
        cases h2
        rcases hk with z | z
        · exact absurd z (hc (n, _) List.mem_cons_self)
        · exact absurd z hf
      | false =>
        rw [hx] at h2
        exact List.mem_cons_of_mem _ (ih h2 hk hcr)
end L2
set_option maxHeartbeats 4000000
namespace L2
open PySem PySem.Spec PyProof.Rows
theorem nlt {a b : Nat} (h : a < b) : a ≠ b := Nat.ne_of_lt h
theorem ngt {a b : Nat} (h : a < b) : b ≠ a := Nat.ne_of_gt h
theorem nlt1 {a b : Nat} (h : a < b) : a ≠ b + 1 := Nat.ne_of_lt (Nat.lt_succ_of_lt h)
theorem ngt1 {a b : Nat} (h : a < b) : b + 1 ≠ a := Nat.ne_of_gt (Nat.lt_succ_of_lt h)
theorem nss (a : Nat) : a ≠ a + 1 := Nat.ne_of_lt (Nat.lt_succ_self a)
theorem nss' (a : Nat) : a + 1 ≠ a := Nat.ne_of_gt (Nat.lt_succ_self a)
section
variable {X : Cx} {pins : List (Addr × Obj)} {σ : St} {H : Hp} {s : Shared} {scope : Scope} {own : List Str} {ix : List Nat} {fp : List Addr}
theorem Inv.compOk {N : List Str} (I : Inv X pins σ H s) (L : LcScope X.N X.env.scope scope own ix) (hf : ∀ b ∈ fp, FpOk X pins H b) (hlt : ∀ b ∈ fp, b < s.heap.objs.size) : (X.comp N scope fp s H).Ok where
  mod := I.ok.mod
  kind := L.kind
  glob := I.ok.glob
  blt := I.ok.blt
  above := Nat.le_succ _
  inj := fun x y c h1 h2 => I.ok.inj x y c (capCells_sub _ _ (fun _ _ z => by simp at z) x c h1) (capCells_sub _ _ (fun _ _ z => by simp at z) y c h2)
  has := fun x hx => by
    have hm : (x, NameKind.free) ∈ scope.names := by
      rcases hx with hx | hx
      · exact relabel_kind_of (env := X.env) (x := x) (names := scope.names) hx (.inl rfl) L.nocell
      · exact relabel_kind_of (env := X.env) (x := x) (names := scope.names) hx (.inr rfl) L.nocell
    exact capCells_has (I.ok.has x (L.free _ hm rfl)) _ _ hm
  cab := fun x c h => by cases h
  hd := I.ok.hd
  frames := I.ok.frames
  stk := .inl rfl
  exf := fun b hb => ⟨nlt1 (hlt b hb), fun x c e => (hf b hb).2.2.2.2.1 x c (capCells_sub _ _ (fun _ _ z => by simp at z) x c e)⟩
  bs := I.bs
  bsz := Nat.le_trans I.ok.bsz I.sz
  noex := fun b o e hb => by
    rcases (hf b hb).2.2.2.1 with z | z
    · exact I.ok.noex b o e z
    · exact absurd (Nat.lt_of_lt_of_le (Heap.lt_size e) (Nat.le_trans I.ok.bsz z)) (Nat.lt_irrefl _)
  exfs := fun b hb z => by
    rcases List.mem_cons.mp (I.stkSub b z) with e | e
    · exact (hf b hb).2.1 e
    · exact (hf b hb).2.2.1 e
  funs := I.stack
  frf := I.stkFree
theorem Inv.compStart {h1 : Heap} {tk : Nat} (I : Inv X pins σ H s) (L : LcScope X.N X.env.scope scope own ix) (hf : ∀ b ∈ fp, FpOk X pins H b) (hlt : ∀ b ∈ fp, b < s.heap.objs.size)
    (k : ∀ b o, s.heap.get? b = some o → h1.get? b = some o) {m : Str → Option Value} (hn : h1.Ns (s.heap.objs.size + 1) m) :
    Inv (X.comp (lcN X.N own ix) scope fp s H) [] (capSt own.length ix σ) H { s with heap := h1, toks := tk } := by
  have sub := fun x c => capCells_sub (env := X.env) scope.names [] (fun _ _ z => by simp at z) x c
  refine ⟨I.compOk L hf hlt, rfl, I.bare, Un.kept k, ⟨m, hn, fun i x v e1 e2 e3 => ?_⟩, fun x c e => ?_, I.hok.fresh (Nat.le_succ _), fun x c e => I.freeC x c (sub x c e), fun p hp => absurd (show p ∈ ([] : List (Addr × Obj)) from hp) (by simp), I.hok.kept k, ?_⟩
  · obtain ⟨i', j, rfl, hj, hv⟩ := capSt_get e2
    have e1' : (lcN X.N own ix)[own.length + i']? = some x := e1
    unfold lcN at e1'
    rw [List.getElem?_append_right (Nat.le_add_right _ _), Nat.add_sub_cancel_left] at e1'
    obtain ⟨j', hj', hN⟩ := filterMap_get L.inN e1'
    rw [hj] at hj'
    cases hj'
    have hjm : j ∈ ix := List.mem_of_getElem? hj
    obtain ⟨hmem, hlk⟩ := L.cap j hjm x hN
    have hkind := L.free _ hmem rfl
    obtain ⟨m0, hn0, hl0⟩ := I.loc
    obtain ⟨u, r, l⟩ := hl0 j x v hN hv (by rcases hkind with z | z; exact .inr (.inl z); exact .inr (.inr z))
    refine ⟨u, r, .inr ⟨?_, ?_⟩⟩
    · exact lookup_relabel_free (env := X.env) hlk
    · rcases l with ⟨kl, _⟩ | ⟨_, c, hc, hcell⟩
      · have kl' : X.env.scope.names.lookup x = some .local := kl
        rcases hkind with z | z
        · rw [kl'] at z; cases z
        · rw [kl'] at z; cases z
      · obtain ⟨c', hc'⟩ := capCells_has (env := X.env) ⟨c, hc⟩ scope.names [] hmem
        have : c' = c := by
          have q := sub x c' hc'
          rw [hc] at q
          exact (Option.some.inj q).symm
        subst this
        obtain ⟨o, ho, hd⟩ := hcell
        exact ⟨c', hc', o, k _ _ ho, hd⟩
  · obtain ⟨v, o, ho, hd⟩ := I.cell x c (sub x c e)
    exact ⟨v, o, k _ _ ho, hd⟩
  · show (capSt own.length ix σ).length = (lcN X.N own ix).length
    rw [lcN_len L.inN]
    unfold capSt
    rw [List.length_append, List.length_replicate, List.length_map]
def GW (k : Nat) (g : TG) : Prop := ∀ x (σ : St) H (Q : St → Hp → Prop), g x σ H Q → g x σ H fun σ2 H2 => Q σ2 H2 ∧ σ2.length = σ.length ∧ ∀ j, k ≤ j → σ2[j]? = σ[j]?
theorem gw_name {k i : Nat} (h : i < k) : GW k (gName i) := fun x σ H Q q => ⟨q, by simp, fun j hj => by rw [List.getElem?_set_ne (by omega)]⟩
def GWs (k : Nat) (g : TGs) : Prop := ∀ x (σ : St) H (Q : St → Hp → Prop), g x σ H Q → g x σ H fun σ2 H2 => Q σ2 H2 ∧ σ2.length = σ.length ∧ ∀ j, k ≤ j → σ2[j]? = σ[j]?
def GM (g : TG) : Prop := ∀ x (σ : St) H (Q Q' : St → Hp → Prop), (∀ s h, Q s h → Q' s h) → g x σ H Q → g x σ H Q'
theorem gm_name {i : Nat} : GM (gName i) := fun _ _ _ _ _ h q => h _ _ q
theorem gws_nil {k : Nat} : GWs k gNil := fun x σ H Q q => ⟨q.1, q.2, rfl, fun _ _ => rfl⟩
theorem gws_cons {k : Nat} {t : TG} {u : TGs} (ht : GW k t) (hu : GWs k u) (mt : GM t) (mu : ∀ x (σ : St) H (Q Q' : St → Hp → Prop), (∀ s h, Q s h → Q' s h) → u x σ H Q → u x σ H Q') : GWs k (gCons t u) := fun x σ H Q q => by
  obtain ⟨v, r, e, q⟩ := q
  refine ⟨v, r, e, mt _ _ _ _ _ ?_ (ht _ _ _ _ q)⟩
  rintro σ1 H1 ⟨q1, l1, j1⟩
  refine mu _ _ _ _ _ ?_ (hu _ _ _ _ q1)
  rintro σ2 H2 ⟨q2, l2, j2⟩
  exact ⟨q2, l2.trans l1, fun j hj => (j2 j hj).trans (j1 j hj)⟩
theorem gms_nil : ∀ x (σ : St) H (Q Q' : St → Hp → Prop), (∀ s h, Q s h → Q' s h) → gNil x σ H Q → gNil x σ H Q' := fun _ _ _ _ _ h q => ⟨q.1, h _ _ q.2⟩
theorem gms_cons {t : TG} {u : TGs} (mt : GM t) (mu : ∀ x (σ : St) H (Q Q' : St → Hp → Prop), (∀ s h, Q s h → Q' s h) → u x σ H Q → u x σ H Q') : ∀ x (σ : St) H (Q Q' : St → Hp → Prop), (∀ s h, Q s h → Q' s h) → gCons t u x σ H Q → gCons t u x σ H Q' :=
  fun _ _ _ _ _ h ⟨v, r, e, q⟩ => ⟨v, r, e, mt _ _ _ _ _ (fun _ _ q1 => mu _ _ _ _ _ h q1) q⟩
theorem gw_tup {k : Nat} {K : PySem.W.Frag} {n : Nat} {t : TGs} (ht : GWs k t) : GW k (gTup K n t) := fun x σ H Q q => by
  obtain ⟨a, xs, e, hq, hl, q⟩ := q
  exact ⟨a, xs, e, hq, hl, ht _ _ _ _ q⟩
theorem gw_two {K : PySem.W.Frag} {i j k : Nat} (hi : i < k) (hj : j < k) : GW k (gTup K 2 (gCons (gName i) (gCons (gName j) gNil))) :=
  gw_tup (gws_cons (gw_name hi) (gws_cons (gw_name hj) gws_nil gm_name gms_nil) gm_name (gms_cons gm_name gms_nil))
def PIf (X : Cx) (ifs : List Expr) (t : TT) : Prop :=
  ∀ (pins : List (Addr × Obj)) (s : Shared) (σ : St) (H : Hp) (Q : Bool → Hp → Prop), Inv X pins σ H s → t σ H Q →
    wpAny (model X.prog X.w) X.A (forIn ifs true fun c r => if r = true then do let ok ← isTrue c X.env (eval c X.env); pure (ForInStep.yield ok) else pure (ForInStep.yield r)) (TP X pins σ Q) X.xe s
def tYes : TT := fun _ H Q => Q true H
theorem pif_nil : PIf X [] tYes := fun _ _ _ H _ I h => wpAny_tests_nil ⟨H, I, h⟩
def rLC (J : It) (k : Nat) (ix : List Nat) (g : TG) (tt : TT) (te : TE) (σ : St) (H1 : Hp) (Q : List V → Hp → Prop) : Prop :=
  ∃ W : Nat → Nat → List V → Hp → Prop, (∃ m, W 0 m [] H1) ∧ ∀ i m ys H, W i m ys H →
    (J.stop i H ∧ Q ys H) ∨
    (J.go i H ∧ ∃ N : List V → Hp → Prop, (∀ ys' H', N ys' H' → ∃ m', m' < m ∧ W (i + 1) m' ys' H') ∧ ∀ x H', J.yld i H x H' → g x (capSt k ix σ) H' fun σ2 H2 => tt σ2 H2 fun c H3 =>
      if c = true then te σ2 H3 fun y H4 => ys.length < sizeLine ∧ N (ys ++ [y]) H4
      else N ys H3)
theorem lc_block {elt tg iter : Expr} {ifs : List Expr} {pos : Pos} {it : Addr} {tn : Nat → Heap → Prop} {J : It} {g : TG} {tt : TT} {te : TE} {E : Value → Shared → Prop} {Qf : List V → Hp → Prop} {RR : Value → Addr → Result → Shared → Prop}
    (L : LcScope X.N X.env.scope scope own ix) (hc : X.calm = true) (hg : ∀ fp s H, PG (X.comp (lcN X.N own ix) scope fp s H) tg g) (gw : GW own.length g)
    (ht : ∀ fp s H, PIf (X.comp (lcN X.N own ix) scope fp s H) ifs tt) (he : ∀ fp s H, PE (X.comp (lcN X.N own ix) scope fp s H) elt te)
    (I : Inv X pins σ H s) (T : Turn X.prog X.w X.K tg J fp it tn) (st : tn 0 s.heap) (hf : ∀ b ∈ fp, FpOk X pins H b)
    (hw : rLC J own.length ix g tt te σ H Qf)
    (hRR : ∀ (D C : Addr) (s' : Shared) (ys : List V) (H' : Hp) (m : Str → Option Value), s'.heap.Ns C m → C ≠ X.env.locals → (∀ x c, X.env.cells.lookup x = some c → c ≠ C) → X.s₀.heap.objs.size ≤ C → (∀ p ∈ X.pn ++ pins, p.1 ≠ C) → upd H' D (.lst ys) C = none → H' D = none →
      Inv X pins σ (upd H' D (.lst ys)) s' → Qf ys H' → RR (.ref D) C (.ok .next) s') :
    wpAny (model X.prog X.w) X.A (newList []) (fun acc s₃ => wpAny (model X.prog X.w) X.A (newFunctionEnv scope X.env.globals (capCells X.env scope.names []) [] X.env.qual none .none (some X.env)) (fun cenv s₄ =>
      codeAny (model X.prog X.w) X.A (.compStart (.ListComp elt [⟨tg, iter, ifs, 0⟩] scope pos) 0 (.ref it) acc { cenv with scope := relabel scope X.env }) (RR acc cenv.locals) s₄) E s₃) E s := by
  obtain ⟨W, ⟨m0, w0⟩, turn⟩ := hw
  have hlt : ∀ b ∈ fp, b < s.heap.objs.size := fun b hb => by
    obtain ⟨o, e, _⟩ := T.obj 0 s.heap st b hb
    exact Heap.lt_size e
  refine wpAny_newObj_type (wpAny_newFunctionEnv L.nocell (by intro y hy; simp at hy) (fun h₁ hns₁ hsb₁ => ?_) L.kind)
  dsimp only at hns₁ hsb₁ ⊢
  generalize hH2 : s.heap.push { cls := .type "list", dict := none, data := .seq ([] : List Value).toArray } = h2 at hns₁ hsb₁ ⊢
  have hC : h2.objs.size = s.heap.objs.size + 1 := by rw [← hH2, Heap.size_push]
  have old : ∀ b o, s.heap.get? b = some o → h₁.get? b = some o := fun b o e => by
    exact hsb₁.extBut b o (by rw [hC]; exact nlt1 (Heap.lt_size e)) (Heap.get?_push_of_some _ (hH2 ▸ Heap.get?_push_of_some _ e))
  have hacc : h₁.PlainList s.heap.objs.size #[] := ⟨_, hsb₁.extBut _ _ (by rw [hC]; exact nss _) (Heap.get?_push_of_some _ (hH2 ▸ Heap.get?_push_size _ rfl))⟩
  have hD0 : H s.heap.objs.size = none := I.hok.fresh (Nat.le_refl _)
  rw [hC] at hns₁
  have I0 := I.compStart (tk := s.toks + ([] : List (Str × Value)).length) L hf hlt old hns₁
  have sub := fun x c => capCells_sub (env := X.env) scope.names [] (fun _ _ z => by simp at z) x c
  have cellLt : ∀ x c, X.env.cells.lookup x = some c → c < s.heap.objs.size := fun x c e => by
    obtain ⟨v, q⟩ := I.cell x c e
    exact q.lt
  have stkLt : ∀ b ∈ frs X.stack, b < s.heap.objs.size := fun b hb => by
    obtain ⟨_, o, ho, _⟩ := I.stack.mem hb
    exact Heap.lt_size ho
  have env_eq : ({ newEnv scope h2.objs.size X.env.globals (capCells X.env scope.names []) X.env.qual none .none (some X.env) builtinsNs with scope := relabel scope X.env } : Env) = (X.comp (lcN X.N own ix) scope fp s H).env := by
    show compEnvC scope (capCells X.env scope.names []) h2.objs.size X.env = compEnvC scope (capCells X.env scope.names []) (s.heap.objs.size + 1) X.env
    rw [hC]
  -- the loop
  have loop : codeAny (model X.prog X.w) X.A (.compLoop (.ListComp elt [⟨tg, iter, ifs, 0⟩] scope pos) 0 (.ref it) (.ref s.heap.objs.size) (X.comp (lcN X.N own ix) scope fp s H).env) (RR (.ref s.heap.objs.size) (s.heap.objs.size + 1))
      { s with heap := h₁, toks := s.toks + ([] : List (Str × Value)).length } := by
    refine lc_loop (fun n s' => ∃ i ys H', Inv (X.comp (lcN X.N own ix) scope fp s H) [] (capSt own.length ix σ) H' s' ∧ tn i s'.heap ∧ (∀ b ∈ fp, H' b = none) ∧ H' s.heap.objs.size = none ∧
      (∃ its : List Value, Vals ys its ∧ s'.heap.PlainList s.heap.objs.size its.toArray) ∧ ys.length ≤ sizeLine ∧ W i n ys H') ?_ m0
      ⟨0, [], H, I0, T.keep _ _ _ st (fun b _ o e => old b o e), fun b hb => (hf b hb).1, hD0, ⟨[], .nil, hacc⟩, Nat.zero_le _, w0⟩
    rintro n s3 ⟨i, ys, H3, I3, st3, fr3, d3, ⟨its, rv, n3, hp3⟩, hz, w3⟩
    -- the list's own object is pinned
    have Ip := I3.pins_of (pins' := [(s.heap.objs.size, { cls := .type "list", data := .seq its.toArray n3 })]) (fun p hp => by
      have e : p = (s.heap.objs.size, { cls := .type "list", data := .seq its.toArray n3 }) := by simpa using hp
      subst e
      exact ⟨hp3, d3, nss _, fun z => absurd (stkLt _ z) (Nat.lt_irrefl _), fun v z => by cases z⟩)
    have stat : ∀ {H' : Hp}, (∀ b ∈ fp, H' b = none) → ∀ b ∈ fp, FpOk (X.comp (lcN X.N own ix) scope fp s H) [(s.heap.objs.size, { cls := .type "list", data := .seq its.toArray n3 })] H' b := fun hn b hb =>
      ⟨hn b hb, nlt1 (hlt b hb), I3.ok.exfs b hb, .inl hb, fun x c e => (I3.ok.exf b hb).2 x c e, fun p hp => by
        have e : p = (s.heap.objs.size, { cls := .type "list", data := .seq its.toArray n3 }) := by simpa using (show p ∈ ([] : List (Addr × Obj)) ++ [(s.heap.objs.size, { cls := .type "list", data := .seq its.toArray n3 })] from hp)
        subst e
        exact ngt (hlt b hb)⟩
    rcases turn i n ys H3 w3 with ⟨stop, qf⟩ | ⟨go, N, hN, step⟩
    · refine thn (T.done (X.comp (lcN X.N own ix) scope fp s H) rfl rfl rfl hc i _ s3 _ H3 _ Ip (stat fr3) st3 stop) fun r s4 ⟨hr, I4⟩ => ?_
      subst hr
      obtain ⟨e4, d4, _⟩ := I4.pin (s.heap.objs.size, { cls := .type "list", data := .seq its.toArray n3 }) (List.mem_append_right _ List.mem_cons_self)
      obtain ⟨mC, hnC, _⟩ := I4.loc
      -- the list is tracked now
      have hok : HOk X.prog X.w (upd H3 s.heap.objs.size (.lst ys)) s4.heap := fun b u e => by
        by_cases hb : b = s.heap.objs.size
        · subst hb
          rw [upd_same] at e
          cases e
          exact ⟨hz, its, n3, rv, e4⟩
        · rw [upd_ne hb] at e
          exact (I4.hok b u e).stay (fun c v _ q => q) (fun c q => by rw [upd_ne (ne_of_none q d4)]; exact q) fun c xs q => by rw [upd_ne (ne_of_none q d4)]; exact q
      have ub := I4.base
      have un : Un (frs X.stack) fp H (upd H3 s.heap.objs.size (.lst ys)) s.heap s4.heap :=
        ⟨ub.keep, ub.slot, fun b o e n hx => by rw [upd_ne (Nat.ne_of_lt (Heap.lt_size e))]; exact ub.free b o e n hx, ub.there,
          fun b xs e => by rw [upd_ne (ne_of_none (ub.tups b xs e) d4)]; exact ub.tups b xs e, fun b o u e => by rw [upd_ne (ne_of_none (ub.frzs b o u e) d4)]; exact ub.frzs b o u e,
          fun b ps e => by
            obtain ⟨more, q⟩ := ub.tbls b ps e
            exact ⟨more, by rw [upd_ne (ne_of_none q d4)]; exact q⟩⟩
      have I5 : Inv X pins σ (upd H3 s.heap.objs.size (.lst ys)) s4 := I.call' I4.os un hok I4.bare fun b hb => by
        obtain ⟨f0, f1, f2, f3, f4, f5⟩ := hf b hb
        exact ⟨f3, f1, f4, f5⟩
      refine hRR _ _ s4 ys H3 mC hnC ?_ ?_ ?_ ?_ ?_ d4 I5 qf
      · exact ngt1 I.lt
      · intro x c e
        exact nlt1 (cellLt x c e)
      · exact Nat.le_trans I.sz (Nat.le_succ _)
      · intro p hp
        exact nlt1 (Heap.lt_size (I.pin p hp).1)
      · rw [upd_ne (nss' _)]
        exact I4.free
    · refine thn (T.item (X.comp (lcN X.N own ix) scope fp s H) rfl rfl rfl hc i _ s3 _ H3 _ Ip (stat fr3) st3 go) fun r s4 ⟨u, hr, h4⟩ => ?_
      subst hr
      refine thn h4 fun _ s5 ⟨x, H5, I5, r5, y5, st5, fr5⟩ => ?_
      have I5' := I5.pinned (stat fr5) (T.obj _ _ st5)
      refine thn (hg fp s H _ s5 _ H5 x u _ I5' r5 (gw _ _ _ _ (step x H5 y5))) fun _ s6 ⟨σ6, H6, I6, q6, l6, k6⟩ => ?_
      refine thn (ht fp s H _ s6 σ6 H6 _ I6 q6) fun c s7 ⟨H7, I7, q7⟩ => ?_
      -- what holds of the list and the iterator whatever was done
      have again : ∀ {s8 : Shared} {H8 : Hp}, Inv (X.comp (lcN X.N own ix) scope fp s H) ([(s.heap.objs.size, { cls := .type "list", data := .seq its.toArray n3 })] ++ pinsAt fp s5.heap) σ6 H8 s8 →
          Inv (X.comp (lcN X.N own ix) scope fp s H) [] (capSt own.length ix σ) H8 s8 ∧ tn (i + 1) s8.heap ∧ (∀ b ∈ fp, H8 b = none) ∧ H8 s.heap.objs.size = none ∧ s8.heap.get? s.heap.objs.size = some { cls := .type "list", data := .seq its.toArray n3 } := fun {s8 H8} I8 => by
        obtain ⟨e8, d8, _⟩ := I8.pin (s.heap.objs.size, { cls := .type "list", data := .seq its.toArray n3 }) (List.mem_append_right _ (List.mem_append_left _ List.mem_cons_self))
        refine ⟨(I8.pins_of (pins' := []) fun p hp => by cases hp).weak l6.symm fun j v e => ?_, T.keep _ _ _ st5 fun b hb o e => (I8.pin (b, o) (List.mem_append_right _ (List.mem_append_right _ (mem_pinsAt hb e)))).1, fun b hb => ?_, d8, e8⟩
        · obtain ⟨i', j', rfl, _, _⟩ := capSt_get e
          rw [k6 _ (Nat.le_add_right _ _)]
          exact e
        · obtain ⟨o, e, d⟩ := T.obj _ _ st5 b hb
          exact (I8.pin (b, o) (List.mem_append_right _ (List.mem_append_right _ (mem_pinsAt hb e)))).2.1
      cases c with
      | false =>
        rw [if_neg Bool.false_ne_true] at q7 ⊢
        obtain ⟨m', hm, w7⟩ := hN _ _ q7
        obtain ⟨a1, a2, a3, a4, a5⟩ := again I7
        exact ⟨m', hm, i + 1, ys, H7, a1, a2, a3, a4, ⟨its, rv, n3, a5⟩, hz, w7⟩
      | true =>
        rw [if_pos rfl] at q7 ⊢
        refine thn (he fp s H _ s7 σ6 H7 _ I7 q7) fun v s8 ⟨y, H8, I8, r8, hz8, q8⟩ => ?_
        obtain ⟨m', hm, w8⟩ := hN _ _ q8
        obtain ⟨a1, a2, a3, a4, a5⟩ := again I8
        refine wpAny_list_append_plain (s := s8) (l := s.heap.objs.size) (items := its.toArray) ⟨n3, a5⟩ (fun h9 hl9 hs9 => ?_) (by have := rv.length; simp; omega)
        have I9 : Inv (X.comp (lcN X.N own ix) scope fp s H) [] (capSt own.length ix σ) H8 { s8 with heap := h9 } := a1.turned (t' := s8.toks) (it := s.heap.objs.size) (fun b o hb e => hs9.extBut b o hb e) a4 (nss _)
          (.inr (Nat.le_refl _)) (fun x c e => nlt (cellLt x c (sub x c e))) (fun p hp => absurd (show p ∈ ([] : List (Addr × Obj)) from hp) (by simp))
        refine ⟨m', hm, i + 1, ys ++ [y], H8, I9, T.keep _ _ _ a2 (fun b hb o e => hs9.extBut b o (nlt (hlt b hb)) e), a3, a4, ⟨its ++ [v], Vals.append rv (.cons r8 .nil), ?_⟩, ?_, w8⟩
        · have e : (its ++ [v]).toArray = its.toArray.push v := by simp
          rw [e]
          exact hl9
        · rw [List.length_append]
          show _ + 1 ≤ _
          omega
  show codeAny _ _ (.compStart _ 0 (.ref it) (.ref s.heap.objs.size) _) (RR (.ref s.heap.objs.size) h2.objs.size) _
  rw [hC]
  have e2 := env_eq
  rw [hC] at e2
  refine Eq.mpr (congrArg (fun e => codeAny (model X.prog X.w) X.A (.compStart (.ListComp elt [⟨tg, iter, ifs, 0⟩] scope pos) 0 (.ref it) (.ref s.heap.objs.size) e) (RR (.ref s.heap.objs.size) (s.heap.objs.size + 1)) { s with heap := h₁, toks := s.toks + ([] : List (Str × Value)).length }) e2) ?_
  exact codeAny_compStart_list loop (T.self X.A 0 _ _ _ (T.keep _ _ _ st fun b _ o e => old b o e) loop)
end
end L2
set_option maxHeartbeats 4000000
namespace L2
open PySem PySem.Spec PyProof.Rows
section
variable {X : Cx} {scope : Scope} {own : List Str} {ix : List Nat}
def tLC (wi : TI) (k : Nat) (ix : List Nat) (g : TG) (tt : TT) (te : TE) : TE := fun σ H Q => wi σ H fun J H1 => rLC J k ix g tt te σ H1 fun ys H' => ∀ a, H' a = none → Q (.ref a) (upd H' a (.lst ys))
theorem Inv.clos {pins : List (Addr × Obj)} {σ : St} {H : Hp} {s : Shared} (I : Inv X pins σ H s) (L : LcScope X.N X.env.scope scope own ix) : closureFor scope X.env = pure (capCells X.env scope.names []) :=
  closure_cap fun x hx hf => I.ok.has x.1 (L.free x hx hf)
theorem pe_lc {elt tg iter : Expr} {ifs : List Expr} {pos : Pos} {wi : TI} {g : TG} {tt : TT} {te : TE} (hi : PI X tg iter wi) (L : LcScope X.N X.env.scope scope own ix) (hc : X.calm = true)
    (hg : ∀ fp s H, PG (X.comp (lcN X.N own ix) scope fp s H) tg g) (gw : GW own.length g) (ht : ∀ fp s H, PIf (X.comp (lcN X.N own ix) scope fp s H) ifs tt) (he : ∀ fp s H, PE (X.comp (lcN X.N own ix) scope fp s H) elt te)
    (hs : ∀ x, foldedSetIterable iter X.env x = pure x := by intro _; rfl) : PE X (.ListComp elt [⟨tg, iter, ifs, 0⟩] scope pos) (tLC wi own.length ix g tt te) := by
  intro pins s σ H Q I h
  rw [eval_ListComp]
  refine wpAny_comprehension_free (use := none) rfl hs (I.clos L) L.kind L.names (thn (hi pins s σ H _ I h) fun v s1 h1 => thn h1 fun itv s2 h2 => ?_)
  obtain ⟨it, fp, tn, J, H2, e, I2, T, st2, f2, hw⟩ := h2
  subst e
  refine lc_block (RR := fun acc C => compPost (model X.prog X.w) X.A X.xe none (EP X pins σ Q) acc C) L hc hg gw ht he I2 T st2 f2 hw ?_
  intro D C s' ys H' m hn c1 c2 c3 c4 c5 d I' q
  exact ⟨m, hn, fun h' hs' => ⟨.ref D, _, I'.turned (t' := s'.toks) (it := C) (fun b o hb e => hs'.extBut b o hb e) c5 c1 (.inr c3) c2 c4, rfl, q D d⟩⟩
theorem ps_lc {elt tg iter : Expr} {ifs : List Expr} {pos spos py : Pos} {wi : TI} {g : TG} {tt : TT} {te : TE} {i : Nat} {y : Str} (hN : X.N.Nodup) (hy : X.N[i]? = some y) (hx : X.env.scope.names.lookup y = some .local) (hi : PI X tg iter wi) (L : LcScope X.N X.env.scope scope own ix) (hc : X.calm = true)
    (hg : ∀ fp s H, PG (X.comp (lcN X.N own ix) scope fp s H) tg g) (gw : GW own.length g) (ht : ∀ fp s H, PIf (X.comp (lcN X.N own ix) scope fp s H) ifs tt) (he : ∀ fp s H, PE (X.comp (lcN X.N own ix) scope fp s H) elt te)
    (hsw : swapsWith (.ListComp elt [⟨tg, iter, ifs, 0⟩] scope pos) (some (.Name y py)) spos.line X.env = pure true := by rfl)
    (hs : ∀ x, foldedSetIterable iter X.env x = pure x := by intro _; rfl) : PS X (.Assign [.Name y py] (.ListComp elt [⟨tg, iter, ifs, 0⟩] scope pos) spos) (tAsg (tLC wi own.length ix g tt te) (gName i)) := by
  intro pins s σ H Dn I h
  rw [exec_Assign_Name_used _ _ _ _ hsw]
  refine wpAny_bind (wpAny_standAt (wpAny_bind ?_))
  show wpAny _ X.A (do let _ ← comprehension (.ListComp elt [⟨tg, iter, ifs, 0⟩] scope pos) scope X.env _ (newList []) false (eval iter X.env) (some (assign (.Name y py) X.env))) _ _ s
  refine wpAny_bind (thn (wpAny_comprehension_free (use := some (assign (.Name y py) X.env)) (Q := fun _ s' => SP X pins Dn .next s') rfl hs (I.clos L) L.kind L.names
    (thn (hi pins s σ H _ I h) fun v s1 h1 => thn h1 fun itv s2 h2 => ?_)) fun _ s' hq => wpAny_pure (wpAny_pure hq))
  obtain ⟨it, fp, tn, J, H2, e, I2, T, st2, f2, hw⟩ := h2
  subst e
  refine lc_block (RR := fun acc C => compPost (model X.prog X.w) X.A X.xe (some (assign (.Name y py) X.env)) (fun _ s' => SP X pins Dn .next s') acc C) L hc hg gw ht he I2 T st2 f2 hw ?_
  intro D C s' ys H' m hn c1 c2 c3 c4 c5 d I' q
  show wpAny _ X.A (assign (.Name y py) X.env (.ref D)) _ _ s'
  refine wpAny_assign_Name (store_ok2 I' hN hy (.inl hx) (v := .ref D) rfl (fun s2 I2 ⟨a, hs2, ha⟩ => ?_) (.inr hx))
  have aC : a ≠ C := by
    rcases ha with rfl | ha
    · exact Ne.symm c1
    · exact c2 y a ha
  refine ⟨m, hn.sameBut hs2 (Ne.symm aC), fun h' hs' => ?_⟩
  exact ⟨_, _, I2.turned (t' := s2.toks) (it := C) (fun b o hb e => hs'.extBut b o hb e) c5 c1 (.inr c3) c2 c4, q D d⟩
end
section
variable {k : Nat} {ix : List Nat} {g : TG} {tt : TT} {te : TE} {σ : St} {H1 : Hp} {Q : List V → Hp → Prop}
def lcTurn (k : Nat) (ix : List Nat) (g : TG) (tt : TT) (te : TE) (σ : St) (x : V) (ys : List V) (H : Hp) (N : List V → Hp → Prop) : Prop :=
  g x (capSt k ix σ) H fun σ2 H2 => tt σ2 H2 fun c H3 => if c = true then te σ2 H3 fun y H4 => ys.length < sizeLine ∧ N (ys ++ [y]) H4 else N ys H3
theorem lc_by {J : It} {n : Nat} (Pv : Nat → List V → Hp → Prop) (h0 : Pv 0 [] H1) (hgo : ∀ i ys H, i < n → Pv i ys H → J.go i H) (hst : ∀ ys H, Pv n ys H → J.stop n H)
    (hs : ∀ i ys H x H', i < n → Pv i ys H → J.yld i H x H' → lcTurn k ix g tt te σ x ys H' (Pv (i + 1))) (hd : ∀ ys H, Pv n ys H → Q ys H) : rLC J k ix g tt te σ H1 Q := by
  refine ⟨fun i m ys H => m = n - i ∧ i ≤ n ∧ Pv i ys H, ⟨n, by simp, Nat.zero_le _, h0⟩, ?_⟩
  rintro i m ys H ⟨rfl, hi, p⟩
  by_cases hlt : i < n
  · exact .inr ⟨hgo i ys H hlt p, Pv (i + 1), fun ys' H' q => ⟨n - (i + 1), by omega, rfl, hlt, q⟩, fun x H' y => hs i ys H x H' hlt p y⟩
  · have e : i = n := by omega
    subst e
    exact .inl ⟨hst ys H p, hd ys H p⟩
theorem lc_range {lo : Int} {n : Nat} (Pv : Nat → List V → Hp → Prop) (h0 : Pv 0 [] H1) (hs : ∀ i ys H, i < n → Pv i ys H → lcTurn k ix g tt te σ (.int (lo + i)) ys H (Pv (i + 1)))
    (hd : ∀ ys H, Pv n ys H → Q ys H) : rLC (Itr lo n) k ix g tt te σ H1 Q :=
  lc_by (n := n) Pv h0 (fun i _ _ h _ => h) (fun _ _ _ => Nat.le_refl _) (fun i ys H x H' h p y => by
    obtain ⟨e, y⟩ := y
    subst e y
    exact hs i ys _ h p) hd
theorem lc_list {K : PySem.W.Frag} {a : Addr} {xs : List V} (Pv : Nat → List V → Hp → Prop) (h0 : Pv 0 [] H1) (hl : ∀ i ys H, i ≤ xs.length → Pv i ys H → SqL K H a xs)
    (hs : ∀ i ys H x, xs[i]? = some x → Pv i ys H → lcTurn k ix g tt te σ x ys H (Pv (i + 1))) (hd : ∀ ys H, Pv xs.length ys H → Q ys H) : rLC (Itl K a) k ix g tt te σ H1 Q :=
  lc_by (n := xs.length) Pv h0 (fun i ys H h p => ⟨xs, xs[i], hl i ys H (Nat.le_of_lt h) p, by simp [h]⟩) (fun ys H p => ⟨xs, hl _ ys H (Nat.le_refl _) p, Nat.le_refl _⟩) (fun i ys H x H' h p y => by
    obtain ⟨e, y⟩ := y
    subst e
    exact hs i ys _ x (y xs (hl i ys _ (Nat.le_of_lt h) p)) p) hd
theorem lc_tup {K : PySem.W.Frag} {a : Addr} {xs : List V} (Pv : Nat → List V → Hp → Prop) (h0 : Pv 0 [] H1) (hl : ∀ i ys H, i ≤ xs.length → Pv i ys H → SqT K H a xs)
    (hs : ∀ i ys H x, xs[i]? = some x → Pv i ys H → lcTurn k ix g tt te σ x ys H (Pv (i + 1))) (hd : ∀ ys H, Pv xs.length ys H → Q ys H) : rLC (Itt K a) k ix g tt te σ H1 Q :=
  lc_by (n := xs.length) Pv h0 (fun i ys H h p => ⟨xs, xs[i], hl i ys H (Nat.le_of_lt h) p, by simp [h]⟩) (fun ys H p => ⟨xs, hl _ ys H (Nat.le_refl _) p, Nat.le_refl _⟩) (fun i ys H x H' h p y => by
    obtain ⟨e, y⟩ := y
    subst e
    exact hs i ys _ x (y xs (hl i ys _ (Nat.le_of_lt h) p)) p) hd
end
end L2
set_option maxHeartbeats 4000000
namespace L2
open PySem PySem.Spec PyProof.Rows
def Itf (f : Nat → V) (n : Nat) : It := ⟨fun i _ => i < n, fun i H x H' => H' = H ∧ x = f i, fun i _ => i = n⟩
theorem turn_walks {P : Program} {w : World} {K : PySem.W.Frag} {tg : Expr} {it : Addr} {n : Nat} {Pv : Nat → Value → Prop} {tn : Nat → Heap → Prop} {f : Nat → V}
    (W : ∀ A : Around, A.handled = none → Walks P w A it [it] [it] n Pv tn) (ob : ∀ i h, tn i h → ∃ o nm vs, h.get? it = some o ∧ o.cls = .type nm ∧ o.data = .fields vs ∧ ["enumerate", "zip", "dict_itemiterator", "dict_reverseitemiterator", "odict_iterator", "itertools.zip_longest", "itertools.pairwise"].contains nm = false)
    (rel : ∀ i v, Pv i v → RelV (f i) v) (hself : ∀ (A : Around) (i : Nat) (s : Shared) (Q : Value → Shared → Prop) (E : Value → Shared → Prop), tn i s.heap → Q (.ref it) s → wpAny (model P w) A (pyIter (.ref it)) Q E s) : Turn P w K tg (Itf f n) [it] it tn where
  mem := by simp
  obj := fun i h st b hb => by
    have e : b = it := by simpa using hb
    subst e
    obtain ⟨o, nm, vs, e, _, d, _⟩ := ob i h st
    exact ⟨o, e, fun v z => by rw [d] at z; cases z⟩
  keep := fun i h h' st k => by
    by_cases hA : ∃ A : Around, A.handled = none
    · obtain ⟨A, hA⟩ := hA
      exact (W A hA).frame i h h' st k
    · exact absurd ⟨callerA, rfl⟩ hA
  item := by
    intro X hP hw hK hc i pins s σ H E I hf st hg
    subst hP hw hK
    obtain ⟨f0, f1, f2, f3, f4, f5⟩ := hf it (by simp)
    refine (W X.A (I.ok.hd hc)).item i s _ _ hg st fun v h' tk hv st' kk => ?_
    have I1 : Inv X pins σ H { s with heap := h', toks := tk } := I.turned (fun b o hb e => kk b o (by simpa using hb) e) f0 f1 f3 f4 f5
    obtain ⟨o, nm, vs, e, c, d, hn⟩ := ob _ _ st'
    exact ⟨v, rfl, go_of (s := { s with heap := h', toks := tk }) e c d hn ⟨f i, H, I1, rel i v hv, ⟨rfl, rfl⟩, st', fun b hb => (hf b hb).1⟩⟩
  done := by
    intro X hP hw hK hc i pins s σ H E I hf st hg
    subst hP hw hK
    obtain ⟨f0, f1, f2, f3, f4, f5⟩ := hf it (by simp)
    have e : i = n := hg
    subst e
    exact (W X.A (I.ok.hd hc)).done s _ _ st fun h' tk kk => ⟨rfl, I.turned (fun b o hb e => kk b o (by simpa using hb) e) f0 f1 f3 f4 f5⟩
  self := hself
theorem rangeSize_small {i j c : Int} (q1 : 0 < c) (q3 : -1000000 ≤ i) (q4 : i < 1000000) (q5 : -1000000 ≤ j) (q6 : j < 1000000) : 0 ≤ Builtin.Range.rangeSize i j c ∧ Builtin.Range.rangeSize i j c ≤ 2000000 := by
  unfold Builtin.Range.rangeSize
  rw [if_pos (show c > 0 from q1)]
  by_cases h : i < j
  · rw [if_pos h]
    have h1 : 0 ≤ (j - i - 1) / c := Int.ediv_nonneg (by omega) (by omega)
    have h2 : (j - i - 1) / c ≤ j - i - 1 := Int.ediv_le_self _ (by omega)
    omega
  · rw [if_neg h]; omega
theorem range_small {i j c : Int} (q1 : 0 < c) (q2 : c < 1000) (q3 : -1000000 ≤ i) (q4 : i < 1000000) (q5 : -1000000 ≤ j) (q6 : j < 1000000) : Builtin.Range.small i j c = true := by
  obtain ⟨h1, h2⟩ := rangeSize_small q1 q3 q4 q5 q6
  unfold Builtin.Range.small
  simp only [Builtin.Range.rangeFitsLong, Bool.and_eq_true, Bool.or_eq_true, decide_eq_true_eq, beq_iff_eq, show c > 0 from q1, if_true]
  omega
section
variable {X : Cx} {tg : Expr}
theorem Inv.fp1 {pins : List (Addr × Obj)} {σ : St} {H : Hp} {s : Shared} (I : Inv X pins σ H s) : ∀ b ∈ [s.heap.objs.size], FpOk X pins H b := fun b hb => by
  have e : b = s.heap.objs.size := by simpa using hb
  subst e
  exact I.fpOk (Nat.le_refl _) (I.hok.fresh (Nat.le_refl _))
def signV (x : Str) (i : Nat) : V := .str ⟨#[x.cps.getD i 0]⟩
def iStr (ts : TE) : TI := fun σ H R => ts σ H fun x H1 => ∃ z, x = .str z ∧ R (Itf (signV z) z.cps.size) H1
theorem pi_str {e : Expr} {ts : TE} (hl : PE X e ts) : PI X tg e (iStr ts) := by
  intro pins s σ H R I h
  refine thn (hl pins s σ H _ I h) fun v s1 ⟨x, H1, I1, r1, q1⟩ => ?_
  obtain ⟨z, e, q⟩ := q1
  subst e
  obtain ⟨t, rfl⟩ := r1
  have rel : ∀ i v, SignAt z i v → RelV (signV z i) v := fun i v ⟨c, u, hc, hv⟩ => by
    subst hv
    refine ⟨u, ?_⟩
    have e : z.cps.getD i 0 = c := by rw [Array.getD_eq_getD_getElem?, hc]; rfl
    rw [e]
  cases ha : z.cps.all (· < 128) with
  | false =>
    refine wpAny_pyIter_wide ha ?_
    exact ⟨s1.heap.objs.size, [s1.heap.objs.size], _, _, H1, rfl, I1.kept (t' := s1.toks) fun b o e => Heap.get?_push_of_some _ e,
      turn_walks (fun A hA => Walks.strWide hA _ z t) (fun i h ⟨o, e, c, d⟩ => ⟨o, "str_iterator", _, e, c, d, by decide⟩) rel (fun A i s Q E st hq => wpAny_pyIter_striter_wide st hq), ⟨_, Heap.get?_push_size _ rfl, rfl, rfl⟩, fun b hb => I1.fp1 b hb, q⟩
  | true =>
    refine wpAny_pyIter_ascii ha ?_
    exact ⟨s1.heap.objs.size, [s1.heap.objs.size], _, _, H1, rfl, I1.kept (t' := s1.toks) fun b o e => Heap.get?_push_of_some _ e,
      turn_walks (fun A hA => Walks.strAscii hA _ z t) (fun i h ⟨o, e, c, d⟩ => ⟨o, "str_ascii_iterator", _, e, c, d, by decide⟩) rel (fun A i s Q E st hq => wpAny_pyIter_striter_ascii st hq), ⟨_, Heap.get?_push_size _ rfl, rfl, rfl⟩, fun b hb => I1.fp1 b hb, q⟩
def iRng3 (ta : TA) : TI := fun σ H R => ta σ H fun vs H1 => ∃ i j c : Int, vs = [.int i, .int j, .int c] ∧ (0 < c ∧ c < 1000 ∧ -1000000 ≤ i ∧ i < 1000000 ∧ -1000000 ≤ j ∧ j < 1000000) ∧ R (Itf (fun k => .int (i + k * c)) (Builtin.Range.rangeSize i j c).toNat) H1
theorem pi_range3 {a b c : Expr} {ta : TA} {p pos : Pos} (hg : Gl X "range") (hm : X.mg "range" = none) (ha : PA X [a, b, c] ta) (hs : starEach [a, b, c] X.env = [(false, eval a X.env), (false, eval b X.env), (false, eval c X.env)] := by rfl) (hs2 : starEach [b, c] X.env = [(false, eval b X.env), (false, eval c X.env)] := by rfl) :
    PI X tg (.Call (.Name "range" p) [a, b, c] [] pos) (iRng3 ta) := by
  intro pins s σ H R I h
  refine Call_ (ld_blt I hg hm boot_range (PyProof.Rows.callWith_type1 (thn (ha pos pins s σ H _ I h) fun us s1 ⟨vs, H1, I1, r1, q1⟩ => ?_) (by rw [hs, hs2]) (by rw [hs2]; rfl)))
  obtain ⟨i, j, c, e, ⟨q1, q2, q3, q4, q5, q6⟩, q⟩ := q1
  subst e
  cases r1 with
  | cons r rr =>
    cases rr with
    | cons r' rr =>
      cases rr with
      | cons r'' rr =>
        cases rr
        obtain ⟨t, rfl⟩ := r
        obtain ⟨t', rfl⟩ := r'
        obtain ⟨t'', rfl⟩ := r''
        refine call_range_3 (by omega) ?_ (.inl (PyProof.noPylong_small (by omega)))
        obtain ⟨z0, z1⟩ := rangeSize_small q1 q3 q4 q5 q6
        have hsz : (((Builtin.Range.rangeSize i j c).toNat : Nat) : Int) = Builtin.Range.rangeSize i j c := by omega
        refine wpAny_pyIter_range (IsRange.new ..) (range_small q1 q2 q3 q4 q5 q6) ?_
        have I2 : Inv X pins σ H1 { s1 with heap := s1.heap.push { cls := .type "range", data := .fields #[.int i t, .int j t', .int c t''] }, toks := s1.toks } := I1.kept fun b o e => Heap.get?_push_of_some _ e
        refine ⟨_, [_], _, _, H1, rfl, I2.kept (t' := s1.toks) fun b o e => Heap.get?_push_of_some _ e, turn_walks (f := fun k => .int (i + k * c)) (fun A hA => Walks.range hA _ i c (Builtin.Range.rangeSize i j c).toNat) (fun k h st => ⟨_, "range_iterator", _, st, rfl, rfl, by decide⟩) (fun k v ⟨t, e⟩ => ⟨t, e⟩) (fun A k s Q E st hq => wpAny_pyIter_rangeiter st hq), ?_, fun b hb => I2.fp1 b hb, q⟩
        show IsRangeIter _ _ (i + ((0 : Nat) : Int) * c) (((Builtin.Range.rangeSize i j c).toNat : Nat) - ((0 : Nat) : Int)) c
        have e1 : i + ((0 : Nat) : Int) * c = i := by simp
        have e2 : (((Builtin.Range.rangeSize i j c).toNat : Nat) : Int) - ((0 : Nat) : Int) = Builtin.Range.rangeSize i j c := by rw [hsz]; simp
        rw [e1, e2]
        exact Heap.get?_push_size _ rfl
theorem KV.at {kvs : List (Key × V)} {vs : List (Key × Value)} (r : KV kvs vs) {i : Nat} {k : Key} {v : Value} (e : vs[i]? = some (k, v)) : ∃ x, kvs[i]? = some (k, x) ∧ RelV x v := by
  induction r generalizing i with
  | nil => simp at e
  | @cons p q ps qs h t ih =>
    cases i with
    | zero =>
      have e' : q = (k, v) := by simpa using e
      obtain ⟨p1, p2⟩ := p
      subst e'
      obtain ⟨h1, h2⟩ := h
      have h1' : p1 = k := h1
      subst h1'
      exact ⟨p2, rfl, h2⟩
    | succ i => exact ih (by simpa using e)
theorem kV_of {P : Program} {w : World} {k : Key} {u : Value} (h : (mixKind P w).is k u = true) : RelV (kV k) u := by
  rcases keyIs_shape (k := k) (v := u) h with ⟨i, t, rfl, rfl⟩ | ⟨x, t, rfl, rfl⟩
  · exact ⟨t, rfl⟩
  · exact ⟨t, rfl⟩
end
end L2
set_option maxHeartbeats 4000000
namespace L2
open PySem PySem.Spec PyProof.Rows
section
variable {X : Cx}
theorem op_isnotB : OpR X (compareOp .IsNot) (fun x y H Q => ∃ b c, x = .bl b ∧ y = .bl c ∧ Q (.bl (b != c)) H) := by
  intro pins s σ H x y v u Q I rx ry h
  obtain ⟨b, c, rfl, rfl, q⟩ := h
  cases rx
  cases ry
  exact isnot_bool ⟨.bl _, H, I, rfl, q⟩
theorem op_le_str : OpR X (compareOp .LtE) (fun x y H Q => ∃ i j, x = .str i ∧ y = .str j ∧ Q (.bl (!decide (j.cps.toList < i.cps.toList))) H) := by
  intro pins s σ H x y v u Q I rx ry h
  obtain ⟨i, j, rfl, rfl, q⟩ := h
  obtain ⟨t, rfl⟩ := rx
  obtain ⟨t', rfl⟩ := ry
  exact PySem.P.le_str (fin_bl I q rfl)
theorem kept_of_iter {s : Shared} {h' : Heap} {o : Obj} (hk : ∀ b x, b ∉ [s.heap.objs.size] → (s.heap.push o).get? b = some x → h'.get? b = some x) (b : Addr) (x : Obj) (e : s.heap.get? b = some x) : h'.get? b = some x :=
  hk b x (fun z => by rw [List.mem_singleton.mp z] at e; exact Nat.lt_irrefl _ (Heap.lt_size e)) (Heap.get?_push_of_some _ e)
theorem bools_at : ∀ {bs : List Bool} {us : List Value}, Vals (bs.map V.bl) us → ∀ (i : Nat) (v : Value), us[i]? = some v → ∃ b, bs[i]? = some b ∧ v = .bool b
  | [], _, .nil, i, v, e => by simp at e
  | b :: bs, u :: us, .cons r t, 0, v, e => by
    have e' : u = v := by simpa using e
    subst e'
    exact ⟨b, rfl, r⟩
  | b :: bs, u :: us, .cons r t, i + 1, v, e => bools_at (bs := bs) t i v (by simpa using e)
theorem call_all (hc : X.calm = true) : CallR X (.builtin "all") (fun xs H Q => ∃ (a : Addr) (bs : List Bool), xs = [.ref a] ∧ SqL X.K H a (bs.map V.bl) ∧ Q (.bl (bs.all id)) H) := by
  intro pins s σ H xs us Q I r h
  obtain ⟨a, bs, rfl, hq, q⟩ := h
  obtain ⟨u, rfl, ru⟩ := vals1 r
  cases ru
  obtain ⟨its, rv, p, hz⟩ := I.list hq
  have hl := p.isList
  have hlt : a < s.heap.objs.size := by obtain ⟨_, e, _⟩ := hl; exact Heap.lt_size e
  refine call_all_walk (wpAny_pyIter_list hl ?_)
  refine ⟨s.heap.objs.size, [s.heap.objs.size, a], [s.heap.objs.size], its.toArray.size, _, _, fun i => (bs[i]?).getD true, rfl, Walks.list (A := X.A.in1) (I.ok.hd hc) _ a (Nat.ne_of_lt hlt) its.toArray,
    ⟨⟨_, Heap.get?_push_size _ rfl, rfl, rfl⟩, hl.push _⟩, fun i v s' Q' E' hP hQ => ?_, fun h' tk hk => ?_⟩
  · obtain ⟨b, e, rfl⟩ := bools_at rv i v (by simpa using hP)
    simp only [e, Option.getD_some] at hQ
    exact wpAny_truthy_bool hQ
  · have hlen := rv.length
    have e : ((List.range its.toArray.size).all fun i => (bs[i]?).getD true) = bs.all id := by
      rw [List.size_toArray, ← hlen, List.length_map, Bool.eq_iff_iff, List.all_eq_true, List.all_eq_true]
      constructor
      · intro z b hb
        obtain ⟨i, hi, rfl⟩ := List.getElem_of_mem hb
        have := z i (List.mem_range.mpr hi)
        simpa [hi] using this
      · intro z i hi
        have hi' := List.mem_range.mp hi
        rw [List.getElem?_eq_getElem hi']
        exact z _ (List.getElem_mem hi')
    rw [e]
    exact ⟨.bl _, H, I.kept (kept_of_iter hk), rfl, q⟩
theorem call_isi : CallR X (.builtin "isinstance") (fun xs H Q => ∃ x t n b, xs = [x, .ty n] ∧ TyOf X.K H x t ∧ PySem.W.kitOne X.K t (.type n) = some b ∧ Q (.bl b) H) := by
  intro pins s σ H xs us Q I r h
  obtain ⟨x, t, n, b, rfl, ty, e, q⟩ := h
  obtain ⟨u, w', rfl, rx, rn⟩ := vals2 r
  cases rn
  exact isinst_ok I rx ty e fun tk => ⟨.bl b, H, I.tok tk, rfl, q⟩
theorem sl_str : SlR X (fun x lo hi H Q => ∃ z, x = .str z ∧ z.length ≤ sizeLine ∧ Q (.str (Txt.slice z lo hi)) H) := by
  intro pins s σ H x v vl vu lo hi sl Q I rx hs pl pu h
  obtain ⟨z, rfl, hz, q⟩ := h
  obtain ⟨t, rfl⟩ := rx
  refine ⟨"str", _, slot_str_getitem.lookup, typeIs_str _ _ _, ?_⟩
  have fin : (Txt.slice z lo hi).length ≤ sizeLine ∧ ∀ t' k, EP X pins σ Q (.str (Txt.slice z lo hi) t') { s with toks := k } := ⟨Nat.le_trans (Txt.slice_le z _ _) hz, fun t' k => ⟨.str _, H, I.tok _, ⟨_, rfl⟩, q⟩⟩
  cases pl with
  | none =>
    cases pu with
    | none => exact wpAny_getItem_str_slice (l := none) (u := none) (st := none) hs rfl (post_val_or_str fin)
    | int j uj => exact wpAny_getItem_str_slice (l := none) (u := some (j, uj)) (st := none) hs rfl (post_val_or_str fin)
  | int i ui =>
    cases pu with
    | none => exact wpAny_getItem_str_slice (l := some (i, ui)) (u := none) (st := none) hs rfl (post_val_or_str fin)
    | int j uj => exact wpAny_getItem_str_slice (l := some (i, ui)) (u := some (j, uj)) (st := none) hs rfl (post_val_or_str fin)
end
end L2
set_option maxHeartbeats 4000000
namespace L2
open PySem PySem.Spec PyProof.Rows PySem.W
section
variable {cmp : Nat → Nat → (Bool → Shared → Prop) → Shared → Prop} {lt : Nat → Nat → Bool} {n : Nat} {s : Shared}
structure Ord (cmp : Nat → Nat → (Bool → Shared → Prop) → Shared → Prop) (lt : Nat → Nat → Bool) (n : Nat) (s : Shared) : Prop where
  ask : ∀ i j C, i < n → j < n → i ≠ j → C (lt i j) s → cmp i j C s
  tr : ∀ i j k, lt i j = true → lt j k = true → lt i k = true
  tot : ∀ i j, i < n → j < n → i ≠ j → lt i j = false → lt j i = true
  asym : ∀ i j, lt i j = true → lt j i = false
structure Re (n : Nat) (p : Array Nat) : Prop where
  size : p.size = n
  lt : ∀ i, i < n → p.getD i 0 < n
  inj : ∀ i j, i < n → j < n → i ≠ j → p.getD i 0 ≠ p.getD j 0
  perm : p.Perm (List.toArray (List.range n))
theorem Re.of_perm {p : Array Nat} (h : p.Perm (List.toArray (List.range n))) : Re n p := by
  have hs : p.size = n := by have := h.size_eq; simpa using this
  have hl : p.toList.Perm (List.range n) := by simpa using Array.perm_iff_toList_perm.mp h
  have nd : p.toList.Nodup := (List.Perm.nodup_iff hl).mpr List.nodup_range
  have get : ∀ i, (hi : i < n) → p.getD i 0 = p.toList[i]'(by simpa [hs] using hi) := fun i hi => by
    simp [Array.getD, hs, hi]
  refine ⟨hs, fun i hi => ?_, fun i j hi hj hij e => ?_, h⟩
  · have hm : p.getD i 0 ∈ p.toList := by rw [get i hi]; exact List.getElem_mem _
    exact List.mem_range.mp ((List.Perm.mem_iff hl).mp hm)
  · rw [get i hi, get j hj] at e
    exact hij ((List.getElem_inj nd).mp e)
def Up (lt : Nat → Nat → Bool) (p : Array Nat) (m : Nat) : Prop := ∀ i j, i < j → j < m → lt (p.getD i 0) (p.getD j 0) = true
def Dn (lt : Nat → Nat → Bool) (p : Array Nat) (m : Nat) : Prop := ∀ i j, i < j → j < m → lt (p.getD j 0) (p.getD i 0) = true
theorem Up.next {p : Array Nat} {m : Nat} (O : Ord cmp lt n s) (h : Up lt p m) (h1 : 1 ≤ m) (hq : lt (p.getD (m - 1) 0) (p.getD m 0) = true) : Up lt p (m + 1) := fun i j hij hj => by
  by_cases e : j = m
  · subst e
    by_cases e2 : i = j - 1
    · subst e2; exact hq
    · exact O.tr _ _ _ (h i (j - 1) (by omega) (by omega)) hq
  · exact h i j hij (by omega)
theorem Dn.next {p : Array Nat} {m : Nat} (O : Ord cmp lt n s) (h : Dn lt p m) (h1 : 1 ≤ m) (hq : lt (p.getD m 0) (p.getD (m - 1) 0) = true) : Dn lt p (m + 1) := fun i j hij hj => by
  by_cases e : j = m
  · subst e
    by_cases e2 : i = j - 1
    · subst e2; exact hq
    · exact O.tr _ _ _ hq (h i (j - 1) (by omega) (by omega))
  · exact h i j hij (by omega)
theorem asc_ok {p : Array Nat} {Q : Nat → Shared → Prop} (O : Ord cmp lt n s) (r : Re n p) : ∀ (f m : Nat), 1 ≤ m → m + f ≤ n → Up lt p m → (∀ m', m ≤ m' → m' ≤ m + f → Up lt p m' → (m' = m + f ∨ lt (p.getD m' 0) (p.getD (m' - 1) 0) = true) → Q m' s) → (kas_asc p f m).kasWp cmp Q s
  | 0, m, h1, hm, u, q => q m (Nat.le_refl _) (Nat.le_refl _) u (.inl rfl)
  | f + 1, m, h1, hm, u, q => by
    show cmp _ _ _ s
    refine O.ask _ _ _ (r.lt m (by omega)) (r.lt (m - 1) (by omega)) (r.inj _ _ (by omega) (by omega) (by omega)) ?_
    cases c : lt (p.getD m 0) (p.getD (m - 1) 0) with
    | true =>
      show (KasT.ret m).kasWp cmp Q s
      exact q m (Nat.le_refl _) (by omega) u (.inr c)
    | false =>
      show (kas_asc p f (m + 1)).kasWp cmp Q s
      have hq := O.tot _ _ (r.lt m (by omega)) (r.lt (m - 1) (by omega)) (r.inj _ _ (by omega) (by omega) (by omega)) c
      refine asc_ok O r f (m + 1) (by omega) (by omega) (u.next O h1 hq) fun m' a b c d => q m' (by omega) (by omega) c ?_
      rcases d with d | d
      · exact .inl (by omega)
      · exact .inr d
theorem desc_ok {p : Array Nat} {Q : Array Nat × Nat × Nat → Shared → Prop} (O : Ord cmp lt n s) (r : Re n p) : ∀ (f m : Nat), 1 ≤ m → m + f ≤ n → Dn lt p m → (∀ m', m ≤ m' → m' ≤ m + f → Dn lt p m' → Q (p, m', 0) s) → (kas_desc f p m 0).kasWp cmp Q s
  | 0, m, h1, hm, u, q => q m (Nat.le_refl _) (Nat.le_refl _) u
  | f + 1, m, h1, hm, u, q => by
    show cmp _ _ _ s
    refine O.ask _ _ _ (r.lt m (by omega)) (r.lt (m - 1) (by omega)) (r.inj _ _ (by omega) (by omega) (by omega)) ?_
    cases c : lt (p.getD m 0) (p.getD (m - 1) 0) with
    | true =>
      show (kas_desc f p (m + 1) 0).kasWp cmp Q s
      exact desc_ok O r f (m + 1) (by omega) (by omega) (u.next O h1 c) fun m' a b c => q m' (by omega) (by omega) c
    | false =>
      show cmp _ _ _ s
      refine O.ask _ _ _ (r.lt (m - 1) (by omega)) (r.lt m (by omega)) (r.inj _ _ (by omega) (by omega) (by omega)) ?_
      rw [O.tot _ _ (r.lt m (by omega)) (r.lt (m - 1) (by omega)) (r.inj _ _ (by omega) (by omega) (by omega)) c]
      show (KasT.ret (p, m, 0)).kasWp cmp Q s
      exact q m (Nat.le_refl _) (by omega) u
theorem rev_get {p : Array Nat} {m k : Nat} (hm : m ≤ p.size) : (kas_rev p 0 m).getD k 0 = if k < m then p.getD (m - 1 - k) 0 else p.getD k 0 := by
  have h := getElem?_mirror_all (xs := p) (i := 0) (j := m) hm k
  have e1 : ∀ (a : Array Nat) (i : Nat), a.getD i 0 = (a[i]?).getD 0 := fun a i => by rw [Array.getD_eq_getD_getElem?]
  rw [e1]
  unfold kas_rev
  rw [h]
  by_cases hk : k < m
  · rw [if_pos hk]
    simp only [e1]
    rw [if_pos (by omega)]
    congr 2
    omega
  · rw [if_neg hk]
    simp only [e1]
    rw [if_neg (by omega)]
theorem rev_re {p : Array Nat} {m : Nat} (r : Re n p) : Re n (kas_rev p 0 m) := Re.of_perm ((mirror_perm p 0 m _).trans r.perm)
theorem count_ok {Q : Nat × Array Nat → Shared → Prop} {p : Array Nat} (O : Ord cmp lt n s) (r : Re n p) (h2 : 2 ≤ n) (q : ∀ m p', Re n p' → 1 ≤ m → m ≤ n → Up lt p' m → Q (m, p') s) : (kas_count n p).kasWp cmp Q s := by
  unfold kas_count
  rw [KasT.kasWp_bind]
  refine asc_ok O r (n - 1) 1 (Nat.le_refl _) (by omega) (fun i j h1 h2 => by omega) fun m a b u e => ?_
  by_cases hm : (m == n) = true
  · rw [if_pos hm]
    exact q m p r a (by omega) u
  · rw [if_neg hm]
    have hmn : m ≠ n := by simpa using hm
    by_cases h1 : m > 1
    · rw [if_pos h1]
      show cmp _ _ _ s
      refine O.ask _ _ _ (r.lt 0 (by omega)) (r.lt (m - 1) (by omega)) (r.inj _ _ (by omega) (by omega) (by omega)) ?_
      rw [u 0 (m - 1) (by omega) (by omega)]
      show (KasT.ret (m, p)).kasWp cmp Q s
      exact q m p r a (by omega) u
    · rw [if_neg h1]
      have e1 : m = 1 := by omega
      subst e1
      have hd : lt (p.getD 1 0) (p.getD 0 0) = true := by
        rcases e with e | e
        · omega
        · exact e
      unfold kas_descPart
      rw [KasT.kasWp_bind]
      refine desc_ok O r (n - (1 + 1)) (1 + 1) (by omega) (by omega) (fun i j h1 h2 => ?_) fun m' a' b' dn => ?_
      · have : i = 0 := by omega
        have : j = 1 := by omega
        subst_vars
        exact hd
      · show (if (0 : Nat) > 0 then _ else kas_tail3 m' n p).kasWp cmp Q s
        rw [if_neg (by omega)]
        unfold kas_tail3
        rw [KasT.kasWp_bind]
        have up : Up lt (kas_rev p 0 m') m' := fun i j hij hj => by
          rw [rev_get (by rw [r.size]; omega), rev_get (by rw [r.size]; omega), if_pos (by omega), if_pos (by omega)]
          exact dn _ _ (by omega) (by omega)
        refine asc_ok O (rev_re r) (n - m') m' (by omega) (by omega) up fun m2 a2 b2 u2 _ => ?_
        exact q m2 _ (rev_re r) (by omega) (by omega) u2
theorem place_ok {p : Array Nat} {k : Nat} {Q : Nat → Shared → Prop} (O : Ord cmp lt n s) (r : Re n p) (hk : k < n) (u : Up lt p k) (q : ∀ l, l ≤ k → (∀ i, i < l → lt (p.getD i 0) (p.getD k 0) = true) → (∀ i, l ≤ i → i < k → lt (p.getD k 0) (p.getD i 0) = true) → Q l s) :
    ∀ (f l e : Nat), l ≤ e → e ≤ k → e - l ≤ f → (∀ i, i < l → lt (p.getD i 0) (p.getD k 0) = true) → (∀ i, e ≤ i → i < k → lt (p.getD k 0) (p.getD i 0) = true) → (kas_place p k f l e).kasWp cmp Q s
  | 0, l, e, h1, h2, h3, a, b => q l (by omega) a fun i hi hk' => b i (by omega) hk'
  | f + 1, l, e, h1, h2, h3, a, b => by
    show (if l ≥ e then KasT.ret l else _).kasWp cmp Q s
    by_cases h : l ≥ e
    · rw [if_pos h]
      exact q l (by omega) a fun i hi hk' => b i (by omega) hk'
    · rw [if_neg h]
      show cmp _ _ _ s
      have hm : (l + e) / 2 < k := by omega
      refine O.ask _ _ _ (r.lt k hk) (r.lt _ (by omega)) (r.inj _ _ hk (by omega) (by omega)) ?_
      cases c : lt (p.getD k 0) (p.getD ((l + e) / 2) 0) with
      | true =>
        show (kas_place p k f l ((l + e) / 2)).kasWp cmp Q s
        refine place_ok O r hk u q f l _ (by omega) (by omega) (by omega) a fun i hi hk' => ?_
        by_cases ei : i = (l + e) / 2
        · subst ei; exact c
        · exact O.tr _ _ _ c (u _ i (by omega) hk')
      | false =>
        show (kas_place p k f ((l + e) / 2 + 1) e).kasWp cmp Q s
        have c' := O.tot _ _ (r.lt k hk) (r.lt _ (by omega)) (r.inj _ _ hk (by omega) (by omega)) c
        refine place_ok O r hk u q f _ e (by omega) h2 (by omega) (fun i hi => ?_) b
        by_cases ei : i = (l + e) / 2
        · subst ei; exact c'
        · exact O.tr _ _ _ (u i _ (by omega) hm) c'
theorem bub_get {p : Array Nat} {k d j : Nat} (hk : k < p.size) (hd : d ≤ k) : (bubble p k d).getD j 0 = if j < k - d ∨ k < j then p.getD j 0 else if j = k - d then p.getD k 0 else p.getD (j - 1) 0 := by
  have e1 : ∀ (a : Array Nat) (i : Nat), a.getD i 0 = (a[i]?).getD 0 := fun a i => by rw [Array.getD_eq_getD_getElem?]
  have h := getElem?_bubble (xs := p) (src := k) hk d hd j
  rw [e1, h]
  by_cases a : j = k - d
  · rw [if_pos a, if_neg (by omega), if_pos a, e1]
  · rw [if_neg a]
    by_cases b : k - d < j ∧ j ≤ k
    · rw [if_pos b, if_neg (by omega), if_neg a, e1]
    · rw [if_neg b, if_pos (by omega), e1]
theorem bin_ok {Q : Array Nat → Shared → Prop} (O : Ord cmp lt n s) (q : ∀ p, Re n p → Up lt p n → Q p s) : ∀ (f k : Nat) (p : Array Nat), Re n p → 1 ≤ k → k + f = n → Up lt p k → (kas_bin f p k).kasWp cmp Q s
  | 0, k, p, r, h1, hn, u => q p r (by rw [← hn]; exact u)
  | f + 1, k, p, r, h1, hn, u => by
    show ((kas_place p k k 0 k).bind fun l => kas_bin f (bubble p k (k - l)) (k + 1)).kasWp cmp Q s
    rw [KasT.kasWp_bind]
    refine place_ok O r (by omega) u (fun l hl a b => ?_) k 0 k (Nat.zero_le _) (Nat.le_refl _) (by omega) (fun i hi => by omega) (fun i h1 h2 => by omega)
    have hks : k < p.size := by rw [r.size]; omega
    refine bin_ok O q f (k + 1) _ (Re.of_perm ((bubble_perm p k _).trans r.perm)) (by omega) (by omega) fun i j hij hj => ?_
    rw [bub_get hks (by omega), bub_get hks (by omega)]
    have ek : k - (k - l) = l := by omega
    rw [ek]
    by_cases hi : i < l
    · rw [if_pos (.inl hi)]
      by_cases hj2 : j < l
      · rw [if_pos (.inl hj2)]; exact u i j hij (by omega)
      · rw [if_neg (by omega)]
        by_cases hj3 : j = l
        · rw [if_pos hj3]; exact a i hi
        · rw [if_neg hj3]; exact u i (j - 1) (by omega) (by omega)
    · rw [if_neg (by omega)]
      by_cases hi2 : i = l
      · rw [if_pos hi2, if_neg (by omega), if_neg (by omega)]
        exact b (j - 1) (by omega) (by omega)
      · rw [if_neg hi2, if_neg (by omega), if_neg (by omega)]
        exact u (i - 1) (j - 1) (by omega) (by omega)
theorem sort_ok {Q : Array Nat → Shared → Prop} (O : Ord cmp lt n s) (h2 : 2 ≤ n) (q : ∀ p, Re n p → Up lt p n → Q p s) : (kas_sort n).kasWp cmp Q s := by
  unfold kas_sort
  rw [KasT.kasWp_bind]
  refine count_ok O (Re.of_perm (Array.Perm.refl _)) h2 fun m p r h1 hm u => ?_
  show (if m < n then kas_bin (n - max m 1) p (max m 1) else .ret p).kasWp cmp Q s
  have em : max m 1 = m := by omega
  rw [em]
  by_cases h : m < n
  · rw [if_pos h]
    exact bin_ok O q (n - m) m p r h1 (by omega) u
  · rw [if_neg h]
    have : m = n := by omega
    subst this
    exact q p r u
end
end L2
set_option maxHeartbeats 4000000
namespace L2
open PySem PySem.Spec PyProof.Rows PySem.W
theorem list_sort_few {prog : Program} {w : World} {A : Around} {E : Value → Shared → Prop} {st : Shared} {l : Addr} {us : List Value} {ep : Nat} {R : PySem.Fin → Shared → Prop} (at0 : st.heap.get? l = some (seqObj "list" us.toArray ep)) (few : us.length < 2)
    (fin : ∀ hp ep', (∀ b o, b ≠ l → st.heap.get? b = some o → hp.get? b = some o) → hp.get? l = some (seqObj "list" us.toArray ep') → R (.done (.ret .none)) { st with heap := hp }) :
    wpAny (model prog w) A (Builtin.«list.sort» ⟨[.ref l], []⟩) R E st := by
  have sz : us.toArray.size = us.length := by simp
  have lt0 : l < st.heap.objs.size := Heap.lt_size at0
  have line : us.length ≤ sizeLine := by rw [sizeLine_eq]; omega
  rw [list_sort_plain]
  refine wpAny_bind (listItems_at at0 rfl (wpAny_bind (listUpdate_at at0 rfl ?_ (by rw [sz]; exact line) (Nat.zero_le _))))
  have at1 := get?_update_seq at0 (fun _ => (#[] : Array Value))
  refine wpAny_bind (seqEpoch_at at1 rfl (wpAny_bind (wpAny_newTuple ?_ (by show us.length ≤ _; exact line))))
  refine wpAny_bind (wpAny_newList ?_ (Nat.zero_le _))
  refine wpAny_holding ?_
  rw [if_pos (by rw [sz]; exact few), if_pos (by rw [sz]; exact few)]
  show wpAny (model prog w) A _ R E { st with heap := ((st.heap.update l (Obj.mapSeq fun _ => (#[] : Array Value))).push (seqObj "tuple" us.toArray 0)).push (seqObj "list" #[] 0) }
  have at2 : (((st.heap.update l (Obj.mapSeq fun _ => (#[] : Array Value))).push (seqObj "tuple" us.toArray 0)).push (seqObj "list" #[] 0)).get? l = some (seqObj "list" #[] (if ((#[] : Array Value).size == us.toArray.size) = true then ep else ep + 1)) := by
    rw [Heap.get?_push_ne _ _ _ (by rw [size_push', Heap.size_update]; exact nlt1 lt0), Heap.get?_push_ne _ _ _ (by rw [Heap.size_update]; exact nlt lt0)]
    exact at1
  have all : (arrOf (SortSt.mk' general' (us.toArray.zip us.toArray) #[] 7 none)).map (·.2) = us.toArray := by
    show (us.toArray.zip us.toArray).map (·.2) = us.toArray
    apply Array.ext'
    simp [List.map_snd_zip]
  have at3 := get?_update_seq at2 (fun _ => us.toArray)
  refine wpAny_bind (wpAny_pure ?_)
  dsimp only
  rw [StateT.run_pure]
  refine wpAny_bind (wpAny_pure ?_)
  dsimp only
  refine wpAny_bind (seqEpoch_at at2 rfl ?_)
  refine wpAny_bind (listUpdate_at at2 rfl ?_ (Nat.zero_le _) (by rw [all, sz]; omega))
  simp only [bne_self_eq_false, Bool.false_eq_true, if_false]
  rw [all]
  refine wpAny_pure (fin _ _ (fun b o hb e => ?_) at3)
  rw [Heap.get?_update_ne _ _ _ _ hb, Heap.get?_push_ne _ _ _ (by rw [size_push', Heap.size_update]; exact nlt1 (Heap.lt_size e)), Heap.get?_push_ne _ _ _ (by rw [Heap.size_update]; exact nlt (Heap.lt_size e)), Heap.get?_update_ne _ _ _ _ hb]
  exact e
theorem sorted_few {prog : Program} {w : World} {A : Around} {E : Value → Shared → Prop} {st : Shared} {l : Addr} {us : List Value} {Q : Value → Shared → Prop} (at0 : st.heap.IsList l us.toArray) (few : us.length < 2)
    (fin : ∀ hp ep, (∀ b o, st.heap.get? b = some o → hp.get? b = some o) → hp.get? (st.heap.objs.size + 1) = some (seqObj "list" us.toArray ep) → Q (.ref (st.heap.objs.size + 1)) { st with heap := hp }) :
    wpAny (model prog w) A (call (.builtin "sorted") [.ref l]) Q E st := by
  have line : us.length ≤ sizeLine := by rw [sizeLine_eq]; omega
  refine Calls.call_function_entry kind_sorted plain_sorted entry_sorted (args_sorted1 _) ?_
  unfold Builtin.«sorted»
  refine wpAny_bind (m := checkCount "sorted" 1 1 _) (wpAny_pure (wpAny_bind (collect_list at0 ?_ line)))
  refine wpAny_bind (wpAny_newList ?_ line)
  have z1 : ((st.heap.push (seqObj "list" #[] 0)).update st.heap.objs.size (Obj.mapSeq (· ++ us.toArray))).objs.size = st.heap.objs.size + 1 := by
    rw [Heap.size_update, size_push']
  have at1 : (((st.heap.push (seqObj "list" #[] 0)).update st.heap.objs.size (Obj.mapSeq (· ++ us.toArray))).push (seqObj "list" us.toArray 0)).get? (st.heap.objs.size + 1) = some (seqObj "list" us.toArray 0) := by
    rw [← z1]; exact Heap.get?_push_size _ rfl
  have kp : ∀ b o, st.heap.get? b = some o → (((st.heap.push (seqObj "list" #[] 0)).update st.heap.objs.size (Obj.mapSeq (· ++ us.toArray))).push (seqObj "list" us.toArray 0)).get? b = some o := fun b o e => by
    rw [Heap.get?_push_ne _ _ _ (by rw [z1]; exact nlt1 (Heap.lt_size e)), Heap.get?_update_ne _ _ _ _ (nlt (Heap.lt_size e)), Heap.get?_push_ne _ _ _ (nlt (Heap.lt_size e))]
    exact e
  show wpAny _ _ _ _ _ { st with heap := ((st.heap.push (seqObj "list" #[] 0)).update st.heap.objs.size (Obj.mapSeq (· ++ us.toArray))).push (seqObj "list" us.toArray 0) }
  rw [z1]
  refine wpAny_bind (wpAny_holding (wpAny_call_entry slot_list_sort ⟨_, at1, rfl⟩ entry_list_sort (list_sort_few (st := { st with heap := ((st.heap.push (seqObj "list" #[] 0)).update st.heap.objs.size (Obj.mapSeq (· ++ us.toArray))).push (seqObj "list" us.toArray 0) }) at1 few fun hp ep k2 e2 => ⟨_, rfl, ?_⟩) (args_list_sort _)))
  exact wpAny_pure ⟨_, rfl, fin hp ep (fun b o e => k2 b o (nlt1 (Heap.lt_size e)) (kp b o e)) e2⟩
end L2
set_option maxHeartbeats 400000
namespace L2
open PySem PySem.Spec PyProof.Rows PySem.W
theorem ns_one {h : Heap} {a : Addr} {m m' : Str → Option Value} (x : h.Ns a m) (y : h.Ns a m') : m = m' := by
  obtain ⟨o, es, ep, e, d, _, f⟩ := x
  obtain ⟨o', es', ep', e', d', _, f'⟩ := y
  rw [e] at e'
  cases e'
  rw [d] at d'
  cases d'
  funext z
  rw [← f z, f' z]
theorem lst_tot {a b : List Nat} (h : ¬ a < b) (h2 : a ≠ b) : b < a := by
  by_cases h3 : b < a
  · exact h3
  · exact absurd (List.le_antisymm (List.not_lt.mp h3) (List.not_lt.mp h)) h2
theorem str_ext {a b : Str} (h : a.cps.toList = b.cps.toList) : a = b := by
  cases a
  cases b
  congr 1
  exact Array.ext' h
theorem ObjOk.live {P : Program} {w : World} {H : Hp} {h : Heap} {a : Addr} {o : HO} (x : ObjOk P w H h a o) : ∃ ob, h.get? a = some ob := by
  cases o with
  | lst xs => obtain ⟨_, _, _, _, e⟩ := x; exact ⟨_, e⟩
  | tup xs => obtain ⟨_, _, _, ⟨ob, e, _⟩, _⟩ := x; exact ⟨_, e⟩
  | dK kvs => obtain ⟨_, _, _, _, ob, _, _, e, _⟩ := x; exact ⟨_, e⟩
  | dT kvs => obtain ⟨_, _, _, _, ob, _, _, e, _⟩ := x; exact ⟨_, e⟩
  | set S n => obtain ⟨ob, _, _, _, e, _⟩ := x; exact ⟨_, e⟩
  | ins C dx fs => obtain ⟨_, _, _, e, _⟩ := x; exact ⟨_, e⟩
  | own y => obtain ⟨_, e⟩ := x; exact ⟨_, e⟩
  | xd fs => obtain ⟨_, ⟨_, _, _, e, _⟩, _⟩ := x; exact ⟨_, e⟩
  | rng lo hi => obtain ⟨_, _, _, e⟩ := x; exact ⟨_, e⟩
  | frz ob u => obtain ⟨e, _⟩ := x; exact ⟨_, e⟩
  | tbl ps => exact ⟨_, (show h.get? a = some _ from x)⟩
  | met f y => exact ⟨_, (show h.get? a = some _ from x)⟩
  | ext φ => obtain ⟨_, ⟨_, e⟩, _⟩ := x; exact ⟨_, e⟩
section
variable {X : Cx} {pins : List (Addr × Obj)} {σ : St} {H : Hp} {s : Shared}
theorem Inv.newList {D : Addr} {ys : List V} {its : List Value} {c : Nat} {h' : Heap} {m : Str → Option Value} (I : Inv X pins σ H s) (hm : s.heap.Ns X.env.locals m) (hn : H D = none) (hG : s.heap.get? D = none) (rv : Vals ys its) (hz : ys.length ≤ sizeLine)
    (F : h'.Ns X.env.locals m) (k : ∀ b o, b ≠ X.env.locals → s.heap.get? b = some o → h'.get? b = some o) (e : h'.get? D = some { cls := .type "list", data := .seq its.toArray c }) : Inv X pins σ (upd H D (.lst ys)) { s with heap := h' } := by
  have nl : ∀ b v, H b = some v → b ≠ X.env.locals := fun b v q z => by rw [z, I.free] at q; cases q
  refine I.step (g' := s.gens) (d' := s.drawn) (t' := s.toks) (ch := []) (fun b hb => by cases hb) (fun b o hL _ _ q _ => k b o hL q) (fun b o hL _ _ q _ => ⟨o.slots, k b o hL q⟩) (fun b o _ q n => ?_) (fun b o _ q => ?_)
    (fun b xs q => by rw [upd_ne (ne_of_none q hn)]; exact q) (fun b o v q => by rw [upd_ne (ne_of_none q hn)]; exact q) (fun b ps q => ⟨#[], by rw [upd_ne (ne_of_none q hn), q]; simp⟩) (fun m' hm' => by rw [ns_one hm' hm]; exact F) (fun b v q => ?_) I.bare
  · rw [upd_ne (fun z => by rw [z, hG] at q; cases q)]; exact n
  · by_cases hb : b = X.env.locals
    · subst hb
      obtain ⟨o', _, _, q', _⟩ := F
      exact ⟨o', q'⟩
    · exact ⟨o, k b o hb q⟩
  · by_cases hb : b = D
    · subst hb
      rw [upd_same] at q
      cases q
      exact ⟨hz, its, c, rv, e⟩
    · rw [upd_ne hb] at q
      refine (I.hok b v q).stay (fun c w' hc q' => ?_) (fun c q' => by rw [upd_ne (ne_of_none q' hn)]; exact q') fun c xs q' => by rw [upd_ne (ne_of_none q' hn)]; exact q'
      rcases hc with z | z
      · subst z; exact k c w' (nl c v q) q'
      · exact k c w' (nl c _ z) q'
abbrev TK := Addr × Str × List V
def tkLt (p q : TK) : Prop := p.2.1.cps.toList < q.2.1.cps.toList
theorem refs_of (ps : List TK) : ∀ (us : List Value), Vals (ps.map fun p => V.ref p.1) us → us = ps.map fun p => Value.ref p.1 := by
  induction ps with
  | nil =>
    intro us r
    cases r
    rfl
  | cons p ps ih =>
    intro us r
    rw [List.map_cons] at r ⊢
    cases r with
    | cons r t =>
      rw [ih _ t, show _ = Value.ref p.1 from r]
theorem vals_refs (ps : List TK) : Vals (ps.map fun p => V.ref p.1) (ps.map fun p => Value.ref p.1) := by
  induction ps with
  | nil => exact .nil
  | cons p ps ih => exact .cons rfl ih
theorem tup_at (I : Inv X pins σ H s) {a : Addr} {x : Str} {r : List V} (h : H a = some (.tup (.str x :: r))) : ∃ (o : Obj) (us : List Value) (n : Nat) (t : Tok), s.heap.get? a = some o ∧ o.cls = .type "tuple" ∧ o.data = .seq (Value.str x t :: us).toArray n := by
  obtain ⟨_, its, rv, ⟨o, e, c, n, d⟩, _⟩ := (show ObjOk X.prog X.w H s.heap a (.tup (.str x :: r)) from I.hok a _ h)
  cases rv with
  | cons r1 r2 =>
    obtain ⟨t, rfl⟩ := r1
    exact ⟨o, _, n, t, e, c, d⟩
theorem pick_perm {n : Nat} {p : Array Nat} {α : Type} {d : α} {ps : List α} (hn : ps.length = n) (r : Re n p) : (p.toList.map fun i => ps.getD i d).Perm ps := by
  have hl : p.toList.Perm (List.range n) := by simpa using Array.perm_iff_toList_perm.mp r.perm
  refine (hl.map _).trans ?_
  have e : (List.range n).map (fun i => ps.getD i d) = ps := by
    apply List.ext_getElem?
    intro i
    rw [List.getElem?_map]
    by_cases hi : i < n
    · rw [List.getElem?_range hi]
      simp [List.getD, show i < ps.length by omega]
    · rw [List.getElem?_eq_none (by simpa using hi), List.getElem?_eq_none (by omega)]
      rfl
  rw [e]
theorem pick_pairwise {n : Nat} {p : Array Nat} {α : Type} {d : α} {ps : List α} {R : α → α → Prop} {lt : Nat → Nat → Bool} (hlt : ∀ i j, i < n → j < n → lt i j = true → R (ps.getD i d) (ps.getD j d)) (r : Re n p) (u : Up lt p n) : (p.toList.map fun i => ps.getD i d).Pairwise R := by
  rw [List.pairwise_iff_getElem]
  intro i j hi hj hij
  rw [List.length_map, Array.length_toList, r.size] at hi hj
  have get : ∀ k (hk : k < n) h, (p.toList.map fun i => ps.getD i d)[k]'h = ps.getD (p.getD k 0) d := fun k hk h => by
    rw [List.getElem_map]
    congr 1
    simp [Array.getD, r.size, hk]
  rw [get i hi, get j hj]
  exact hlt _ _ (r.lt i hi) (r.lt j hj) (u i j hij hj)
theorem call_sortedT : CallR X (.builtin "sorted") (fun xs H Q => ∃ (a : Addr) (ps : List TK), xs = [.ref a] ∧ SqL X.K H a (ps.map fun p => V.ref p.1) ∧ (∀ p ∈ ps, H p.1 = some (.tup (.str p.2.1 :: p.2.2))) ∧ (ps.map (·.2.1)).Nodup ∧ ps.length < 64 ∧
    ∀ (qs : List TK) (l : Addr), qs.Perm ps → qs.Pairwise tkLt → H l = none → Q (.ref l) (upd H l (.lst (qs.map fun p => V.ref p.1)))) := by
  intro pins s σ H xs us Q I r h
  obtain ⟨a, ps, rfl, hq, ht, nd, h64, q⟩ := h
  obtain ⟨u, rfl, ru⟩ := vals1 r
  cases ru
  obtain ⟨its, rv, pl, hz⟩ := I.list hq
  have ei := refs_of ps its rv
  subst ei
  have hl := pl.isList
  obtain ⟨m, hm, _⟩ := I.loc
  by_cases few : ps.length < 2
  · refine sorted_few hl (by simpa using few) fun hp ep k e => ?_
    have I2 := I.newList (D := s.heap.objs.size + 1) (ys := ps.map fun p => V.ref p.1) hm (I.hok.fresh (Nat.le_succ _)) (Heap.get?_none_of_le (Nat.le_succ _)) (vals_refs ps) hz (hm.keeps k) (fun b o _ z => k b o z) e
    refine ⟨.ref _, _, I2, rfl, q ps _ (List.Perm.refl _) ?_ (I.hok.fresh (Nat.le_succ _))⟩
    match ps, few with
    | [], _ => exact .nil
    | [p], _ => exact List.pairwise_singleton _ _
  · have hlen : (ps.map fun p => Value.ref p.1).length = ps.length := List.length_map _
    have F0 : Fr (Att.noObjs s.heap) X.env.locals s.heap m := Att.fr_all hm
    have N0 : News (Att.noObjs s.heap) X.env.locals s.heap (allNews (Att.noObjs s.heap) s.heap X.env.locals) := news_all
    refine kat_sorted F0 N0 hl (by rw [hlen]; omega) (by rw [hlen]; exact h64) fun D e1 h' F' N' lD => ?_
    have keep : ∀ (g : Heap) (x : Obj), News (Att.noObjs s.heap) X.env.locals g ((D, x) :: allNews (Att.noObjs s.heap) s.heap X.env.locals) → ∀ b o, b ≠ X.env.locals → s.heap.get? b = some o → g.get? b = some o := fun g x N b o hb e =>
      (N (b, o) (List.mem_cons_of_mem _ (mem_allNews hb (Att.noObjs_get _ _) e))).1
    have kp := keep h' _ N'
    have atv : ∀ i, i < ps.length → (ps.map fun p => Value.ref p.1).getD i .none = Value.ref (ps.getD i (0, default, [])).1 := fun i hi => by
      simp [List.getD, hi]
    have item : ∀ i, i < ps.length → ∃ (o : Obj) (us : List Value) (n : Nat) (t : Tok), h'.get? (ps.getD i (0, default, [])).1 = some o ∧ o.cls = .type "tuple" ∧ o.data = .seq (Value.str (ps.getD i (0, default, [])).2.1 t :: us).toArray n := fun i hi => by
      have hm' : ps.getD i (0, default, []) ∈ ps := by
        have e : ps.getD i (0, default, []) = ps[i] := by simp [List.getD, hi]
        rw [e]; exact List.getElem_mem hi
      obtain ⟨o, us, n, t, e, c, d⟩ := tup_at I (ht _ hm')
      exact ⟨o, us, n, t, kp _ o (fun z => by have := ht _ hm'; rw [z, I.free] at this; cases this) e, c, d⟩
    have firsts : ∀ (qs : List TK), (∀ p ∈ qs, p ∈ ps) → ∃ fs : List Value, KatTups h' (qs.map fun p => Value.ref p.1) fs ∧ fs.length = qs.length ∧ ∀ v ∈ fs, ∃ x t, v = Value.str x t := by
      intro qs
      induction qs with
      | nil => intro _; exact ⟨[], KatTups.nil, rfl, by simp⟩
      | cons p qs ih =>
        intro hs
        obtain ⟨fs, t1, t2, t3⟩ := ih fun x hx => hs x (List.mem_cons_of_mem _ hx)
        have hp := hs p List.mem_cons_self
        obtain ⟨o, us, n, t, e, c, d⟩ := tup_at I (ht _ hp)
        refine ⟨Value.str p.2.1 t :: fs, KatTups.cons (kp _ o (fun z => by have := ht _ hp; rw [z, I.free] at this; cases this) e) c d (by simp) t1, by simp [t2], fun v hv => ?_⟩
        rcases List.mem_cons.mp hv with rfl | hv
        · exact ⟨_, _, rfl⟩
        · exact t3 v hv
    obtain ⟨fs, t1, t2, t3⟩ := firsts ps fun p hp => hp
    refine kat_kind (T := .type "str") (s := { s with heap := h' }) t1 (by rw [t2]; omega) (fun v hv => ?_) (by decide) ?_
    · obtain ⟨x, t, rfl⟩ := t3 v hv
      exact Looks.of_pure rfl
    rw [hlen]
    have O : Ord (kas_ask X.prog X.w X.A.in1.in1 (tuples' (Value.type "str" != Value.type "tuple")) (ps.map fun p => Value.ref p.1)) (fun i j => decide ((ps.getD i (0, default, [])).2.1.cps.toList < (ps.getD j (0, default, [])).2.1.cps.toList)) ps.length { s with heap := h' } := by
      have unlike : ∀ i j, i < ps.length → j < ps.length → i ≠ j → (ps.getD i (0, default, [])).2.1 ≠ (ps.getD j (0, default, [])).2.1 := fun i j hi hj hij e => by
        have ei : ps.getD i (0, default, []) = ps[i] := by simp [List.getD, hi]
        have ej : ps.getD j (0, default, []) = ps[j] := by simp [List.getD, hj]
        rw [ei, ej] at e
        exact hij ((List.getElem_inj (h₀ := by simpa using hi) (h₁ := by simpa using hj) nd).mp (by simpa using e))
      refine ⟨fun i j C hi hj hij hC => ?_, fun i j k h1 h2 => ?_, fun i j hi hj hij h1 => ?_, fun i j h1 => ?_⟩
      · show wpAny _ _ (keyLt' _ _ _) C _ _
        rw [atv i hi, atv j hj]
        obtain ⟨o, us, n, t, e, c, d⟩ := item i hi
        obtain ⟨o2, us2, n2, t2', e2, c2, d2⟩ := item j hj
        refine kat_lt (s := { s with heap := h' }) e d e2 d2 ?_
        show KatLex _ _ _ _ _ _ ((Value.str _ t, Value.str _ t2') :: _) 0 _
        refine kat_cons (wpAny_eqBool_str ?_)
        rw [decide_eq_false (unlike i j hi hj hij)]
        exact kat_no (oneLt_str hC)
      · exact decide_eq_true (List.lt_trans (of_decide_eq_true h1) (of_decide_eq_true h2))
      · exact decide_eq_true (lst_tot (of_decide_eq_false h1) fun e => unlike i j hi hj hij (str_ext e))
      · exact decide_eq_false (List.lt_asymm (of_decide_eq_true h1))
    refine sort_ok O (by omega) fun p re up => ?_
    have outs : (p.toList.map fun i => (ps.map fun p => Value.ref p.1).getD i .none) = (p.toList.map fun i => ps.getD i (0, default, [])).map fun p => Value.ref p.1 := by
      rw [List.map_map]
      refine List.map_congr_left fun i hi => ?_
      have hl2 : p.toList.Perm (List.range ps.length) := by simpa using Array.perm_iff_toList_perm.mp re.perm
      exact atv i (List.mem_range.mp ((List.Perm.mem_iff hl2).mp hi))
    rw [outs]
    have nL : D ≠ X.env.locals := (N' (D, _) List.mem_cons_self).2.1
    have hG : s.heap.get? D = none := by
      cases e : s.heap.get? D with
      | none => rfl
      | some o => exact absurd (lD (D, o) (mem_allNews nL (Att.noObjs_get _ _) e)) (Nat.lt_irrefl _)
    have hn : H D = none := by
      cases e : H D with
      | none => rfl
      | some u =>
        obtain ⟨o, e'⟩ := (I.hok D u e).live
        rw [hG] at e'
        cases e'
    refine KasFin.intro (news := (D, seqObj "list" #[] e1) :: allNews (Att.noObjs s.heap) s.heap X.env.locals) (g := fun o' => (D, o') :: allNews (Att.noObjs s.heap) s.heap X.env.locals) F' N' (.head fun q hq => nlt (lD q hq)) fun h2 c F2 N2 => ?_
    have pq := pick_perm (d := (0, default, [])) rfl re
    have I2 := I.newList (D := D) (ys := (p.toList.map fun i => ps.getD i (0, default, [])).map fun p => V.ref p.1) hm hn hG (vals_refs _) (by rw [List.length_map, pq.length_eq]; simpa using hz) F2.ns (keep h2 _ N2) (N2 (D, _) List.mem_cons_self).1
    exact ⟨.ref D, _, I2, rfl, q _ D pq (pick_pairwise (R := tkLt) (fun i j _ _ h => (of_decide_eq_true h : (ps.getD i (0, default, [])).2.1.cps.toList < (ps.getD j (0, default, [])).2.1.cps.toList)) re up) hn⟩
end
end L2
set_option maxHeartbeats 1000000
namespace L2
open PySem PySem.Spec PyProof.Rows
def lcOk (N : List Str) (sc scope : Scope) (ix : List Nat) : Bool :=
  decide (scope.kind = .function) && scope.names.all (fun y => decide (y.2 ≠ .cell)) && scope.names.all (fun y => decide (y.2 = .local → scope.names.lookup y.1 = some .local)) &&
  scope.names.all (fun y => decide (y.2 = .free → sc.names.lookup y.1 = some .cell ∨ sc.names.lookup y.1 = some .free)) &&
  ix.all (fun j => decide (j < N.length) && match N[j]? with | some x => scope.names.any (fun y => decide (y.1 = x) && decide (y.2 = .free)) && decide (scope.names.lookup x = some .free) | none => false)
theorem LcScope.of {N : List Str} {sc scope : Scope} {own : List Str} {ix : List Nat} (h : lcOk N sc scope ix = true) : LcScope N sc scope own ix := by
  unfold lcOk at h
  simp only [Bool.and_eq_true, decide_eq_true_eq, List.all_eq_true] at h
  obtain ⟨⟨⟨⟨h1, h2⟩, h3⟩, h4⟩, h5⟩ := h
  refine ⟨h1, h2, h3, h4, fun j hj x hx => ?_, fun j hj => (h5 j hj).1⟩
  have := (h5 j hj).2
  rw [hx] at this
  simp only [Bool.and_eq_true, decide_eq_true_eq, List.any_eq_true] at this
  obtain ⟨⟨⟨n, k⟩, hy, e1, e2⟩, e3⟩ := this
  have e1' : n = x := e1
  have e2' : k = .free := e2
  subst e1' e2'
  exact ⟨hy, e3⟩
theorem lc_nd {l N : List Str} (h : l.Nodup) (e : N = l) : N.Nodup := by rw [e]; exact h
structure Def (P : Program) (w : World) (K : PySem.W.Frag) (mg : Str → Option Value) (base : Heap) (k : Nat) (x : Str) (ps : List Str) (sp : Sp) : Prop where
  ex : ∃ f fd, FnOk P w K mg base CX0 k f fd ps sp ∧ Binds K fd ps [] ∧ PySem.W.keepIn K (.ref f) = true ∧ mg x = some (.ref f)
theorem Def.up {P : Program} {w : World} {K : PySem.W.Frag} {mg : Str → Option Value} {base : Heap} {j k : Nat} {x : Str} {ps : List Str} {sp : Sp} (d : Def P w K mg base j x ps sp) (h : j ≤ k) : Def P w K mg base k x ps sp :=
  let ⟨f, fd, F, b, kp, m⟩ := d.ex
  ⟨f, fd, F.mono h, b, kp, m⟩
theorem pe_def {X : Cx} {k : Nat} {x : Str} {ps : List Str} {sp : Sp} {p pos : Pos} {e : Expr} {es : List Expr} {t : TA} (d : Def X.prog X.w X.K X.mg X.base k x ps sp) (hr : Room k X.A) (hg : Gl X x) (ha : PA X (e :: es) t) (hdb : (x == ("__debug__" : Str)) = false := by decide)
    (he : starEach (e :: es) X.env = (false, eval e X.env) :: starEach es X.env := by rfl) (hpl : (backTo pos (starEach es X.env)).any (·.1) = false := by rfl) : PE X (.Call (.Name x p) (e :: es) [] pos) (tCall sp [] E0 t) := by
  obtain ⟨f, fd, F, b, kp, m⟩ := d.ex
  exact pe_call F hr hg m kp b .nil pass0 ha hdb he hpl
inductive Dv where
  | non | bl (b : Bool) | int (i : Int) | str (x : Str) | tup (xs : List Dv) | lst (xs : List Dv) | dct
mutual
def Rep (H : Hp) : Dv → V → Prop
  | .non, v => v = .non
  | .bl b, v => v = .bl b
  | .int i, v => v = .int i
  | .str x, v => v = .str x
  | .tup ds, v => ∃ a vs, v = .ref a ∧ H a = some (.tup vs) ∧ Reps H ds vs
  | .lst ds, v => ∃ a vs, v = .ref a ∧ H a = some (.lst vs) ∧ Reps H ds vs
  | .dct, v => ∃ a, v = .ref a ∧ H a = some (.dK [])
def Reps (H : Hp) : List Dv → List V → Prop
  | [], vs => vs = []
  | d :: ds, vs => ∃ v r, vs = v :: r ∧ Rep H d v ∧ Reps H ds r
end
mutual
theorem Rep.mono {H H' : Hp} (s : Same H H') : ∀ {d : Dv} {v : V}, Rep H d v → Rep H' d v
  | .non, _, h => by simpa only [Rep] using h
  | .bl b, _, h => by simpa only [Rep] using h
  | .int i, _, h => by simpa only [Rep] using h
  | .str x, _, h => by simpa only [Rep] using h
  | .tup ds, _, h => by
    simp only [Rep] at h ⊢
    obtain ⟨a, vs, e, h1, h2⟩ := h
    exact ⟨a, vs, e, s _ _ h1, Reps.mono s h2⟩
  | .lst ds, _, h => by
    simp only [Rep] at h ⊢
    obtain ⟨a, vs, e, h1, h2⟩ := h
    exact ⟨a, vs, e, s _ _ h1, Reps.mono s h2⟩
  | .dct, _, h => by
    simp only [Rep] at h ⊢
    obtain ⟨a, e, h1⟩ := h
    exact ⟨a, e, s _ _ h1⟩
theorem Reps.mono {H H' : Hp} (s : Same H H') : ∀ {ds : List Dv} {vs : List V}, Reps H ds vs → Reps H' ds vs
  | [], _, h => by simpa only [Reps] using h
  | d :: ds, _, h => by
    simp only [Reps] at h ⊢
    obtain ⟨v, r, e, h1, h2⟩ := h
    exact ⟨v, r, e, Rep.mono s h1, Reps.mono s h2⟩
end
theorem Reps.length {H : Hp} : ∀ {ds : List Dv} {vs : List V}, Reps H ds vs → vs.length = ds.length
  | [], _, h => by simp only [Reps] at h; subst h; rfl
  | d :: ds, _, h => by
    simp only [Reps] at h
    obtain ⟨v, r, e, h1, h2⟩ := h
    subst e
    rw [List.length_cons, List.length_cons, Reps.length h2]
theorem Reps.get {H : Hp} : ∀ {ds : List Dv} {vs : List V}, Reps H ds vs → ∀ {i : Nat} {v : V}, vs[i]? = some v → ∃ d, ds[i]? = some d ∧ Rep H d v
  | [], _, h, i, v, e => by simp only [Reps] at h; subst h; simp at e
  | d :: ds, _, h, i, v, e => by
    simp only [Reps] at h
    obtain ⟨v', r, e', h1, h2⟩ := h
    subst e'
    cases i with
    | zero => exact ⟨d, rfl, by have : v' = v := by simpa using e
                                subst this; exact h1⟩
    | succ i => obtain ⟨d', e1, e2⟩ := Reps.get h2 (i := i) (v := v) (by simpa using e); exact ⟨d', by simpa using e1, e2⟩
def Dv.tn : Dv → String
  | .non => "NoneType" | .bl _ => "bool" | .int _ => "int" | .str _ => "str" | .tup _ => "tuple" | .lst _ => "list" | .dct => "dict"
theorem Rep.ty {K : PySem.W.Frag} {H : Hp} {d : Dv} {v : V} (h : Rep H d v) : TyOf K H v (.type d.tn) := by
  cases d with
  | non => simp only [Rep] at h; subst h; exact .non
  | bl b => simp only [Rep] at h; subst h; exact .bl b
  | int i => simp only [Rep] at h; subst h; exact .int i
  | str x => simp only [Rep] at h; subst h; exact .str x
  | tup ds => simp only [Rep] at h; obtain ⟨a, vs, rfl, h1, _⟩ := h; exact .tup h1
  | lst ds => simp only [Rep] at h; obtain ⟨a, vs, rfl, h1, _⟩ := h; exact .lst h1
  | dct => simp only [Rep] at h; obtain ⟨a, rfl, h1⟩ := h; exact .dK h1
def isT (d : Dv) (n : String) : Bool := d.tn == n || (d.tn == "bool" && n == "int")
theorem kit_int (K : PySem.W.Frag) (d : Dv) : PySem.W.kitOne K (.type d.tn) (.type "int") = some (isT d "int") := by
  unfold PySem.W.kitOne PySem.W.kitCls
  cases d <;> kernel_rfl
theorem kit_bool (K : PySem.W.Frag) (d : Dv) : PySem.W.kitOne K (.type d.tn) (.type "bool") = some (isT d "bool") := by
  unfold PySem.W.kitOne PySem.W.kitCls
  cases d <;> kernel_rfl
theorem kit_str (K : PySem.W.Frag) (d : Dv) : PySem.W.kitOne K (.type d.tn) (.type "str") = some (isT d "str") := by
  unfold PySem.W.kitOne PySem.W.kitCls
  cases d <;> kernel_rfl
theorem kit_tuple (K : PySem.W.Frag) (d : Dv) : PySem.W.kitOne K (.type d.tn) (.type "tuple") = some (isT d "tuple") := by
  unfold PySem.W.kitOne PySem.W.kitCls
  cases d <;> kernel_rfl
end L2
set_option maxHeartbeats 1000000
namespace L2
open PySem PySem.Spec PyProof.Rows
section
variable {k : Nat} {ix : List Nat} {g : TG} {tt : TT} {te : TE} {σ : St} {H1 : Hp} {Q : List V → Hp → Prop}
theorem lc_itf_map {f F : Nat → V} {n : Nat} (hs : ∀ i ys, i < n → ys.length = i → lcTurn k ix g tt te σ (f i) ys H1 fun ys' H' => ys' = ys ++ [F i] ∧ H' = H1) (hd : Q ((List.range n).map F) H1) : rLC (Itf f n) k ix g tt te σ H1 Q := by
  refine ⟨fun i m ys H => m = n - i ∧ i ≤ n ∧ H = H1 ∧ ys = (List.range i).map F, ⟨n, by simp, Nat.zero_le _, rfl, rfl⟩, ?_⟩
  rintro i m ys H ⟨rfl, hi, rfl, rfl⟩
  by_cases hlt : i < n
  · refine .inr ⟨hlt, fun ys' H' => ys' = (List.range i).map F ++ [F i] ∧ H' = H, fun ys' H' ⟨e1, e2⟩ => ⟨n - (i + 1), by omega, rfl, hlt, e2, by rw [e1, List.range_succ, List.map_append]; rfl⟩, fun x H' y => ?_⟩
    obtain ⟨e, y⟩ := y
    subst e y
    exact hs i _ hlt (by simp)
  · have e : i = n := by omega
    subst e
    exact .inl ⟨rfl, hd⟩
theorem turn_name {i : Nat} {x : V} {ys : List V} {H : Hp} {N : List V → Hp → Prop} (h : te ((capSt k ix σ).set i (some x)) H fun y H4 => ys.length < sizeLine ∧ N (ys ++ [y]) H4) : lcTurn k ix (gName i) tYes te σ x ys H N := by
  exact iteT (B := N ys H) h
theorem turn_two {i j : Nat} {K : PySem.W.Frag} {a : Addr} {x y : V} {ys : List V} {H : Hp} {N : List V → Hp → Prop} (ha : H a = some (.tup [x, y])) (h : te (((capSt k ix σ).set i (some x)).set j (some y)) H fun y H4 => ys.length < sizeLine ∧ N (ys ++ [y]) H4) :
    lcTurn k ix (gTup K 2 (gCons (gName i) (gCons (gName j) gNil))) tYes te σ (.ref a) ys H N := by
  refine ⟨a, _, rfl, SqT.of ha, rfl, _, _, rfl, _, _, rfl, rfl, ?_⟩
  exact iteT (B := N ys H) h
theorem for_itf {f : Nat → V} {n : Nat} {g : TG} {tb : TS} {D : Ends} {σ : St} {H : Hp} (Pv : Nat → St → Hp → Prop) (h0 : Pv 0 σ H)
    (hs : ∀ i σ H, i < n → Pv i σ H → g (f i) σ H fun σ2 H2 => tb { D with nx := Pv (i + 1), ct := Pv (i + 1), bk := D.nx } σ2 H2) (hd : ∀ σ H, Pv n σ H → D.nx σ H) :
    ∃ W : Nat → Nat → St → Hp → Prop, (∃ m, W 0 m σ H) ∧ ∀ i m σ H, W i m σ H →
      ((Itf f n).stop i H ∧ D.nx σ H) ∨ ((Itf f n).go i H ∧ ∃ N : St → Hp → Prop, (∀ σ' H', N σ' H' → ∃ m', m' < m ∧ W (i + 1) m' σ' H') ∧ ∀ x H', (Itf f n).yld i H x H' → g x σ H' fun σ2 H2 => tb { D with nx := N, ct := N, bk := D.nx } σ2 H2) := by
  refine ⟨fun i m σ H => m = n - i ∧ i ≤ n ∧ Pv i σ H, ⟨n, by simp, Nat.zero_le _, h0⟩, ?_⟩
  rintro i m σ H ⟨rfl, hi, p⟩
  by_cases hlt : i < n
  · refine .inr ⟨hlt, Pv (i + 1), fun σ' H' p' => ⟨n - (i + 1), by omega, rfl, hlt, p'⟩, fun x H' y => ?_⟩
    obtain ⟨e, y⟩ := y
    subst e y
    exact hs i σ _ hlt p
  · have e : i = n := by omega
    subst e
    exact .inl ⟨rfl, hd σ H p⟩
end
/- all texts within are short -/
mutual
def Dv.small : Dv → Bool
  | .str x => decide (x.cps.size ≤ 1000)
  | .tup xs => smalls xs && decide (xs.length ≤ 1000)
  | .lst xs => smalls xs && decide (xs.length ≤ 1000)
  | _ => true
def smalls : List Dv → Bool
  | [] => true
  | d :: ds => d.small && smalls ds
end
theorem smalls_get : ∀ {ds : List Dv}, smalls ds = true → ∀ {i : Nat} {d : Dv}, ds[i]? = some d → d.small = true
  | [], _, i, d, e => by simp at e
  | x :: ds, h, i, d, e => by
    simp only [smalls, Bool.and_eq_true] at h
    cases i with
    | zero =>
      have e' : x = d := by simpa using e
      subst e'; exact h.1
    | succ i => exact smalls_get h.2 (i := i) (by simpa using e)
theorem len1000 {x : Str} (h : x.cps.size ≤ 1000) : x.length ≤ sizeLine := Nat.le_of_lt (small1000 h)
theorem same_new {H : Hp} {p : Addr} (h : H p = none) (o : HO) : Same H (upd H p o) := fun b u q => by rw [upd_ne (ne_of_none q h)]; exact q
theorem le1000 {n : Nat} (h : n ≤ 1000) : n ≤ sizeLine := Nat.le_of_lt (small1000 h)
end L2
namespace L2
open PySem PySem.Spec PyProof.Rows
section
variable {X : Cx}
end
end L2
set_option maxHeartbeats 1000000
namespace L2
open PySem PySem.Spec PyProof.Rows
section
variable {X : Cx}
end
def Deep (t : TE) (σ : St) (H : Hp) (d : Dv) : Prop := ∀ H1, Same H H1 → ∀ Q : VK, (∀ H' v, Same H1 H' → Rep H' d v → Q v H') → t σ H1 Q
def Deeps (t : TA) (σ : St) (H : Hp) (ds : List Dv) : Prop := ∀ H1, Same H H1 → ∀ Q : List V → Hp → Prop, (∀ H' vs, Same H1 H' → Reps H' ds vs → Q vs H') → t σ H1 Q
section
variable {σ : St} {H : Hp} {d e : Dv} {ds es : List Dv} {ta tb : TE} {t : TA}
theorem deeps_nil : Deeps tNil σ H [] := fun H1 s Q q => q H1 [] (Same.refl _) (by simp [Reps])
theorem deeps_cons (h1 : Deep ta σ H d) (h2 : Deeps t σ H ds) : Deeps (tCons ta t) σ H (d :: ds) := fun H1 s Q q =>
  h1 H1 s _ fun H2 v s2 R => h2 H2 (s.trans s2) _ fun H3 vs s3 Rs => q H3 (v :: vs) (s2.trans s3) (by simp only [Reps]; exact ⟨v, vs, rfl, R.mono s3, Rs⟩)
theorem deep_tup (h : Deeps t σ H ds) (hz : ds.length ≤ 1000) : Deep (tTup t) σ H (.tup ds) := fun H1 s Q q =>
  h H1 s _ fun H2 vs s2 Rs => ⟨by rw [Rs.length]; exact le1000 hz, fun p hp => q _ (.ref p) (s2.trans (same_new hp _)) (by simp only [Rep]; exact ⟨p, vs, rfl, upd_same, Rs.mono (same_new hp _)⟩)⟩
theorem deep_lst (h : Deeps t σ H ds) (hz : ds.length ≤ 1000) : Deep (tLst t) σ H (.lst ds) := fun H1 s Q q =>
  h H1 s _ fun H2 vs s2 Rs => ⟨by rw [Rs.length]; exact le1000 hz, fun p hp => q _ (.ref p) (s2.trans (same_new hp _)) (by simp only [Rep]; exact ⟨p, vs, rfl, upd_same, Rs.mono (same_new hp _)⟩)⟩
theorem deep_dct : Deep tDNewK σ H .dct := fun H1 s Q q p hp => q _ (.ref p) (same_new hp _) (by simp only [Rep]; exact ⟨p, rfl, upd_same⟩)
theorem deep_int {i : Int} : Deep (tC (.int i)) σ H (.int i) := fun H1 _ Q q => q H1 _ (Same.refl _) (by simp [Rep])
theorem deep_bl {b : Bool} : Deep (tC (.bl b)) σ H (.bl b) := fun H1 _ Q q => q H1 _ (Same.refl _) (by simp [Rep])
theorem deep_non : Deep (tC .non) σ H .non := fun H1 _ Q q => q H1 _ (Same.refl _) (by simp [Rep])
theorem deep_str {x : Str} : Deep (tC (.str x)) σ H (.str x) := fun H1 _ Q q => q H1 _ (Same.refl _) (by simp [Rep])
theorem deep_var {i : Nat} {v : V} (hv : σ[i]? = some (some v)) (R : Rep H d v) : Deep (tVar i) σ H d := fun H1 s Q q => ⟨v, hv, q H1 v (Same.refl _) (R.mono s)⟩
theorem deep_neg {i : Int} (h1 : Deep ta σ H (.int i)) : Deep (tUn (rU fun i => .int (-i)) ta) σ H (.int (-i)) := fun H1 s Q q =>
  h1 H1 s _ fun H2 v s2 R => by
    obtain rfl : v = .int i := R
    exact ⟨i, rfl, q H2 _ s2 (by simp [Rep])⟩
theorem Reps.append {H : Hp} : ∀ {ds es : List Dv} {vs ws : List V}, Reps H ds vs → Reps H es ws → Reps H (ds ++ es) (vs ++ ws)
  | [], _, _, _, h, g => by simp only [Reps] at h; subst h; exact g
  | d :: ds, es, vs, ws, h, g => by
    simp only [Reps] at h
    obtain ⟨v, r, rfl, h1, h2⟩ := h
    simp only [List.cons_append, Reps]
    exact ⟨v, r ++ ws, rfl, h1, Reps.append h2 g⟩
end
end L2
namespace L2
open PySem PySem.Spec PyProof.Rows
def less1 (H : Hp) (l : Addr) : Hp := fun b => if b = l then none else H b
theorem less1_sub {H : Hp} {l : Addr} : Same (less1 H l) H := fun b o h => by
  unfold less1 at h
  by_cases e : b = l
  · rw [if_pos e] at h; cases h
  · rw [if_neg e] at h; exact h
theorem less1_same {H H' : Hp} {l : Addr} (s : Same H H') : Same (less1 H l) (less1 H' l) := fun b o h => by
  unfold less1 at h ⊢
  by_cases e : b = l
  · rw [if_pos e] at h; cases h
  · rw [if_neg e] at h ⊢; exact s b o h
theorem less1_of {H H' : Hp} {l : Addr} (s : Same H H') (hl : H l = none) : Same H (less1 H' l) := fun b o h => by
  unfold less1
  rw [if_neg (ne_of_none h hl)]
  exact s b o h
theorem less1_upd {H : Hp} {l : Addr} {o : HO} : Same (less1 H l) (upd H l o) := fun b u h => by
  unfold less1 at h
  by_cases e : b = l
  · rw [if_pos e] at h; cases h
  · rw [if_neg e] at h; rw [upd_ne e]; exact h
theorem less1_new {H : Hp} {l p : Addr} {o : HO} (hl : H l ≠ none) (hp : H p = none) : less1 (upd H p o) l p = some o ∧ Same (less1 H l) (less1 (upd H p o) l) := by
  have ne : p ≠ l := fun e => hl (e ▸ hp)
  refine ⟨?_, less1_same (same_new hp o)⟩
  unfold less1
  rw [if_neg ne, upd_same]
structure RepL (H : Hp) (l : Addr) (ds : List Dv) : Prop where
  ex : ∃ xs, H l = some (.lst xs) ∧ Reps (less1 H l) ds xs
theorem RepL.rep {H : Hp} {l : Addr} {ds : List Dv} (h : RepL H l ds) : Rep H (.lst ds) (.ref l) := by
  obtain ⟨xs, h1, h2⟩ := h.ex
  simp only [Rep]
  exact ⟨l, xs, rfl, h1, h2.mono less1_sub⟩
def DeepA (l : Addr) (t : TE) (σ : St) (H : Hp) (d : Dv) : Prop := ∀ H1, Same H H1 → ∀ Q : VK, (∀ H' v, Same H1 H' → Rep (less1 H' l) d v → Q v H') → t σ H1 Q
def DeepsA (l : Addr) (t : TA) (σ : St) (H : Hp) (ds : List Dv) : Prop := ∀ H1, Same H H1 → ∀ Q : List V → Hp → Prop, (∀ H' vs, Same H1 H' → Reps (less1 H' l) ds vs → Q vs H') → t σ H1 Q
section
variable {σ : St} {H : Hp} {d e : Dv} {ds es : List Dv} {ta tb : TE} {t : TA} {l : Addr}
theorem deepsA_nil : DeepsA l tNil σ H [] := fun H1 s Q q => q H1 [] (Same.refl _) (by simp [Reps])
theorem deepsA_cons (h1 : DeepA l ta σ H d) (h2 : DeepsA l t σ H ds) : DeepsA l (tCons ta t) σ H (d :: ds) := fun H1 s Q q =>
  h1 H1 s _ fun H2 v s2 R => h2 H2 (s.trans s2) _ fun H3 vs s3 Rs => q H3 (v :: vs) (s2.trans s3) (by simp only [Reps]; exact ⟨v, vs, rfl, R.mono (less1_same s3), Rs⟩)
theorem same_some {H H' : Hp} (s : Same H H') {l : Addr} (h : H l ≠ none) : H' l ≠ none := by
  cases e : H l with
  | none => exact absurd e h
  | some o => rw [s l o e]; exact fun z => by cases z
theorem deepA_tup (hl : H l ≠ none) (h : DeepsA l t σ H ds) (hz : ds.length ≤ 1000) : DeepA l (tTup t) σ H (.tup ds) := fun H1 s Q q =>
  h H1 s _ fun H2 vs s2 Rs => ⟨by rw [Rs.length]; exact le1000 hz, fun p hp => by
    obtain ⟨e1, e2⟩ := less1_new (o := .tup vs) (same_some (s.trans s2) hl) hp
    exact q _ (.ref p) (s2.trans (same_new hp _)) (by simp only [Rep]; exact ⟨p, vs, rfl, e1, Rs.mono e2⟩)⟩
theorem deepA_int {i : Int} : DeepA l (tC (.int i)) σ H (.int i) := fun H1 _ Q q => q H1 _ (Same.refl _) (by simp [Rep])
theorem deepA_str {x : Str} : DeepA l (tC (.str x)) σ H (.str x) := fun H1 _ Q q => q H1 _ (Same.refl _) (by simp [Rep])
variable {i : Nat} {u : TS} {D : Ends}
theorem set_deep (h : Deep ta σ H d) (k : ∀ H' v, Same H H' → Rep H' d v → u D (σ.set i (some v)) H') : tSeq (tAsg ta (gName i)) u D σ H := h H (Same.refl H) _ k
theorem set_lst (h : Deeps t σ H ds) (hz : ds.length ≤ 1000) (k : ∀ H' l, Same H (less1 H' l) → RepL H' l ds → u D (σ.set i (some (.ref l))) H') : tSeq (tAsg (tLst t) (gName i)) u D σ H :=
  h H (Same.refl H) _ fun H1 xs s1 Rs => ⟨by rw [Rs.length]; exact le1000 hz, fun p hp => k _ p (fun b o e => less1_of (same_new hp (.lst xs)) hp b o (s1 b o e)) ⟨xs, upd_same, Rs.mono (less1_of (same_new hp _) hp)⟩⟩
theorem set_cat (h1 : Deep ta σ H (.lst ds)) (h2 : Deep tb σ H (.lst es)) (hz : ds.length + es.length ≤ 1000) (k : ∀ H' l, Same H (less1 H' l) → RepL H' l (ds ++ es) → u D (σ.set i (some (.ref l))) H') : tSeq (tAsg (tOp rCat ta tb) (gName i)) u D σ H :=
  h1 H (Same.refl H) _ fun H2 v s2 R => h2 H2 s2 _ fun H3 w s3 R2 => by
    have R' := R.mono s3
    simp only [Rep] at R' R2
    obtain ⟨a, xs, rfl, ha, r1⟩ := R'
    obtain ⟨b, ys, rfl, hb, r2⟩ := R2
    have rr := r1.append r2
    exact ⟨a, b, xs, ys, rfl, rfl, ha, hb, by rw [r1.length, r2.length]; exact le1000 hz, fun p hp => k _ p (fun b o e => less1_of (same_new hp (.lst (xs ++ ys))) hp b o (s3 b o (s2 b o e))) ⟨xs ++ ys, upd_same, rr.mono (less1_of (same_new hp _) hp)⟩⟩
theorem app_deep {K : PySem.W.Frag} (hv : σ[i]? = some (some (.ref l))) (R : RepL H l ds) (h : DeepA l ta σ H d) (hz : ds.length < 1000) (k : ∀ H', Same (less1 H l) H' → (∀ B, Same B (less1 H l) → B l = none → Same B (less1 H' l)) → RepL H' l (ds ++ [d]) → u D σ H') : tSeq (tDrop (tBM K "list" rAppend (tVar i) (tCons ta tNil))) u D σ H := by
  obtain ⟨xs, h1, h2⟩ := R.ex
  refine ⟨_, hv, .inl ⟨rfl, xs, SqL.of h1⟩, h H (Same.refl H) _ fun H2 v s2 Rv => ⟨l, xs, v, rfl, rfl, s2 _ _ h1, by rw [h2.length]; exact small1000 (by omega), ?_⟩⟩
  have e : Same (less1 H2 l) (less1 (upd H2 l (.lst (xs ++ [v]))) l) := fun b o z => by
    unfold less1 at z ⊢
    by_cases eb : b = l
    · rw [if_pos eb] at z; cases z
    · rw [if_neg eb] at z ⊢; rw [upd_ne eb]; exact z
  refine k _ ((less1_same s2).trans less1_upd) (fun B sB hB => sB.trans ((less1_same s2).trans e)) ⟨xs ++ [v], upd_same, Reps.append ((h2.mono (less1_same s2)).mono e) ?_⟩
  simp only [Reps]
  exact ⟨v, [], rfl, Rv.mono e, rfl⟩
end
end L2
set_option maxHeartbeats 1000000
namespace L2
open PySem PySem.Spec PyProof.Rows
section
variable {X : Cx}
end
end L2
set_option maxHeartbeats 4000000
namespace L2
open PySem PySem.Spec PyProof.Rows
end L2
set_option maxHeartbeats 4000000
namespace L2
open PySem PySem.Spec PyProof.Rows
section
variable {prog : Program} {w : World} {K : Type} [DecidableEq K] {knd : PySem.KeyKind prog w K} {A : Around} {R : Result → Shared → Prop} {I d : Addr} {fp wr : List Addr} {n : Nat} {P : Nat → Value → Prop} {St : Nat → Heap → Prop}
end
end L2
set_option maxHeartbeats 4000000
namespace L2
open PySem PySem.Spec PyProof.Rows
section
variable {prog : Program} {w : World} {K : Type} [DecidableEq K] {knd : PySem.KeyKind prog w K} {A : Around} {E : Value → Shared → Prop} {s : Shared}
end
end L2
set_option maxHeartbeats 4000000
namespace L2
open PySem PySem.Spec PyProof.Rows
section
variable {X : Cx}
end
end L2
set_option maxHeartbeats 4000000
namespace L2
open PySem PySem.Spec PyProof.Rows
section
variable {X : Cx}
end
end L2
set_option maxHeartbeats 4000000
namespace L2
open PySem PySem.Spec PyProof.Rows PySem.W
section
variable {X : Cx} {pins : List (Addr × Obj)} {σ : St} {H : Hp} {s : Shared}
end
end L2
set_option maxHeartbeats 1000000
namespace L2
open PySem PySem.Spec PyProof.Rows
section
variable {X : Cx} {pins : List (Addr × Obj)} {σ : St} {H : Hp} {s : Shared}
end
section
variable {X : Cx}
end
section
variable {P : Program} {w : World} {K : PySem.W.Frag} {mg : Str → Option Value} {base : Heap}
end
end L2
set_option maxHeartbeats 1000000
namespace L2
open PySem PySem.Spec PyProof.Rows PySem.W
section
variable {X : Cx} {e st : Expr} {te : TE} {ts : TO} {p2 pos : Pos}
end
section
variable {X : Cx}
end
end L2
set_option maxHeartbeats 1000000
namespace L2
open PySem PySem.Spec PyProof.Rows PySem.W
section
variable {P : Program} {w : World} {A : Around} {E : Value → Shared → Prop} {s : Shared}
end
end L2
set_option maxHeartbeats 3200000
namespace L2
open PySem PySem.Spec PyProof.Rows PySem.W
section
variable {P : Program} {w : World} {A : Around} {R : Result → Shared → Prop} {I : Addr} {fp wr : List Addr} {G : Array GenState → Array GenState → Prop} {n : Nat} {Pv : Nat → Value → Prop} {St : Nat → Shared → Prop}
end
section
variable {P : Program} {w : World} {A : Around} {E : Value → Shared → Prop} {s : Shared}
end
end L2
set_option maxHeartbeats 1000000
namespace L2
open PySem PySem.Spec PyProof.Rows PySem.W
section
variable {P : Program} {w : World} {A : Around} {E : Value → Shared → Prop}
variable {s : Shared} {it S : Addr} {o : Obj} {es : Array (Int × Value)} {ep n i : Nat} {t : SetTable}
end
end L2
set_option maxHeartbeats 1000000
namespace L2
open PySem PySem.Spec PyProof.Rows PySem.W
section
variable {P : Program} {w : World} {A : Around} {E : Value → Shared → Prop} {s : Shared} {it S : Addr} {o : Obj} {es : Array (Int × Value)} {ep n i : Nat} {t : SetTable}
end
end L2
set_option maxHeartbeats 1000000
namespace L2
open PySem PySem.Spec PyProof.Rows PySem.W
section
variable {P : Program} {w : World} {A : Around} {E : Value → Shared → Prop} {s : Shared} {it S tp : Addr} {o ot : Obj} {es : Array (Int × Value)} {ep n i m : Nat} {t : SetTable} {pl : Array Value}
end
end L2
set_option maxHeartbeats 1000000
namespace L2
open PySem PySem.Spec PyProof.Rows PySem.W
section
variable {P : Program} {w : World} {A : Around} {E : Value → Shared → Prop} {s : Shared} {S : Addr} {o : Obj} {es : Array (Int × Value)} {ep : Nat} {t : SetTable}
end
end L2
set_option maxHeartbeats 1000000
namespace L2
open PySem PySem.Spec PyProof.Rows PySem.W
section
variable {P : Program} {w : World} {it S tp : Addr} {o ot : Obj} {es : Array (Int × Value)} {ep m : Nat} {t : SetTable}
end
end L2
set_option maxHeartbeats 1000000
namespace L2
open PySem PySem.Spec PyProof.Rows PySem.W
section
variable {P : Program} {w : World} {A : Around} {E : Value → Shared → Prop} {s : Shared} {S : Addr} {xs : List Str}
variable {R : Result → Shared → Prop} {it L : Addr} {fp : List Addr} {vs : List Value} {St : Nat → Heap → Prop}
end
end L2
set_option maxHeartbeats 1000000
namespace L2
open PySem PySem.Spec PyProof.Rows PySem.W
section
variable {P : Program} {w : World} {A : Around} {E : Value → Shared → Prop} {s : Shared} {S : Addr} {xs : List Str}
end
section
variable {X : Cx} {pins : List (Addr × Obj)} {σ : St} {H : Hp} {s : Shared}
end
section
variable {X : Cx}
end
end L2
set_option maxHeartbeats 1000000
namespace L2
open PySem PySem.Spec PyProof.Rows PySem.W
section
variable {X : Cx}
theorem log_big {j : Int} (h0 : 0 < j) (h1 : j < 10 ^ 60) : j.natAbs.log2 < 9000 := by
  have hn : j.natAbs < 2 ^ 200 := by omega
  have := (Nat.log2_lt (n := j.natAbs) (k := 200) (by omega)).mpr hn
  omega
def CDivB (i j : Int) : Prop := 0 < j ∧ j < 10 ^ 60
theorem op_fdivB : OpR X (binaryOp .FloorDiv) (rI CDivB fun i j => .int (i / j)) := opI fun i j _ _ _ _ _ hc q => by
  have h1 : (0 : Int) < j := hc.1
  exact floordiv_int (by omega) (by rw [Int.fdiv_eq_ediv_of_nonneg i (by omega)]; exact q) (.inl (PyProof.noPylong_of_log2 (log_big hc.1 hc.2)))
end
end L2
set_option maxHeartbeats 1000000
namespace L2
open PySem PySem.Spec PyProof.Rows PySem.W
theorem vals_by : ∀ {xs : List V} {us : List Value}, xs.length = us.length → (∀ (i : Nat) (x : V) (u : Value), xs[i]? = some x → us[i]? = some u → RelV x u) → Vals xs us
  | [], [], _, _ => .nil
  | [], _ :: _, h, _ => by cases h
  | _ :: _, [], h, _ => by cases h
  | x :: xs, u :: us, h, g => .cons (g 0 x u rfl rfl) (vals_by (by simpa using h) fun i y v h1 h2 => g (i + 1) y v h1 h2)
section
variable {X : Cx}
theorem call_listD (hc : X.calm = true) : CallR X (.type "list") (fun xs H Q => ∃ (d : Addr) (kvs : List (Key × V)), xs = [.ref d] ∧ H d = some (.dK kvs) ∧ ∀ l, H l = none → Q (.ref l) (upd H l (.lst (kvs.map fun p => kV p.1)))) := by
  intro pins s σ H xs us Q I r h
  obtain ⟨d, kvs, rfl, hd, q⟩ := h
  obtain ⟨u, rfl, ru⟩ := vals1 r
  cases ru
  obtain ⟨z, hdm, vs, rel, dd⟩ := dk_of I.hok hd
  obtain ⟨ep, da⟩ := dd.dictAt
  have hvl : kvs.length = vs.length := rel.length
  refine kdl_call (kdl_dict (knd := mixKind X.prog X.w) (kvs := vs) (ep := ep) hdm) (I.ok.hd hc) da (by rw [← hvl]; exact z) fun h' tk acc c k hl it => ?_
  have rv : Vals (kvs.map fun p => kV p.1) acc.toList := by
    refine vals_by (by rw [List.length_map, hvl]; simpa using it.1.symm) fun i x u h1 h2 => ?_
    obtain ⟨key, y, e1, e2⟩ := it.2 i u (by simpa using h2)
    obtain ⟨y', hy, _⟩ := rel.at e1
    rw [List.getElem?_map, hy] at h1
    obtain rfl : kV key = x := Option.some.inj h1
    exact kV_of e2
  exact ⟨.ref s.heap.objs.size, _, I.laid (t' := tk) k (Nat.le_refl _) (show ObjOk X.prog X.w _ h' _ (.lst (kvs.map fun p => kV p.1)) from ⟨by rw [List.length_map]; exact z, acc.toList, c, rv, by simpa using hl⟩), rfl, q _ I.fresh⟩
end
end L2
set_option maxHeartbeats 1000000
namespace L2
open PySem PySem.Spec PyProof.Rows
section
variable {prog : Program} {w : World} {A : Around} {E : Value → Shared → Prop} {s : Shared}
theorem nextOf_tup_item {it t : Addr} {i : Nat} {its : Array Value} {x : Value} {Q : Value → Shared → Prop} (hit : s.heap.IsTupleIter it t i) (ht : s.heap.IsTuple t its) (hx : its[i]? = some x)
    (hQ : ∀ h', h'.IsTupleIter it t (i + 1) → Heap.SameBut it s.heap h' → Q x { s with heap := h' }) : wpAny (model prog w) A (Builtin.SmallTypes.nextOf (.ref it)) Q E s := by
  obtain ⟨o, ho, hc, hd⟩ := id hit
  obtain ⟨ol, hol, _, nl, hdl⟩ := ht
  unfold Builtin.SmallTypes.nextOf
  refine wpAny_bind (wpAny_callSpecial?_slot (name := Str.ofString "__next__") hit.typeIs F.slot_tuple_iterator_next (wpAny_call_entry F.slot_tuple_iterator_next hit.typeIs F.entry_tuple_iterator_next ?_ (F.args_tuple_iterator_next_1 _)))
  show wpAny _ _ (field (.ref it) 0 >>= _) _ _ s; refine wpAny_bind (wpAny_field ho hd (x := .ref t) rfl ?_)
  show wpAny _ _ (if (Value.ref t == Value.none) = true then _ else _) _ _ s; rw [if_neg (show ¬ ((Value.ref t == Value.none) = true) from Bool.false_ne_true)]
  show wpAny _ _ (field (.ref it) 1 >>= _) _ _ s; refine wpAny_bind (wpAny_field ho hd (x := .int i 0) rfl ?_)
  show wpAny _ _ (seqItems? (.ref t) >>= _) _ _ s; refine wpAny_bind (wpAny_seqItems hol hdl ?_); simp only [Int.toNat_natCast, hx]
  refine wpAny_bind (wpAny_setField ho hd (by simp) (wpAny_pure ⟨x, rfl, wpAny_pure (hQ _ ⟨_, Heap.get?_update_self _ ho (Obj.isFreed_of_fields (Obj.data_mapFields hd _)), (Obj.cls_mapFields ..).trans hc, by rw [Obj.data_mapFields hd]; simp [rawInt]⟩ (Heap.SameBut.update ..))⟩))
theorem nextOf_tup_end {it t : Addr} {i : Nat} {its : Array Value} {Q : Value → Shared → Prop} (hh : A.handled = none) (hit : s.heap.IsTupleIter it t i) (ht : s.heap.IsTuple t its) (hx : its[i]? = none)
    (hE : ∀ h' e, Heap.ExtBut it s.heap h' → (∃ o, h'.get? e = some o ∧ o.cls = .type "StopIteration") → E (.ref e) { s with heap := h' }) : wpAny (model prog w) A (Builtin.SmallTypes.nextOf (.ref it)) Q E s := by
  obtain ⟨o, ho, hc, hd⟩ := id hit
  obtain ⟨ol, hol, _, nl, hdl⟩ := ht
  unfold Builtin.SmallTypes.nextOf
  refine wpAny_bind (wpAny_callSpecial?_slot (name := Str.ofString "__next__") hit.typeIs F.slot_tuple_iterator_next (wpAny_call_entry F.slot_tuple_iterator_next hit.typeIs F.entry_tuple_iterator_next ?_ (F.args_tuple_iterator_next_1 _)))
  show wpAny _ _ (field (.ref it) 0 >>= _) _ _ s; refine wpAny_bind (wpAny_field ho hd (x := .ref t) rfl ?_)
  show wpAny _ _ (if (Value.ref t == Value.none) = true then _ else _) _ _ s; rw [if_neg (show ¬ ((Value.ref t == Value.none) = true) from Bool.false_ne_true)]
  show wpAny _ _ (field (.ref it) 1 >>= _) _ _ s; refine wpAny_bind (wpAny_field ho hd (x := .int i 0) rfl ?_)
  show wpAny _ _ (seqItems? (.ref t) >>= _) _ _ s; refine wpAny_bind (wpAny_seqItems hol hdl ?_); simp only [Int.toNat_natCast, hx]
  refine wpAny_bind (wpAny_rule (wpAny_bind (wpAny_setField ho hd (by simp) ?_))); show wpAny _ _ (newExc (.type "StopIteration") [] >>= _) _ _ _
  refine wpAny_bind ?_; simp only [newExc, newTuple]; refine wpAny_bind (wpAny_newObj_type ?_ (by size_fits))
  refine wpAny_bind (m := firstArgMember _ _) (wpAny_of_eq (a := Value.none) (by first | rfl | (simp only [firstArgMember]; rfl)) (wpAny_newObj_type ?_ (by size_fits)))
  simp only [raiseNew]; refine wpAny_bind (wpAny_handled ?_); first | rw [show A.in1.handled = none from hh] | rw [hh]
  refine wpAny_bind (wpAny_pure (wpAny_throw (hE _ _ (((Heap.SameBut.update ..).extBut.push _).push _) ⟨_, Heap.get?_push_size _ rfl, rfl⟩)))
end
section
variable {X : Cx}
end
end L2
set_option maxHeartbeats 1000000
namespace L2
open PySem PySem.Spec PyProof.Rows PySem.W
section
variable {X : Cx}
variable {tg : Expr}
end
end L2
set_option maxHeartbeats 1000000
namespace L2
open PySem PySem.Spec PyProof.Rows PySem.W
mutual
theorem Rep.inj {H : Hp} : ∀ (d e : Dv) (v : V), Rep H d v → Rep H e v → d = e
  | .tup ds, e, v, h1, h2 => by
    simp only [Rep] at h1
    obtain ⟨a, vs, rfl, ha, rs⟩ := h1
    cases e with
    | tup es => simp only [Rep] at h2; obtain ⟨b, ws, eb, hb, rs2⟩ := h2; cases eb; rw [ha] at hb; cases hb; rw [Reps.inj ds es vs rs rs2]
    | lst es => simp only [Rep] at h2; obtain ⟨b, ws, eb, hb, rs2⟩ := h2; cases eb; rw [ha] at hb; cases hb
    | dct => simp only [Rep] at h2; obtain ⟨b, eb, hb⟩ := h2; cases eb; rw [ha] at hb; cases hb
    | _ => simp only [Rep] at h2; cases h2
  | .lst ds, e, v, h1, h2 => by
    simp only [Rep] at h1
    obtain ⟨a, vs, rfl, ha, rs⟩ := h1
    cases e with
    | lst es => simp only [Rep] at h2; obtain ⟨b, ws, eb, hb, rs2⟩ := h2; cases eb; rw [ha] at hb; cases hb; rw [Reps.inj ds es vs rs rs2]
    | tup es => simp only [Rep] at h2; obtain ⟨b, ws, eb, hb, rs2⟩ := h2; cases eb; rw [ha] at hb; cases hb
    | dct => simp only [Rep] at h2; obtain ⟨b, eb, hb⟩ := h2; cases eb; rw [ha] at hb; cases hb
    | _ => simp only [Rep] at h2; cases h2
  | .dct, e, v, h1, h2 => by
    simp only [Rep] at h1
    obtain ⟨a, rfl, ha⟩ := h1
    cases e with
    | dct => rfl
    | tup es => simp only [Rep] at h2; obtain ⟨b, ws, eb, hb, rs2⟩ := h2; cases eb; rw [ha] at hb; cases hb
    | lst es => simp only [Rep] at h2; obtain ⟨b, ws, eb, hb, rs2⟩ := h2; cases eb; rw [ha] at hb; cases hb
    | _ => simp only [Rep] at h2; cases h2
  | .non, e, v, h1, h2 => by
    simp only [Rep] at h1; subst h1
    cases e with
    | non => rfl
    | tup es => simp only [Rep] at h2; obtain ⟨b, ws, eb, _⟩ := h2; cases eb
    | lst es => simp only [Rep] at h2; obtain ⟨b, ws, eb, _⟩ := h2; cases eb
    | dct => simp only [Rep] at h2; obtain ⟨b, eb, _⟩ := h2; cases eb
    | _ => simp only [Rep] at h2; cases h2
  | .bl _, e, v, h1, h2 => by
    simp only [Rep] at h1; subst h1
    cases e with
    | bl b => simp only [Rep] at h2; cases h2; rfl
    | tup es => simp only [Rep] at h2; obtain ⟨b, ws, eb, _⟩ := h2; cases eb
    | lst es => simp only [Rep] at h2; obtain ⟨b, ws, eb, _⟩ := h2; cases eb
    | dct => simp only [Rep] at h2; obtain ⟨b, eb, _⟩ := h2; cases eb
    | _ => simp only [Rep] at h2; cases h2
  | .int _, e, v, h1, h2 => by
    simp only [Rep] at h1; subst h1
    cases e with
    | int b => simp only [Rep] at h2; cases h2; rfl
    | tup es => simp only [Rep] at h2; obtain ⟨b, ws, eb, _⟩ := h2; cases eb
    | lst es => simp only [Rep] at h2; obtain ⟨b, ws, eb, _⟩ := h2; cases eb
    | dct => simp only [Rep] at h2; obtain ⟨b, eb, _⟩ := h2; cases eb
    | _ => simp only [Rep] at h2; cases h2
  | .str _, e, v, h1, h2 => by
    simp only [Rep] at h1; subst h1
    cases e with
    | str b => simp only [Rep] at h2; cases h2; rfl
    | tup es => simp only [Rep] at h2; obtain ⟨b, ws, eb, _⟩ := h2; cases eb
    | lst es => simp only [Rep] at h2; obtain ⟨b, ws, eb, _⟩ := h2; cases eb
    | dct => simp only [Rep] at h2; obtain ⟨b, eb, _⟩ := h2; cases eb
    | _ => simp only [Rep] at h2; cases h2
theorem Reps.inj {H : Hp} : ∀ (ds es : List Dv) (vs : List V), Reps H ds vs → Reps H es vs → ds = es
  | [], es, vs, h1, h2 => by
    simp only [Reps] at h1; subst h1
    cases es with
    | nil => rfl
    | cons e es => simp only [Reps] at h2; obtain ⟨v, r, e2, _⟩ := h2; cases e2
  | d :: ds, es, vs, h1, h2 => by
    simp only [Reps] at h1
    obtain ⟨v, r, rfl, r1, rs1⟩ := h1
    cases es with
    | nil => simp only [Reps] at h2; cases h2
    | cons e es =>
      simp only [Reps] at h2
      obtain ⟨v2, r2, e2, r3, rs3⟩ := h2
      cases e2
      rw [Rep.inj d e v r1 r3, Reps.inj ds es r rs1 rs3]
end
inductive Pl : Nat → Dv → Prop
  | int {n : Nat} {i : Int} : Pl n (.int i)
  | str {n : Nat} {x : Str} : Pl n (.str x)
  | non {n : Nat} : Pl n .non
  | tup {n : Nat} {ds : List Dv} : (∀ d ∈ ds, Pl n d) → Pl (n + 1) (.tup ds)
theorem Pl.up {m n : Nat} {d : Dv} (h : Pl m d) : m ≤ n → Pl n d := by
  induction h generalizing n with
  | int => intro _; exact .int
  | str => intro _; exact .str
  | non => intro _; exact .non
  | tup _ ih =>
    intro l
    obtain ⟨k, rfl⟩ : ∃ k, n = k + 1 := ⟨n - 1, by omega⟩
    exact .tup fun d hd => ih d hd (by omega)
section
variable {X : Cx} {pins : List (Addr × Obj)} {σ : St} {H : Hp} {s : Shared}
end
section
variable {X : Cx}
end
theorem hu150_of {A : Around} {k : Nat} (hr : Room k A) : A.units + 150 < cLine := by have := hr.un; omega
end L2
set_option maxHeartbeats 1000000
namespace L2
open PySem PySem.Spec PyProof.Rows PySem.W
section
variable {X : Cx} {k : Nat} {f : Addr} {fd : FuncData} {ps : List Str} {sp : Sp} {x : Str} {p pos : Pos} {e : Expr} {es : List Expr} {t : TA}
end
section
variable {prog : Program} {w : World} {A : Around} {E : Value → Shared → Prop} {s : Shared} {r l S : Addr} {items : Array Value}
end
section
variable {X : Cx} {e : Expr} {te : TE} {p p1 pos pos1 : Pos}
end
end L2
set_option maxHeartbeats 1000000
namespace L2
open PySem PySem.Spec PyProof.Rows PySem.W
theorem ne_cls {h : Heap} {a b : Addr} {o u : Obj} (h1 : h.get? a = some o) (h2 : h.get? b = some u) (n : o.cls ≠ u.cls) : a ≠ b := fun z => by subst z; rw [h1] at h2; cases h2; exact n rfl
section
variable {X : Cx}
end
end L2
set_option maxHeartbeats 1000000
namespace L2
open PySem PySem.Spec PyProof.Rows PySem.W
theorem vals_rev {xs : List V} {us : List Value} (h : Vals xs us) : Vals xs.reverse us.reverse := by
  have hl := h.length
  refine vals_by (by rw [List.length_reverse, List.length_reverse, hl]) fun i x u h1 h2 => ?_
  have hi : i < xs.length := by have := (List.getElem?_eq_some_iff.mp h1).1; rwa [List.length_reverse] at this
  rw [List.getElem?_reverse hi] at h1
  rw [List.getElem?_reverse (by omega), ← hl] at h2
  obtain ⟨u', hu', ru⟩ := h.get h1
  rw [h2] at hu'
  cases hu'
  exact ru
section
variable {X : Cx} {pins : List (Addr × Obj)} {s : Shared} {σ : St} {H : Hp}
end
section
variable {X : Cx}
end
end L2
set_option maxHeartbeats 1000000
namespace L2
open PySem PySem.Spec PyProof.Rows PySem.W
section
end
end L2
set_option maxHeartbeats 1000000
namespace L2
open PySem PySem.Spec PyProof.Rows PySem.W
section
variable {prog : Program} {w : World} {A : Around} {E : Value → Shared → Prop} {s : Shared}
end
section
variable {X : Cx} {tg e : Expr} {ta : TA} {p pos : Pos}
end
end L2
set_option maxHeartbeats 1000000
namespace L2
open PySem PySem.Spec PyProof.Rows PySem.W
section
variable {X : Cx}
end
end L2
set_option maxHeartbeats 1000000
namespace L2
open PySem PySem.Spec PyProof.Rows PySem.W
section
variable {X : Cx}
end
end L2
set_option maxHeartbeats 1000000
namespace L2
open PySem PySem.Spec PyProof.Rows
theorem pe_def0 {X : Cx} {k : Nat} {x : Str} {ps : List Str} {sp : Sp} {p pos : Pos} (d : Def X.prog X.w X.K X.mg X.base k x ps sp) (hr : Room k X.A) (hg : Gl X x) (hdb : (x == ("__debug__" : Str)) = false := by decide) : PE X (.Call (.Name x p) [] [] pos) (tCall sp [] E0 tNil) := by
  obtain ⟨f, fd, F, b, kp, m⟩ := d.ex
  exact pe_call0 F hr hg m kp b .nil pass0 hdb
section
variable {σ : St} {H : Hp} {d e : Dv} {ds es : List Dv} {ta tb : TE} {t : TA} {l : Addr}
theorem deepA_non : DeepA l (tC .non) σ H .non := fun H1 _ Q q => q H1 _ (Same.refl _) (by simp [Rep])
variable {i : Nat} {u : TS} {D : Ends}
end
end L2
set_option maxHeartbeats 1000000
namespace L2
open PySem PySem.Spec PyProof.Rows PySem.W
section
variable {X : Cx}
end
end L2
set_option maxHeartbeats 1000000
namespace L2
open PySem PySem.Spec PyProof.Rows PySem.W
section
variable {prog : Program} {w : World} {A : Around} {E : Value → Shared → Prop} {s : Shared}
theorem item_slice {t sl : Addr} {items : Array Value} {lo st : Int} {n : Nat} {Q : Value → Shared → Prop} (ht : IsTup s.heap t items) (hTs : s.TypeIs (.ref sl) "slice")
    (hap : ∀ {A' : Around} {E' : Value → Shared → Prop} {Q' : Int × Int × Nat → Shared → Prop}, Q' (lo, st, n) s → wpAny (model prog w) A' (Builtin.Slice.sliceApplied (.ref sl) (pure (items.size : Int))) Q' E' s)
    (hw : (lo == 0 && st == 1 && n == items.size) = true → Q (.ref t) s)
    (hn : Q (.ref s.heap.objs.size) { s with heap := s.heap.push { cls := .type "tuple", data := .seq ((List.range n).filterMap fun (k : Nat) => items[(lo + (k : Int) * st).toNat]?).toArray } })
    (hsz : ((List.range n).filterMap fun (k : Nat) => items[(lo + (k : Int) * st).toNat]?).toArray.size ≤ sizeLine) : wpAny (model prog w) A (getItem (.ref t) (.ref sl)) Q E s := by
  unfold getItem; try with_reducible refine wpAny_holding ?_
  (first | refine wpAny_bind (wpAny_pure ?_) | skip); refine wpAny_bind (wpAny_sequenceKey ht.typeIs (by decide) ?_)
  refine wpAny_bind (wpAny_callSpecial?_slot (name := Str.ofString "__getitem__") ht.typeIs PyProof.Rows.slot_tuple_getitem (wpAny_call_entry PyProof.Rows.slot_tuple_getitem ht.typeIs entry_tuple_getitem ?_ (args_tuple_getitem _ _)))
  show wpAny _ _ (Builtin.Tuple.tupleItemsOf (.ref t) >>= _) _ _ s; refine wpAny_bind (tupleItemsOf_ ht ?_)
  refine wpAny_bind (wpAny_typeOf hTs ?_); rw [if_pos (by decide)]
  refine wpAny_bind (hap ?_)
  show wpAny _ _ (if (lo == 0 && st == 1 && n == items.size) = true then _ else _) _ _ s
  by_cases c : (lo == 0 && st == 1 && n == items.size) = true
  · rw [if_pos c]
    refine wpAny_bind (m := Builtin.Tuple.tupleIsExact (.ref t)) ?_
    unfold Builtin.Tuple.tupleIsExact
    refine wpAny_bind (wpAny_typeOf ht.typeIs (wpAny_pure ?_))
    show wpAny _ _ (if (Value.type "tuple" == Value.type "tuple") = true then _ else _) _ _ s
    rw [if_pos (by decide)]
    exact wpAny_bind (wpAny_rule (wpAny_bind (wpAny_pure (wpAny_pure ⟨_, rfl, wpAny_pure (hw c)⟩))))
  · rw [if_neg c]
    first
      | exact wpAny_bind (m := Builtin.Tuple.tupleExact _) (wpAny_newObj_type (wpAny_pure ⟨_, rfl, wpAny_pure hn⟩) hsz)
      | exact wpAny_bind (m := Builtin.Tuple.tupleExact _) (wpAny_newObj_type (wpAny_bind (wpAny_pure (wpAny_pure ⟨_, rfl, wpAny_pure hn⟩))) hsz)
      | exact wpAny_bind (wpAny_bind (m := Builtin.Tuple.tupleExact _) (wpAny_newObj_type (wpAny_pure (wpAny_pure ⟨_, rfl, wpAny_pure hn⟩)) hsz))
      | exact wpAny_bind (wpAny_bind (m := Builtin.Tuple.tupleExact _) (wpAny_newObj_type (wpAny_pure ⟨_, rfl, wpAny_pure hn⟩) hsz))
theorem pick_rev (xs : Array Value) : ((List.range xs.size).filterMap fun (k : Nat) => xs[((xs.size : Int) - 1 + (k : Int) * (-1)).toNat]?) = xs.toList.reverse := by
  have e : ((List.range xs.size).filterMap fun (k : Nat) => xs[((xs.size : Int) - 1 + (k : Int) * (-1)).toNat]?) = (List.range xs.size).filterMap fun k => some (xs.getD (xs.size - 1 - k) .none) := by
    have cg : ∀ (l : List Nat) (f g : Nat → Option Value), (∀ k ∈ l, f k = g k) → l.filterMap f = l.filterMap g := fun l f g h => by
      induction l with
      | nil => rfl
      | cons x l ih => rw [List.filterMap_cons, List.filterMap_cons, h x List.mem_cons_self, ih fun k hk => h k (List.mem_cons_of_mem _ hk)]
    refine cg _ _ _ fun k hk => ?_
    rw [List.mem_range] at hk
    have e1 : ((xs.size : Int) - 1 + (k : Int) * (-1)).toNat = xs.size - 1 - k := by omega
    rw [e1]
    have h : xs.size - 1 - k < xs.size := by omega
    simp [Array.getD, h]
  rw [e, List.filterMap_eq_map']
  refine List.ext_getElem? fun i => ?_
  by_cases hi : i < xs.size
  · rw [List.getElem?_map, List.getElem?_range hi, List.getElem?_reverse (by simpa using hi)]
    have h : xs.size - 1 - i < xs.size := by omega
    simp [Array.getD, h]
  · rw [List.getElem?_eq_none (by simpa using hi), List.getElem?_eq_none (by simpa using hi)]
end
section
variable {X : Cx}
def rSlW (K : PySem.W.Frag) : V → Option Int → Option Int → Hp → VK → Prop := fun x lo hi H Q => ∃ a xs, x = .ref a ∧ SqT K H a xs ∧ (cutV xs lo hi = xs → Q (.ref a) H) ∧ ∀ p, H p = none → Q (.ref p) (upd H p (.tup (cutV xs lo hi)))
theorem sl_tupW : SlR X (rSlW X.K) := by
  intro pins s σ H x v vl vu lo hi sl Q I rx hs pl pu h
  obtain ⟨a, xs, rfl, hx, hw, q⟩ := h
  cases rx
  by_cases c : HT.sIx xs.length 0 lo = 0 ∧ HT.sIx xs.length xs.length hi = xs.length
  · obtain ⟨its, r, ht, hz⟩ := I.tuple hx
    have hlen : its.toArray.size = xs.length := by rw [List.size_toArray]; exact r.length.symm
    have ec : cutV xs lo hi = xs := by unfold cutV; rw [c.1, c.2]; simp
    obtain ⟨os, hos, hcs, hds⟩ := id hs
    refine ⟨"tuple", _, PyProof.Rows.slot_tuple_getitem.lookup, ht.typeIs, item_slice (lo := ((HT.sIx its.toArray.size 0 lo : Nat) : Int)) (st := 1) (n := HT.sIx its.toArray.size its.toArray.size hi - HT.sIx its.toArray.size 0 lo) ht ⟨os, hos, hcs⟩ (fun q' => HT.sliceApplied_gen hs pl pu q') (fun _ => ⟨.ref a, H, I, rfl, hw ec⟩) ?_ ?_⟩
    · rw [HT.pick_gen, hlen]
      refine ⟨.ref s.heap.objs.size, _, I.laid (t' := s.toks) (o := .tup (cutV xs lo hi)) (fun b ob q => Heap.get?_push_of_some _ q) (Nat.le_refl _) ?_, rfl, q _ (I.hok.fresh (Nat.le_refl _))⟩
      exact ⟨Nat.le_trans (cutV_length xs lo hi) hz, _, (r.drop (HT.sIx xs.length 0 lo)).take (HT.sIx xs.length xs.length hi - HT.sIx xs.length 0 lo), IsTup.new _ _, NoD.new _ rfl⟩
    · rw [HT.pick_gen, List.size_toArray, List.length_take, List.length_drop]
      have : its.toArray.toList.length = xs.length := by simpa using hlen
      omega
  · exact sl_tup pins s σ H (.ref a) (.ref a) vl vu lo hi sl Q I rfl hs pl pu ⟨a, xs, rfl, hx, c, q⟩
end
end L2
set_option maxHeartbeats 1000000
namespace L2
open PySem PySem.Spec PyProof.Rows PySem.W
section
variable {prog : Program} {w : World} {A : Around} {E : Value → Shared → Prop} {s : Shared}
end
section
variable {X : Cx}
end
end L2
set_option maxHeartbeats 1000000
namespace L2
open PySem PySem.Spec PyProof.Rows PySem.W
def look (kvs : List (Str × Addr)) (k : Str) : Option Addr := (kvs.find? fun p => decide (p.1 = k)).map (·.2)
structure FD (P : Program) (w : World) (K : PySem.W.Frag) (a : Addr) (kvs : List (Str × Addr)) : Prop where
  nd : (kvs.map (·.1)).Nodup
  lo : (a == sysModules) = false
  ex : ∃ o es ep, K.lookup a = some o ∧ o.ExactDict ∧ o.data = .dict es ep ∧ KeysOf (mixKind P w) es ∧ Pairs (mixKind P w) es.toList (kvs.map fun p => ((Sum.inr p.1 : Key), Value.ref p.2))
theorem look_val (kvs : List (Str × Addr)) (k : Str) : valueAt (kvs.map fun p => ((Sum.inr p.1 : Key), Value.ref p.2)) (Sum.inr k) = (look kvs k).map Value.ref := by
  unfold valueAt look
  induction kvs with
  | nil => rfl
  | cons p kvs ih =>
    rw [List.map_cons, List.find?_cons, List.find?_cons]
    by_cases h : p.1 = k
    · rw [decide_eq_true h, show decide ((Sum.inr p.1 : Key) = Sum.inr k) = true from decide_eq_true (by rw [h])]
      rfl
    · rw [decide_eq_false h, show decide ((Sum.inr p.1 : Key) = Sum.inr k) = false from decide_eq_false (fun z => h (by injection z))]
      exact ih
section
variable {X : Cx} {pins : List (Addr × Obj)} {s : Shared} {σ : St} {H : Hp} {a : Addr} {kvs : List (Str × Addr)}
theorem FD.of (f : FD X.prog X.w X.K a kvs) (I : Inv X pins σ H s) : s.heap.DictOf (mixKind X.prog X.w) a (kvs.map fun p => ((Sum.inr p.1 : Key), Value.ref p.2)) := by
  obtain ⟨o, es, ep, hk, h1, h2, h3, h4⟩ := f.ex
  refine ⟨o, es, ep, I.kIn a o hk, h1, h2, h3, h4, ?_⟩
  have e : (kvs.map fun p => ((Sum.inr p.1 : Key), Value.ref p.2)).map (·.1) = (kvs.map (·.1)).map Sum.inr := by rw [List.map_map, List.map_map]; rfl
  rw [e]
  exact List.Pairwise.map Sum.inr (fun a b h z => h (by injection z)) f.nd
def rInF (a : Addr) (kvs : List (Str × Addr)) (neg : Bool) : R2 := fun x y H Q => ∃ k, x = .str k ∧ y = .ref a ∧ Q (.bl (xor neg (look kvs k).isSome)) H
theorem op_notInF (f : FD X.prog X.w X.K a kvs) : OpR X (compareOp .NotIn) (rInF a kvs true) := by
  intro pins s σ H x y v u Q I rx ry h
  obtain ⟨k, rfl, rfl, q⟩ := h
  cases ry
  refine wpAny_notIn_of (kV_is (k := Sum.inr k) rx) f.lo (f.of I).mapOf ?_
  rw [look_val, Option.isSome_map]
  exact ⟨.bl (!(look kvs k).isSome), H, I.tok _, rfl, by simpa using q⟩
def tGetF (a : Addr) (kvs : List (Str × Addr)) (td ty : TE) : TE := fun σ H Q => td σ H fun x H1 => ty σ H1 fun y H2 => ∃ k b, x = .ref a ∧ y = .str k ∧ look kvs k = some b ∧ Q (.ref b) H2
theorem pe_getF {o i : Expr} {td ty : TE} {pos : Pos} (f : FD X.prog X.w X.K a kvs) (ho : PE X o td) (hi : PE X i ty) (hs : NoSl i) : PE X (.Subscript o i pos) (tGetF a kvs td ty) := by
  intro pins s σ H Q I h
  refine subD_of PySem.F.slot_dict_getitem.lookup hs (thn (ho pins s σ H _ I h) fun u s1 ⟨x, H1, I1, rx, q1⟩ => thn (hi pins s1 σ H1 _ I1 q1) fun iv s2 ⟨y, H2, I2, ry, k, b, ex, ey, hl, q2⟩ => ?_)
  subst ex ey
  obtain rfl : u = Value.ref a := rx
  refine ⟨(f.of I2).typeIs, wpAny_getItem_of (v := .ref b) (kV_is (k := Sum.inr k) ry) (f.of I2).mapOf (by rw [look_val, hl]; rfl) ⟨.ref b, H2, I2.tok _, rfl, q2⟩⟩
end
end L2
set_option maxHeartbeats 1000000
namespace L2
open PySem PySem.Spec PyProof.Rows PySem.W
abbrev zipTT1 (h : Heap) (l1 : Addr) : Heap := h.push { cls := .type "tuple_iterator", data := .fields #[.ref l1, .int 0 0] }
abbrev zipTT2 (h : Heap) (l1 l2 : Addr) : Heap := (zipTT1 h l1).push { cls := .type "tuple_iterator", data := .fields #[.ref l2, .int 0 0] }
abbrev zipTT3 (h : Heap) (l1 l2 : Addr) : Heap := (zipTT2 h l1 l2).push { cls := .type "tuple", data := .seq #[.ref h.objs.size, .ref (zipTT1 h l1).objs.size] }
abbrev zipTT4 (h : Heap) (l1 l2 : Addr) : Heap := (zipTT3 h l1 l2).push { cls := .type "tuple", data := .seq #[.none, .none] }
abbrev zipTT5 (h : Heap) (l1 l2 : Addr) : Heap := (zipTT4 h l1 l2).push { cls := .type "zip", data := .fields #[.none, .bool false, .bool false, .ref (zipTT2 h l1 l2).objs.size, .ref (zipTT3 h l1 l2).objs.size] }
section
variable {prog : Program} {w : World} {A : Around} {E : Value → Shared → Prop} {s : Shared}
theorem zipTT_item {z TI TO i1 i2 l1 l2 : Addr} {k1 k2 : Nat} {xs ys : Array Value} {x y a b : Value} {Q : Value → Shared → Prop} (D : ZipApart z TI TO i1 i2 l1 l2) (hz : IsZip s.heap z TI TO .none) (hTI : IsPair s.heap TI (.ref i1) (.ref i2)) (hTO : IsPair s.heap TO a b)
    (h1 : s.heap.IsTupleIter i1 l1 k1) (h2 : s.heap.IsTupleIter i2 l2 k2) (hl1 : s.heap.IsTuple l1 xs) (hl2 : s.heap.IsTuple l2 ys) (hx : xs[k1]? = some x) (hy : ys[k2]? = some y)
    (hQ : ∀ h', IsZip h' z TI TO (rawInt s.heap.objs.size) → IsPair h' TO x y → h'.IsTupleIter i1 l1 (k1 + 1) → h'.IsTupleIter i2 l2 (k2 + 1) → IsPair h' s.heap.objs.size x y → (∀ c o, c ≠ z → c ≠ TO → c ≠ i1 → c ≠ i2 → s.heap.get? c = some o → h'.get? c = some o) → Q (.ref s.heap.objs.size) { s with heap := h' }) :
    wpAny (model prog w) A (Builtin.«zip.__next__» ⟨[.ref z], []⟩) (fun fin s' => ∃ v, fin = .done (.ret v) ∧ Q v s') E s := by
  show wpAny _ _ (field (.ref z) 2 >>= _) _ _ _; refine wpAny_bind (wpAny_field hz rfl (x := .bool false) rfl ?_)
  show wpAny _ _ (field (.ref z) 3 >>= _) _ _ _; refine wpAny_bind (wpAny_field hz rfl (x := .ref TI) rfl ?_); refine wpAny_bind (wpAny_seqItems hTI rfl ?_)
  show wpAny _ _ (Builtin.SmallTypes.ownedTupleIsFree (.ref z) >>= _) _ _ _; refine wpAny_bind ?_; unfold Builtin.SmallTypes.ownedTupleIsFree
  refine wpAny_bind (wpAny_field hz rfl (x := .none) rfl (wpAny_pure ?_)); simp only [if_true]; refine wpAny_bind (wpAny_rule ?_)
  refine wpAny_bind (wpAny_field hz rfl (x := .ref TO) rfl ?_); refine wpAny_bind (wpAny_setField_rec hz (by simp) fun g1 z1 c1 => ?_)
  replace z1 : IsZip g1 z TI TO .ellipsis := z1
  refine wpAny_bind ?_; simp only [List.zipIdx_cons, List.zipIdx_nil, List.forIn_cons, List.forIn_nil]; refine wpAny_bind (wpAny_bind (wpAny_onRaise ?_))
  show wpAny _ _ (Builtin.SmallTypes.nextOf (.ref i1) >>= _) _ _ _; refine wpAny_bind (nextOf_tup_item (h1.extBut c1.extBut D.i1z) (hl1.extBut c1.extBut D.l1z) hx fun g2 it2 c2 => wpAny_pure ?_)
  have t2 : IsPair g2 TO a b := c2.extBut _ _ D.TOi1 (c1.extBut _ _ D.TOz hTO)
  refine wpAny_bind (wpAny_seqItems t2 rfl ?_); refine wpAny_bind (wpAny_updateSeq_pair t2 fun g3 t3 c3 => ?_)
  replace t3 : IsPair g3 TO x b := t3
  refine wpAny_bind (wpAny_letGo (wpAny_pure ?_)); refine wpAny_bind (wpAny_bind (wpAny_onRaise ?_))
  show wpAny _ _ (Builtin.SmallTypes.nextOf (.ref i2) >>= _) _ _ _; refine wpAny_bind (nextOf_tup_item (((h2.extBut c1.extBut D.i2z).extBut c2.extBut D.i12.symm).extBut c3.extBut D.TOi2.symm) (((hl2.extBut c1.extBut D.l2z).extBut c2.extBut D.l2i1).extBut c3.extBut D.l2TO) hy fun g4 it4 c4 => wpAny_pure ?_)
  have t4 : IsPair g4 TO x b := c4.extBut _ _ D.TOi2 t3
  refine wpAny_bind (wpAny_seqItems t4 rfl ?_); refine wpAny_bind (wpAny_updateSeq_pair t4 fun g5 t5 c5 => ?_)
  replace t5 : IsPair g5 TO x y := t5
  refine wpAny_bind (wpAny_letGo (wpAny_pure (wpAny_pure ?_))); refine wpAny_bind (wpAny_seqItems t5 rfl ?_); refine wpAny_bind (wpAny_newTuple ?_)
  have sz : g5.objs.size = s.heap.objs.size := by rw [c5.1, c4.1, c3.1, c2.1, c1.1]
  have z5 : IsZip g5 z TI TO .ellipsis := c5.extBut _ _ D.TOz.symm (c4.extBut _ _ D.i2z.symm (c3.extBut _ _ D.TOz.symm (c2.extBut _ _ D.i1z.symm z1)))
  have k5 : ∀ c o, c ≠ z → c ≠ TO → c ≠ i1 → c ≠ i2 → s.heap.get? c = some o → g5.get? c = some o := fun c o d1 d2 d3 d4 e => c5.extBut _ _ d2 (c4.extBut _ _ d4 (c3.extBut _ _ d2 (c2.extBut _ _ d3 (c1.extBut _ _ d1 e))))
  have j1 : g5.IsTupleIter i1 l1 (k1 + 1) := ((it2.extBut c3.extBut D.TOi1.symm).extBut c4.extBut D.i12).extBut c5.extBut D.TOi1.symm
  have j2 : g5.IsTupleIter i2 l2 (k2 + 1) := it4.extBut c5.extBut D.TOi2.symm
  have zlt : z < g5.objs.size := Heap.lt_size z5
  show wpAny _ _ (Builtin.SmallTypes.ownedTupleHandOut (.ref z) (.ref g5.objs.size) >>= _) _ _ _; refine wpAny_bind ?_; unfold Builtin.SmallTypes.ownedTupleHandOut
  have z6 : IsZip (g5.push { cls := .type "tuple", data := .seq #[x, y] }) z TI TO .ellipsis := Heap.get?_push_of_some _ z5
  refine wpAny_bind (wpAny_setField_rec z6 (by simp) fun g7 z7 c7 => ?_)
  replace z7 : IsZip g7 z TI TO (rawInt g5.objs.size) := z7
  refine wpAny_setField_rec z7 (by simp) fun g8 z8 c8 => ?_
  replace z8 : IsZip g8 z TI TO (rawInt g5.objs.size) := z8
  have up : ∀ c o, c ≠ z → g5.get? c = some o → g8.get? c = some o := fun c o d1 e => c8.extBut _ _ d1 (c7.extBut _ _ d1 (Heap.get?_push_of_some _ e))
  have p8 : IsPair g8 g5.objs.size x y := c8.extBut _ _ (Nat.ne_of_gt zlt) (c7.extBut _ _ (Nat.ne_of_gt zlt) (Heap.get?_push_size _ rfl))
  rw [sz] at z8 p8
  refine wpAny_pure ⟨_, rfl, ?_⟩
  show Q (.ref g5.objs.size) _; rw [sz]
  exact hQ g8 z8 (up _ _ D.TOz t5) (j1.at fun o e => up _ o D.i1z e) (j2.at fun o e => up _ o D.i2z e) p8 fun c o d1 d2 d3 d4 e => up c o d1 (k5 c o d1 d2 d3 d4 e)
theorem zipTT_end {z TI TO i1 i2 l1 l2 : Addr} {k1 k2 : Nat} {xs ys : Array Value} {a b : Value} {Q : Fin → Shared → Prop} (hh : A.handled = none) (D : ZipApart z TI TO i1 i2 l1 l2) (hz : IsZip s.heap z TI TO .none) (hTI : IsPair s.heap TI (.ref i1) (.ref i2)) (hTO : IsPair s.heap TO a b)
    (h1 : s.heap.IsTupleIter i1 l1 k1) (h2 : s.heap.IsTupleIter i2 l2 k2) (hl1 : s.heap.IsTuple l1 xs) (hl2 : s.heap.IsTuple l2 ys) (hend : xs[k1]? = none ∨ ys[k2]? = none)
    (hE : ∀ h' e, (∀ c o, c ≠ z → c ≠ TO → c ≠ i1 → c ≠ i2 → s.heap.get? c = some o → h'.get? c = some o) → (∃ o, h'.get? e = some o ∧ o.cls = .type "StopIteration") → E (.ref e) { s with heap := h' }) : wpAny (model prog w) A (Builtin.«zip.__next__» ⟨[.ref z], []⟩) Q E s := by
  show wpAny _ _ (field (.ref z) 2 >>= _) _ _ _; refine wpAny_bind (wpAny_field hz rfl (x := .bool false) rfl ?_)
  show wpAny _ _ (field (.ref z) 3 >>= _) _ _ _; refine wpAny_bind (wpAny_field hz rfl (x := .ref TI) rfl ?_); refine wpAny_bind (wpAny_seqItems hTI rfl ?_)
  show wpAny _ _ (Builtin.SmallTypes.ownedTupleIsFree (.ref z) >>= _) _ _ _; refine wpAny_bind ?_; unfold Builtin.SmallTypes.ownedTupleIsFree
  refine wpAny_bind (wpAny_field hz rfl (x := .none) rfl (wpAny_pure ?_)); simp only [if_true]; refine wpAny_bind (wpAny_rule ?_)
  refine wpAny_bind (wpAny_field hz rfl (x := .ref TO) rfl ?_); refine wpAny_bind (wpAny_setField_rec hz (by simp) fun g1 z1 c1 => ?_)
  replace z1 : IsZip g1 z TI TO .ellipsis := z1
  refine wpAny_bind ?_; simp only [List.zipIdx_cons, List.zipIdx_nil, List.forIn_cons, List.forIn_nil]; refine wpAny_bind (wpAny_bind (wpAny_onRaise ?_))
  show wpAny _ _ (Builtin.SmallTypes.nextOf (.ref i1) >>= _) _ _ _
  cases hx : xs[k1]? with
  | none =>
    refine wpAny_bind (nextOf_tup_end hh (h1.extBut c1.extBut D.i1z) (hl1.extBut c1.extBut D.l1z) hx fun g2 e c2 ⟨oe, hoe, hce⟩ => ?_)
    have z2 : IsZip g2 z TI TO .ellipsis := c2 _ _ D.i1z.symm z1
    have ez : e ≠ z := fun q => by subst q; rw [z2] at hoe; cases hoe; simp at hce
    exact wpAny_setField_rec z2 (by simp) fun g3 _ c3 => hE g3 e (fun c o d1 _ d3 _ q => c3.extBut _ _ d1 (c2 _ _ d3 (c1.extBut _ _ d1 q))) ⟨oe, c3.extBut _ _ ez hoe, hce⟩
  | some x =>
    have hy : ys[k2]? = none := hend.resolve_left (by rw [hx]; exact nofun)
    refine wpAny_bind (nextOf_tup_item (h1.extBut c1.extBut D.i1z) (hl1.extBut c1.extBut D.l1z) hx fun g2 it2 c2 => wpAny_pure ?_)
    have t2 : IsPair g2 TO a b := c2.extBut _ _ D.TOi1 (c1.extBut _ _ D.TOz hTO)
    refine wpAny_bind (wpAny_seqItems t2 rfl ?_); refine wpAny_bind (wpAny_updateSeq_pair t2 fun g3 t3 c3 => ?_)
    refine wpAny_bind (wpAny_letGo (wpAny_pure ?_)); refine wpAny_bind (wpAny_bind (wpAny_onRaise ?_))
    show wpAny _ _ (Builtin.SmallTypes.nextOf (.ref i2) >>= _) _ _ _; refine wpAny_bind (nextOf_tup_end hh (((h2.extBut c1.extBut D.i2z).extBut c2.extBut D.i12.symm).extBut c3.extBut D.TOi2.symm) (((hl2.extBut c1.extBut D.l2z).extBut c2.extBut D.l2i1).extBut c3.extBut D.l2TO) hy fun g4 e c4 ⟨oe, hoe, hce⟩ => ?_)
    have z4 : IsZip g4 z TI TO .ellipsis := c4 _ _ D.i2z.symm (c3.extBut _ _ D.TOz.symm (c2.extBut _ _ D.i1z.symm z1))
    have ez : e ≠ z := fun q => by subst q; rw [z4] at hoe; cases hoe; simp at hce
    exact wpAny_setField_rec z4 (by simp) fun g5 _ c5 => hE g5 e (fun c o d1 d2 d3 d4 q => c5.extBut _ _ d1 (c4 _ _ d4 (c3.extBut _ _ d2 (c2.extBut _ _ d3 (c1.extBut _ _ d1 q))))) ⟨oe, c5.extBut _ _ ez hoe, hce⟩
theorem nextTT_item {z TI TO i1 i2 l1 l2 : Addr} {k1 k2 : Nat} {xs ys : Array Value} {x y a b : Value} {Q : Option Value → Shared → Prop} (D : ZipApart z TI TO i1 i2 l1 l2) (hz : IsZip s.heap z TI TO .none) (hTI : IsPair s.heap TI (.ref i1) (.ref i2)) (hTO : IsPair s.heap TO a b)
    (h1 : s.heap.IsTupleIter i1 l1 k1) (h2 : s.heap.IsTupleIter i2 l2 k2) (hl1 : s.heap.IsTuple l1 xs) (hl2 : s.heap.IsTuple l2 ys) (hx : xs[k1]? = some x) (hy : ys[k2]? = some y)
    (hQ : ∀ h', IsZip h' z TI TO (rawInt s.heap.objs.size) → IsPair h' TO x y → h'.IsTupleIter i1 l1 (k1 + 1) → h'.IsTupleIter i2 l2 (k2 + 1) → IsPair h' s.heap.objs.size x y → (∀ c o, c ≠ z → c ≠ TO → c ≠ i1 → c ≠ i2 → s.heap.get? c = some o → h'.get? c = some o) → Q (some (.ref s.heap.objs.size)) { s with heap := h' }) :
    wpAny (model prog w) A (pyNext (.ref z)) Q E s := by
  have hT : s.TypeIs (.ref z) "zip" := ⟨_, hz, rfl⟩; unfold pyNext
  exact wpAny_bind (wpAny_attempt (wpAny_callSpecial?_slot (name := Str.ofString "__next__") hT F.slot_zip_next (wpAny_call_entry F.slot_zip_next hT F.entry_zip_next (zipTT_item D hz hTI hTO h1 h2 hl1 hl2 hx hy fun h' a1 a2 a3 a4 a5 a6 => wpAny_pure (hQ h' a1 a2 a3 a4 a5 a6)) (F.args_zip_next_1 _))))
theorem nextTT_end {z TI TO i1 i2 l1 l2 : Addr} {k1 k2 : Nat} {xs ys : Array Value} {a b : Value} {Q : Option Value → Shared → Prop} (hh : A.handled = none) (D : ZipApart z TI TO i1 i2 l1 l2) (hz : IsZip s.heap z TI TO .none) (hTI : IsPair s.heap TI (.ref i1) (.ref i2)) (hTO : IsPair s.heap TO a b)
    (h1 : s.heap.IsTupleIter i1 l1 k1) (h2 : s.heap.IsTupleIter i2 l2 k2) (hl1 : s.heap.IsTuple l1 xs) (hl2 : s.heap.IsTuple l2 ys) (hend : xs[k1]? = none ∨ ys[k2]? = none)
    (hQ : ∀ h', (∀ c o, c ≠ z → c ≠ TO → c ≠ i1 → c ≠ i2 → s.heap.get? c = some o → h'.get? c = some o) → Q none { s with heap := h' }) : wpAny (model prog w) A (pyNext (.ref z)) Q E s := by
  have hT : s.TypeIs (.ref z) "zip" := ⟨_, hz, rfl⟩; unfold pyNext
  refine wpAny_bind (wpAny_attempt (wpAny_callSpecial?_slot (name := Str.ofString "__next__") hT F.slot_zip_next (wpAny_call_entry F.slot_zip_next hT F.entry_zip_next (zipTT_end hh D hz hTI hTO h1 h2 hl1 hl2 hend fun h' e hk ⟨o, ho, hc⟩ => ?_) (F.args_zip_next_1 _))))
  exact wpAny_bind (wpAny_isInstance (T := "StopIteration") (b := true) ⟨o, ho, hc⟩ isSubtype_stop (wpAny_pure (hQ _ hk)))
theorem meets_zipTT (l1 l2 : Addr) (xs ys : Array Value) (n n' : Nat) (dct dct' : Option Addr) (slt slt' : Array (Option Value)) :
    Meets (Builtin.«zip.__new__» ⟨[.type "zip", .ref l1, .ref l2], []⟩) (fun _ R s => s.heap.get? l1 = some { cls := .type "tuple", dict := dct', data := .seq xs n', slots := slt' } ∧ s.heap.get? l2 = some { cls := .type "tuple", dict := dct, data := .seq ys n, slots := slt } ∧
      R (.ok (.ret (.ref (zipTT4 s.heap l1 l2).objs.size))) { s with heap := zipTT5 s.heap l1 l2 }) :=
  .of_wp fun prog w A R s h => by
    obtain ⟨hp, g, d, tk, os⟩ := s; obtain ⟨hl1, hl2, h⟩ := h
    have hsub := sub_zip
    have hL1 : Heap.IsTuple (Shared.heap ⟨hp, g, d, tk, os⟩) l1 xs := ⟨_, hl1, rfl, n', rfl⟩
    have hl2' : (hp.push { cls := .type "tuple_iterator", data := .fields #[.ref l1, .int 0 0] }).get? l2 = some { cls := .type "tuple", dict := dct, data := .seq ys n, slots := slt } := Heap.get?_push_of_some _ hl2
    have hL2 : Heap.IsTuple (Shared.heap ⟨hp.push { cls := .type "tuple_iterator", data := .fields #[.ref l1, .int 0 0] }, g, d, tk, os⟩) l2 ys := ⟨_, hl2', rfl, n, rfl⟩
    wp_walk using wpAny_pyIter_tuple hL1, wpAny_pyIter_tuple hL2, AutoSeq1.wpAny_loadPart' hl1, AutoSeq1.wpAny_loadPart' hl2'
    exact ⟨_, rfl, h⟩
theorem call_zipTT {l1 l2 : Addr} {xs ys : Array Value} {Q : Value → Shared → Prop} (hl1 : s.heap.IsTuple l1 xs) (hl2 : s.heap.IsTuple l2 ys)
    (h : ∀ h', IsZip h' (s.heap.objs.size + 4) (s.heap.objs.size + 2) (s.heap.objs.size + 3) .none → IsPair h' (s.heap.objs.size + 2) (.ref s.heap.objs.size) (.ref (s.heap.objs.size + 1)) → IsPair h' (s.heap.objs.size + 3) .none .none → h'.IsTupleIter s.heap.objs.size l1 0 → h'.IsTupleIter (s.heap.objs.size + 1) l2 0 →
      (∀ c o, s.heap.get? c = some o → h'.get? c = some o) → Q (.ref (s.heap.objs.size + 4)) { s with heap := h' }) : wpAny (model prog w) A (call (.type "zip") [.ref l1, .ref l2]) Q E s := by
  obtain ⟨⟨c, dct, dt, sl⟩, hl, hc, n, hd⟩ := hl2
  replace hc : c = .type "tuple" := hc
  replace hd : dt = .seq ys n := hd
  subst hc hd
  obtain ⟨⟨c', dct', dt', sl'⟩, hl', hc', n', hd'⟩ := hl1
  replace hc' : c' = .type "tuple" := hc'
  replace hd' : dt' = .seq xs n' := hd'
  subst hc' hd'
  refine callType_new F.called_zip (by decide) (F.typeCall_zip_2 _ _) (F.newCall_zip_2 _ _) (fun obj => F.args_object_init_3 obj _ _) F.entry_zip_new (meets_zipTT l1 l2 xs ys n n' dct dct' sl sl') ⟨hl', hl, ?_⟩
  have y1 : (zipTT1 s.heap l1).objs.size = s.heap.objs.size + 1 := Heap.size_push ..
  have y2 : (zipTT2 s.heap l1 l2).objs.size = s.heap.objs.size + 2 := by rw [Heap.size_push, y1]
  have y3 : (zipTT3 s.heap l1 l2).objs.size = s.heap.objs.size + 3 := by rw [Heap.size_push, y2]
  have y4 : (zipTT4 s.heap l1 l2).objs.size = s.heap.objs.size + 4 := by rw [Heap.size_push, y3]
  have up : ∀ {h : Heap} {o : Obj} {c : Addr} {p : Obj}, h.get? c = some p → (h.push o).get? c = some p := fun q => Heap.get?_push_of_some _ q
  have v5 : (zipTT5 s.heap l1 l2).get? (zipTT4 s.heap l1 l2).objs.size = some _ := Heap.get?_push_size _ rfl
  have v4 : (zipTT5 s.heap l1 l2).get? (zipTT3 s.heap l1 l2).objs.size = some _ := up (Heap.get?_push_size _ rfl)
  have v3 : (zipTT5 s.heap l1 l2).get? (zipTT2 s.heap l1 l2).objs.size = some _ := up (up (Heap.get?_push_size _ rfl))
  have v2 : (zipTT5 s.heap l1 l2).get? (zipTT1 s.heap l1).objs.size = some _ := up (up (up (Heap.get?_push_size _ rfl)))
  have v1 : (zipTT5 s.heap l1 l2).get? s.heap.objs.size = some _ := up (up (up (up (Heap.get?_push_size _ rfl))))
  show _ ∧ _
  rw [y2, y3, y4] at v5
  rw [y1, y2] at v3
  rw [y3] at v4
  rw [y1] at v2
  rw [y4]
  exact ⟨⟨_, v5, rfl⟩, h _ v5 v3 v4 ⟨_, v1, rfl, rfl⟩ ⟨_, v2, rfl, rfl⟩ fun c o q => up (up (up (up (up q))))⟩
end
def Itztt (K : PySem.W.Frag) (a b : Addr) : It :=
  ⟨fun i H => ∃ xs ys x y, SqT K H a xs ∧ SqT K H b ys ∧ xs[i]? = some x ∧ ys[i]? = some y, fun i H z H' => ∃ p x y, H p = none ∧ H' = upd H p (.tup [x, y]) ∧ z = .ref p ∧ (∀ xs, SqT K H a xs → xs[i]? = some x) ∧ ∀ ys, SqT K H b ys → ys[i]? = some y,
   fun i H => ∃ xs ys, SqT K H a xs ∧ SqT K H b ys ∧ (xs.length ≤ i ∨ ys.length ≤ i)⟩
theorem turn_zipTT {P : Program} {w : World} {K : PySem.W.Frag} {elts : List Expr} {x1} {tp : Pos} (a b z TI TO i1 i2 : Addr) (D1 : TI ≠ z ∧ TO ≠ z ∧ i1 ≠ z ∧ i2 ≠ z ∧ TI ≠ TO ∧ TI ≠ i1 ∧ TI ≠ i2 ∧ TO ≠ i1 ∧ TO ≠ i2 ∧ i1 ≠ i2) (D2 : a ≠ TO ∧ b ≠ TO) :
    Turn P w K (.Tuple elts x1 tp) (Itztt K a b) [z, TI, TO, i1, i2] z (fun i h => IsZip h z TI TO .none ∧ IsPair h TI (.ref i1) (.ref i2) ∧ (∃ u v, IsPair h TO u v) ∧ h.IsTupleIter i1 a i ∧ h.IsTupleIter i2 b i) where
  mem := by simp
  obj := fun i h st c hc => by
    obtain ⟨hz, hTI, ⟨u, v, hTO⟩, ⟨o1, e1, c1, d1⟩, ⟨o2, e2, c2, d2⟩⟩ := st
    simp only [List.mem_cons, List.not_mem_nil, or_false] at hc
    rcases hc with rfl | rfl | rfl | rfl | rfl
    · exact ⟨_, hz, fun v z => by
        have z' : Data.fields _ = Data.cell v := z
        cases z'⟩
    · exact ⟨_, hTI, fun v z => by
        have z' : Data.seq _ _ = Data.cell v := z
        cases z'⟩
    · exact ⟨_, hTO, fun v z => by
        have z' : Data.seq _ _ = Data.cell v := z
        cases z'⟩
    · exact ⟨o1, e1, fun v z => by rw [d1] at z; cases z⟩
    · exact ⟨o2, e2, fun v z => by rw [d2] at z; cases z⟩
  keep := fun i h h' st k => by
    obtain ⟨hz, hTI, ⟨u, v, hTO⟩, h1, h2⟩ := st
    exact ⟨k z (by simp) _ hz, k TI (by simp) _ hTI, ⟨u, v, k TO (by simp) _ hTO⟩, h1.at fun o e => k i1 (by simp) o e, h2.at fun o e => k i2 (by simp) o e⟩
  item := by
    intro X hP hw hK hc i pins s σ H E I hf st hg
    subst hP hw hK
    obtain ⟨xs, ys, x, y, hq1, hq2, hx, hy⟩ := hg
    obtain ⟨its1, rv1, p1, _⟩ := I.tuple hq1
    obtain ⟨its2, rv2, p2, _⟩ := I.tuple hq2
    obtain ⟨u1, hu1, ru1⟩ := rv1.get hx
    obtain ⟨u2, hu2, ru2⟩ := rv2.get hy
    obtain ⟨hz, hTI, ⟨u, v, hTO⟩, h1, h2⟩ := st
    obtain ⟨d1, d2, d3, d4, d5, d6, d7, d8, d9, d10⟩ := D1
    have L1 : s.heap.IsTuple a its1.toArray := p1
    have L2 : s.heap.IsTuple b its2.toArray := p2
    have D : ZipApart z TI TO i1 i2 a b := by
      obtain ⟨o1, e1, c1, _⟩ := id L1
      obtain ⟨o2, e2, c2, _⟩ := id L2
      obtain ⟨o3, e3, c3, _⟩ := id h1
      obtain ⟨o4, e4, c4, _⟩ := id h2
      exact ⟨d1, d2, d3, d4, d5, d6, d7, d8, d9, d10, ne_cls e1 hz (by rw [c1]; exact fun z => absurd (Value.type.inj z) (by decide)), D2.1, ne_cls e1 e3 (by rw [c1, c3]; exact fun z => absurd (Value.type.inj z) (by decide)), ne_cls e1 e4 (by rw [c1, c4]; exact fun z => absurd (Value.type.inj z) (by decide)),
        ne_cls e2 hz (by rw [c2]; exact fun z => absurd (Value.type.inj z) (by decide)), D2.2, ne_cls e2 e3 (by rw [c2, c3]; exact fun z => absurd (Value.type.inj z) (by decide)), ne_cls e2 e4 (by rw [c2, c4]; exact fun z => absurd (Value.type.inj z) (by decide))⟩
    refine nextTT_item D hz hTI hTO h1 h2 L1 L2 (x := u1) (y := u2) (by simpa using hu1) (by simpa using hu2) fun h3 a1 a2 a3 a4 a5 hk => ?_
    refine ⟨_, rfl, wpAny_letOwnedTupleGo_zip a1 fun h4 hz4 hs4 => ?_⟩
    have hzl : z < s.heap.objs.size := Heap.lt_size hz
    have hn : H s.heap.objs.size = none := I.hok.fresh (Nat.le_refl _)
    have keep : ∀ c o, c ≠ z → c ≠ TO → c ≠ i1 → c ≠ i2 → s.heap.get? c = some o → h4.get? c = some o := fun c o c1 c2 c3 c4 q => (hs4.2 c c1).trans (hk c o c1 c2 c3 c4 q)
    have tup : h4.get? s.heap.objs.size = some { cls := .type "tuple", data := .seq #[u1, u2] } := (hs4.2 _ (ngt hzl)).trans a5
    have fpn : ∀ c ∈ [z, TI, TO, i1, i2], H c = none := fun c hc => (hf c hc).1
    have nit : ∀ c v, H c = some v → c ≠ z ∧ c ≠ TO ∧ c ≠ i1 ∧ c ≠ i2 := fun c v q => ⟨(fun e => by rw [e, fpn z (by simp)] at q; cases q), (fun e => by rw [e, fpn TO (by simp)] at q; cases q), (fun e => by rw [e, fpn i1 (by simp)] at q; cases q), (fun e => by rw [e, fpn i2 (by simp)] at q; cases q)⟩
    have kch : ∀ c o, c ∉ [z, TO, i1, i2] → s.heap.get? c = some o → h4.get? c = some o := fun c o hc q => keep c o (fun e => hc (by simp [e])) (fun e => hc (by simp [e])) (fun e => hc (by simp [e])) (fun e => hc (by simp [e])) q
    have I2 : Inv X pins σ (upd H s.heap.objs.size (.tup [x, y])) { s with heap := h4, toks := s.toks } := by
      refine I.step (g' := s.gens) (d' := s.drawn) (ch := [z, TO, i1, i2]) (fun c hc => ?_) (fun c o _ _ hc' q _ => kch c o hc' q) (fun c o _ _ hc' q _ => ⟨o.slots, kch c o hc' q⟩) (fun c o _ q n => by rw [upd_ne (nlt (Heap.lt_size q))]; exact n) (fun c o hc' q => ⟨o, kch c o hc' q⟩)
        (fun c xs q => by rw [upd_ne (ne_of_none q hn)]; exact q) (fun c o v q => by rw [upd_ne (ne_of_none q hn)]; exact q) (fun c ps q => ⟨#[], by rw [upd_ne (ne_of_none q hn), q]; simp⟩) (fun m hm => ?_) (fun c v q => ?_) I.bare
      · have hc' : c ∈ [z, TI, TO, i1, i2] := by
          simp only [List.mem_cons, List.not_mem_nil, or_false] at hc ⊢
          rcases hc with e | e | e | e <;> simp [e]
        obtain ⟨f0, f1, f2, f3, f4, f5⟩ := hf c hc'
        exact ⟨f3, f1, f4, f5⟩
      · obtain ⟨o, es, ep, ho, r⟩ := hm
        exact ⟨o, es, ep, keep _ o (Ne.symm (hf z (by simp)).2.1) (Ne.symm (hf TO (by simp)).2.1) (Ne.symm (hf i1 (by simp)).2.1) (Ne.symm (hf i2 (by simp)).2.1) ho, r⟩
      · by_cases hb : c = s.heap.objs.size
        · subst hb
          rw [upd_same] at q
          cases q
          exact ⟨(show 2 ≤ sizeLine by rw [sizeLine_eq]; decide), [u1, u2], .cons ru1 (.cons ru2 .nil), ⟨_, tup, rfl, 0, rfl⟩, _, tup, rfl⟩
        · rw [upd_ne hb] at q
          refine (I.hok c v q).stay (fun c' w' hc' q' => ?_) (fun c' q' => by rw [upd_ne (ne_of_none q' hn)]; exact q') fun c' xs q' => by rw [upd_ne (ne_of_none q' hn)]; exact q'
          rcases hc' with e | e
          · subst e; obtain ⟨n1, n2, n3, n4⟩ := nit c' v q; exact keep c' w' n1 n2 n3 n4 q'
          · obtain ⟨n1, n2, n3, n4⟩ := nit c' _ e; exact keep c' w' n1 n2 n3 n4 q'
    refine ⟨.ref s.heap.objs.size, _, I2, rfl, ⟨_, x, y, hn, rfl, rfl, fun xs' h' => by rw [I.tuple_inj h' hq1]; exact hx, fun ys' h' => by rw [I.tuple_inj h' hq2]; exact hy⟩, ?_, fun c hc => ?_⟩
    · exact ⟨hz4, hs4.extBut _ _ d1 (hk TI _ d1 d5 d6 d7 hTI), ⟨_, _, hs4.extBut _ _ d2 a2⟩, a3.at fun o e => hs4.extBut _ _ d3 e, a4.at fun o e => hs4.extBut _ _ d4 e⟩
    · have hb' : c < s.heap.objs.size := by
        simp only [List.mem_cons, List.not_mem_nil, or_false] at hc
        obtain ⟨o3, e3, _⟩ := h1
        obtain ⟨o4, e4, _⟩ := h2
        rcases hc with e | e | e | e | e
        · rw [e]; exact hzl
        · rw [e]; exact Heap.lt_size hTI
        · rw [e]; exact Heap.lt_size hTO
        · rw [e]; exact Heap.lt_size e3
        · rw [e]; exact Heap.lt_size e4
      rw [upd_ne (nlt hb')]
      exact fpn c hc
  done := by
    intro X hP hw hK hc i pins s σ H E I hf st hg
    subst hP hw hK
    obtain ⟨xs, ys, hq1, hq2, hend⟩ := hg
    obtain ⟨its1, rv1, p1, _⟩ := I.tuple hq1
    obtain ⟨its2, rv2, p2, _⟩ := I.tuple hq2
    obtain ⟨hz, hTI, ⟨u, v, hTO⟩, h1, h2⟩ := st
    obtain ⟨d1, d2, d3, d4, d5, d6, d7, d8, d9, d10⟩ := D1
    have L1 : s.heap.IsTuple a its1.toArray := p1
    have L2 : s.heap.IsTuple b its2.toArray := p2
    have D : ZipApart z TI TO i1 i2 a b := by
      obtain ⟨o1, e1, c1, _⟩ := id L1
      obtain ⟨o2, e2, c2, _⟩ := id L2
      obtain ⟨o3, e3, c3, _⟩ := id h1
      obtain ⟨o4, e4, c4, _⟩ := id h2
      exact ⟨d1, d2, d3, d4, d5, d6, d7, d8, d9, d10, ne_cls e1 hz (by rw [c1]; exact fun z => absurd (Value.type.inj z) (by decide)), D2.1, ne_cls e1 e3 (by rw [c1, c3]; exact fun z => absurd (Value.type.inj z) (by decide)), ne_cls e1 e4 (by rw [c1, c4]; exact fun z => absurd (Value.type.inj z) (by decide)),
        ne_cls e2 hz (by rw [c2]; exact fun z => absurd (Value.type.inj z) (by decide)), D2.2, ne_cls e2 e3 (by rw [c2, c3]; exact fun z => absurd (Value.type.inj z) (by decide)), ne_cls e2 e4 (by rw [c2, c4]; exact fun z => absurd (Value.type.inj z) (by decide))⟩
    have l1 := rv1.length
    have l2 := rv2.length
    have fpn : ∀ c ∈ [z, TI, TO, i1, i2], H c = none := fun c hc => (hf c hc).1
    refine nextTT_end (I.ok.hd hc) D hz hTI hTO h1 h2 L1 L2 (hend.imp (fun h => by simp; omega) fun h => by simp; omega) fun h4 hk => ⟨rfl, ?_⟩
    have nit : ∀ c v, H c = some v → c ≠ z ∧ c ≠ TO ∧ c ≠ i1 ∧ c ≠ i2 := fun c v q => ⟨(fun e => by rw [e, fpn z (by simp)] at q; cases q), (fun e => by rw [e, fpn TO (by simp)] at q; cases q), (fun e => by rw [e, fpn i1 (by simp)] at q; cases q), (fun e => by rw [e, fpn i2 (by simp)] at q; cases q)⟩
    have kch : ∀ c o, c ∉ [z, TO, i1, i2] → s.heap.get? c = some o → h4.get? c = some o := fun c o hc q => hk c o (fun e => hc (by simp [e])) (fun e => hc (by simp [e])) (fun e => hc (by simp [e])) (fun e => hc (by simp [e])) q
    refine I.step (t' := s.toks) (g' := s.gens) (d' := s.drawn) (ch := [z, TO, i1, i2]) (fun c hc => ?_) (fun c o _ _ hc' q _ => kch c o hc' q) (fun c o _ _ hc' q _ => ⟨o.slots, kch c o hc' q⟩) (fun c o _ q n => n) (fun c o hc' q => ⟨o, kch c o hc' q⟩)
      (fun c xs q => q) (fun c o v q => q) (fun c ps q => ⟨#[], by rw [q]; simp⟩) (fun m hm => ?_) (fun c v q => ?_) I.bare
    · have hc' : c ∈ [z, TI, TO, i1, i2] := by
        simp only [List.mem_cons, List.not_mem_nil, or_false] at hc ⊢
        rcases hc with e | e | e | e <;> simp [e]
      obtain ⟨f0, f1, f2, f3, f4, f5⟩ := hf c hc'
      exact ⟨f3, f1, f4, f5⟩
    · obtain ⟨o, es, ep, ho, r⟩ := hm
      exact ⟨o, es, ep, hk _ o (Ne.symm (hf z (by simp)).2.1) (Ne.symm (hf TO (by simp)).2.1) (Ne.symm (hf i1 (by simp)).2.1) (Ne.symm (hf i2 (by simp)).2.1) ho, r⟩
    · refine (I.hok c v q).stay (fun c' w' hc' q' => ?_) (fun c' q' => q') fun c' xs q' => q'
      rcases hc' with e | e
      · subst e; obtain ⟨n1, n2, n3, n4⟩ := nit c' v q; exact hk c' w' n1 n2 n3 n4 q'
      · obtain ⟨n1, n2, n3, n4⟩ := nit c' _ e; exact hk c' w' n1 n2 n3 n4 q'
  self := fun A i s Q E st h => wpAny_pyIter_zip st.1 h
theorem tup_lt {h : Heap} {a : Addr} {its : Array Value} (p : IsTup h a its) : a < h.objs.size := by
  obtain ⟨o, e, _⟩ := p
  exact Heap.lt_size e
section
variable {X : Cx}
def iZipTT (K : PySem.W.Frag) (ta : TA) : TI := fun σ H R => ta σ H fun vs H1 => ∃ a b, vs = [.ref a, .ref b] ∧ (∃ xs, SqT K H1 a xs) ∧ (∃ ys, SqT K H1 b ys) ∧ R (Itztt K a b) H1
theorem pi_zipTT {a b : Expr} {ta : TA} {p pos : Pos} {elts : List Expr} {x1} {tp : Pos} (hg : Gl X "zip") (hm : X.mg "zip" = none) (ha : PA X [a, b] ta) (hs : starEach [a, b] X.env = (false, eval a X.env) :: starEach [b] X.env := by rfl) (hpl : (backTo pos (starEach [b] X.env)).any (·.1) = false := by rfl) :
    PI X (.Tuple elts x1 tp) (.Call (.Name "zip" p) [a, b] [] pos) (iZipTT X.K ta) := by
  intro pins s σ H R I h
  refine Call_ (ld_blt I hg hm (u := .type "zip") (by decide +kernel) (PyProof.Rows.callWith_type1 (thn (ha pos pins s σ H _ I h) fun us s1 ⟨vs, H1, I1, r1, q1⟩ => ?_) hs hpl))
  obtain ⟨l, m, e, ⟨xs, hq1⟩, ⟨ys, hq2⟩, q⟩ := q1
  subst e
  obtain ⟨u, w', rfl, ru, rw'⟩ := vals2 r1
  cases ru
  cases rw'
  obtain ⟨its1, rv1, p1, _⟩ := I1.tuple hq1
  obtain ⟨its2, rv2, p2, _⟩ := I1.tuple hq2
  refine call_zipTT p1 p2 fun h' hz hTI hTO hi1 hi2 kp => ?_
  have I2 : Inv X pins σ H1 { s1 with heap := h' } := I1.kept (t' := s1.toks) kp
  have add : ∀ (n i j : Nat), i ≠ j → n + i ≠ n + j := fun n i j h z => h (Nat.add_left_cancel z)
  have T : Turn X.prog X.w X.K (.Tuple elts x1 tp) (Itztt X.K l m) [s1.heap.objs.size + 4, s1.heap.objs.size + 2, s1.heap.objs.size + 3, s1.heap.objs.size, s1.heap.objs.size + 1] (s1.heap.objs.size + 4) _ :=
    turn_zipTT l m (s1.heap.objs.size + 4) (s1.heap.objs.size + 2) (s1.heap.objs.size + 3) s1.heap.objs.size (s1.heap.objs.size + 1)
      ⟨add _ 2 4 (by decide), add _ 3 4 (by decide), add _ 0 4 (by decide), add _ 1 4 (by decide), add _ 2 3 (by decide), add _ 2 0 (by decide), add _ 2 1 (by decide), add _ 3 0 (by decide), add _ 3 1 (by decide), add _ 0 1 (by decide)⟩ ⟨Nat.ne_of_lt (Nat.lt_add_right 3 (tup_lt p1)), Nat.ne_of_lt (Nat.lt_add_right 3 (tup_lt p2))⟩
  refine T.self X.A 0 { s1 with heap := h' } _ _ ⟨hz, hTI, ⟨_, _, hTO⟩, hi1, hi2⟩ ?_
  refine ⟨s1.heap.objs.size + 4, _, _, _, H1, rfl, I2, T, ⟨hz, hTI, ⟨_, _, hTO⟩, hi1, hi2⟩, fun b hb => ?_, q⟩
  have hb' : s1.heap.objs.size ≤ b := by
    simp only [List.mem_cons, List.not_mem_nil, or_false] at hb
    rcases hb with e | e | e | e | e
    · rw [e]; exact Nat.le_add_right _ _
    · rw [e]; exact Nat.le_add_right _ _
    · rw [e]; exact Nat.le_add_right _ _
    · rw [e]; exact Nat.le_refl _
    · rw [e]; exact Nat.le_add_right _ _
  obtain ⟨f0, f1⟩ := I1.fpOk hb' (I1.hok.fresh hb')
  exact ⟨f0, f1⟩
theorem for_zipTT {K : PySem.W.Frag} {a b : Addr} {xs ys : List V} {g : TG} {tb : TS} {D : Ends} {σ : St} {H : Hp} (Pv : Nat → St → Hp → Prop) (h0 : Pv 0 σ H) (hl : ∀ i σ H, Pv i σ H → SqT K H a xs ∧ SqT K H b ys)
    (hs : ∀ i x y σ H p, xs[i]? = some x → ys[i]? = some y → Pv i σ H → H p = none → g (.ref p) σ (upd H p (.tup [x, y])) fun σ2 H2 => tb { D with nx := Pv (i + 1), ct := Pv (i + 1), bk := D.nx } σ2 H2) (hd : ∀ σ H, Pv (min xs.length ys.length) σ H → D.nx σ H) :
    ∃ W : Nat → Nat → St → Hp → Prop, (∃ m, W 0 m σ H) ∧ ∀ i m σ H, W i m σ H →
      ((Itztt K a b).stop i H ∧ D.nx σ H) ∨ ((Itztt K a b).go i H ∧ ∃ N : St → Hp → Prop, (∀ σ' H', N σ' H' → ∃ m', m' < m ∧ W (i + 1) m' σ' H') ∧ ∀ x H', (Itztt K a b).yld i H x H' → g x σ H' fun σ2 H2 => tb { D with nx := N, ct := N, bk := D.nx } σ2 H2) := by
  refine ⟨fun i m σ H => m = min xs.length ys.length - i ∧ i ≤ min xs.length ys.length ∧ Pv i σ H, ⟨min xs.length ys.length, by simp, Nat.zero_le _, h0⟩, ?_⟩
  rintro i m σ H ⟨rfl, hi, p⟩
  obtain ⟨q1, q2⟩ := hl i σ H p
  by_cases hlt : i < min xs.length ys.length
  · have h1 : i < xs.length := by omega
    have h2 : i < ys.length := by omega
    refine .inr ⟨⟨xs, ys, xs[i], ys[i], q1, q2, by simp [h1], by simp [h2]⟩, Pv (i + 1), fun σ' H' p' => ⟨min xs.length ys.length - (i + 1), by omega, rfl, hlt, p'⟩, fun z H' y => ?_⟩
    obtain ⟨c, x, y, hb, e1, e2, hx, hy⟩ := y
    subst e1 e2
    exact hs i x y σ H c (hx xs q1) (hy ys q2) p hb
  · have e : i = min xs.length ys.length := by omega
    subst e
    exact .inl ⟨⟨xs, ys, q1, q2, by omega⟩, hd σ H p⟩
end
end L2
set_option maxHeartbeats 1000000
namespace L2
open PySem PySem.Spec PyProof.Rows PySem.W
theorem extend_tupA (l : Addr) (items : Array Value) (n : Nat) (b : Addr) (items2 : Array Value) (n2 : Nat) (dct : Option Addr) (slt : Array (Option Value)) (hs0 : ¬(!items.isEmpty && Builtin.List.listTooLong (items.size + items2.size)) = true) (hs1 : items.size ≤ sizeLine) (hs2 : items.size + items2.size ≤ sizeLine + 1) :
    Meets (Builtin.«list.extend» ⟨[.ref l, .ref b], []⟩) (fun _ R s => s.heap.get? l = some { cls := .type "list", data := .seq items n } ∧ s.heap.get? b = some { cls := .type "tuple", dict := dct, data := .seq items2 n2, slots := slt } ∧ R (.ok (.ret Value.none)) { s with heap := s.heap.update l (Obj.mapSeq fun x => x ++ items2), toks := s.toks }) :=
  .of_wp fun prog w A R s h => by
    obtain ⟨hp, g, d, tk, os⟩ := s
    obtain ⟨hl, hb, h⟩ := h
    have f1 := AutoSeq1.idx_int
    have f2 := AutoSeq1.sub_tuple_tuple
    have f3 := AutoSeq1.sub_list_list
    have f4 := AutoSeq1.sub_tuple_list
    have f5 := AutoSeq1.sub_list_tuple
    have hz' : (items ++ items2).size ≤ sizeLine + 1 := by rw [Array.size_append]; exact hs2
    wp_walk using (wpAny_updateSeq hl rfl (hz := hs1) (_hz' := hz')), AutoSeq1.wpAny_loadPart' hl, AutoSeq1.wpAny_loadPart' hb
    exact ⟨_, rfl, h⟩
section
variable {X : Cx}
def rExtT (K : PySem.W.Frag) : V → List V → Hp → VK → Prop := fun x vs H Q => ∃ l b xs zs, x = .ref l ∧ vs = [.ref b] ∧ H l = some (.lst xs) ∧ SqT K H b zs ∧ xs.length + zs.length ≤ sizeLine ∧ Q .non (upd H l (.lst (xs ++ zs)))
theorem mt_extT : MtM X "list.extend" (rExtT X.K) := by
  intro pins s σ H x vs v us Q I rx rv h
  obtain ⟨l, b, xs, zs, rfl, rfl, hH, hB, hz, q⟩ := h
  cases rx
  obtain ⟨u, rfl, ru⟩ := rv.one
  cases ru
  obtain ⟨z, its, n, r, hl, e⟩ := I.lstM hH
  obtain ⟨its2, r2, ⟨⟨cls, dd, data, sl⟩, e2, hc, n2, hd⟩, _⟩ := I.tuple hB
  simp only at hc hd
  subst hc hd
  have hl2 := r2.length
  have hsz : its.toArray.size + its2.toArray.size ≤ sizeLine := by rw [List.size_toArray, List.size_toArray]; omega
  have hlong : ¬ (!its.toArray.isEmpty && Builtin.List.listTooLong (its.toArray.size + its2.toArray.size)) = true := by
    rw [notLongL hsz, Bool.and_false]
    exact Bool.false_ne_true
  refine call_meets F.slot_list_extend ⟨_, e, rfl⟩ F.entry_list_extend (F.args_list_extend_2 _ _)
    (extend_tupA l its.toArray n b its2.toArray n2 dd sl hlong (by rw [List.size_toArray]; omega) (by omega)) ⟨e, e2, ?_⟩
  refine ⟨.non, _, I.lset (its' := its ++ its2) hH e (by simp) (r.append r2) ?_, rfl, q⟩
  rw [List.length_append]
  omega
theorem op_eqE (hu : X.A.units < cLine) : OpR X (compareOp .Eq) (fun x y H Q => ∃ (l b : Addr) (xs : List V), x = .ref l ∧ y = .ref b ∧ SqL X.K H l xs ∧ SqL X.K H b [] ∧ Q (.bl xs.isEmpty) H) := by
  intro pins s σ H x y v u Q I rx ry h
  obtain ⟨l, b, xs, rfl, rfl, hl, hb, q⟩ := h
  cases rx
  cases ry
  obtain ⟨its, r1, p1, _⟩ := I.list hl
  obtain ⟨its2, r2, p2, _⟩ := I.list hb
  have l1 := r1.length
  have l2 := r2.length
  cases xs with
  | nil =>
    refine SeqAt.RcAt.lists (e := fun _ => true) p1.isList p2.isList (by simp; omega) hu (fun j h1 h2 => ?_) X.prog X.w X.xe _ ?_
    · have : j < its.length := by simpa using h1
      simp at l1; omega
    · have e : ((List.range its.toArray.size).all fun _ => true) = true := by simp
      rw [e]
      exact ⟨.bl true, H, I, rfl, q⟩
  | cons x xs =>
    refine SeqAt.RcAt.lists_lengths p1.isList p2.isList ?_ hu X.prog X.w X.xe _ ⟨.bl false, H, I, rfl, q⟩
    rw [List.length_cons] at l1
    rw [List.length_nil] at l2
    rw [List.size_toArray, List.size_toArray, bne_iff_ne]
    omega
theorem mt_updD : MtR X "dict.update" (fun x xs H Q => ∃ d e kvs more, x = .ref d ∧ xs = [.ref e] ∧ d ≠ e ∧ H d = some (.dK kvs) ∧ H e = some (.dK more) ∧ kvs.length + more.length ≤ sizeLine ∧ Q .non (upd H d (.dK (mergeK kvs more)))) := by
  intro pins s σ H x xs u us Q I rx rv h
  obtain ⟨d, e, kvs, more, rfl, rfl, hne, hd, he, hsz, q⟩ := h
  cases rx
  obtain ⟨u, rfl, ru⟩ := rv.one
  cases ru
  obtain ⟨z, hdm, vs, rel, dd⟩ := dk_of I.hok hd
  obtain ⟨z2, hdm2, vs2, rel2, dd2⟩ := dk_of I.hok he
  have m := rel2.merge rel
  refine call_meetsIn PySem.F.slot_dict_update dd.typeIs PySem.F.entry_dict_update (PySem.F.args_dict_update_2 _ _) (meets_dict_update (mixKind X.prog X.w) d e hne hdm2) ⟨vs, vs2, dd, dd2, by rw [← rel.length, ← rel2.length]; exact hsz, fun h' dd' _ hs => ?_⟩
  have he : ∃ q, h'.get? d = some q := let ⟨q, _, _, hq, _⟩ := dd'; ⟨q, hq⟩
  refine ⟨.non, _, d_write I (by rw [hd]; exact True.intro) hs he (dk_new ?_ hdm m dd'), rfl, q⟩
  rw [m.length]
  have := merged_length_le vs vs2
  rw [← rel.length, ← rel2.length] at this
  omega
end
end L2
set_option maxHeartbeats 1000000
namespace L2
open PySem PySem.Spec PyProof.Rows PySem.W
abbrev zipS1 (h : Heap) (x : Str) (t : Tok) : Heap := h.push { cls := .type "str_ascii_iterator", data := .fields #[.str x t, .int 0 0] }
abbrev zipS2 (h : Heap) (x : Str) (t : Tok) (l2 : Addr) : Heap := (zipS1 h x t).push { cls := .type "tuple_iterator", data := .fields #[.ref l2, .int 0 0] }
abbrev zipS3 (h : Heap) (x : Str) (t : Tok) (l2 : Addr) : Heap := (zipS2 h x t l2).push { cls := .type "tuple", data := .seq #[.ref h.objs.size, .ref (zipS1 h x t).objs.size] }
abbrev zipS4 (h : Heap) (x : Str) (t : Tok) (l2 : Addr) : Heap := (zipS3 h x t l2).push { cls := .type "tuple", data := .seq #[.none, .none] }
abbrev zipS5 (h : Heap) (x : Str) (t : Tok) (l2 : Addr) : Heap := (zipS4 h x t l2).push { cls := .type "zip", data := .fields #[.none, .bool false, .bool false, .ref (zipS2 h x t l2).objs.size, .ref (zipS3 h x t l2).objs.size] }
theorem siEB {h h' : Heap} {it a : Addr} {T : String} {x : Str} {t : Tok} {i : Nat} (hs : h.IsStrIter it T x t i) (e : Heap.ExtBut a h h') (ne : it ≠ a) : h'.IsStrIter it T x t i := let ⟨o, ho, r⟩ := hs; ⟨o, e _ _ ne ho, r⟩
theorem siAt {h h' : Heap} {it : Addr} {T : String} {x : Str} {t : Tok} {i : Nat} (hs : h.IsStrIter it T x t i) (k : ∀ o, h.get? it = some o → h'.get? it = some o) : h'.IsStrIter it T x t i := let ⟨o, ho, r⟩ := hs; ⟨o, k o ho, r⟩
section
variable {prog : Program} {w : World} {A : Around} {E : Value → Shared → Prop} {s : Shared}
theorem zipS_item {z TI TO i1 i2 l2 : Addr} {k1 k2 : Nat} {ys : Array Value} {x : Str} {t : Tok} {c : Nat} {y a b : Value} {Q : Value → Shared → Prop} (D : ZipApart z TI TO i1 i2 l2 l2) (hz : IsZip s.heap z TI TO .none) (hTI : IsPair s.heap TI (.ref i1) (.ref i2)) (hTO : IsPair s.heap TO a b)
    (h1 : s.heap.IsStrIter i1 "str_ascii_iterator" x t k1) (h2 : s.heap.IsTupleIter i2 l2 k2) (hl2 : s.heap.IsTuple l2 ys) (hx : x.cps[k1]? = some c) (hy : ys[k2]? = some y)
    (hQ : ∀ h', IsZip h' z TI TO (rawInt s.heap.objs.size) → IsPair h' TO (.str ⟨#[c]⟩ s.toks) y → h'.IsStrIter i1 "str_ascii_iterator" x t (k1 + 1) → h'.IsTupleIter i2 l2 (k2 + 1) → IsPair h' s.heap.objs.size (.str ⟨#[c]⟩ s.toks) y → (∀ c o, c ≠ z → c ≠ TO → c ≠ i1 → c ≠ i2 → s.heap.get? c = some o → h'.get? c = some o) → Q (.ref s.heap.objs.size) { s with heap := h', toks := s.toks + 1 }) :
    wpAny (model prog w) A (Builtin.«zip.__next__» ⟨[.ref z], []⟩) (fun fin s' => ∃ v, fin = .done (.ret v) ∧ Q v s') E s := by
  show wpAny _ _ (field (.ref z) 2 >>= _) _ _ _; refine wpAny_bind (wpAny_field hz rfl (x := .bool false) rfl ?_)
  show wpAny _ _ (field (.ref z) 3 >>= _) _ _ _; refine wpAny_bind (wpAny_field hz rfl (x := .ref TI) rfl ?_); refine wpAny_bind (wpAny_seqItems hTI rfl ?_)
  show wpAny _ _ (Builtin.SmallTypes.ownedTupleIsFree (.ref z) >>= _) _ _ _; refine wpAny_bind ?_; unfold Builtin.SmallTypes.ownedTupleIsFree
  refine wpAny_bind (wpAny_field hz rfl (x := .none) rfl (wpAny_pure ?_)); simp only [if_true]; refine wpAny_bind (wpAny_rule ?_)
  refine wpAny_bind (wpAny_field hz rfl (x := .ref TO) rfl ?_); refine wpAny_bind (wpAny_setField_rec hz (by simp) fun g1 z1 c1 => ?_)
  replace z1 : IsZip g1 z TI TO .ellipsis := z1
  refine wpAny_bind ?_; simp only [List.zipIdx_cons, List.zipIdx_nil, List.forIn_cons, List.forIn_nil]; refine wpAny_bind (wpAny_bind (wpAny_onRaise ?_))
  show wpAny _ _ (Builtin.SmallTypes.nextOf (.ref i1) >>= _) _ _ _; refine wpAny_bind (wpAny_nextOf_ascii_item (siEB h1 c1.extBut D.i1z) hx fun g2 it2 c2 => wpAny_pure ?_)
  have t2 : IsPair g2 TO a b := c2.extBut _ _ D.TOi1 (c1.extBut _ _ D.TOz hTO)
  refine wpAny_bind (wpAny_seqItems t2 rfl ?_); refine wpAny_bind (wpAny_updateSeq_pair t2 fun g3 t3 c3 => ?_)
  replace t3 : IsPair g3 TO (.str ⟨#[c]⟩ s.toks) b := t3
  refine wpAny_bind (wpAny_letGo (wpAny_pure ?_)); refine wpAny_bind (wpAny_bind (wpAny_onRaise ?_))
  show wpAny _ _ (Builtin.SmallTypes.nextOf (.ref i2) >>= _) _ _ _; refine wpAny_bind (nextOf_tup_item (((h2.extBut c1.extBut D.i2z).extBut c2.extBut D.i12.symm).extBut c3.extBut D.TOi2.symm) (((hl2.extBut c1.extBut D.l2z).extBut c2.extBut D.l2i1).extBut c3.extBut D.l2TO) hy fun g4 it4 c4 => wpAny_pure ?_)
  have t4 : IsPair g4 TO (.str ⟨#[c]⟩ s.toks) b := c4.extBut _ _ D.TOi2 t3
  refine wpAny_bind (wpAny_seqItems t4 rfl ?_); refine wpAny_bind (wpAny_updateSeq_pair t4 fun g5 t5 c5 => ?_)
  replace t5 : IsPair g5 TO (.str ⟨#[c]⟩ s.toks) y := t5
  refine wpAny_bind (wpAny_letGo (wpAny_pure (wpAny_pure ?_))); refine wpAny_bind (wpAny_seqItems t5 rfl ?_); refine wpAny_bind (wpAny_newTuple ?_)
  have sz : g5.objs.size = s.heap.objs.size := by rw [c5.1, c4.1, c3.1, c2.1, c1.1]
  have z5 : IsZip g5 z TI TO .ellipsis := c5.extBut _ _ D.TOz.symm (c4.extBut _ _ D.i2z.symm (c3.extBut _ _ D.TOz.symm (c2.extBut _ _ D.i1z.symm z1)))
  have k5 : ∀ c o, c ≠ z → c ≠ TO → c ≠ i1 → c ≠ i2 → s.heap.get? c = some o → g5.get? c = some o := fun c o d1 d2 d3 d4 e => c5.extBut _ _ d2 (c4.extBut _ _ d4 (c3.extBut _ _ d2 (c2.extBut _ _ d3 (c1.extBut _ _ d1 e))))
  have j1 : g5.IsStrIter i1 "str_ascii_iterator" x t (k1 + 1) := siEB (siEB (siEB it2 c3.extBut D.TOi1.symm) c4.extBut D.i12) c5.extBut D.TOi1.symm
  have j2 : g5.IsTupleIter i2 l2 (k2 + 1) := it4.extBut c5.extBut D.TOi2.symm
  have zlt : z < g5.objs.size := Heap.lt_size z5
  show wpAny _ _ (Builtin.SmallTypes.ownedTupleHandOut (.ref z) (.ref g5.objs.size) >>= _) _ _ _; refine wpAny_bind ?_; unfold Builtin.SmallTypes.ownedTupleHandOut
  have z6 : IsZip (g5.push { cls := .type "tuple", data := .seq #[(.str ⟨#[c]⟩ s.toks), y] }) z TI TO .ellipsis := Heap.get?_push_of_some _ z5
  refine wpAny_bind (wpAny_setField_rec z6 (by simp) fun g7 z7 c7 => ?_)
  replace z7 : IsZip g7 z TI TO (rawInt g5.objs.size) := z7
  refine wpAny_setField_rec z7 (by simp) fun g8 z8 c8 => ?_
  replace z8 : IsZip g8 z TI TO (rawInt g5.objs.size) := z8
  have up : ∀ c o, c ≠ z → g5.get? c = some o → g8.get? c = some o := fun c o d1 e => c8.extBut _ _ d1 (c7.extBut _ _ d1 (Heap.get?_push_of_some _ e))
  have p8 : IsPair g8 g5.objs.size (.str ⟨#[c]⟩ s.toks) y := c8.extBut _ _ (Nat.ne_of_gt zlt) (c7.extBut _ _ (Nat.ne_of_gt zlt) (Heap.get?_push_size _ rfl))
  rw [sz] at z8 p8
  refine wpAny_pure ⟨_, rfl, ?_⟩
  show Q (.ref g5.objs.size) _; rw [sz]
  exact hQ g8 z8 (up _ _ D.TOz t5) (siAt j1 fun o e => up _ o D.i1z e) (j2.at fun o e => up _ o D.i2z e) p8 fun c o d1 d2 d3 d4 e => up c o d1 (k5 c o d1 d2 d3 d4 e)
theorem zipS_end {z TI TO i1 i2 l2 : Addr} {k1 k2 : Nat} {ys : Array Value} {x : Str} {t : Tok} {a b : Value} {Q : Fin → Shared → Prop} (hh : A.handled = none) (D : ZipApart z TI TO i1 i2 l2 l2) (hz : IsZip s.heap z TI TO .none) (hTI : IsPair s.heap TI (.ref i1) (.ref i2)) (hTO : IsPair s.heap TO a b)
    (h1 : s.heap.IsStrIter i1 "str_ascii_iterator" x t k1) (h2 : s.heap.IsTupleIter i2 l2 k2) (hl2 : s.heap.IsTuple l2 ys) (hend : x.cps[k1]? = none ∨ ys[k2]? = none)
    (hE : ∀ h' e tk, (∀ c o, c ≠ z → c ≠ TO → c ≠ i1 → c ≠ i2 → s.heap.get? c = some o → h'.get? c = some o) → (∃ o, h'.get? e = some o ∧ o.cls = .type "StopIteration") → E (.ref e) { s with heap := h', toks := tk }) : wpAny (model prog w) A (Builtin.«zip.__next__» ⟨[.ref z], []⟩) Q E s := by
  show wpAny _ _ (field (.ref z) 2 >>= _) _ _ _; refine wpAny_bind (wpAny_field hz rfl (x := .bool false) rfl ?_)
  show wpAny _ _ (field (.ref z) 3 >>= _) _ _ _; refine wpAny_bind (wpAny_field hz rfl (x := .ref TI) rfl ?_); refine wpAny_bind (wpAny_seqItems hTI rfl ?_)
  show wpAny _ _ (Builtin.SmallTypes.ownedTupleIsFree (.ref z) >>= _) _ _ _; refine wpAny_bind ?_; unfold Builtin.SmallTypes.ownedTupleIsFree
  refine wpAny_bind (wpAny_field hz rfl (x := .none) rfl (wpAny_pure ?_)); simp only [if_true]; refine wpAny_bind (wpAny_rule ?_)
  refine wpAny_bind (wpAny_field hz rfl (x := .ref TO) rfl ?_); refine wpAny_bind (wpAny_setField_rec hz (by simp) fun g1 z1 c1 => ?_)
  replace z1 : IsZip g1 z TI TO .ellipsis := z1
  refine wpAny_bind ?_; simp only [List.zipIdx_cons, List.zipIdx_nil, List.forIn_cons, List.forIn_nil]; refine wpAny_bind (wpAny_bind (wpAny_onRaise ?_))
  show wpAny _ _ (Builtin.SmallTypes.nextOf (.ref i1) >>= _) _ _ _
  cases hx : x.cps[k1]? with
  | none =>
    refine wpAny_bind (wpAny_nextOf_ascii_end hh (siEB h1 c1.extBut D.i1z) hx fun g2 e c2 ⟨oe, hoe, hce⟩ => ?_)
    have z2 : IsZip g2 z TI TO .ellipsis := c2 _ _ D.i1z.symm z1
    have ez : e ≠ z := fun q => by subst q; rw [z2] at hoe; cases hoe; simp at hce
    exact wpAny_setField_rec z2 (by simp) fun g3 _ c3 => hE g3 e _ (fun c o d1 _ d3 _ q => c3.extBut _ _ d1 (c2 _ _ d3 (c1.extBut _ _ d1 q))) ⟨oe, c3.extBut _ _ ez hoe, hce⟩
  | some c =>
    have hy : ys[k2]? = none := hend.resolve_left (by rw [hx]; exact nofun)
    refine wpAny_bind (wpAny_nextOf_ascii_item (siEB h1 c1.extBut D.i1z) hx fun g2 it2 c2 => wpAny_pure ?_)
    have t2 : IsPair g2 TO a b := c2.extBut _ _ D.TOi1 (c1.extBut _ _ D.TOz hTO)
    refine wpAny_bind (wpAny_seqItems t2 rfl ?_); refine wpAny_bind (wpAny_updateSeq_pair t2 fun g3 t3 c3 => ?_)
    refine wpAny_bind (wpAny_letGo (wpAny_pure ?_)); refine wpAny_bind (wpAny_bind (wpAny_onRaise ?_))
    show wpAny _ _ (Builtin.SmallTypes.nextOf (.ref i2) >>= _) _ _ _; refine wpAny_bind (nextOf_tup_end hh (((h2.extBut c1.extBut D.i2z).extBut c2.extBut D.i12.symm).extBut c3.extBut D.TOi2.symm) (((hl2.extBut c1.extBut D.l2z).extBut c2.extBut D.l2i1).extBut c3.extBut D.l2TO) hy fun g4 e c4 ⟨oe, hoe, hce⟩ => ?_)
    have z4 : IsZip g4 z TI TO .ellipsis := c4 _ _ D.i2z.symm (c3.extBut _ _ D.TOz.symm (c2.extBut _ _ D.i1z.symm z1))
    have ez : e ≠ z := fun q => by subst q; rw [z4] at hoe; cases hoe; simp at hce
    exact wpAny_setField_rec z4 (by simp) fun g5 _ c5 => hE g5 e _ (fun c o d1 d2 d3 d4 q => c5.extBut _ _ d1 (c4 _ _ d4 (c3.extBut _ _ d2 (c2.extBut _ _ d3 (c1.extBut _ _ d1 q))))) ⟨oe, c5.extBut _ _ ez hoe, hce⟩
theorem nextS_item {z TI TO i1 i2 l2 : Addr} {k1 k2 : Nat} {ys : Array Value} {x : Str} {t : Tok} {c : Nat} {y a b : Value} {Q : Option Value → Shared → Prop} (D : ZipApart z TI TO i1 i2 l2 l2) (hz : IsZip s.heap z TI TO .none) (hTI : IsPair s.heap TI (.ref i1) (.ref i2)) (hTO : IsPair s.heap TO a b)
    (h1 : s.heap.IsStrIter i1 "str_ascii_iterator" x t k1) (h2 : s.heap.IsTupleIter i2 l2 k2) (hl2 : s.heap.IsTuple l2 ys) (hx : x.cps[k1]? = some c) (hy : ys[k2]? = some y)
    (hQ : ∀ h', IsZip h' z TI TO (rawInt s.heap.objs.size) → IsPair h' TO (.str ⟨#[c]⟩ s.toks) y → h'.IsStrIter i1 "str_ascii_iterator" x t (k1 + 1) → h'.IsTupleIter i2 l2 (k2 + 1) → IsPair h' s.heap.objs.size (.str ⟨#[c]⟩ s.toks) y → (∀ c o, c ≠ z → c ≠ TO → c ≠ i1 → c ≠ i2 → s.heap.get? c = some o → h'.get? c = some o) → Q (some (.ref s.heap.objs.size)) { s with heap := h', toks := s.toks + 1 }) :
    wpAny (model prog w) A (pyNext (.ref z)) Q E s := by
  have hT : s.TypeIs (.ref z) "zip" := ⟨_, hz, rfl⟩; unfold pyNext
  exact wpAny_bind (wpAny_attempt (wpAny_callSpecial?_slot (name := Str.ofString "__next__") hT F.slot_zip_next (wpAny_call_entry F.slot_zip_next hT F.entry_zip_next (zipS_item D hz hTI hTO h1 h2 hl2 hx hy fun h' a1 a2 a3 a4 a5 a6 => wpAny_pure (hQ h' a1 a2 a3 a4 a5 a6)) (F.args_zip_next_1 _))))
theorem nextS_end {z TI TO i1 i2 l2 : Addr} {k1 k2 : Nat} {ys : Array Value} {x : Str} {t : Tok} {a b : Value} {Q : Option Value → Shared → Prop} (hh : A.handled = none) (D : ZipApart z TI TO i1 i2 l2 l2) (hz : IsZip s.heap z TI TO .none) (hTI : IsPair s.heap TI (.ref i1) (.ref i2)) (hTO : IsPair s.heap TO a b)
    (h1 : s.heap.IsStrIter i1 "str_ascii_iterator" x t k1) (h2 : s.heap.IsTupleIter i2 l2 k2) (hl2 : s.heap.IsTuple l2 ys) (hend : x.cps[k1]? = none ∨ ys[k2]? = none)
    (hQ : ∀ h' tk, (∀ c o, c ≠ z → c ≠ TO → c ≠ i1 → c ≠ i2 → s.heap.get? c = some o → h'.get? c = some o) → Q none { s with heap := h', toks := tk }) : wpAny (model prog w) A (pyNext (.ref z)) Q E s := by
  have hT : s.TypeIs (.ref z) "zip" := ⟨_, hz, rfl⟩; unfold pyNext
  refine wpAny_bind (wpAny_attempt (wpAny_callSpecial?_slot (name := Str.ofString "__next__") hT F.slot_zip_next (wpAny_call_entry F.slot_zip_next hT F.entry_zip_next (zipS_end hh D hz hTI hTO h1 h2 hl2 hend fun h' e tk hk ⟨o, ho, hc⟩ => ?_) (F.args_zip_next_1 _))))
  exact wpAny_bind (wpAny_isInstance (T := "StopIteration") (b := true) ⟨o, ho, hc⟩ isSubtype_stop (wpAny_pure (hQ _ _ hk)))
theorem meets_zipS (x : Str) (t : Tok) (ha : x.cps.all (· < 128) = true) (l2 : Addr) (ys : Array Value) (n : Nat) (dct : Option Addr) (slt : Array (Option Value)) :
    Meets (Builtin.«zip.__new__» ⟨[.type "zip", .str x t, .ref l2], []⟩) (fun _ R s => s.heap.get? l2 = some { cls := .type "tuple", dict := dct, data := .seq ys n, slots := slt } ∧
      R (.ok (.ret (.ref (zipS4 s.heap x t l2).objs.size))) { s with heap := zipS5 s.heap x t l2 }) :=
  .of_wp fun prog w A R s h => by
    obtain ⟨hp, g, d, tk, os⟩ := s; obtain ⟨hl2, h⟩ := h
    have hsub := sub_zip
    have hl2' : (hp.push { cls := .type "str_ascii_iterator", data := .fields #[.str x t, .int 0 0] }).get? l2 = some { cls := .type "tuple", dict := dct, data := .seq ys n, slots := slt } := Heap.get?_push_of_some _ hl2
    have hL2 : Heap.IsTuple (Shared.heap ⟨hp.push { cls := .type "str_ascii_iterator", data := .fields #[.str x t, .int 0 0] }, g, d, tk, os⟩) l2 ys := ⟨_, hl2', rfl, n, rfl⟩
    wp_walk using wpAny_pyIter_ascii ha, wpAny_pyIter_tuple hL2, AutoSeq1.wpAny_loadPart' hl2'
    exact ⟨_, rfl, h⟩
theorem call_zipS {x : Str} {t : Tok} {l2 : Addr} {ys : Array Value} {Q : Value → Shared → Prop} (ha : x.cps.all (· < 128) = true) (hl2 : s.heap.IsTuple l2 ys)
    (h : ∀ h', IsZip h' (s.heap.objs.size + 4) (s.heap.objs.size + 2) (s.heap.objs.size + 3) .none → IsPair h' (s.heap.objs.size + 2) (.ref s.heap.objs.size) (.ref (s.heap.objs.size + 1)) → IsPair h' (s.heap.objs.size + 3) .none .none → h'.IsStrIter s.heap.objs.size "str_ascii_iterator" x t 0 → h'.IsTupleIter (s.heap.objs.size + 1) l2 0 →
      (∀ c o, s.heap.get? c = some o → h'.get? c = some o) → Q (.ref (s.heap.objs.size + 4)) { s with heap := h' }) : wpAny (model prog w) A (call (.type "zip") [.str x t, .ref l2]) Q E s := by
  obtain ⟨⟨c, dct, dt, sl⟩, hl, hc, n, hd⟩ := hl2
  replace hc : c = .type "tuple" := hc
  replace hd : dt = .seq ys n := hd
  subst hc hd
  refine callType_new F.called_zip (by decide) (F.typeCall_zip_2 _ _) (F.newCall_zip_2 _ _) (fun obj => F.args_object_init_3 obj _ _) F.entry_zip_new (meets_zipS x t ha l2 ys n dct sl) ⟨hl, ?_⟩
  have y1 : (zipS1 s.heap x t).objs.size = s.heap.objs.size + 1 := Heap.size_push ..
  have y2 : (zipS2 s.heap x t l2).objs.size = s.heap.objs.size + 2 := by rw [Heap.size_push, y1]
  have y3 : (zipS3 s.heap x t l2).objs.size = s.heap.objs.size + 3 := by rw [Heap.size_push, y2]
  have y4 : (zipS4 s.heap x t l2).objs.size = s.heap.objs.size + 4 := by rw [Heap.size_push, y3]
  have up : ∀ {h : Heap} {o : Obj} {c : Addr} {p : Obj}, h.get? c = some p → (h.push o).get? c = some p := fun q => Heap.get?_push_of_some _ q
  have v5 : (zipS5 s.heap x t l2).get? (zipS4 s.heap x t l2).objs.size = some _ := Heap.get?_push_size _ rfl
  have v4 : (zipS5 s.heap x t l2).get? (zipS3 s.heap x t l2).objs.size = some _ := up (Heap.get?_push_size _ rfl)
  have v3 : (zipS5 s.heap x t l2).get? (zipS2 s.heap x t l2).objs.size = some _ := up (up (Heap.get?_push_size _ rfl))
  have v2 : (zipS5 s.heap x t l2).get? (zipS1 s.heap x t).objs.size = some _ := up (up (up (Heap.get?_push_size _ rfl)))
  have v1 : (zipS5 s.heap x t l2).get? s.heap.objs.size = some _ := up (up (up (up (Heap.get?_push_size _ rfl))))
  show _ ∧ _
  rw [y2, y3, y4] at v5
  rw [y1, y2] at v3
  rw [y3] at v4
  rw [y1] at v2
  rw [y4]
  exact ⟨⟨_, v5, rfl⟩, h _ v5 v3 v4 ⟨_, v1, rfl, rfl⟩ ⟨_, v2, rfl, rfl⟩ fun c o q => up (up (up (up (up q))))⟩
end
def Itzs (a : Str) (b : Addr) : It :=
  ⟨fun i H => ∃ ys y, H b = some (HO.tup ys) ∧ i < a.cps.size ∧ ys[i]? = some y, fun i H z H' => ∃ p y, H p = none ∧ H' = upd H p (.tup [signV a i, y]) ∧ z = .ref p ∧ ∀ ys, H b = some (HO.tup ys) → ys[i]? = some y,
   fun i H => ∃ ys, H b = some (HO.tup ys) ∧ (a.cps.size ≤ i ∨ ys.length ≤ i)⟩
theorem turn_zipS {P : Program} {w : World} {K : PySem.W.Frag} {elts : List Expr} {x1} {tp : Pos} (a : Str) (t : Tok) (b z TI TO i1 i2 : Addr) (D1 : TI ≠ z ∧ TO ≠ z ∧ i1 ≠ z ∧ i2 ≠ z ∧ TI ≠ TO ∧ TI ≠ i1 ∧ TI ≠ i2 ∧ TO ≠ i1 ∧ TO ≠ i2 ∧ i1 ≠ i2) :
    Turn P w K (.Tuple elts x1 tp) (Itzs a b) [z, TI, TO, i1, i2] z (fun i h => IsZip h z TI TO .none ∧ IsPair h TI (.ref i1) (.ref i2) ∧ (∃ u v, IsPair h TO u v) ∧ h.IsStrIter i1 "str_ascii_iterator" a t i ∧ h.IsTupleIter i2 b i) where
  mem := by simp
  obj := fun i h st c hc => by
    obtain ⟨hz, hTI, ⟨u, v, hTO⟩, ⟨o1, e1, c1, d1⟩, ⟨o2, e2, c2, d2⟩⟩ := st
    simp only [List.mem_cons, List.not_mem_nil, or_false] at hc
    rcases hc with rfl | rfl | rfl | rfl | rfl
    · exact ⟨_, hz, fun v z => by
        have z' : Data.fields _ = Data.cell v := z
        cases z'⟩
    · exact ⟨_, hTI, fun v z => by
        have z' : Data.seq _ _ = Data.cell v := z
        cases z'⟩
    · exact ⟨_, hTO, fun v z => by
        have z' : Data.seq _ _ = Data.cell v := z
        cases z'⟩
    · exact ⟨o1, e1, fun v z => by rw [d1] at z; cases z⟩
    · exact ⟨o2, e2, fun v z => by rw [d2] at z; cases z⟩
  keep := fun i h h' st k => by
    obtain ⟨hz, hTI, ⟨u, v, hTO⟩, h1, h2⟩ := st
    exact ⟨k z (by simp) _ hz, k TI (by simp) _ hTI, ⟨u, v, k TO (by simp) _ hTO⟩, siAt h1 fun o e => k i1 (by simp) o e, h2.at fun o e => k i2 (by simp) o e⟩
  item := by
    intro X hP hw hK hc i pins s σ H E I hf st hg
    subst hP hw hK
    obtain ⟨ys, y, hq2, hx, hy⟩ := hg
    obtain ⟨its2, rv2, p2, _⟩ := I.tuple (SqT.of hq2)
    have hu1 : a.cps[i]? = some a.cps[i] := Array.getElem?_eq_getElem hx
    have ru1 : RelV (signV a i) (.str ⟨#[a.cps[i]]⟩ s.toks) := ⟨s.toks, by rw [Array.getD_eq_getD_getElem?, hu1]; rfl⟩
    generalize a.cps[i] = u1 at hu1 ru1
    obtain ⟨u2, hu2, ru2⟩ := rv2.get hy
    obtain ⟨hz, hTI, ⟨u, v, hTO⟩, h1, h2⟩ := st
    obtain ⟨d1, d2, d3, d4, d5, d6, d7, d8, d9, d10⟩ := D1
    have L2 : s.heap.IsTuple b its2.toArray := p2
    have D : ZipApart z TI TO i1 i2 b b := by
      obtain ⟨o2, e2, c2, _⟩ := id L2
      obtain ⟨o3, e3, c3, _⟩ := id h1
      obtain ⟨o4, e4, c4, _⟩ := id h2
      exact ⟨d1, d2, d3, d4, d5, d6, d7, d8, d9, d10, ne_cls e2 hz (by rw [c2]; exact fun z => absurd (Value.type.inj z) (by decide)), (fun q => by rw [q, (hf TO (by simp)).1] at hq2; cases hq2), ne_cls e2 e3 (by rw [c2, c3]; exact fun z => absurd (Value.type.inj z) (by decide)), ne_cls e2 e4 (by rw [c2, c4]; exact fun z => absurd (Value.type.inj z) (by decide)),
        ne_cls e2 hz (by rw [c2]; exact fun z => absurd (Value.type.inj z) (by decide)), (fun q => by rw [q, (hf TO (by simp)).1] at hq2; cases hq2), ne_cls e2 e3 (by rw [c2, c3]; exact fun z => absurd (Value.type.inj z) (by decide)), ne_cls e2 e4 (by rw [c2, c4]; exact fun z => absurd (Value.type.inj z) (by decide))⟩
    refine nextS_item D hz hTI hTO h1 h2 L2 (c := u1) (y := u2) hu1 (by simpa using hu2) fun h3 a1 a2 a3 a4 a5 hk => ?_
    refine ⟨_, rfl, wpAny_letOwnedTupleGo_zip a1 fun h4 hz4 hs4 => ?_⟩
    have hzl : z < s.heap.objs.size := Heap.lt_size hz
    have hn : H s.heap.objs.size = none := I.hok.fresh (Nat.le_refl _)
    have keep : ∀ c o, c ≠ z → c ≠ TO → c ≠ i1 → c ≠ i2 → s.heap.get? c = some o → h4.get? c = some o := fun c o c1 c2 c3 c4 q => (hs4.2 c c1).trans (hk c o c1 c2 c3 c4 q)
    have tup : h4.get? s.heap.objs.size = some { cls := .type "tuple", data := .seq #[.str ⟨#[u1]⟩ s.toks, u2] } := (hs4.2 _ (ngt hzl)).trans a5
    have fpn : ∀ c ∈ [z, TI, TO, i1, i2], H c = none := fun c hc => (hf c hc).1
    have nit : ∀ c v, H c = some v → c ≠ z ∧ c ≠ TO ∧ c ≠ i1 ∧ c ≠ i2 := fun c v q => ⟨(fun e => by rw [e, fpn z (by simp)] at q; cases q), (fun e => by rw [e, fpn TO (by simp)] at q; cases q), (fun e => by rw [e, fpn i1 (by simp)] at q; cases q), (fun e => by rw [e, fpn i2 (by simp)] at q; cases q)⟩
    have kch : ∀ c o, c ∉ [z, TO, i1, i2] → s.heap.get? c = some o → h4.get? c = some o := fun c o hc q => keep c o (fun e => hc (by simp [e])) (fun e => hc (by simp [e])) (fun e => hc (by simp [e])) (fun e => hc (by simp [e])) q
    have I2 : Inv X pins σ (upd H s.heap.objs.size (.tup [signV a i, y])) { s with heap := h4, toks := s.toks + 1 } := by
      refine I.step (g' := s.gens) (d' := s.drawn) (ch := [z, TO, i1, i2]) (fun c hc => ?_) (fun c o _ _ hc' q _ => kch c o hc' q) (fun c o _ _ hc' q _ => ⟨o.slots, kch c o hc' q⟩) (fun c o _ q n => by rw [upd_ne (nlt (Heap.lt_size q))]; exact n) (fun c o hc' q => ⟨o, kch c o hc' q⟩)
        (fun c xs q => by rw [upd_ne (ne_of_none q hn)]; exact q) (fun c o v q => by rw [upd_ne (ne_of_none q hn)]; exact q) (fun c ps q => ⟨#[], by rw [upd_ne (ne_of_none q hn), q]; simp⟩) (fun m hm => ?_) (fun c v q => ?_) I.bare
      · have hc' : c ∈ [z, TI, TO, i1, i2] := by
          simp only [List.mem_cons, List.not_mem_nil, or_false] at hc ⊢
          rcases hc with e | e | e | e <;> simp [e]
        obtain ⟨f0, f1, f2, f3, f4, f5⟩ := hf c hc'
        exact ⟨f3, f1, f4, f5⟩
      · obtain ⟨o, es, ep, ho, r⟩ := hm
        exact ⟨o, es, ep, keep _ o (Ne.symm (hf z (by simp)).2.1) (Ne.symm (hf TO (by simp)).2.1) (Ne.symm (hf i1 (by simp)).2.1) (Ne.symm (hf i2 (by simp)).2.1) ho, r⟩
      · by_cases hb : c = s.heap.objs.size
        · subst hb
          rw [upd_same] at q
          cases q
          exact ⟨(show 2 ≤ sizeLine by rw [sizeLine_eq]; decide), [.str ⟨#[u1]⟩ s.toks, u2], .cons ru1 (.cons ru2 .nil), ⟨_, tup, rfl, 0, rfl⟩, _, tup, rfl⟩
        · rw [upd_ne hb] at q
          refine (I.hok c v q).stay (fun c' w' hc' q' => ?_) (fun c' q' => by rw [upd_ne (ne_of_none q' hn)]; exact q') fun c' xs q' => by rw [upd_ne (ne_of_none q' hn)]; exact q'
          rcases hc' with e | e
          · subst e; obtain ⟨n1, n2, n3, n4⟩ := nit c' v q; exact keep c' w' n1 n2 n3 n4 q'
          · obtain ⟨n1, n2, n3, n4⟩ := nit c' _ e; exact keep c' w' n1 n2 n3 n4 q'
    refine ⟨.ref s.heap.objs.size, _, I2, rfl, ⟨_, y, hn, rfl, rfl, fun ys' h' => by rw [I.tuple_inj (SqT.of h') (SqT.of hq2)]; exact hy⟩, ?_, fun c hc => ?_⟩
    · exact ⟨hz4, hs4.extBut _ _ d1 (hk TI _ d1 d5 d6 d7 hTI), ⟨_, _, hs4.extBut _ _ d2 a2⟩, siAt a3 fun o e => hs4.extBut _ _ d3 e, a4.at fun o e => hs4.extBut _ _ d4 e⟩
    · have hb' : c < s.heap.objs.size := by
        simp only [List.mem_cons, List.not_mem_nil, or_false] at hc
        obtain ⟨o3, e3, _⟩ := h1
        obtain ⟨o4, e4, _⟩ := h2
        rcases hc with e | e | e | e | e
        · rw [e]; exact hzl
        · rw [e]; exact Heap.lt_size hTI
        · rw [e]; exact Heap.lt_size hTO
        · rw [e]; exact Heap.lt_size e3
        · rw [e]; exact Heap.lt_size e4
      rw [upd_ne (nlt hb')]
      exact fpn c hc
  done := by
    intro X hP hw hK hc i pins s σ H E I hf st hg
    subst hP hw hK
    obtain ⟨ys, hq2, hend⟩ := hg
    obtain ⟨its2, rv2, p2, _⟩ := I.tuple (SqT.of hq2)
    obtain ⟨hz, hTI, ⟨u, v, hTO⟩, h1, h2⟩ := st
    obtain ⟨d1, d2, d3, d4, d5, d6, d7, d8, d9, d10⟩ := D1
    have L2 : s.heap.IsTuple b its2.toArray := p2
    have D : ZipApart z TI TO i1 i2 b b := by
      obtain ⟨o2, e2, c2, _⟩ := id L2
      obtain ⟨o3, e3, c3, _⟩ := id h1
      obtain ⟨o4, e4, c4, _⟩ := id h2
      exact ⟨d1, d2, d3, d4, d5, d6, d7, d8, d9, d10, ne_cls e2 hz (by rw [c2]; exact fun z => absurd (Value.type.inj z) (by decide)), (fun q => by rw [q, (hf TO (by simp)).1] at hq2; cases hq2), ne_cls e2 e3 (by rw [c2, c3]; exact fun z => absurd (Value.type.inj z) (by decide)), ne_cls e2 e4 (by rw [c2, c4]; exact fun z => absurd (Value.type.inj z) (by decide)),
        ne_cls e2 hz (by rw [c2]; exact fun z => absurd (Value.type.inj z) (by decide)), (fun q => by rw [q, (hf TO (by simp)).1] at hq2; cases hq2), ne_cls e2 e3 (by rw [c2, c3]; exact fun z => absurd (Value.type.inj z) (by decide)), ne_cls e2 e4 (by rw [c2, c4]; exact fun z => absurd (Value.type.inj z) (by decide))⟩
    have l2 := rv2.length
    have fpn : ∀ c ∈ [z, TI, TO, i1, i2], H c = none := fun c hc => (hf c hc).1
    refine nextS_end (I.ok.hd hc) D hz hTI hTO h1 h2 L2 (hend.imp (fun h => by simpa using h) fun h => by simp; omega) fun h4 tk hk => ⟨rfl, ?_⟩
    have nit : ∀ c v, H c = some v → c ≠ z ∧ c ≠ TO ∧ c ≠ i1 ∧ c ≠ i2 := fun c v q => ⟨(fun e => by rw [e, fpn z (by simp)] at q; cases q), (fun e => by rw [e, fpn TO (by simp)] at q; cases q), (fun e => by rw [e, fpn i1 (by simp)] at q; cases q), (fun e => by rw [e, fpn i2 (by simp)] at q; cases q)⟩
    have kch : ∀ c o, c ∉ [z, TO, i1, i2] → s.heap.get? c = some o → h4.get? c = some o := fun c o hc q => hk c o (fun e => hc (by simp [e])) (fun e => hc (by simp [e])) (fun e => hc (by simp [e])) (fun e => hc (by simp [e])) q
    refine I.step (t' := tk) (g' := s.gens) (d' := s.drawn) (ch := [z, TO, i1, i2]) (fun c hc => ?_) (fun c o _ _ hc' q _ => kch c o hc' q) (fun c o _ _ hc' q _ => ⟨o.slots, kch c o hc' q⟩) (fun c o _ q n => n) (fun c o hc' q => ⟨o, kch c o hc' q⟩)
      (fun c xs q => q) (fun c o v q => q) (fun c ps q => ⟨#[], by rw [q]; simp⟩) (fun m hm => ?_) (fun c v q => ?_) I.bare
    · have hc' : c ∈ [z, TI, TO, i1, i2] := by
        simp only [List.mem_cons, List.not_mem_nil, or_false] at hc ⊢
        rcases hc with e | e | e | e <;> simp [e]
      obtain ⟨f0, f1, f2, f3, f4, f5⟩ := hf c hc'
      exact ⟨f3, f1, f4, f5⟩
    · obtain ⟨o, es, ep, ho, r⟩ := hm
      exact ⟨o, es, ep, hk _ o (Ne.symm (hf z (by simp)).2.1) (Ne.symm (hf TO (by simp)).2.1) (Ne.symm (hf i1 (by simp)).2.1) (Ne.symm (hf i2 (by simp)).2.1) ho, r⟩
    · refine (I.hok c v q).stay (fun c' w' hc' q' => ?_) (fun c' q' => q') fun c' xs q' => q'
      rcases hc' with e | e
      · subst e; obtain ⟨n1, n2, n3, n4⟩ := nit c' v q; exact hk c' w' n1 n2 n3 n4 q'
      · obtain ⟨n1, n2, n3, n4⟩ := nit c' _ e; exact hk c' w' n1 n2 n3 n4 q'
  self := fun A i s Q E st h => wpAny_pyIter_zip st.1 h
section
variable {X : Cx}
def iZipS (ta : TA) : TI := fun σ H R => ta σ H fun vs H1 => ∃ a b, vs = [.str a, .ref b] ∧ a.cps.all (· < 128) = true ∧ (∃ ys, H1 b = some (HO.tup ys)) ∧ R (Itzs a b) H1
theorem pi_zipS {a b : Expr} {ta : TA} {p pos : Pos} {elts : List Expr} {x1} {tp : Pos} (hg : Gl X "zip") (hm : X.mg "zip" = none) (ha : PA X [a, b] ta) (hs : starEach [a, b] X.env = (false, eval a X.env) :: starEach [b] X.env := by rfl) (hpl : (backTo pos (starEach [b] X.env)).any (·.1) = false := by rfl) :
    PI X (.Tuple elts x1 tp) (.Call (.Name "zip" p) [a, b] [] pos) (iZipS ta) := by
  intro pins s σ H R I h
  refine Call_ (ld_blt I hg hm (u := .type "zip") (by decide +kernel) (PyProof.Rows.callWith_type1 (thn (ha pos pins s σ H _ I h) fun us s1 ⟨vs, H1, I1, r1, q1⟩ => ?_) hs hpl))
  obtain ⟨l, m, e, ha1, ⟨ys, hq2⟩, q⟩ := q1
  subst e
  obtain ⟨u, w', rfl, ru, rw'⟩ := vals2 r1
  obtain ⟨t1, rfl⟩ := ru
  cases rw'
  obtain ⟨its2, rv2, p2, _⟩ := I1.tuple (SqT.of hq2)
  refine call_zipS ha1 p2 fun h' hz hTI hTO hi1 hi2 kp => ?_
  have I2 : Inv X pins σ H1 { s1 with heap := h' } := I1.kept (t' := s1.toks) kp
  have add : ∀ (n i j : Nat), i ≠ j → n + i ≠ n + j := fun n i j h z => h (Nat.add_left_cancel z)
  have T : Turn X.prog X.w X.K (.Tuple elts x1 tp) (Itzs l m) [s1.heap.objs.size + 4, s1.heap.objs.size + 2, s1.heap.objs.size + 3, s1.heap.objs.size, s1.heap.objs.size + 1] (s1.heap.objs.size + 4) _ :=
    turn_zipS l t1 m (s1.heap.objs.size + 4) (s1.heap.objs.size + 2) (s1.heap.objs.size + 3) s1.heap.objs.size (s1.heap.objs.size + 1)
      ⟨add _ 2 4 (by decide), add _ 3 4 (by decide), add _ 0 4 (by decide), add _ 1 4 (by decide), add _ 2 3 (by decide), add _ 2 0 (by decide), add _ 2 1 (by decide), add _ 3 0 (by decide), add _ 3 1 (by decide), add _ 0 1 (by decide)⟩
  refine T.self X.A 0 { s1 with heap := h' } _ _ ⟨hz, hTI, ⟨_, _, hTO⟩, hi1, hi2⟩ ?_
  refine ⟨s1.heap.objs.size + 4, _, _, _, H1, rfl, I2, T, ⟨hz, hTI, ⟨_, _, hTO⟩, hi1, hi2⟩, fun b hb => ?_, q⟩
  have hb' : s1.heap.objs.size ≤ b := by
    simp only [List.mem_cons, List.not_mem_nil, or_false] at hb
    rcases hb with e | e | e | e | e
    · rw [e]; exact Nat.le_add_right _ _
    · rw [e]; exact Nat.le_add_right _ _
    · rw [e]; exact Nat.le_add_right _ _
    · rw [e]; exact Nat.le_refl _
    · rw [e]; exact Nat.le_add_right _ _
  obtain ⟨f0, f1⟩ := I1.fpOk hb' (I1.hok.fresh hb')
  exact ⟨f0, f1⟩
theorem for_zipS {a : Str} {b : Addr} {ys : List V} {g : TG} {tb : TS} {D : Ends} {σ : St} {H : Hp} (Pv : Nat → St → Hp → Prop) (h0 : Pv 0 σ H) (hl : ∀ i σ H, Pv i σ H → H b = some (HO.tup ys))
    (hs : ∀ i y σ H p, i < a.cps.size → ys[i]? = some y → Pv i σ H → H p = none → g (.ref p) σ (upd H p (.tup [signV a i, y])) fun σ2 H2 => tb { D with nx := Pv (i + 1), ct := Pv (i + 1), bk := D.nx } σ2 H2) (hd : ∀ σ H, Pv (min a.cps.size ys.length) σ H → D.nx σ H) :
    ∃ W : Nat → Nat → St → Hp → Prop, (∃ m, W 0 m σ H) ∧ ∀ i m σ H, W i m σ H →
      ((Itzs a b).stop i H ∧ D.nx σ H) ∨ ((Itzs a b).go i H ∧ ∃ N : St → Hp → Prop, (∀ σ' H', N σ' H' → ∃ m', m' < m ∧ W (i + 1) m' σ' H') ∧ ∀ x H', (Itzs a b).yld i H x H' → g x σ H' fun σ2 H2 => tb { D with nx := N, ct := N, bk := D.nx } σ2 H2) := by
  refine ⟨fun i m σ H => m = min a.cps.size ys.length - i ∧ i ≤ min a.cps.size ys.length ∧ Pv i σ H, ⟨min a.cps.size ys.length, by simp, Nat.zero_le _, h0⟩, ?_⟩
  rintro i m σ H ⟨rfl, hi, p⟩
  have q2 := hl i σ H p
  by_cases hlt : i < min a.cps.size ys.length
  · have h1 : i < a.cps.size := by omega
    have h2 : i < ys.length := by omega
    refine .inr ⟨⟨ys, ys[i], q2, h1, by simp⟩, Pv (i + 1), fun σ' H' q => ⟨_, by omega, rfl, by omega, q⟩, ?_⟩
    rintro x H' ⟨c, y, hc, rfl, rfl, hy⟩
    exact hs i y σ H c h1 (hy ys q2) p hc
  · have e : i = min a.cps.size ys.length := by omega
    subst e
    exact .inl ⟨⟨ys, q2, by omega⟩, hd σ H p⟩
end
end L2
set_option maxHeartbeats 1000000
namespace L2
open PySem PySem.Spec PyProof.Rows PySem.W
section
variable {X : Cx}
def tRevL (K : PySem.W.Frag) (te : TE) (ts : TO) : TE := fun σ H Q => te σ H fun x H1 => ts σ H1 fun l H2 => ∃ a xs, x = .ref a ∧ l = some (-1) ∧ SqL K H2 a xs ∧ ∀ p, H2 p = none → Q (.ref p) (upd H2 p (.lst xs.reverse))
theorem slice_rev (its : Array Value) : slicePick its none none (some (-1)) = its.toList.reverse.toArray := by
  have b1 : (sliceBounds none none (some (-1)) its.size).1 = (its.size : Int) - 1 := rfl
  have b2 : (sliceBounds none none (some (-1)) its.size).2.1 = -1 := rfl
  have b3 : (sliceBounds none none (some (-1)) its.size).2.2 = -1 := rfl
  unfold slicePick
  rw [b1, b2, b3]
  congr 1
  have c : sliceRange ((its.size : Int) - 1) (-1) (-1) = (List.range its.size).map fun (k : Nat) => ((its.size : Int) - 1 + -1 * (k : Int)).toNat := by
    unfold sliceRange
    simp only [show ¬ ((-1 : Int) > 0) by decide, if_false]
    congr 2
    by_cases h : (its.size : Int) - 1 > -1
    · rw [if_pos h]
      have : (-(-1) : Int) = 1 := rfl
      rw [this, Int.ediv_one]
      omega
    · rw [if_neg h]
      have : (0 : Int).toNat = 0 := rfl
      omega
  rw [c, List.filterMap_map, ← pick_rev]
  congr 1
  funext k
  show its[((its.size : Int) - 1 + -1 * (k : Int)).toNat]? = its[((its.size : Int) - 1 + (k : Int) * (-1)).toNat]?
  rw [Int.mul_comm]
theorem pe_revL {e st : Expr} {te : TE} {ts : TO} {p2 pos : Pos} (he : PE X e te) (hs : PO X (some st) ts) : PE X (.Subscript e (.Slice none none (some st) p2) pos) (tRevL X.K te ts) := by
  intro pins s σ H Q I h
  refine Subscript_ (thn (he pins s σ H _ I h) fun v s1 ⟨x, H1, I1, r1, q1⟩ => wpAny_Slice ?_)
  rw [evalPart_none]
  refine wpAny_pure (wpAny_pure (thn (hs pins s1 σ H1 _ I1 q1) fun vu s3 ⟨u, H3, I3, pu, q3⟩ => ?_))
  obtain ⟨a, xs, rfl, rfl, hx, q⟩ := q3
  cases r1
  cases pu with
  | int j uj =>
    have I4 : Inv X pins σ H3 { s3 with heap := s3.heap.push { cls := .type "slice", data := .fields #[.none, .none, .int (-1) uj] } } := I3.kept (t' := s3.toks) fun b ob q => Heap.get?_push_of_some _ q
    have hsl : (s3.heap.push { cls := .type "slice", data := .fields #[.none, .none, .int (-1) uj] }).IsSliceOf s3.heap.objs.size .none .none (.int (-1) uj) := Heap.IsSliceOf.new ..
    obtain ⟨its, r, ht, hz⟩ := I4.list hx
    have hlen : its.toArray.size = xs.length := by rw [List.size_toArray]; exact r.length.symm
    show wpAny (model X.prog X.w) X.A (subscriptTail e (.Slice none none (some st) p2) (.ref a) (.ref s3.heap.objs.size)) (EP X pins σ Q) X.xe { s3 with heap := s3.heap.push { cls := .type "slice", data := .fields #[.none, .none, .int (-1) uj] } }
    refine tail_any (ops := [.ref a, .ref s3.heap.objs.size]) ht.isList.typeIs slot_list_getitem.lookup ?_ (by with_unfolding_all rfl)
    refine wpAny_getItem_list_slice ht.isList hsl .none .none (.int _ _) (by simp) ?_ (by rw [hlen]; exact hz)
    rw [slice_rev]
    refine ⟨.ref _, _, I4.laid (t' := s3.toks) (o := .lst xs.reverse) (fun b ob q => Heap.get?_push_of_some _ q) (Nat.le_refl _) ?_, rfl, q _ (I4.hok.fresh (Nat.le_refl _))⟩
    have e : its.toArray.toList.reverse.toArray = its.reverse.toArray := by simp
    rw [e]
    exact ⟨by rw [List.length_reverse]; exact hz, its.reverse, 0, vals_rev r, Heap.get?_push_size _ rfl⟩
end
end L2
set_option maxHeartbeats 1000000
namespace L2
open PySem PySem.Spec PyProof.Rows PySem.W
theorem noFill_tuple_mul : fillsNumberSlot (.type "tuple") "mul" = pure false :=
  PySem.fillsNumberSlot_seq (id := "tuple.__mul__") (r := some (.builtin "tuple.__rmul__")) PySem.F.slot_tuple_mul.lookup (by decide +kernel) PySem.F.slot_tuple_rmul.lookup (by decide +kernel)
theorem repeat_tuple : seqRepeat? (.type "tuple") = pure (some (.builtin "tuple.__mul__")) := by
  unfold seqRepeat?
  rw [PySem.seqSlot_of (T := "tuple") (name := "__mul__") (id := "tuple.__mul__") PySem.F.slot_tuple_mul.lookup (by decide +kernel), PySem.seqSlot_of (T := "tuple") (name := "__rmul__") (id := "tuple.__rmul__") PySem.F.slot_tuple_rmul.lookup (by decide +kernel)]
  rfl
theorem int_rmul_tup (a : Int) (t : Tok) (l : Addr) (items : Array Value) (n : Nat) (dct : Option Addr) (slt : Array (Option Value)) :
    Meets (Builtin.«int.__rmul__» ⟨[.int a t, .ref l], []⟩) (fun _ R s => s.heap.get? l = some { cls := .type "tuple", dict := dct, data := .seq items n, slots := slt } ∧ R (.ok (.ret Value.notImplemented)) s) :=
  .of_wp fun prog w A R s h => by obtain ⟨hp, g, d, tk, os⟩ := s; obtain ⟨hl, h⟩ := h; wp_walk; exact ⟨_, rfl, h⟩
theorem tup_mulW (l : Addr) (items : Array Value) (n : Nat) (dct : Option Addr) (slt : Array (Option Value)) (k : Int) (t : Tok) (hc0 : ¬(decide (k < -2 ^ 63) || decide (k ≥ 2 ^ 63)) = true) (hc1 : ¬(items.isEmpty || k == 1) = true) (hc2 : ¬(decide (k ≤ 0) || items.isEmpty) = true) (hc3 : ¬((items.size : Int) * k > (2 ^ 63 - 1) / 8)) (hc4 : ¬Builtin.Tuple.tupleTooMany ((items.size : Int) * k) = true)
    (hz : ((List.replicate k.toNat items).foldl (· ++ ·) #[]).size ≤ sizeLine) :
    Meets (Builtin.«tuple.__mul__» ⟨[.ref l, .int k t], []⟩) (fun _ R s => s.heap.get? l = some { cls := .type "tuple", dict := dct, data := .seq items n, slots := slt } ∧ R (.ok (.ret (.ref s.heap.objs.size))) { s with heap := s.heap.push { cls := .type "tuple", data := .seq ((List.replicate k.toNat items).foldl (· ++ ·) #[]) } }) :=
  .of_wp fun prog w A R s h => by
    obtain ⟨hp, g, d, tk, os⟩ := s
    obtain ⟨hl, h⟩ := h
    have f1 := AutoSeq1.idx_int
    have f2 := AutoSeq1.sub_tuple_tuple
    wp_walk using AutoSeq1.wpAny_loadPart' hl
    rw [if_neg hc0]
    wp_walk using AutoSeq1.wpAny_loadPart' hl
    rw [if_neg hc3]
    show wpAny _ _ (if Builtin.Tuple.tupleTooMany ((items.size : Int) * k) = true then _ else _) _ _ _
    rw [if_neg hc4]
    show wpAny _ _ (Builtin.Tuple.tupleExact (List.foldl (fun x1 x2 => x1 ++ x2) #[] (List.replicate k.toNat items)) >>= _) _ _ _
    refine wpAny_bind (m := Builtin.Tuple.tupleExact _) (wpAny_newObj_type (wpAny_pure ⟨_, rfl, h⟩) hz)
section
variable {X : Cx}
def rRepT (K : PySem.W.Frag) : R2 := fun x y H Q => ∃ l k xs, x = .ref l ∧ y = .int k ∧ SqT K H l xs ∧ xs ≠ [] ∧ 2 ≤ k ∧ k ≤ 1000 ∧ xs.length * k.toNat ≤ 1000 ∧ ∀ p, H p = none → Q (.ref p) (upd H p (.tup (List.replicate k.toNat xs).flatten))
theorem op_repT : OpR X (binaryOp .Mult) (rRepT X.K) := by
  intro pins s σ H x y v u Q I rx ry h
  obtain ⟨l, k, xs, rfl, rfl, hx, ne, k2, k3, hz, q⟩ := h
  cases rx
  obtain ⟨t, rfl⟩ := ry
  obtain ⟨its, r, ⟨⟨cls, dd, data, sl⟩, e, hc, n, hd⟩, z⟩ := I.tuple hx
  simp only at hc hd
  subst hc hd
  have hl := r.length
  have hlen : its.length * k.toNat ≤ 1000 := by rw [← hl]; exact hz
  have hne : its ≠ [] := fun e => ne (List.length_eq_zero_iff.mp (by rw [hl, e]; rfl))
  have hnew : List.foldl (fun x1 x2 => x1 ++ x2) #[] (List.replicate k.toNat its.toArray) = (List.replicate k.toNat its).flatten.toArray := by
    have := foldl_rep its k.toNat []
    rw [List.nil_append] at this
    exact this
  have hmul : ((its.toArray.size : Int)) * k ≤ 1000 := by
    rw [List.size_toArray]
    have e1 : ((its.length * k.toNat : Nat) : Int) = (its.length : Int) * k := by rw [Int.natCast_mul]; congr 1; omega
    omega
  have hemp : its.toArray.isEmpty = false := by simpa using hne
  refine wpAny_binaryOp_repeat_ref (T := "tuple") (U := "int") (by decide) ⟨_, e, rfl⟩ (fun s' => typeIs_int s' k t) noFill_tuple_mul F.fills_int_mul F.slot_int_rmul repeat_tuple F.slot_int_index.lookup
    (call_meets F.slot_int_rmul (typeIs_int s k t) F.entry_int_rmul (F.args_int_rmul_2 _ _) (int_rmul_tup k t l its.toArray n dd sl)
      ⟨e, rfl, ⟨_, e, rfl⟩, call_meets F.slot_tuple_mul ⟨_, e, rfl⟩ F.entry_tuple_mul (F.args_tuple_mul_2 _ _) (tup_mulW l its.toArray n dd sl k t ?_ ?_ ?_ ?_ ?_ ?_) ⟨e, ?_⟩⟩)
  · simp only [Bool.or_eq_true, decide_eq_true_eq]; omega
  · rw [hemp, Bool.false_or]; simp only [beq_iff_eq]; omega
  · rw [hemp, Bool.or_false]; simp only [decide_eq_true_eq]; omega
  · have : ((2 ^ 63 - 1) / 8 : Int) = 1152921504606846975 := by decide
    omega
  · unfold Builtin.Tuple.tupleTooMany
    have : (sizeLine : Nat) = 16777216 := by rw [sizeLine_eq]
    simp only [decide_eq_true_eq]
    omega
  · rw [hnew, List.size_toArray, L2.len_rep, Nat.mul_comm, sizeLine_eq]; omega
  rw [hnew]
  refine ⟨.ref _, _, I.laid (t' := s.toks) (o := .tup (List.replicate k.toNat xs).flatten) (fun b ob q => Heap.get?_push_of_some _ q) (Nat.le_refl _) ?_, rfl, q _ (I.hok.fresh (Nat.le_refl _))⟩
  exact ⟨by rw [L2.len_rep, Nat.mul_comm, sizeLine_eq]; omega, _, r.rep k.toNat, IsTup.new _ _, NoD.new _ rfl⟩
end
end L2
set_option maxHeartbeats 1000000
namespace KB
open PySem L2
abbrev Pr := Str × Int
def nmLt (p q : Pr) : Prop := p.1.cps.toList < q.1.cps.toList
structure Canon (ps : List Pr) : Prop where
  pw : ps.Pairwise nmLt
  ge : ∀ p ∈ ps, 1 ≤ p.2
def nmB (x : Str) : Bool := decide (1 ≤ x.cps.size) && decide (x.cps.size ≤ 8) && x.cps.toList.all fun c => decide (97 ≤ c) && decide (c ≤ 122)
def azB (c : Nat) : Bool := decide (97 ≤ c) && decide (c ≤ 122)
theorem Rep.tup_inv {H : Hp} {ds : List Dv} {v : V} (h : Rep H (.tup ds) v) : ∃ a vs, v = .ref a ∧ H a = some (.tup vs) ∧ Reps H ds vs := by simpa only [Rep] using h
theorem Reps.two {H : Hp} {d e : Dv} {vs : List V} (h : Reps H [d, e] vs) : ∃ x y, vs = [x, y] ∧ Rep H d x ∧ Rep H e y := by
  simp only [Reps] at h
  obtain ⟨x, r, rfl, h1, y, r2, rfl, h2, rfl⟩ := h
  exact ⟨x, y, rfl, h1, h2⟩
def Az (x : Str) (n : Nat) : Prop := x.cps.toList.length = n ∧ ∀ c ∈ x.cps.toList, azB c = true
theorem Az.len {x : Str} {n : Nat} (h : Az x n) : x.length = n := by
  have e : x.cps.toList.length = x.length := Array.length_toList
  rw [← e]; exact h.1
theorem az_app {x y : Str} {n m : Nat} (h : Az x n) (g : Az y m) : Az (x ++ y) (n + m) := by
  have e := PySem.W.KT.app_list x y
  refine ⟨by rw [e, List.length_append, h.1, g.1], fun c hc => ?_⟩
  rw [e] at hc
  rcases List.mem_append.mp hc with hc | hc
  · exact h.2 c hc
  · exact g.2 c hc
theorem az_one {c : Nat} (h : azB c = true) : Az ⟨#[c]⟩ 1 := ⟨rfl, fun d hd => by
  have e : d = c := by simpa using hd
  rw [e]; exact h⟩
theorem az_empty : Az Str.empty 0 := ⟨rfl, fun d hd => by cases hd⟩
theorem az_from {x : Str} {n : Nat} {i : Int} (h : Az x n) (h0 : 0 ≤ i) (h1 : i ≤ n) : Az (Txt.slice x (some i) none) (n - i.toNat) := by
  have e := PyProof.Rows.slice_from_eq (x := x) (i := i) (b := (x.length : Int)) h0 (by rw [h.len]; exact h1) rfl
  rw [e]
  refine ⟨?_, fun c hc => ?_⟩
  · show ((x.cps.toList.drop i.toNat).take ((x.length : Int) - i).toNat).toArray.toList.length = _
    simp only [List.length_take, List.length_drop, h.1, h.len]
    omega
  · have hc' : c ∈ (x.cps.toList.drop i.toNat).take ((x.length : Int) - i).toNat := by simpa using hc
    exact h.2 c (List.mem_of_mem_drop (List.mem_of_mem_take hc'))
theorem az_to {x : Str} {n : Nat} {i : Int} (h : Az x n) (h0 : 0 ≤ i) (h1 : i ≤ n) : Az (Txt.slice x none (some i)) i.toNat := by
  have e := eq_of_beq (PyProof.Rows.slice_closes_toL (x := x) (j := i) h0 (by rw [h.len]; exact h1))
  rw [e]
  refine ⟨?_, fun c hc => ?_⟩
  · show ((x.cps.toList.drop (0 : Int).toNat).take (i - 0).toNat).toArray.toList.length = _
    simp only [List.length_take, List.length_drop, h.1]
    have : (0 : Int).toNat = 0 := rfl
    omega
  · have hc' : c ∈ (x.cps.toList.drop (0 : Int).toNat).take (i - 0).toNat := by simpa using hc
    exact h.2 c (List.mem_of_mem_drop (List.mem_of_mem_take hc'))
theorem az_nm {x : Str} {n : Nat} (h : Az x n) (h1 : 1 ≤ n) (h8 : n ≤ 8) : nmB x = true := by
  unfold nmB
  have e : x.cps.size = n := by have := h.1; simpa using this
  rw [e, decide_eq_true h1, decide_eq_true h8, Bool.and_self, Bool.true_and]
  exact List.all_eq_true.mpr fun c hc => h.2 c hc
def lenDv (c : Int) (ps : List (Str × Int)) : Dv := .tup [.int c, .tup (ps.map fun p => .tup [.str p.1, .int p.2])]
def tkV (r : TK) : Str × Int := (r.2.1, match r.2.2 with | [.int n] => n | _ => 0)
theorem reps_tups {H : Hp} : ∀ {rs : List TK}, (∀ r ∈ rs, H r.1 = some (.tup [.str (tkV r).1, .int (tkV r).2])) → Reps H ((rs.map tkV).map fun p => Dv.tup [.str p.1, .int p.2]) (rs.map fun r => V.ref r.1)
  | [], _ => by simp [Reps]
  | r :: rs, h => by
    simp only [List.map_cons, Reps]
    refine ⟨_, _, rfl, ?_, reps_tups fun x hx => h x (List.mem_cons_of_mem _ hx)⟩
    simp only [Rep, Reps]
    exact ⟨r.1, _, rfl, h r List.mem_cons_self, _, _, rfl, rfl, _, _, rfl, rfl, rfl⟩
abbrev partsDv (ps : List Pr) : List Dv := ps.map fun p => .tup [.str p.1, .int p.2]
theorem len_rep {H : Hp} {c : Int} {ps : List Pr} {a b : Addr} {us : List V} (ha : H a = some (.tup [.int c, .ref b])) (hb : H b = some (.tup us)) (ru : Reps H (partsDv ps) us) : Rep H (lenDv c ps) (.ref a) := by
  simp only [lenDv, Rep, Reps]
  exact ⟨a, _, rfl, ha, _, _, rfl, rfl, _, _, rfl, ⟨b, us, rfl, hb, ru⟩, rfl⟩
theorem eqI {i j : Int} (h : decide (V.int i = V.int j) = true) : i = j := by
  have := of_decide_eq_true h
  injection this
theorem neI {i j : Int} (h : ¬ decide (V.int i = V.int j) = true) : i ≠ j := fun e => h (by subst e; exact decide_eq_true rfl)
theorem z2 : 2 ≤ sizeLine := by rw [sizeLine_eq]; decide
theorem z1 : 1 ≤ sizeLine := by rw [sizeLine_eq]; decide
theorem z3 : 3 ≤ sizeLine := by rw [sizeLine_eq]; decide
theorem same_two {H : Hp} {p : Addr} (hp : H p = none) (a b : HO) : Same H (upd (upd H p a) p b) := fun g o e => by rw [upd_ne (ne_of_none e hp), upd_ne (ne_of_none e hp)]; exact e
section
variable {K : PySem.W.Frag}
end
theorem tnx {D : Ends} {σ : St} {H : Hp} (h : D.nx σ H) : tNext D σ H := h
theorem ints_at {ns : List Int} {k : Int} (h0 : 0 ≤ k) (h : k < (ns.length : Int)) : ∃ v : Int, atI (ns.map V.int) k = some (.int v) := by
  have hk : k.toNat < ns.length := by omega
  have q : atI (ns.map V.int) ((k.toNat : Nat) : Int) = some (.int ns[k.toNat]) := atI_nat (by rw [List.getElem?_map, List.getElem?_eq_getElem hk] <;> rfl)
  have ek : k = ((k.toNat : Nat) : Int) := by omega
  rw [← ek] at q
  exact ⟨_, q⟩
end KB
set_option maxHeartbeats 1000000
namespace KB
open PySem L2
theorem mod_lt {a : Int} (n : Int) (h : 0 < n) : 0 ≤ a % n ∧ a % n < n := ⟨Int.emod_nonneg _ (by omega), Int.emod_lt_of_pos _ h⟩
def SameB (a : Addr) (H H' : Hp) : Prop := ∀ g o, g ≠ a → H g = some o → H' g = some o
theorem SameB.refl (a : Addr) (H : Hp) : SameB a H H := fun _ _ _ e => e
theorem SameB.trans {a : Addr} {H H1 H2 : Hp} (s : SameB a H H1) (t : SameB a H1 H2) : SameB a H H2 := fun g o hg e => t g o hg (s g o hg e)
theorem Same.b {H H' : Hp} (a : Addr) (s : Same H H') : SameB a H H' := fun g o _ e => s g o e
theorem SameB.upd (H : Hp) (a : Addr) (o : HO) : SameB a H (upd H a o) := fun g u hg e => by rw [upd_ne hg]; exact e
def TupS (H H' : Hp) : Prop := ∀ b zs, H b = some (.tup zs) → H' b = some (.tup zs)
theorem Same.tups {H H' : Hp} (s : Same H H') : TupS H H' := fun b zs e => s b _ e
theorem TupS.trans {H H1 H2 : Hp} (s : TupS H H1) (t : TupS H1 H2) : TupS H H2 := fun b zs e => t b zs (s b zs e)
theorem SameB.tups {a : Addr} {H H' : Hp} {xs : List V} (s : SameB a H H') (h : H a = some (.lst xs)) : TupS H H' := fun b zs e => s b _ (fun z => by rw [z, h] at e; cases e) e
theorem reps_tupS {H H' : Hp} : ∀ {ds : List Dv} {vs : List V}, (∀ d ∈ ds, ∀ v, Rep H d v → Rep H' d v) → Reps H ds vs → Reps H' ds vs
  | [], vs, _, h => by simpa only [Reps] using h
  | d :: ds, vs, f, h => by
    simp only [Reps] at h ⊢
    obtain ⟨v, r, rfl, h1, h2⟩ := h
    exact ⟨v, r, rfl, f d List.mem_cons_self v h1, reps_tupS (fun e he => f e (List.mem_cons_of_mem _ he)) h2⟩
theorem rep_tupS {H H' : Hp} (t : TupS H H') {n : Nat} {d : Dv} (h : L2.Pl n d) : ∀ {v : V}, Rep H d v → Rep H' d v := by
  induction h with
  | int => intro v r; simpa only [Rep] using r
  | str => intro v r; simpa only [Rep] using r
  | non => intro v r; simpa only [Rep] using r
  | tup _ ih =>
    intro v r
    simp only [Rep] at r ⊢
    obtain ⟨a, vs, rfl, ha, rs⟩ := r
    exact ⟨a, vs, rfl, t _ _ ha, reps_tupS (fun d hd v r => ih d hd r) rs⟩
theorem pl_len (c : Int) (ps : List Pr) : L2.Pl 3 (lenDv c ps) := .tup fun d hd => by
  rcases List.mem_cons.mp hd with rfl | hd
  · exact .int
  · rw [List.mem_singleton.mp hd]
    refine .tup fun e he => ?_
    obtain ⟨p, _, rfl⟩ := List.mem_map.mp he
    refine .tup fun g hg => ?_
    rcases List.mem_cons.mp hg with rfl | hg
    · exact .str
    · rw [List.mem_singleton.mp hg]; exact .int
theorem while_m {c : TT} {tb : TS} {D : Ends} {σ : St} {H : Hp} (Pv : Nat → St → Hp → Prop) (m : Nat) (h0 : Pv m σ H)
    (hs : ∀ m σ H, Pv m σ H → c σ H fun b H1 => if b = true then tb { D with nx := fun σ' H' => ∃ m', m' < m ∧ Pv m' σ' H', ct := fun σ' H' => ∃ m', m' < m ∧ Pv m' σ' H', bk := D.nx } σ H1 else D.nx σ H1)
    (mono : ∀ σ H Q Q', (∀ b H1, Q b H1 → Q' b H1) → c σ H Q → c σ H Q') : tWhile c tb D σ H := by
  refine ⟨Pv, ⟨m, h0⟩, fun m σ H p => mono σ H _ _ (fun b H1 q => ?_) (hs m σ H p)⟩
  cases b with
  | true => exact ⟨_, fun σ' H' q' => q', q⟩
  | false => exact q
theorem mono_truth {K : PySem.W.Frag} {i : Nat} : ∀ σ H (Q Q' : Bool → Hp → Prop), (∀ b H1, Q b H1 → Q' b H1) → (fun (σ : St) (H : Hp) (Q : Bool → Hp → Prop) => tVar i σ H fun x H' => ∃ k, TruV K x H' k ∧ Q k H') σ H Q → (fun (σ : St) (H : Hp) (Q : Bool → Hp → Prop) => tVar i σ H fun x H' => ∃ k, TruV K x H' k ∧ Q k H') σ H Q' := by
  rintro σ H Q Q' h ⟨v, e, k, t, q⟩
  exact ⟨v, e, k, t, h _ _ q⟩
inductive Kd where
  | whole
  | place (c : Int) (ps : List Pr)
  | row (c : Int) (ps : List Pr) (k : Kd)
  | pair (k j : Kd)
def Kd.dv : Kd → Dv
  | .whole => .tup [.str "whole"]
  | .place c ps => .tup [.str "place", lenDv c ps]
  | .row c ps k => .tup [.str "row", lenDv c ps, k.dv]
  | .pair k j => .tup [.str "pair", k.dv, j.dv]
def Kd.size : Kd → Nat
  | .whole => 1
  | .place _ _ => 1
  | .row _ _ k => k.size + 1
  | .pair k j => k.size + j.size + 1
theorem Kd.pl : ∀ k : Kd, L2.Pl (k.size + 3) k.dv
  | .whole => .tup fun d hd => by rw [List.mem_singleton.mp hd]; exact .str
  | .place c ps => .tup fun d hd => by
    rcases List.mem_cons.mp hd with rfl | hd
    · exact .str
    · rw [List.mem_singleton.mp hd]; exact pl_len c ps
  | .row c ps k => .tup fun d hd => by
    rcases List.mem_cons.mp hd with rfl | hd
    · exact .str
    rcases List.mem_cons.mp hd with rfl | hd
    · exact (pl_len c ps).up (by show 3 ≤ k.size + 3; omega)
    · rw [List.mem_singleton.mp hd]; exact k.pl
  | .pair k j => .tup fun d hd => by
    rcases List.mem_cons.mp hd with rfl | hd
    · exact .str
    rcases List.mem_cons.mp hd with rfl | hd
    · exact k.pl.up (by show k.size + 3 ≤ k.size + j.size + 3; omega)
    · rw [List.mem_singleton.mp hd]; exact j.pl.up (by show j.size + 3 ≤ k.size + j.size + 3; omega)
def Kd.All (P : Int → List Pr → Prop) : Kd → Prop
  | .whole => True
  | .place c ps => P c ps
  | .row c ps k => P c ps ∧ k.All P
  | .pair k j => k.All P ∧ j.All P
theorem Kd.tupS {H H' : Hp} (t : TupS H H') {k : Kd} {v : V} (r : Rep H k.dv v) : Rep H' k.dv v := rep_tupS t k.pl r
theorem rep_whole {H : Hp} {a : Addr} (h : H a = some (.tup [.str "whole"])) : Rep H Kd.whole.dv (.ref a) := by
  simp only [Kd.dv, Rep, Reps]
  exact ⟨a, _, rfl, h, _, _, rfl, rfl, rfl⟩
theorem rep_place {H : Hp} {a : Addr} {l : V} {c : Int} {ps : List Pr} (h : H a = some (.tup [.str "place", l])) (r : Rep H (lenDv c ps) l) : Rep H (Kd.place c ps).dv (.ref a) := by
  rw [Kd.dv, Rep]
  refine ⟨a, _, rfl, h, ?_⟩
  simp only [Reps]
  exact ⟨_, _, rfl, by simp only [Rep], _, _, rfl, r, rfl⟩
theorem rep_row {H : Hp} {a : Addr} {l u : V} {c : Int} {ps : List Pr} {k : Kd} (h : H a = some (.tup [.str "row", l, u])) (r : Rep H (lenDv c ps) l) (r2 : Rep H k.dv u) : Rep H (Kd.row c ps k).dv (.ref a) := by
  rw [Kd.dv, Rep]
  refine ⟨a, _, rfl, h, ?_⟩
  simp only [Reps]
  exact ⟨_, _, rfl, by simp only [Rep], _, _, rfl, r, _, _, rfl, r2, rfl⟩
theorem rep_pair {H : Hp} {a : Addr} {l u : V} {j k : Kd} (h : H a = some (.tup [.str "pair", l, u])) (r : Rep H j.dv l) (r2 : Rep H k.dv u) : Rep H (Kd.pair j k).dv (.ref a) := by
  rw [Kd.dv, Rep]
  refine ⟨a, _, rfl, h, ?_⟩
  simp only [Reps]
  exact ⟨_, _, rfl, by simp only [Rep], _, _, rfl, r, _, _, rfl, r2, rfl⟩
theorem items_canon {G H2 : Hp} {kvs : List Pr} {qs : List TK} (hq : ∀ r ∈ qs, H2 r.1 = some (.tup (.str r.2.1 :: r.2.2)) ∧ G r.1 = none) (pq : (qs.map (·.2)).Perm ((kvs.map fun p => (p.1, V.int p.2)).map fun p => (p.1, [p.2]))) (pw : qs.Pairwise tkLt) (hall : ∀ p ∈ kvs, 1 ≤ p.2) :
    (qs.map tkV).Perm kvs ∧ Canon (qs.map tkV) ∧ ∀ t, H2 t = none → Rep (upd H2 t (.tup (qs.map fun r => V.ref r.1))) (.tup (partsDv (qs.map tkV))) (.ref t) := by
  have shape : ∀ r ∈ qs, ∃ p ∈ kvs, r.2 = (p.1, [V.int p.2]) := fun r hr' => by
    have := pq.mem_iff.mp (List.mem_map_of_mem (f := (·.2)) hr')
    rw [List.map_map] at this
    obtain ⟨p, hp, e⟩ := List.mem_map.mp this
    exact ⟨p, hp, e.symm⟩
  have tk : ∀ r ∈ qs, r.2.1 = (tkV r).1 ∧ r.2.2 = [V.int (tkV r).2] := fun r hr' => by
    obtain ⟨p, _, e⟩ := shape r hr'
    unfold tkV
    rw [e]
    exact ⟨rfl, rfl⟩
  have perm : (qs.map tkV).Perm kvs := by
    have e1 : qs.map tkV = (qs.map (·.2)).map fun z => (z.1, match z.2 with | [.int n] => n | _ => 0) := by
      rw [List.map_map]; rfl
    have e2 : kvs = ((kvs.map fun p => (p.1, V.int p.2)).map fun p => (p.1, [p.2])).map fun z => (z.1, match z.2 with | [.int n] => n | _ => 0) := by
      rw [List.map_map, List.map_map]
      exact (List.map_id kvs).symm
    rw [e1]
    rw [e2]
    exact pq.map _
  refine ⟨perm, ⟨List.pairwise_map.mpr (pw.imp fun {x y} h => h), fun p hp => hall p (perm.mem_iff.mp hp)⟩, fun t ht => ?_⟩
  simp only [Rep]
  refine ⟨t, _, rfl, upd_same, reps_tups fun r hr' => ?_⟩
  have := (hq r hr').1
  rw [(tk r hr').1, (tk r hr').2] at this
  exact same_new ht _ _ _ this
theorem tups_len {H : Hp} {c : Int} {ps : List Pr} {p : Addr} {w : V} (hp : H p = some (.tup [.int c, w])) (R : Rep H (.tup (partsDv ps)) w) : Rep H (lenDv c ps) (.ref p) := by
  obtain ⟨b, us, rfl, hb, ru⟩ := Rep.tup_inv R
  exact len_rep hp hb ru
theorem reps_snoc {H : Hp} : ∀ {ds : List Dv} {d : Dv} {vs : List V}, Reps H (ds ++ [d]) vs → ∃ vs0 v, vs = vs0 ++ [v] ∧ Reps H ds vs0 ∧ Rep H d v
  | [], d, vs, h => by
    simp only [List.nil_append, Reps] at h
    obtain ⟨v, r, rfl, hv, rfl⟩ := h
    exact ⟨[], v, rfl, by simp only [Reps], hv⟩
  | e :: ds, d, vs, h => by
    simp only [List.cons_append, Reps] at h
    obtain ⟨v, r, rfl, hv, hr⟩ := h
    obtain ⟨vs0, u, rfl, h1, h2⟩ := reps_snoc hr
    exact ⟨v :: vs0, u, rfl, by simp only [Reps]; exact ⟨v, vs0, rfl, hv, h1⟩, h2⟩
theorem reps_one {H : Hp} {d : Dv} {v : V} (h : Rep H d v) : Reps H [d] [v] := by simp only [Reps]; exact ⟨v, [], rfl, h, rfl⟩
theorem pop_snoc (vs : List V) (v : V) : (vs ++ [v])[(vs ++ [v]).length - 1]? = some v := by simp
theorem and_two {t1 t2 : TT} {σ : St} {H : Hp} {Q : Bool → Hp → Prop} (C : Prop) (qT : C → Q true H) (qF : Q false H) (f : (C → Q true H) → Q false H → tAnd t1 t2 σ H Q) : tAnd t1 t2 σ H Q := f qT qF
theorem snoc_of {α : Type} : ∀ {l : List α}, l ≠ [] → ∃ l0 x, l = l0 ++ [x] := fun {l} h => by
  rcases List.eq_nil_or_concat l with e | ⟨l0, x, e⟩
  · exact absurd e h
  · exact ⟨l0, x, by rw [e]; simp⟩
theorem gnm {i : Nat} {x : V} {σ : St} {H : Hp} {N : St → Hp → Prop} (h : N (σ.set i (some x)) H) : gName i x σ H N := h
end KB
namespace L2
open PySem PySem.Spec PyProof.Rows PySem.W
section
variable {X : Cx}
end
end L2
set_option maxHeartbeats 1000000
namespace KB
open PySem L2
end KB
set_option maxHeartbeats 1000000
namespace KB
open PySem L2
end KB
set_option maxHeartbeats 1000000
namespace XB
open PySem L2 KB
inductive So | n | x | l | k | w | f | y | e | a | r
deriving DecidableEq
def ltr : So → Str
  | .n => "n"
  | .x => "x"
  | .l => "l"
  | .k => "k"
  | .w => "w"
  | .f => "f"
  | .y => "y"
  | .e => "e"
  | .a => "a"
  | .r => "r"
def srt : So → Str
  | .n => "number"
  | .x => "name"
  | .l => "length"
  | .k => "kind"
  | .w => "reckon"
  | .f => "def"
  | .y => "name"
  | .e => "part"
  | .a => "args"
  | .r => "things"
abbrev Wd := Str × Str × List So
def WT : List Wd := [("number", "n", [.n]), ("name", "x", [.x]), ("length", "l", [.l]), ("none", "k", [.k]), ("place", "ll", [.l, .l]), ("reckon", "wee", [.w, .e, .e]),
  ("if", "eee", [.e, .e, .e]), ("let", "xee", [.x, .e, .e]), ("call", "fa", [.f, .a]), ("pair", "ee", [.e, .e]), ("first", "e", [.e]), ("second", "e", [.e]),
  ("row", "r", [.r]), ("join", "ee", [.e, .e]), ("take", "le", [.l, .e]), ("drop", "le", [.l, .e]), ("zip", "ee", [.e, .e]), ("turn", "e", [.e]),
  ("get", "ee", [.e, .e]), ("value", "e", [.e]), ("up", "le", [.l, .e]), ("wide", "le", [.l, .e]), ("mirror", "e", [.e]), ("fork", "lexee", [.l, .e, .x, .e, .e]),
  ("when", "elxee", [.e, .l, .x, .e, .e]), ("loop", "xle", [.x, .l, .e]), ("fold", "xlyee", [.x, .l, .y, .e, .e])]
def ST : List Wd := [("number", "n", [.n]), ("name", "x", [.x]), ("length", "l", [.l]), ("reckon", "wee", [.w, .e, .e]), ("if", "eee", [.e, .e, .e]), ("let", "xee", [.x, .e, .e]),
  ("call", "fa", [.f, .a]), ("pair", "ee", [.e, .e]), ("first", "e", [.e]), ("second", "e", [.e]), ("row", "r", [.r]), ("none", "k", [.k]),
  ("join", "ee", [.e, .e]), ("take", "le", [.l, .e]), ("drop", "le", [.l, .e]), ("zip", "ee", [.e, .e]), ("turn", "e", [.e]), ("get", "ee", [.e, .e]),
  ("place", "ll", [.l, .l]), ("value", "e", [.e]), ("up", "le", [.l, .e]), ("wide", "le", [.l, .e]), ("mirror", "e", [.e]), ("fork", "lexee", [.l, .e, .x, .e, .e]),
  ("when", "elxee", [.e, .l, .x, .e, .e]), ("loop", "xle", [.x, .l, .e]), ("fold", "xlyee", [.x, .l, .y, .e, .e])]
theorem st_of : ∀ p ∈ WT, p ∈ ST := by decide +kernel
theorem st_nd : (ST.map (·.1)).Nodup := by decide +kernel
theorem wt_nd : (WT.map (·.1)).Nodup := by decide +kernel
theorem wt_ltr : ∀ p ∈ WT, p.2.1.cps.toList.map (fun c => (⟨#[c]⟩ : Str)) = p.2.2.map ltr ∧ p.2.1.cps.all (· < 128) = true := by decide +kernel
theorem wt_few : ∀ p ∈ ST, p.2.2.length ≤ 5 := by decide +kernel
theorem wt_few' : ∀ p ∈ WT, p.2.2.length ≤ 5 := by decide +kernel
def most4 (ss : List So) : Nat := (ss.map fun | .e => 1 | .a => 4 | .r => 4 | _ => 0).sum
theorem wt_most : ∀ p ∈ WT, most4 p.2.2 ≤ 4 := by decide +kernel
theorem ltr_e : ∀ s : So, V.str (ltr s) = V.str "e" ↔ s = .e := by
  intro s
  cases s <;> simp only [V.str.injEq, ltr] <;> decide +kernel
theorem ltr_a : ∀ s : So, V.str (ltr s) = V.str "a" ↔ s = .a := by
  intro s
  cases s <;> simp only [V.str.injEq, ltr] <;> decide +kernel
theorem ltr_r : ∀ s : So, V.str (ltr s) = V.str "r" ↔ s = .r := by
  intro s
  cases s <;> simp only [V.str.injEq, ltr] <;> decide +kernel
theorem ltr_l : ∀ s : So, V.str (ltr s) = V.str "l" ↔ s = .l := by
  intro s
  cases s <;> simp only [V.str.injEq, ltr] <;> decide +kernel
theorem ltr_k : ∀ s : So, V.str (ltr s) = V.str "k" ↔ s = .k := by
  intro s
  cases s <;> simp only [V.str.injEq, ltr] <;> decide +kernel
theorem ltr_n : ∀ s : So, V.str (ltr s) = V.str "n" ↔ s = .n := by
  intro s
  cases s <;> simp only [V.str.injEq, ltr] <;> decide +kernel
theorem ltr_y : ∀ s : So, V.str (ltr s) = V.str "y" ↔ s = .y := by
  intro s
  cases s <;> simp only [V.str.injEq, ltr] <;> decide +kernel
theorem ltr_w : ∀ s : So, V.str (ltr s) = V.str "w" ↔ s = .w := by
  intro s
  cases s <;> simp only [V.str.injEq, ltr] <;> decide +kernel
theorem srt_e : ∀ s : So, V.str (srt s) = V.str "part" ↔ s = .e := by
  intro s
  cases s <;> simp only [V.str.injEq, srt] <;> decide +kernel
theorem srt_a : ∀ s : So, V.str (srt s) = V.str "args" ↔ s = .a := by
  intro s
  cases s <;> simp only [V.str.injEq, srt] <;> decide +kernel
theorem srt_r : ∀ s : So, V.str (srt s) = V.str "things" ↔ s = .r := by
  intro s
  cases s <;> simp only [V.str.injEq, srt] <;> decide +kernel
theorem srt_n : ∀ s : So, V.str (srt s) = V.str "number" ↔ s = .n := by
  intro s
  cases s <;> simp only [V.str.injEq, srt] <;> decide +kernel
theorem srt_l : ∀ s : So, V.str (srt s) = V.str "length" ↔ s = .l := by
  intro s
  cases s <;> simp only [V.str.injEq, srt] <;> decide +kernel
theorem srt_k : ∀ s : So, V.str (srt s) = V.str "kind" ↔ s = .k := by
  intro s
  cases s <;> simp only [V.str.injEq, srt] <;> decide +kernel
theorem srt_w : ∀ s : So, V.str (srt s) = V.str "reckon" ↔ s = .w := by
  intro s
  cases s <;> simp only [V.str.injEq, srt] <;> decide +kernel
theorem srt_f : ∀ s : So, V.str (srt s) = V.str "def" ↔ s = .f := by
  intro s
  cases s <;> simp only [V.str.injEq, srt] <;> decide +kernel
theorem srt_x : ∀ s : So, V.str (srt s) = V.str "name" ↔ (s = .x ∨ s = .y) := by
  intro s
  cases s <;> simp only [V.str.injEq, srt] <;> decide +kernel
theorem sign_ltr {p : Wd} (hp : p ∈ WT) {i : Nat} (hi : i < p.2.1.cps.size) : ∃ s, p.2.2[i]? = some s ∧ signV p.2.1 i = .str (ltr s) := by
  obtain ⟨h, _⟩ := wt_ltr p hp
  have h1 := congrArg (fun l => l[i]?) h
  simp only [List.getElem?_map] at h1
  have e : p.2.1.cps.toList[i]? = some p.2.1.cps[i] := by rw [Array.getElem?_toList]; exact Array.getElem?_eq_getElem hi
  rw [e] at h1
  cases hs : p.2.2[i]? with
  | none => rw [hs] at h1; cases h1
  | some s =>
    refine ⟨s, rfl, ?_⟩
    rw [hs] at h1
    have h2 : (⟨#[p.2.1.cps[i]]⟩ : Str) = ltr s := Option.some.inj h1
    unfold signV
    rw [← h2, Array.getD_eq_getD_getElem?, Array.getElem?_eq_getElem hi]
    rfl
theorem ltr_len {p : Wd} (hp : p ∈ WT) : p.2.1.cps.size = p.2.2.length := by
  have h := congrArg List.length (wt_ltr p hp).1
  simpa using h
def lk : List (Key × V) := WT.map fun p => (Sum.inr p.1, V.str p.2.1)
theorem find_nd {α : Type} {l : List α} {f : α → Str} (hn : (l.map f).Nodup) {p : α} (hp : p ∈ l) : l.find? (fun q => decide (f q = f p)) = some p := by
  induction l with
  | nil => cases hp
  | cons q l ih =>
    rw [List.map_cons, List.nodup_cons] at hn
    rw [List.find?_cons]
    rcases List.mem_cons.mp hp with rfl | hp
    · simp
    · rw [show decide (f q = f p) = false from decide_eq_false fun e => hn.1 (by rw [e]; exact List.mem_map_of_mem hp)]
      exact ih hn.2 hp
theorem lk_val {p : Wd} (hp : p ∈ WT) : valV lk (Sum.inr p.1) = some (.str p.2.1) := by
  have h := find_nd wt_nd hp
  unfold valV lk
  rw [List.find?_map]
  have e : ((fun kv : Key × V => decide (kv.1 = Sum.inr p.1)) ∘ fun p : Wd => ((Sum.inr p.1 : Key), V.str p.2.1)) = fun q : Wd => decide (q.1 = p.1) := by
    funext q
    simp only [Function.comp]
    by_cases e : q.1 = p.1
    · rw [decide_eq_true e, decide_eq_true (by rw [e])]
    · rw [decide_eq_false e, decide_eq_false (fun z => e (Sum.inr.inj z))]
  rw [e, h]
  rfl
theorem lk_len : lk.length = 27 := by decide +kernel
structure Shp (P : Program) (w : World) (K : PySem.W.Frag) (g : Addr) : Prop where
  ex : ∃ kvs, FD P w K g kvs ∧ (∀ p ∈ WT, ∃ b, look kvs p.1 = some b ∧ ∀ H, SqT K H b (p.2.2.map fun s => V.str (srt s))) ∧ ∀ x, (look kvs x).isSome = WT.any fun p => decide (p.1 = x)
def entK : DictEntry → Str × Addr
  | ⟨_, .str x _, .ref b⟩ => (x, b)
  | _ => ("", 0)
inductive Ents (w : World) : List DictEntry → Prop
  | nil : Ents w []
  | cons {x : Str} {t : Tok} {b : Addr} {es : List DictEntry} : Ents w es → Ents w (⟨PyData.keyHash w.params x, .str x t, .ref b⟩ :: es)
inductive AreS : List Value → List Str → Prop
  | nil : AreS [] []
  | cons {x : Str} {t : Tok} {us : List Value} {xs : List Str} : AreS us xs → AreS (.str x t :: us) (x :: xs)
theorem AreS.vals {us : List Value} {xs : List Str} (h : AreS us xs) : Vals (xs.map V.str) us := by
  induction h with
  | nil => exact .nil
  | @cons x t us xs _ ih => exact .cons ⟨t, rfl⟩ ih
inductive TupsK (K : PySem.W.Frag) : List (Str × Addr) → List Wd → Prop
  | nil : TupsK K [] []
  | cons {x z : Str} {b : Addr} {kvs : List (Str × Addr)} {ss : List So} {ps : List Wd} {od : Option Addr} {its : List Value} {n : Nat} {sl : Array (Option Value)} :
    K.lookup b = some ⟨.type "tuple", od, .seq its.toArray n, sl⟩ → AreS its (ss.map srt) → TupsK K kvs ps → TupsK K ((x, b) :: kvs) ((x, z, ss) :: ps)
theorem TupsK.keys {K : PySem.W.Frag} {kvs : List (Str × Addr)} {ps : List Wd} (h : TupsK K kvs ps) : kvs.map (·.1) = ps.map (·.1) := by
  induction h with
  | nil => rfl
  | cons _ _ _ ih => rw [List.map_cons, List.map_cons, ih]
theorem TupsK.look {K : PySem.W.Frag} {kvs : List (Str × Addr)} {ps : List Wd} (h : TupsK K kvs ps) (hf : ∀ p ∈ ps, p.2.2.length ≤ 5) : (ps.map (·.1)).Nodup → ∀ p ∈ ps, ∃ b, L2.look kvs p.1 = some b ∧ ∀ H, SqT K H b (p.2.2.map fun s => V.str (srt s)) := by
  induction h with
  | nil => intro _ p hp; cases hp
  | @cons x z b kvs ss ps od its n sl hl ha _ ih =>
    intro hn p hp
    rw [List.map_cons, List.nodup_cons] at hn
    unfold L2.look
    rw [List.find?_cons]
    rcases List.mem_cons.mp hp with rfl | hp'
    · rw [decide_eq_true rfl]
      refine ⟨b, rfl, fun H => .inr ⟨_, _, _, hl, rfl, rfl, ?_, ?_⟩⟩
      · have h5 : ss.length ≤ 5 := hf _ List.mem_cons_self
        have := ha.vals.length
        rw [List.length_map, List.length_map] at this
        rw [List.size_toArray, sizeLine_eq]
        omega
      · have := ha.vals
        rw [List.map_map] at this
        exact this
    · rw [decide_eq_false (fun e : x = p.1 => hn.1 (by rw [show (x, z, ss).1 = p.1 from e]; exact List.mem_map_of_mem (f := (·.1)) hp'))]
      exact ih (fun q hq => hf q (List.mem_cons_of_mem _ hq)) hn.2 p hp'
theorem Ents.pairs {P : Program} {w : World} {es : List DictEntry} (h : Ents w es) : Pairs (mixKind P w) es ((es.map entK).map fun p => ((Sum.inr p.1 : Key), Value.ref p.2)) := by
  induction h with
  | nil => exact .nil
  | @cons x t b es _ ih => exact .cons (mixKind_str P w x t) rfl ih
theorem Ents.keys {P : Program} {w : World} {es : List DictEntry} (h : Ents w es) : ∀ e ∈ es, ∃ k, (mixKind P w).is k e.key = true ∧ e.hash = (mixKind P w).hash k := by
  induction h with
  | nil => intro e he; cases he
  | @cons x t b es _ ih =>
    intro e he
    rcases List.mem_cons.mp he with rfl | he
    · exact ⟨Sum.inr x, mixKind_str P w x t, rfl⟩
    · exact ih e he
theorem keys_look (kvs : List (Str × Addr)) (x : Str) : (L2.look kvs x).isSome = (kvs.map (·.1)).any fun y => decide (y = x) := by
  unfold L2.look
  rw [Option.isSome_map]
  induction kvs with
  | nil => rfl
  | cons p kvs ih =>
    rw [List.find?_cons, List.map_cons, List.any_cons]
    by_cases h : p.1 = x
    · rw [decide_eq_true h]; rfl
    · rw [decide_eq_false h, Bool.false_or]; exact ih
theorem wt_st : ∀ p ∈ ST, p ∈ WT := by decide +kernel
theorem any_st (x : Str) : (ST.map (·.1)).any (fun y => decide (y = x)) = WT.any fun p => decide (p.1 = x) := by
  rw [Bool.eq_iff_iff, List.any_eq_true, List.any_eq_true]
  constructor
  · rintro ⟨y, hy, h⟩
    obtain ⟨p, hp, rfl⟩ := List.mem_map.mp hy
    exact ⟨p, wt_st p hp, h⟩
  · rintro ⟨p, hp, h⟩
    exact ⟨p.1, List.mem_map_of_mem (st_of p hp), h⟩
theorem shp_mk {P : Program} {w : World} {K : PySem.W.Frag} {g : Addr} {es : List DictEntry} {ep : Nat} (hl : K.lookup g = some ⟨.type "dict", none, .dict es.toArray ep, #[]⟩) (lo : (g == sysModules) = false) (he : Ents w es) (ht : TupsK K (es.map entK) ST) : Shp P w K g := by
  refine ⟨es.map entK, ⟨by rw [ht.keys]; exact st_nd, lo, _, _, _, hl, ⟨rfl, rfl, rfl⟩, rfl, fun e hm => he.keys e (by simpa using hm), by simpa using he.pairs⟩, fun p hp => ht.look wt_few st_nd p (st_of p hp), fun x => by rw [keys_look, ht.keys, any_st]⟩
inductive F2 (R : So → Dv → Prop) : List So → List Dv → Prop
  | nil : F2 R [] []
  | cons {s : So} {d : Dv} {ss : List So} {ds : List Dv} : R s d → F2 R ss ds → F2 R (s :: ss) (d :: ds)
theorem F2.imp {R R' : So → Dv → Prop} {ss : List So} {ds : List Dv} (h : F2 R ss ds) (f : ∀ s d, R s d → R' s d) : F2 R' ss ds := by
  induction h with
  | nil => exact .nil
  | cons h _ ih => exact .cons (f _ _ h) ih
theorem F2.length {R : So → Dv → Prop} {ss : List So} {ds : List Dv} (h : F2 R ss ds) : ds.length = ss.length := by
  induction h with
  | nil => rfl
  | cons _ _ ih => rw [List.length_cons, List.length_cons, ih]
theorem F2.append {R : So → Dv → Prop} {ss ts : List So} {ds es : List Dv} (h : F2 R ss ds) (g : F2 R ts es) : F2 R (ss ++ ts) (ds ++ es) := by
  induction h with
  | nil => exact g
  | cons h _ ih => exact .cons h ih
theorem F2.get {R : So → Dv → Prop} {ss : List So} {ds : List Dv} (h : F2 R ss ds) {i : Nat} {s : So} (hs : ss[i]? = some s) : ∃ d, ds[i]? = some d ∧ R s d := by
  induction h generalizing i with
  | nil => cases hs
  | cons h _ ih =>
    cases i with
    | zero => cases hs; exact ⟨_, rfl, h⟩
    | succ i => exact ih hs
def Fld (E : Dv → Prop) (L : So → Dv → Prop) : So → Dv → Prop
  | .e, d => E d
  | .a, d => ∃ es, d = .tup es ∧ es.length ≤ 4 ∧ ∀ e ∈ es, E e
  | .r, d => ∃ es, d = .tup es ∧ 1 ≤ es.length ∧ es.length ≤ 4 ∧ ∀ e ∈ es, E e
  | s, d => L s d
def Ex (L : So → Dv → Prop) : Nat → Dv → Prop
  | 0, _ => False
  | n + 1, d => ∃ (p : Wd) (ds : List Dv), p ∈ WT ∧ d = .tup (.str p.1 :: ds) ∧ F2 (Fld (Ex L n) L) p.2.2 ds
def kidsD : Dv → List Dv
  | .tup ds => ds
  | _ => []
def ptD : So → Dv → List Dv
  | .e, d => [d]
  | .a, d => kidsD d
  | .r, d => kidsD d
  | _, _ => []
def ptsD : List So → List Dv → List Dv
  | s :: ss, d :: ds => ptD s d ++ ptsD ss ds
  | _, _ => []
def shpD (w : Str) : List So := match WT.find? (fun q => decide (q.1 = w)) with
  | some p => p.2.2
  | none => []
theorem shpD_of {p : Wd} (hp : p ∈ WT) : shpD p.1 = p.2.2 := by unfold shpD; rw [find_nd wt_nd hp]
def partsD : Dv → List Dv
  | .tup (.str w :: ds) => ptsD (shpD w) ds
  | _ => []
theorem parts_of {p : Wd} (hp : p ∈ WT) (ds : List Dv) : partsD (.tup (.str p.1 :: ds)) = ptsD p.2.2 ds := by
  show ptsD (shpD p.1) ds = _
  rw [shpD_of hp]
theorem pts_all {E : Dv → Prop} {L : So → Dv → Prop} {ss : List So} {ds : List Dv} (h : F2 (Fld E L) ss ds) : (∀ e ∈ ptsD ss ds, E e) ∧ (ptsD ss ds).length ≤ most4 ss := by
  induction h with
  | nil => exact ⟨fun e he => by simp [ptsD] at he, by simp [ptsD]⟩
  | @cons s d ss ds h _ ih =>
    obtain ⟨i1, i2⟩ := ih
    have em : most4 (s :: ss) = most4 [s] + most4 ss := by simp [most4]
    rw [em]
    have key : (∀ e ∈ ptD s d, E e) ∧ (ptD s d).length ≤ most4 [s] := by
      cases s with
      | e => exact ⟨fun e he => by rw [List.mem_singleton.mp he]; exact h, Nat.le_refl _⟩
      | a => obtain ⟨es, rfl, h1, h2⟩ := h; exact ⟨h2, h1⟩
      | r => obtain ⟨es, rfl, h0, h1, h2⟩ := h; exact ⟨h2, h1⟩
      | _ => exact ⟨fun e he => by simp [ptD] at he, by simp [ptD, most4]⟩
    show (∀ e ∈ ptD s d ++ ptsD ss ds, E e) ∧ (ptD s d ++ ptsD ss ds).length ≤ _
    refine ⟨fun e he => ?_, by rw [List.length_append]; omega⟩
    rcases List.mem_append.mp he with he | he
    · exact key.1 e he
    · exact i1 e he
theorem Ex.parts {L : So → Dv → Prop} {n : Nat} {d : Dv} (h : Ex L (n + 1) d) : (∀ e ∈ partsD d, Ex L n e) ∧ (partsD d).length ≤ 4 := by
  obtain ⟨p, ds, hp, rfl, hf⟩ := h
  rw [parts_of hp]
  obtain ⟨h1, h2⟩ := pts_all hf
  exact ⟨h1, Nat.le_trans h2 (wt_most p hp)⟩
def nodesD : Nat → Dv → List Dv
  | 0, _ => []
  | n + 1, d => d :: (partsD d).flatMap (nodesD n)
theorem flatMap_cong {α β : Type} {l : List α} {f g : α → List β} (h : ∀ x ∈ l, f x = g x) : l.flatMap f = l.flatMap g := by
  induction l with
  | nil => rfl
  | cons x l ih => rw [List.flatMap_cons, List.flatMap_cons, h x List.mem_cons_self, ih fun y hy => h y (List.mem_cons_of_mem _ hy)]
theorem nodes_stab {L : So → Dv → Prop} : ∀ {n m : Nat} {d : Dv}, Ex L n d → n ≤ m → nodesD m d = nodesD n d
  | 0, _, _, h, _ => False.elim h
  | n + 1, 0, _, _, hm => absurd hm (by omega)
  | n + 1, m + 1, d, h, hm => by
    show d :: (partsD d).flatMap (nodesD m) = d :: (partsD d).flatMap (nodesD n)
    rw [flatMap_cong fun e he => nodes_stab (h.parts.1 e he) (by omega)]
theorem nodes_eq {L : So → Dv → Prop} {n : Nat} {d : Dv} (h : Ex L n d) : nodesD n d = d :: (partsD d).flatMap (nodesD n) := by
  cases n with
  | zero => exact False.elim h
  | succ n =>
    show d :: (partsD d).flatMap (nodesD n) = _
    rw [flatMap_cong fun e he => (nodes_stab (h.parts.1 e he) (Nat.le_succ n)).symm]
theorem nodes_pos {L : So → Dv → Prop} {n : Nat} {d : Dv} (h : Ex L n d) : 1 ≤ (nodesD n d).length := by rw [nodes_eq h, List.length_cons]; omega
theorem Ex.pl {L : So → Dv → Prop} {c : Nat} (hL : ∀ s d, L s d → L2.Pl c d) : ∀ {n : Nat} {d : Dv}, Ex L n d → L2.Pl (2 * n + c) d
  | 0, _, h => False.elim h
  | n + 1, d, h => by
    obtain ⟨p, ds, hp, rfl, hf⟩ := h
    have hd : ∀ d ∈ ds, L2.Pl (2 * n + c + 1) d := by
      generalize p.2.2 = ss at hf
      induction hf with
      | nil => intro d hd; cases hd
      | @cons s d ss ds h _ ih =>
        intro e he
        rcases List.mem_cons.mp he with rfl | he
        · cases s with
          | e => exact (Ex.pl hL h).up (by omega)
          | a => obtain ⟨es, rfl, h1, h2⟩ := h; exact .tup fun g hg => Ex.pl hL (h2 g hg)
          | r => obtain ⟨es, rfl, h0, h1, h2⟩ := h; exact .tup fun g hg => Ex.pl hL (h2 g hg)
          | _ => exact (hL _ _ h).up (by omega)
        · exact ih e he
    have : L2.Pl (2 * n + c + 1 + 1) (.tup (.str p.1 :: ds)) := .tup fun d h => by
      rcases List.mem_cons.mp h with rfl | h
      · exact .str
      · exact hd d h
    exact this.up (by omega)
theorem ptsD_take (ss : List So) (ds : List Dv) (i : Nat) {s : So} {d : Dv} (hs : ss[i]? = some s) (hd : ds[i]? = some d) : ptsD (ss.take (i + 1)) (ds.take (i + 1)) = ptsD (ss.take i) (ds.take i) ++ ptD s d := by
  induction i generalizing ss ds with
  | zero =>
    cases ss with
    | nil => cases hs
    | cons s' ss =>
      cases ds with
      | nil => cases hd
      | cons d' ds => cases hs; cases hd; simp [ptsD]
  | succ i ih =>
    cases ss with
    | nil => cases hs
    | cons s' ss =>
      cases ds with
      | nil => cases hd
      | cons d' ds =>
        simp only [List.take_succ_cons, ptsD]
        rw [ih ss ds hs hd, List.append_assoc]
theorem cut_toA (xs : List V) (n : Nat) : cutV xs none (some (n : Int)) = xs.take n := by
  unfold cutV
  have e1 : HT.sIx xs.length xs.length (some (n : Int)) = min n xs.length := HT.sIx_nat _ _ _
  have e2 : HT.sIx xs.length 0 none = 0 := rfl
  rw [e1, e2, List.drop_zero, Nat.sub_zero]
  rcases Nat.le_total n xs.length with h | h
  · rw [Nat.min_eq_left h]
  · rw [Nat.min_eq_right h, List.take_length, List.take_of_length_le h]
theorem cut_fromA (xs : List V) (n : Nat) : cutV xs (some (n : Int)) none = xs.drop n := by
  unfold cutV
  have e1 : HT.sIx xs.length 0 (some (n : Int)) = min n xs.length := HT.sIx_nat _ _ _
  have e2 : HT.sIx xs.length xs.length none = xs.length := rfl
  rw [e1, e2]
  rcases Nat.le_total n xs.length with h | h
  · rw [Nat.min_eq_left h, List.take_of_length_le (by rw [List.length_drop]; exact Nat.le_refl _)]
  · rw [Nat.min_eq_right h, Nat.sub_self, List.take_zero, List.drop_of_length_le h]
def leafy (p : Wd) : Bool := p.2.2.all fun s => decide (s ≠ .e) && (decide (s ≠ .a) && decide (s ≠ .r))
theorem lk_keys : (lk.map fun p => kV p.1) = WT.map fun p => V.str p.1 := by unfold lk; rw [List.map_map]; rfl
theorem wt_len : WT.length = 27 := by decide +kernel
theorem wt_leafy : ∀ i, i < 5 → ∀ p, WT[i]? = some p → leafy p = true := by
  have h : ∀ i, i < 5 → (WT[i]?).map leafy = some true := by decide +kernel
  intro i hi p hp
  have := h i hi
  rw [hp] at this
  exact Option.some.inj this
theorem lk_at {i : Int} (h0 : 0 ≤ i) (h1 : i < 27) : ∃ p ∈ WT, atI (lk.map fun p => kV p.1) i = some (.str p.1) ∧ (i < 5 → leafy p = true) := by
  have hi : i.toNat < WT.length := by rw [wt_len]; omega
  refine ⟨WT[i.toNat], List.getElem_mem hi, ?_, fun h5 => wt_leafy i.toNat (by omega) _ (List.getElem?_eq_getElem hi)⟩
  rw [lk_keys]
  have := atI_nat (α := V) (xs := WT.map fun p => V.str p.1) (j := i.toNat) (v := .str WT[i.toNat].1) (by rw [List.getElem?_map, List.getElem?_eq_getElem hi]; rfl)
  rwa [show ((i.toNat : Nat) : Int) = i by omega] at this
theorem leafy_at {p : Wd} (h : leafy p = true) {i : Nat} {s : So} (hs : p.2.2[i]? = some s) : s ≠ .e ∧ s ≠ .a ∧ s ≠ .r := by
  have := List.all_eq_true.mp h s (List.mem_of_getElem? hs)
  simpa using this
theorem F2.snoc {R : So → Dv → Prop} {ss : List So} {ds : List Dv} {i : Nat} {s : So} {d : Dv} (h : F2 R (ss.take i) ds) (hs : ss[i]? = some s) (hd : R s d) : F2 R (ss.take (i + 1)) (ds ++ [d]) := by
  rw [List.take_add_one, hs]
  exact h.append (.cons hd .nil)
theorem leaf_ex {L : So → Dv → Prop} {p : Wd} (hp : p ∈ WT) (hl : leafy p = true) {n : Nat} {ds : List Dv} (h : F2 (Fld (Ex L n) L) p.2.2 ds) : Ex L 1 (.tup (.str p.1 :: ds)) := by
  refine ⟨p, ds, hp, rfl, ?_⟩
  have key : ∀ {ss : List So} {ds : List Dv}, F2 (Fld (Ex L n) L) ss ds → (∀ s ∈ ss, s ≠ .e ∧ s ≠ .a ∧ s ≠ .r) → F2 (Fld (Ex L 0) L) ss ds := by
    intro ss ds h
    induction h with
    | nil => intro _; exact .nil
    | @cons s d ss ds h _ ih =>
      intro hs
      refine .cons ?_ (ih fun t ht => hs t (List.mem_cons_of_mem _ ht))
      obtain ⟨h1, h2, h3⟩ := hs s List.mem_cons_self
      cases s with
      | e => exact absurd rfl h1
      | a => exact absurd rfl h2
      | r => exact absurd rfl h3
      | _ => exact h
  exact key h fun s hs => by
    obtain ⟨i, hi, e⟩ := List.mem_iff_getElem.mp hs
    exact leafy_at hl (i := i) (by rw [← e]; exact List.getElem?_eq_getElem hi)
theorem reps_plS {H H' : Hp} (t : TupS H H') {n : Nat} {ds : List Dv} {vs : List V} (hp : ∀ d ∈ ds, L2.Pl n d) (h : Reps H ds vs) : Reps H' ds vs := reps_tupS (fun d hd _ r => rep_tupS t (hp d hd) r) h
theorem Fld.leaf {E : Dv → Prop} {L : So → Dv → Prop} {s : So} {d : Dv} (h : Fld E L s d) (h1 : s ≠ .e) (h2 : s ≠ .a) (h3 : s ≠ .r) : L s d := by
  cases s with
  | e => exact absurd rfl h1
  | a => exact absurd rfl h2
  | r => exact absurd rfl h3
  | _ => exact h
theorem Fld.of {E : Dv → Prop} {L : So → Dv → Prop} {s : So} {d : Dv} (h : L s d) (h1 : s ≠ .e) (h2 : s ≠ .a) (h3 : s ≠ .r) : Fld E L s d := by
  cases s with
  | e => exact absurd rfl h1
  | a => exact absurd rfl h2
  | r => exact absurd rfl h3
  | _ => exact h
theorem or_two {t1 t2 : TT} {σ : St} {H : Hp} {Q : Bool → Hp → Prop} (q : Q true H) (f : Q true H → tOr t1 t2 σ H Q) : tOr t1 t2 σ H Q := f q
theorem slW_one {K : PySem.W.Frag} {g : Addr} {us : List V} {lo hi : Option Int} {H : Hp} {Q : VK} (hg : H g = some (.tup us)) (k : ∀ H' p, Same H H' → H' p = some (.tup (cutV us lo hi)) → Q (.ref p) H') : rSlW K (.ref g) lo hi H Q :=
  ⟨g, us, rfl, SqT.of hg, fun e => k H g (Same.refl _) (by rw [e]; exact hg), fun p hp => k _ p (same_new hp _) upd_same⟩
def Node (d : Dv) : Prop := ∃ (p : Wd) (ds : List Dv), p ∈ WT ∧ d = .tup (.str p.1 :: ds) ∧ F2 (Fld (fun _ => True) (fun _ _ => True)) p.2.2 ds
theorem fld_top {E : Dv → Prop} {L : So → Dv → Prop} : ∀ s d, Fld E L s d → Fld (fun _ => True) (fun _ _ => True) s d := by
  intro s d h
  cases s with
  | e => trivial
  | a => obtain ⟨es, rfl, h1, h2⟩ := h; exact ⟨es, rfl, h1, fun _ _ => trivial⟩
  | r => obtain ⟨es, rfl, h0, h1, h2⟩ := h; exact ⟨es, rfl, h0, h1, fun _ _ => trivial⟩
  | _ => trivial
theorem Ex.node {L : So → Dv → Prop} {n : Nat} {d : Dv} (h : Ex L n d) : Node d := by
  cases n with
  | zero => exact False.elim h
  | succ n =>
    obtain ⟨p, ds, hp, rfl, hf⟩ := h
    exact ⟨p, ds, hp, rfl, hf.imp fld_top⟩
theorem reps_getD {H : Hp} {ds : List Dv} {vs : List V} (h : Reps H ds vs) {i : Nat} {d : Dv} (hd : ds[i]? = some d) : ∃ v, vs[i]? = some v ∧ Rep H d v := by
  have l := h.length
  have hi : i < vs.length := by rw [l]; exact (List.getElem?_eq_some_iff.mp hd).1
  obtain ⟨e, he, r⟩ := h.get (List.getElem?_eq_getElem hi)
  rw [hd] at he
  cases he
  exact ⟨_, List.getElem?_eq_getElem hi, r⟩
theorem reps_cons {H : Hp} {d : Dv} {ds : List Dv} {vs : List V} (h : Reps H (d :: ds) vs) : ∃ v ws, vs = v :: ws ∧ Rep H d v ∧ Reps H ds ws := by simpa only [Reps] using h
end XB
set_option maxHeartbeats 1000000
namespace XB
open PySem L2 KB
theorem seq_goO {t1 t2 : TS} {D : Ends} {σ : St} {H : Hp} (M : St → Hp → Prop) (h2 : ∀ σ' H', M σ' H' → t2 D σ' H') (f : ∀ N : St → Hp → Prop, (∀ σ' H', M σ' H' → N σ' H') → t1 { D with nx := N } σ H) : tSeq t1 t2 D σ H := f (t2 D) h2
theorem seq_n {t1 t2 : TS} {D : Ends} {σ : St} {H : Hp} (f : ∀ N : St → Hp → Prop, (∀ σ' H', t2 D σ' H' → N σ' H') → t1 { D with nx := N } σ H) : tSeq t1 t2 D σ H := f (t2 D) fun _ _ h => h
def for_zipS_o {a : Str} {b : Addr} {ys : List V} {g : TG} {tb : TS} {D : Ends} {σ : St} {H : Hp} (Pv : Nat → St → Hp → Prop) (h0 : Pv 0 σ H) (hl : ∀ i σ H, Pv i σ H → H b = some (HO.tup ys))
    (hs : ∀ i y σ H p (D' : Ends), (∀ σ' H', Pv (i + 1) σ' H' → D'.nx σ' H') → i < a.cps.size → ys[i]? = some y → Pv i σ H → H p = none → g (.ref p) σ (upd H p (.tup [signV a i, y])) fun σ2 H2 => tb D' σ2 H2) (hd : ∀ σ H, Pv (min a.cps.size ys.length) σ H → D.nx σ H) :=
  for_zipS (a := a) (b := b) (ys := ys) (g := g) (tb := tb) (D := D) (σ := σ) (H := H) Pv h0 hl (fun i y σ H p hi hy q hp => hs i y σ H p _ (fun _ _ h => h) hi hy q hp) hd
def for_tup_o {K : PySem.W.Frag} {a : Addr} {xs : List V} {g : TG} {tb : TS} {D : Ends} {σ : St} {H : Hp} (Pv : Nat → St → Hp → Prop) (h0 : Pv 0 σ H) (hl : ∀ i σ H, i ≤ xs.length → Pv i σ H → SqT K H a xs)
    (hs : ∀ i x σ H (D' : Ends), (∀ σ' H', Pv (i + 1) σ' H' → D'.nx σ' H') → xs[i]? = some x → Pv i σ H → g x σ H fun σ2 H2 => tb D' σ2 H2) (hd : ∀ σ H, Pv xs.length σ H → D.nx σ H) :=
  for_tup (K := K) (a := a) (xs := xs) (g := g) (tb := tb) (D := D) (σ := σ) (H := H) Pv h0 hl (fun i x σ H hx q => hs i x σ H _ (fun _ _ h => h) hx q) hd
def for_itf_o {f : Nat → V} {n : Nat} {g : TG} {tb : TS} {D : Ends} {σ : St} {H : Hp} (Pv : Nat → St → Hp → Prop) (h0 : Pv 0 σ H)
    (hs : ∀ i σ H (D' : Ends), (∀ σ' H', Pv (i + 1) σ' H' → D'.nx σ' H') → i < n → Pv i σ H → g (f i) σ H fun σ2 H2 => tb D' σ2 H2) (hd : ∀ σ H, Pv n σ H → D.nx σ H) := for_itf (f := f) (n := n) (g := g) (tb := tb) (D := D) (σ := σ) (H := H) Pv h0 (fun i σ H hi p => hs i σ H _ (fun _ _ h => h) hi p) hd
def for_range_o {lo : Int} {n : Nat} {g : TG} {tb : TS} {D : Ends} {σ : St} {H : Hp} (Pv : Nat → St → Hp → Prop) (h0 : Pv 0 σ H)
    (hs : ∀ i σ H (D' : Ends), (∀ σ' H', Pv (i + 1) σ' H' → D'.nx σ' H') → i < n → Pv i σ H → g (.int (lo + i)) σ H fun σ2 H2 => tb D' σ2 H2) (hd : ∀ σ H, Pv n σ H → D.nx σ H) := for_range (lo := lo) (n := n) (g := g) (tb := tb) (D := D) (σ := σ) (H := H) Pv h0 (fun i σ H hi p => hs i σ H _ (fun _ _ h => h) hi p) hd
def for_zipTT_o {K : PySem.W.Frag} {a b : Addr} {xs ys : List V} {g : TG} {tb : TS} {D : Ends} {σ : St} {H : Hp} (Pv : Nat → St → Hp → Prop) (h0 : Pv 0 σ H) (hl : ∀ i σ H, Pv i σ H → SqT K H a xs ∧ SqT K H b ys)
    (hs : ∀ i x y σ H p (D' : Ends), (∀ v H, D.rt v H → D'.rt v H) → (∀ σ' H', Pv (i + 1) σ' H' → D'.nx σ' H') → xs[i]? = some x → ys[i]? = some y → Pv i σ H → H p = none → g (.ref p) σ (upd H p (.tup [x, y])) fun σ2 H2 => tb D' σ2 H2) (hd : ∀ σ H, Pv (min xs.length ys.length) σ H → D.nx σ H) :=
  for_zipTT (K := K) (a := a) (b := b) (xs := xs) (ys := ys) (g := g) (tb := tb) (D := D) (σ := σ) (H := H) Pv h0 hl (fun i x y σ H p hx hy q hp => hs i x y σ H p _ (fun _ _ h => h) (fun _ _ h => h) hx hy q hp) hd
def for_list_o {K : PySem.W.Frag} {a : Addr} {xs : List V} {g : TG} {tb : TS} {D : Ends} {σ : St} {H : Hp} (Pv : Nat → St → Hp → Prop) (h0 : Pv 0 σ H) (hl : ∀ i σ H, i ≤ xs.length → Pv i σ H → SqL K H a xs)
    (hs : ∀ i x σ H (D' : Ends), (∀ σ' H', Pv (i + 1) σ' H' → D'.nx σ' H') → xs[i]? = some x → Pv i σ H → g x σ H fun σ2 H2 => tb D' σ2 H2) (hd : ∀ σ H, Pv xs.length σ H → D.nx σ H) :=
  for_list (K := K) (a := a) (xs := xs) (g := g) (tb := tb) (D := D) (σ := σ) (H := H) Pv h0 hl (fun i x σ H hx q => hs i x σ H _ (fun _ _ h => h) hx q) hd
theorem while_mO {c : TT} {tb : TS} {D : Ends} {σ : St} {H : Hp} (Pv : Nat → St → Hp → Prop) (m : Nat) (h0 : Pv m σ H)
    (hs : ∀ m σ H (D' : Ends), (∀ v H, D.rt v H → D'.rt v H) → (∀ m' σ' H', m' < m → Pv m' σ' H' → D'.nx σ' H') → Pv m σ H → c σ H fun b H1 => if b = true then tb D' σ H1 else D.nx σ H1)
    (mono : ∀ σ H Q Q', (∀ b H1, Q b H1 → Q' b H1) → c σ H Q → c σ H Q') : tWhile c tb D σ H :=
  while_m Pv m h0 (fun m σ H p => hs m σ H _ (fun _ _ h => h) (fun m' _ _ l q => ⟨m', l, q⟩) p) mono
end XB
set_option maxHeartbeats 1000000
namespace K21
open PySem L2 KB XB
def top (i : Nat) : Stmt := PySem.Challenge.pw_indexwise_k21_what_is_an_expression.main.body.getD i (.Pass ⟨0, 0, 0, 0⟩)
def reck : List Str := ["plus", "minus", "times", "less", "same"]
structure Txt (K : PySem.W.Frag) (mg : Str → Option Value) : Prop where
  len : mg "len" = none
  isinstance : mg "isinstance" = none
  int : mg "int" = none
  bool : mg "bool" = none
  str : mg "str" = none
  tuple : mg "tuple" = none
  list : mg "list" = none
  all : mg "all" = none
  zip : mg "zip" = none
  range : mg "range" = none
  sorted : mg "sorted" = none
  max : mg "max" = none
  lLONGEST_NAME : ∃ t, mg "LONGEST_NAME" = some (.int 8 t)
  lGREATEST_SIZE : ∃ t, mg "GREATEST_SIZE" = some (.int 12 t)
  lGREATEST_NUMBER : ∃ t, mg "GREATEST_NUMBER" = some (.int 99 t)
  lWHOLE_BOUND : ∃ t, mg "WHOLE_BOUND" = some (.int 1000000000000 t)
  lMOST_NODES : ∃ t, mg "MOST_NODES" = some (.int 40 t)
  lMOST_ABOVE : ∃ t, mg "MOST_ABOVE" = some (.int 7 t)
  lMOST_THINGS : ∃ t, mg "MOST_THINGS" = some (.int 4 t)
theorem Txt.g_LONGEST_NAME {X : Cx} {pos : Pos} (T : Txt X.K X.mg) (hg : Gl X "LONGEST_NAME") : PE X (.Name "LONGEST_NAME" pos) (tC (.int 8)) := by
  obtain ⟨t, e⟩ := T.lLONGEST_NAME
  exact pe_glob hg e ⟨t, rfl⟩
theorem Txt.g_GREATEST_SIZE {X : Cx} {pos : Pos} (T : Txt X.K X.mg) (hg : Gl X "GREATEST_SIZE") : PE X (.Name "GREATEST_SIZE" pos) (tC (.int 12)) := by
  obtain ⟨t, e⟩ := T.lGREATEST_SIZE
  exact pe_glob hg e ⟨t, rfl⟩
theorem Txt.g_GREATEST_NUMBER {X : Cx} {pos : Pos} (T : Txt X.K X.mg) (hg : Gl X "GREATEST_NUMBER") : PE X (.Name "GREATEST_NUMBER" pos) (tC (.int 99)) := by
  obtain ⟨t, e⟩ := T.lGREATEST_NUMBER
  exact pe_glob hg e ⟨t, rfl⟩
theorem Txt.g_WHOLE_BOUND {X : Cx} {pos : Pos} (T : Txt X.K X.mg) (hg : Gl X "WHOLE_BOUND") : PE X (.Name "WHOLE_BOUND" pos) (tC (.int 1000000000000)) := by
  obtain ⟨t, e⟩ := T.lWHOLE_BOUND
  exact pe_glob hg e ⟨t, rfl⟩
theorem Txt.g_MOST_NODES {X : Cx} {pos : Pos} (T : Txt X.K X.mg) (hg : Gl X "MOST_NODES") : PE X (.Name "MOST_NODES" pos) (tC (.int 40)) := by
  obtain ⟨t, e⟩ := T.lMOST_NODES
  exact pe_glob hg e ⟨t, rfl⟩
theorem Txt.g_MOST_ABOVE {X : Cx} {pos : Pos} (T : Txt X.K X.mg) (hg : Gl X "MOST_ABOVE") : PE X (.Name "MOST_ABOVE" pos) (tC (.int 7)) := by
  obtain ⟨t, e⟩ := T.lMOST_ABOVE
  exact pe_glob hg e ⟨t, rfl⟩
theorem Txt.g_MOST_THINGS {X : Cx} {pos : Pos} (T : Txt X.K X.mg) (hg : Gl X "MOST_THINGS") : PE X (.Name "MOST_THINGS" pos) (tC (.int 4)) := by
  obtain ⟨t, e⟩ := T.lMOST_THINGS
  exact pe_glob hg e ⟨t, rfl⟩
end K21
set_option maxHeartbeats 1000000
namespace K21
open PySem L2 KB XB
abbrev s_is_whole : Stmt := top 2
abbrev s_is_name : Stmt := top 3
abbrev s_is_part : Stmt := top 4
abbrev s_are_parts : Stmt := top 5
abbrev s_is_length : Stmt := top 6
def wholeD : Dv → Bool
  | .int _ => true
  | _ => false
def nameD : Dv → Bool
  | .str x => nmB x
  | _ => false
def geD (k : Int) : Dv → Bool
  | .int i => decide (k ≤ i)
  | _ => false
def partD : Dv → Bool
  | .tup [a, b] => nameD a && (wholeD b && geD 1 b)
  | _ => false
def headD : Dv → Str
  | .tup (.str x :: _) => x
  | _ => ""
def goD (last : Str) : List Dv → Bool
  | [] => true
  | p :: r => partD p && (decide (last.cps.toList < (headD p).cps.toList) && goD (headD p) r)
def arepD : Dv → Bool
  | .tup xs => goD "" xs
  | _ => false
def islD : Dv → Bool
  | .tup [a, b] => wholeD a && (geD 0 a && arepD b)
  | _ => false
def spD (f : Dv → Bool) : Sp := fun vs H Q _ => ∃ v d, vs = [v] ∧ Rep H d v ∧ ∀ H', Same H H' → Q (.bl (f d)) H'
section
variable {P : Program} {w : World} {K : PySem.W.Frag} {mg : Str → Option Value} {base : Heap}
theorem sc_is_whole : FnScope ["thing"] ["thing"] (defScope s_is_whole) := ⟨rfl, rfl, rfl, by decide +kernel, rfl, by decide +kernel, by decide +kernel⟩
theorem ok_is_whole {f : Addr} {fd : FuncData} (F : Fun K "is_whole" "is_whole" s_is_whole f fd) (T : Txt K mg) : FnOk P w K mg base CX0 1 f fd ["thing"] (spD wholeD) := by
  refine F.ok sc_is_whole (fun vs H Q E h => ?_) (fun cdv A outer s H vs Q E hr h => ?_)
  · obtain ⟨v, d, rfl, _⟩ := h
    rfl
  obtain ⟨v, d, rfl, R, q⟩ := h
  refine ⟨_, (@pss_one _ _ _ (@ps_ret _ _ _ _ (@pe_and _ _ _ _ _ _ _ (@pe_callB _ _ _ _ _ _ _ _ _ call_isi rfl T.isinstance (by decide +kernel) (@pa_cons _ _ _ _ _ (@pv _ 0 _ _ (by rfl) (by first | exact Or.inl rfl | exact Or.inr (Or.inl rfl) | exact Or.inr (Or.inr rfl)) (by decide) (by decide)) (@pa_cons _ _ _ _ _ (@pe_bltn _ _ (.ty "int") _ _ rfl T.int (by decide +kernel) rfl (by decide) (by decide)) (@pa_nil _) (by rfl)) (by rfl)) (by decide) (by decide) (by rfl) (by rfl)) (@pe_one _ _ _ _ _ (@pe_not _ _ _ _ (@pe_callB _ _ _ _ _ _ _ _ _ call_isi rfl T.isinstance (by decide +kernel) (@pa_cons _ _ _ _ _ (@pv _ 0 _ _ (by rfl) (by first | exact Or.inl rfl | exact Or.inr (Or.inl rfl) | exact Or.inr (Or.inr rfl)) (by decide) (by decide)) (@pa_cons _ _ _ _ _ (@pe_bltn _ _ (.ty "bool") _ _ rfl T.bool (by decide +kernel) rfl (by decide) (by decide)) (@pa_nil _) (by rfl)) (by rfl)) (by decide) (by decide) (by rfl) (by rfl))))))), ?_⟩
  refine ⟨_, rfl, v, _, _, _, rfl, R.ty, kit_int K d, _, rfl, ?_⟩
  cases d with
  | int i => exact iteT ⟨_, rfl, v, _, _, _, rfl, R.ty, kit_bool K _, _, rfl, q H (Same.refl H)⟩
  | bl b => exact iteT ⟨_, rfl, v, _, _, _, rfl, R.ty, kit_bool K _, _, rfl, q H (Same.refl H)⟩
  | _ => exact iteF (q H (Same.refl H))
end
end K21
set_option maxHeartbeats 1000000
namespace K21
open PySem L2 KB XB
def spS (f : Dv → Bool) : Sp := fun vs H Q _ => ∃ v d, vs = [v] ∧ Rep H d v ∧ d.small = true ∧ ∀ H', Same H H' → Q (.bl (f d)) H'
section
variable {P : Program} {w : World} {K : PySem.W.Frag} {mg : Str → Option Value} {base : Heap}
theorem lt_one (a b : Nat) : decide (([a] : List Nat) < [b]) = decide (a < b) := by
  by_cases h : a < b
  · rw [decide_eq_true h]
    exact decide_eq_true (List.cons_lt_cons_iff.mpr (.inl h))
  · rw [decide_eq_false h]
    exact decide_eq_false fun z => by
      rcases List.cons_lt_cons_iff.mp z with z | ⟨_, z⟩
      · exact h z
      · exact List.not_lt_nil _ z
theorem all_az (x : Str) : ((List.range x.cps.size).map fun i => azB (x.cps.getD i 0)).all id = x.cps.toList.all azB := by
  have e : (List.range x.cps.size).map (fun i => azB (x.cps.getD i 0)) = x.cps.toList.map azB := by
    apply List.ext_getElem?
    intro i
    rw [List.getElem?_map, List.getElem?_map]
    by_cases hi : i < x.cps.size
    · rw [List.getElem?_range hi]
      simp [hi]
    · rw [List.getElem?_eq_none (by simpa using hi), List.getElem?_eq_none (by simpa using hi)]
      rfl
  rw [e, List.all_map]
  rfl
theorem sc_is_name : FnScope ["thing"] ["thing"] (defScope s_is_name) := ⟨rfl, rfl, rfl, by decide +kernel, rfl, by decide +kernel, by decide +kernel⟩
theorem ok_is_name {f : Addr} {fd : FuncData} (F : Fun K "is_name" "is_name" s_is_name f fd) (T : Txt K mg) : FnOk P w K mg base CX0 1 f fd ["thing"] (spS nameD) := by
  refine F.ok sc_is_name (fun vs H Q E h => ?_) (fun cdv A outer s H vs Q E hr h => ?_)
  · obtain ⟨v, d, rfl, _⟩ := h
    rfl
  obtain ⟨v, d, rfl, R, hsm, q⟩ := h
  refine ⟨_, (@pss_cons _ _ _ _ _ (@ps_if _ _ _ _ _ _ _ _ (@PW.pt _ _ _ (@pw_or _ _ _ _ _ _ _ (@pt_not _ _ _ _ (@pt_val _ _ _ (@pe_callB _ _ _ _ _ _ _ _ _ call_isi rfl T.isinstance (by decide +kernel) (@pa_cons _ _ _ _ _ (@pv _ 0 _ _ (by rfl) (by first | exact Or.inl rfl | exact Or.inr (Or.inl rfl) | exact Or.inr (Or.inr rfl)) (by decide) (by decide)) (@pa_cons _ _ _ _ _ (@pe_bltn _ _ (.ty "str") _ _ rfl T.str (by decide +kernel) rfl (by decide) (by decide)) (@pa_nil _) (by rfl)) (by rfl)) (by decide) (by decide) (by rfl) (by rfl)) (by intro _; rfl))) (@pw_or1 _ _ _ _ (@pt_not _ _ _ _ (@pt_chain _ _ _ _ _ _ _ _ _ _ _ _ op_le op_le (@pe_int _ _ _ _) (@pe_callB _ _ _ _ _ _ _ _ _ call_len_str rfl T.len (by decide +kernel) (@pa_cons _ _ _ _ _ (@pv _ 0 _ _ (by rfl) (by first | exact Or.inl rfl | exact Or.inr (Or.inl rfl) | exact Or.inr (Or.inr rfl)) (by decide) (by decide)) (@pa_nil _) (by rfl)) (by decide) (by decide) (by rfl) (by rfl)) (T.g_LONGEST_NAME rfl) (by with_unfolding_all rfl)))))) (@pss_one _ _ _ (@ps_ret _ _ _ _ (@pe_bl _ _ _ _))) (@pss_nil _)) (@pss_one _ _ _ (@ps_ret _ _ _ _ (@pe_callB _ _ _ _ _ _ _ _ _ (call_all rfl) rfl T.all (by decide +kernel) (@pa_cons _ _ _ _ _ (@pe_lc _ _ (["sign"]) ([]) _ _ _ _ _ _ _ _ _ (@pi_str _ _ _ _ (@pv _ 0 _ _ (by rfl) (by first | exact Or.inl rfl | exact Or.inr (Or.inl rfl) | exact Or.inr (Or.inr rfl)) (by decide) (by decide))) (.of rfl) rfl (fun _ _ _ => pg_name (i := 0) (lc_nd (l := ["sign"]) ((by decide +kernel)) rfl) rfl (Or.inl rfl)) (gw_name (by decide)) (fun _ _ _ => (@pif_nil _)) (fun _ _ _ => (@pe_chain _ _ _ _ _ _ _ _ _ _ _ _ op_le_str op_le_str (@pe_str _ _ _ _) (@pv _ 0 _ _ (by rfl) (by first | exact Or.inl rfl | exact Or.inr (Or.inl rfl) | exact Or.inr (Or.inr rfl)) (by decide) (by decide)) (@pe_str _ _ _ _) (by with_unfolding_all rfl))) (by intro _; rfl)) (@pa_nil _) (by rfl)) (by decide) (by decide) (by rfl) (by rfl))))), ?_⟩
  refine ⟨_, rfl, v, _, _, _, rfl, R.ty, kit_str K d, _, rfl, ?_⟩
  cases d with
  | str x =>
    have hx : x.cps.size ≤ 1000 := by simpa [Dv.small] using hsm
    obtain rfl : v = .str x := R
    refine iteF ⟨_, rfl, x, rfl, len1000 hx, _, _, rfl, rfl, _, rfl, ?_⟩
    have no : nmB x = false → Q (.bl false) H := fun e => by
      have := q H (Same.refl H)
      rwa [show nameD (.str x) = false from e] at this
    refine ite2 (fun h1 => ?_) (fun h1 => ?_)
    · refine ⟨_, _, rfl, rfl, _, rfl, ?_⟩
      have h1' : 1 ≤ x.cps.size := by
        have := of_decide_eq_true h1
        have e : x.length = x.cps.size := rfl
        omega
      by_cases h8 : x.cps.size ≤ 8
      · rw [show decide (((x.length : Nat) : Int) ≤ 8) = true from decide_eq_true (by have e : x.length = x.cps.size := rfl; omega)]
        refine iteF ?_
        refine ⟨_, rfl, x, rfl, lc_itf_map (F := fun i => V.bl (azB (x.cps.getD i 0))) (fun i ys hi hl => ?_) fun a ha => ⟨a, (List.range x.cps.size).map fun i => azB (x.cps.getD i 0), rfl, SqL.of ?_, ?_⟩⟩
        · refine turn_name ⟨_, rfl, _, _, rfl, rfl, _, rfl, ?_⟩
          have e1 : decide ((⟨#[x.cps.getD i 0]⟩ : Str).cps.toList < (Str.ofString "a").cps.toList) = decide (x.cps.getD i 0 < 97) := lt_one _ _
          have e2 : decide ((Str.ofString "z").cps.toList < (⟨#[x.cps.getD i 0]⟩ : Str).cps.toList) = decide (122 < x.cps.getD i 0) := lt_one _ _
          rw [e1]
          by_cases c1 : x.cps.getD i 0 < 97
          · rw [decide_eq_true c1]
            refine iteF ⟨by rw [hl, sizeLine_eq]; omega, ?_, rfl⟩
            unfold azB
            rw [decide_eq_false (by omega)]
            rfl
          · rw [decide_eq_false c1]
            refine iteT ⟨_, _, rfl, rfl, ?_⟩
            refine ⟨by rw [hl, sizeLine_eq]; omega, ?_, rfl⟩
            rw [e2]
            unfold azB
            rw [decide_eq_true (show 97 ≤ x.cps.getD i 0 by omega)]
            by_cases c2 : 122 < x.cps.getD i 0
            · rw [decide_eq_true c2, decide_eq_false (by omega)]; rfl
            · rw [decide_eq_false c2, decide_eq_true (by omega)]; rfl
        · rw [upd_same, List.map_map]
          rfl
        · rw [all_az]
          have := q _ (same_new ha (.lst ((List.range x.cps.size).map fun i => V.bl (azB (x.cps.getD i 0)))))
          rwa [show nameD (.str x) = x.cps.toList.all azB by
            show nmB x = _
            unfold nmB
            rw [decide_eq_true h1', decide_eq_true h8]
            rfl] at this
      · rw [show decide (((x.length : Nat) : Int) ≤ 8) = false from decide_eq_false (by have e : x.length = x.cps.size := rfl; omega)]
        refine iteT (no ?_)
        unfold nmB
        rw [decide_eq_false h8, Bool.and_false, Bool.false_and]
    · refine ⟨_, rfl, iteT (no ?_)⟩
      have h1' : ¬ 1 ≤ x.cps.size := by
        have := of_decide_eq_false (Bool.eq_false_iff.mpr h1)
        have e : x.length = x.cps.size := rfl
        omega
      unfold nmB
      rw [decide_eq_false h1', Bool.false_and, Bool.false_and]
  | _ => exact iteT (iteT (q H (Same.refl H)))
end
end K21
set_option maxHeartbeats 1000000
namespace K21
open PySem L2 KB XB
section
variable {P : Program} {w : World} {K : PySem.W.Frag} {mg : Str → Option Value} {base : Heap}
theorem two_or (ds : List Dv) : (∃ a b, ds = [a, b]) ∨ (∀ a b, ds ≠ [a, b]) := by
  match ds with
  | [] => exact .inr fun a b e => nomatch e
  | [_] => exact .inr fun a b e => nomatch e
  | [a, b] => exact .inl ⟨a, b, rfl⟩
  | _ :: _ :: _ :: _ => exact .inr fun a b e => nomatch e
theorem len_two {ds : List Dv} (h : ∀ a b, ds ≠ [a, b]) : ds.length ≠ 2 := fun e => by
  match ds, e with
  | [a, b], _ => exact h a b rfl
theorem part_not {ds : List Dv} (h : ∀ a b, ds ≠ [a, b]) : partD (.tup ds) = false := by
  match ds with
  | [] => rfl
  | [_] => rfl
  | [a, b] => exact absurd rfl (h a b)
  | _ :: _ :: _ :: _ => rfl
theorem len_not {ds : List Dv} (h : ∀ a b, ds ≠ [a, b]) : islD (.tup ds) = false := by
  match ds with
  | [] => rfl
  | [_] => rfl
  | [a, b] => exact absurd rfl (h a b)
  | _ :: _ :: _ :: _ => rfl
theorem geD_int {k : Int} {d : Dv} (h : wholeD d = true) : ∃ i, d = .int i ∧ geD k d = decide (k ≤ i) := by
  cases d with
  | int i => exact ⟨i, rfl, rfl⟩
  | _ => cases h
theorem small2 {a b : Dv} (h : (Dv.tup [a, b]).small = true) : a.small = true ∧ b.small = true := by
  simp only [Dv.small, smalls, Bool.and_eq_true] at h
  exact ⟨h.1.1, h.1.2.1⟩
theorem sc_is_part : FnScope ["thing"] ["thing"] (defScope s_is_part) := ⟨rfl, rfl, rfl, by decide +kernel, rfl, by decide +kernel, by decide +kernel⟩
theorem ok_is_part {f : Addr} {fd : FuncData} {k : Nat} (F : Fun K "is_part" "is_part" s_is_part f fd) (T : Txt K mg) (Dis_whole : Def P w K mg base k "is_whole" ["thing"] (spD wholeD)) (Dis_name : Def P w K mg base k "is_name" ["thing"] (spS nameD)) :
    FnOk P w K mg base CX0 (k + 1) f fd ["thing"] (spS partD) := by
  refine F.ok sc_is_part (fun vs H Q E h => ?_) (fun cdv A outer s H vs Q E hr h => ?_)
  · obtain ⟨v, d, rfl, _⟩ := h
    rfl
  obtain ⟨v, d, rfl, R, hsm, q⟩ := h
  refine ⟨_, (@pss_cons _ _ _ _ _ (@ps_if _ _ _ _ _ _ _ _ (@PW.pt _ _ _ (@pw_or _ _ _ _ _ _ _ (@pt_not _ _ _ _ (@pt_val _ _ _ (@pe_callB _ _ _ _ _ _ _ _ _ call_isi rfl T.isinstance (by decide +kernel) (@pa_cons _ _ _ _ _ (@pv _ 0 _ _ (by rfl) (by first | exact Or.inl rfl | exact Or.inr (Or.inl rfl) | exact Or.inr (Or.inr rfl)) (by decide) (by decide)) (@pa_cons _ _ _ _ _ (@pe_bltn _ _ (.ty "tuple") _ _ rfl T.tuple (by decide +kernel) rfl (by decide) (by decide)) (@pa_nil _) (by rfl)) (by rfl)) (by decide) (by decide) (by rfl) (by rfl)) (by intro _; rfl))) (@pw_or1 _ _ _ _ (@pt_cmpR _ _ _ _ _ _ _ _ op_ne (@pe_callB _ _ _ _ _ _ _ _ _ call_len_seq rfl T.len (by decide +kernel) (@pa_cons _ _ _ _ _ (@pv _ 0 _ _ (by rfl) (by first | exact Or.inl rfl | exact Or.inr (Or.inl rfl) | exact Or.inr (Or.inr rfl)) (by decide) (by decide)) (@pa_nil _) (by rfl)) (by decide) (by decide) (by rfl) (by rfl)) (@pe_int _ _ _ _) (nomark _))))) (@pss_one _ _ _ (@ps_ret _ _ _ _ (@pe_bl _ _ _ _))) (@pss_nil _)) (@pss_one _ _ _ (@ps_ret _ _ _ _ (@pe_and _ _ _ _ _ _ _ (@pe_def _ _ _ _ _ _ _ _ _ _ Dis_name hr rfl (@pa_cons _ _ _ _ _ (@pe_ix _ _ _ _ _ _ _ ix_tup (@pv _ 0 _ _ (by rfl) (by first | exact Or.inl rfl | exact Or.inr (Or.inl rfl) | exact Or.inr (Or.inr rfl)) (by decide) (by decide)) (@pe_int _ _ _ _) (fun _ _ => rfl)) (@pa_nil _) (by rfl)) (by decide) (by rfl) (by rfl)) (@pe_and _ _ _ _ _ _ _ (@pe_def _ _ _ _ _ _ _ _ _ _ Dis_whole hr rfl (@pa_cons _ _ _ _ _ (@pe_ix _ _ _ _ _ _ _ ix_tup (@pv _ 0 _ _ (by rfl) (by first | exact Or.inl rfl | exact Or.inr (Or.inl rfl) | exact Or.inr (Or.inr rfl)) (by decide) (by decide)) (@pe_int _ _ _ _) (fun _ _ => rfl)) (@pa_nil _) (by rfl)) (by decide) (by rfl) (by rfl)) (@pe_one _ _ _ _ _ (@pe_cmpR _ _ _ _ _ _ _ _ op_ge (@pe_ix _ _ _ _ _ _ _ ix_tup (@pv _ 0 _ _ (by rfl) (by first | exact Or.inl rfl | exact Or.inr (Or.inl rfl) | exact Or.inr (Or.inr rfl)) (by decide) (by decide)) (@pe_int _ _ _ _) (fun _ _ => rfl)) (@pe_int _ _ _ _) (nomark _)))))))), ?_⟩
  refine ⟨_, rfl, v, _, _, _, rfl, R.ty, kit_tuple K d, _, rfl, ?_⟩
  cases d with
  | tup ds =>
    obtain ⟨a, vs, rfl, ha, rs⟩ := Rep.tup_inv R
    have hl := rs.length
    refine iteF ⟨_, rfl, a, vs, rfl, .inr (SqT.of ha), rfl, _, rfl, ?_⟩
    rcases two_or ds with ⟨d0, d1, rfl⟩ | no
    · obtain ⟨x, y, rfl, R0, R1⟩ := Reps.two rs
      obtain ⟨z0, z1⟩ := small2 hsm
      refine iteNS rfl ?_
      have qe : ∀ c H', Same H H' → partD (.tup [d0, d1]) = c → Q (.bl c) H' := fun c H' s1 e => e ▸ q H' s1
      refine ⟨_, rfl, a, _, 0, x, rfl, rfl, SqT.of ha, atI_nat (j := 0) rfl, x, d0, rfl, R0, z0, fun H1 s1 => ⟨_, rfl, ?_⟩⟩
      cases c0 : nameD d0 with
      | false => exact iteF (qe _ H1 s1 (by show (nameD d0 && _) = false; rw [c0]; rfl))
      | true =>
        refine iteT ⟨_, rfl, a, _, 1, y, rfl, rfl, SqT.of (s1 _ _ ha), atI_nat (j := 1) rfl, y, d1, rfl, R1.mono s1, fun H2 s2 => ⟨_, rfl, ?_⟩⟩
        cases c1 : wholeD d1 with
        | false => exact iteF (qe _ H2 (s1.trans s2) (by show (nameD d0 && (wholeD d1 && _)) = false; rw [c0, c1]; rfl))
        | true =>
          obtain ⟨i, rfl, e⟩ := geD_int (k := 1) c1
          obtain rfl : y = .int i := R1
          refine iteT ⟨_, rfl, a, _, 1, .int i, rfl, rfl, SqT.of (s2 _ _ (s1 _ _ ha)), atI_nat (j := 1) rfl, _, _, rfl, rfl, ?_⟩
          refine qe _ H2 (s1.trans s2) ?_
          show (nameD d0 && (wholeD (.int i) && geD 1 (.int i))) = _
          rw [c0, c1, e]
          rfl
    · have hn : ¬ (V.int ((vs.length : Nat) : Int) = V.int 2) := fun e => len_two no (by injection e with e; omega)
      rw [decide_eq_false hn]
      refine iteT ?_
      have := q H (Same.refl H)
      rwa [part_not no] at this
  | _ => exact iteT (iteT (q H (Same.refl H)))
theorem sc_is_length : FnScope ["thing"] ["thing"] (defScope s_is_length) := ⟨rfl, rfl, rfl, by decide +kernel, rfl, by decide +kernel, by decide +kernel⟩
theorem ok_is_length {f : Addr} {fd : FuncData} {k : Nat} (F : Fun K "is_length" "is_length" s_is_length f fd) (T : Txt K mg) (Dis_whole : Def P w K mg base k "is_whole" ["thing"] (spD wholeD)) (Dare_parts : Def P w K mg base k "are_parts" ["thing"] (spS arepD)) :
    FnOk P w K mg base CX0 (k + 1) f fd ["thing"] (spS islD) := by
  refine F.ok sc_is_length (fun vs H Q E h => ?_) (fun cdv A outer s H vs Q E hr h => ?_)
  · obtain ⟨v, d, rfl, _⟩ := h
    rfl
  obtain ⟨v, d, rfl, R, hsm, q⟩ := h
  refine ⟨_, (@pss_cons _ _ _ _ _ (@ps_if _ _ _ _ _ _ _ _ (@PW.pt _ _ _ (@pw_or _ _ _ _ _ _ _ (@pt_not _ _ _ _ (@pt_val _ _ _ (@pe_callB _ _ _ _ _ _ _ _ _ call_isi rfl T.isinstance (by decide +kernel) (@pa_cons _ _ _ _ _ (@pv _ 0 _ _ (by rfl) (by first | exact Or.inl rfl | exact Or.inr (Or.inl rfl) | exact Or.inr (Or.inr rfl)) (by decide) (by decide)) (@pa_cons _ _ _ _ _ (@pe_bltn _ _ (.ty "tuple") _ _ rfl T.tuple (by decide +kernel) rfl (by decide) (by decide)) (@pa_nil _) (by rfl)) (by rfl)) (by decide) (by decide) (by rfl) (by rfl)) (by intro _; rfl))) (@pw_or1 _ _ _ _ (@pt_cmpR _ _ _ _ _ _ _ _ op_ne (@pe_callB _ _ _ _ _ _ _ _ _ call_len_seq rfl T.len (by decide +kernel) (@pa_cons _ _ _ _ _ (@pv _ 0 _ _ (by rfl) (by first | exact Or.inl rfl | exact Or.inr (Or.inl rfl) | exact Or.inr (Or.inr rfl)) (by decide) (by decide)) (@pa_nil _) (by rfl)) (by decide) (by decide) (by rfl) (by rfl)) (@pe_int _ _ _ _) (nomark _))))) (@pss_one _ _ _ (@ps_ret _ _ _ _ (@pe_bl _ _ _ _))) (@pss_nil _)) (@pss_one _ _ _ (@ps_ret _ _ _ _ (@pe_and _ _ _ _ _ _ _ (@pe_def _ _ _ _ _ _ _ _ _ _ Dis_whole hr rfl (@pa_cons _ _ _ _ _ (@pe_ix _ _ _ _ _ _ _ ix_tup (@pv _ 0 _ _ (by rfl) (by first | exact Or.inl rfl | exact Or.inr (Or.inl rfl) | exact Or.inr (Or.inr rfl)) (by decide) (by decide)) (@pe_int _ _ _ _) (fun _ _ => rfl)) (@pa_nil _) (by rfl)) (by decide) (by rfl) (by rfl)) (@pe_and _ _ _ _ _ _ _ (@pe_cmpR _ _ _ _ _ _ _ _ op_ge (@pe_ix _ _ _ _ _ _ _ ix_tup (@pv _ 0 _ _ (by rfl) (by first | exact Or.inl rfl | exact Or.inr (Or.inl rfl) | exact Or.inr (Or.inr rfl)) (by decide) (by decide)) (@pe_int _ _ _ _) (fun _ _ => rfl)) (@pe_int _ _ _ _) (nomark _)) (@pe_one _ _ _ _ _ (@pe_def _ _ _ _ _ _ _ _ _ _ Dare_parts hr rfl (@pa_cons _ _ _ _ _ (@pe_ix _ _ _ _ _ _ _ ix_tup (@pv _ 0 _ _ (by rfl) (by first | exact Or.inl rfl | exact Or.inr (Or.inl rfl) | exact Or.inr (Or.inr rfl)) (by decide) (by decide)) (@pe_int _ _ _ _) (fun _ _ => rfl)) (@pa_nil _) (by rfl)) (by decide) (by rfl) (by rfl)))))))), ?_⟩
  refine ⟨_, rfl, v, _, _, _, rfl, R.ty, kit_tuple K d, _, rfl, ?_⟩
  cases d with
  | tup ds =>
    obtain ⟨a, vs, rfl, ha, rs⟩ := Rep.tup_inv R
    have hl := rs.length
    refine iteF ⟨_, rfl, a, vs, rfl, .inr (SqT.of ha), rfl, _, rfl, ?_⟩
    rcases two_or ds with ⟨d0, d1, rfl⟩ | no
    · obtain ⟨x, y, rfl, R0, R1⟩ := Reps.two rs
      obtain ⟨z0, z1⟩ := small2 hsm
      refine iteNS rfl ?_
      have qe : ∀ c H', Same H H' → islD (.tup [d0, d1]) = c → Q (.bl c) H' := fun c H' s1 e => e ▸ q H' s1
      refine ⟨_, rfl, a, _, 0, x, rfl, rfl, SqT.of ha, atI_nat (j := 0) rfl, x, d0, rfl, R0, fun H1 s1 => ⟨_, rfl, ?_⟩⟩
      cases c0 : wholeD d0 with
      | false => exact iteF (qe _ H1 s1 (by show (wholeD d0 && _) = false; rw [c0]; rfl))
      | true =>
        obtain ⟨i, rfl, e⟩ := geD_int (k := 0) c0
        obtain rfl : x = .int i := R0
        refine iteT ⟨_, rfl, a, _, 0, .int i, rfl, rfl, SqT.of (s1 _ _ ha), atI_nat (j := 0) rfl, _, _, rfl, rfl, _, rfl, ?_⟩
        by_cases c1 : 0 ≤ i
        · rw [decide_eq_true c1]
          refine iteT ⟨_, rfl, a, _, 1, y, rfl, rfl, SqT.of (s1 _ _ ha), atI_nat (j := 1) rfl, y, d1, rfl, R1.mono s1, z1, fun H2 s2 => ?_⟩
          refine qe _ H2 (s1.trans s2) ?_
          show (wholeD (.int i) && (geD 0 (.int i) && arepD d1)) = _
          rw [c0, e, decide_eq_true c1]
          rfl
        · rw [decide_eq_false c1]
          refine iteF (qe _ H1 s1 ?_)
          show (wholeD (.int i) && (geD 0 (.int i) && arepD d1)) = _
          rw [c0, e, decide_eq_false c1]
          rfl
    · have hn : ¬ (V.int ((vs.length : Nat) : Int) = V.int 2) := fun e => len_two no (by injection e with e; omega)
      rw [decide_eq_false hn]
      refine iteT ?_
      have := q H (Same.refl H)
      rwa [len_not no] at this
  | _ => exact iteT (iteT (q H (Same.refl H)))
end
end K21
set_option maxHeartbeats 1000000
namespace K21
open PySem L2 KB XB
section
variable {P : Program} {w : World} {K : PySem.W.Frag} {mg : Str → Option Value} {base : Heap}
theorem part_shape {d : Dv} (h : partD d = true) : ∃ nm b, d = .tup [.str nm, .int b] ∧ headD d = nm ∧ nmB nm = true ∧ 1 ≤ b := by
  match d, h with
  | .tup [a, b], h =>
    simp only [partD, Bool.and_eq_true] at h
    obtain ⟨h1, h2, h3⟩ := h
    cases a with
    | str x =>
      cases b with
      | int i => exact ⟨x, i, rfl, rfl, h1, of_decide_eq_true h3⟩
      | _ => cases h2
    | _ => cases h1
theorem sc_are_parts : FnScope ["thing", "last", "part"] ["thing"] (defScope s_are_parts) := ⟨rfl, rfl, rfl, by decide +kernel, rfl, by decide +kernel, by decide +kernel⟩
theorem ok_are_parts {f : Addr} {fd : FuncData} {k : Nat} (F : Fun K "are_parts" "are_parts" s_are_parts f fd) (T : Txt K mg) (Dis_part : Def P w K mg base k "is_part" ["thing"] (spS partD)) :
    FnOk P w K mg base CX0 (k + 1) f fd ["thing"] (spS arepD) := by
  have nd : (["thing", "last", "part"] : List Str).Nodup := sc_are_parts.nd
  refine F.ok sc_are_parts (fun vs H Q E h => ?_) (fun cdv A outer s H vs Q E hr h => ?_)
  · obtain ⟨v, d, rfl, _⟩ := h
    rfl
  obtain ⟨v, d, rfl, R, hsm, q⟩ := h
  refine ⟨_, (@pss_cons _ _ _ _ _ (@ps_if _ _ _ _ _ _ _ _ (@pt_not _ _ _ _ (@pt_val _ _ _ (@pe_callB _ _ _ _ _ _ _ _ _ call_isi rfl T.isinstance (by decide +kernel) (@pa_cons _ _ _ _ _ (@pv _ 0 _ _ (by rfl) (by first | exact Or.inl rfl | exact Or.inr (Or.inl rfl) | exact Or.inr (Or.inr rfl)) (by decide) (by decide)) (@pa_cons _ _ _ _ _ (@pe_bltn _ _ (.ty "tuple") _ _ rfl T.tuple (by decide +kernel) rfl (by decide) (by decide)) (@pa_nil _) (by rfl)) (by rfl)) (by decide) (by decide) (by rfl) (by rfl)) (by intro _; rfl))) (@pss_one _ _ _ (@ps_ret _ _ _ _ (@pe_bl _ _ _ _))) (@pss_nil _)) (@pss_cons _ _ _ _ _ (@ps_set _ _ (1) _ _ _ _ nd rfl (Or.inl rfl) (@pe_str _ _ _ _) (by rfl) (by first | exact .inl rfl | exact .inr rfl | assumption)) (@pss_cons _ _ _ _ _ (@ps_for _ _ _ _ _ _ _ _ PassesOwn.never rfl (@pi_tup _ _ _ _ (@pv _ 0 _ _ (by rfl) (by first | exact Or.inl rfl | exact Or.inr (Or.inl rfl) | exact Or.inr (Or.inr rfl)) (by decide) (by decide))) (@pg_name _ _ (2) _ nd rfl (Or.inl rfl) (by first | exact .inl rfl | exact .inr rfl | assumption)) (@pss_cons _ _ _ _ _ (@ps_if _ _ _ _ _ _ _ _ (@PW.pt _ _ _ (@pw_or _ _ _ _ _ _ _ (@pt_not _ _ _ _ (@pt_val _ _ _ (@pe_def _ _ _ _ _ _ _ _ _ _ Dis_part hr rfl (@pa_cons _ _ _ _ _ (@pv _ 2 _ _ (by rfl) (by first | exact Or.inl rfl | exact Or.inr (Or.inl rfl) | exact Or.inr (Or.inr rfl)) (by decide) (by decide)) (@pa_nil _) (by rfl)) (by decide) (by rfl) (by rfl)) (by intro _; rfl))) (@pw_or1 _ _ _ _ (@pt_cmpR _ _ _ _ _ _ _ _ op_le_str (@pe_ix _ _ _ _ _ _ _ ix_tup (@pv _ 2 _ _ (by rfl) (by first | exact Or.inl rfl | exact Or.inr (Or.inl rfl) | exact Or.inr (Or.inr rfl)) (by decide) (by decide)) (@pe_int _ _ _ _) (fun _ _ => rfl)) (@pv _ 1 _ _ (by rfl) (by first | exact Or.inl rfl | exact Or.inr (Or.inl rfl) | exact Or.inr (Or.inr rfl)) (by decide) (by decide)) (nomark _))))) (@pss_one _ _ _ (@ps_ret _ _ _ _ (@pe_bl _ _ _ _))) (@pss_nil _)) (@pss_one _ _ _ (@ps_set _ _ (1) _ _ _ _ nd rfl (Or.inl rfl) (@pe_ix _ _ _ _ _ _ _ ix_tup (@pv _ 2 _ _ (by rfl) (by first | exact Or.inl rfl | exact Or.inr (Or.inl rfl) | exact Or.inr (Or.inr rfl)) (by decide) (by decide)) (@pe_int _ _ _ _) (fun _ _ => rfl)) (by rfl) (by first | exact .inl rfl | exact .inr rfl | assumption)))) (by intro _; rfl)) (@pss_one _ _ _ (@ps_ret _ _ _ _ (@pe_bl _ _ _ _)))))), ?_⟩
  refine ⟨_, rfl, v, _, _, _, rfl, R.ty, kit_tuple K d, _, rfl, ?_⟩
  cases d with
  | tup ds =>
    obtain ⟨a, vs, rfl, ha, rs⟩ := Rep.tup_inv R
    have hl := rs.length
    have hds : smalls ds = true := by
      simp only [Dv.small, Bool.and_eq_true] at hsm
      exact hsm.1
    refine iteF ?_
    refine ⟨_, rfl, a, rfl, ⟨vs, SqT.of ha⟩, for_tup (xs := vs) (fun i σ H' => ∃ (last : Str) (pv : Option V), σ = [some (.ref a), some (.str last), pv] ∧ Same H H' ∧ goD last (ds.drop i) = goD "" ds)
      ⟨"", none, rfl, Same.refl H, rfl⟩ (fun i σ H' _ ⟨_, _, _, s1, _⟩ => SqT.of (s1 _ _ ha)) ?_ ?_⟩
    · rintro i x σ H1 hi ⟨last, pv, rfl, s1, hg⟩
      obtain ⟨d, hd, Rd⟩ := rs.get hi
      have hdi : ds.drop i = d :: ds.drop (i + 1) := by
        obtain ⟨h1, h2⟩ := List.getElem?_eq_some_iff.mp hd
        rw [List.drop_eq_getElem_cons h1, h2]
      have hsd := smalls_get hds hd
      rw [hdi] at hg
      refine ⟨_, rfl, x, d, rfl, Rd.mono s1, hsd, fun H2 s2 => ⟨_, rfl, ?_⟩⟩
      have no : goD last (d :: ds.drop (i + 1)) = false → ∀ H', Same H H' → Q (.bl false) H' := fun e H' s' => by
        have := q H' s'
        rwa [show arepD (.tup ds) = false by show goD "" ds = false; rw [← hg, e]] at this
      cases c : partD d with
      | false =>
        refine iteT (iteT (no ?_ H2 (s1.trans s2)))
        simp only [goD, c, Bool.false_and]
      | true =>
        obtain ⟨nm, b, rfl, hh, _⟩ := part_shape c
        obtain ⟨p, us, rfl, hp, ru⟩ := Rep.tup_inv Rd
        obtain ⟨y, z, rfl, R0, R1⟩ := Reps.two ru
        obtain rfl : y = .str nm := R0
        have hp2 : H2 p = some (.tup [.str nm, z]) := s2 _ _ (s1 _ _ hp)
        refine iteF ⟨_, rfl, p, _, 0, .str nm, rfl, rfl, SqT.of hp2, atI_nat (j := 0) rfl, _, rfl, _, _, rfl, rfl, _, rfl, ?_⟩
        by_cases lt : last.cps.toList < nm.cps.toList
        · rw [decide_eq_true lt]
          refine iteF ⟨_, rfl, p, _, 0, .str nm, rfl, rfl, SqT.of hp2, atI_nat (j := 0) rfl, nm, _, rfl, s1.trans s2, ?_⟩
          rw [← hg]
          simp only [goD, c, hh, Bool.true_and]
          rw [decide_eq_true lt, Bool.true_and]
        · rw [decide_eq_false lt]
          refine iteT (no ?_ H2 (s1.trans s2))
          simp only [goD, c, hh, Bool.true_and]
          rw [decide_eq_false lt, Bool.false_and]
    · rintro σ H1 ⟨last, pv, rfl, s1, hg⟩
      have := q H1 s1
      rw [show arepD (.tup ds) = true by
        show goD "" ds = true
        rw [← hg, hl, List.drop_length]
        rfl] at this
      exact this
  | _ => exact iteT (q H (Same.refl H))
end
end K21
set_option maxHeartbeats 1000000
namespace K21
open PySem L2 KB XB
abbrev s_is_small : Stmt := top 11
abbrev s_has_word : Stmt := top 12
abbrev s_is_point : Stmt := top 13
abbrev s_things_of : Stmt := top 14
def timesD : Dv → Int
  | .tup [_, .int n] => n
  | _ => 0
def cntD : Dv → Int
  | .tup (.int c :: _) => c
  | _ => 0
def partsOf : Dv → List Dv
  | .tup [_, .tup ps] => ps
  | _ => []
def slD (d : Dv) : Bool := islD d && (decide (cntD d ≤ 99) && (partsOf d).all fun p => decide (timesD p ≤ 99))
def wordD : Dv → Bool
  | .tup (.str _ :: _) => true
  | _ => false
def pointD : Dv → Bool
  | .tup [.str x] => decide (x = "whole")
  | .tup [.str x, l] => decide (x = "place") && slD l
  | .tup [.str x, a, _] => (decide (x = "row") && slD a) || decide (x = "pair")
  | _ => false
def kids {α : Type} (x : Str) (r : List α) : List α := if x = "row" then r.drop 1 else if x = "pair" then r else []
theorem len_shape {d : Dv} (h : islD d = true) : ∃ c ps, d = .tup [.int c, .tup ps] ∧ 0 ≤ c ∧ goD "" ps = true := by
  match d, h with
  | .tup [a, b], h =>
    simp only [islD, Bool.and_eq_true] at h
    obtain ⟨h1, h2, h3⟩ := h
    cases a with
    | int i =>
      cases b with
      | tup ps => exact ⟨i, ps, rfl, of_decide_eq_true h2, h3⟩
      | _ => cases h3
    | _ => cases h1
theorem go_parts : ∀ {l : Str} {ps : List Dv}, goD l ps = true → ∀ p ∈ ps, partD p = true
  | _, [], _, p, hp => by cases hp
  | l, x :: ps, h, p, hp => by
    simp only [goD, Bool.and_eq_true] at h
    rcases List.mem_cons.mp hp with rfl | hp
    · exact h.1
    · exact go_parts h.2.2 p hp
def spThD : Sp := fun vs H Q _ => ∃ (a : Addr) (x : Str) (us : List V), vs = [.ref a] ∧ H a = some (.tup (.str x :: us)) ∧ (x = "row" → us.length = 2) ∧ (x = "pair" → us.length = 2) ∧ ∀ (l : Addr), H l = none → Q (.ref l) (upd H l (.lst (kids x us)))
theorem str_dec (x y : Str) : decide (V.str x = V.str y) = decide (x = y) := by
  by_cases h : x = y
  · rw [decide_eq_true h, decide_eq_true (by rw [h])]
  · rw [decide_eq_false h, decide_eq_false (fun z => h (by injection z))]
section
variable {P : Program} {w : World} {K : PySem.W.Frag} {mg : Str → Option Value} {base : Heap}
theorem sc_is_small : FnScope ["thing"] ["thing"] (defScope s_is_small) := ⟨rfl, rfl, rfl, by decide +kernel, rfl, by decide +kernel, by decide +kernel⟩
theorem ok_is_small {f : Addr} {fd : FuncData} {k : Nat} (F : Fun K "is_small_length" "is_small_length" s_is_small f fd) (T : Txt K mg) (Dis_length : Def P w K mg base k "is_length" ["thing"] (spS islD)) :
    FnOk P w K mg base CX0 (k + 1) f fd ["thing"] (spS slD) := by
  refine F.ok sc_is_small (fun vs H Q E h => ?_) (fun cdv A outer s H vs Q E hr h => ?_)
  · obtain ⟨v, d, rfl, _⟩ := h
    rfl
  obtain ⟨v, d, rfl, R, hsm, q⟩ := h
  refine ⟨_, (@pss_cons _ _ _ _ _ (@ps_if _ _ _ _ _ _ _ _ (@PW.pt _ _ _ (@pw_or _ _ _ _ _ _ _ (@pt_not _ _ _ _ (@pt_val _ _ _ (@pe_def _ _ _ _ _ _ _ _ _ _ Dis_length hr rfl (@pa_cons _ _ _ _ _ (@pv _ 0 _ _ (by rfl) (by first | exact Or.inl rfl | exact Or.inr (Or.inl rfl) | exact Or.inr (Or.inr rfl)) (by decide) (by decide)) (@pa_nil _) (by rfl)) (by decide) (by rfl) (by rfl)) (by intro _; rfl))) (@pw_or1 _ _ _ _ (@pt_cmpR _ _ _ _ _ _ _ _ op_gt (@pe_ix _ _ _ _ _ _ _ ix_tup (@pv _ 0 _ _ (by rfl) (by first | exact Or.inl rfl | exact Or.inr (Or.inl rfl) | exact Or.inr (Or.inr rfl)) (by decide) (by decide)) (@pe_int _ _ _ _) (fun _ _ => rfl)) (T.g_GREATEST_NUMBER rfl) (nomark _))))) (@pss_one _ _ _ (@ps_ret _ _ _ _ (@pe_bl _ _ _ _))) (@pss_nil _)) (@pss_one _ _ _ (@ps_ret _ _ _ _ (@pe_callB _ _ _ _ _ _ _ _ _ (call_all rfl) rfl T.all (by decide +kernel) (@pa_cons _ _ _ _ _ (@pe_lc _ _ (["name", "times"]) ([]) _ _ _ _ _ _ _ _ _ (@pi_tup _ _ _ _ (@pe_ix _ _ _ _ _ _ _ ix_tup (@pv _ 0 _ _ (by rfl) (by first | exact Or.inl rfl | exact Or.inr (Or.inl rfl) | exact Or.inr (Or.inr rfl)) (by decide) (by decide)) (@pe_int _ _ _ _) (fun _ _ => rfl))) (.of rfl) rfl (fun _ _ _ => pg_tup rfl (@pgs_cons _ _ _ _ _ (@pg_name _ _ (0) _ (lc_nd (l := ["name", "times"]) ((by decide +kernel)) rfl) rfl (Or.inl rfl) (by first | exact .inl rfl | exact .inr rfl | assumption)) (@pgs_cons _ _ _ _ _ (@pg_name _ _ (1) _ (lc_nd (l := ["name", "times"]) ((by decide +kernel)) rfl) rfl (Or.inl rfl) (by first | exact .inl rfl | exact .inr rfl | assumption)) (@pgs_nil _) (by rfl)) (by rfl))) (gw_two (by decide) (by decide)) (fun _ _ _ => (@pif_nil _)) (fun _ _ _ => (@pe_cmpR _ _ _ _ _ _ _ _ op_le (@pv _ 1 _ _ (by rfl) (by first | exact Or.inl rfl | exact Or.inr (Or.inl rfl) | exact Or.inr (Or.inr rfl)) (by decide) (by decide)) (T.g_GREATEST_NUMBER rfl) (nomark _))) (by intro _; rfl)) (@pa_nil _) (by rfl)) (by decide) (by decide) (by rfl) (by rfl))))), ?_⟩
  refine ⟨_, rfl, v, d, rfl, R, hsm, fun H1 s1 => ⟨_, rfl, ?_⟩⟩
  cases c0 : islD d with
  | false =>
    refine iteT ?_
    have := q H1 s1
    rwa [show slD d = false by unfold slD; rw [c0]; rfl] at this
  | true =>
    refine iteF ?_
    obtain ⟨c, ps, rfl, hc, hg⟩ := len_shape c0
    obtain ⟨a, vs, rfl, ha, rs⟩ := Rep.tup_inv R
    obtain ⟨x, y, rfl, R0, R1⟩ := Reps.two rs
    obtain rfl : x = .int c := R0
    obtain ⟨b, us, rfl, hb, ru⟩ := Rep.tup_inv R1
    have hps : ps.length ≤ 1000 := by
      have := (small2 hsm).2
      simp only [Dv.small, Bool.and_eq_true, decide_eq_true_eq] at this
      exact this.2
    have hl := ru.length
    have e0 : slD (.tup [.int c, .tup ps]) = (decide (c ≤ 99) && ps.all fun p => decide (timesD p ≤ 99)) := by
      unfold slD; rw [c0]; rfl
    refine ⟨_, rfl, a, _, 0, .int c, rfl, rfl, SqT.of (s1 _ _ ha), atI_nat (j := 0) rfl, _, _, rfl, rfl, _, rfl, ?_⟩
    refine ite2 (fun h => ?_) (fun h => ?_)
    · have h' : 99 < c := of_decide_eq_true h
      have := q H1 s1
      rw [e0, decide_eq_false (by omega), Bool.false_and] at this
      exact this
    have h' : c ≤ 99 := by have := of_decide_eq_false (Bool.eq_false_iff.mpr h); omega
    have hb1 := s1 _ _ hb
    refine ⟨_, rfl, a, _, 1, .ref b, rfl, rfl, SqT.of (s1 _ _ ha), atI_nat (j := 1) rfl, b, rfl, ⟨us, SqT.of hb1⟩, lc_tup (xs := us) (fun i ys H' => H' = H1 ∧ ys = (ps.take i).map fun p => V.bl (decide (timesD p ≤ 99))) ⟨rfl, rfl⟩ (fun i ys H' _ p => by rw [p.1]; exact SqT.of hb1) ?_ ?_⟩
    · rintro i ys H' x hx ⟨rfl, rfl⟩
      obtain ⟨d, hd, Rd⟩ := ru.get hx
      obtain ⟨hi, ed⟩ := List.getElem?_eq_some_iff.mp hd
      obtain ⟨nm, t, rfl, hh, _⟩ := part_shape (go_parts hg d (List.mem_of_getElem? hd))
      obtain ⟨p, zs, rfl, hp, rz⟩ := Rep.tup_inv Rd
      obtain ⟨y, z, rfl, Ry, Rz⟩ := Reps.two rz
      obtain rfl : y = .str nm := Ry
      obtain rfl : z = .int t := Rz
      refine turn_two (s1 _ _ hp) ⟨_, rfl, _, _, rfl, rfl, ?_, rfl, ?_⟩
      · rw [List.length_map, List.length_take, sizeLine_eq]; omega
      · rw [List.take_add_one, hd, List.map_append]
        rfl
    · rintro ys H' ⟨rfl, rfl⟩ r hr'
      rw [hl, List.take_length]
      refine ⟨r, ps.map fun p => decide (timesD p ≤ 99), rfl, SqL.of (by rw [upd_same, List.map_map]; rfl), ?_⟩
      have := q _ (s1.trans (same_new hr' (.lst (ps.map fun p => V.bl (decide (timesD p ≤ 99))))))
      rw [e0, decide_eq_true h', Bool.true_and] at this
      rw [List.all_map]
      exact this
theorem sc_has_word : FnScope ["thing"] ["thing"] (defScope s_has_word) := ⟨rfl, rfl, rfl, by decide +kernel, rfl, by decide +kernel, by decide +kernel⟩
theorem ok_has_word {f : Addr} {fd : FuncData} (F : Fun K "has_word" "has_word" s_has_word f fd) (T : Txt K mg) : FnOk P w K mg base CX0 1 f fd ["thing"] (spD wordD) := by
  refine F.ok sc_has_word (fun vs H Q E h => ?_) (fun cdv A outer s H vs Q E hr h => ?_)
  · obtain ⟨v, d, rfl, _⟩ := h
    rfl
  obtain ⟨v, d, rfl, R, q⟩ := h
  refine ⟨_, (@pss_one _ _ _ (@ps_ret _ _ _ _ (@pe_and _ _ _ _ _ _ _ (@pe_callB _ _ _ _ _ _ _ _ _ call_isi rfl T.isinstance (by decide +kernel) (@pa_cons _ _ _ _ _ (@pv _ 0 _ _ (by rfl) (by first | exact Or.inl rfl | exact Or.inr (Or.inl rfl) | exact Or.inr (Or.inr rfl)) (by decide) (by decide)) (@pa_cons _ _ _ _ _ (@pe_bltn _ _ (.ty "tuple") _ _ rfl T.tuple (by decide +kernel) rfl (by decide) (by decide)) (@pa_nil _) (by rfl)) (by rfl)) (by decide) (by decide) (by rfl) (by rfl)) (@pe_and _ _ _ _ _ _ _ (@pe_cmpR _ _ _ _ _ _ _ _ op_gt (@pe_callB _ _ _ _ _ _ _ _ _ call_len_seq rfl T.len (by decide +kernel) (@pa_cons _ _ _ _ _ (@pv _ 0 _ _ (by rfl) (by first | exact Or.inl rfl | exact Or.inr (Or.inl rfl) | exact Or.inr (Or.inr rfl)) (by decide) (by decide)) (@pa_nil _) (by rfl)) (by decide) (by decide) (by rfl) (by rfl)) (@pe_int _ _ _ _) (nomark _)) (@pe_one _ _ _ _ _ (@pe_callB _ _ _ _ _ _ _ _ _ call_isi rfl T.isinstance (by decide +kernel) (@pa_cons _ _ _ _ _ (@pe_ix _ _ _ _ _ _ _ ix_tup (@pv _ 0 _ _ (by rfl) (by first | exact Or.inl rfl | exact Or.inr (Or.inl rfl) | exact Or.inr (Or.inr rfl)) (by decide) (by decide)) (@pe_int _ _ _ _) (fun _ _ => rfl)) (@pa_cons _ _ _ _ _ (@pe_bltn _ _ (.ty "str") _ _ rfl T.str (by decide +kernel) rfl (by decide) (by decide)) (@pa_nil _) (by rfl)) (by rfl)) (by decide) (by decide) (by rfl) (by rfl))))))), ?_⟩
  refine ⟨_, rfl, v, _, _, _, rfl, R.ty, kit_tuple K d, _, rfl, ?_⟩
  cases d with
  | tup ds =>
    obtain ⟨a, vs, rfl, ha, rs⟩ := Rep.tup_inv R
    refine iteT ⟨_, rfl, a, vs, rfl, .inr (SqT.of ha), _, _, rfl, rfl, _, rfl, ?_⟩
    cases ds with
    | nil =>
      simp only [Reps] at rs
      subst rs
      exact iteF (q H (Same.refl H))
    | cons d0 ds =>
      simp only [Reps] at rs
      obtain ⟨x, r, rfl, R0, rr⟩ := rs
      rw [show decide (((0 : Int)) < (((x :: r).length : Nat) : Int)) = true from decide_eq_true (by rw [List.length_cons]; omega)]
      refine iteT ⟨_, rfl, a, _, 0, x, rfl, rfl, SqT.of ha, atI_nat (j := 0) rfl, x, _, _, _, rfl, R0.ty, kit_str K d0, ?_⟩
      have := q H (Same.refl H)
      cases d0 <;> exact this
  | _ => exact iteF (q H (Same.refl H))
end
end K21
set_option maxHeartbeats 1000000
namespace K21
open PySem L2 KB XB
section
variable {P : Program} {w : World} {K : PySem.W.Frag} {mg : Str → Option Value} {base : Heap}
theorem word_shape {d : Dv} (h : wordD d = true) : ∃ x r, d = .tup (.str x :: r) := by
  match d, h with
  | .tup (.str x :: r), _ => exact ⟨x, r, rfl⟩
theorem word_point {d : Dv} (h : wordD d = false) : pointD d = false := by
  match d, h with
  | .tup [.str x], h => cases h
  | .tup [.str x, l], h => cases h
  | .tup [.str x, a, b], h => cases h
  | .tup (.str x :: a :: b :: c :: r), h => cases h
  | .tup [], _ => rfl
  | .tup (.non :: r), _ => rfl
  | .tup (.bl _ :: r), _ => rfl
  | .tup (.int _ :: r), _ => rfl
  | .tup (.tup _ :: r), _ => rfl
  | .tup (.lst _ :: r), _ => rfl
  | .tup (.dct :: r), _ => rfl
  | .non, _ => rfl
  | .bl _, _ => rfl
  | .int _, _ => rfl
  | .str _, _ => rfl
  | .lst _, _ => rfl
  | .dct, _ => rfl
theorem w1 : (Str.ofString "whole") ≠ (Str.ofString "place") := by decide +kernel
theorem w2 : (Str.ofString "whole") ≠ (Str.ofString "row") := by decide +kernel
theorem w3 : (Str.ofString "whole") ≠ (Str.ofString "pair") := by decide +kernel
theorem w4 : (Str.ofString "place") ≠ (Str.ofString "row") := by decide +kernel
theorem w5 : (Str.ofString "place") ≠ (Str.ofString "pair") := by decide +kernel
theorem w6 : (Str.ofString "row") ≠ (Str.ofString "pair") := by decide +kernel
theorem p_whole {r : List Dv} : pointD (.tup (.str "whole" :: r)) = decide (r.length = 0) := by
  match r with
  | [] => show decide (Str.ofString "whole" = Str.ofString "whole") = _; rw [decide_eq_true rfl]; rfl
  | [l] => show (decide (Str.ofString "whole" = Str.ofString "place") && slD l) = _; rw [decide_eq_false w1]; rfl
  | [a, b] => show ((decide (Str.ofString "whole" = Str.ofString "row") && slD a) || decide (Str.ofString "whole" = Str.ofString "pair")) = _; rw [decide_eq_false w2, decide_eq_false w3]; rfl
  | a :: b :: c :: r => rfl
theorem p_place {r : List Dv} : pointD (.tup (.str "place" :: r)) = (decide (r.length = 1) && slD (r.headD .non)) := by
  match r with
  | [] => show decide (Str.ofString "place" = Str.ofString "whole") = _; rw [decide_eq_false (Ne.symm w1)]; rfl
  | [l] => show (decide (Str.ofString "place" = Str.ofString "place") && slD l) = _; rw [decide_eq_true rfl]; rfl
  | [a, b] => show ((decide (Str.ofString "place" = Str.ofString "row") && slD a) || decide (Str.ofString "place" = Str.ofString "pair")) = _; rw [decide_eq_false w4, decide_eq_false w5]; rfl
  | a :: b :: c :: r =>
    rw [decide_eq_false (by simp)]; rfl
theorem p_row {r : List Dv} : pointD (.tup (.str "row" :: r)) = (decide (r.length = 2) && slD (r.headD .non)) := by
  match r with
  | [] => show decide (Str.ofString "row" = Str.ofString "whole") = _; rw [decide_eq_false (Ne.symm w2)]; rfl
  | [l] => show (decide (Str.ofString "row" = Str.ofString "place") && slD l) = _; rw [decide_eq_false (Ne.symm w4)]; rfl
  | [a, b] => show ((decide (Str.ofString "row" = Str.ofString "row") && slD a) || decide (Str.ofString "row" = Str.ofString "pair")) = _; rw [decide_eq_true rfl, decide_eq_false w6, Bool.or_false]; rfl
  | a :: b :: c :: r =>
    rw [decide_eq_false (by simp)]; rfl
theorem p_else {x : Str} {r : List Dv} (h1 : x ≠ "whole") (h2 : x ≠ "place") (h3 : x ≠ "row") : pointD (.tup (.str x :: r)) = (decide (r.length = 2) && decide (x = "pair")) := by
  match r with
  | [] => show decide (x = "whole") = _; rw [decide_eq_false h1]; rfl
  | [l] => show (decide (x = "place") && slD l) = _; rw [decide_eq_false h2]; rfl
  | [a, b] => show ((decide (x = "row") && slD a) || decide (x = "pair")) = _; rw [decide_eq_false h3, Bool.false_and, Bool.false_or]; rfl
  | a :: b :: c :: r =>
    rw [decide_eq_false (by simp)]; rfl
theorem len_dec {vs : List V} {r : List Dv} {x : V} (h : vs.length = r.length) (n m : Nat) (e : m = n + 1) : decide (V.int (((x :: vs).length : Nat) : Int) = V.int (m : Int)) = decide (r.length = n) := by
  by_cases z : r.length = n
  · rw [decide_eq_true z, decide_eq_true (by rw [List.length_cons, h, z, e])]
  · rw [decide_eq_false z, decide_eq_false (fun y => z (by injection y with y; rw [List.length_cons, h] at y; omega))]
theorem sc_is_point : FnScope ["thing"] ["thing"] (defScope s_is_point) := ⟨rfl, rfl, rfl, by decide +kernel, rfl, by decide +kernel, by decide +kernel⟩
theorem ok_is_point {f : Addr} {fd : FuncData} {k : Nat} (F : Fun K "is_point" "is_point" s_is_point f fd) (T : Txt K mg) (Dhas_word : Def P w K mg base k "has_word" ["thing"] (spD wordD)) (Dis_small_length : Def P w K mg base k "is_small_length" ["thing"] (spS slD)) :
    FnOk P w K mg base CX0 (k + 1) f fd ["thing"] (spS pointD) := by
  refine F.ok sc_is_point (fun vs H Q E h => ?_) (fun cdv A outer s H vs Q E hr h => ?_)
  · obtain ⟨v, d, rfl, _⟩ := h
    rfl
  obtain ⟨v, d, rfl, R, hsm, q⟩ := h
  refine ⟨_, (@pss_cons _ _ _ _ _ (@ps_if _ _ _ _ _ _ _ _ (@pt_not _ _ _ _ (@pt_val _ _ _ (@pe_def _ _ _ _ _ _ _ _ _ _ Dhas_word hr rfl (@pa_cons _ _ _ _ _ (@pv _ 0 _ _ (by rfl) (by first | exact Or.inl rfl | exact Or.inr (Or.inl rfl) | exact Or.inr (Or.inr rfl)) (by decide) (by decide)) (@pa_nil _) (by rfl)) (by decide) (by rfl) (by rfl)) (by intro _; rfl))) (@pss_one _ _ _ (@ps_ret _ _ _ _ (@pe_bl _ _ _ _))) (@pss_nil _)) (@pss_cons _ _ _ _ _ (@ps_if _ _ _ _ _ _ _ _ (@pt_cmpR _ _ _ _ _ _ _ _ op_eq (@pe_ix _ _ _ _ _ _ _ ix_tup (@pv _ 0 _ _ (by rfl) (by first | exact Or.inl rfl | exact Or.inr (Or.inl rfl) | exact Or.inr (Or.inr rfl)) (by decide) (by decide)) (@pe_int _ _ _ _) (fun _ _ => rfl)) (@pe_str _ _ _ _) (nomark _)) (@pss_one _ _ _ (@ps_ret _ _ _ _ (@pe_cmpR _ _ _ _ _ _ _ _ op_eq (@pe_callB _ _ _ _ _ _ _ _ _ call_len_seq rfl T.len (by decide +kernel) (@pa_cons _ _ _ _ _ (@pv _ 0 _ _ (by rfl) (by first | exact Or.inl rfl | exact Or.inr (Or.inl rfl) | exact Or.inr (Or.inr rfl)) (by decide) (by decide)) (@pa_nil _) (by rfl)) (by decide) (by decide) (by rfl) (by rfl)) (@pe_int _ _ _ _) (nomark _)))) (@pss_nil _)) (@pss_cons _ _ _ _ _ (@ps_if _ _ _ _ _ _ _ _ (@pt_cmpR _ _ _ _ _ _ _ _ op_eq (@pe_ix _ _ _ _ _ _ _ ix_tup (@pv _ 0 _ _ (by rfl) (by first | exact Or.inl rfl | exact Or.inr (Or.inl rfl) | exact Or.inr (Or.inr rfl)) (by decide) (by decide)) (@pe_int _ _ _ _) (fun _ _ => rfl)) (@pe_str _ _ _ _) (nomark _)) (@pss_one _ _ _ (@ps_ret _ _ _ _ (@pe_and _ _ _ _ _ _ _ (@pe_cmpR _ _ _ _ _ _ _ _ op_eq (@pe_callB _ _ _ _ _ _ _ _ _ call_len_seq rfl T.len (by decide +kernel) (@pa_cons _ _ _ _ _ (@pv _ 0 _ _ (by rfl) (by first | exact Or.inl rfl | exact Or.inr (Or.inl rfl) | exact Or.inr (Or.inr rfl)) (by decide) (by decide)) (@pa_nil _) (by rfl)) (by decide) (by decide) (by rfl) (by rfl)) (@pe_int _ _ _ _) (nomark _)) (@pe_one _ _ _ _ _ (@pe_def _ _ _ _ _ _ _ _ _ _ Dis_small_length hr rfl (@pa_cons _ _ _ _ _ (@pe_ix _ _ _ _ _ _ _ ix_tup (@pv _ 0 _ _ (by rfl) (by first | exact Or.inl rfl | exact Or.inr (Or.inl rfl) | exact Or.inr (Or.inr rfl)) (by decide) (by decide)) (@pe_int _ _ _ _) (fun _ _ => rfl)) (@pa_nil _) (by rfl)) (by decide) (by rfl) (by rfl)))))) (@pss_nil _)) (@pss_cons _ _ _ _ _ (@ps_if _ _ _ _ _ _ _ _ (@pt_cmpR _ _ _ _ _ _ _ _ op_eq (@pe_ix _ _ _ _ _ _ _ ix_tup (@pv _ 0 _ _ (by rfl) (by first | exact Or.inl rfl | exact Or.inr (Or.inl rfl) | exact Or.inr (Or.inr rfl)) (by decide) (by decide)) (@pe_int _ _ _ _) (fun _ _ => rfl)) (@pe_str _ _ _ _) (nomark _)) (@pss_one _ _ _ (@ps_ret _ _ _ _ (@pe_and _ _ _ _ _ _ _ (@pe_cmpR _ _ _ _ _ _ _ _ op_eq (@pe_callB _ _ _ _ _ _ _ _ _ call_len_seq rfl T.len (by decide +kernel) (@pa_cons _ _ _ _ _ (@pv _ 0 _ _ (by rfl) (by first | exact Or.inl rfl | exact Or.inr (Or.inl rfl) | exact Or.inr (Or.inr rfl)) (by decide) (by decide)) (@pa_nil _) (by rfl)) (by decide) (by decide) (by rfl) (by rfl)) (@pe_int _ _ _ _) (nomark _)) (@pe_one _ _ _ _ _ (@pe_def _ _ _ _ _ _ _ _ _ _ Dis_small_length hr rfl (@pa_cons _ _ _ _ _ (@pe_ix _ _ _ _ _ _ _ ix_tup (@pv _ 0 _ _ (by rfl) (by first | exact Or.inl rfl | exact Or.inr (Or.inl rfl) | exact Or.inr (Or.inr rfl)) (by decide) (by decide)) (@pe_int _ _ _ _) (fun _ _ => rfl)) (@pa_nil _) (by rfl)) (by decide) (by rfl) (by rfl)))))) (@pss_nil _)) (@pss_one _ _ _ (@ps_ret _ _ _ _ (@pe_and _ _ _ _ _ _ _ (@pe_cmpR _ _ _ _ _ _ _ _ op_eq (@pe_callB _ _ _ _ _ _ _ _ _ call_len_seq rfl T.len (by decide +kernel) (@pa_cons _ _ _ _ _ (@pv _ 0 _ _ (by rfl) (by first | exact Or.inl rfl | exact Or.inr (Or.inl rfl) | exact Or.inr (Or.inr rfl)) (by decide) (by decide)) (@pa_nil _) (by rfl)) (by decide) (by decide) (by rfl) (by rfl)) (@pe_int _ _ _ _) (nomark _)) (@pe_one _ _ _ _ _ (@pe_cmpR _ _ _ _ _ _ _ _ op_eq (@pe_ix _ _ _ _ _ _ _ ix_tup (@pv _ 0 _ _ (by rfl) (by first | exact Or.inl rfl | exact Or.inr (Or.inl rfl) | exact Or.inr (Or.inr rfl)) (by decide) (by decide)) (@pe_int _ _ _ _) (fun _ _ => rfl)) (@pe_str _ _ _ _) (nomark _)))))))))), ?_⟩
  refine ⟨_, rfl, v, d, rfl, R, fun H1 s1 => ⟨_, rfl, ?_⟩⟩
  cases c0 : wordD d with
  | false =>
    refine iteT ?_
    have := q H1 s1
    rwa [word_point c0] at this
  | true =>
    refine iteF ?_
    obtain ⟨x, r, rfl⟩ := word_shape c0
    obtain ⟨a, vs, rfl, ha, rs⟩ := Rep.tup_inv (R.mono s1)
    simp only [Reps] at rs
    obtain ⟨y, us, rfl, R0, ru⟩ := rs
    obtain rfl : y = .str x := R0
    have hl := ru.length
    refine ⟨_, rfl, a, _, 0, .str x, rfl, rfl, SqT.of ha, atI_nat (j := 0) rfl, rfl, _, rfl, ?_⟩
    show if decide (V.str x = V.str "whole") = true then _ else _
    rw [str_dec]
    by_cases h1 : x = "whole"
    · subst h1
      rw [decide_eq_true rfl]
      refine iteT ⟨_, rfl, a, _, rfl, .inr (SqT.of ha), rfl, ?_⟩
      have := q H1 s1
      rw [p_whole, ← len_dec (x := .str "whole") hl 0 1 rfl] at this
      exact this
    rw [decide_eq_false h1]
    refine iteF ⟨_, rfl, a, _, 0, .str x, rfl, rfl, SqT.of ha, atI_nat (j := 0) rfl, rfl, _, rfl, ?_⟩
    show if decide (V.str x = V.str "place") = true then _ else _
    rw [str_dec]
    by_cases h2 : x = "place"
    · subst h2
      rw [decide_eq_true rfl]
      refine iteT ⟨_, rfl, a, _, rfl, .inr (SqT.of ha), rfl, _, rfl, ?_⟩
      show if decide (V.int _ = V.int ((2 : Nat) : Int)) = true then _ else _
      rw [len_dec (x := .str "place") hl 1 2 rfl]
      by_cases z : r.length = 1
      · rw [decide_eq_true z]
        match r, us, z, ru with
        | [l], us, _, ru =>
          simp only [Reps] at ru
          obtain ⟨u, rest, rfl, Ru, rfl⟩ := ru
          refine iteT ⟨_, rfl, a, _, 1, u, rfl, rfl, SqT.of ha, atI_nat (j := 1) rfl, u, l, rfl, Ru, smalls_get (i := 1) (ds := [.str "place", l]) (by simp only [Dv.small, Bool.and_eq_true] at hsm; exact hsm.1) rfl, fun H2 s2 => ?_⟩
          have := q H2 (s1.trans s2)
          rw [p_place] at this
          exact this
      · rw [decide_eq_false z]
        refine iteF ?_
        have := q H1 s1
        rw [p_place, decide_eq_false z] at this
        exact this
    rw [decide_eq_false h2]
    refine iteF ⟨_, rfl, a, _, 0, .str x, rfl, rfl, SqT.of ha, atI_nat (j := 0) rfl, rfl, _, rfl, ?_⟩
    show if decide (V.str x = V.str "row") = true then _ else _
    rw [str_dec]
    by_cases h3 : x = "row"
    · subst h3
      rw [decide_eq_true rfl]
      refine iteT ⟨_, rfl, a, _, rfl, .inr (SqT.of ha), rfl, _, rfl, ?_⟩
      show if decide (V.int _ = V.int ((3 : Nat) : Int)) = true then _ else _
      rw [len_dec (x := .str "row") hl 2 3 rfl]
      by_cases z : r.length = 2
      · rw [decide_eq_true z]
        match r, us, z, ru with
        | [l, m], us, _, ru =>
          obtain ⟨u, u', rfl, Ru, Ru'⟩ := Reps.two ru
          refine iteT ⟨_, rfl, a, _, 1, u, rfl, rfl, SqT.of ha, atI_nat (j := 1) rfl, u, l, rfl, Ru, smalls_get (i := 1) (ds := [.str "row", l, m]) (by simp only [Dv.small, Bool.and_eq_true] at hsm; exact hsm.1) rfl, fun H2 s2 => ?_⟩
          have := q H2 (s1.trans s2)
          rw [p_row] at this
          exact this
      · rw [decide_eq_false z]
        refine iteF ?_
        have := q H1 s1
        rw [p_row, decide_eq_false z] at this
        exact this
    rw [decide_eq_false h3]
    refine iteF ⟨_, rfl, a, _, rfl, .inr (SqT.of ha), rfl, _, rfl, ?_⟩
    show if decide (V.int _ = V.int ((3 : Nat) : Int)) = true then _ else _
    rw [len_dec (x := .str x) hl 2 3 rfl]
    have qq := q H1 s1
    rw [p_else h1 h2 h3] at qq
    by_cases z : r.length = 2
    · rw [decide_eq_true z] at qq ⊢
      refine iteT ⟨_, rfl, a, _, 0, .str x, rfl, rfl, SqT.of ha, atI_nat (j := 0) rfl, rfl, ?_⟩
      rw [Bool.true_and, ← str_dec] at qq
      exact qq
    · rw [decide_eq_false z] at qq ⊢
      exact iteF qq
theorem sc_thingsD : FnScope ["point"] ["point"] (defScope s_things_of) := ⟨rfl, rfl, rfl, by decide +kernel, rfl, by decide +kernel, by decide +kernel⟩
theorem ok_thingsD {f : Addr} {fd : FuncData} (F : Fun K "things_of" "things_of" s_things_of f fd) (T : Txt K mg) : FnOk P w K mg base CX0 1 f fd ["point"] spThD := by
  refine F.ok sc_thingsD (fun vs H Q E h => ?_) (fun cdv A outer s H vs Q E hr h => ?_)
  · obtain ⟨a, x, us, rfl, _⟩ := h
    rfl
  obtain ⟨a, x, us, rfl, ha, hr2, hp2, q⟩ := h
  refine ⟨_, (@pss_cons _ _ _ _ _ (@ps_if _ _ _ _ _ _ _ _ (@pt_cmpR _ _ _ _ _ _ _ _ op_eq (@pe_ix _ _ _ _ _ _ _ ix_tup (@pv _ 0 _ _ (by rfl) (by first | exact Or.inl rfl | exact Or.inr (Or.inl rfl) | exact Or.inr (Or.inr rfl)) (by decide) (by decide)) (@pe_int _ _ _ _) (fun _ _ => rfl)) (@pe_str _ _ _ _) (nomark _)) (@pss_one _ _ _ (@ps_ret _ _ _ _ (@pe_lst _ _ _ _ (@pa_cons _ _ _ _ _ (@pe_ix _ _ _ _ _ _ _ ix_tup (@pv _ 0 _ _ (by rfl) (by first | exact Or.inl rfl | exact Or.inr (Or.inl rfl) | exact Or.inr (Or.inr rfl)) (by decide) (by decide)) (@pe_int _ _ _ _) (fun _ _ => rfl)) (@pa_nil _) (by rfl))))) (@pss_nil _)) (@pss_cons _ _ _ _ _ (@ps_if _ _ _ _ _ _ _ _ (@pt_cmpR _ _ _ _ _ _ _ _ op_eq (@pe_ix _ _ _ _ _ _ _ ix_tup (@pv _ 0 _ _ (by rfl) (by first | exact Or.inl rfl | exact Or.inr (Or.inl rfl) | exact Or.inr (Or.inr rfl)) (by decide) (by decide)) (@pe_int _ _ _ _) (fun _ _ => rfl)) (@pe_str _ _ _ _) (nomark _)) (@pss_one _ _ _ (@ps_ret _ _ _ _ (@pe_lst _ _ _ _ (@pa_cons _ _ _ _ _ (@pe_ix _ _ _ _ _ _ _ ix_tup (@pv _ 0 _ _ (by rfl) (by first | exact Or.inl rfl | exact Or.inr (Or.inl rfl) | exact Or.inr (Or.inr rfl)) (by decide) (by decide)) (@pe_int _ _ _ _) (fun _ _ => rfl)) (@pa_cons _ _ _ _ _ (@pe_ix _ _ _ _ _ _ _ ix_tup (@pv _ 0 _ _ (by rfl) (by first | exact Or.inl rfl | exact Or.inr (Or.inl rfl) | exact Or.inr (Or.inr rfl)) (by decide) (by decide)) (@pe_int _ _ _ _) (fun _ _ => rfl)) (@pa_nil _) (by rfl)) (by rfl))))) (@pss_nil _)) (@pss_one _ _ _ (@ps_ret _ _ _ _ (@pe_lst _ _ _ _ (@pa_nil _)))))), ?_⟩
  refine ⟨_, rfl, a, _, 0, .str x, rfl, rfl, SqT.of ha, atI_nat (j := 0) rfl, rfl, _, rfl, ?_⟩
  show if decide (V.str x = V.str "row") = true then _ else _
  rw [str_dec]
  by_cases h1 : x = "row"
  · subst h1
    have hl := hr2 rfl
    match us, hl with
    | [u, u'], _ =>
      rw [decide_eq_true rfl]
      refine iteT ⟨_, rfl, a, _, 2, u', rfl, rfl, SqT.of ha, atI_nat (j := 2) rfl, z1, fun l hl => q l hl⟩
  rw [decide_eq_false h1]
  refine iteF ⟨_, rfl, a, _, 0, .str x, rfl, rfl, SqT.of ha, atI_nat (j := 0) rfl, rfl, _, rfl, ?_⟩
  show if decide (V.str x = V.str "pair") = true then _ else _
  rw [str_dec]
  by_cases h2 : x = "pair"
  · subst h2
    have hl := hp2 rfl
    match us, hl with
    | [u, u'], _ =>
      rw [decide_eq_true rfl]
      refine iteT ⟨_, rfl, a, _, 1, u, rfl, rfl, SqT.of ha, atI_nat (j := 1) rfl, _, rfl, a, _, 2, u', rfl, rfl, SqT.of ha, atI_nat (j := 2) rfl, z2, fun l hl => ?_⟩
      have := q l hl
      rw [show kids (Str.ofString "pair") [u, u'] = [u, u'] by unfold kids; rw [if_neg (Ne.symm w6), if_pos rfl]] at this
      exact this
  rw [decide_eq_false h2]
  refine iteF ⟨Nat.zero_le _, fun l hl => ?_⟩
  have := q l hl
  rw [show kids x us = [] by unfold kids; rw [if_neg h1, if_neg h2]] at this
  exact this
end
end K21
set_option maxHeartbeats 1000000
namespace K21
open PySem L2 KB XB
abbrev s_is_kind : Stmt := top 15
def sizeD : Dv → Nat
  | .tup [.str x] => if x = "whole" then 1 else 99
  | .tup [.str x, l] => if x = "place" ∧ slD l = true then 1 else 99
  | .tup [.str x, a, b] => if x = "pair" then 1 + sizeD a + sizeD b else if x = "row" ∧ slD a = true then 1 + sizeD b else 99
  | _ => 99
termination_by d => sizeOf d
decreasing_by all_goals simp_wf; omega
theorem size_no {d : Dv} (h : pointD d = false) : sizeD d = 99 := by
  match d, h with
  | .tup [.str x], h =>
    rw [sizeD, if_neg (of_decide_eq_false h)]
  | .tup [.str x, l], h =>
    rw [sizeD, if_neg (fun z => by
      have h' : (decide (x = "place") && slD l) = false := h
      rw [decide_eq_true z.1, z.2] at h'; cases h')]
  | .tup [.str x, a, b], h =>
    have h' : ((decide (x = "row") && slD a) || decide (x = "pair")) = false := h
    rw [Bool.or_eq_false_iff] at h'
    rw [sizeD, if_neg (of_decide_eq_false h'.2), if_neg (fun z => by
      have h2 := h'.1
      rw [decide_eq_true z.1, z.2] at h2; cases h2)]
  | .tup (.str x :: a :: b :: c :: r), _ => rw [sizeD] <;> simp
  | .tup [], _ => rw [sizeD] <;> simp
  | .tup (.non :: r), _ => rw [sizeD] <;> simp
  | .tup (.bl _ :: r), _ => rw [sizeD] <;> simp
  | .tup (.int _ :: r), _ => rw [sizeD] <;> simp
  | .tup (.tup _ :: r), _ => rw [sizeD] <;> simp
  | .tup (.lst _ :: r), _ => rw [sizeD] <;> simp
  | .tup (.dct :: r), _ => rw [sizeD] <;> simp
  | .non, _ => rw [sizeD] <;> simp
  | .bl _, _ => rw [sizeD] <;> simp
  | .int _, _ => rw [sizeD] <;> simp
  | .str _, _ => rw [sizeD] <;> simp
  | .lst _, _ => rw [sizeD] <;> simp
  | .dct, _ => rw [sizeD] <;> simp
theorem point_shape {d : Dv} (h : pointD d = true) : ∃ x r, d = .tup (.str x :: r) ∧ (x = "row" → r.length = 2) ∧ (x = "pair" → r.length = 2) ∧ sizeD d = 1 + ((kids x r).map sizeD).sum := by
  match d, h with
  | .tup [.str x], h =>
    have h' : x = "whole" := of_decide_eq_true h
    subst h'
    exact ⟨_, _, rfl, fun z => absurd z w2, fun z => absurd z w3, by rw [sizeD, if_pos rfl]; unfold kids; rw [if_neg w2, if_neg w3]; rfl⟩
  | .tup [.str x, l], h =>
    have h' : (decide (x = "place") && slD l) = true := h
    rw [Bool.and_eq_true] at h'
    have e : x = "place" := of_decide_eq_true h'.1
    subst e
    exact ⟨_, _, rfl, fun z => absurd z w4, fun z => absurd z w5, by rw [sizeD, if_pos ⟨rfl, h'.2⟩]; unfold kids; rw [if_neg w4, if_neg w5]; rfl⟩
  | .tup [.str x, a, b], h =>
    have h' : ((decide (x = "row") && slD a) || decide (x = "pair")) = true := h
    rw [Bool.or_eq_true, Bool.and_eq_true] at h'
    refine ⟨x, _, rfl, fun _ => rfl, fun _ => rfl, ?_⟩
    rw [sizeD]
    rcases h' with ⟨h1, h2⟩ | h1
    · have e : x = "row" := of_decide_eq_true h1
      subst e
      rw [if_neg w6, if_pos ⟨rfl, h2⟩]
      unfold kids
      rw [if_pos rfl]
      simp
    · have e : x = "pair" := of_decide_eq_true h1
      subst e
      rw [if_pos rfl]
      unfold kids
      rw [if_neg (Ne.symm w6), if_pos rfl]
      simp [Nat.add_assoc]
theorem size_pos (d : Dv) : 1 ≤ sizeD d := by
  cases h : pointD d with
  | false => rw [size_no h]; decide
  | true => obtain ⟨x, r, _, _, _, e⟩ := point_shape h; rw [e]; omega
theorem kids_reps {H : Hp} {x : Str} {r : List Dv} {us : List V} (h : Reps H r us) : Reps H (kids x r) (kids x us) := by
  unfold kids
  split
  · match r, us, h with
    | [], us, h => simp only [Reps] at h; subst h; simp only [List.drop_nil, Reps]
    | d :: r, us, h => simp only [Reps] at h; obtain ⟨v, q, rfl, _, h2⟩ := h; exact h2
  · split
    · exact h
    · simp only [Reps]
theorem kids_small {x : Str} {r : List Dv} (h : smalls r = true) : smalls (kids x r) = true := by
  unfold kids
  split
  · match r, h with
    | [], _ => rfl
    | d :: r, h => simp only [smalls, Bool.and_eq_true] at h; exact h.2
  · split
    · exact h
    · rfl
theorem kids_len {α : Type} {x : Str} {r : List α} (h1 : x = "row" → r.length = 2) (h2 : x = "pair" → r.length = 2) : (kids x r).length ≤ 2 := by
  unfold kids
  split
  · rename_i e; rw [List.length_drop, h1 e]; decide
  · split
    · rename_i e; rw [h2 e]; exact Nat.le_refl _
    · exact Nat.zero_le _
theorem smalls_app : ∀ {xs ys : List Dv}, smalls xs = true → smalls ys = true → smalls (xs ++ ys) = true
  | [], _, _, h => h
  | x :: xs, ys, g, h => by
    simp only [smalls, Bool.and_eq_true, List.cons_append] at g ⊢
    exact ⟨g.1, smalls_app g.2 h⟩
theorem smalls_snoc : ∀ {xs : List Dv} {y : Dv}, smalls (xs ++ [y]) = true → smalls xs = true ∧ y.small = true
  | [], y, h => by simpa [smalls] using h
  | x :: xs, y, h => by
    simp only [smalls, Bool.and_eq_true, List.cons_append] at h ⊢
    have := smalls_snoc h.2
    exact ⟨⟨h.1, this.1⟩, this.2⟩
theorem l1_upd {H : Hp} {l : Addr} {o : HO} : Same (less1 H l) (less1 (upd H l o) l) := fun b u h => by
  unfold less1 at h ⊢
  split at h
  · cases h
  · rename_i e; rw [if_neg e, upd_ne e]; exact h
def spIsKind : Sp := spS fun d => decide (sizeD d ≤ 12)
section
variable {P : Program} {w : World} {K : PySem.W.Frag} {mg : Str → Option Value} {base : Heap}
theorem sc_is_kind : FnScope ["thing", "size", "waiting", "point"] ["thing"] (defScope s_is_kind) := ⟨rfl, rfl, rfl, by decide +kernel, rfl, by decide +kernel, by decide +kernel⟩
theorem ok_is_kind {f : Addr} {fd : FuncData} {k : Nat} (F : Fun K "is_kind" "is_kind" s_is_kind f fd) (T : Txt K mg) (Dis_point : Def P w K mg base k "is_point" ["thing"] (spS pointD)) (Dthings_of : Def P w K mg base k "things_of" ["point"] spThD) :
    FnOk P w K mg base CX0 (k + 1) f fd ["thing"] spIsKind := by
  have nd : (["thing", "size", "waiting", "point"] : List Str).Nodup := sc_is_kind.nd
  refine F.ok sc_is_kind (fun vs H Q E h => ?_) (fun cdv A outer s H vs Q E hr h => ?_)
  · obtain ⟨v, d, rfl, _⟩ := h
    rfl
  obtain ⟨v, d, rfl, R, hsm, q⟩ := h
  replace q : ∀ (H' : Hp), Same H H' → Q (V.bl (decide (sizeD d ≤ 12))) H' := q
  refine ⟨_, (@pss_cons _ _ _ _ _ (@ps_set _ _ (1) _ _ _ _ nd rfl (Or.inl rfl) (@pe_int _ _ _ _) (by rfl) (by first | exact .inl rfl | exact .inr rfl | assumption)) (@pss_cons _ _ _ _ _ (@ps_set _ _ (2) _ _ _ _ nd rfl (Or.inl rfl) (@pe_lst _ _ _ _ (@pa_cons _ _ _ _ _ (@pv _ 0 _ _ (by rfl) (by first | exact Or.inl rfl | exact Or.inr (Or.inl rfl) | exact Or.inr (Or.inr rfl)) (by decide) (by decide)) (@pa_nil _) (by rfl))) (by rfl) (by first | exact .inl rfl | exact .inr rfl | assumption)) (@pss_cons _ _ _ _ _ (@ps_while _ _ _ _ _ _ PassesOwn.never (@pt_truth _ _ _ (@pv _ 2 _ _ (by rfl) (by first | exact Or.inl rfl | exact Or.inr (Or.inl rfl) | exact Or.inr (Or.inr rfl)) (by decide) (by decide)) (fun _ => rfl)) (@pss_cons _ _ _ _ _ (@ps_set _ _ (3) _ _ _ _ nd rfl (Or.inl rfl) (@pe_bm0 _ _ _ _ _ _ _ _ _ PySem.F.plainAttrs_list PySem.F.slot_list_pop PySem.F.type_list_pop mt_pop (@pv _ 2 _ _ (by rfl) (by first | exact Or.inl rfl | exact Or.inr (Or.inl rfl) | exact Or.inr (Or.inr rfl)) (by decide) (by decide)) (by rfl) (by rfl)) (by rfl) (by first | exact .inl rfl | exact .inr rfl | assumption)) (@pss_cons _ _ _ _ _ (@ps_aug _ _ (1) _ _ _ _ _ _ nd rfl (Or.inl rfl) (@pe_int _ _ _ _) ip_add (by first | exact .inl rfl | exact .inr rfl | assumption)) (@pss_cons _ _ _ _ _ (@ps_if _ _ _ _ _ _ _ _ (@PW.pt _ _ _ (@pw_or _ _ _ _ _ _ _ (@pt_cmpR _ _ _ _ _ _ _ _ op_gt (@pv _ 1 _ _ (by rfl) (by first | exact Or.inl rfl | exact Or.inr (Or.inl rfl) | exact Or.inr (Or.inr rfl)) (by decide) (by decide)) (T.g_GREATEST_SIZE rfl) (nomark _)) (@pw_or1 _ _ _ _ (@pt_not _ _ _ _ (@pt_val _ _ _ (@pe_def _ _ _ _ _ _ _ _ _ _ Dis_point hr rfl (@pa_cons _ _ _ _ _ (@pv _ 3 _ _ (by rfl) (by first | exact Or.inl rfl | exact Or.inr (Or.inl rfl) | exact Or.inr (Or.inr rfl)) (by decide) (by decide)) (@pa_nil _) (by rfl)) (by decide) (by rfl) (by rfl)) (by intro _; rfl)))))) (@pss_one _ _ _ (@ps_ret _ _ _ _ (@pe_bl _ _ _ _))) (@pss_nil _)) (@pss_one _ _ _ (@ps_expr _ _ _ _ (@pe_bm _ _ _ _ _ _ _ _ _ _ _ _ PySem.F.plainAttrs_list PySem.F.slot_list_extend PySem.F.type_list_extend mt_extend (@pv _ 2 _ _ (by rfl) (by first | exact Or.inl rfl | exact Or.inr (Or.inl rfl) | exact Or.inr (Or.inr rfl)) (by decide) (by decide)) (@pa_cons _ _ _ _ _ (@pe_def _ _ _ _ _ _ _ _ _ _ Dthings_of hr rfl (@pa_cons _ _ _ _ _ (@pv _ 3 _ _ (by rfl) (by first | exact Or.inl rfl | exact Or.inr (Or.inl rfl) | exact Or.inr (Or.inr rfl)) (by decide) (by decide)) (@pa_nil _) (by rfl)) (by decide) (by rfl) (by rfl)) (@pa_nil _) (by rfl)) (by rfl) (by rfl) (by rfl) (by rfl) (by rfl)) (by rfl))))))) (@pss_one _ _ _ (@ps_ret _ _ _ _ (@pe_bl _ _ _ _)))))), ?_⟩
  refine ⟨_, rfl, z1, fun W1 hW => ?_⟩
  have q1 := same_new hW (.lst [v])
  refine while_mO (fun m σ H' => ∃ (o3 : Option V) (sz : Nat) (ws : List Dv) (vs : List V), σ = [some v, some (.int sz), some (.ref W1), o3] ∧ Same H (less1 H' W1) ∧ H' W1 = some (.lst vs) ∧ Reps (less1 H' W1) ws vs ∧ smalls ws = true ∧ (sz + (ws.map sizeD).sum ≤ 12 ↔ sizeD d ≤ 12) ∧ m = 12 - sz ∧ sz ≤ 12 ∧ ws.length ≤ 1 + sz) 12
    ⟨_, 0, [d], [v], rfl, less1_of q1 hW, upd_same, reps_one (R.mono (less1_of q1 hW)), by simp only [smalls, hsm, Bool.and_self], by simp, rfl, by decide, Nat.le_refl _⟩ ?_ mono_truth
  rintro m σ H1 D1 gR gD ⟨o3, sz, ws, vs, rfl, s1, w1, R1, sm, eq, rfl, s12, lw⟩
  have s01 : Same H H1 := s1.trans less1_sub
  refine ⟨_, rfl, _, .inl ⟨vs, SqL.of w1, rfl⟩, ?_⟩
  by_cases ne : ws = []
  · subst ne
    have e : vs = [] := by simpa only [Reps] using R1
    subst e
    refine iteF ?_
    have := q H1 s01
    rw [decide_eq_true (eq.mp (by simpa using s12))] at this
    exact this
  · obtain ⟨w0, x, rfl⟩ := snoc_of ne
    obtain ⟨v0, u, rfl, Ra, Ru⟩ := reps_snoc R1
    have e : (!(v0 ++ [u]).isEmpty) = true := by simp
    rw [e]
    refine iteT ?_
    rw [List.map_append, List.sum_append, List.map_cons, List.map_nil, List.sum_cons, List.sum_nil] at eq
    rw [List.length_append, List.length_singleton] at lw
    obtain ⟨sm0, smx⟩ := smalls_snoc sm
    refine ⟨_, rfl, .inl ⟨rfl, _, SqL.of w1⟩, W1, _, _, rfl, rfl, w1, pop_snoc _ _, ?_⟩
    rw [List.dropLast_concat]
    have t2 : Same (less1 H1 W1) (less1 (upd H1 W1 (.lst v0)) W1) := l1_upd
    have w2 : upd H1 W1 (.lst v0) W1 = some (.lst v0) := upd_same
    have s02 : Same H _ := s1.trans (t2.trans less1_sub)
    generalize upd H1 W1 (.lst v0) = H2 at t2 w2 s02 ⊢
    have xp := size_pos x
    refine ⟨_, rfl, _, _, rfl, rfl, ?_⟩
    refine ⟨_, rfl, _, _, rfl, rfl, _, rfl, ?_⟩
    refine ite2 (fun h => ?_) (fun h => ?_)
    · have h' : (12 : Int) < (sz : Int) + 1 := of_decide_eq_true h
      have := q H2 s02
      rw [decide_eq_false (fun z => by have := eq.mpr z; omega)] at this
      exact iteT (gR _ _ this)
    have h' : sz + 1 ≤ 12 := by have z : ¬ ((12 : Int) < (sz : Int) + 1) := of_decide_eq_false (Bool.eq_false_iff.mpr h); omega
    refine ⟨_, rfl, u, x, rfl, Ru.mono (t2.trans less1_sub), smx, fun H3 s3 => ⟨_, rfl, ?_⟩⟩
    have s03 := s02.trans s3
    cases c : pointD x with
    | false =>
      have := q H3 s03
      rw [decide_eq_false (fun z => by have := eq.mpr z; rw [size_no c] at this; omega)] at this
      exact iteT (gR _ _ this)
    | true =>
      refine iteF ?_
      obtain ⟨wd, r, rfl, k1, k2, es⟩ := point_shape c
      have Rx : Rep (less1 H3 W1) (.tup (.str wd :: r)) u := Ru.mono (t2.trans (less1_same s3))
      obtain ⟨a, us, rfl, ha, rs⟩ := Rep.tup_inv Rx
      simp only [Reps] at rs
      obtain ⟨y, ur, rfl, R0, ru⟩ := rs
      obtain rfl : y = .str wd := R0
      have hl := ru.length
      have w3 := s3 _ _ w2
      have lk : (kids wd ur).length ≤ 2 := kids_len (fun z => by rw [hl]; exact k1 z) (fun z => by rw [hl]; exact k2 z)
      have lv : v0.length ≤ 12 := by rw [Ra.length]; omega
      refine ⟨_, rfl, .inl ⟨rfl, _, SqL.of w3⟩, _, rfl, a, wd, ur, rfl, less1_sub _ _ ha, fun z => by rw [hl]; exact k1 z, fun z => by rw [hl]; exact k2 z, fun l hl4 => ?_⟩
      have q4 := same_new hl4 (.lst (kids wd ur))
      refine ⟨W1, l, _, _, rfl, rfl, q4 _ _ w3, upd_same, by rw [sizeLine_eq]; omega, ?_⟩
      have t5 : Same (less1 H3 W1) (less1 (upd (upd H3 l (.lst (kids wd ur))) W1 (.lst (v0 ++ kids wd ur))) W1) := (less1_same q4).trans l1_upd
      have t15 := t2.trans ((less1_same s3).trans t5)
      refine gD (12 - (sz + 1)) _ _ (by omega) ⟨_, sz + 1, w0 ++ kids wd r, v0 ++ kids wd ur, rfl, s1.trans t15, upd_same, Reps.append (Ra.mono t15) ((kids_reps ru).mono t5), smalls_app sm0 (kids_small (by simp only [Dv.small, smalls, Bool.and_eq_true] at smx; exact smx.1.2)), ?_, rfl, h', ?_⟩
      · rw [← eq, es, List.map_append, List.sum_append]
        constructor <;> intro z <;> omega
      · have := kids_len (α := Dv) k1 k2
        rw [List.length_append]; omega
end
end K21
set_option maxHeartbeats 1000000
namespace K21
open PySem L2 KB XB
abbrev s_is_below : Stmt := top 16
abbrev s_is_def_name : Stmt := top 23
abbrev s_is_few : Stmt := top 24
abbrev s_fits : Stmt := top 25
def belowD (b : Int) : Dv → Bool
  | .int i => decide (0 ≤ i) && decide (i < b)
  | _ => false
def fewD (b : Int) : Dv → Bool
  | .tup ds => decide (b ≤ (ds.length : Int)) && decide ((ds.length : Int) ≤ 4)
  | _ => false
def reckB (x : Str) : Bool := inV (.str x) (reck.map V.str)
def wordB (x : Str) : Bool := WT.any fun p => decide (p.1 = x)
def defD : Dv → Bool
  | .str x => nmB x && (!wordB x && !reckB x)
  | _ => false
def reckD : Dv → Bool
  | .str x => reckB x
  | _ => false
def fitD : So → Dv → Bool
  | .n, d => belowD 1000000000000 d
  | .x, d => nameD d
  | .y, d => nameD d
  | .l, d => slD d
  | .k, d => decide (sizeD d ≤ 12)
  | .w, d => reckD d
  | .f, d => defD d
  | .a, d => fewD 0 d
  | .r, d => fewD 1 d
  | .e, _ => true
def spBelow : Sp := fun vs H Q _ => ∃ (v : V) (d : Dv) (b : Int), vs = [v, .int b] ∧ Rep H d v ∧ ∀ H', Same H H' → Q (.bl (belowD b d)) H'
def spFew : Sp := fun vs H Q _ => ∃ (v : V) (d : Dv) (b : Int), vs = [v, .int b] ∧ Rep H d v ∧ ∀ H', Same H H' → Q (.bl (fewD b d)) H'
def spFits : Sp := fun vs H Q _ => ∃ (s : So) (v : V) (d : Dv), vs = [.str (srt s), v] ∧ Rep H d v ∧ d.small = true ∧ ∀ H', Same H H' → Q (.bl (fitD s d)) H'
section
variable {P : Program} {w : World} {K : PySem.W.Frag} {mg : Str → Option Value} {base : Heap}
theorem sc_is_below : FnScope ["thing", "bound"] ["thing", "bound"] (defScope s_is_below) := ⟨rfl, rfl, rfl, by decide +kernel, rfl, by decide +kernel, by decide +kernel⟩
theorem ok_is_below {f : Addr} {fd : FuncData} {k : Nat} (F : Fun K "is_below" "is_below" s_is_below f fd) (T : Txt K mg) (Dis_whole : Def P w K mg base k "is_whole" ["thing"] (spD wholeD)) : FnOk P w K mg base CX0 (k + 1) f fd ["thing", "bound"] spBelow := by
  refine F.ok sc_is_below (fun vs H Q E h => ?_) (fun cdv A outer s H vs Q E hr h => ?_)
  · obtain ⟨v, d, b, rfl, _⟩ := h
    rfl
  obtain ⟨v, d, b, rfl, R, q⟩ := h
  refine ⟨_, (@pss_one _ _ _ (@ps_ret _ _ _ _ (@pe_and _ _ _ _ _ _ _ (@pe_def _ _ _ _ _ _ _ _ _ _ Dis_whole hr rfl (@pa_cons _ _ _ _ _ (@pv _ 0 _ _ (by rfl) (by first | exact Or.inl rfl | exact Or.inr (Or.inl rfl) | exact Or.inr (Or.inr rfl)) (by decide) (by decide)) (@pa_nil _) (by rfl)) (by decide) (by rfl) (by rfl)) (@pe_one _ _ _ _ _ (@pe_chain _ _ _ _ _ _ _ _ _ _ _ _ op_le op_lt (@pe_int _ _ _ _) (@pv _ 0 _ _ (by rfl) (by first | exact Or.inl rfl | exact Or.inr (Or.inl rfl) | exact Or.inr (Or.inr rfl)) (by decide) (by decide)) (@pv _ 1 _ _ (by rfl) (by first | exact Or.inl rfl | exact Or.inr (Or.inl rfl) | exact Or.inr (Or.inr rfl)) (by decide) (by decide)) (by with_unfolding_all rfl)))))), ?_⟩
  refine ⟨_, rfl, v, d, rfl, R, fun H1 s1 => ⟨_, rfl, ?_⟩⟩
  have qq := q H1 s1
  cases d with
  | int i =>
    obtain rfl : v = .int i := R
    refine iteT ⟨_, rfl, _, _, rfl, rfl, _, rfl, ?_⟩
    have qq' : Q (.bl (decide (0 ≤ i) && decide (i < b))) H1 := qq
    by_cases h : 0 ≤ i
    · rw [decide_eq_true h] at qq' ⊢
      exact iteT ⟨_, rfl, _, _, rfl, rfl, qq'⟩
    · rw [decide_eq_false h] at qq' ⊢
      exact iteF qq'
  | _ => exact iteF qq
theorem sc_is_few : FnScope ["thing", "least"] ["thing", "least"] (defScope s_is_few) := ⟨rfl, rfl, rfl, by decide +kernel, rfl, by decide +kernel, by decide +kernel⟩
theorem ok_is_few {f : Addr} {fd : FuncData} (F : Fun K "is_few" "is_few" s_is_few f fd) (T : Txt K mg) : FnOk P w K mg base CX0 1 f fd ["thing", "least"] spFew := by
  refine F.ok sc_is_few (fun vs H Q E h => ?_) (fun cdv A outer s H vs Q E hr h => ?_)
  · obtain ⟨v, d, b, rfl, _⟩ := h
    rfl
  obtain ⟨v, d, b, rfl, R, q⟩ := h
  refine ⟨_, (@pss_one _ _ _ (@ps_ret _ _ _ _ (@pe_and _ _ _ _ _ _ _ (@pe_callB _ _ _ _ _ _ _ _ _ call_isi rfl T.isinstance (by decide +kernel) (@pa_cons _ _ _ _ _ (@pv _ 0 _ _ (by rfl) (by first | exact Or.inl rfl | exact Or.inr (Or.inl rfl) | exact Or.inr (Or.inr rfl)) (by decide) (by decide)) (@pa_cons _ _ _ _ _ (@pe_bltn _ _ (.ty "tuple") _ _ rfl T.tuple (by decide +kernel) rfl (by decide) (by decide)) (@pa_nil _) (by rfl)) (by rfl)) (by decide) (by decide) (by rfl) (by rfl)) (@pe_one _ _ _ _ _ (@pe_chain _ _ _ _ _ _ _ _ _ _ _ _ op_le op_le (@pv _ 1 _ _ (by rfl) (by first | exact Or.inl rfl | exact Or.inr (Or.inl rfl) | exact Or.inr (Or.inr rfl)) (by decide) (by decide)) (@pe_callB _ _ _ _ _ _ _ _ _ call_len_seq rfl T.len (by decide +kernel) (@pa_cons _ _ _ _ _ (@pv _ 0 _ _ (by rfl) (by first | exact Or.inl rfl | exact Or.inr (Or.inl rfl) | exact Or.inr (Or.inr rfl)) (by decide) (by decide)) (@pa_nil _) (by rfl)) (by decide) (by decide) (by rfl) (by rfl)) (T.g_MOST_THINGS rfl) (by with_unfolding_all rfl)))))), ?_⟩
  have qq := q H (Same.refl H)
  refine ⟨_, rfl, v, _, _, _, rfl, R.ty, kit_tuple K d, _, rfl, ?_⟩
  cases d with
  | tup ds =>
    obtain ⟨a, vs, rfl, ha, rs⟩ := Rep.tup_inv R
    have hl := rs.length
    refine iteT ⟨_, rfl, _, rfl, a, vs, rfl, .inr (SqT.of ha), _, _, rfl, rfl, _, rfl, ?_⟩
    have qq' : Q (.bl (decide (b ≤ (ds.length : Int)) && decide ((ds.length : Int) ≤ 4))) H := qq
    rw [← hl] at qq'
    by_cases h : b ≤ (vs.length : Int)
    · rw [decide_eq_true h] at qq' ⊢
      exact iteT ⟨_, _, rfl, rfl, qq'⟩
    · rw [decide_eq_false h] at qq' ⊢
      exact iteF qq'
  | _ => exact iteF qq
theorem sc_is_def_name : FnScope ["thing"] ["thing"] (defScope s_is_def_name) := ⟨rfl, rfl, rfl, by decide +kernel, rfl, by decide +kernel, by decide +kernel⟩
theorem ok_is_def_name {f gS gR : Addr} {fd : FuncData} {k : Nat} (F : Fun K "is_def_name" "is_def_name" s_is_def_name f fd) (T : Txt K mg) (S : Shp P w K gS) (GS : mg "SHAPES" = some (.ref gS)) (GR : mg "RECKONS" = some (.ref gR)) (hR : ∀ H, SqT K H gR (reck.map V.str)) (Dis_name : Def P w K mg base k "is_name" ["thing"] (spS nameD)) : FnOk P w K mg base CX0 (k + 1) f fd ["thing"] (spS defD) := by
  refine F.ok sc_is_def_name (fun vs H Q E h => ?_) (fun cdv A outer s H vs Q E hr h => ?_)
  · obtain ⟨v, d, rfl, _⟩ := h
    rfl
  obtain ⟨v, d, rfl, R, sm, q⟩ := h
  obtain ⟨kvs, FS, _, hS⟩ := S.ex
  refine ⟨_, (@pss_one _ _ _ (@ps_ret _ _ _ _ (@pe_and _ _ _ _ _ _ _ (@pe_def _ _ _ _ _ _ _ _ _ _ Dis_name hr rfl (@pa_cons _ _ _ _ _ (@pv _ 0 _ _ (by rfl) (by first | exact Or.inl rfl | exact Or.inr (Or.inl rfl) | exact Or.inr (Or.inr rfl)) (by decide) (by decide)) (@pa_nil _) (by rfl)) (by decide) (by rfl) (by rfl)) (@pe_and _ _ _ _ _ _ _ (@pe_cmpR _ _ _ _ _ _ _ _ (op_notInF FS) (@pv _ 0 _ _ (by rfl) (by first | exact Or.inl rfl | exact Or.inr (Or.inl rfl) | exact Or.inr (Or.inr rfl)) (by decide) (by decide)) (@pe_glob _ _ (.ref gS) _ _ rfl GS rfl (by decide)) (by with_unfolding_all rfl)) (@pe_one _ _ _ _ _ (@pe_cmpR _ _ _ _ _ _ _ _ op_notIn_seq (@pv _ 0 _ _ (by rfl) (by first | exact Or.inl rfl | exact Or.inr (Or.inl rfl) | exact Or.inr (Or.inr rfl)) (by decide) (by decide)) (@pe_glob _ _ (.ref gR) _ _ rfl GR rfl (by decide)) (by with_unfolding_all rfl))))))), ?_⟩
  refine ⟨_, rfl, v, d, rfl, R, sm, fun H1 s1 => ⟨_, rfl, ?_⟩⟩
  have qq := q H1 s1
  cases d with
  | str x =>
    obtain rfl : v = .str x := R
    have qq' : Q (.bl (nmB x && (!wordB x && !reckB x))) H1 := qq
    show if nmB x = true then _ else _
    cases hn : nmB x with
    | false => rw [hn] at qq'; exact iteF qq'
    | true =>
      rw [hn] at qq'
      refine iteT ⟨_, rfl, x, rfl, rfl, _, rfl, ?_⟩
      rw [hS x]
      show if xor true (wordB x) = true then _ else _
      cases hw : wordB x with
      | true => rw [hw] at qq'; exact iteF qq'
      | false =>
        rw [hw] at qq'
        exact iteT ⟨_, rfl, gR, _, rfl, .inr (hR _), rfl, by decide +kernel, qq'⟩
  | _ => exact iteF qq
theorem sc_fits : FnScope ["sort", "thing"] ["sort", "thing"] (defScope s_fits) := ⟨rfl, rfl, rfl, by decide +kernel, rfl, by decide +kernel, by decide +kernel⟩
theorem ok_fits {f gR : Addr} {fd : FuncData} {k : Nat} (F : Fun K "fits" "fits" s_fits f fd) (T : Txt K mg) (GR : mg "RECKONS" = some (.ref gR)) (hR : ∀ H, SqT K H gR (reck.map V.str)) (Dis_below : Def P w K mg base k "is_below" ["thing", "bound"] spBelow) (Dis_name : Def P w K mg base k "is_name" ["thing"] (spS nameD)) (Dis_small_length : Def P w K mg base k "is_small_length" ["thing"] (spS slD)) (Dis_kind : Def P w K mg base k "is_kind" ["thing"] spIsKind) (Dis_def_name : Def P w K mg base k "is_def_name" ["thing"] (spS defD)) (Dis_few : Def P w K mg base k "is_few" ["thing", "least"] spFew) : FnOk P w K mg base CX0 (k + 1) f fd ["sort", "thing"] spFits := by
  refine F.ok sc_fits (fun vs H Q E h => ?_) (fun cdv A outer s H vs Q E hr h => ?_)
  · obtain ⟨s, v, d, rfl, _⟩ := h
    rfl
  obtain ⟨so, v, d, rfl, R, sm, q⟩ := h
  refine ⟨_, (@pss_cons _ _ _ _ _ (@ps_if _ _ _ _ _ _ _ _ (@pt_cmpR _ _ _ _ _ _ _ _ op_eq (@pv _ 0 _ _ (by rfl) (by first | exact Or.inl rfl | exact Or.inr (Or.inl rfl) | exact Or.inr (Or.inr rfl)) (by decide) (by decide)) (@pe_str _ _ _ _) (nomark _)) (@pss_one _ _ _ (@ps_ret _ _ _ _ (@pe_def _ _ _ _ _ _ _ _ _ _ Dis_below hr rfl (@pa_cons _ _ _ _ _ (@pv _ 1 _ _ (by rfl) (by first | exact Or.inl rfl | exact Or.inr (Or.inl rfl) | exact Or.inr (Or.inr rfl)) (by decide) (by decide)) (@pa_cons _ _ _ _ _ (T.g_WHOLE_BOUND rfl) (@pa_nil _) (by rfl)) (by rfl)) (by decide) (by rfl) (by rfl)))) (@pss_nil _)) (@pss_cons _ _ _ _ _ (@ps_if _ _ _ _ _ _ _ _ (@pt_cmpR _ _ _ _ _ _ _ _ op_eq (@pv _ 0 _ _ (by rfl) (by first | exact Or.inl rfl | exact Or.inr (Or.inl rfl) | exact Or.inr (Or.inr rfl)) (by decide) (by decide)) (@pe_str _ _ _ _) (nomark _)) (@pss_one _ _ _ (@ps_ret _ _ _ _ (@pe_def _ _ _ _ _ _ _ _ _ _ Dis_name hr rfl (@pa_cons _ _ _ _ _ (@pv _ 1 _ _ (by rfl) (by first | exact Or.inl rfl | exact Or.inr (Or.inl rfl) | exact Or.inr (Or.inr rfl)) (by decide) (by decide)) (@pa_nil _) (by rfl)) (by decide) (by rfl) (by rfl)))) (@pss_nil _)) (@pss_cons _ _ _ _ _ (@ps_if _ _ _ _ _ _ _ _ (@pt_cmpR _ _ _ _ _ _ _ _ op_eq (@pv _ 0 _ _ (by rfl) (by first | exact Or.inl rfl | exact Or.inr (Or.inl rfl) | exact Or.inr (Or.inr rfl)) (by decide) (by decide)) (@pe_str _ _ _ _) (nomark _)) (@pss_one _ _ _ (@ps_ret _ _ _ _ (@pe_def _ _ _ _ _ _ _ _ _ _ Dis_small_length hr rfl (@pa_cons _ _ _ _ _ (@pv _ 1 _ _ (by rfl) (by first | exact Or.inl rfl | exact Or.inr (Or.inl rfl) | exact Or.inr (Or.inr rfl)) (by decide) (by decide)) (@pa_nil _) (by rfl)) (by decide) (by rfl) (by rfl)))) (@pss_nil _)) (@pss_cons _ _ _ _ _ (@ps_if _ _ _ _ _ _ _ _ (@pt_cmpR _ _ _ _ _ _ _ _ op_eq (@pv _ 0 _ _ (by rfl) (by first | exact Or.inl rfl | exact Or.inr (Or.inl rfl) | exact Or.inr (Or.inr rfl)) (by decide) (by decide)) (@pe_str _ _ _ _) (nomark _)) (@pss_one _ _ _ (@ps_ret _ _ _ _ (@pe_def _ _ _ _ _ _ _ _ _ _ Dis_kind hr rfl (@pa_cons _ _ _ _ _ (@pv _ 1 _ _ (by rfl) (by first | exact Or.inl rfl | exact Or.inr (Or.inl rfl) | exact Or.inr (Or.inr rfl)) (by decide) (by decide)) (@pa_nil _) (by rfl)) (by decide) (by rfl) (by rfl)))) (@pss_nil _)) (@pss_cons _ _ _ _ _ (@ps_if _ _ _ _ _ _ _ _ (@pt_cmpR _ _ _ _ _ _ _ _ op_eq (@pv _ 0 _ _ (by rfl) (by first | exact Or.inl rfl | exact Or.inr (Or.inl rfl) | exact Or.inr (Or.inr rfl)) (by decide) (by decide)) (@pe_str _ _ _ _) (nomark _)) (@pss_one _ _ _ (@ps_ret _ _ _ _ (@pe_and _ _ _ _ _ _ _ (@pe_callB _ _ _ _ _ _ _ _ _ call_isi rfl T.isinstance (by decide +kernel) (@pa_cons _ _ _ _ _ (@pv _ 1 _ _ (by rfl) (by first | exact Or.inl rfl | exact Or.inr (Or.inl rfl) | exact Or.inr (Or.inr rfl)) (by decide) (by decide)) (@pa_cons _ _ _ _ _ (@pe_bltn _ _ (.ty "str") _ _ rfl T.str (by decide +kernel) rfl (by decide) (by decide)) (@pa_nil _) (by rfl)) (by rfl)) (by decide) (by decide) (by rfl) (by rfl)) (@pe_one _ _ _ _ _ (@pe_cmpR _ _ _ _ _ _ _ _ op_in_seq (@pv _ 1 _ _ (by rfl) (by first | exact Or.inl rfl | exact Or.inr (Or.inl rfl) | exact Or.inr (Or.inr rfl)) (by decide) (by decide)) (@pe_glob _ _ (.ref gR) _ _ rfl GR rfl (by decide)) (by with_unfolding_all rfl)))))) (@pss_nil _)) (@pss_cons _ _ _ _ _ (@ps_if _ _ _ _ _ _ _ _ (@pt_cmpR _ _ _ _ _ _ _ _ op_eq (@pv _ 0 _ _ (by rfl) (by first | exact Or.inl rfl | exact Or.inr (Or.inl rfl) | exact Or.inr (Or.inr rfl)) (by decide) (by decide)) (@pe_str _ _ _ _) (nomark _)) (@pss_one _ _ _ (@ps_ret _ _ _ _ (@pe_def _ _ _ _ _ _ _ _ _ _ Dis_def_name hr rfl (@pa_cons _ _ _ _ _ (@pv _ 1 _ _ (by rfl) (by first | exact Or.inl rfl | exact Or.inr (Or.inl rfl) | exact Or.inr (Or.inr rfl)) (by decide) (by decide)) (@pa_nil _) (by rfl)) (by decide) (by rfl) (by rfl)))) (@pss_nil _)) (@pss_cons _ _ _ _ _ (@ps_if _ _ _ _ _ _ _ _ (@pt_cmpR _ _ _ _ _ _ _ _ op_eq (@pv _ 0 _ _ (by rfl) (by first | exact Or.inl rfl | exact Or.inr (Or.inl rfl) | exact Or.inr (Or.inr rfl)) (by decide) (by decide)) (@pe_str _ _ _ _) (nomark _)) (@pss_one _ _ _ (@ps_ret _ _ _ _ (@pe_def _ _ _ _ _ _ _ _ _ _ Dis_few hr rfl (@pa_cons _ _ _ _ _ (@pv _ 1 _ _ (by rfl) (by first | exact Or.inl rfl | exact Or.inr (Or.inl rfl) | exact Or.inr (Or.inr rfl)) (by decide) (by decide)) (@pa_cons _ _ _ _ _ (@pe_int _ _ _ _) (@pa_nil _) (by rfl)) (by rfl)) (by decide) (by rfl) (by rfl)))) (@pss_nil _)) (@pss_cons _ _ _ _ _ (@ps_if _ _ _ _ _ _ _ _ (@pt_cmpR _ _ _ _ _ _ _ _ op_eq (@pv _ 0 _ _ (by rfl) (by first | exact Or.inl rfl | exact Or.inr (Or.inl rfl) | exact Or.inr (Or.inr rfl)) (by decide) (by decide)) (@pe_str _ _ _ _) (nomark _)) (@pss_one _ _ _ (@ps_ret _ _ _ _ (@pe_def _ _ _ _ _ _ _ _ _ _ Dis_few hr rfl (@pa_cons _ _ _ _ _ (@pv _ 1 _ _ (by rfl) (by first | exact Or.inl rfl | exact Or.inr (Or.inl rfl) | exact Or.inr (Or.inr rfl)) (by decide) (by decide)) (@pa_cons _ _ _ _ _ (@pe_int _ _ _ _) (@pa_nil _) (by rfl)) (by rfl)) (by decide) (by rfl) (by rfl)))) (@pss_nil _)) (@pss_one _ _ _ (@ps_ret _ _ _ _ (@pe_bl _ _ _ _))))))))))), ?_⟩
  refine ⟨_, rfl, rfl, _, rfl, ite2 (fun h => ?_) (fun h1 => ?_)⟩
  · have e := (srt_n so).mp (of_decide_eq_true h)
    subst e
    exact ⟨_, rfl, v, d, _, rfl, R, q⟩
  refine ⟨_, rfl, rfl, _, rfl, ite2 (fun h => ?_) (fun h2 => ?_)⟩
  · rcases (srt_x so).mp (of_decide_eq_true h) with e | e
    · subst e; exact ⟨_, rfl, v, d, rfl, R, sm, q⟩
    · subst e; exact ⟨_, rfl, v, d, rfl, R, sm, q⟩
  refine ⟨_, rfl, rfl, _, rfl, ite2 (fun h => ?_) (fun h3 => ?_)⟩
  · have e := (srt_l so).mp (of_decide_eq_true h)
    subst e
    exact ⟨_, rfl, v, d, rfl, R, sm, q⟩
  refine ⟨_, rfl, rfl, _, rfl, ite2 (fun h => ?_) (fun h4 => ?_)⟩
  · have e := (srt_k so).mp (of_decide_eq_true h)
    subst e
    exact ⟨_, rfl, v, d, rfl, R, sm, q⟩
  refine ⟨_, rfl, rfl, _, rfl, ite2 (fun h => ?_) (fun h5 => ?_)⟩
  · have e := (srt_w so).mp (of_decide_eq_true h)
    subst e
    refine ⟨_, rfl, v, _, _, _, rfl, R.ty, kit_str K d, _, rfl, ?_⟩
    have qq := q H (Same.refl H)
    cases d with
    | str x =>
      obtain rfl : v = .str x := R
      exact iteT ⟨_, rfl, gR, _, rfl, .inr (hR _), rfl, by decide +kernel, qq⟩
    | _ => exact iteF qq
  refine ⟨_, rfl, rfl, _, rfl, ite2 (fun h => ?_) (fun h6 => ?_)⟩
  · have e := (srt_f so).mp (of_decide_eq_true h)
    subst e
    exact ⟨_, rfl, v, d, rfl, R, sm, q⟩
  refine ⟨_, rfl, rfl, _, rfl, ite2 (fun h => ?_) (fun h7 => ?_)⟩
  · have e := (srt_a so).mp (of_decide_eq_true h)
    subst e
    exact ⟨_, rfl, v, d, _, rfl, R, q⟩
  refine ⟨_, rfl, rfl, _, rfl, ite2 (fun h => ?_) (fun h8 => ?_)⟩
  · have e := (srt_r so).mp (of_decide_eq_true h)
    subst e
    exact ⟨_, rfl, v, d, _, rfl, R, q⟩
  have e : so = .e := by
    cases so with
    | e => rfl
    | n => exact absurd (decide_eq_true ((srt_n .n).mpr rfl)) h1
    | x => exact absurd (decide_eq_true ((srt_x .x).mpr (.inl rfl))) h2
    | y => exact absurd (decide_eq_true ((srt_x .y).mpr (.inr rfl))) h2
    | l => exact absurd (decide_eq_true ((srt_l .l).mpr rfl)) h3
    | k => exact absurd (decide_eq_true ((srt_k .k).mpr rfl)) h4
    | w => exact absurd (decide_eq_true ((srt_w .w).mpr rfl)) h5
    | f => exact absurd (decide_eq_true ((srt_f .f).mpr rfl)) h6
    | a => exact absurd (decide_eq_true ((srt_a .a).mpr rfl)) h7
    | r => exact absurd (decide_eq_true ((srt_r .r).mpr rfl)) h8
  subst e
  exact q H (Same.refl H)
end
end K21
set_option maxHeartbeats 1000000
namespace K21
open PySem L2 KB XB
abbrev s_is_node : Stmt := top 26
abbrev s_parts_of : Stmt := top 27
def spParts : Sp := fun vs H Q _ => ∃ (v : V) (d : Dv) (G : Hp), vs = [v] ∧ Same G H ∧ Rep G d v ∧ Node d ∧ ∀ (H' : Hp) (l : Addr) (us : List V), Same H H' → H l = none → H' l = some (.lst us) → Reps G (partsD d) us → Q (.ref l) H'
def okF : List So → List Dv → Bool
  | [], [] => true
  | s :: ss, d :: ds => fitD s d && okF ss ds
  | _, _ => false
def foldB : List Dv → Bool
  | .str x :: _ :: .str y :: _ => decide (x ≠ y)
  | _ => false
def nodeD : Dv → Bool
  | .tup (.str w :: ds) => match WT.find? (fun q => decide (q.1 = w)) with
    | some p => okF p.2.2 ds && (decide (w ≠ "fold") || foldB ds)
    | none => false
  | _ => false
theorem node_word {d : Dv} (h : wordD d = false) : nodeD d = false := by
  match d, h with
  | .tup (.str x :: r), h => cases h
  | .tup [], _ => rfl
  | .tup (.non :: r), _ => rfl
  | .tup (.bl _ :: r), _ => rfl
  | .tup (.int _ :: r), _ => rfl
  | .tup (.tup _ :: r), _ => rfl
  | .tup (.lst _ :: r), _ => rfl
  | .tup (.dct :: r), _ => rfl
  | .non, _ => rfl
  | .bl _, _ => rfl
  | .int _, _ => rfl
  | .str _, _ => rfl
  | .lst _, _ => rfl
  | .dct, _ => rfl
theorem node_no {x : Str} {ds : List Dv} (h : wordB x = false) : nodeD (.tup (.str x :: ds)) = false := by
  have e : WT.find? (fun q => decide (q.1 = x)) = none := by
    rw [List.find?_eq_none]
    intro p hp
    have := List.any_eq_false.mp h p hp
    exact this
  show (match WT.find? (fun q => decide (q.1 = x)) with | some p' => okF p'.2.2 ds && (decide (x ≠ "fold") || foldB ds) | none => false) = _
  rw [e]
theorem word_wt {x : Str} (h : wordB x = true) : ∃ p ∈ WT, p.1 = x := by
  obtain ⟨p, hp, e⟩ := List.any_eq_true.mp h
  exact ⟨p, hp, of_decide_eq_true e⟩
theorem node_of {p : Wd} (hp : p ∈ WT) (ds : List Dv) : nodeD (.tup (.str p.1 :: ds)) = (okF p.2.2 ds && (decide (p.1 ≠ "fold") || foldB ds)) := by
  show (match WT.find? (fun q => decide (q.1 = p.1)) with | some p' => okF p'.2.2 ds && (decide (p.1 ≠ "fold") || foldB ds) | none => false) = _
  rw [find_nd wt_nd hp]
theorem okF_len : ∀ {ss : List So} {ds : List Dv}, okF ss ds = true → ds.length = ss.length
  | [], [], _ => rfl
  | s :: ss, d :: ds, h => by
    simp only [okF, Bool.and_eq_true] at h
    rw [List.length_cons, List.length_cons, okF_len h.2]
  | [], _ :: _, h => by cases h
  | _ :: _, [], h => by cases h
theorem okF_drop {ss : List So} {ds : List Dv} {i : Nat} {s : So} {d : Dv} (hs : ss[i]? = some s) (hd : ds[i]? = some d) : okF (ss.drop i) (ds.drop i) = (fitD s d && okF (ss.drop (i + 1)) (ds.drop (i + 1))) := by
  obtain ⟨h1, rfl⟩ := List.getElem?_eq_some_iff.mp hs
  obtain ⟨h2, rfl⟩ := List.getElem?_eq_some_iff.mp hd
  rw [List.drop_eq_getElem_cons h1, List.drop_eq_getElem_cons h2]
  rfl
theorem few_tup {b : Int} {d : Dv} (h : fewD b d = true) : ∃ es, d = .tup es ∧ b ≤ (es.length : Int) ∧ es.length ≤ 4 := by
  cases d with
  | tup es =>
    simp only [fewD, Bool.and_eq_true, decide_eq_true_eq] at h
    exact ⟨es, rfl, h.1, by omega⟩
  | _ => cases h
theorem okF_F2 : ∀ {ss : List So} {ds : List Dv}, okF ss ds = true → F2 (Fld (fun _ => True) (fun _ _ => True)) ss ds
  | [], [], _ => .nil
  | s :: ss, d :: ds, h => by
    simp only [okF, Bool.and_eq_true] at h
    refine .cons ?_ (okF_F2 h.2)
    cases s with
    | a => obtain ⟨es, rfl, _, h4⟩ := few_tup (b := 0) h.1; exact ⟨es, rfl, h4, fun _ _ => trivial⟩
    | r => obtain ⟨es, rfl, h1, h4⟩ := few_tup (b := 1) h.1; exact ⟨es, rfl, by omega, h4, fun _ _ => trivial⟩
    | e => trivial
    | _ => trivial
  | [], _ :: _, h => by cases h
  | _ :: _, [], h => by cases h
theorem node_node {d : Dv} (h : nodeD d = true) : Node d := by
  match d, h with
  | .tup (.str x :: ds), h =>
    cases hw : wordB x with
    | false => rw [node_no hw] at h; cases h
    | true =>
      obtain ⟨p, hp, rfl⟩ := word_wt hw
      rw [node_of hp, Bool.and_eq_true] at h
      exact ⟨p, ds, hp, rfl, okF_F2 h.1⟩
  | .tup [], h => cases h
  | .tup (.non :: r), h => cases h
  | .tup (.bl _ :: r), h => cases h
  | .tup (.int _ :: r), h => cases h
  | .tup (.tup _ :: r), h => cases h
  | .tup (.lst _ :: r), h => cases h
  | .tup (.dct :: r), h => cases h
  | .non, h => cases h
  | .bl _, h => cases h
  | .int _, h => cases h
  | .str _, h => cases h
  | .lst _, h => cases h
  | .dct, h => cases h
theorem five {ds : List Dv} (h : ds.length = 5) : ∃ a b c d e, ds = [a, b, c, d, e] := by
  match ds, h with
  | [a, b, c, d, e], _ => exact ⟨a, b, c, d, e, rfl⟩
theorem fold_wt : ∀ p ∈ WT, p.1 = "fold" → p.2.2 = [.x, .l, .y, .e, .e] := by decide +kernel
theorem name_str {d : Dv} (h : nameD d = true) : ∃ x, d = .str x := by
  cases d with
  | str x => exact ⟨x, rfl⟩
  | _ => cases h
section
variable {P : Program} {w : World} {K : PySem.W.Frag} {mg : Str → Option Value} {base : Heap}
theorem sc_parts_of : FnScope ["node", "parts", "sort", "given"] ["node"] (defScope s_parts_of) := ⟨rfl, rfl, rfl, by decide +kernel, rfl, by decide +kernel, by decide +kernel⟩
theorem ok_parts_of {f gS : Addr} {fd : FuncData} (F : Fun K "parts_of" "parts_of" s_parts_of f fd) (T : Txt K mg) (S : Shp P w K gS) (GS : mg "SHAPES" = some (.ref gS)) : FnOk P w K mg base CX0 1 f fd ["node"] spParts := by
  have nd : (["node", "parts", "sort", "given"] : List Str).Nodup := sc_parts_of.nd
  refine F.ok sc_parts_of (fun vs H Q E h => ?_) (fun cdv A outer s H vs Q E hr h => ?_)
  · obtain ⟨v, d, G, rfl, _⟩ := h
    rfl
  obtain ⟨v, d, G, rfl, sG, R, ⟨p, ds, hp, rfl, hf⟩, q⟩ := h
  obtain ⟨kvs, FS, hS, _⟩ := S.ex
  obtain ⟨a, vs, rfl, haG, rs⟩ := Rep.tup_inv R
  obtain ⟨v0, ws, rfl, R0, rw'⟩ := reps_cons rs
  have ha := sG _ _ haG
  obtain rfl : v0 = .str p.1 := R0
  obtain ⟨b, hb, hbT⟩ := hS p hp
  have lds := hf.length
  have lws := rw'.length
  have h5 := wt_few' p hp
  refine ⟨_, (@pss_cons _ _ _ _ _ (@ps_set _ _ (1) _ _ _ _ nd rfl (Or.inl rfl) (@pe_lst _ _ _ _ (@pa_nil _)) (by rfl) (by first | exact .inl rfl | exact .inr rfl | assumption)) (@pss_cons _ _ _ _ _ (@ps_for _ _ _ _ _ _ _ _ PassesOwn.never rfl (@pi_zipTT _ _ _ _ _ _ _ _ _ rfl T.zip (@pa_cons _ _ _ _ _ (@pe_getF _ _ _ _ _ _ _ _ FS (@pe_glob _ _ (.ref gS) _ _ rfl GS rfl (by decide)) (@pe_ix _ _ _ _ _ _ _ ix_tup (@pv _ 0 _ _ (by rfl) (by first | exact Or.inl rfl | exact Or.inr (Or.inl rfl) | exact Or.inr (Or.inr rfl)) (by decide) (by decide)) (@pe_int _ _ _ _) (fun _ _ => rfl)) (fun _ _ => rfl)) (@pa_cons _ _ _ _ _ (@pe_slice _ _ _ _ _ _ _ _ _ _ sl_tupW (@pv _ 0 _ _ (by rfl) (by first | exact Or.inl rfl | exact Or.inr (Or.inl rfl) | exact Or.inr (Or.inr rfl)) (by decide) (by decide)) (@po_some _ _ _ (@pe_int _ _ _ _)) (@po_none _)) (@pa_nil _) (by rfl)) (by rfl)) (by rfl) (by rfl)) (@pg_tup _ _ _ _ _ _ rfl (@pgs_cons _ _ _ _ _ (@pg_name _ _ (2) _ nd rfl (Or.inl rfl) (by first | exact .inl rfl | exact .inr rfl | assumption)) (@pgs_cons _ _ _ _ _ (@pg_name _ _ (3) _ nd rfl (Or.inl rfl) (by first | exact .inl rfl | exact .inr rfl | assumption)) (@pgs_nil _) (by rfl)) (by rfl)) (by rfl) (by rfl)) (@pss_cons _ _ _ _ _ (@ps_if _ _ _ _ _ _ _ _ (@pt_cmpR _ _ _ _ _ _ _ _ op_eq (@pv _ 2 _ _ (by rfl) (by first | exact Or.inl rfl | exact Or.inr (Or.inl rfl) | exact Or.inr (Or.inr rfl)) (by decide) (by decide)) (@pe_str _ _ _ _) (nomark _)) (@pss_one _ _ _ (@ps_expr _ _ _ _ (@pe_bm _ _ _ _ _ _ _ _ _ _ _ _ PySem.F.plainAttrs_list PySem.F.slot_list_append PySem.F.type_list_append mt_append (@pv _ 1 _ _ (by rfl) (by first | exact Or.inl rfl | exact Or.inr (Or.inl rfl) | exact Or.inr (Or.inr rfl)) (by decide) (by decide)) (@pa_cons _ _ _ _ _ (@pv _ 3 _ _ (by rfl) (by first | exact Or.inl rfl | exact Or.inr (Or.inl rfl) | exact Or.inr (Or.inr rfl)) (by decide) (by decide)) (@pa_nil _) (by rfl)) (by rfl) (by rfl) (by rfl) (by rfl) (by rfl)) (by rfl))) (@pss_nil _)) (@pss_one _ _ _ (@ps_if _ _ _ _ _ _ _ _ (@PW.pt _ _ _ (@pw_or _ _ _ _ _ _ _ (@pt_cmpR _ _ _ _ _ _ _ _ op_eq (@pv _ 2 _ _ (by rfl) (by first | exact Or.inl rfl | exact Or.inr (Or.inl rfl) | exact Or.inr (Or.inr rfl)) (by decide) (by decide)) (@pe_str _ _ _ _) (nomark _)) (@pw_or1 _ _ _ _ (@pt_cmpR _ _ _ _ _ _ _ _ op_eq (@pv _ 2 _ _ (by rfl) (by first | exact Or.inl rfl | exact Or.inr (Or.inl rfl) | exact Or.inr (Or.inr rfl)) (by decide) (by decide)) (@pe_str _ _ _ _) (nomark _))))) (@pss_one _ _ _ (@ps_expr _ _ _ _ (@pe_bm _ _ _ _ _ _ _ _ _ _ _ _ PySem.F.plainAttrs_list PySem.F.slot_list_extend PySem.F.type_list_extend mt_extT (@pv _ 1 _ _ (by rfl) (by first | exact Or.inl rfl | exact Or.inr (Or.inl rfl) | exact Or.inr (Or.inr rfl)) (by decide) (by decide)) (@pa_cons _ _ _ _ _ (@pv _ 3 _ _ (by rfl) (by first | exact Or.inl rfl | exact Or.inr (Or.inl rfl) | exact Or.inr (Or.inr rfl)) (by decide) (by decide)) (@pa_nil _) (by rfl)) (by rfl) (by rfl) (by rfl) (by rfl) (by rfl)) (by rfl))) (@pss_nil _)))) (by intro _; rfl)) (@pss_one _ _ _ (@ps_ret _ _ _ _ (@pv _ 1 _ _ (by rfl) (by first | exact Or.inl rfl | exact Or.inr (Or.inl rfl) | exact Or.inr (Or.inr rfl)) (by decide) (by decide)))))), ?_⟩
  refine ⟨Nat.zero_le _, fun l hl => ?_⟩
  have q1 := same_new hl (.lst [])
  have l1 : upd H l (.lst []) l = some (.lst []) := upd_same
  generalize upd H l (.lst []) = H1 at q1 l1 ⊢
  refine gnm ?_
  dsimp only
  refine ⟨_, rfl, a, _, 0, .str p.1, rfl, rfl, SqT.of (q1 _ _ ha), atI_nat (j := 0) rfl, p.1, b, rfl, rfl, hb, ?_⟩
  refine ⟨_, rfl, 1, rfl, ?_⟩
  dsimp only [tNoPart]
  refine slW_one (q1 _ _ ha) fun H2 t s2 ht => ?_
  have ec : cutV (V.str p.1 :: ws) (some 1) none = ws := cut_fromA (V.str p.1 :: ws) 1
  rw [ec] at ht
  have s02 := q1.trans s2
  have l2 := s2 _ _ l1
  refine ⟨b, t, rfl, ⟨_, hbT _⟩, ⟨_, SqT.of ht⟩, for_zipTT_o (D := { nx := tRet (tVar 1) { nx := fun x H' => Q V.non H', rt := Q }, rt := Q }) (xs := p.2.2.map fun s => V.str (srt s)) (ys := ws) (fun i σ H' => ∃ (o2 o3 : Option V) (us : List V), σ = [some (.ref a), some (.ref l), o2, o3] ∧ Same H H' ∧ H' t = some (.tup ws) ∧ H' l = some (.lst us) ∧ Reps G (ptsD (p.2.2.take i) (ds.take i)) us ∧ us.length ≤ 4 * i) ⟨_, _, [], rfl, s02, ht, l2, by simp [ptsD, Reps], Nat.le_refl _⟩ (fun i σ H' ⟨_, _, _, _, _, h, _⟩ => ⟨hbT _, SqT.of h⟩) ?T1 ?_⟩
  case T1 =>
    rintro i x y σ H3 t3 D1 gR gD hx hy ⟨o2, o3, us, rfl, s3, ht3, l3, R3, lu⟩ hp3
    rw [List.getElem?_map] at hx
    obtain ⟨so, hso, rfl⟩ := Option.map_eq_some_iff.mp hx
    have hi : i < p.2.2.length := (List.getElem?_eq_some_iff.mp hso).1
    obtain ⟨d, hd, hfd⟩ := hf.get hso
    obtain ⟨y', hy', Ry⟩ := reps_getD rw' hd
    rw [hy] at hy'
    cases hy'
    have q4 := same_new hp3 (.tup [.str (srt so), y])
    have ht4 : upd H3 t3 (.tup [.str (srt so), y]) t3 = some (.tup [.str (srt so), y]) := upd_same
    have s4 := s3.trans q4
    have l4 := q4 _ _ l3
    have t4 := q4 _ _ ht3
    generalize upd H3 t3 (.tup [.str (srt so), y]) = H4 at ht4 s4 l4 t4 ⊢
    refine ⟨t3, _, rfl, SqT.of ht4, rfl, _, _, rfl, _, _, rfl, rfl, ?_⟩
    have put : ∀ (us' : List V), Reps G (ptD so d) us' → us'.length ≤ 4 → (∃ (o2 o3 : Option V) (us2 : List V), [some (V.ref a), some (.ref l), some (.str (srt so)), some y] = [some (.ref a), some (.ref l), o2, o3] ∧ Same H (upd H4 l (.lst (us ++ us'))) ∧ upd H4 l (.lst (us ++ us')) t = some (.tup ws) ∧ upd H4 l (.lst (us ++ us')) l = some (.lst us2) ∧ Reps G (ptsD (p.2.2.take (i + 1)) (ds.take (i + 1))) us2 ∧ us2.length ≤ 4 * (i + 1)) := fun us' Ru lu' => by
      refine ⟨_, _, us ++ us', rfl, fun g o e => ?_, ?_, upd_same, ?_, by rw [List.length_append]; omega⟩
      · rw [upd_ne (ne_of_none e hl)]; exact s4 g o e
      · rw [upd_ne (fun e => by rw [e, l4] at t4; cases t4)]; exact t4
      · rw [ptsD_take _ _ _ hso hd]
        exact Reps.append R3 Ru
    have same : ptD so d = [] → (∃ (o2 o3 : Option V) (us2 : List V), [some (V.ref a), some (.ref l), some (.str (srt so)), some y] = [some (.ref a), some (.ref l), o2, o3] ∧ Same H H4 ∧ H4 t = some (.tup ws) ∧ H4 l = some (.lst us2) ∧ Reps G (ptsD (p.2.2.take (i + 1)) (ds.take (i + 1))) us2 ∧ us2.length ≤ 4 * (i + 1)) := fun e => by
      refine ⟨_, _, us, rfl, s4, t4, l4, ?_, by omega⟩
      rw [ptsD_take _ _ _ hso hd, e, List.append_nil]
      exact R3
    replace put := fun us' h1 h2 => gD _ _ (put us' h1 h2)
    replace same := fun e => gD _ _ (same e)
    refine ⟨_, rfl, rfl, _, rfl, ite2 (fun h => ?_) (fun h => ?_)⟩
    · have e := (srt_e so).mp (of_decide_eq_true h)
      subst e
      refine ⟨_, rfl, .inl ⟨rfl, _, SqL.of l4⟩, _, rfl, l, _, _, rfl, rfl, l4, by rw [sizeLine_eq]; omega, ?_⟩
      have fin := put [y] (reps_one Ry) (by show 1 ≤ 4; decide)
      refine ⟨_, rfl, rfl, _, rfl, ite2 (fun h2 => absurd ((srt_a .e).mp (of_decide_eq_true h2)) (by decide)) (fun _ => ⟨_, rfl, rfl, _, rfl, ?_⟩)⟩
      rw [show decide (V.str (srt .e) = V.str "things") = false from decide_eq_false fun h2 => absurd ((srt_r .e).mp h2) (by decide)]
      exact iteF fin
    · have ne : so ≠ .e := fun e => h (decide_eq_true ((srt_e so).mpr e))
      by_cases har : so = .a ∨ so = .r
      · obtain ⟨es, rfl, l4e⟩ : ∃ es, d = .tup es ∧ es.length ≤ 4 := by
          rcases har with e | e
          · subst e; obtain ⟨es, h1, h2, _⟩ := hfd; exact ⟨es, h1, h2⟩
          · subst e; obtain ⟨es, h1, _, h2, _⟩ := hfd; exact ⟨es, h1, h2⟩
        have ek : ptD so (.tup es) = es := by rcases har with e | e <;> subst e <;> rfl
        obtain ⟨b2, zs, rfl, hb2, rz⟩ := Rep.tup_inv Ry
        have lz := rz.length
        refine tnx ?_
        dsimp only
        refine or_two (iteT ?_) fun qT => ?_
        · refine ⟨_, rfl, .inl ⟨rfl, _, SqL.of l4⟩, _, rfl, l, b2, _, zs, rfl, rfl, l4, SqT.of (s4 _ _ (sG _ _ hb2)), by rw [sizeLine_eq]; omega, put zs (by rw [ek]; exact rz) (by omega)⟩
        · rcases har with e | e
          · exact ⟨_, rfl, rfl, _, rfl, ite2 (fun _ => qT) (fun h2 => absurd (decide_eq_true ((srt_a so).mpr e)) h2)⟩
          · refine ⟨_, rfl, rfl, _, rfl, ite2 (fun _ => qT) (fun _ => ⟨_, rfl, rfl, _, rfl, ?_⟩)⟩
            rw [decide_eq_true ((srt_r so).mpr e)]
            exact qT
      · have na : so ≠ .a := fun e => har (.inl e)
        have nr : so ≠ .r := fun e => har (.inr e)
        refine tnx ⟨_, rfl, rfl, _, rfl, ite2 (fun h2 => absurd ((srt_a so).mp (of_decide_eq_true h2)) na) (fun _ => ⟨_, rfl, rfl, _, rfl, ?_⟩)⟩
        rw [show decide (V.str (srt so) = V.str "things") = false from decide_eq_false fun h2 => nr ((srt_r so).mp h2)]
        refine iteF (same ?_)
        cases so with
        | e => exact absurd rfl ne
        | a => exact absurd rfl na
        | r => exact absurd rfl nr
        | _ => rfl
  rintro σ H3 ⟨o2, o3, us, rfl, s3, ht3, l3, R3, lu⟩
  refine ⟨_, rfl, q H3 l us s3 hl l3 ?_⟩
  rw [List.length_map, Nat.min_eq_left (by omega), List.take_length, ← lds, List.take_length] at R3
  rw [parts_of hp]
  exact R3
theorem sc_is_node : FnScope ["thing", "shape", "sort", "given"] ["thing"] (defScope s_is_node) := ⟨rfl, rfl, rfl, by decide +kernel, rfl, by decide +kernel, by decide +kernel⟩
theorem ok_is_node {f gS : Addr} {fd : FuncData} {k : Nat} (F : Fun K "is_node" "is_node" s_is_node f fd) (T : Txt K mg) (S : Shp P w K gS) (GS : mg "SHAPES" = some (.ref gS)) (Dhas_word : Def P w K mg base k "has_word" ["thing"] (spD wordD)) (Dfits : Def P w K mg base k "fits" ["sort", "thing"] spFits) : FnOk P w K mg base CX0 (k + 1) f fd ["thing"] (spS nodeD) := by
  have nd : (["thing", "shape", "sort", "given"] : List Str).Nodup := sc_is_node.nd
  refine F.ok sc_is_node (fun vs H Q E h => ?_) (fun cdv A outer s H vs Q E hr h => ?_)
  · obtain ⟨v, d, rfl, _⟩ := h
    rfl
  obtain ⟨v, d, rfl, R, hsm, q⟩ := h
  obtain ⟨kvs, FS, hS, hS2⟩ := S.ex
  refine ⟨_, (@pss_cons _ _ _ _ _ (@ps_if _ _ _ _ _ _ _ _ (@PW.pt _ _ _ (@pw_or _ _ _ _ _ _ _ (@pt_not _ _ _ _ (@pt_val _ _ _ (@pe_def _ _ _ _ _ _ _ _ _ _ Dhas_word hr rfl (@pa_cons _ _ _ _ _ (@pv _ 0 _ _ (by rfl) (by first | exact Or.inl rfl | exact Or.inr (Or.inl rfl) | exact Or.inr (Or.inr rfl)) (by decide) (by decide)) (@pa_nil _) (by rfl)) (by decide) (by rfl) (by rfl)) (by intro _; rfl))) (@pw_or1 _ _ _ _ (@pt_cmpR _ _ _ _ _ _ _ _ (op_notInF FS) (@pe_ix _ _ _ _ _ _ _ ix_tup (@pv _ 0 _ _ (by rfl) (by first | exact Or.inl rfl | exact Or.inr (Or.inl rfl) | exact Or.inr (Or.inr rfl)) (by decide) (by decide)) (@pe_int _ _ _ _) (fun _ _ => rfl)) (@pe_glob _ _ (.ref gS) _ _ rfl GS rfl (by decide)) (by with_unfolding_all rfl))))) (@pss_one _ _ _ (@ps_ret _ _ _ _ (@pe_bl _ _ _ _))) (@pss_nil _)) (@pss_cons _ _ _ _ _ (@ps_set _ _ (1) _ _ _ _ nd rfl (Or.inl rfl) (@pe_getF _ _ _ _ _ _ _ _ FS (@pe_glob _ _ (.ref gS) _ _ rfl GS rfl (by decide)) (@pe_ix _ _ _ _ _ _ _ ix_tup (@pv _ 0 _ _ (by rfl) (by first | exact Or.inl rfl | exact Or.inr (Or.inl rfl) | exact Or.inr (Or.inr rfl)) (by decide) (by decide)) (@pe_int _ _ _ _) (fun _ _ => rfl)) (fun _ _ => rfl)) (by rfl) (by first | exact .inl rfl | exact .inr rfl | assumption)) (@pss_cons _ _ _ _ _ (@ps_if _ _ _ _ _ _ _ _ (@pt_cmpR _ _ _ _ _ _ _ _ op_ne (@pe_callB _ _ _ _ _ _ _ _ _ call_len_seq rfl T.len (by decide +kernel) (@pa_cons _ _ _ _ _ (@pv _ 0 _ _ (by rfl) (by first | exact Or.inl rfl | exact Or.inr (Or.inl rfl) | exact Or.inr (Or.inr rfl)) (by decide) (by decide)) (@pa_nil _) (by rfl)) (by decide) (by decide) (by rfl) (by rfl)) (@pe_op _ _ _ _ _ _ _ _ op_add (@pe_callB _ _ _ _ _ _ _ _ _ call_len_seq rfl T.len (by decide +kernel) (@pa_cons _ _ _ _ _ (@pv _ 1 _ _ (by rfl) (by first | exact Or.inl rfl | exact Or.inr (Or.inl rfl) | exact Or.inr (Or.inr rfl)) (by decide) (by decide)) (@pa_nil _) (by rfl)) (by decide) (by decide) (by rfl) (by rfl)) (@pe_int _ _ _ _)) (nomark _)) (@pss_one _ _ _ (@ps_ret _ _ _ _ (@pe_bl _ _ _ _))) (@pss_nil _)) (@pss_cons _ _ _ _ _ (@ps_for _ _ _ _ _ _ _ _ PassesOwn.never rfl (@pi_zipTT _ _ _ _ _ _ _ _ _ rfl T.zip (@pa_cons _ _ _ _ _ (@pv _ 1 _ _ (by rfl) (by first | exact Or.inl rfl | exact Or.inr (Or.inl rfl) | exact Or.inr (Or.inr rfl)) (by decide) (by decide)) (@pa_cons _ _ _ _ _ (@pe_slice _ _ _ _ _ _ _ _ _ _ sl_tupW (@pv _ 0 _ _ (by rfl) (by first | exact Or.inl rfl | exact Or.inr (Or.inl rfl) | exact Or.inr (Or.inr rfl)) (by decide) (by decide)) (@po_some _ _ _ (@pe_int _ _ _ _)) (@po_none _)) (@pa_nil _) (by rfl)) (by rfl)) (by rfl) (by rfl)) (@pg_tup _ _ _ _ _ _ rfl (@pgs_cons _ _ _ _ _ (@pg_name _ _ (2) _ nd rfl (Or.inl rfl) (by first | exact .inl rfl | exact .inr rfl | assumption)) (@pgs_cons _ _ _ _ _ (@pg_name _ _ (3) _ nd rfl (Or.inl rfl) (by first | exact .inl rfl | exact .inr rfl | assumption)) (@pgs_nil _) (by rfl)) (by rfl)) (by rfl) (by rfl)) (@pss_one _ _ _ (@ps_if _ _ _ _ _ _ _ _ (@pt_not _ _ _ _ (@pt_val _ _ _ (@pe_def _ _ _ _ _ _ _ _ _ _ Dfits hr rfl (@pa_cons _ _ _ _ _ (@pv _ 2 _ _ (by rfl) (by first | exact Or.inl rfl | exact Or.inr (Or.inl rfl) | exact Or.inr (Or.inr rfl)) (by decide) (by decide)) (@pa_cons _ _ _ _ _ (@pv _ 3 _ _ (by rfl) (by first | exact Or.inl rfl | exact Or.inr (Or.inl rfl) | exact Or.inr (Or.inr rfl)) (by decide) (by decide)) (@pa_nil _) (by rfl)) (by rfl)) (by decide) (by rfl) (by rfl)) (by intro _; rfl))) (@pss_one _ _ _ (@ps_ret _ _ _ _ (@pe_bl _ _ _ _))) (@pss_nil _))) (by intro _; rfl)) (@pss_one _ _ _ (@ps_ret _ _ _ _ (@pe_or _ _ _ _ _ _ _ (@pe_cmpR _ _ _ _ _ _ _ _ op_ne (@pe_ix _ _ _ _ _ _ _ ix_tup (@pv _ 0 _ _ (by rfl) (by first | exact Or.inl rfl | exact Or.inr (Or.inl rfl) | exact Or.inr (Or.inr rfl)) (by decide) (by decide)) (@pe_int _ _ _ _) (fun _ _ => rfl)) (@pe_str _ _ _ _) (nomark _)) (@pe_one _ _ _ _ _ (@pe_cmpR _ _ _ _ _ _ _ _ op_ne (@pe_ix _ _ _ _ _ _ _ ix_tup (@pv _ 0 _ _ (by rfl) (by first | exact Or.inl rfl | exact Or.inr (Or.inl rfl) | exact Or.inr (Or.inr rfl)) (by decide) (by decide)) (@pe_int _ _ _ _) (fun _ _ => rfl)) (@pe_ix _ _ _ _ _ _ _ ix_tup (@pv _ 0 _ _ (by rfl) (by first | exact Or.inl rfl | exact Or.inr (Or.inl rfl) | exact Or.inr (Or.inr rfl)) (by decide) (by decide)) (@pe_int _ _ _ _) (fun _ _ => rfl)) (nomark _)))))))))), ?_⟩
  refine ⟨_, rfl, v, d, rfl, R, fun H1 s1 => ⟨_, rfl, ?_⟩⟩
  cases c0 : wordD d with
  | false =>
    refine iteT (iteT ?_)
    have := q H1 s1
    rwa [node_word c0] at this
  | true =>
    refine iteF ?_
    obtain ⟨x, ds, rfl⟩ := word_shape c0
    obtain ⟨a, vs, rfl, ha, rs⟩ := Rep.tup_inv (R.mono s1)
    obtain ⟨y, ws, rfl, R0, ru⟩ := reps_cons rs
    obtain rfl : y = .str x := R0
    have lws := ru.length
    have hds : smalls ds = true := by
      simp only [Dv.small, smalls, Bool.and_eq_true] at hsm
      exact hsm.1.2
    refine ⟨_, rfl, a, _, 0, .str x, rfl, rfl, SqT.of ha, atI_nat (j := 0) rfl, x, rfl, rfl, _, rfl, ?_⟩
    rw [hS2 x]
    show if xor true (wordB x) = true then _ else _
    cases hw : wordB x with
    | false =>
      refine iteT ?_
      have := q H1 s1
      rwa [node_no hw] at this
    | true =>
      refine iteF ?_
      obtain ⟨p, hp, rfl⟩ := word_wt hw
      obtain ⟨b, hb, hbT⟩ := hS p hp
      have h5 := wt_few' p hp
      refine ⟨_, rfl, a, _, 0, .str p.1, rfl, rfl, SqT.of ha, atI_nat (j := 0) rfl, p.1, b, rfl, rfl, hb, ?_⟩
      refine ⟨_, rfl, a, _, rfl, .inr (SqT.of ha), _, rfl, b, _, rfl, .inr (hbT _), _, _, rfl, rfl, rfl, _, rfl, ?_⟩
      by_cases hl : ds.length = p.2.2.length
      · rw [show (!decide (V.int (((V.str p.1 :: ws).length : Nat) : Int) = V.int ((((p.2.2.map fun s => V.str (srt s)).length : Nat) : Int) + 1))) = false by
          rw [List.length_cons, lws, hl, List.length_map, show ((p.2.2.length + 1 : Nat) : Int) = (p.2.2.length : Int) + 1 by omega, decide_eq_true rfl]; rfl]
        refine iteF ?_
        refine ⟨_, rfl, _, rfl, 1, rfl, ?_⟩
        dsimp only [tNoPart]
        refine slW_one ha fun H2 t s2 ht => ?_
        have ec : cutV (V.str p.1 :: ws) (some 1) none = ws := cut_fromA (V.str p.1 :: ws) 1
        rw [ec] at ht
        have s02 := s1.trans s2
        refine ⟨b, t, rfl, ⟨_, hbT _⟩, ⟨_, SqT.of ht⟩, for_zipTT_o (D := { nx := tRet (tOrV (tOp rNe (tOp (rIxT K) (tVar 0) (tC (V.int 0))) (tC (V.str (Str.ofString "fold")))) (tOp rNe (tOp (rIxT K) (tVar 0) (tC (V.int 1))) (tOp (rIxT K) (tVar 0) (tC (V.int 3))))) { nx := fun x H' => Q V.non H', rt := Q }, rt := Q }) (xs := p.2.2.map fun s => V.str (srt s)) (ys := ws) (fun i σ H' => ∃ (o2 o3 : Option V), σ = [some (.ref a), some (.ref b), o2, o3] ∧ Same H2 H' ∧ okF p.2.2 ds = okF (p.2.2.drop i) (ds.drop i)) ⟨_, _, rfl, Same.refl _, rfl⟩ (fun i σ H' ⟨_, _, _, h, _⟩ => ⟨hbT _, SqT.of (h _ _ ht)⟩) ?T1 ?_⟩
        case T1 =>
          rintro i x y σ H3 t3 D1 gR gD hx hy ⟨o2, o3, rfl, s3, ok3⟩ hp3
          rw [List.getElem?_map] at hx
          obtain ⟨so, hso, rfl⟩ := Option.map_eq_some_iff.mp hx
          obtain ⟨d, hd, Ry⟩ := ru.get hy
          have q4 := same_new hp3 (.tup [.str (srt so), y])
          have ht4 : upd H3 t3 (.tup [.str (srt so), y]) t3 = some (.tup [.str (srt so), y]) := upd_same
          have s4 := s2.trans (s3.trans q4)
          have s24 := s3.trans q4
          generalize upd H3 t3 (.tup [.str (srt so), y]) = H4 at ht4 s4 s24 ⊢
          refine ⟨t3, _, rfl, SqT.of ht4, rfl, _, _, rfl, _, _, rfl, rfl, ?_⟩
          refine ⟨_, rfl, _, rfl, so, y, d, rfl, Ry.mono s4, smalls_get hds hd, fun H5 s5 => ⟨_, rfl, ?_⟩⟩
          rw [okF_drop hso hd] at ok3
          cases hfit : fitD so d with
          | false =>
            refine iteT ?_
            have := q H5 (s1.trans (s4.trans s5))
            rw [node_of hp, ok3, hfit] at this
            exact gR _ _ this
          | true =>
            refine iteF (gD _ _ ⟨_, _, rfl, s24.trans s5, ?_⟩)
            rw [ok3, hfit, Bool.true_and]
        rintro σ H3 ⟨o2, o3, rfl, s3, ok3⟩
        have okk : okF p.2.2 ds = true := by
          rw [ok3, List.length_map, Nat.min_eq_left (by omega), List.drop_length, ← hl, List.drop_length]
          rfl
        have s23 := s2.trans s3
        have qq := q H3 (s1.trans s23)
        rw [node_of hp, okk, Bool.true_and] at qq
        refine ⟨_, rfl, a, _, 0, .str p.1, rfl, rfl, SqT.of (s23 _ _ ha), atI_nat (j := 0) rfl, rfl, _, rfl, ?_⟩
        show if (!decide (V.str p.1 = V.str "fold")) = true then _ else _
        rw [str_dec]
        by_cases hf : p.1 = "fold"
        · rw [decide_eq_true hf]
          refine iteF ?_
          have hss := fold_wt p hp hf
          rw [hss] at okk
          have l5 : ds.length = 5 := by rw [hl, hss]; rfl
          obtain ⟨d1, d2, d3, d4, d5, rfl⟩ := five l5
          · simp only [okF, fitD, Bool.and_eq_true] at okk
            obtain ⟨x1, rfl⟩ := name_str okk.1
            obtain ⟨x3, rfl⟩ := name_str okk.2.2.1
            obtain ⟨u1, r1, rfl, R1, ru⟩ := reps_cons ru
            obtain ⟨u2, r2, rfl, R2, ru⟩ := reps_cons ru
            obtain ⟨u3, r3, rfl, R3, ru⟩ := reps_cons ru
            obtain rfl : u1 = .str x1 := R1
            obtain rfl : u3 = .str x3 := R3
            refine ⟨_, rfl, a, _, 1, .str x1, rfl, rfl, SqT.of (s23 _ _ ha), atI_nat (j := 1) rfl, _, rfl, a, _, 3, .str x3, rfl, rfl, SqT.of (s23 _ _ ha), atI_nat (j := 3) rfl, rfl, ?_⟩
            show Q (.bl (!decide (V.str x1 = V.str x3))) H3
            rw [str_dec]
            rw [show decide (p.1 ≠ "fold") = false from decide_eq_false (fun z => z hf), Bool.false_or] at qq
            have e : foldB [.str x1, d2, .str x3, d4, d5] = !decide (x1 = x3) := by
              show decide (x1 ≠ x3) = _
              by_cases h : x1 = x3
              · rw [decide_eq_true h, decide_eq_false (fun z => z h)]; rfl
              · rw [decide_eq_false h, decide_eq_true h]; rfl
            rw [e] at qq
            exact qq
        · rw [decide_eq_false hf]
          refine iteT ?_
          rw [decide_eq_true hf, Bool.true_or] at qq
          exact qq
      · rw [show (!decide (V.int (((V.str p.1 :: ws).length : Nat) : Int) = V.int ((((p.2.2.map fun s => V.str (srt s)).length : Nat) : Int) + 1))) = true by
          rw [decide_eq_false fun z => hl (by injection z with z; rw [List.length_cons, lws, List.length_map] at z; omega)]; rfl]
        refine iteT ?_
        have := q H1 s1
        rw [node_of hp] at this
        cases ho : okF p.2.2 ds with
        | true => exact absurd (okF_len ho) hl
        | false => rw [ho] at this; exact this
end
end K21
set_option maxHeartbeats 1000000
namespace K21
open PySem L2 KB XB
abbrev s_is_expr : Stmt := top 28
def exN : Nat → Dv → Nat
  | 0, _ => 99
  | n + 1, d => if nodeD d = true then 1 + ((partsD d).map (exN n)).sum else 99
def spIsExpr : Sp := spS fun d => decide (exN 8 d ≤ 40)
theorem cnt_pos (n : Nat) (d : Dv) : 1 ≤ exN n d := by
  cases n with
  | zero => show 1 ≤ 99; decide
  | succ n => unfold exN; split <;> omega
def prD (p : Dv × Nat) : Dv := .tup [p.1, .int p.2]
def wsum (ws : List (Dv × Nat)) : Nat := (ws.map fun p => exN (8 - p.2) p.1).sum
theorem wsum_app (xs ys : List (Dv × Nat)) : wsum (xs ++ ys) = wsum xs + wsum ys := by unfold wsum; rw [List.map_append, List.sum_append]
theorem smalls_mem {ds : List Dv} (h : smalls ds = true) : ∀ d ∈ ds, d.small = true := by
  induction ds with
  | nil => intro d hd; cases hd
  | cons x ds ih =>
    simp only [smalls, Bool.and_eq_true] at h
    intro d hd
    rcases List.mem_cons.mp hd with rfl | hd
    · exact h.1
    · exact ih h.2 d hd
theorem tup_smalls {ds : List Dv} (h : (Dv.tup ds).small = true) : ∀ d ∈ ds, d.small = true := by
  simp only [Dv.small, Bool.and_eq_true] at h
  exact smalls_mem h.1
theorem kids_small' {d : Dv} (h : d.small = true) : ∀ e ∈ kidsD d, e.small = true := by
  cases d with
  | tup ds => exact tup_smalls h
  | _ => intro e he; cases he
theorem pts_small : ∀ (ss : List So) (ds : List Dv), (∀ d ∈ ds, d.small = true) → ∀ e ∈ ptsD ss ds, e.small = true
  | [], _, _, e, he => by simp [ptsD] at he
  | _ :: _, [], _, e, he => by simp [ptsD] at he
  | s :: ss, d :: ds, h, e, he => by
    rcases List.mem_append.mp (show e ∈ ptD s d ++ ptsD ss ds from he) with h1 | h1
    · cases s with
      | e => rw [List.mem_singleton.mp h1]; exact h d List.mem_cons_self
      | a => exact kids_small' (h d List.mem_cons_self) e h1
      | r => exact kids_small' (h d List.mem_cons_self) e h1
      | _ => cases h1
    · exact pts_small ss ds (fun x hx => h x (List.mem_cons_of_mem _ hx)) e h1
theorem parts_small {d : Dv} (h : d.small = true) : ∀ e ∈ partsD d, e.small = true := by
  match d, h with
  | .tup (.str w :: ds), h => exact pts_small _ ds fun x hx => tup_smalls h x (List.mem_cons_of_mem _ hx)
  | .tup [], _ => intro e he; cases he
  | .tup (.non :: r), _ => intro e he; cases he
  | .tup (.bl _ :: r), _ => intro e he; cases he
  | .tup (.int _ :: r), _ => intro e he; cases he
  | .tup (.tup _ :: r), _ => intro e he; cases he
  | .tup (.lst _ :: r), _ => intro e he; cases he
  | .tup (.dct :: r), _ => intro e he; cases he
  | .non, _ => intro e he; cases he
  | .bl _, _ => intro e he; cases he
  | .int _, _ => intro e he; cases he
  | .str _, _ => intro e he; cases he
  | .lst _, _ => intro e he; cases he
  | .dct, _ => intro e he; cases he
theorem node_parts4 {d : Dv} (h : Node d) : (partsD d).length ≤ 4 := by
  obtain ⟨p, ds, hp, rfl, hf⟩ := h
  rw [XB.parts_of hp]
  exact Nat.le_trans (pts_all hf).2 (wt_most p hp)
section
variable {P : Program} {w : World} {K : PySem.W.Frag} {mg : Str → Option Value} {base : Heap}
theorem sc_is_expr : FnScope ["thing", "count", "waiting", "found", "node", "above"] ["thing"] (defScope s_is_expr) := ⟨rfl, rfl, rfl, by decide +kernel, rfl, by decide +kernel, by decide +kernel⟩
theorem ok_is_expr {f : Addr} {fd : FuncData} {k : Nat} (F : Fun K "is_expression" "is_expression" s_is_expr f fd) (T : Txt K mg) (Dis_node : Def P w K mg base k "is_node" ["thing"] (spS nodeD)) (Dparts_of : Def P w K mg base k "parts_of" ["node"] spParts) : FnOk P w K mg base CX0 (k + 1) f fd ["thing"] spIsExpr := by
  have nd : (["thing", "count", "waiting", "found", "node", "above"] : List Str).Nodup := sc_is_expr.nd
  refine F.ok sc_is_expr (fun vs H Q E h => ?_) (fun cdv A outer s H vs Q E hr h => ?_)
  · obtain ⟨v, d, rfl, _⟩ := h
    rfl
  obtain ⟨v, d, rfl, R, hsm, q⟩ := h
  replace q : ∀ (H' : Hp), Same H H' → Q (V.bl (decide (exN 8 d ≤ 40))) H' := q
  refine ⟨_, (@pss_cons _ _ _ _ _ (@ps_set _ _ (1) _ _ _ _ nd rfl (Or.inl rfl) (@pe_int _ _ _ _) (by rfl) (by first | exact .inl rfl | exact .inr rfl | assumption)) (@pss_cons _ _ _ _ _ (@ps_set _ _ (2) _ _ _ _ nd rfl (Or.inl rfl) (@pe_lst _ _ _ _ (@pa_cons _ _ _ _ _ (@pe_tup _ _ _ _ _ (@pa_cons _ _ _ _ _ (@pv _ 0 _ _ (by rfl) (by first | exact Or.inl rfl | exact Or.inr (Or.inl rfl) | exact Or.inr (Or.inr rfl)) (by decide) (by decide)) (@pa_cons _ _ _ _ _ (@pe_int _ _ _ _) (@pa_nil _) (by rfl)) (by rfl))) (@pa_nil _) (by rfl))) (by rfl) (by first | exact .inl rfl | exact .inr rfl | assumption)) (@pss_cons _ _ _ _ _ (@ps_while _ _ _ _ _ _ PassesOwn.never (@pt_truth _ _ _ (@pv _ 2 _ _ (by rfl) (by first | exact Or.inl rfl | exact Or.inr (Or.inl rfl) | exact Or.inr (Or.inr rfl)) (by decide) (by decide)) (fun _ => rfl)) (@pss_cons _ _ _ _ _ (@ps_set _ _ (3) _ _ _ _ nd rfl (Or.inl rfl) (@pe_bm0 _ _ _ _ _ _ _ _ _ PySem.F.plainAttrs_list PySem.F.slot_list_pop PySem.F.type_list_pop mt_pop (@pv _ 2 _ _ (by rfl) (by first | exact Or.inl rfl | exact Or.inr (Or.inl rfl) | exact Or.inr (Or.inr rfl)) (by decide) (by decide)) (by rfl) (by rfl)) (by rfl) (by first | exact .inl rfl | exact .inr rfl | assumption)) (@pss_cons _ _ _ _ _ (@ps_set _ _ (4) _ _ _ _ nd rfl (Or.inl rfl) (@pe_ix _ _ _ _ _ _ _ ix_tup (@pv _ 3 _ _ (by rfl) (by first | exact Or.inl rfl | exact Or.inr (Or.inl rfl) | exact Or.inr (Or.inr rfl)) (by decide) (by decide)) (@pe_int _ _ _ _) (fun _ _ => rfl)) (by rfl) (by first | exact .inl rfl | exact .inr rfl | assumption)) (@pss_cons _ _ _ _ _ (@ps_set _ _ (5) _ _ _ _ nd rfl (Or.inr rfl) (@pe_ix _ _ _ _ _ _ _ ix_tup (@pv _ 3 _ _ (by rfl) (by first | exact Or.inl rfl | exact Or.inr (Or.inl rfl) | exact Or.inr (Or.inr rfl)) (by decide) (by decide)) (@pe_int _ _ _ _) (fun _ _ => rfl)) (by rfl) (by first | exact .inl rfl | exact .inr rfl | assumption)) (@pss_cons _ _ _ _ _ (@ps_aug _ _ (1) _ _ _ _ _ _ nd rfl (Or.inl rfl) (@pe_int _ _ _ _) ip_add (by first | exact .inl rfl | exact .inr rfl | assumption)) (@pss_cons _ _ _ _ _ (@ps_if _ _ _ _ _ _ _ _ (@PW.pt _ _ _ (@pw_or _ _ _ _ _ _ _ (@pt_cmpR _ _ _ _ _ _ _ _ op_gt (@pv _ 1 _ _ (by rfl) (by first | exact Or.inl rfl | exact Or.inr (Or.inl rfl) | exact Or.inr (Or.inr rfl)) (by decide) (by decide)) (T.g_MOST_NODES rfl) (nomark _)) (@pw_or _ _ _ _ _ _ _ (@pt_cmpR _ _ _ _ _ _ _ _ op_gt (@pv _ 5 _ _ (by rfl) (by first | exact Or.inl rfl | exact Or.inr (Or.inl rfl) | exact Or.inr (Or.inr rfl)) (by decide) (by decide)) (T.g_MOST_ABOVE rfl) (nomark _)) (@pw_or1 _ _ _ _ (@pt_not _ _ _ _ (@pt_val _ _ _ (@pe_def _ _ _ _ _ _ _ _ _ _ Dis_node hr rfl (@pa_cons _ _ _ _ _ (@pv _ 4 _ _ (by rfl) (by first | exact Or.inl rfl | exact Or.inr (Or.inl rfl) | exact Or.inr (Or.inr rfl)) (by decide) (by decide)) (@pa_nil _) (by rfl)) (by decide) (by rfl) (by rfl)) (by intro _; rfl))))))) (@pss_one _ _ _ (@ps_ret _ _ _ _ (@pe_bl _ _ _ _))) (@pss_nil _)) (@pss_one _ _ _ (@ps_expr _ _ _ _ (@pe_bm _ _ _ _ _ _ _ _ _ _ _ _ PySem.F.plainAttrs_list PySem.F.slot_list_extend PySem.F.type_list_extend mt_extend (@pv _ 2 _ _ (by rfl) (by first | exact Or.inl rfl | exact Or.inr (Or.inl rfl) | exact Or.inr (Or.inr rfl)) (by decide) (by decide)) (@pa_cons _ _ _ _ _ (@pe_lc _ _ (["part"]) ([5]) _ _ _ _ _ _ _ _ _ (@pi_list _ _ _ _ (@pe_def _ _ _ _ _ _ _ _ _ _ Dparts_of hr rfl (@pa_cons _ _ _ _ _ (@pv _ 4 _ _ (by rfl) (by first | exact Or.inl rfl | exact Or.inr (Or.inl rfl) | exact Or.inr (Or.inr rfl)) (by decide) (by decide)) (@pa_nil _) (by rfl)) (by decide) (by rfl) (by rfl))) (.of rfl) rfl (fun _ _ _ => pg_name (i := 0) (lc_nd (l := ["part", "above"]) ((by decide +kernel)) rfl) rfl (Or.inl rfl)) (gw_name (by decide)) (fun _ _ _ => (@pif_nil _)) (fun _ _ _ => (@pe_tup _ _ _ _ _ (@pa_cons _ _ _ _ _ (@pv _ 0 _ _ (by rfl) (by first | exact Or.inl rfl | exact Or.inr (Or.inl rfl) | exact Or.inr (Or.inr rfl)) (by decide) (by decide)) (@pa_cons _ _ _ _ _ (@pe_op _ _ _ _ _ _ _ _ op_add (@pv _ 1 _ _ (by rfl) (by first | exact Or.inl rfl | exact Or.inr (Or.inl rfl) | exact Or.inr (Or.inr rfl)) (by decide) (by decide)) (@pe_int _ _ _ _)) (@pa_nil _) (by rfl)) (by rfl)))) (by intro _; rfl)) (@pa_nil _) (by rfl)) (by rfl) (by rfl) (by rfl) (by rfl) (by rfl)) (by rfl))))))))) (@pss_one _ _ _ (@ps_ret _ _ _ _ (@pe_bl _ _ _ _)))))), ?_⟩
  refine ⟨_, rfl, z2, fun t0 ht0 => ⟨z1, fun W1 hW => ?_⟩⟩
  have q0 := same_new ht0 (.tup [v, .int 0])
  have q1 := same_new hW (.lst [.ref t0])
  have r0 : Rep (upd H t0 (.tup [v, .int 0])) (prD (d, 0)) (.ref t0) := by
    unfold prD
    rw [Rep]
    exact ⟨t0, _, rfl, upd_same, by simp only [Reps]; exact ⟨_, _, rfl, R.mono q0, _, _, rfl, by simp only [Rep]; rfl, rfl⟩⟩
  refine while_mO (fun m σ H' => ∃ (o3 o4 o5 : Option V) (cnt : Nat) (ws : List (Dv × Nat)) (vs : List V), σ = [some v, some (.int cnt), some (.ref W1), o3, o4, o5] ∧ Same H (less1 H' W1) ∧ H' W1 = some (.lst vs) ∧ Reps (less1 H' W1) (ws.map prD) vs ∧ (∀ p ∈ ws, p.1.small = true ∧ p.2 ≤ 8) ∧ (cnt + wsum ws ≤ 40 ↔ exN 8 d ≤ 40) ∧ m = 40 - cnt ∧ cnt ≤ 40 ∧ ws.length ≤ 1 + 4 * cnt) 40
    ⟨_, _, _, 0, [(d, 0)], [.ref t0], rfl, q0.trans (less1_of q1 hW), upd_same, reps_one (r0.mono (less1_of q1 hW)), fun p hp => by rw [List.mem_singleton.mp hp]; exact ⟨hsm, Nat.zero_le _⟩, by simp [wsum], rfl, by decide, Nat.le_refl _⟩ ?_ mono_truth
  rintro m σ H1 D1 gR gD ⟨o3, o4, o5, cnt, ws, vs, rfl, s1, w1, R1, sm, eq, rfl, c40, lw⟩
  have s01 : Same H H1 := s1.trans less1_sub
  refine ⟨_, rfl, _, .inl ⟨vs, SqL.of w1, rfl⟩, ?_⟩
  by_cases ne : ws = []
  · subst ne
    have e : vs = [] := by simpa only [List.map_nil, Reps] using R1
    subst e
    refine iteF ?_
    have := q H1 s01
    rw [decide_eq_true (eq.mp (by simpa [wsum] using c40))] at this
    exact this
  · obtain ⟨w0, x, rfl⟩ := snoc_of ne
    rw [List.map_append] at R1
    obtain ⟨v0, u, rfl, Ra, Ru⟩ := reps_snoc R1
    have e : (!(v0 ++ [u]).isEmpty) = true := by simp
    rw [e]
    refine iteT ?_
    rw [wsum_app] at eq
    have wx : wsum [x] = exN (8 - x.2) x.1 := by simp [wsum]
    rw [wx] at eq
    rw [List.length_append, List.length_singleton] at lw
    obtain ⟨smx, x8⟩ := sm x (by simp)
    refine ⟨_, rfl, .inl ⟨rfl, _, SqL.of w1⟩, W1, _, _, rfl, rfl, w1, pop_snoc _ _, ?_⟩
    rw [List.dropLast_concat]
    have t2 : Same (less1 H1 W1) (less1 (upd H1 W1 (.lst v0)) W1) := l1_upd
    have w2 : upd H1 W1 (.lst v0) W1 = some (.lst v0) := upd_same
    have s02 : Same H _ := s1.trans (t2.trans less1_sub)
    generalize upd H1 W1 (.lst v0) = H2 at t2 w2 s02 ⊢
    obtain ⟨t, us, rfl, ht, ru⟩ := Rep.tup_inv (show Rep (less1 H1 W1) (.tup [x.1, .int x.2]) u from Ru)
    obtain ⟨y, z, rfl, Ry, Rz⟩ := Reps.two ru
    obtain rfl : z = .int x.2 := Rz
    have ht2 := less1_sub _ _ (t2 _ _ ht)
    have xp := cnt_pos (8 - x.2) x.1
    refine ⟨_, rfl, t, _, 0, y, rfl, rfl, SqT.of ht2, atI_nat (j := 0) rfl, ?_⟩
    refine ⟨_, rfl, t, _, 1, .int x.2, rfl, rfl, SqT.of ht2, atI_nat (j := 1) rfl, ?_⟩
    refine ⟨_, rfl, _, _, rfl, rfl, ?_⟩
    refine ⟨_, rfl, _, _, rfl, rfl, _, rfl, ?_⟩
    refine ite2 (fun h => ?_) (fun h => ?_)
    · have h' : (40 : Int) < (cnt : Int) + 1 := of_decide_eq_true h
      have := q H2 s02
      rw [decide_eq_false (fun z => by have := eq.mpr z; omega)] at this
      exact iteT (gR _ _ this)
    have h' : cnt + 1 ≤ 40 := by have z : ¬ ((40 : Int) < (cnt : Int) + 1) := of_decide_eq_false (Bool.eq_false_iff.mpr h); omega
    refine ⟨_, rfl, _, _, rfl, rfl, _, rfl, ?_⟩
    refine ite2 (fun h2 => ?_) (fun h2 => ?_)
    · have h2' : (7 : Int) < (x.2 : Int) := of_decide_eq_true h2
      have := q H2 s02
      rw [decide_eq_false (fun z => by
        have := eq.mpr z
        rw [show 8 - x.2 = 0 by omega] at this
        have e99 : exN 0 x.1 = 99 := rfl
        omega)] at this
      exact iteT (gR _ _ this)
    have h2' : x.2 ≤ 7 := by have z : ¬ ((7 : Int) < (x.2 : Int)) := of_decide_eq_false (Bool.eq_false_iff.mpr h2); omega
    obtain ⟨j, hj⟩ : ∃ j, 8 - x.2 = j + 1 := ⟨7 - x.2, by omega⟩
    refine ⟨_, rfl, y, x.1, rfl, Ry.mono (t2.trans less1_sub), smx, fun H3 s3 => ⟨_, rfl, ?_⟩⟩
    have s03 := s02.trans s3
    cases c : nodeD x.1 with
    | false =>
      have := q H3 s03
      rw [decide_eq_false (fun z => by
        have := eq.mpr z
        have e99 : exN (8 - x.2) x.1 = 99 := by rw [hj]; unfold exN; rw [c]; rfl
        omega)] at this
      exact iteT (gR _ _ this)
    | true =>
      refine iteF ?_
      have w3 := s3 _ _ w2
      have t3 := t2.trans (less1_same (l := W1) s3)
      have hW3 : H3 W1 ≠ none := by rw [w3]; exact nofun
      have nn := node_node c
      have p4 := node_parts4 nn
      have exj : exN (8 - x.2) x.1 = 1 + ((partsD x.1).map (exN j)).sum := by rw [hj]; show (if nodeD x.1 = true then _ else _) = _; rw [c]; rfl
      refine tnx ⟨_, rfl, .inl ⟨rfl, _, SqL.of w3⟩, _, rfl, y, x.1, less1 H3 W1, rfl, less1_sub, Ry.mono t3, nn, fun H4 l ks s4 hl h4 R4 => ⟨l, rfl, ⟨_, SqL.of h4⟩, lc_list (xs := ks) (fun i ys H' => Same H4 H' ∧ Reps (less1 H' W1) (((partsD x.1).take i).map fun e => prD (e, x.2 + 1)) ys) ⟨Same.refl _, by simp [Reps]⟩ (fun i ys H' _ p => SqL.of (p.1 _ _ h4)) ?_ ?_⟩⟩
      · rintro i ys H5 pv hpv ⟨s5, R5⟩
        obtain ⟨e, he, Re⟩ := R4.get hpv
        have hi : i < (partsD x.1).length := (List.getElem?_eq_some_iff.mp he).1
        refine turn_name ⟨_, rfl, _, rfl, _, _, rfl, rfl, z2, fun p hp => ⟨?_, s5.trans (same_new hp _), ?_⟩⟩
        · rw [R5.length, List.length_map, List.length_take, sizeLine_eq]; omega
        · have hW5 : H5 W1 ≠ none := by rw [s5 _ _ (s4 _ _ w3)]; exact nofun
          obtain ⟨e1, e2⟩ := less1_new (o := .tup [pv, .int ((x.2 : Int) + 1)]) hW5 hp
          rw [List.take_add_one, he, List.map_append]
          refine Reps.append (R5.mono e2) ?_
          refine reps_one (show Rep _ (.tup [e, .int ((x.2 + 1 : Nat) : Int)]) (.ref p) from ?_)
          rw [Rep]
          refine ⟨p, _, rfl, e1, ?_⟩
          simp only [Reps]
          exact ⟨_, _, rfl, (Re.mono (less1_same (s4.trans s5))).mono e2, _, _, rfl, by simp only [Rep]; rfl, rfl⟩
      · rintro ys H5 ⟨s5, R5⟩ r hr'
        have q6 := same_new hr' (.lst ys)
        have lk := R4.length
        rw [lk, List.take_length] at R5
        have lys := R5.length
        rw [List.length_map] at lys
        have w5 := q6 _ _ (s5 _ _ (s4 _ _ w3))
        have lv := Ra.length
        rw [List.length_map] at lv
        refine ⟨W1, r, _, _, rfl, rfl, w5, upd_same, by rw [sizeLine_eq]; omega, ?_⟩
        have hW5 : H5 W1 ≠ none := by rw [s5 _ _ (s4 _ _ w3)]; exact nofun
        have t6 : Same (less1 H5 W1) (less1 (upd (upd H5 r (.lst ys)) W1 (.lst (v0 ++ ys))) W1) := (less1_same q6).trans l1_upd
        have t16 := t3.trans ((less1_same (s4.trans s5)).trans t6)
        refine gD (40 - (cnt + 1)) _ _ (by omega) ⟨_, _, _, cnt + 1, w0 ++ (partsD x.1).map fun e => (e, x.2 + 1), v0 ++ ys, rfl, s1.trans t16, upd_same, ?_, ?_, ?_, rfl, h', ?_⟩
        · rw [List.map_append]
          refine Reps.append (Ra.mono t16) ?_
          rw [List.map_map]
          exact R5.mono t6
        · intro p hp
          rcases List.mem_append.mp hp with h1 | h1
          · exact sm p (List.mem_append_left _ h1)
          · obtain ⟨e, he, rfl⟩ := List.mem_map.mp h1
            exact ⟨parts_small smx e he, by show x.2 + 1 ≤ 8; omega⟩
        · rw [← eq, wsum_app, exj]
          have e7 : wsum ((partsD x.1).map fun e => (e, x.2 + 1)) = ((partsD x.1).map (exN j)).sum := by
            unfold wsum
            rw [List.map_map]
            congr 1
            refine List.map_congr_left fun e _ => ?_
            show exN (8 - (x.2 + 1)) e = exN j e
            rw [show 8 - (x.2 + 1) = j by omega]
          rw [e7]
          constructor <;> intro z <;> omega
        · rw [List.length_append, List.length_map]; omega
end
end K21
set_option maxHeartbeats 1000000
namespace K21
open PySem L2 KB XB
abbrev s_draws : Stmt := top 30
abbrev s_next : Stmt := top 31
abbrev s_times : Stmt := top 33
theorem le4 : 4 ≤ sizeLine := by rw [sizeLine_eq]; decide
def Dr (H : Hp) (a : Addr) (n : Nat) : Prop := ∃ ns : List Int, H a = some (.lst (ns.map V.int)) ∧ ns.length = n ∧ ∀ x ∈ ns, 0 ≤ x ∧ x < 10 ^ 14
theorem Dr.b {H H' : Hp} {a b : Addr} {n : Nat} (h : Dr H a n) (s : SameB b H H') (ne : a ≠ b) : Dr H' a n := let ⟨i, e, r⟩ := h; ⟨i, s _ _ ne e, r⟩
theorem Dr.m {H H' : Hp} {a : Addr} {n : Nat} (h : Dr H a n) (s : Same H H') : Dr H' a n := let ⟨i, e, r⟩ := h; ⟨i, s _ _ e, r⟩
theorem Dr.tups {H H' : Hp} {a : Addr} {n : Nat} (h : Dr H a n) (s : SameB a H H') : TupS H H' := let ⟨_, e, _⟩ := h; s.tups e
theorem Dr.some {H : Hp} {a : Addr} {n : Nat} (h : Dr H a n) : H a ≠ none := let ⟨_, e, _⟩ := h; fun z => by rw [e] at z; cases z
def spDraws (K : PySem.W.Frag) : Sp := fun vs H Q _ => ∃ (c : Addr) (m : Int) (cells : List Int), vs = [.ref c, .int m] ∧ SqL K H c (cells.map V.int) ∧ cells.length = 9 ∧ 0 ≤ m ∧ m ≤ 1000 ∧ ∀ (H' : Hp) (a : Addr), Same H H' → H a = none → Dr H' a m.toNat → Q (.ref a) H'
def spNext : Sp := fun vs H Q _ => ∃ (a : Addr) (n : Nat), vs = [.ref a] ∧ Dr H a n ∧ ∀ (H' : Hp) (x : Int), SameB a H H' → Dr H' a (n - 1) → 0 ≤ x → x < 10 ^ 14 → Q (.int x) H'
def spTimes : Sp := fun vs H Q _ => ∃ i c : Int, vs = [.int i, .int c] ∧ ∀ (H' : Hp) (x : Int), Same H H' → 1 ≤ x → x ≤ 99 → Q (.int x) H'
section
variable {P : Program} {w : World} {K : PySem.W.Frag} {mg : Str → Option Value} {base : Heap}
theorem sc_draws : FnScope ["_law_cells", "_law_many", "_law_rests", "_law_found", "_law_k", "_law_j", "_law_number"] ["_law_cells", "_law_many"] (defScope s_draws) := ⟨rfl, rfl, rfl, by decide +kernel, rfl, by decide +kernel, by decide +kernel⟩
theorem ok_draws {f : Addr} {fd : FuncData} (F : Fun K "_law_draws" "_law_draws" s_draws f fd) (T : Txt K mg) : FnOk P w K mg base CX0 1 f fd ["_law_cells", "_law_many"] (spDraws K) := by
  have nd : (["_law_cells", "_law_many", "_law_rests", "_law_found", "_law_k", "_law_j", "_law_number"] : List Str).Nodup := sc_draws.nd
  refine F.ok sc_draws (fun vs H Q E h => ?_) (fun cdv A outer s H vs Q E hr h => ?_)
  · obtain ⟨c, m, cells, rfl, _⟩ := h
    rfl
  obtain ⟨c, m, cells, rfl, hS, l9, m0, m1, q⟩ := h
  refine ⟨_, (@pss_cons _ _ _ _ _ (@ps_lc _ _ (["_law_cell"]) ([]) _ _ _ _ _ _ _ _ _ _ _ (2) _ nd rfl rfl (@pi_list _ _ _ _ (@pv _ 0 _ _ (by rfl) (by first | exact Or.inl rfl | exact Or.inr (Or.inl rfl) | exact Or.inr (Or.inr rfl)) (by decide) (by decide))) (.of rfl) rfl (fun _ _ _ => pg_name (i := 0) (lc_nd (l := ["_law_cell"]) ((by decide +kernel)) rfl) rfl (Or.inl rfl)) (gw_name (by decide)) (fun _ _ _ => (@pif_nil _)) (fun _ _ _ => (@pe_op _ _ _ _ _ _ _ _ op_fdivB (@pv _ 0 _ _ (by rfl) (by first | exact Or.inl rfl | exact Or.inr (Or.inl rfl) | exact Or.inr (Or.inr rfl)) (by decide) (by decide)) (@pe_int _ _ _ _))) (by rfl) (by intro _; rfl)) (@pss_cons _ _ _ _ _ (@ps_set _ _ (3) _ _ _ _ nd rfl (Or.inl rfl) (@pe_lst _ _ _ _ (@pa_nil _)) (by rfl) (by first | exact .inl rfl | exact .inr rfl | assumption)) (@pss_cons _ _ _ _ _ (@ps_for _ _ _ _ _ _ _ _ PassesOwn.never rfl (@pi_range1 _ _ _ _ _ _ rfl T.range (@pa_cons _ _ _ _ _ (@pv _ 1 _ _ (by rfl) (by first | exact Or.inl rfl | exact Or.inr (Or.inl rfl) | exact Or.inr (Or.inr rfl)) (by decide) (by decide)) (@pa_nil _) (by rfl)) (by rfl)) (@pg_name _ _ (4) _ nd rfl (Or.inl rfl) (by first | exact .inl rfl | exact .inr rfl | assumption)) (@pss_cons _ _ _ _ _ (@ps_set _ _ (5) _ _ _ _ nd rfl (Or.inl rfl) (@pe_op _ _ _ _ _ _ _ _ op_mod (@pv _ 4 _ _ (by rfl) (by first | exact Or.inl rfl | exact Or.inr (Or.inl rfl) | exact Or.inr (Or.inr rfl)) (by decide) (by decide)) (@pe_callB _ _ _ _ _ _ _ _ _ call_len_seq rfl T.len (by decide +kernel) (@pa_cons _ _ _ _ _ (@pv _ 0 _ _ (by rfl) (by first | exact Or.inl rfl | exact Or.inr (Or.inl rfl) | exact Or.inr (Or.inr rfl)) (by decide) (by decide)) (@pa_nil _) (by rfl)) (by decide) (by decide) (by rfl) (by rfl))) (by rfl) (by first | exact .inl rfl | exact .inr rfl | assumption)) (@pss_one _ _ _ (@ps_if _ _ _ _ _ _ _ _ (@PW.pt _ _ _ (@pw_and _ _ _ _ _ _ _ (@pt_cmpR _ _ _ _ _ _ _ _ op_eq (@pe_op _ _ _ _ _ _ _ _ op_mod (@pe_ix _ _ _ _ _ _ _ ix_list (@pv _ 0 _ _ (by rfl) (by first | exact Or.inl rfl | exact Or.inr (Or.inl rfl) | exact Or.inr (Or.inr rfl)) (by decide) (by decide)) (@pv _ 5 _ _ (by rfl) (by first | exact Or.inl rfl | exact Or.inr (Or.inl rfl) | exact Or.inr (Or.inr rfl)) (by decide) (by decide)) (fun _ _ => rfl)) (@pe_int _ _ _ _)) (@pe_int _ _ _ _) (nomark _)) (@pw_and1 _ _ _ _ (@pt_cmpR _ _ _ _ _ _ _ _ op_gt (@pe_ix _ _ _ _ _ _ _ ix_list (@pv _ 2 _ _ (by rfl) (by first | exact Or.inl rfl | exact Or.inr (Or.inl rfl) | exact Or.inr (Or.inr rfl)) (by decide) (by decide)) (@pv _ 5 _ _ (by rfl) (by first | exact Or.inl rfl | exact Or.inr (Or.inl rfl) | exact Or.inr (Or.inr rfl)) (by decide) (by decide)) (fun _ _ => rfl)) (@pe_int _ _ _ _) (nomark _))))) (@pss_cons _ _ _ _ _ (@ps_expr _ _ _ _ (@pe_bm _ _ _ _ _ _ _ _ _ _ _ _ PySem.F.plainAttrs_list PySem.F.slot_list_append PySem.F.type_list_append mt_append (@pv _ 3 _ _ (by rfl) (by first | exact Or.inl rfl | exact Or.inr (Or.inl rfl) | exact Or.inr (Or.inr rfl)) (by decide) (by decide)) (@pa_cons _ _ _ _ _ (@pe_op _ _ _ _ _ _ _ _ op_mod (@pe_ix _ _ _ _ _ _ _ ix_list (@pv _ 2 _ _ (by rfl) (by first | exact Or.inl rfl | exact Or.inr (Or.inl rfl) | exact Or.inr (Or.inr rfl)) (by decide) (by decide)) (@pv _ 5 _ _ (by rfl) (by first | exact Or.inl rfl | exact Or.inr (Or.inl rfl) | exact Or.inr (Or.inr rfl)) (by decide) (by decide)) (fun _ _ => rfl)) (@pe_op _ _ _ _ _ _ _ _ op_pow (@pe_int _ _ _ _) (@pe_int _ _ _ _))) (@pa_nil _) (by rfl)) (by rfl) (by rfl) (by rfl) (by rfl) (by rfl)) (by rfl)) (@pss_one _ _ _ (@ps_asg _ _ _ _ _ _ (@pe_op _ _ _ _ _ _ _ _ op_fdivB (@pe_ix _ _ _ _ _ _ _ ix_list (@pv _ 2 _ _ (by rfl) (by first | exact Or.inl rfl | exact Or.inr (Or.inl rfl) | exact Or.inr (Or.inr rfl)) (by decide) (by decide)) (@pv _ 5 _ _ (by rfl) (by first | exact Or.inl rfl | exact Or.inr (Or.inl rfl) | exact Or.inr (Or.inr rfl)) (by decide) (by decide)) (fun _ _ => rfl)) (@pe_op _ _ _ _ _ _ _ _ op_pow (@pe_int _ _ _ _) (@pe_int _ _ _ _))) (@pg_sub _ _ _ _ _ _ _ (@pv _ 2 _ _ (by rfl) (by first | exact Or.inl rfl | exact Or.inr (Or.inl rfl) | exact Or.inr (Or.inr rfl)) (by decide) (by decide)) (@pv _ 5 _ _ (by rfl) (by first | exact Or.inl rfl | exact Or.inr (Or.inl rfl) | exact Or.inr (Or.inr rfl)) (by decide) (by decide)) set_list (by intro _; rfl)) (by rfl) (by rfl) (by rfl)))) (@pss_cons _ _ _ _ _ (@ps_set _ _ (6) _ _ _ _ nd rfl (Or.inl rfl) (@pe_op _ _ _ _ _ _ _ _ op_mod (@pe_op _ _ _ _ _ _ _ _ op_mul (@pe_op _ _ _ _ _ _ _ _ op_add (@pe_op _ _ _ _ _ _ _ _ op_add (@pe_op _ _ _ _ _ _ _ _ op_mod (@pe_ix _ _ _ _ _ _ _ ix_list (@pv _ 0 _ _ (by rfl) (by first | exact Or.inl rfl | exact Or.inr (Or.inl rfl) | exact Or.inr (Or.inr rfl)) (by decide) (by decide)) (@pv _ 5 _ _ (by rfl) (by first | exact Or.inl rfl | exact Or.inr (Or.inl rfl) | exact Or.inr (Or.inr rfl)) (by decide) (by decide)) (fun _ _ => rfl)) (@pe_op _ _ _ _ _ _ _ _ op_pow (@pe_int _ _ _ _) (@pe_int _ _ _ _))) (@pe_op _ _ _ _ _ _ _ _ op_mul (@pe_int _ _ _ _) (@pv _ 4 _ _ (by rfl) (by first | exact Or.inl rfl | exact Or.inr (Or.inl rfl) | exact Or.inr (Or.inr rfl)) (by decide) (by decide)))) (@pe_int _ _ _ _)) (@pe_int _ _ _ _)) (@pe_int _ _ _ _)) (by rfl) (by first | exact .inl rfl | exact .inr rfl | assumption)) (@pss_one _ _ _ (@ps_expr _ _ _ _ (@pe_bm _ _ _ _ _ _ _ _ _ _ _ _ PySem.F.plainAttrs_list PySem.F.slot_list_append PySem.F.type_list_append mt_append (@pv _ 3 _ _ (by rfl) (by first | exact Or.inl rfl | exact Or.inr (Or.inl rfl) | exact Or.inr (Or.inr rfl)) (by decide) (by decide)) (@pa_cons _ _ _ _ _ (@pe_op _ _ _ _ _ _ _ _ op_mod (@pe_op _ _ _ _ _ _ _ _ op_mul (@pe_op _ _ _ _ _ _ _ _ op_mul (@pv _ 6 _ _ (by rfl) (by first | exact Or.inl rfl | exact Or.inr (Or.inl rfl) | exact Or.inr (Or.inr rfl)) (by decide) (by decide)) (@pv _ 6 _ _ (by rfl) (by first | exact Or.inl rfl | exact Or.inr (Or.inl rfl) | exact Or.inr (Or.inr rfl)) (by decide) (by decide))) (@pe_int _ _ _ _)) (@pe_int _ _ _ _)) (@pa_nil _) (by rfl)) (by rfl) (by rfl) (by rfl) (by rfl) (by rfl)) (by rfl))))))) (by intro _; rfl)) (@pss_one _ _ _ (@ps_ret _ _ _ _ (@pe_revL _ _ _ _ _ _ _ (@pv _ 3 _ _ (by rfl) (by first | exact Or.inl rfl | exact Or.inr (Or.inl rfl) | exact Or.inr (Or.inr rfl)) (by decide) (by decide)) (@po_some _ _ _ (@pe_un _ _ _ _ _ _ un_neg (@pe_int _ _ _ _))))))))), ?_⟩
  have p14 : CPow 10 14 := ⟨by decide, by decide, by decide⟩
  have p30 : CPow 10 30 := ⟨by decide, by decide, by decide⟩
  refine ⟨_, rfl, c, rfl, ⟨_, hS⟩, lc_list (xs := cells.map V.int) (fun i ys H' => H' = H ∧ ∃ rs : List Int, ys = rs.map V.int ∧ rs.length = i) ⟨rfl, [], rfl, rfl⟩ (fun i ys H' _ p => by rw [p.1]; exact hS) ?_ ?_⟩
  · rintro i ys H' x hx ⟨rfl, rs, rfl, lr⟩
    have hi : i < 9 := by have := (List.getElem?_eq_some_iff.mp hx).1; rwa [List.length_map, l9] at this
    rw [List.getElem?_map] at hx
    obtain ⟨y, _, rfl⟩ := Option.map_eq_some_iff.mp hx
    refine turn_name ⟨_, rfl, _, _, rfl, rfl, ⟨by decide, by decide⟩, ?_, rfl, rs ++ [y / 2], by simp, by simp [lr]⟩
    rw [List.length_map, sizeLine_eq]; omega
  rintro ys H1 ⟨rfl, rs, rfl, lr⟩ R hR
  rw [List.length_map, l9] at lr
  refine ⟨Nat.zero_le _, fun Fo hF => ?_⟩
  have q1 := same_new hR (.lst (rs.map V.int))
  have q2 := same_new hF (.lst [])
  have hRF : R ≠ Fo := ne_of_none (upd_same (H := H1) (a := R) (o := .lst (rs.map V.int))) hF
  have hFn : H1 Fo = none := q1.free hF
  have e1 := q2 _ _ (upd_same (H := H1) (a := R) (o := .lst (rs.map V.int)))
  have e2 : upd (upd H1 R (.lst (rs.map V.int))) Fo (.lst []) Fo = some (.lst []) := upd_same
  have s2 := q1.trans q2
  generalize upd (upd H1 R (.lst (rs.map V.int))) Fo (.lst []) = H2 at e1 e2 s2 ⊢
  refine ⟨_, rfl, m, rfl, by omega, by omega, for_range_o (n := m.toNat) (fun i σ H' => ∃ (o4 o5 o6 : Option V) (rs ns : List Int), σ = [some (.ref c), some (.int m), some (.ref R), some (.ref Fo), o4, o5, o6] ∧ Same H1 H' ∧ H' R = some (.lst (rs.map V.int)) ∧ rs.length = 9 ∧ H' Fo = some (.lst (ns.map V.int)) ∧ ns.length = i ∧ ∀ x ∈ ns, 0 ≤ x ∧ x < 10 ^ 14) ⟨_, _, _, rs, [], rfl, s2, e1, lr, e2, rfl, by simp⟩ ?T1 ?_⟩
  case T1 =>
    rintro i σ H3 D1 gD hi ⟨o4, o5, o6, rs, ns, rfl, s3, r3, lr, f3, ln, hb⟩
    have ci : ∃ y, atI (cells.map V.int) ((0 + (i : Int)) % ((cells.map V.int).length : Int)) = some (.int y) ∧ True := by
      obtain ⟨b0, b1⟩ := mod_lt (a := (0 + (i : Int))) ((cells.map V.int).length : Int) (by rw [List.length_map]; omega)
      rw [List.length_map] at b0 b1 ⊢
      obtain ⟨v, hv⟩ := ints_at (ns := cells) b0 b1
      exact ⟨v, hv, trivial⟩
    have ri : ∃ y, atI (rs.map V.int) ((0 + (i : Int)) % ((cells.map V.int).length : Int)) = some (.int y) := by
      obtain ⟨b0, b1⟩ := mod_lt (a := (0 + (i : Int))) ((cells.map V.int).length : Int) (by rw [List.length_map]; omega)
      rw [List.length_map] at b0 b1 ⊢
      exact ints_at (ns := rs) b0 (by omega)
    have rn : ∃ j, ixN (rs.map V.int).length ((0 + (i : Int)) % ((cells.map V.int).length : Int)) = some j := by
      obtain ⟨b0, b1⟩ := mod_lt (a := (0 + (i : Int))) ((cells.map V.int).length : Int) (by rw [List.length_map]; omega)
      rw [List.length_map] at b0 b1
      rw [List.length_map, List.length_map]
      refine ⟨((0 + (i : Int)) % (cells.length : Int)).toNat, ?_⟩
      unfold ixN
      rw [if_pos b0, if_pos (by omega)]
    obtain ⟨y, hy, _⟩ := ci
    obtain ⟨z, hz⟩ := ri
    obtain ⟨j, hj⟩ := rn
    refine ⟨_, rfl, _, rfl, c, _, rfl, .inl (s3.seq hS), _, _, rfl, rfl, ?_, ?_⟩
    · show (0 : Int) < ((cells.map V.int).length : Int)
      rw [List.length_map, l9]; decide
    refine gnm ?_
    dsimp only
    generalize (0 + (i : Int)) % ((cells.map V.int).length : Int) = jj at hy hz hj
    have hRc : ∀ (H' : Hp) , SameB R H3 H' → Same H1 H' := fun H' s g o e => s g o (ne_of_none e hR) (s3 g o e)
    refine and_two True (fun _ => iteT ?TT) (iteF ?EE) (fun qT qF => ⟨_, rfl, _, rfl, c, _, jj, .int y, rfl, rfl, s3.seq hS, hy, _, _, rfl, rfl, (by show (0 : Int) < 2; decide), rfl, _, rfl, ite2 (fun _ => ⟨_, rfl, _, rfl, R, _, jj, .int z, rfl, rfl, SqL.of r3, hz, _, _, rfl, rfl, _, rfl, (by generalize decide ((0 : Int) < z) = b; cases b; exact qF; exact qT trivial)⟩) (fun _ => qF)⟩)
    case TT =>
      have m1 := mod_lt (a := z) ((10 : Int) ^ (14 : Int).toNat) (by decide)
      refine ⟨_, rfl, .inl ⟨rfl, _, SqL.of f3⟩, _, rfl, _, rfl, R, _, jj, .int z, rfl, rfl, SqL.of r3, hz, _, _, rfl, rfl, p14, _, _, rfl, rfl, (by show (0 : Int) < 10 ^ (14 : Int).toNat; decide), Fo, _, _, rfl, rfl, f3, by rw [List.length_map, sizeLine_eq]; omega, ?_⟩
      have r4 : upd H3 Fo (.lst (ns.map V.int ++ [.int (z % 10 ^ (14 : Int).toNat)])) R = some (.lst (rs.map V.int)) := by rw [upd_ne hRF]; exact r3
      refine ⟨_, rfl, _, rfl, R, _, jj, .int z, rfl, rfl, SqL.of r4, hz, _, _, rfl, rfl, p14, _, _, rfl, rfl, ⟨by decide, by decide⟩, _, rfl, _, rfl, R, _, jj, j, rfl, rfl, r4, hj, ?_⟩
      refine gD _ _ ⟨_, _, _, rs.set j (z / 10 ^ (14 : Int).toNat), ns ++ [z % 10 ^ (14 : Int).toNat], rfl, fun g o e => ?_, ?_, ?_, ?_, ?_, ?_⟩
      · rw [upd_ne (ne_of_none e hR), upd_ne (ne_of_none e hFn)]; exact s3 g o e
      · rw [upd_same, List.map_set]
      · rw [List.length_set]; exact lr
      · rw [upd_ne (Ne.symm hRF), upd_same, List.map_append]; rfl
      · rw [List.length_append, ln]; rfl
      · intro x hx
        rcases List.mem_append.mp hx with h | h
        · exact hb x h
        · rw [List.mem_singleton.mp h]; exact m1
    case EE =>
      refine ⟨_, rfl, _, rfl, c, _, jj, .int y, rfl, rfl, s3.seq hS, hy, _, _, rfl, rfl, p30, _, _, rfl, rfl, (by show (0 : Int) < 10 ^ (30 : Int).toNat; decide), _, rfl, _, _, rfl, rfl, .inl ⟨by decide, by decide⟩, _, _, rfl, rfl, _, _, rfl, rfl, _, _, rfl, rfl, .inr ⟨by decide, by decide⟩, _, _, rfl, rfl, (by show (0 : Int) < 2147483647; decide), ?_⟩
      obtain ⟨u0, u1⟩ := mod_lt (a := (y % 10 ^ (30 : Int).toNat + 7919 * (0 + (i : Int)) + 3) * 69621) 2147483647 (by decide)
      refine gnm ?_
      dsimp only
      generalize (y % 10 ^ (30 : Int).toNat + 7919 * (0 + (i : Int)) + 3) * 69621 % 2147483647 = u at u0 u1
      obtain ⟨v0, v1⟩ := mod_lt (a := u * u * 48271) 99999999999973 (by decide)
      refine ⟨_, rfl, .inl ⟨rfl, _, SqL.of f3⟩, _, rfl, _, rfl, _, _, rfl, rfl, .inl ⟨by omega, by omega⟩, _, _, rfl, rfl, .inr ⟨by decide, by decide⟩, _, _, rfl, rfl, (by show (0 : Int) < 99999999999973; decide), Fo, _, _, rfl, rfl, f3, by rw [List.length_map, sizeLine_eq]; omega, ?_⟩
      refine gD _ _ ⟨_, _, _, rs, ns ++ [u * u * 48271 % 99999999999973], rfl, fun g o e => ?_, ?_, lr, ?_, ?_, ?_⟩
      · rw [upd_ne (ne_of_none e hFn)]; exact s3 g o e
      · rw [upd_ne hRF]; exact r3
      · rw [upd_same, List.map_append]; rfl
      · rw [List.length_append, ln]; rfl
      · intro x hx
        rcases List.mem_append.mp hx with h | h
        · exact hb x h
        · rw [List.mem_singleton.mp h]; exact ⟨v0, by omega⟩
  rintro σ H3 ⟨o4, o5, o6, rs, ns, rfl, s3, r3, lr, f3, ln, hb⟩
  refine ⟨_, rfl, 1, rfl, _, rfl, Fo, _, rfl, rfl, SqL.of f3, fun p hp => ?_⟩
  have q3 := same_new hp (.lst (ns.map V.int).reverse)
  refine q _ p (s3.trans q3) (s3.free hp) ⟨ns.reverse, by rw [upd_same, List.map_reverse], by rw [List.length_reverse]; exact ln, fun x hx => hb x (List.mem_reverse.mp hx)⟩
theorem sc_next : FnScope ["_law_draws_here"] ["_law_draws_here"] (defScope s_next) := ⟨rfl, rfl, rfl, by decide +kernel, rfl, by decide +kernel, by decide +kernel⟩
theorem ok_next {f : Addr} {fd : FuncData} (F : Fun K "_law_next" "_law_next" s_next f fd) (T : Txt K mg) : FnOk P w K mg base CX0 1 f fd ["_law_draws_here"] spNext := by
  refine F.ok sc_next (fun vs H Q E h => ?_) (fun cdv A outer s H vs Q E hr h => ?_)
  · obtain ⟨a, n, rfl, _⟩ := h
    rfl
  obtain ⟨a, n, rfl, ⟨ns, ha, ln, hb⟩, q⟩ := h
  have huL : (A.deeper (PyProof.Rows.envOfC "_law_next" (defScope s_next) s.heap.objs.size f cdv)).units < cLine := Nat.lt_of_le_of_lt (Nat.le_add_right _ 150) (hu150_of hr)
  refine ⟨_, (@pss_cons _ _ _ _ _ (@ps_if _ _ _ _ _ _ _ _ (@pt_cmpR _ _ _ _ _ _ _ _ (op_eqE huL) (@pv _ 0 _ _ (by rfl) (by first | exact Or.inl rfl | exact Or.inr (Or.inl rfl) | exact Or.inr (Or.inr rfl)) (by decide) (by decide)) (@pe_lst _ _ _ _ (@pa_nil _)) (nomark _)) (@pss_one _ _ _ (@ps_ret _ _ _ _ (@pe_int _ _ _ _))) (@pss_nil _)) (@pss_one _ _ _ (@ps_ret _ _ _ _ (@pe_bm0 _ _ _ _ _ _ _ _ _ PySem.F.plainAttrs_list PySem.F.slot_list_pop PySem.F.type_list_pop mt_pop (@pv _ 0 _ _ (by rfl) (by first | exact Or.inl rfl | exact Or.inr (Or.inl rfl) | exact Or.inr (Or.inr rfl)) (by decide) (by decide)) (by rfl) (by rfl))))), ?_⟩
  refine ⟨_, rfl, Nat.zero_le _, fun e he => ⟨a, e, _, rfl, rfl, SqL.of (same_new he _ _ _ ha), SqL.of upd_same, _, rfl, ?_⟩⟩
  have q1 := same_new he (.lst [])
  generalize upd H e (.lst []) = H1 at q1 ⊢
  have h1 := q1 _ _ ha
  by_cases c : ns = []
  · subst c
    refine iteT (q H1 0 (Same.b a q1) ⟨[], h1, by rw [← ln]; rfl, by simp⟩ (by decide) (by decide))
  · obtain ⟨n0, x, rfl⟩ := snoc_of c
    rw [show (List.map V.int (n0 ++ [x])).isEmpty = false by simp]
    refine iteF ⟨_, rfl, .inl ⟨rfl, _, SqL.of h1⟩, a, _, .int x, rfl, rfl, h1, by rw [List.map_append]; exact pop_snoc _ _, ?_⟩
    obtain ⟨x0, x1⟩ := hb x (by simp)
    refine q _ x ((Same.b a q1).trans (SameB.upd _ _ _)) ⟨n0, ?_, ?_, fun y hy => hb y (List.mem_append_left _ hy)⟩ x0 x1
    · rw [upd_same, List.map_append, List.map_cons, List.map_nil, List.dropLast_concat]
    · rw [← ln, List.length_append, List.length_singleton]; rfl
theorem sc_times : FnScope ["_law_way", "_law_cell"] ["_law_way", "_law_cell"] (defScope s_times) := ⟨rfl, rfl, rfl, by decide +kernel, rfl, by decide +kernel, by decide +kernel⟩
theorem ok_times {f : Addr} {fd : FuncData} (F : Fun K "_law_times" "_law_times" s_times f fd) (T : Txt K mg) : FnOk P w K mg base CX0 1 f fd ["_law_way", "_law_cell"] spTimes := by
  refine F.ok sc_times (fun vs H Q E h => ?_) (fun cdv A outer s H vs Q E hr h => ?_)
  · obtain ⟨i, c, rfl, _⟩ := h
    rfl
  obtain ⟨i, c, rfl, q⟩ := h
  refine ⟨_, (@pss_one _ _ _ (@ps_ret _ _ _ _ (@pe_ix _ _ _ _ _ _ _ ix_list (@pe_lst _ _ _ _ (@pa_cons _ _ _ _ _ (@pe_int _ _ _ _) (@pa_cons _ _ _ _ _ (@pe_op _ _ _ _ _ _ _ _ op_add (@pe_int _ _ _ _) (@pe_op _ _ _ _ _ _ _ _ op_mod (@pv _ 1 _ _ (by rfl) (by first | exact Or.inl rfl | exact Or.inr (Or.inl rfl) | exact Or.inr (Or.inr rfl)) (by decide) (by decide)) (@pe_int _ _ _ _))) (@pa_cons _ _ _ _ _ (@pe_op _ _ _ _ _ _ _ _ op_add (@pe_int _ _ _ _) (@pe_op _ _ _ _ _ _ _ _ op_mod (@pv _ 1 _ _ (by rfl) (by first | exact Or.inl rfl | exact Or.inr (Or.inl rfl) | exact Or.inr (Or.inr rfl)) (by decide) (by decide)) (@pe_int _ _ _ _))) (@pa_cons _ _ _ _ _ (@pe_int _ _ _ _) (@pa_nil _) (by rfl)) (by rfl)) (by rfl)) (by rfl))) (@pe_op _ _ _ _ _ _ _ _ op_mod (@pv _ 0 _ _ (by rfl) (by first | exact Or.inl rfl | exact Or.inr (Or.inl rfl) | exact Or.inr (Or.inr rfl)) (by decide) (by decide)) (@pe_int _ _ _ _)) (fun _ _ => rfl)))), ?_⟩
  obtain ⟨a0, a1⟩ := mod_lt (a := c) 4 (by decide)
  obtain ⟨b0, b1⟩ := mod_lt (a := c) 99 (by decide)
  obtain ⟨d0, d1⟩ := mod_lt (a := i) 4 (by decide)
  refine ⟨_, rfl, _, _, rfl, rfl, (by show (0 : Int) < 4; decide), _, _, rfl, rfl, _, rfl, _, _, rfl, rfl, (by show (0 : Int) < 99; decide), _, _, rfl, rfl, le4, fun p hp => ?_⟩
  have h4 : ∃ x, atI [V.int 1, .int (1 + c % 4), .int (1 + c % 99), .int 99] (i % 4) = some (.int x) ∧ 1 ≤ x ∧ x ≤ 99 := by
    have e : i % 4 = 0 ∨ i % 4 = 1 ∨ i % 4 = 2 ∨ i % 4 = 3 := by omega
    rcases e with e | e | e | e <;> rw [e]
    · exact ⟨1, rfl, by decide, by decide⟩
    · exact ⟨1 + c % 4, rfl, by omega, by omega⟩
    · exact ⟨1 + c % 99, rfl, by omega, by omega⟩
    · exact ⟨99, rfl, by decide, by decide⟩
  obtain ⟨x, hx, x1, x2⟩ := h4
  exact ⟨_, rfl, _, _, rfl, rfl, (by show (0 : Int) < 4; decide), p, _, _, .int x, rfl, rfl, SqL.of upd_same, hx, q _ x (same_new hp _) x1 x2⟩
end
end K21
set_option maxHeartbeats 1000000
namespace K21
open PySem L2 KB XB
abbrev s_names : Stmt := top 32
abbrev s_length : Stmt := top 34
def zB (x : Str) : Prop := ∃ j, 1 ≤ j ∧ x.cps.toList[j]? = some 122
structure Nms (xs : List Str) : Prop where
  len : xs.length = 5
  nm : ∀ x ∈ xs, nmB x = true
  nd : xs.Nodup
  z : ∀ x ∈ xs, zB x
def nmf (pre post : Str) (t : Int) (k : Nat) : Str := pre ++ ⟨#[97 + ((t + 5 * (k : Int)) % 26).toNat]⟩ ++ Str.ofString "z" ++ post
theorem zstr : (Str.ofString "z").cps.toList = [122] := by decide +kernel
theorem nmf_list (pre post : Str) (t : Int) (k : Nat) : (nmf pre post t k).cps.toList = pre.cps.toList ++ ((97 + ((t + 5 * (k : Int)) % 26).toNat) :: 122 :: post.cps.toList) := by
  unfold nmf
  rw [PySem.W.KT.app_list, PySem.W.KT.app_list, PySem.W.KT.app_list, zstr]
  simp
theorem az_z : Az (Str.ofString "z") 1 := ⟨by rw [zstr]; rfl, fun c hc => by rw [zstr, List.mem_singleton] at hc; rw [hc]; rfl⟩
theorem az_let (t : Int) : azB (97 + (t % 26).toNat) = true := by
  obtain ⟨b0, b1⟩ := mod_lt (a := t) 26 (by decide)
  unfold azB
  rw [decide_eq_true (by omega), decide_eq_true (by omega)]
  rfl
theorem nmf_nms {pre post : Str} {n m : Nat} (h1 : Az pre n) (h2 : Az post m) (h6 : n + m ≤ 6) (t : Int) : Nms ((List.range 5).map (nmf pre post t)) := by
  refine ⟨rfl, fun x hx => ?_, ?_, fun x hx => ?_⟩
  · obtain ⟨k, _, rfl⟩ := List.mem_map.mp hx
    exact az_nm (az_app (az_app (az_app h1 (az_one (az_let _))) az_z) h2) (by omega) (by omega)
  · have inj : ∀ i j : Nat, i < 5 → j < 5 → nmf pre post t i = nmf pre post t j → i = j := fun i j hi hj e => by
      have e1 := congrArg (fun x : Str => x.cps.toList) e
      simp only [nmf_list] at e1
      have e2 := List.append_cancel_left e1
      injection e2 with e3 _
      obtain ⟨b0, b1⟩ := mod_lt (a := t + 5 * (i : Int)) 26 (by decide)
      obtain ⟨c0, c1⟩ := mod_lt (a := t + 5 * (j : Int)) 26 (by decide)
      omega
    rw [List.nodup_iff_pairwise_ne]
    refine List.Pairwise.map (R := fun i j => i < 5 ∧ j < 5 ∧ i ≠ j) _ (fun i j h e => h.2.2 (inj i j h.1 h.2.1 e)) ?_
    decide
  · obtain ⟨k, _, rfl⟩ := List.mem_map.mp hx
    refine ⟨n + 1, by omega, ?_⟩
    rw [nmf_list, List.getElem?_append_right (by rw [h1.1]; omega), h1.1]
    simp
theorem letterV {i : Int} (h0 : 0 ≤ i) (h1 : i < 26) : atI (Str.ofString "abcdefghijklmnopqrstuvwxyz").cps.toList i = some (97 + i.toNat) := by
  have h : ∀ j, j < 26 → (Str.ofString "abcdefghijklmnopqrstuvwxyz").cps.toList[j]? = some (97 + j) := by decide +kernel
  have q := atI_nat (h i.toNat (by omega))
  rwa [show ((i.toNat : Nat) : Int) = i by omega] at q
def spNames : Sp := fun vs H Q _ => ∃ c : Int, vs = [.int c] ∧ 0 ≤ c ∧ ∀ (H' : Hp) (r : Addr) (xs : List Str), Same H H' → H r = none → H' r = some (.lst (xs.map V.str)) → Nms xs → Q (.ref r) H'
structure Sml (xs : List Str) (c : Int) (ps : List Pr) : Prop where
  c0 : 0 ≤ c
  c1 : c ≤ 99
  can : Canon ps
  few : ps.length ≤ 2
  all : ∀ p ∈ ps, p.1 ∈ xs ∧ 1 ≤ p.2 ∧ p.2 ≤ 99
def spLen : Sp := fun vs H Q _ => ∃ (a r : Addr) (n : Nat) (xs : List Str), vs = [.ref a, .ref r] ∧ Dr H a n ∧ H r = some (.lst (xs.map V.str)) ∧ r ≠ a ∧ Nms xs ∧ ∀ (H' : Hp) (v : V) (c : Int) (ps : List Pr), SameB a H H' → Dr H' a (n - 1) → Rep H' (lenDv c ps) v → Sml xs c ps → Q v H'
section
variable {P : Program} {w : World} {K : PySem.W.Frag} {mg : Str → Option Value} {base : Heap}
theorem sc_names : FnScope ["_law_cell", "_law_some", "_law_stem", "_law_k", "_law_at"] ["_law_cell"] (defScope s_names) := ⟨rfl, rfl, rfl, by decide +kernel, rfl, by decide +kernel, by decide +kernel⟩
theorem ok_names {f : Addr} {fd : FuncData} (F : Fun K "_law_names" "_law_names" s_names f fd) (T : Txt K mg) : FnOk P w K mg base CX0 1 f fd ["_law_cell"] spNames := by
  have nd : (["_law_cell", "_law_some", "_law_stem", "_law_k", "_law_at"] : List Str).Nodup := sc_names.nd
  refine F.ok sc_names (fun vs H Q E h => ?_) (fun cdv A outer s H vs Q E hr h => ?_)
  · obtain ⟨c, rfl, _⟩ := h
    rfl
  obtain ⟨c, rfl, c0, q⟩ := h
  refine ⟨_, (@pss_cons _ _ _ _ _ (@ps_set _ _ (1) _ _ _ _ nd rfl (Or.inr rfl) (@pe_str _ _ _ _) (by rfl) (by first | exact .inl rfl | exact .inr rfl | assumption)) (@pss_cons _ _ _ _ _ (@ps_set _ _ (2) _ _ _ _ nd rfl (Or.inr rfl) (@pe_str _ _ _ _) (by rfl) (by first | exact .inl rfl | exact .inr rfl | assumption)) (@pss_cons _ _ _ _ _ (@ps_for _ _ _ _ _ _ _ _ PassesOwn.never rfl (@pi_range1 _ _ _ _ _ _ rfl T.range (@pa_cons _ _ _ _ _ (@pe_op _ _ _ _ _ _ _ _ op_mod (@pv _ 0 _ _ (by rfl) (by first | exact Or.inl rfl | exact Or.inr (Or.inl rfl) | exact Or.inr (Or.inr rfl)) (by decide) (by decide)) (@pe_int _ _ _ _)) (@pa_nil _) (by rfl)) (by rfl)) (@pg_name _ _ (3) _ nd rfl (Or.inl rfl) (by first | exact .inl rfl | exact .inr rfl | assumption)) (@pss_one _ _ _ (@ps_set _ _ (2) _ _ _ _ nd rfl (Or.inr rfl) (@pe_op _ _ _ _ _ _ _ _ op_add_str (@pv _ 2 _ _ (by rfl) (by first | exact Or.inl rfl | exact Or.inr (Or.inl rfl) | exact Or.inr (Or.inr rfl)) (by decide) (by decide)) (@pe_ix _ _ _ _ _ _ _ ix_str (@pv _ 1 _ _ (by rfl) (by first | exact Or.inl rfl | exact Or.inr (Or.inl rfl) | exact Or.inr (Or.inr rfl)) (by decide) (by decide)) (@pe_op _ _ _ _ _ _ _ _ op_mod (@pe_op _ _ _ _ _ _ _ _ op_fdivB (@pv _ 0 _ _ (by rfl) (by first | exact Or.inl rfl | exact Or.inr (Or.inl rfl) | exact Or.inr (Or.inr rfl)) (by decide) (by decide)) (@pe_ix _ _ _ _ _ _ _ ix_list (@pe_lst _ _ _ _ (@pa_cons _ _ _ _ _ (@pe_int _ _ _ _) (@pa_cons _ _ _ _ _ (@pe_int _ _ _ _) (@pa_cons _ _ _ _ _ (@pe_int _ _ _ _) (@pa_cons _ _ _ _ _ (@pe_int _ _ _ _) (@pa_cons _ _ _ _ _ (@pe_int _ _ _ _) (@pa_cons _ _ _ _ _ (@pe_int _ _ _ _) (@pa_nil _) (by rfl)) (by rfl)) (by rfl)) (by rfl)) (by rfl)) (by rfl))) (@pv _ 3 _ _ (by rfl) (by first | exact Or.inl rfl | exact Or.inr (Or.inl rfl) | exact Or.inr (Or.inr rfl)) (by decide) (by decide)) (fun _ _ => rfl))) (@pe_int _ _ _ _)) (fun _ _ => rfl))) (by rfl) (by first | exact .inl rfl | exact .inr rfl | assumption))) (by intro _; rfl)) (@pss_cons _ _ _ _ _ (@ps_set _ _ (4) _ _ _ _ nd rfl (Or.inr rfl) (@pe_op _ _ _ _ _ _ _ _ op_mod (@pe_op _ _ _ _ _ _ _ _ op_fdivB (@pv _ 0 _ _ (by rfl) (by first | exact Or.inl rfl | exact Or.inr (Or.inl rfl) | exact Or.inr (Or.inr rfl)) (by decide) (by decide)) (@pe_int _ _ _ _)) (@pe_op _ _ _ _ _ _ _ _ op_add (@pe_callB _ _ _ _ _ _ _ _ _ call_len_str rfl T.len (by decide +kernel) (@pa_cons _ _ _ _ _ (@pv _ 2 _ _ (by rfl) (by first | exact Or.inl rfl | exact Or.inr (Or.inl rfl) | exact Or.inr (Or.inr rfl)) (by decide) (by decide)) (@pa_nil _) (by rfl)) (by decide) (by decide) (by rfl) (by rfl)) (@pe_int _ _ _ _))) (by rfl) (by first | exact .inl rfl | exact .inr rfl | assumption)) (@pss_one _ _ _ (@ps_ret _ _ _ _ (@pe_lc _ _ (["_law_k"]) ([0, 1, 2, 4]) _ _ _ _ _ _ _ _ _ (@pi_range1 _ _ _ _ _ _ rfl T.range (@pa_cons _ _ _ _ _ (@pe_int _ _ _ _) (@pa_nil _) (by rfl)) (by rfl)) (.of rfl) rfl (fun _ _ _ => pg_name (i := 0) (lc_nd (l := ["_law_k", "_law_cell", "_law_some", "_law_stem", "_law_at"]) ((by decide +kernel)) rfl) rfl (Or.inl rfl)) (gw_name (by decide)) (fun _ _ _ => (@pif_nil _)) (fun _ _ _ => (@pe_op _ _ _ _ _ _ _ _ op_add_str (@pe_op _ _ _ _ _ _ _ _ op_add_str (@pe_op _ _ _ _ _ _ _ _ op_add_str (@pe_slice _ _ _ _ _ _ _ _ _ _ sl_str (@pv _ 3 _ _ (by rfl) (by first | exact Or.inl rfl | exact Or.inr (Or.inl rfl) | exact Or.inr (Or.inr rfl)) (by decide) (by decide)) (@po_none _) (@po_some _ _ _ (@pv _ 4 _ _ (by rfl) (by first | exact Or.inl rfl | exact Or.inr (Or.inl rfl) | exact Or.inr (Or.inr rfl)) (by decide) (by decide)))) (@pe_ix _ _ _ _ _ _ _ ix_str (@pv _ 2 _ _ (by rfl) (by first | exact Or.inl rfl | exact Or.inr (Or.inl rfl) | exact Or.inr (Or.inr rfl)) (by decide) (by decide)) (@pe_op _ _ _ _ _ _ _ _ op_mod (@pe_op _ _ _ _ _ _ _ _ op_add (@pe_op _ _ _ _ _ _ _ _ op_fdivB (@pv _ 1 _ _ (by rfl) (by first | exact Or.inl rfl | exact Or.inr (Or.inl rfl) | exact Or.inr (Or.inr rfl)) (by decide) (by decide)) (@pe_int _ _ _ _)) (@pe_op _ _ _ _ _ _ _ _ op_mul (@pe_int _ _ _ _) (@pv _ 0 _ _ (by rfl) (by first | exact Or.inl rfl | exact Or.inr (Or.inl rfl) | exact Or.inr (Or.inr rfl)) (by decide) (by decide)))) (@pe_int _ _ _ _)) (fun _ _ => rfl))) (@pe_str _ _ _ _)) (@pe_slice _ _ _ _ _ _ _ _ _ _ sl_str (@pv _ 3 _ _ (by rfl) (by first | exact Or.inl rfl | exact Or.inr (Or.inl rfl) | exact Or.inr (Or.inr rfl)) (by decide) (by decide)) (@po_some _ _ _ (@pv _ 4 _ _ (by rfl) (by first | exact Or.inl rfl | exact Or.inr (Or.inl rfl) | exact Or.inr (Or.inr rfl)) (by decide) (by decide))) (@po_none _)))) (by intro _; rfl)))))))), ?_⟩
  have abc : (Str.ofString "abcdefghijklmnopqrstuvwxyz").length ≤ sizeLine := by rw [sizeLine_eq]; decide +kernel
  obtain ⟨m0, m1⟩ := mod_lt (a := c) 7 (by decide)
  refine ⟨_, rfl, _, _, rfl, rfl, (by show (0 : Int) < 7; decide), _, rfl, by omega, by omega, for_range_o (n := (c % 7).toNat) (fun i σ H' => ∃ (stem : Str) (o3 : Option V), σ = [some (.int c), some (.str "abcdefghijklmnopqrstuvwxyz"), some (.str stem), o3, none] ∧ Same H H' ∧ Az stem i) ⟨_, _, rfl, Same.refl _, az_empty⟩ ?T1 ?_⟩
  case T1 =>
    rintro i σ H2 D1 gD hi ⟨stem, o1, rfl, s2, az⟩
    have h6 : ∃ d, atI [V.int 7, .int 182, .int 4732, .int 123032, .int 3198832, .int 83169632] (0 + (i : Int)) = some (.int d) ∧ 0 < d ∧ d < 10 ^ 60 := by
      have e : i = 0 ∨ i = 1 ∨ i = 2 ∨ i = 3 ∨ i = 4 ∨ i = 5 := by omega
      rcases e with e | e | e | e | e | e <;> subst e
      · exact ⟨_, rfl, by decide, by decide⟩
      · exact ⟨_, rfl, by decide, by decide⟩
      · exact ⟨_, rfl, by decide, by decide⟩
      · exact ⟨_, rfl, by decide, by decide⟩
      · exact ⟨_, rfl, by decide, by decide⟩
      · exact ⟨_, rfl, by decide, by decide⟩
    obtain ⟨d, hd, d0, d1⟩ := h6
    obtain ⟨b0, b1⟩ := mod_lt (a := c / d) 26 (by decide)
    refine ⟨_, rfl, _, rfl, _, rfl, (by show 6 ≤ sizeLine; rw [sizeLine_eq]; decide), fun p hp => ⟨_, rfl, p, _, _, .int d, rfl, rfl, SqL.of upd_same, hd, _, _, rfl, rfl, ⟨d0, d1⟩, _, _, rfl, rfl, (by show (0 : Int) < 26; decide), _, _, _, rfl, rfl, abc, letterV b0 b1, _, _, rfl, rfl, ?_, ?_⟩⟩
    · rw [az.len, (az_one (az_let _)).len, sizeLine_eq]; omega
    · exact gD _ _ ⟨_, _, rfl, s2.trans (same_new hp _), az_app az (az_one (az_let _))⟩
  rintro σ H2 ⟨stem, o1, rfl, s2, az⟩
  have ln := az.len
  have stl : stem.length ≤ sizeLine := by rw [ln, sizeLine_eq]; omega
  refine ⟨_, rfl, _, _, rfl, rfl, ⟨by decide, by decide⟩, _, rfl, _, rfl, stl, _, _, rfl, rfl, _, _, rfl, rfl, (by show (0 : Int) < (stem.length : Int) + 1; omega), ?_⟩
  obtain ⟨y0, y1⟩ := mod_lt (a := c / 2162410432) ((stem.length : Int) + 1) (by omega)
  refine gnm ?_
  dsimp only
  generalize c / 2162410432 % ((stem.length : Int) + 1) = y at y0 y1
  have at1 : y ≤ (c % 7).toNat := by rw [ln] at y1; omega
  have zf := az_from az y0 at1
  have zt := az_to az y0 at1
  refine ⟨_, rfl, by decide, by decide, lc_range (lo := 0) (n := 5) (fun i ys H' => H' = H2 ∧ ys = ((List.range i).map (nmf (Txt.slice stem none (some y)) (Txt.slice stem (some y) none) (c / 15136873024))).map V.str) ⟨rfl, rfl⟩ ?_ ?_⟩
  · rintro i ys H5 hi ⟨rfl, rfl⟩
    obtain ⟨b0, b1⟩ := mod_lt (a := c / 15136873024 + 5 * ((0 : Int) + (i : Int))) 26 (by decide)
    have e1 := az_app zt (az_one (az_let (c / 15136873024 + 5 * ((0 : Int) + (i : Int)))))
    have e2 := az_app e1 az_z
    refine turn_name ⟨_, rfl, _, rfl, _, rfl, _, rfl, stl, _, rfl, _, rfl, _, _, rfl, rfl, ⟨by decide, by decide⟩, _, rfl, _, _, rfl, rfl, .inl ⟨by decide, by decide⟩, _, _, rfl, rfl, _, _, rfl, rfl, (by show (0 : Int) < 26; decide), _, _, _, rfl, rfl, abc, letterV b0 b1, _, _, rfl, rfl, ?_, _, _, rfl, rfl, ?_, _, rfl, _, rfl, _, rfl, _, rfl, stl, _, _, rfl, rfl, ?_, ?_, rfl, ?_⟩
    · rw [zt.len, (az_one (az_let _)).len, sizeLine_eq]; omega
    · rw [e1.len, az_z.len, sizeLine_eq]; omega
    · rw [e2.len, zf.len, sizeLine_eq]; omega
    · rw [List.length_map, List.length_map, List.length_range, sizeLine_eq]; omega
    · rw [List.range_succ, List.map_append, List.map_append]
      rw [show (0 : Int) + (i : Int) = (i : Int) by omega]
      rfl
  · rintro ys H5 ⟨rfl, rfl⟩ r hr'
    exact q _ r _ (s2.trans (same_new hr' _)) (s2.free hr') upd_same (nmf_nms zt zf (by omega) _)
theorem sc_length : FnScope ["_law_draws_here", "_law_names_here", "_law_cell", "_law_one", "_law_other", "_law_parts_here"] ["_law_draws_here", "_law_names_here"] (defScope s_length) := ⟨rfl, rfl, rfl, by decide +kernel, rfl, by decide +kernel, by decide +kernel⟩
theorem ok_length {f : Addr} {fd : FuncData} {k0 : Nat} (F : Fun K "_law_length" "_law_length" s_length f fd) (T : Txt K mg) (D_law_next : Def P w K mg base k0 "_law_next" ["_law_draws_here"] spNext) (D_law_times : Def P w K mg base k0 "_law_times" ["_law_way", "_law_cell"] spTimes) : FnOk P w K mg base CX0 (k0 + 1) f fd ["_law_draws_here", "_law_names_here"] spLen := by
  have nd : (["_law_draws_here", "_law_names_here", "_law_cell", "_law_one", "_law_other", "_law_parts_here"] : List Str).Nodup := sc_length.nd
  refine F.ok sc_length (fun vs H Q E h => ?_) (fun cdv A outer s H vs Q E hr h => ?_)
  · obtain ⟨a, r, n, xs, rfl, _⟩ := h
    rfl
  obtain ⟨a, r, n, xs, rfl, hD, hr0, ra, nms, q⟩ := h
  refine ⟨_, (@pss_cons _ _ _ _ _ (@ps_set _ _ (2) _ _ _ _ nd rfl (Or.inl rfl) (@pe_def _ _ _ _ _ _ _ _ _ _ D_law_next hr rfl (@pa_cons _ _ _ _ _ (@pv _ 0 _ _ (by rfl) (by first | exact Or.inl rfl | exact Or.inr (Or.inl rfl) | exact Or.inr (Or.inr rfl)) (by decide) (by decide)) (@pa_nil _) (by rfl)) (by decide) (by rfl) (by rfl)) (by rfl) (by first | exact .inl rfl | exact .inr rfl | assumption)) (@pss_cons _ _ _ _ _ (@ps_set _ _ (3) _ _ _ _ nd rfl (Or.inl rfl) (@pe_op _ _ _ _ _ _ _ _ op_mod (@pe_op _ _ _ _ _ _ _ _ op_fdiv (@pv _ 2 _ _ (by rfl) (by first | exact Or.inl rfl | exact Or.inr (Or.inl rfl) | exact Or.inr (Or.inr rfl)) (by decide) (by decide)) (@pe_int _ _ _ _)) (@pe_int _ _ _ _)) (by rfl) (by first | exact .inl rfl | exact .inr rfl | assumption)) (@pss_cons _ _ _ _ _ (@ps_set _ _ (4) _ _ _ _ nd rfl (Or.inl rfl) (@pe_op _ _ _ _ _ _ _ _ op_mod (@pe_op _ _ _ _ _ _ _ _ op_add (@pe_op _ _ _ _ _ _ _ _ op_add (@pv _ 3 _ _ (by rfl) (by first | exact Or.inl rfl | exact Or.inr (Or.inl rfl) | exact Or.inr (Or.inr rfl)) (by decide) (by decide)) (@pe_int _ _ _ _)) (@pe_op _ _ _ _ _ _ _ _ op_mod (@pe_op _ _ _ _ _ _ _ _ op_fdiv (@pv _ 2 _ _ (by rfl) (by first | exact Or.inl rfl | exact Or.inr (Or.inl rfl) | exact Or.inr (Or.inr rfl)) (by decide) (by decide)) (@pe_int _ _ _ _)) (@pe_int _ _ _ _))) (@pe_int _ _ _ _)) (by rfl) (by first | exact .inl rfl | exact .inr rfl | assumption)) (@pss_cons _ _ _ _ _ (@ps_set _ _ (5) _ _ _ _ nd rfl (Or.inl rfl) (@pe_lst _ _ _ _ (@pa_cons _ _ _ _ _ (@pe_tup _ _ _ _ _ (@pa_cons _ _ _ _ _ (@pe_ix _ _ _ _ _ _ _ ix_list (@pv _ 1 _ _ (by rfl) (by first | exact Or.inl rfl | exact Or.inr (Or.inl rfl) | exact Or.inr (Or.inr rfl)) (by decide) (by decide)) (@pv _ 3 _ _ (by rfl) (by first | exact Or.inl rfl | exact Or.inr (Or.inl rfl) | exact Or.inr (Or.inr rfl)) (by decide) (by decide)) (fun _ _ => rfl)) (@pa_cons _ _ _ _ _ (@pe_def _ _ _ _ _ _ _ _ _ _ D_law_times hr rfl (@pa_cons _ _ _ _ _ (@pe_op _ _ _ _ _ _ _ _ op_fdiv (@pv _ 2 _ _ (by rfl) (by first | exact Or.inl rfl | exact Or.inr (Or.inl rfl) | exact Or.inr (Or.inr rfl)) (by decide) (by decide)) (@pe_int _ _ _ _)) (@pa_cons _ _ _ _ _ (@pe_op _ _ _ _ _ _ _ _ op_mod (@pe_op _ _ _ _ _ _ _ _ op_fdiv (@pv _ 2 _ _ (by rfl) (by first | exact Or.inl rfl | exact Or.inr (Or.inl rfl) | exact Or.inr (Or.inr rfl)) (by decide) (by decide)) (@pe_int _ _ _ _)) (@pe_int _ _ _ _)) (@pa_nil _) (by rfl)) (by rfl)) (by decide) (by rfl) (by rfl)) (@pa_nil _) (by rfl)) (by rfl))) (@pa_nil _) (by rfl))) (by rfl) (by first | exact .inl rfl | exact .inr rfl | assumption)) (@pss_cons _ _ _ _ _ (@ps_expr _ _ _ _ (@pe_bm _ _ _ _ _ _ _ _ _ _ _ _ PySem.F.plainAttrs_list PySem.F.slot_list_append PySem.F.type_list_append mt_append (@pv _ 5 _ _ (by rfl) (by first | exact Or.inl rfl | exact Or.inr (Or.inl rfl) | exact Or.inr (Or.inr rfl)) (by decide) (by decide)) (@pa_cons _ _ _ _ _ (@pe_tup _ _ _ _ _ (@pa_cons _ _ _ _ _ (@pe_ix _ _ _ _ _ _ _ ix_list (@pv _ 1 _ _ (by rfl) (by first | exact Or.inl rfl | exact Or.inr (Or.inl rfl) | exact Or.inr (Or.inr rfl)) (by decide) (by decide)) (@pv _ 4 _ _ (by rfl) (by first | exact Or.inl rfl | exact Or.inr (Or.inl rfl) | exact Or.inr (Or.inr rfl)) (by decide) (by decide)) (fun _ _ => rfl)) (@pa_cons _ _ _ _ _ (@pe_def _ _ _ _ _ _ _ _ _ _ D_law_times hr rfl (@pa_cons _ _ _ _ _ (@pe_op _ _ _ _ _ _ _ _ op_fdiv (@pv _ 2 _ _ (by rfl) (by first | exact Or.inl rfl | exact Or.inr (Or.inl rfl) | exact Or.inr (Or.inr rfl)) (by decide) (by decide)) (@pe_int _ _ _ _)) (@pa_cons _ _ _ _ _ (@pe_op _ _ _ _ _ _ _ _ op_mod (@pe_op _ _ _ _ _ _ _ _ op_fdiv (@pv _ 2 _ _ (by rfl) (by first | exact Or.inl rfl | exact Or.inr (Or.inl rfl) | exact Or.inr (Or.inr rfl)) (by decide) (by decide)) (@pe_int _ _ _ _)) (@pe_int _ _ _ _)) (@pa_nil _) (by rfl)) (by rfl)) (by decide) (by rfl) (by rfl)) (@pa_nil _) (by rfl)) (by rfl))) (@pa_nil _) (by rfl)) (by rfl) (by rfl) (by rfl) (by rfl) (by rfl)) (by rfl)) (@pss_cons _ _ _ _ _ (@ps_set _ _ (5) _ _ _ _ nd rfl (Or.inl rfl) (@pe_slice _ _ _ _ _ _ _ _ _ _ sl_list (@pv _ 5 _ _ (by rfl) (by first | exact Or.inl rfl | exact Or.inr (Or.inl rfl) | exact Or.inr (Or.inr rfl)) (by decide) (by decide)) (@po_none _) (@po_some _ _ _ (@pe_op _ _ _ _ _ _ _ _ op_mod (@pv _ 2 _ _ (by rfl) (by first | exact Or.inl rfl | exact Or.inr (Or.inl rfl) | exact Or.inr (Or.inr rfl)) (by decide) (by decide)) (@pe_int _ _ _ _)))) (by rfl) (by first | exact .inl rfl | exact .inr rfl | assumption)) (@pss_cons _ _ _ _ _ (@ps_set _ _ (2) _ _ _ _ nd rfl (Or.inl rfl) (@pe_op _ _ _ _ _ _ _ _ op_fdiv (@pv _ 2 _ _ (by rfl) (by first | exact Or.inl rfl | exact Or.inr (Or.inl rfl) | exact Or.inr (Or.inr rfl)) (by decide) (by decide)) (@pe_int _ _ _ _)) (by rfl) (by first | exact .inl rfl | exact .inr rfl | assumption)) (@pss_one _ _ _ (@ps_ret _ _ _ _ (@pe_tup _ _ _ _ _ (@pa_cons _ _ _ _ _ (@pe_ix _ _ _ _ _ _ _ ix_list (@pe_lst _ _ _ _ (@pa_cons _ _ _ _ _ (@pe_int _ _ _ _) (@pa_cons _ _ _ _ _ (@pe_op _ _ _ _ _ _ _ _ op_mod (@pe_op _ _ _ _ _ _ _ _ op_fdiv (@pv _ 2 _ _ (by rfl) (by first | exact Or.inl rfl | exact Or.inr (Or.inl rfl) | exact Or.inr (Or.inr rfl)) (by decide) (by decide)) (@pe_int _ _ _ _)) (@pe_int _ _ _ _)) (@pa_cons _ _ _ _ _ (@pe_op _ _ _ _ _ _ _ _ op_mod (@pe_op _ _ _ _ _ _ _ _ op_fdiv (@pv _ 2 _ _ (by rfl) (by first | exact Or.inl rfl | exact Or.inr (Or.inl rfl) | exact Or.inr (Or.inr rfl)) (by decide) (by decide)) (@pe_int _ _ _ _)) (@pe_int _ _ _ _)) (@pa_cons _ _ _ _ _ (@pe_int _ _ _ _) (@pa_nil _) (by rfl)) (by rfl)) (by rfl)) (by rfl))) (@pe_op _ _ _ _ _ _ _ _ op_mod (@pv _ 2 _ _ (by rfl) (by first | exact Or.inl rfl | exact Or.inr (Or.inl rfl) | exact Or.inr (Or.inr rfl)) (by decide) (by decide)) (@pe_int _ _ _ _)) (fun _ _ => rfl)) (@pa_cons _ _ _ _ _ (@pe_callTy _ _ _ _ _ _ _ _ _ call_tuple_of rfl T.tuple (by decide +kernel) (@pa_cons _ _ _ _ _ (@pe_callB _ _ _ _ _ _ _ _ _ call_sortedT rfl T.sorted (by decide +kernel) (@pa_cons _ _ _ _ _ (@pv _ 5 _ _ (by rfl) (by first | exact Or.inl rfl | exact Or.inr (Or.inl rfl) | exact Or.inr (Or.inr rfl)) (by decide) (by decide)) (@pa_nil _) (by rfl)) (by decide) (by decide) (by rfl) (by rfl)) (@pa_nil _) (by rfl)) (by decide) (by decide) (by rfl) (by rfl)) (@pa_nil _) (by rfl)) (by rfl)))))))))))), ?_⟩
  refine seq_n fun N1 g1 => ?_
  refine ⟨_, rfl, a, n, rfl, hD, fun H1 x s1 d1 x0 x1 => gnm (g1 _ _ ?_)⟩
  have r1 := s1 _ _ ra hr0
  obtain ⟨u0, u1⟩ := mod_lt (a := x / 3) 5 (by decide)
  obtain ⟨v0, v1⟩ := mod_lt (a := x / 15) 4 (by decide)
  refine seq_n fun N2 g2 => ?_
  refine ⟨_, rfl, _, _, rfl, rfl, ⟨by decide, by decide⟩, _, _, rfl, rfl, (by show (0 : Int) < 5; decide), ?_⟩
  refine gnm (g2 _ _ ?_)
  dsimp only
  generalize x / 3 % 5 = u at u0 u1
  refine seq_n fun N3 g3 => ?_
  refine ⟨_, rfl, _, _, rfl, rfl, _, rfl, _, _, rfl, rfl, ⟨by decide, by decide⟩, _, _, rfl, rfl, (by show (0 : Int) < 4; decide), _, _, rfl, rfl, _, _, rfl, rfl, (by show (0 : Int) < 5; decide), ?_⟩
  refine gnm (g3 _ _ ?_)
  dsimp only
  generalize x / 15 % 4 = v at v0 v1
  obtain ⟨o0, o1⟩ := mod_lt (a := u + 1 + v) 5 (by decide)
  have ou : (u + 1 + v) % 5 ≠ u := by omega
  generalize (u + 1 + v) % 5 = o at o0 o1 ou
  have lx := nms.len
  obtain ⟨n1, hn1⟩ : ∃ n1, xs[u.toNat]? = some n1 := ⟨xs[u.toNat], List.getElem?_eq_getElem (by omega)⟩
  obtain ⟨n2, hn2⟩ : ∃ n2, xs[o.toNat]? = some n2 := ⟨xs[o.toNat], List.getElem?_eq_getElem (by omega)⟩
  have n12 : n1 ≠ n2 := fun e => by
    subst e
    have := (List.getElem?_inj (i := u.toNat) (j := o.toNat) (by omega) nms.nd).mp (by rw [hn1, hn2])
    omega
  have at1 : atI (xs.map V.str) u = some (.str n1) := by
    have := atI_nat (α := V) (xs := xs.map V.str) (j := u.toNat) (v := .str n1) (by rw [List.getElem?_map, hn1]; rfl)
    rwa [show ((u.toNat : Nat) : Int) = u by omega] at this
  have at2 : atI (xs.map V.str) o = some (.str n2) := by
    have := atI_nat (α := V) (xs := xs.map V.str) (j := o.toNat) (v := .str n2) (by rw [List.getElem?_map, hn2]; rfl)
    rwa [show ((o.toNat : Nat) : Int) = o by omega] at this
  refine ⟨_, rfl, _, rfl, r, _, u, .str n1, rfl, rfl, SqL.of r1, at1, _, rfl, _, _, rfl, rfl, ⟨by decide, by decide⟩, _, rfl, _, _, rfl, rfl, ⟨by decide, by decide⟩, _, _, rfl, rfl, (by show (0 : Int) < 99; decide), _, _, rfl, fun H2 t1 s2 t10 t11 => ⟨z2, fun p1 hp1 => ⟨z1, fun L hL => ?_⟩⟩⟩
  have q3 := same_new hp1 (.tup [.str n1, .int t1])
  have q4 := same_new hL (.lst [.ref p1])
  have e1 := q4 _ _ (upd_same (H := H2) (a := p1) (o := .tup [.str n1, .int t1]))
  have eL : upd (upd H2 p1 (.tup [.str n1, .int t1])) L (.lst [.ref p1]) L = some (.lst [.ref p1]) := upd_same
  have s4 := s2.trans (q3.trans q4)
  generalize upd (upd H2 p1 (.tup [.str n1, .int t1])) L (.lst [.ref p1]) = H4 at e1 eL s4 ⊢
  refine gnm ?_
  dsimp only
  have rr : ∀ H', Same H1 H' → SqL K H' r (xs.map V.str) := fun H' s => SqL.of (s _ _ r1)
  have LH1 : H1 L = none := (s2.trans q3).free hL
  refine ⟨_, rfl, .inl ⟨rfl, _, SqL.of eL⟩, _, rfl, _, rfl, r, _, o, .str n2, rfl, rfl, rr _ s4, at2, _, rfl, _, _, rfl, rfl, ⟨by decide, by decide⟩, _, rfl, _, _, rfl, rfl, ⟨by decide, by decide⟩, _, _, rfl, rfl, (by show (0 : Int) < 99; decide), _, _, rfl, fun H5 t2 s5 t20 t21 => ⟨z2, fun p2 hp2 => ?_⟩⟩
  have q6 := same_new hp2 (.tup [.str n2, .int t2])
  have e2 : upd H5 p2 (.tup [.str n2, .int t2]) p2 = some (.tup [.str n2, .int t2]) := upd_same
  have s6 := s5.trans q6
  generalize upd H5 p2 (.tup [.str n2, .int t2]) = H6 at q6 e2 s6 ⊢
  refine ⟨L, _, _, rfl, rfl, s6 _ _ eL, (by show 1 < sizeLine; rw [sizeLine_eq]; decide), ?_⟩
  have b7 := SameB.upd H6 L (.lst ([.ref p1] ++ [.ref p2]))
  have eL7 : upd H6 L (.lst ([.ref p1] ++ [.ref p2])) L = some (.lst [.ref p1, .ref p2]) := upd_same
  have p1L : p1 ≠ L := fun e => by rw [e, eL] at e1; cases e1
  have p2L : p2 ≠ L := fun e => by rw [e, s6 _ _ eL] at e2; cases e2
  have e1' := b7 _ _ p1L (s6 _ _ e1)
  have e2' := b7 _ _ p2L e2
  have s7 : Same H1 (upd H6 L (.lst ([.ref p1] ++ [.ref p2]))) := fun g oo e => b7 g oo (ne_of_none e LH1) (s6 _ _ (s4 _ _ e))
  generalize upd H6 L (.lst ([.ref p1] ++ [.ref p2])) = H7 at eL7 e1' e2' s7 ⊢
  obtain ⟨w0, w1⟩ := mod_lt (a := x) 3 (by decide)
  refine ⟨_, rfl, _, rfl, _, _, rfl, rfl, (by show (0 : Int) < 3; decide), _, rfl, L, _, rfl, SqL.of eL7, fun M hM => ?_⟩
  have q8 := same_new hM (.lst (cutV [.ref p1, .ref p2] none (some (x % 3))))
  have eM : upd H7 M (.lst (cutV [.ref p1, .ref p2] none (some (x % 3)))) M = some (.lst (([.ref p1, .ref p2] : List V).take (x % 3).toNat)) := by
    rw [upd_same, show x % 3 = (((x % 3).toNat : Nat) : Int) by omega, cut_toA]
    rfl
  generalize upd H7 M (.lst (cutV [.ref p1, .ref p2] none (some (x % 3)))) = H8 at q8 eM ⊢
  generalize (x % 3).toNat = j at eM
  refine gnm ?_
  dsimp only
  refine ⟨_, rfl, _, _, rfl, rfl, ⟨by decide, by decide⟩, ?_⟩
  refine gnm ?_
  dsimp only
  generalize x / 9408960 = y
  obtain ⟨c0, c1⟩ := mod_lt (a := y / 4) 5 (by decide)
  obtain ⟨d0, d1'⟩ := mod_lt (a := y / 4) 100 (by decide)
  obtain ⟨f0, f1⟩ := mod_lt (a := y) 4 (by decide)
  refine ⟨_, rfl, _, _, rfl, rfl, ⟨by decide, by decide⟩, _, _, rfl, rfl, (by show (0 : Int) < 5; decide), _, rfl, _, _, rfl, rfl, ⟨by decide, by decide⟩, _, _, rfl, rfl, (by show (0 : Int) < 100; decide), le4, fun N hN => ?_⟩
  have h4 : ∃ cc, atI [V.int 0, .int (y / 4 % 5), .int (y / 4 % 100), .int 99] (y % 4) = some (.int cc) ∧ 0 ≤ cc ∧ cc ≤ 99 := by
    have e : y % 4 = 0 ∨ y % 4 = 1 ∨ y % 4 = 2 ∨ y % 4 = 3 := by omega
    rcases e with e | e | e | e <;> rw [e]
    · exact ⟨0, rfl, by decide, by decide⟩
    · exact ⟨_, rfl, by omega, by omega⟩
    · exact ⟨_, rfl, by omega, by omega⟩
    · exact ⟨99, rfl, by decide, by decide⟩
  obtain ⟨cc, hcc, cc0, cc1⟩ := h4
  have q9 := same_new hN (.lst [V.int 0, .int (y / 4 % 5), .int (y / 4 % 100), .int 99])
  have eN : upd H8 N (.lst [V.int 0, .int (y / 4 % 5), .int (y / 4 % 100), .int 99]) N = some (.lst [V.int 0, .int (y / 4 % 5), .int (y / 4 % 100), .int 99]) := upd_same
  have s9 := s7.trans (q8.trans q9)
  have eM9 := q9 _ _ eM
  have e19 := q9 _ _ (q8 _ _ e1')
  have e29 := q9 _ _ (q8 _ _ e2')
  generalize upd H8 N (.lst [V.int 0, .int (y / 4 % 5), .int (y / 4 % 100), .int 99]) = H9 at eN s9 eM9 e19 e29 ⊢
  let tk : List TK := [(p1, n1, [.int t1]), (p2, n2, [.int t2])]
  have htk : ∀ p ∈ tk.take j, p ∈ tk := fun p hp => List.mem_of_mem_take hp
  have hat : ∀ p ∈ tk.take j, H9 p.1 = some (.tup (.str p.2.1 :: p.2.2)) := fun p hp => by
    rcases List.mem_cons.mp (htk p hp) with rfl | h
    · exact e19
    · rw [List.mem_singleton.mp h]; exact e29
  have hnd : ((tk.take j).map (·.2.1)).Nodup := by
    have : (tk.map (·.2.1)).Nodup := by show [n1, n2].Nodup; simp [n12]
    rw [List.map_take]
    exact this.sublist (List.take_sublist _ _)
  have ljk : (tk.take j).length ≤ 2 := by rw [List.length_take]; exact Nat.min_le_right _ _
  have emk : ([.ref p1, .ref p2] : List V).take j = (tk.take j).map fun p => V.ref p.1 := by rw [List.map_take]; rfl
  rw [emk] at eM9
  refine ⟨_, rfl, _, _, rfl, rfl, (by show (0 : Int) < 4; decide), N, _, _, .int cc, rfl, rfl, SqL.of eN, hcc, _, rfl, M, tk.take j, rfl, SqL.of eM9, hat, hnd, by omega, fun qs l pq pw hl => ⟨l, _, rfl, .inl ⟨SqL.of upd_same, fun t ht => ⟨z2, fun p hp => ?_⟩⟩⟩⟩
  have qa := same_new hl (.lst (qs.map fun p => V.ref p.1))
  generalize upd H9 l (.lst (qs.map fun p => V.ref p.1)) = Ha at qa ht hp ⊢
  have kvs : ∃ kvs : List Pr, (tk.take j).map (·.2) = (kvs.map fun p => (p.1, V.int p.2)).map (fun p => (p.1, [p.2])) ∧ (∀ p ∈ kvs, p.1 ∈ xs ∧ 1 ≤ p.2 ∧ p.2 ≤ 99) ∧ kvs.length ≤ 2 := by
    refine ⟨([(n1, t1), (n2, t2)] : List Pr).take j, by rw [List.map_take, List.map_take, List.map_take]; rfl, fun p hp => ?_, by rw [List.length_take]; exact Nat.min_le_right _ _⟩
    rcases List.mem_cons.mp (List.mem_of_mem_take hp) with rfl | h
    · exact ⟨List.mem_of_getElem? hn1, t10, t11⟩
    · rw [List.mem_singleton.mp h]; exact ⟨List.mem_of_getElem? hn2, t20, t21⟩
  obtain ⟨kvs, ek, hall, lk⟩ := kvs
  obtain ⟨perm, can, rep⟩ := items_canon (G := fun _ => none) (H2 := Ha) (kvs := kvs) (qs := qs) (fun r hr' => ⟨qa _ _ (hat r (pq.mem_iff.mp hr')), rfl⟩) (by rw [← ek]; exact pq.map _) pw fun p hp => (hall p hp).2.1
  have R1 := rep t ht
  have qt := same_new ht (.tup (qs.map fun r => V.ref r.1))
  generalize upd Ha t (.tup (qs.map fun r => V.ref r.1)) = Hb at R1 qt hp ⊢
  have qp := same_new hp (.tup [.int cc, .ref t])
  have sE : Same H1 (upd Hb p (.tup [.int cc, .ref t])) := s9.trans (qa.trans (qt.trans qp))
  exact q _ _ cc (qs.map tkV) (s1.trans (Same.b a sE)) (d1.m sE) (tups_len upd_same (R1.mono qp)) ⟨cc0, cc1, can, by rw [perm.length_eq]; exact lk, fun x hx => hall x (perm.mem_iff.mp hx)⟩
end
end K21
set_option maxHeartbeats 1000000
namespace K21
open PySem L2 KB XB
abbrev s_kind : Stmt := top 35
abbrev s_plain : Stmt := top 37
def spKind (m : Nat) : Sp := fun vs H Q _ => ∃ (a r : Addr) (n : Nat) (xs : List Str) (g : Nat), vs = [.ref a, .ref r, .int g] ∧ g < m ∧ Dr H a n ∧ H r = some (.lst (xs.map V.str)) ∧ r ≠ a ∧ Nms xs ∧ ∀ (H' : Hp) (v : V) (k : Kd) (n' : Nat), SameB a H H' → Dr H' a n' → Rep H' k.dv v → k.All (Sml xs) → k.size < 2 ^ (g + 1) → Q v H'
def Lf (xs : List Str) : So → Dv → Prop
  | .n, d => ∃ i : Int, d = .int i ∧ 0 ≤ i ∧ i < 10 ^ 12
  | .x, d => ∃ (j : Nat) (nm : Str), j < 4 ∧ xs[j]? = some nm ∧ d = .str nm
  | .y, d => ∃ nm : Str, xs[4]? = some nm ∧ d = .str nm
  | .f, d => ∃ nm ∈ xs, d = .str nm
  | .w, d => ∃ x ∈ reck, d = .str x
  | .l, d => ∃ (c : Int) (ps : List Pr), d = lenDv c ps ∧ Sml xs c ps
  | .k, d => ∃ k : Kd, d = k.dv ∧ k.All (Sml xs) ∧ k.size ≤ 7
  | _, _ => False
theorem Lf.pl {xs : List Str} : ∀ s d, Lf xs s d → L2.Pl 10 d := by
  intro s d h
  cases s with
  | n => obtain ⟨i, rfl, _⟩ := h; exact .int
  | x => obtain ⟨j, nm, _, _, rfl⟩ := h; exact .str
  | y => obtain ⟨nm, _, rfl⟩ := h; exact .str
  | f => obtain ⟨nm, _, rfl⟩ := h; exact .str
  | w => obtain ⟨nm, _, rfl⟩ := h; exact .str
  | l => obtain ⟨c, ps, rfl, _⟩ := h; exact (pl_len c ps).up (by omega)
  | k => obtain ⟨k, rfl, _, hk⟩ := h; exact k.pl.up (by omega)
  | e => exact False.elim h
  | a => exact False.elim h
  | r => exact False.elim h
def spPlain : Sp := fun vs H Q _ => ∃ (s : So) (a r : Addr) (n : Nat) (xs : List Str), vs = [.str (ltr s), .ref a, .ref r] ∧ s ≠ .e ∧ s ≠ .a ∧ s ≠ .r ∧ Dr H a n ∧ H r = some (.lst (xs.map V.str)) ∧ r ≠ a ∧ Nms xs ∧ ∀ (H' : Hp) (v : V) (d : Dv) (n' : Nat), SameB a H H' → Dr H' a n' → Rep H' d v → Lf xs s d → Q v H'
theorem xs_at {xs : List Str} {i : Int} (h0 : 0 ≤ i) (h1 : i < (xs.length : Int)) : ∃ nm, xs[i.toNat]? = some nm ∧ atI (xs.map V.str) i = some (.str nm) := by
  refine ⟨xs[i.toNat], List.getElem?_eq_getElem (by omega), ?_⟩
  have := atI_nat (α := V) (xs := xs.map V.str) (j := i.toNat) (v := .str xs[i.toNat]) (by rw [List.getElem?_map, List.getElem?_eq_getElem (by omega)]; rfl)
  rwa [show ((i.toNat : Nat) : Int) = i by omega] at this
section
variable {P : Program} {w : World} {K : PySem.W.Frag} {mg : Str → Option Value} {base : Heap}
theorem sc_kind : FnScope ["_law_draws_here", "_law_names_here", "_law_room", "_law_cell", "_law_way", "_law_one", "_law_length_here"] ["_law_draws_here", "_law_names_here", "_law_room"] (defScope s_kind) := ⟨rfl, rfl, rfl, by decide +kernel, rfl, by decide +kernel, by decide +kernel⟩
theorem ok_kind {f : Addr} {fd : FuncData} {k0 m : Nat} (F : Fun K "_law_kind" "_law_kind" s_kind f fd) (T : Txt K mg) (D_law_next : Def P w K mg base k0 "_law_next" ["_law_draws_here"] spNext) (D_law_length : Def P w K mg base k0 "_law_length" ["_law_draws_here", "_law_names_here"] spLen) (D_law_kind : Def P w K mg base k0 "_law_kind" ["_law_draws_here", "_law_names_here", "_law_room"] (spKind m)) : FnOk P w K mg base CX0 (k0 + 1) f fd ["_law_draws_here", "_law_names_here", "_law_room"] (spKind (m + 1)) := by
  have nd : (["_law_draws_here", "_law_names_here", "_law_room", "_law_cell", "_law_way", "_law_one", "_law_length_here"] : List Str).Nodup := sc_kind.nd
  refine F.ok sc_kind (fun vs H Q E h => ?_) (fun cdv A outer s H vs Q E hr h => ?_)
  · obtain ⟨a, r, n, xs, g, rfl, _⟩ := h
    rfl
  obtain ⟨a, r, n, xs, g, rfl, gm, hD, hr0, ra, nms, q⟩ := h
  refine ⟨_, (@pss_cons _ _ _ _ _ (@ps_set _ _ (3) _ _ _ _ nd rfl (Or.inl rfl) (@pe_def _ _ _ _ _ _ _ _ _ _ D_law_next hr rfl (@pa_cons _ _ _ _ _ (@pv _ 0 _ _ (by rfl) (by first | exact Or.inl rfl | exact Or.inr (Or.inl rfl) | exact Or.inr (Or.inr rfl)) (by decide) (by decide)) (@pa_nil _) (by rfl)) (by decide) (by rfl) (by rfl)) (by rfl) (by first | exact .inl rfl | exact .inr rfl | assumption)) (@pss_cons _ _ _ _ _ (@ps_set _ _ (4) _ _ _ _ nd rfl (Or.inl rfl) (@pe_op _ _ _ _ _ _ _ _ op_mod (@pv _ 3 _ _ (by rfl) (by first | exact Or.inl rfl | exact Or.inr (Or.inl rfl) | exact Or.inr (Or.inr rfl)) (by decide) (by decide)) (@pe_int _ _ _ _)) (by rfl) (by first | exact .inl rfl | exact .inr rfl | assumption)) (@pss_cons _ _ _ _ _ (@ps_if _ _ _ _ _ _ _ _ (@PW.pt _ _ _ (@pw_or _ _ _ _ _ _ _ (@pt_cmpR _ _ _ _ _ _ _ _ op_eq (@pv _ 2 _ _ (by rfl) (by first | exact Or.inl rfl | exact Or.inr (Or.inl rfl) | exact Or.inr (Or.inr rfl)) (by decide) (by decide)) (@pe_int _ _ _ _) (nomark _)) (@pw_or1 _ _ _ _ (@pt_cmpR _ _ _ _ _ _ _ _ op_eq (@pv _ 4 _ _ (by rfl) (by first | exact Or.inl rfl | exact Or.inr (Or.inl rfl) | exact Or.inr (Or.inr rfl)) (by decide) (by decide)) (@pe_int _ _ _ _) (nomark _))))) (@pss_one _ _ _ (@ps_ret _ _ _ _ (@pe_tup _ _ _ _ _ (@pa_cons _ _ _ _ _ (@pe_str _ _ _ _) (@pa_nil _) (by rfl))))) (@pss_nil _)) (@pss_cons _ _ _ _ _ (@ps_if _ _ _ _ _ _ _ _ (@pt_cmpR _ _ _ _ _ _ _ _ op_eq (@pv _ 4 _ _ (by rfl) (by first | exact Or.inl rfl | exact Or.inr (Or.inl rfl) | exact Or.inr (Or.inr rfl)) (by decide) (by decide)) (@pe_int _ _ _ _) (nomark _)) (@pss_one _ _ _ (@ps_ret _ _ _ _ (@pe_tup _ _ _ _ _ (@pa_cons _ _ _ _ _ (@pe_str _ _ _ _) (@pa_cons _ _ _ _ _ (@pe_def _ _ _ _ _ _ _ _ _ _ D_law_length hr rfl (@pa_cons _ _ _ _ _ (@pv _ 0 _ _ (by rfl) (by first | exact Or.inl rfl | exact Or.inr (Or.inl rfl) | exact Or.inr (Or.inr rfl)) (by decide) (by decide)) (@pa_cons _ _ _ _ _ (@pv _ 1 _ _ (by rfl) (by first | exact Or.inl rfl | exact Or.inr (Or.inl rfl) | exact Or.inr (Or.inr rfl)) (by decide) (by decide)) (@pa_nil _) (by rfl)) (by rfl)) (by decide) (by rfl) (by rfl)) (@pa_nil _) (by rfl)) (by rfl))))) (@pss_nil _)) (@pss_cons _ _ _ _ _ (@ps_if _ _ _ _ _ _ _ _ (@pt_cmpR _ _ _ _ _ _ _ _ op_eq (@pv _ 4 _ _ (by rfl) (by first | exact Or.inl rfl | exact Or.inr (Or.inl rfl) | exact Or.inr (Or.inr rfl)) (by decide) (by decide)) (@pe_int _ _ _ _) (nomark _)) (@pss_cons _ _ _ _ _ (@ps_set _ _ (5) _ _ _ _ nd rfl (Or.inl rfl) (@pe_def _ _ _ _ _ _ _ _ _ _ D_law_kind hr rfl (@pa_cons _ _ _ _ _ (@pv _ 0 _ _ (by rfl) (by first | exact Or.inl rfl | exact Or.inr (Or.inl rfl) | exact Or.inr (Or.inr rfl)) (by decide) (by decide)) (@pa_cons _ _ _ _ _ (@pv _ 1 _ _ (by rfl) (by first | exact Or.inl rfl | exact Or.inr (Or.inl rfl) | exact Or.inr (Or.inr rfl)) (by decide) (by decide)) (@pa_cons _ _ _ _ _ (@pe_op _ _ _ _ _ _ _ _ op_sub (@pv _ 2 _ _ (by rfl) (by first | exact Or.inl rfl | exact Or.inr (Or.inl rfl) | exact Or.inr (Or.inr rfl)) (by decide) (by decide)) (@pe_int _ _ _ _)) (@pa_nil _) (by rfl)) (by rfl)) (by rfl)) (by decide) (by rfl) (by rfl)) (by rfl) (by first | exact .inl rfl | exact .inr rfl | assumption)) (@pss_one _ _ _ (@ps_ret _ _ _ _ (@pe_tup _ _ _ _ _ (@pa_cons _ _ _ _ _ (@pe_str _ _ _ _) (@pa_cons _ _ _ _ _ (@pv _ 5 _ _ (by rfl) (by first | exact Or.inl rfl | exact Or.inr (Or.inl rfl) | exact Or.inr (Or.inr rfl)) (by decide) (by decide)) (@pa_cons _ _ _ _ _ (@pe_def _ _ _ _ _ _ _ _ _ _ D_law_kind hr rfl (@pa_cons _ _ _ _ _ (@pv _ 0 _ _ (by rfl) (by first | exact Or.inl rfl | exact Or.inr (Or.inl rfl) | exact Or.inr (Or.inr rfl)) (by decide) (by decide)) (@pa_cons _ _ _ _ _ (@pv _ 1 _ _ (by rfl) (by first | exact Or.inl rfl | exact Or.inr (Or.inl rfl) | exact Or.inr (Or.inr rfl)) (by decide) (by decide)) (@pa_cons _ _ _ _ _ (@pe_op _ _ _ _ _ _ _ _ op_sub (@pv _ 2 _ _ (by rfl) (by first | exact Or.inl rfl | exact Or.inr (Or.inl rfl) | exact Or.inr (Or.inr rfl)) (by decide) (by decide)) (@pe_int _ _ _ _)) (@pa_nil _) (by rfl)) (by rfl)) (by rfl)) (by decide) (by rfl) (by rfl)) (@pa_nil _) (by rfl)) (by rfl)) (by rfl)))))) (@pss_nil _)) (@pss_cons _ _ _ _ _ (@ps_set _ _ (6) _ _ _ _ nd rfl (Or.inl rfl) (@pe_def _ _ _ _ _ _ _ _ _ _ D_law_length hr rfl (@pa_cons _ _ _ _ _ (@pv _ 0 _ _ (by rfl) (by first | exact Or.inl rfl | exact Or.inr (Or.inl rfl) | exact Or.inr (Or.inr rfl)) (by decide) (by decide)) (@pa_cons _ _ _ _ _ (@pv _ 1 _ _ (by rfl) (by first | exact Or.inl rfl | exact Or.inr (Or.inl rfl) | exact Or.inr (Or.inr rfl)) (by decide) (by decide)) (@pa_nil _) (by rfl)) (by rfl)) (by decide) (by rfl) (by rfl)) (by rfl) (by first | exact .inl rfl | exact .inr rfl | assumption)) (@pss_one _ _ _ (@ps_ret _ _ _ _ (@pe_tup _ _ _ _ _ (@pa_cons _ _ _ _ _ (@pe_str _ _ _ _) (@pa_cons _ _ _ _ _ (@pv _ 6 _ _ (by rfl) (by first | exact Or.inl rfl | exact Or.inr (Or.inl rfl) | exact Or.inr (Or.inr rfl)) (by decide) (by decide)) (@pa_cons _ _ _ _ _ (@pe_def _ _ _ _ _ _ _ _ _ _ D_law_kind hr rfl (@pa_cons _ _ _ _ _ (@pv _ 0 _ _ (by rfl) (by first | exact Or.inl rfl | exact Or.inr (Or.inl rfl) | exact Or.inr (Or.inr rfl)) (by decide) (by decide)) (@pa_cons _ _ _ _ _ (@pv _ 1 _ _ (by rfl) (by first | exact Or.inl rfl | exact Or.inr (Or.inl rfl) | exact Or.inr (Or.inr rfl)) (by decide) (by decide)) (@pa_cons _ _ _ _ _ (@pe_op _ _ _ _ _ _ _ _ op_sub (@pv _ 2 _ _ (by rfl) (by first | exact Or.inl rfl | exact Or.inr (Or.inl rfl) | exact Or.inr (Or.inr rfl)) (by decide) (by decide)) (@pe_int _ _ _ _)) (@pa_nil _) (by rfl)) (by rfl)) (by rfl)) (by decide) (by rfl) (by rfl)) (@pa_nil _) (by rfl)) (by rfl)) (by rfl))))))))))), ?_⟩
  refine ⟨_, rfl, a, n, rfl, hD, fun H1 x s1 d1 x0 x1 => ?_⟩
  have r1 := s1 _ _ ra hr0
  obtain ⟨u0, u1⟩ := mod_lt (a := x) 5 (by decide)
  refine ⟨_, rfl, _, _, rfl, rfl, (by show (0 : Int) < 5; decide), ?_⟩
  refine gnm ?_
  dsimp only
  generalize x % 5 = u at u0 u1
  have whole : ∀ p, H1 p = none → Q (.ref p) (upd H1 p (.tup [.str "whole"])) := fun p hp => q _ _ Kd.whole (n - 1) (s1.trans (Same.b a (same_new hp _))) (d1.m (same_new hp _)) (rep_whole upd_same) trivial (by show 1 < 2 ^ (g + 1); exact Nat.one_lt_two_pow (by omega))
  refine ⟨_, rfl, rfl, _, rfl, ite2 (fun h => iteT ⟨z1, whole⟩) (fun h => ?_)⟩
  have g0 : g ≠ 0 := fun e => neI h (by rw [e]; rfl)
  obtain ⟨g', rfl⟩ : ∃ g', g = g' + 1 := ⟨g - 1, by omega⟩
  have gs : ((g' + 1 : Nat) : Int) - 1 = ((g' : Nat) : Int) := by omega
  have pw : 2 ^ (g' + 1 + 1) = 2 * 2 ^ (g' + 1) := by rw [Nat.pow_succ]; omega
  refine ⟨_, rfl, rfl, _, rfl, ite2 (fun h1 => ⟨z1, whole⟩) (fun h1 => ?_)⟩
  refine ⟨_, rfl, rfl, _, rfl, ite2 (fun h2 => ?_) (fun h2 => ?_)⟩
  · refine ⟨_, rfl, _, rfl, a, r, n - 1, xs, rfl, d1, r1, ra, nms, fun H2 v c ps s2 d2 R2 sm => ⟨z2, fun p hp => ?_⟩⟩
    have q3 := same_new hp (.tup [.str "place", v])
    exact q _ _ (Kd.place c ps) _ (s1.trans (s2.trans (Same.b a q3))) (d2.m q3) (rep_place upd_same (R2.mono q3)) sm (by show 1 < 2 ^ (g' + 1 + 1); exact Nat.one_lt_two_pow (by omega))
  refine ⟨_, rfl, rfl, _, rfl, ite2 (fun h3 => ?_) (fun h3 => ?_)⟩
  · refine ⟨_, rfl, _, rfl, _, rfl, _, _, rfl, rfl, a, r, n - 1, xs, g', by show [V.ref a, V.ref r, V.int (((g' + 1 : Nat) : Int) - 1)] = _; rw [gs], by omega, d1, r1, ra, nms, fun H2 v k n2 s2 d2 R2 ka kz => ?_⟩
    refine ⟨_, rfl, _, rfl, _, rfl, _, rfl, _, _, rfl, rfl, a, r, n2, xs, g', by show [V.ref a, V.ref r, V.int (((g' + 1 : Nat) : Int) - 1)] = _; rw [gs], by omega, d2, s2 _ _ ra r1, ra, nms, fun H3 v3 k3 n3 s3 d3 R3 ka3 kz3 => ⟨z3, fun p hp => ?_⟩⟩
    have q4 := same_new hp (.tup [.str "pair", v, v3])
    exact q _ _ (Kd.pair k k3) _ (s1.trans (s2.trans (s3.trans (Same.b a q4)))) (d3.m q4) (rep_pair upd_same ((Kd.tupS (d2.tups s3) R2).mono q4) (R3.mono q4)) ⟨ka, ka3⟩ (by show k.size + k3.size + 1 < 2 ^ (g' + 1 + 1); omega)
  · refine ⟨_, rfl, _, rfl, a, r, n - 1, xs, rfl, d1, r1, ra, nms, fun H2 v c ps s2 d2 R2 sm => ?_⟩
    refine ⟨_, rfl, _, rfl, _, rfl, _, rfl, _, _, rfl, rfl, a, r, _, xs, g', by show [V.ref a, V.ref r, V.int (((g' + 1 : Nat) : Int) - 1)] = _; rw [gs], by omega, d2, s2 _ _ ra r1, ra, nms, fun H3 v3 k3 n3 s3 d3 R3 ka3 kz3 => ⟨z3, fun p hp => ?_⟩⟩
    have q4 := same_new hp (.tup [.str "row", v, v3])
    exact q _ _ (Kd.row c ps k3) _ (s1.trans (s2.trans (s3.trans (Same.b a q4)))) (d3.m q4) (rep_row upd_same ((rep_tupS (d2.tups s3) (pl_len c ps) R2).mono q4) (R3.mono q4)) ⟨sm, ka3⟩ (by show k3.size + 1 < 2 ^ (g' + 1 + 1); omega)
theorem sc_plain : FnScope ["_law_sign", "_law_draws_here", "_law_names_here", "_law_cell"] ["_law_sign", "_law_draws_here", "_law_names_here"] (defScope s_plain) := ⟨rfl, rfl, rfl, by decide +kernel, rfl, by decide +kernel, by decide +kernel⟩
theorem ok_plain {f : Addr} {fd : FuncData} {k0 : Nat} (F : Fun K "_law_plain" "_law_plain" s_plain f fd) (T : Txt K mg) (D_law_next : Def P w K mg base k0 "_law_next" ["_law_draws_here"] spNext) (D_law_length : Def P w K mg base k0 "_law_length" ["_law_draws_here", "_law_names_here"] spLen) (D_law_kind : Def P w K mg base k0 "_law_kind" ["_law_draws_here", "_law_names_here", "_law_room"] (spKind 3)) : FnOk P w K mg base CX0 (k0 + 1) f fd ["_law_sign", "_law_draws_here", "_law_names_here"] spPlain := by
  have nd : (["_law_sign", "_law_draws_here", "_law_names_here", "_law_cell"] : List Str).Nodup := sc_plain.nd
  refine F.ok sc_plain (fun vs H Q E h => ?_) (fun cdv A outer s H vs Q E hr h => ?_)
  · obtain ⟨s, a, r, n, xs, rfl, _⟩ := h
    rfl
  obtain ⟨so, a, r, n, xs, rfl, se, sa, sr, hD, hr0, ra, nms, q⟩ := h
  have lx := nms.len
  refine ⟨_, (@pss_cons _ _ _ _ _ (@ps_if _ _ _ _ _ _ _ _ (@pt_cmpR _ _ _ _ _ _ _ _ op_eq (@pv _ 0 _ _ (by rfl) (by first | exact Or.inl rfl | exact Or.inr (Or.inl rfl) | exact Or.inr (Or.inr rfl)) (by decide) (by decide)) (@pe_str _ _ _ _) (nomark _)) (@pss_one _ _ _ (@ps_ret _ _ _ _ (@pe_def _ _ _ _ _ _ _ _ _ _ D_law_length hr rfl (@pa_cons _ _ _ _ _ (@pv _ 1 _ _ (by rfl) (by first | exact Or.inl rfl | exact Or.inr (Or.inl rfl) | exact Or.inr (Or.inr rfl)) (by decide) (by decide)) (@pa_cons _ _ _ _ _ (@pv _ 2 _ _ (by rfl) (by first | exact Or.inl rfl | exact Or.inr (Or.inl rfl) | exact Or.inr (Or.inr rfl)) (by decide) (by decide)) (@pa_nil _) (by rfl)) (by rfl)) (by decide) (by rfl) (by rfl)))) (@pss_nil _)) (@pss_cons _ _ _ _ _ (@ps_if _ _ _ _ _ _ _ _ (@pt_cmpR _ _ _ _ _ _ _ _ op_eq (@pv _ 0 _ _ (by rfl) (by first | exact Or.inl rfl | exact Or.inr (Or.inl rfl) | exact Or.inr (Or.inr rfl)) (by decide) (by decide)) (@pe_str _ _ _ _) (nomark _)) (@pss_one _ _ _ (@ps_ret _ _ _ _ (@pe_def _ _ _ _ _ _ _ _ _ _ D_law_kind hr rfl (@pa_cons _ _ _ _ _ (@pv _ 1 _ _ (by rfl) (by first | exact Or.inl rfl | exact Or.inr (Or.inl rfl) | exact Or.inr (Or.inr rfl)) (by decide) (by decide)) (@pa_cons _ _ _ _ _ (@pv _ 2 _ _ (by rfl) (by first | exact Or.inl rfl | exact Or.inr (Or.inl rfl) | exact Or.inr (Or.inr rfl)) (by decide) (by decide)) (@pa_cons _ _ _ _ _ (@pe_int _ _ _ _) (@pa_nil _) (by rfl)) (by rfl)) (by rfl)) (by decide) (by rfl) (by rfl)))) (@pss_nil _)) (@pss_cons _ _ _ _ _ (@ps_set _ _ (3) _ _ _ _ nd rfl (Or.inl rfl) (@pe_def _ _ _ _ _ _ _ _ _ _ D_law_next hr rfl (@pa_cons _ _ _ _ _ (@pv _ 1 _ _ (by rfl) (by first | exact Or.inl rfl | exact Or.inr (Or.inl rfl) | exact Or.inr (Or.inr rfl)) (by decide) (by decide)) (@pa_nil _) (by rfl)) (by decide) (by rfl) (by rfl)) (by rfl) (by first | exact .inl rfl | exact .inr rfl | assumption)) (@pss_cons _ _ _ _ _ (@ps_if _ _ _ _ _ _ _ _ (@pt_cmpR _ _ _ _ _ _ _ _ op_eq (@pv _ 0 _ _ (by rfl) (by first | exact Or.inl rfl | exact Or.inr (Or.inl rfl) | exact Or.inr (Or.inr rfl)) (by decide) (by decide)) (@pe_str _ _ _ _) (nomark _)) (@pss_one _ _ _ (@ps_ret _ _ _ _ (@pe_ix _ _ _ _ _ _ _ ix_list (@pe_lst _ _ _ _ (@pa_cons _ _ _ _ _ (@pe_op _ _ _ _ _ _ _ _ op_mod (@pe_op _ _ _ _ _ _ _ _ op_fdiv (@pv _ 3 _ _ (by rfl) (by first | exact Or.inl rfl | exact Or.inr (Or.inl rfl) | exact Or.inr (Or.inr rfl)) (by decide) (by decide)) (@pe_int _ _ _ _)) (@pe_int _ _ _ _)) (@pa_cons _ _ _ _ _ (@pe_op _ _ _ _ _ _ _ _ op_mod (@pe_op _ _ _ _ _ _ _ _ op_fdiv (@pv _ 3 _ _ (by rfl) (by first | exact Or.inl rfl | exact Or.inr (Or.inl rfl) | exact Or.inr (Or.inr rfl)) (by decide) (by decide)) (@pe_int _ _ _ _)) (@pe_op _ _ _ _ _ _ _ _ op_pow (@pe_int _ _ _ _) (@pe_int _ _ _ _))) (@pa_cons _ _ _ _ _ (@pe_op _ _ _ _ _ _ _ _ op_sub (@pe_op _ _ _ _ _ _ _ _ op_pow (@pe_int _ _ _ _) (@pe_int _ _ _ _)) (@pe_int _ _ _ _)) (@pa_nil _) (by rfl)) (by rfl)) (by rfl))) (@pe_op _ _ _ _ _ _ _ _ op_mod (@pv _ 3 _ _ (by rfl) (by first | exact Or.inl rfl | exact Or.inr (Or.inl rfl) | exact Or.inr (Or.inr rfl)) (by decide) (by decide)) (@pe_int _ _ _ _)) (fun _ _ => rfl)))) (@pss_nil _)) (@pss_cons _ _ _ _ _ (@ps_if _ _ _ _ _ _ _ _ (@pt_cmpR _ _ _ _ _ _ _ _ op_eq (@pv _ 0 _ _ (by rfl) (by first | exact Or.inl rfl | exact Or.inr (Or.inl rfl) | exact Or.inr (Or.inr rfl)) (by decide) (by decide)) (@pe_str _ _ _ _) (nomark _)) (@pss_one _ _ _ (@ps_ret _ _ _ _ (@pe_ix _ _ _ _ _ _ _ ix_list (@pv _ 2 _ _ (by rfl) (by first | exact Or.inl rfl | exact Or.inr (Or.inl rfl) | exact Or.inr (Or.inr rfl)) (by decide) (by decide)) (@pe_int _ _ _ _) (fun _ _ => rfl)))) (@pss_nil _)) (@pss_cons _ _ _ _ _ (@ps_if _ _ _ _ _ _ _ _ (@pt_cmpR _ _ _ _ _ _ _ _ op_eq (@pv _ 0 _ _ (by rfl) (by first | exact Or.inl rfl | exact Or.inr (Or.inl rfl) | exact Or.inr (Or.inr rfl)) (by decide) (by decide)) (@pe_str _ _ _ _) (nomark _)) (@pss_one _ _ _ (@ps_ret _ _ _ _ (@pe_ix _ _ _ _ _ _ _ ix_list (@pe_lst _ _ _ _ (@pa_cons _ _ _ _ _ (@pe_str _ _ _ _) (@pa_cons _ _ _ _ _ (@pe_str _ _ _ _) (@pa_cons _ _ _ _ _ (@pe_str _ _ _ _) (@pa_cons _ _ _ _ _ (@pe_str _ _ _ _) (@pa_cons _ _ _ _ _ (@pe_str _ _ _ _) (@pa_nil _) (by rfl)) (by rfl)) (by rfl)) (by rfl)) (by rfl))) (@pe_op _ _ _ _ _ _ _ _ op_mod (@pv _ 3 _ _ (by rfl) (by first | exact Or.inl rfl | exact Or.inr (Or.inl rfl) | exact Or.inr (Or.inr rfl)) (by decide) (by decide)) (@pe_int _ _ _ _)) (fun _ _ => rfl)))) (@pss_nil _)) (@pss_one _ _ _ (@ps_ret _ _ _ _ (@pe_ix _ _ _ _ _ _ _ ix_list (@pv _ 2 _ _ (by rfl) (by first | exact Or.inl rfl | exact Or.inr (Or.inl rfl) | exact Or.inr (Or.inr rfl)) (by decide) (by decide)) (@pe_op _ _ _ _ _ _ _ _ op_mod (@pv _ 3 _ _ (by rfl) (by first | exact Or.inl rfl | exact Or.inr (Or.inl rfl) | exact Or.inr (Or.inr rfl)) (by decide) (by decide)) (@pe_ix _ _ _ _ _ _ _ ix_list (@pe_lst _ _ _ _ (@pa_cons _ _ _ _ _ (@pe_int _ _ _ _) (@pa_cons _ _ _ _ _ (@pe_int _ _ _ _) (@pa_nil _) (by rfl)) (by rfl))) (@pe_callTy _ _ _ _ _ _ _ _ _ call_int1 rfl T.int (by decide +kernel) (@pa_cons _ _ _ _ _ (@pe_cmpR _ _ _ _ _ _ _ _ op_eq (@pv _ 0 _ _ (by rfl) (by first | exact Or.inl rfl | exact Or.inr (Or.inl rfl) | exact Or.inr (Or.inr rfl)) (by decide) (by decide)) (@pe_str _ _ _ _) (nomark _)) (@pa_nil _) (by rfl)) (by decide) (by decide) (by rfl) (by rfl)) (fun _ _ => rfl))) (fun _ _ => rfl)))))))))), ?_⟩
  refine ⟨_, rfl, rfl, _, rfl, ite2 (fun h => ?_) (fun h => ?_)⟩
  · have e := (ltr_l so).mp (of_decide_eq_true h)
    subst e
    exact ⟨_, rfl, _, rfl, a, r, n, xs, rfl, hD, hr0, ra, nms, fun H2 v c ps s2 d2 R2 sm => q _ _ _ _ s2 d2 R2 ⟨c, ps, rfl, sm⟩⟩
  refine ⟨_, rfl, rfl, _, rfl, ite2 (fun h1 => ?_) (fun h1 => ?_)⟩
  · have e := (ltr_k so).mp (of_decide_eq_true h1)
    subst e
    exact ⟨_, rfl, _, rfl, a, r, n, xs, 2, rfl, by decide, hD, hr0, ra, nms, fun H2 v k n' s2 d2 R2 ka kz => q _ _ _ _ s2 d2 R2 ⟨k, rfl, ka, by have : k.size < 8 := kz; omega⟩⟩
  refine ⟨_, rfl, a, n, rfl, hD, fun H1 x s1 d1 x0 x1 => ?_⟩
  have r1 := s1 _ _ ra hr0
  refine ⟨_, rfl, rfl, _, rfl, ite2 (fun h2 => ?_) (fun h2 => ?_)⟩
  · have e := (ltr_n so).mp (of_decide_eq_true h2)
    subst e
    have p12 : CPow 10 12 := ⟨by decide, by decide, by decide⟩
    obtain ⟨c0, c1⟩ := mod_lt (a := x / 3) 10 (by decide)
    obtain ⟨d0, d1'⟩ := mod_lt (a := x / 3) (10 ^ (12 : Int).toNat) (by decide)
    obtain ⟨f0, f1⟩ := mod_lt (a := x) 3 (by decide)
    refine ⟨_, rfl, _, _, rfl, rfl, ⟨by decide, by decide⟩, _, _, rfl, rfl, (by show (0 : Int) < 10; decide), _, rfl, _, _, rfl, rfl, ⟨by decide, by decide⟩, _, _, rfl, rfl, p12, _, _, rfl, rfl, (by show (0 : Int) < 10 ^ (12 : Int).toNat; decide), _, _, rfl, rfl, p12, _, _, rfl, rfl, z3, fun p hp => ?_⟩
    have h4 : ∃ cc, atI [V.int (x / 3 % 10), .int (x / 3 % 10 ^ (12 : Int).toNat), .int (10 ^ (12 : Int).toNat - 1)] (x % 3) = some (.int cc) ∧ 0 ≤ cc ∧ cc < 10 ^ 12 := by
      have e : x % 3 = 0 ∨ x % 3 = 1 ∨ x % 3 = 2 := by omega
      rcases e with e | e | e <;> rw [e]
      · exact ⟨_, rfl, by omega, by omega⟩
      · exact ⟨_, rfl, d0, d1'⟩
      · exact ⟨_, rfl, by decide, by decide⟩
    obtain ⟨cc, hcc, cc0, cc1⟩ := h4
    have qp := same_new hp (.lst [V.int (x / 3 % 10), .int (x / 3 % 10 ^ (12 : Int).toNat), .int (10 ^ (12 : Int).toNat - 1)])
    exact ⟨_, rfl, _, _, rfl, rfl, (by show (0 : Int) < 3; decide), p, _, _, .int cc, rfl, rfl, SqL.of upd_same, hcc, q _ _ (.int cc) _ (s1.trans (Same.b a qp)) (d1.m qp) (by simp only [Rep]) ⟨cc, rfl, cc0, cc1⟩⟩
  refine ⟨_, rfl, rfl, _, rfl, ite2 (fun h3 => ?_) (fun h3 => ?_)⟩
  · have e := (ltr_y so).mp (of_decide_eq_true h3)
    subst e
    obtain ⟨nm, hn, hat⟩ := xs_at (xs := xs) (i := 4) (by decide) (by rw [lx]; decide)
    exact ⟨_, rfl, r, _, 4, .str nm, rfl, rfl, SqL.of r1, hat, q _ _ (.str nm) _ s1 d1 (by simp only [Rep]) ⟨nm, hn, rfl⟩⟩
  refine ⟨_, rfl, rfl, _, rfl, ite2 (fun h4 => ?_) (fun h4 => ?_)⟩
  · have e := (ltr_w so).mp (of_decide_eq_true h4)
    subst e
    obtain ⟨f0, f1⟩ := mod_lt (a := x) 5 (by decide)
    refine ⟨(by show 5 ≤ sizeLine; rw [sizeLine_eq]; decide), fun p hp => ?_⟩
    obtain ⟨nm, hn, hat⟩ := xs_at (xs := reck) f0 f1
    have qp := same_new hp (.lst (reck.map V.str))
    exact ⟨_, rfl, _, _, rfl, rfl, (by show (0 : Int) < 5; decide), p, reck.map V.str, _, .str nm, rfl, rfl, SqL.of upd_same, hat, q _ _ (.str nm) _ (s1.trans (Same.b a qp)) (d1.m qp) (by simp only [Rep]) ⟨nm, List.mem_of_getElem? hn, rfl⟩⟩
  refine ⟨_, rfl, _, rfl, z2, fun p hp => ?_⟩
  have qp := same_new hp (.lst [V.int 4, .int 5])
  by_cases hf : so = .f
  · subst hf
    obtain ⟨f0, f1⟩ := mod_lt (a := x) 5 (by decide)
    obtain ⟨nm, hn, hat⟩ := xs_at (xs := xs) f0 (by rw [lx]; exact f1)
    refine ⟨_, rfl, rfl, .inr ⟨true, rfl, p, _, 1, .int 5, rfl, rfl, SqL.of upd_same, rfl, _, _, rfl, rfl, (by show (0 : Int) < 5; decide), r, _, _, .str nm, rfl, rfl, SqL.of (qp _ _ r1), hat, ?_⟩⟩
    exact q _ _ (.str nm) _ (s1.trans (Same.b a qp)) (d1.m qp) (by simp only [Rep]) ⟨nm, List.mem_of_getElem? hn, rfl⟩
  · have hx : so = .x := by
      cases so with
      | x => rfl
      | n => exact absurd (decide_eq_true ((ltr_n .n).mpr rfl)) h2
      | y => exact absurd (decide_eq_true ((ltr_y .y).mpr rfl)) h3
      | w => exact absurd (decide_eq_true ((ltr_w .w).mpr rfl)) h4
      | l => exact absurd (decide_eq_true ((ltr_l .l).mpr rfl)) h
      | k => exact absurd (decide_eq_true ((ltr_k .k).mpr rfl)) h1
      | f => exact absurd rfl hf
      | e => exact absurd rfl se
      | a => exact absurd rfl sa
      | r => exact absurd rfl sr
    subst hx
    obtain ⟨f0, f1⟩ := mod_lt (a := x) 4 (by decide)
    obtain ⟨nm, hn, hat⟩ := xs_at (xs := xs) f0 (by rw [lx]; omega)
    refine ⟨_, rfl, rfl, .inr ⟨false, rfl, p, _, 0, .int 4, rfl, rfl, SqL.of upd_same, rfl, _, _, rfl, rfl, (by show (0 : Int) < 4; decide), r, _, _, .str nm, rfl, rfl, SqL.of (qp _ _ r1), hat, ?_⟩⟩
    exact q _ _ (.str nm) _ (s1.trans (Same.b a qp)) (d1.m qp) (by simp only [Rep]) ⟨(x % 4).toNat, nm, by omega, hn, rfl⟩
end
end K21
set_option maxHeartbeats 1000000
namespace K21
open PySem L2 KB XB
abbrev s_shapes : Stmt := top 36
def spShapes : Sp := fun vs H Q _ => vs = [] ∧ ∀ (H' : Hp) (d : Addr), Same H H' → H d = none → H' d = some (.dK lk) → Q (.ref d) H'
def k1 : List (Key × V) := lk.take 7
def k2 : List (Key × V) := (lk.drop 7).take 7
def k3 : List (Key × V) := (lk.drop 14).take 7
def k4 : List (Key × V) := lk.drop 21
theorem m1 : mergeK [] k1 = k1 := by decide +kernel
theorem m2 : mergeK [] k2 = k2 := by decide +kernel
theorem m3 : mergeK [] k3 = k3 := by decide +kernel
theorem m4 : mergeK [] k4 = k4 := by decide +kernel
theorem mAll : mergeK (mergeK (mergeK k1 k2) k3) k4 = lk := by decide +kernel
section
variable {P : Program} {w : World} {K : PySem.W.Frag} {mg : Str → Option Value} {base : Heap}
theorem sc_shapes : FnScope ["_law_found"] [] (defScope s_shapes) := ⟨rfl, rfl, rfl, by decide +kernel, rfl, by decide +kernel, by decide +kernel⟩
theorem ok_shapes {f : Addr} {fd : FuncData} (F : Fun K "_law_shapes" "_law_shapes" s_shapes f fd) (T : Txt K mg) : FnOk P w K mg base CX0 1 f fd [] spShapes := by
  have nd : (["_law_found"] : List Str).Nodup := sc_shapes.nd
  refine F.ok sc_shapes (fun vs H Q E h => ?_) (fun cdv A outer s H vs Q E hr h => ?_)
  · obtain ⟨rfl, _⟩ := h
    rfl
  obtain ⟨rfl, q⟩ := h
  refine ⟨_, (@pss_cons _ _ _ _ _ (@ps_set _ _ (0) _ _ _ _ nd rfl (Or.inl rfl) (@pe_disp _ _ _ _ _ (@pps_cons _ _ _ _ _ _ _ _ _ (@pe_str _ _ _ _) (@pe_str _ _ _ _) (@pps_cons _ _ _ _ _ _ _ _ _ (@pe_str _ _ _ _) (@pe_str _ _ _ _) (@pps_cons _ _ _ _ _ _ _ _ _ (@pe_str _ _ _ _) (@pe_str _ _ _ _) (@pps_cons _ _ _ _ _ _ _ _ _ (@pe_str _ _ _ _) (@pe_str _ _ _ _) (@pps_cons _ _ _ _ _ _ _ _ _ (@pe_str _ _ _ _) (@pe_str _ _ _ _) (@pps_cons _ _ _ _ _ _ _ _ _ (@pe_str _ _ _ _) (@pe_str _ _ _ _) (@pps_cons _ _ _ _ _ _ _ _ _ (@pe_str _ _ _ _) (@pe_str _ _ _ _) (@pps_nil _ _)))))))) rfl rfl (by simp) (Nat.le_of_ble_eq_true rfl)) (by rfl) (by first | exact .inl rfl | exact .inr rfl | assumption)) (@pss_cons _ _ _ _ _ (@ps_expr _ _ _ _ (@pe_bm _ _ _ _ _ _ _ _ _ _ _ _ PySem.F.plainAttrs_dict PySem.F.slot_dict_update PySem.F.type_dict_update mt_updD (@pv _ 0 _ _ (by rfl) (by first | exact Or.inl rfl | exact Or.inr (Or.inl rfl) | exact Or.inr (Or.inr rfl)) (by decide) (by decide)) (@pa_cons _ _ _ _ _ (@pe_disp _ _ _ _ _ (@pps_cons _ _ _ _ _ _ _ _ _ (@pe_str _ _ _ _) (@pe_str _ _ _ _) (@pps_cons _ _ _ _ _ _ _ _ _ (@pe_str _ _ _ _) (@pe_str _ _ _ _) (@pps_cons _ _ _ _ _ _ _ _ _ (@pe_str _ _ _ _) (@pe_str _ _ _ _) (@pps_cons _ _ _ _ _ _ _ _ _ (@pe_str _ _ _ _) (@pe_str _ _ _ _) (@pps_cons _ _ _ _ _ _ _ _ _ (@pe_str _ _ _ _) (@pe_str _ _ _ _) (@pps_cons _ _ _ _ _ _ _ _ _ (@pe_str _ _ _ _) (@pe_str _ _ _ _) (@pps_cons _ _ _ _ _ _ _ _ _ (@pe_str _ _ _ _) (@pe_str _ _ _ _) (@pps_nil _ _)))))))) rfl rfl (by simp) (Nat.le_of_ble_eq_true rfl)) (@pa_nil _) (by rfl)) (by rfl) (by rfl) (by rfl) (by rfl) (by rfl)) (by rfl)) (@pss_cons _ _ _ _ _ (@ps_expr _ _ _ _ (@pe_bm _ _ _ _ _ _ _ _ _ _ _ _ PySem.F.plainAttrs_dict PySem.F.slot_dict_update PySem.F.type_dict_update mt_updD (@pv _ 0 _ _ (by rfl) (by first | exact Or.inl rfl | exact Or.inr (Or.inl rfl) | exact Or.inr (Or.inr rfl)) (by decide) (by decide)) (@pa_cons _ _ _ _ _ (@pe_disp _ _ _ _ _ (@pps_cons _ _ _ _ _ _ _ _ _ (@pe_str _ _ _ _) (@pe_str _ _ _ _) (@pps_cons _ _ _ _ _ _ _ _ _ (@pe_str _ _ _ _) (@pe_str _ _ _ _) (@pps_cons _ _ _ _ _ _ _ _ _ (@pe_str _ _ _ _) (@pe_str _ _ _ _) (@pps_cons _ _ _ _ _ _ _ _ _ (@pe_str _ _ _ _) (@pe_str _ _ _ _) (@pps_cons _ _ _ _ _ _ _ _ _ (@pe_str _ _ _ _) (@pe_str _ _ _ _) (@pps_cons _ _ _ _ _ _ _ _ _ (@pe_str _ _ _ _) (@pe_str _ _ _ _) (@pps_cons _ _ _ _ _ _ _ _ _ (@pe_str _ _ _ _) (@pe_str _ _ _ _) (@pps_nil _ _)))))))) rfl rfl (by simp) (Nat.le_of_ble_eq_true rfl)) (@pa_nil _) (by rfl)) (by rfl) (by rfl) (by rfl) (by rfl) (by rfl)) (by rfl)) (@pss_cons _ _ _ _ _ (@ps_expr _ _ _ _ (@pe_bm _ _ _ _ _ _ _ _ _ _ _ _ PySem.F.plainAttrs_dict PySem.F.slot_dict_update PySem.F.type_dict_update mt_updD (@pv _ 0 _ _ (by rfl) (by first | exact Or.inl rfl | exact Or.inr (Or.inl rfl) | exact Or.inr (Or.inr rfl)) (by decide) (by decide)) (@pa_cons _ _ _ _ _ (@pe_disp _ _ _ _ _ (@pps_cons _ _ _ _ _ _ _ _ _ (@pe_str _ _ _ _) (@pe_str _ _ _ _) (@pps_cons _ _ _ _ _ _ _ _ _ (@pe_str _ _ _ _) (@pe_str _ _ _ _) (@pps_cons _ _ _ _ _ _ _ _ _ (@pe_str _ _ _ _) (@pe_str _ _ _ _) (@pps_cons _ _ _ _ _ _ _ _ _ (@pe_str _ _ _ _) (@pe_str _ _ _ _) (@pps_cons _ _ _ _ _ _ _ _ _ (@pe_str _ _ _ _) (@pe_str _ _ _ _) (@pps_cons _ _ _ _ _ _ _ _ _ (@pe_str _ _ _ _) (@pe_str _ _ _ _) (@pps_nil _ _))))))) rfl rfl (by simp) (Nat.le_of_ble_eq_true rfl)) (@pa_nil _) (by rfl)) (by rfl) (by rfl) (by rfl) (by rfl) (by rfl)) (by rfl)) (@pss_one _ _ _ (@ps_ret _ _ _ _ (@pv _ 0 _ _ (by rfl) (by first | exact Or.inl rfl | exact Or.inr (Or.inl rfl) | exact Or.inr (Or.inr rfl)) (by decide) (by decide)))))))), ?_⟩
  refine fun d hd => ⟨upd_same, k1, rfl, Nat.le_of_ble_eq_true rfl, ?_⟩
  have s1 := same_two hd (.dK []) (.dK (mergeK [] k1))
  have d1 : upd (upd H d (.dK [])) d (.dK (mergeK [] k1)) d = some (.dK k1) := by rw [upd_same, m1]
  generalize upd (upd H d (.dK [])) d (.dK (mergeK [] k1)) = H1 at s1 d1 ⊢
  refine gnm ?_
  dsimp only
  refine ⟨_, rfl, .inr (.inr (.inl ⟨rfl, .inl ⟨_, d1⟩⟩)), fun e2 he2 => ⟨upd_same, k2, rfl, Nat.le_of_ble_eq_true rfl, d, e2, k1, k2, rfl, rfl, ne_of_none d1 he2, ?_, ?_, ?_, ?_⟩⟩
  · exact same_two he2 _ _ _ _ d1
  · rw [upd_same, m2]
  · rw [sizeLine_eq]; decide +kernel
  have t2 := same_two he2 (.dK []) (.dK (mergeK [] k2))
  generalize upd (upd H1 e2 (.dK [])) e2 (.dK (mergeK [] k2)) = H2 at t2 ⊢
  have s2 : Same H (upd H2 d (.dK (mergeK k1 k2))) := fun g o e => by rw [upd_ne (ne_of_none e hd)]; exact t2 _ _ (s1 _ _ e)
  have d2 : upd H2 d (.dK (mergeK k1 k2)) d = some (.dK (mergeK k1 k2)) := upd_same
  generalize upd H2 d (.dK (mergeK k1 k2)) = H3 at s2 d2 ⊢
  refine ⟨_, rfl, .inr (.inr (.inl ⟨rfl, .inl ⟨_, d2⟩⟩)), fun e3 he3 => ⟨upd_same, k3, rfl, Nat.le_of_ble_eq_true rfl, d, e3, _, k3, rfl, rfl, ne_of_none d2 he3, same_two he3 _ _ _ _ d2, ?_, ?_, ?_⟩⟩
  · rw [upd_same, m3]
  · rw [sizeLine_eq]; decide +kernel
  have t3 := same_two he3 (.dK []) (.dK (mergeK [] k3))
  generalize upd (upd H3 e3 (.dK [])) e3 (.dK (mergeK [] k3)) = H4 at t3 ⊢
  have s3 : Same H (upd H4 d (.dK (mergeK (mergeK k1 k2) k3))) := fun g o e => by rw [upd_ne (ne_of_none e hd)]; exact t3 _ _ (s2 _ _ e)
  have d3 : upd H4 d (.dK (mergeK (mergeK k1 k2) k3)) d = some (.dK (mergeK (mergeK k1 k2) k3)) := upd_same
  generalize upd H4 d (.dK (mergeK (mergeK k1 k2) k3)) = H5 at s3 d3 ⊢
  refine ⟨_, rfl, .inr (.inr (.inl ⟨rfl, .inl ⟨_, d3⟩⟩)), fun e4 he4 => ⟨upd_same, k4, rfl, Nat.le_of_ble_eq_true rfl, d, e4, _, k4, rfl, rfl, ne_of_none d3 he4, same_two he4 _ _ _ _ d3, ?_, ?_, ?_⟩⟩
  · rw [upd_same, m4]
  · rw [sizeLine_eq]; decide +kernel
  have t4 := same_two he4 (.dK []) (.dK (mergeK [] k4))
  generalize upd (upd H5 e4 (.dK [])) e4 (.dK (mergeK [] k4)) = H6 at t4 ⊢
  refine ⟨_, rfl, q _ d (fun g o e => ?_) hd (by rw [upd_same, mAll])⟩
  rw [upd_ne (ne_of_none e hd)]
  exact t4 _ _ (s3 _ _ e)
end
end K21
set_option maxHeartbeats 1000000
namespace K21
open PySem L2 KB XB
abbrev s_any : Stmt := top 38
def spAny (m : Nat) : Sp := fun vs H Q _ => ∃ (a r sd : Addr) (n : Nat) (xs : List Str) (g : Nat), vs = [.ref a, .ref r, .int g, .ref sd] ∧ g < m ∧ Dr H a n ∧ H r = some (.lst (xs.map V.str)) ∧ r ≠ a ∧ Nms xs ∧ H sd = some (.dK lk) ∧ g ≤ 10 ∧ ∀ (H' : Hp) (v : V) (d : Dv) (n' : Nat), SameB a H H' → Dr H' a n' → Rep H' d v → Ex (Lf xs) (g + 1) d → (n ≤ 1 → Ex (Lf xs) 1 d) → Q v H'
theorem fld_pl {xs : List Str} {g : Nat} {ss : List So} {ds : List Dv} (h : F2 (Fld (Ex (Lf xs) g) (Lf xs)) ss ds) : ∀ d ∈ ds, L2.Pl (2 * g + 11) d := by
  induction h with
  | nil => intro d hd; cases hd
  | @cons s d ss ds h _ ih =>
    intro e he
    rcases List.mem_cons.mp he with rfl | he
    · cases s with
      | e => exact (Ex.pl Lf.pl h).up (by omega)
      | a => obtain ⟨es, rfl, h1, h2⟩ := h; exact (L2.Pl.tup fun x hx => Ex.pl Lf.pl (h2 x hx)).up (by omega)
      | r => obtain ⟨es, rfl, h0, h1, h2⟩ := h; exact (L2.Pl.tup fun x hx => Ex.pl Lf.pl (h2 x hx)).up (by omega)
      | _ => exact (Lf.pl _ _ (Fld.leaf h (by decide) (by decide) (by decide))).up (by omega)
    · exact ih e he
section
variable {P : Program} {w : World} {K : PySem.W.Frag} {mg : Str → Option Value} {base : Heap}
theorem sc_any : FnScope ["_law_draws_here", "_law_names_here", "_law_room", "_law_shapes_here", "_law_words", "_law_cell", "_law_word", "_law_found", "_law_sign", "_law_many"] ["_law_draws_here", "_law_names_here", "_law_room", "_law_shapes_here"] (defScope s_any) := ⟨rfl, rfl, rfl, by decide +kernel, rfl, by decide +kernel, by decide +kernel⟩
theorem ok_any {f : Addr} {fd : FuncData} {k0 m : Nat} (F : Fun K "_law_any" "_law_any" s_any f fd) (T : Txt K mg) (D_law_next : Def P w K mg base k0 "_law_next" ["_law_draws_here"] spNext) (D_law_plain : Def P w K mg base k0 "_law_plain" ["_law_sign", "_law_draws_here", "_law_names_here"] spPlain) (D_law_any : Def P w K mg base k0 "_law_any" ["_law_draws_here", "_law_names_here", "_law_room", "_law_shapes_here"] (spAny m)) : FnOk P w K mg base CX0 (k0 + 1) f fd ["_law_draws_here", "_law_names_here", "_law_room", "_law_shapes_here"] (spAny (m + 1)) := by
  have nd : (["_law_draws_here", "_law_names_here", "_law_room", "_law_shapes_here", "_law_words", "_law_cell", "_law_word", "_law_found", "_law_sign", "_law_many"] : List Str).Nodup := sc_any.nd
  refine F.ok sc_any (fun vs H Q E h => ?_) (fun cdv A outer s H vs Q E hr h => ?_)
  · obtain ⟨a, r, sd, n, xs, g, rfl, _⟩ := h
    rfl
  obtain ⟨a, r, sd, n, xs, g, rfl, gm, hD, hr0, ra, nms, hsd, g10, q⟩ := h
  have hu := hu_of hr
  have huL : (A.deeper (PyProof.Rows.envOfC "_law_any" (defScope s_any) s.heap.objs.size f cdv)).units < cLine := Nat.lt_of_le_of_lt (Nat.le_add_right _ 150) (hu150_of hr)
  have sa : sd ≠ a := fun e => by obtain ⟨_, e2, _⟩ := hD; rw [← e, hsd] at e2; cases e2
  refine ⟨_, (@pss_cons _ _ _ _ _ (@ps_set _ _ (4) _ _ _ _ nd rfl (Or.inl rfl) (@pe_callTy _ _ _ _ _ _ _ _ _ (call_listD rfl) rfl T.list (by decide +kernel) (@pa_cons _ _ _ _ _ (@pv _ 3 _ _ (by rfl) (by first | exact Or.inl rfl | exact Or.inr (Or.inl rfl) | exact Or.inr (Or.inr rfl)) (by decide) (by decide)) (@pa_nil _) (by rfl)) (by decide) (by decide) (by rfl) (by rfl)) (by rfl) (by first | exact .inl rfl | exact .inr rfl | assumption)) (@pss_cons _ _ _ _ _ (@ps_set _ _ (5) _ _ _ _ nd rfl (Or.inl rfl) (@pe_def _ _ _ _ _ _ _ _ _ _ D_law_next hr rfl (@pa_cons _ _ _ _ _ (@pv _ 0 _ _ (by rfl) (by first | exact Or.inl rfl | exact Or.inr (Or.inl rfl) | exact Or.inr (Or.inr rfl)) (by decide) (by decide)) (@pa_nil _) (by rfl)) (by decide) (by rfl) (by rfl)) (by rfl) (by first | exact .inl rfl | exact .inr rfl | assumption)) (@pss_cons _ _ _ _ _ (@ps_set _ _ (6) _ _ _ _ nd rfl (Or.inl rfl) (@pe_ix _ _ _ _ _ _ _ ix_list (@pv _ 4 _ _ (by rfl) (by first | exact Or.inl rfl | exact Or.inr (Or.inl rfl) | exact Or.inr (Or.inr rfl)) (by decide) (by decide)) (@pe_op _ _ _ _ _ _ _ _ op_mod (@pv _ 5 _ _ (by rfl) (by first | exact Or.inl rfl | exact Or.inr (Or.inl rfl) | exact Or.inr (Or.inr rfl)) (by decide) (by decide)) (@pe_int _ _ _ _)) (fun _ _ => rfl)) (by rfl) (by first | exact .inl rfl | exact .inr rfl | assumption)) (@pss_cons _ _ _ _ _ (@ps_if _ _ _ _ _ _ _ _ (@PW.pt _ _ _ (@pw_or _ _ _ _ _ _ _ (@pt_cmpR _ _ _ _ _ _ _ _ op_eq (@pv _ 2 _ _ (by rfl) (by first | exact Or.inl rfl | exact Or.inr (Or.inl rfl) | exact Or.inr (Or.inr rfl)) (by decide) (by decide)) (@pe_int _ _ _ _) (nomark _)) (@pw_or1 _ _ _ _ (@pt_cmpR _ _ _ _ _ _ _ _ (op_eqE huL) (@pv _ 0 _ _ (by rfl) (by first | exact Or.inl rfl | exact Or.inr (Or.inl rfl) | exact Or.inr (Or.inr rfl)) (by decide) (by decide)) (@pe_lst _ _ _ _ (@pa_nil _)) (nomark _))))) (@pss_one _ _ _ (@ps_set _ _ (6) _ _ _ _ nd rfl (Or.inl rfl) (@pe_ix _ _ _ _ _ _ _ ix_list (@pv _ 4 _ _ (by rfl) (by first | exact Or.inl rfl | exact Or.inr (Or.inl rfl) | exact Or.inr (Or.inr rfl)) (by decide) (by decide)) (@pe_op _ _ _ _ _ _ _ _ op_mod (@pv _ 5 _ _ (by rfl) (by first | exact Or.inl rfl | exact Or.inr (Or.inl rfl) | exact Or.inr (Or.inr rfl)) (by decide) (by decide)) (@pe_int _ _ _ _)) (fun _ _ => rfl)) (by rfl) (by first | exact .inl rfl | exact .inr rfl | assumption))) (@pss_nil _)) (@pss_cons _ _ _ _ _ (@ps_set _ _ (7) _ _ _ _ nd rfl (Or.inl rfl) (@pe_lst _ _ _ _ (@pa_cons _ _ _ _ _ (@pv _ 6 _ _ (by rfl) (by first | exact Or.inl rfl | exact Or.inr (Or.inl rfl) | exact Or.inr (Or.inr rfl)) (by decide) (by decide)) (@pa_nil _) (by rfl))) (by rfl) (by first | exact .inl rfl | exact .inr rfl | assumption)) (@pss_cons _ _ _ _ _ (@ps_for _ _ _ _ _ _ _ _ PassesOwn.never rfl (@pi_str _ _ _ _ (@pe_dget _ _ _ _ _ _ hu (@pv _ 3 _ _ (by rfl) (by first | exact Or.inl rfl | exact Or.inr (Or.inl rfl) | exact Or.inr (Or.inr rfl)) (by decide) (by decide)) (@pv _ 6 _ _ (by rfl) (by first | exact Or.inl rfl | exact Or.inr (Or.inl rfl) | exact Or.inr (Or.inr rfl)) (by decide) (by decide)) (fun _ _ => rfl))) (@pg_name _ _ (8) _ nd rfl (Or.inl rfl) (by first | exact .inl rfl | exact .inr rfl | assumption)) (@pss_one _ _ _ (@ps_if _ _ _ _ _ _ _ _ (@pt_cmpR _ _ _ _ _ _ _ _ op_eq (@pv _ 8 _ _ (by rfl) (by first | exact Or.inl rfl | exact Or.inr (Or.inl rfl) | exact Or.inr (Or.inr rfl)) (by decide) (by decide)) (@pe_str _ _ _ _) (nomark _)) (@pss_one _ _ _ (@ps_expr _ _ _ _ (@pe_bm _ _ _ _ _ _ _ _ _ _ _ _ PySem.F.plainAttrs_list PySem.F.slot_list_append PySem.F.type_list_append mt_append (@pv _ 7 _ _ (by rfl) (by first | exact Or.inl rfl | exact Or.inr (Or.inl rfl) | exact Or.inr (Or.inr rfl)) (by decide) (by decide)) (@pa_cons _ _ _ _ _ (@pe_def _ _ _ _ _ _ _ _ _ _ D_law_any hr rfl (@pa_cons _ _ _ _ _ (@pv _ 0 _ _ (by rfl) (by first | exact Or.inl rfl | exact Or.inr (Or.inl rfl) | exact Or.inr (Or.inr rfl)) (by decide) (by decide)) (@pa_cons _ _ _ _ _ (@pv _ 1 _ _ (by rfl) (by first | exact Or.inl rfl | exact Or.inr (Or.inl rfl) | exact Or.inr (Or.inr rfl)) (by decide) (by decide)) (@pa_cons _ _ _ _ _ (@pe_op _ _ _ _ _ _ _ _ op_sub (@pv _ 2 _ _ (by rfl) (by first | exact Or.inl rfl | exact Or.inr (Or.inl rfl) | exact Or.inr (Or.inr rfl)) (by decide) (by decide)) (@pe_int _ _ _ _)) (@pa_cons _ _ _ _ _ (@pv _ 3 _ _ (by rfl) (by first | exact Or.inl rfl | exact Or.inr (Or.inl rfl) | exact Or.inr (Or.inr rfl)) (by decide) (by decide)) (@pa_nil _) (by rfl)) (by rfl)) (by rfl)) (by rfl)) (by decide) (by rfl) (by rfl)) (@pa_nil _) (by rfl)) (by rfl) (by rfl) (by rfl) (by rfl) (by rfl)) (by rfl))) (@pss_one _ _ _ (@ps_if _ _ _ _ _ _ _ _ (@PW.pt _ _ _ (@pw_or _ _ _ _ _ _ _ (@pt_cmpR _ _ _ _ _ _ _ _ op_eq (@pv _ 8 _ _ (by rfl) (by first | exact Or.inl rfl | exact Or.inr (Or.inl rfl) | exact Or.inr (Or.inr rfl)) (by decide) (by decide)) (@pe_str _ _ _ _) (nomark _)) (@pw_or1 _ _ _ _ (@pt_cmpR _ _ _ _ _ _ _ _ op_eq (@pv _ 8 _ _ (by rfl) (by first | exact Or.inl rfl | exact Or.inr (Or.inl rfl) | exact Or.inr (Or.inr rfl)) (by decide) (by decide)) (@pe_str _ _ _ _) (nomark _))))) (@pss_cons _ _ _ _ _ (@ps_set _ _ (9) _ _ _ _ nd rfl (Or.inl rfl) (@pe_op _ _ _ _ _ _ _ _ op_mod (@pe_op _ _ _ _ _ _ _ _ op_fdiv (@pv _ 5 _ _ (by rfl) (by first | exact Or.inl rfl | exact Or.inr (Or.inl rfl) | exact Or.inr (Or.inr rfl)) (by decide) (by decide)) (@pe_int _ _ _ _)) (@pe_int _ _ _ _)) (by rfl) (by first | exact .inl rfl | exact .inr rfl | assumption)) (@pss_cons _ _ _ _ _ (@ps_if _ _ _ _ _ _ _ _ (@pt_cmpR _ _ _ _ _ _ _ _ op_eq (@pv _ 8 _ _ (by rfl) (by first | exact Or.inl rfl | exact Or.inr (Or.inl rfl) | exact Or.inr (Or.inr rfl)) (by decide) (by decide)) (@pe_str _ _ _ _) (nomark _)) (@pss_one _ _ _ (@ps_set _ _ (9) _ _ _ _ nd rfl (Or.inl rfl) (@pe_op _ _ _ _ _ _ _ _ op_add (@pe_int _ _ _ _) (@pe_op _ _ _ _ _ _ _ _ op_mod (@pv _ 9 _ _ (by rfl) (by first | exact Or.inl rfl | exact Or.inr (Or.inl rfl) | exact Or.inr (Or.inr rfl)) (by decide) (by decide)) (@pe_int _ _ _ _))) (by rfl) (by first | exact .inl rfl | exact .inr rfl | assumption))) (@pss_nil _)) (@pss_one _ _ _ (@ps_expr _ _ _ _ (@pe_bm _ _ _ _ _ _ _ _ _ _ _ _ PySem.F.plainAttrs_list PySem.F.slot_list_append PySem.F.type_list_append mt_append (@pv _ 7 _ _ (by rfl) (by first | exact Or.inl rfl | exact Or.inr (Or.inl rfl) | exact Or.inr (Or.inr rfl)) (by decide) (by decide)) (@pa_cons _ _ _ _ _ (@pe_callTy _ _ _ _ _ _ _ _ _ call_tuple_of rfl T.tuple (by decide +kernel) (@pa_cons _ _ _ _ _ (@pe_lc _ _ (["_law_j"]) ([0, 1, 2, 3]) _ _ _ _ _ _ _ _ _ (@pi_range1 _ _ _ _ _ _ rfl T.range (@pa_cons _ _ _ _ _ (@pv _ 9 _ _ (by rfl) (by first | exact Or.inl rfl | exact Or.inr (Or.inl rfl) | exact Or.inr (Or.inr rfl)) (by decide) (by decide)) (@pa_nil _) (by rfl)) (by rfl)) (.of rfl) rfl (fun _ _ _ => pg_name (i := 0) (lc_nd (l := ["_law_j", "_law_draws_here", "_law_names_here", "_law_room", "_law_shapes_here"]) ((by decide +kernel)) rfl) rfl (Or.inl rfl)) (gw_name (by decide)) (fun _ _ _ => (@pif_nil _)) (fun _ _ _ => (@pe_def _ _ _ _ _ _ _ _ _ _ D_law_any hr rfl (@pa_cons _ _ _ _ _ (@pv _ 1 _ _ (by rfl) (by first | exact Or.inl rfl | exact Or.inr (Or.inl rfl) | exact Or.inr (Or.inr rfl)) (by decide) (by decide)) (@pa_cons _ _ _ _ _ (@pv _ 2 _ _ (by rfl) (by first | exact Or.inl rfl | exact Or.inr (Or.inl rfl) | exact Or.inr (Or.inr rfl)) (by decide) (by decide)) (@pa_cons _ _ _ _ _ (@pe_op _ _ _ _ _ _ _ _ op_sub (@pv _ 3 _ _ (by rfl) (by first | exact Or.inl rfl | exact Or.inr (Or.inl rfl) | exact Or.inr (Or.inr rfl)) (by decide) (by decide)) (@pe_int _ _ _ _)) (@pa_cons _ _ _ _ _ (@pv _ 4 _ _ (by rfl) (by first | exact Or.inl rfl | exact Or.inr (Or.inl rfl) | exact Or.inr (Or.inr rfl)) (by decide) (by decide)) (@pa_nil _) (by rfl)) (by rfl)) (by rfl)) (by rfl)) (by decide) (by rfl) (by rfl))) (by intro _; rfl)) (@pa_nil _) (by rfl)) (by decide) (by decide) (by rfl) (by rfl)) (@pa_nil _) (by rfl)) (by rfl) (by rfl) (by rfl) (by rfl) (by rfl)) (by rfl))))) (@pss_one _ _ _ (@ps_expr _ _ _ _ (@pe_bm _ _ _ _ _ _ _ _ _ _ _ _ PySem.F.plainAttrs_list PySem.F.slot_list_append PySem.F.type_list_append mt_append (@pv _ 7 _ _ (by rfl) (by first | exact Or.inl rfl | exact Or.inr (Or.inl rfl) | exact Or.inr (Or.inr rfl)) (by decide) (by decide)) (@pa_cons _ _ _ _ _ (@pe_def _ _ _ _ _ _ _ _ _ _ D_law_plain hr rfl (@pa_cons _ _ _ _ _ (@pv _ 8 _ _ (by rfl) (by first | exact Or.inl rfl | exact Or.inr (Or.inl rfl) | exact Or.inr (Or.inr rfl)) (by decide) (by decide)) (@pa_cons _ _ _ _ _ (@pv _ 0 _ _ (by rfl) (by first | exact Or.inl rfl | exact Or.inr (Or.inl rfl) | exact Or.inr (Or.inr rfl)) (by decide) (by decide)) (@pa_cons _ _ _ _ _ (@pv _ 1 _ _ (by rfl) (by first | exact Or.inl rfl | exact Or.inr (Or.inl rfl) | exact Or.inr (Or.inr rfl)) (by decide) (by decide)) (@pa_nil _) (by rfl)) (by rfl)) (by rfl)) (by decide) (by rfl) (by rfl)) (@pa_nil _) (by rfl)) (by rfl) (by rfl) (by rfl) (by rfl) (by rfl)) (by rfl))))))) (by intro _; rfl)) (@pss_one _ _ _ (@ps_ret _ _ _ _ (@pe_callTy _ _ _ _ _ _ _ _ _ call_tuple_of rfl T.tuple (by decide +kernel) (@pa_cons _ _ _ _ _ (@pv _ 7 _ _ (by rfl) (by first | exact Or.inl rfl | exact Or.inr (Or.inl rfl) | exact Or.inr (Or.inr rfl)) (by decide) (by decide)) (@pa_nil _) (by rfl)) (by decide) (by decide) (by rfl) (by rfl)))))))))), ?_⟩
  refine ⟨_, rfl, sd, lk, rfl, hsd, fun W hW => ?_⟩
  have q1 := same_new hW (.lst (lk.map fun p => kV p.1))
  have w1 : upd H W (.lst (lk.map fun p => kV p.1)) W = some (.lst (lk.map fun p => kV p.1)) := upd_same
  have Wa : W ≠ a := fun e => hD.some (by rw [← e]; exact hW)
  generalize upd H W (.lst (lk.map fun p => kV p.1)) = H1 at q1 w1 ⊢
  refine ⟨_, rfl, a, n, rfl, hD.m q1, fun H2 x s2 d2 x0 x1 => ?_⟩
  have s02 : SameB a H H2 := (Same.b a q1).trans s2
  have w2 := s2 _ _ Wa w1
  obtain ⟨u0, u1⟩ := mod_lt (a := x) 27 (by decide)
  obtain ⟨p1, hp1, at1, _⟩ := lk_at u0 u1
  refine ⟨_, rfl, _, rfl, _, _, rfl, rfl, (by show (0 : Int) < 27; decide), W, _, _, .str p1.1, rfl, rfl, SqL.of w2, at1, ?_⟩
  obtain ⟨v0, v1⟩ := mod_lt (a := x) 5 (by decide)
  obtain ⟨p2, hp2, at2, lf2⟩ := lk_at v0 (by omega : x % 5 < 27)
  refine gnm ?_
  dsimp only
  refine seq_goO (fun σ' H' => ∃ p ∈ WT, σ' = [some (.ref a), some (.ref r), some (.int g), some (.ref sd), some (.ref W), some (.int x), some (.str p.1), none, none, none] ∧ SameB a H H' ∧ Dr H' a (n - 1) ∧ (g = 0 ∨ n ≤ 1 → leafy p = true)) ?C fun N1 go => ?_
  case C =>
    rintro σ H3 ⟨p, hp, rfl, s3, d3, lf⟩
    refine ⟨_, rfl, z1, fun L hL => ?_⟩
    have q4 := same_new hL (.lst [.str p.1])
    have l4 : upd H3 L (.lst [.str p.1]) L = some (.lst [.str p.1]) := upd_same
    have La : L ≠ a := fun e => d3.some (by rw [← e]; exact hL)
    have LH : ∀ g o, g ≠ a → H g = some o → g ≠ L := fun g o ga e => ne_of_none (s3 _ _ ga e) hL
    have s4 : SameB a H (upd H3 L (.lst [.str p.1])) := s3.trans (Same.b a q4)
    have d4 := d3.m q4
    generalize upd H3 L (.lst [.str p.1]) = H4 at l4 s4 d4 ⊢
    have hget : DGet H4 sd (.str p.1) (some (.str p.2.1)) := by rw [← lk_val hp]; exact DGet.k (k := Sum.inr p.1) (s4 _ _ sa hsd)
    refine gnm ?_
    dsimp only
    refine ⟨_, rfl, _, rfl, sd, .str p.2.1, rfl, hget, p.2.1, rfl, for_itf_o (fun i σ H' => ∃ (o8 o9 : Option V) (n' : Nat) (us : List V) (ds : List Dv), σ = [some (.ref a), some (.ref r), some (.int g), some (.ref sd), some (.ref W), some (.int x), some (.str p.1), some (.ref L), o8, o9] ∧ SameB a H H' ∧ Dr H' a n' ∧ H' L = some (.lst (.str p.1 :: us)) ∧ Reps H' ds us ∧ F2 (Fld (Ex (Lf xs) g) (Lf xs)) (p.2.2.take i) ds) ⟨_, _, _, [], [], rfl, s4, d4, l4, by simp only [Reps], .nil⟩ ?T1 ?_⟩
    case T1 =>
      rintro i σ H5 D1 gD1 hi ⟨o8, o9, n5, us, ds, rfl, s5, d5, l5, R5, f5⟩
      obtain ⟨so, hso, hsg⟩ := sign_ltr hp hi
      rw [hsg]
      have h5 := wt_few' p hp
      have lds := f5.length
      have lus := R5.length
      rw [List.length_take] at lds
      have r5 := s5 _ _ ra hr0
      have sd5 := s5 _ _ sa hsd
      have fin : ∀ (H6 : Hp) (v : V) (d : Dv) (n6 : Nat) (o9 : Option V), SameB a H5 H6 → Dr H6 a n6 → Rep H6 d v → Fld (Ex (Lf xs) g) (Lf xs) so d → ∃ (o8 o9' : Option V) (n' : Nat) (us' : List V) (ds' : List Dv), [some (V.ref a), some (.ref r), some (.int g), some (.ref sd), some (.ref W), some (.int x), some (.str p.1), some (.ref L), some (.str (ltr so)), o9] = [some (.ref a), some (.ref r), some (.int g), some (.ref sd), some (.ref W), some (.int x), some (.str p.1), some (.ref L), o8, o9'] ∧ SameB a H (upd H6 L (.lst ((.str p.1 :: us) ++ [v]))) ∧ Dr (upd H6 L (.lst ((.str p.1 :: us) ++ [v]))) a n' ∧ upd H6 L (.lst ((.str p.1 :: us) ++ [v])) L = some (.lst (.str p.1 :: us')) ∧ Reps (upd H6 L (.lst ((.str p.1 :: us) ++ [v]))) ds' us' ∧ F2 (Fld (Ex (Lf xs) g) (Lf xs)) (p.2.2.take (i + 1)) ds' := fun H6 v d n6 o9 s6 d6 R6 fl => by
        have l6 := s6 _ _ La l5
        have b7 := SameB.upd H6 L (.lst ((.str p.1 :: us) ++ [v]))
        have t7 := b7.tups l6
        have f6 := f5.snoc hso fl
        refine ⟨_, _, n6, us ++ [v], ds ++ [d], rfl, fun g o ga e => b7 _ _ (LH g o ga e) ((s5.trans s6) g o ga e), d6.b b7 (Ne.symm La), upd_same, ?_, f6⟩
        exact Reps.append (reps_plS ((d5.tups s6).trans t7) (fld_pl f5) R5) (reps_one (rep_tupS t7 (fld_pl f6 d (by simp)) R6))
      replace fin := fun H6 v d n6 o9 h1 h2 h3 h4 => gD1 _ _ (fin H6 v d n6 o9 h1 h2 h3 h4)
      have size6 : ((V.str p.1 :: us).length) < sizeLine := by rw [List.length_cons, lus, sizeLine_eq]; omega
      refine ⟨_, rfl, rfl, _, rfl, ite2 (fun h => ?_) (fun h => ?_)⟩
      · have e := (ltr_e so).mp (of_decide_eq_true h)
        subst e
        have g0 : g ≠ 0 := fun e => (leafy_at (lf (.inl e)) hso).1 rfl
        obtain ⟨g', rfl⟩ : ∃ g', g = g' + 1 := ⟨g - 1, by omega⟩
        have gs : ((g' + 1 : Nat) : Int) - 1 = ((g' : Nat) : Int) := by omega
        refine ⟨_, rfl, .inl ⟨rfl, _, SqL.of l5⟩, _, rfl, _, rfl, _, rfl, _, _, rfl, rfl, _, rfl, a, r, sd, n5, xs, g', by show [V.ref a, V.ref r, V.int (((g' + 1 : Nat) : Int) - 1), V.ref sd] = _; rw [gs], by omega, d5, r5, ra, nms, sd5, by omega, fun H6 v d n6 s6 d6 R6 x6 _ => ⟨L, _, _, rfl, rfl, s6 _ _ La l5, size6, fin H6 v d n6 _ s6 d6 R6 x6⟩⟩
      have ne : so ≠ .e := fun e => h (decide_eq_true ((ltr_e so).mpr e))
      by_cases har : so = .a ∨ so = .r
      · have g0 : g ≠ 0 := fun e => by
          obtain ⟨_, h2, h3⟩ := leafy_at (lf (.inl e)) hso
          exact har.elim h2 h3
        obtain ⟨g', rfl⟩ : ∃ g', g = g' + 1 := ⟨g - 1, by omega⟩
        have gs : ((g' + 1 : Nat) : Int) - 1 = ((g' : Nat) : Int) := by omega
        refine or_two (iteT ?_) fun qT => ?_
        · obtain ⟨y0, y1⟩ := mod_lt (a := x / 27) 5 (by decide)
          refine ⟨_, rfl, _, _, rfl, rfl, ⟨by decide, by decide⟩, _, _, rfl, rfl, (by show (0 : Int) < 5; decide), ?_⟩
          refine gnm ?_
          dsimp only
          generalize x / 27 % 5 = y at y0 y1
          refine seq_goO (fun σ' H' => ∃ mm : Int, σ' = [some (.ref a), some (.ref r), some (.int ((g' + 1 : Nat) : Int)), some (.ref sd), some (.ref W), some (.int x), some (.str p.1), some (.ref L), some (.str (ltr so)), some (.int mm)] ∧ H5 = H' ∧ 0 ≤ mm ∧ mm ≤ 4 ∧ (so = .r → 1 ≤ mm)) ?C2 fun N2 go2 => ?_
          case C2 =>
            rintro σ H' ⟨mm, rfl, rfl, mm0, mm4, mm1⟩
            refine ⟨_, rfl, .inl ⟨rfl, _, SqL.of l5⟩, _, rfl, mm, rfl, by omega, by omega, lc_range (n := mm.toNat) (fun i ys H' => ∃ (n6 : Nat) (es : List Dv), SameB a H5 H' ∧ Dr H' a n6 ∧ Reps H' es ys ∧ es.length = i ∧ ∀ e ∈ es, Ex (Lf xs) (g' + 1) e) ⟨_, [], SameB.refl _ _, d5, by simp only [Reps], rfl, by simp⟩ ?_ ?_⟩
            · rintro i2 ys H6 hi2 ⟨n6, es, s6, d6, R6, le6, he6⟩
              refine turn_name ⟨_, rfl, _, rfl, _, rfl, _, _, rfl, rfl, _, rfl, a, r, sd, n6, xs, g', by show [V.ref a, V.ref r, V.int (((g' + 1 : Nat) : Int) - 1), V.ref sd] = _; rw [gs], by omega, d6, s6 _ _ ra r5, ra, nms, s6 _ _ sa sd5, by omega, fun H7 v d n7 s7 d7 R7 x7 _ => ⟨?_, n7, es ++ [d], s6.trans s7, d7, Reps.append (reps_plS (d6.tups s7) (fun e he => Ex.pl Lf.pl (he6 e he)) R6) (reps_one R7), by rw [List.length_append, le6]; rfl, fun e he => ?_⟩⟩
              · rw [R6.length, le6, sizeLine_eq]; omega
              · rcases List.mem_append.mp he with h | h
                · exact he6 e h
                · rw [List.mem_singleton.mp h]; exact x7
            · rintro ys H6 ⟨n6, es, s6, d6, R6, le6, he6⟩ r2 hr2
              refine ⟨r2, _, rfl, .inl ⟨SqL.of upd_same, fun t ht => ?_⟩⟩
              have q7 := (same_new hr2 (.lst ys)).trans (same_new ht (.tup ys))
              have ht7 : upd (upd H6 r2 (.lst ys)) t (.tup ys) t = some (.tup ys) := upd_same
              generalize upd (upd H6 r2 (.lst ys)) t (.tup ys) = H7 at q7 ht7 ⊢
              have s7 : SameB a H5 H7 := s6.trans (Same.b a q7)
              refine ⟨L, _, _, rfl, rfl, s7 _ _ La l5, size6, fin H7 (.ref t) (.tup es) n6 _ s7 (d6.m q7) ?_ ?_⟩
              · simp only [Rep]
                exact ⟨t, ys, rfl, ht7, R6.mono q7⟩
              · rcases har with e | e
                · subst e; exact ⟨es, rfl, by omega, he6⟩
                · subst e; exact ⟨es, rfl, by have := mm1 rfl; omega, by omega, he6⟩
          by_cases hrr : so = .r
          · obtain ⟨w0, w1⟩ := mod_lt (a := y) 4 (by decide)
            exact ⟨_, rfl, rfl, _, rfl, ite2 (fun _ => ⟨_, rfl, _, _, rfl, rfl, (by show (0 : Int) < 4; decide), _, _, rfl, rfl, go2 _ _ ⟨_, rfl, rfl, by omega, by omega, fun _ => by omega⟩⟩) (fun h2 => absurd (decide_eq_true ((ltr_r so).mpr hrr)) h2)⟩
          · exact ⟨_, rfl, rfl, _, rfl, ite2 (fun h2 => absurd ((ltr_r so).mp (of_decide_eq_true h2)) hrr) (fun _ => go2 _ _ ⟨_, rfl, rfl, by omega, by omega, fun e => absurd e hrr⟩)⟩
        · rcases har with e | e
          · exact ⟨_, rfl, rfl, _, rfl, ite2 (fun _ => qT) (fun h2 => absurd (decide_eq_true ((ltr_a so).mpr e)) h2)⟩
          · refine ⟨_, rfl, rfl, _, rfl, ite2 (fun _ => qT) (fun _ => ⟨_, rfl, rfl, _, rfl, ?_⟩)⟩
            rw [decide_eq_true ((ltr_r so).mpr e)]
            exact qT
      · have na : so ≠ .a := fun e => har (.inl e)
        have nr : so ≠ .r := fun e => har (.inr e)
        refine ⟨_, rfl, rfl, _, rfl, ite2 (fun h2 => absurd ((ltr_a so).mp (of_decide_eq_true h2)) na) (fun _ => ⟨_, rfl, rfl, _, rfl, ?_⟩)⟩
        rw [show decide (V.str (ltr so) = V.str "r") = false from decide_eq_false fun h2 => nr ((ltr_r so).mp h2)]
        refine iteF ⟨_, rfl, .inl ⟨rfl, _, SqL.of l5⟩, _, rfl, _, rfl, _, rfl, so, a, r, n5, xs, rfl, ne, na, nr, d5, r5, ra, nms, fun H6 v d n6 s6 d6 R6 lf6 => ⟨L, _, _, rfl, rfl, s6 _ _ La l5, size6, fin H6 v d n6 _ s6 d6 R6 (Fld.of lf6 ne na nr)⟩⟩
    rintro σ H5 ⟨o8, o9, n5, us, ds, rfl, s5, d5, l5, R5, f5⟩
    refine ⟨_, rfl, L, _, rfl, .inl ⟨SqL.of l5, fun t ht => ?_⟩⟩
    rw [ltr_len hp, List.take_length] at f5
    have q6 := same_new ht (.tup (.str p.1 :: us))
    refine q _ _ (.tup (.str p.1 :: ds)) n5 (s5.trans (Same.b a q6)) (d5.m q6) ?_ ⟨p, ds, hp, rfl, f5⟩ fun h1 => leaf_ex hp (lf (.inr h1)) f5
    simp only [Rep, Reps]
    exact ⟨t, _, rfl, upd_same, _, _, rfl, rfl, R5.mono q6⟩
  have thn2 : ∀ H3, SameB a H H3 → H3 W = some (.lst (lk.map fun p => kV p.1)) → Dr H3 a (n - 1) → ∃ p ∈ WT, [some (V.ref a), some (.ref r), some (.int g), some (.ref sd), some (.ref W), some (.int x), some (.str p2.1), none, none, none] = [some (.ref a), some (.ref r), some (.int g), some (.ref sd), some (.ref W), some (.int x), some (.str p.1), none, none, none] ∧ SameB a H H3 ∧ Dr H3 a (n - 1) ∧ (g = 0 ∨ n ≤ 1 → leafy p = true) := fun H3 s3 w3 d3 => ⟨p2, hp2, rfl, s3, d3, fun _ => lf2 (by omega)⟩
  refine ⟨_, rfl, rfl, _, rfl, ite2 (fun h => iteT ⟨_, rfl, _, rfl, _, _, rfl, rfl, (by show (0 : Int) < 5; decide), W, _, _, .str p2.1, rfl, rfl, SqL.of w2, at2, go _ _ (thn2 H2 s02 w2 d2)⟩) (fun h => ?_)⟩
  obtain ⟨ns, hns, lns, bns⟩ := id d2
  refine ⟨_, rfl, Nat.zero_le _, fun e he => ⟨a, e, _, rfl, rfl, SqL.of (same_new he _ _ _ hns), SqL.of upd_same, _, rfl, ?_⟩⟩
  have q3 := same_new he (.lst [])
  generalize upd H2 e (.lst []) = H3 at q3 ⊢
  cases ns with
  | nil => exact iteT ⟨_, rfl, _, rfl, _, _, rfl, rfl, (by show (0 : Int) < 5; decide), W, _, _, .str p2.1, rfl, rfl, SqL.of (q3 _ _ w2), at2, go _ _ (thn2 H3 (s02.trans (Same.b a q3)) (q3 _ _ w2) (d2.m q3))⟩
  | cons y ns =>
    rw [List.length_cons] at lns
    exact iteF (go _ _ ⟨p1, hp1, rfl, s02.trans (Same.b a q3), d2.m q3, fun h2 => absurd h2 (fun h3 => h3.elim (fun g0 => neI h (by rw [g0]; rfl)) (fun n1 => by omega))⟩)
end
end K21
set_option maxHeartbeats 1000000
namespace K21
open PySem L2 KB XB
abbrev s_lparts : Stmt := top 39
def spLParts : Sp := fun vs H Q _ => ∃ (v : V) (d : Dv) (sd : Addr), vs = [v, .ref sd] ∧ Rep H d v ∧ Node d ∧ H sd = some (.dK lk) ∧ ∀ (H' : Hp) (l : Addr) (us : List V), Same H H' → H l = none → H' l = some (.lst us) → Reps H (partsD d) us → Q (.ref l) H'
section
variable {P : Program} {w : World} {K : PySem.W.Frag} {mg : Str → Option Value} {base : Heap}
theorem sc_lparts : FnScope ["_law_one", "_law_shapes_here", "_law_found", "_law_sign", "_law_part"] ["_law_one", "_law_shapes_here"] (defScope s_lparts) := ⟨rfl, rfl, rfl, by decide +kernel, rfl, by decide +kernel, by decide +kernel⟩
theorem ok_lparts {f : Addr} {fd : FuncData} (F : Fun K "_law_parts" "_law_parts" s_lparts f fd) (T : Txt K mg) : FnOk P w K mg base CX0 1 f fd ["_law_one", "_law_shapes_here"] spLParts := by
  have nd : (["_law_one", "_law_shapes_here", "_law_found", "_law_sign", "_law_part"] : List Str).Nodup := sc_lparts.nd
  refine F.ok sc_lparts (fun vs H Q E h => ?_) (fun cdv A outer s H vs Q E hr h => ?_)
  · obtain ⟨v, d, sd, rfl, _⟩ := h
    rfl
  obtain ⟨v, d, sd, rfl, R, ⟨p, ds, hp, rfl, hf⟩, hsd, q⟩ := h
  have hu := hu_of hr
  obtain ⟨a, vs, rfl, ha, rs⟩ := Rep.tup_inv R
  obtain ⟨v0, ws, rfl, R0, rw'⟩ := reps_cons rs
  obtain rfl : v0 = .str p.1 := R0
  have lds := hf.length
  have lws := rw'.length
  have h5 := wt_few' p hp
  refine ⟨_, (@pss_cons _ _ _ _ _ (@ps_set _ _ (2) _ _ _ _ nd rfl (Or.inl rfl) (@pe_lst _ _ _ _ (@pa_nil _)) (by rfl) (by first | exact .inl rfl | exact .inr rfl | assumption)) (@pss_cons _ _ _ _ _ (@ps_for _ _ _ _ _ _ _ _ PassesOwn.never rfl (@pi_zipS _ _ _ _ _ _ _ _ _ rfl T.zip (@pa_cons _ _ _ _ _ (@pe_dget _ _ _ _ _ _ hu (@pv _ 1 _ _ (by rfl) (by first | exact Or.inl rfl | exact Or.inr (Or.inl rfl) | exact Or.inr (Or.inr rfl)) (by decide) (by decide)) (@pe_ix _ _ _ _ _ _ _ ix_tup (@pv _ 0 _ _ (by rfl) (by first | exact Or.inl rfl | exact Or.inr (Or.inl rfl) | exact Or.inr (Or.inr rfl)) (by decide) (by decide)) (@pe_int _ _ _ _) (fun _ _ => rfl)) (fun _ _ => rfl)) (@pa_cons _ _ _ _ _ (@pe_slice _ _ _ _ _ _ _ _ _ _ sl_tupW (@pv _ 0 _ _ (by rfl) (by first | exact Or.inl rfl | exact Or.inr (Or.inl rfl) | exact Or.inr (Or.inr rfl)) (by decide) (by decide)) (@po_some _ _ _ (@pe_int _ _ _ _)) (@po_none _)) (@pa_nil _) (by rfl)) (by rfl)) (by rfl) (by rfl)) (@pg_tup _ _ _ _ _ _ rfl (@pgs_cons _ _ _ _ _ (@pg_name _ _ (3) _ nd rfl (Or.inl rfl) (by first | exact .inl rfl | exact .inr rfl | assumption)) (@pgs_cons _ _ _ _ _ (@pg_name _ _ (4) _ nd rfl (Or.inl rfl) (by first | exact .inl rfl | exact .inr rfl | assumption)) (@pgs_nil _) (by rfl)) (by rfl)) (by rfl) (by rfl)) (@pss_cons _ _ _ _ _ (@ps_if _ _ _ _ _ _ _ _ (@pt_cmpR _ _ _ _ _ _ _ _ op_eq (@pv _ 3 _ _ (by rfl) (by first | exact Or.inl rfl | exact Or.inr (Or.inl rfl) | exact Or.inr (Or.inr rfl)) (by decide) (by decide)) (@pe_str _ _ _ _) (nomark _)) (@pss_one _ _ _ (@ps_expr _ _ _ _ (@pe_bm _ _ _ _ _ _ _ _ _ _ _ _ PySem.F.plainAttrs_list PySem.F.slot_list_append PySem.F.type_list_append mt_append (@pv _ 2 _ _ (by rfl) (by first | exact Or.inl rfl | exact Or.inr (Or.inl rfl) | exact Or.inr (Or.inr rfl)) (by decide) (by decide)) (@pa_cons _ _ _ _ _ (@pv _ 4 _ _ (by rfl) (by first | exact Or.inl rfl | exact Or.inr (Or.inl rfl) | exact Or.inr (Or.inr rfl)) (by decide) (by decide)) (@pa_nil _) (by rfl)) (by rfl) (by rfl) (by rfl) (by rfl) (by rfl)) (by rfl))) (@pss_nil _)) (@pss_one _ _ _ (@ps_if _ _ _ _ _ _ _ _ (@PW.pt _ _ _ (@pw_or _ _ _ _ _ _ _ (@pt_cmpR _ _ _ _ _ _ _ _ op_eq (@pv _ 3 _ _ (by rfl) (by first | exact Or.inl rfl | exact Or.inr (Or.inl rfl) | exact Or.inr (Or.inr rfl)) (by decide) (by decide)) (@pe_str _ _ _ _) (nomark _)) (@pw_or1 _ _ _ _ (@pt_cmpR _ _ _ _ _ _ _ _ op_eq (@pv _ 3 _ _ (by rfl) (by first | exact Or.inl rfl | exact Or.inr (Or.inl rfl) | exact Or.inr (Or.inr rfl)) (by decide) (by decide)) (@pe_str _ _ _ _) (nomark _))))) (@pss_one _ _ _ (@ps_set _ _ (2) _ _ _ _ nd rfl (Or.inl rfl) (@pe_op _ _ _ _ _ _ _ _ op_cat (@pv _ 2 _ _ (by rfl) (by first | exact Or.inl rfl | exact Or.inr (Or.inl rfl) | exact Or.inr (Or.inr rfl)) (by decide) (by decide)) (@pe_callTy _ _ _ _ _ _ _ _ _ call_list_of rfl T.list (by decide +kernel) (@pa_cons _ _ _ _ _ (@pv _ 4 _ _ (by rfl) (by first | exact Or.inl rfl | exact Or.inr (Or.inl rfl) | exact Or.inr (Or.inr rfl)) (by decide) (by decide)) (@pa_nil _) (by rfl)) (by decide) (by decide) (by rfl) (by rfl))) (by rfl) (by first | exact .inl rfl | exact .inr rfl | assumption))) (@pss_nil _)))) (by intro _; rfl)) (@pss_one _ _ _ (@ps_ret _ _ _ _ (@pv _ 2 _ _ (by rfl) (by first | exact Or.inl rfl | exact Or.inr (Or.inl rfl) | exact Or.inr (Or.inr rfl)) (by decide) (by decide)))))), ?_⟩
  refine ⟨Nat.zero_le _, fun l hl => ?_⟩
  have q1 := same_new hl (.lst [])
  have l1 : upd H l (.lst []) l = some (.lst []) := upd_same
  generalize upd H l (.lst []) = H1 at q1 l1 ⊢
  have hget : DGet H1 sd (.str p.1) (some (.str p.2.1)) := by rw [← lk_val hp]; exact DGet.k (k := Sum.inr p.1) (q1 _ _ hsd)
  refine ⟨_, rfl, _, rfl, a, _, 0, .str p.1, rfl, rfl, SqT.of (q1 _ _ ha), atI_nat (j := 0) rfl, sd, .str p.2.1, rfl, hget, ?_⟩
  refine ⟨_, rfl, 1, rfl, ?_⟩
  dsimp only [tNoPart]
  refine slW_one (q1 _ _ ha) fun H2 t s2 ht => ?_
  have ec : cutV (V.str p.1 :: ws) (some 1) none = ws := cut_fromA (V.str p.1 :: ws) 1
  rw [ec] at ht
  have s02 := q1.trans s2
  have l2 := s2 _ _ l1
  refine ⟨p.2.1, t, rfl, (wt_ltr p hp).2, ⟨_, ht⟩, for_zipS_o (D := { nx := tRet (tVar 2) { nx := fun x H' => Q V.non H', rt := Q }, rt := Q }) (ys := ws) (fun i σ H' => ∃ (o2 o3 : Option V) (l : Addr) (us : List V), σ = [some (.ref a), some (.ref sd), some (.ref l), o2, o3] ∧ Same H H' ∧ H l = none ∧ H' t = some (.tup ws) ∧ H' l = some (.lst us) ∧ Reps H (ptsD (p.2.2.take i) (ds.take i)) us ∧ us.length ≤ 4 * i) ⟨_, _, l, [], rfl, s02, hl, ht, l2, by simp [ptsD, Reps], Nat.le_refl _⟩ (fun i σ H' ⟨_, _, _, _, _, _, _, h, _⟩ => h) ?T1 ?_⟩
  case T1 =>
    rintro i y σ H3 t3 D1 gD1 hi hy ⟨o2, o3, l, us, rfl, s3, hl, ht3, l3, R3, lu⟩ hp3
    obtain ⟨so, hso, hsg⟩ := sign_ltr hp hi
    rw [hsg]
    obtain ⟨d, hd, hfd⟩ := hf.get hso
    obtain ⟨y', hy', Ry⟩ := reps_getD rw' hd
    rw [hy] at hy'
    cases hy'
    have q4 := same_new hp3 (.tup [.str (ltr so), y])
    have ht4 : upd H3 t3 (.tup [.str (ltr so), y]) t3 = some (.tup [.str (ltr so), y]) := upd_same
    have s4 := s3.trans q4
    have l4 := q4 _ _ l3
    have t4 := q4 _ _ ht3
    generalize upd H3 t3 (.tup [.str (ltr so), y]) = H4 at ht4 s4 l4 t4 ⊢
    refine ⟨t3, _, rfl, SqT.of ht4, rfl, _, _, rfl, _, _, rfl, rfl, ?_⟩
    rw [ltr_len hp] at hi
    have put : ∀ (H5 : Hp) (l5 : Addr) (us' : List V), Same H H5 → H l5 = none → H5 t = some (.tup ws) → H5 l5 = some (.lst (us ++ us')) → Reps H (ptD so d) us' → us'.length ≤ 4 → (∃ (o2 o3 : Option V) (l : Addr) (us2 : List V), [some (V.ref a), some (.ref sd), some (.ref l5), some (.str (ltr so)), some y] = [some (.ref a), some (.ref sd), some (.ref l), o2, o3] ∧ Same H H5 ∧ H l = none ∧ H5 t = some (.tup ws) ∧ H5 l = some (.lst us2) ∧ Reps H (ptsD (p.2.2.take (i + 1)) (ds.take (i + 1))) us2 ∧ us2.length ≤ 4 * (i + 1)) := fun H5 l5 us' s5 hl5 t5 e5 Ru lu' => by
      refine ⟨_, _, l5, us ++ us', rfl, s5, hl5, t5, e5, ?_, by rw [List.length_append]; omega⟩
      rw [ptsD_take _ _ _ hso hd]
      exact Reps.append R3 Ru
    replace put := fun H5 l5 us' h1 h2 h3 h4 h5 h6 => gD1 _ _ (put H5 l5 us' h1 h2 h3 h4 h5 h6)
    refine ⟨_, rfl, rfl, _, rfl, ite2 (fun h => ?_) (fun h => ?_)⟩
    · have e := (ltr_e so).mp (of_decide_eq_true h)
      subst e
      refine ⟨_, rfl, .inl ⟨rfl, _, SqL.of l4⟩, _, rfl, l, _, _, rfl, rfl, l4, by rw [sizeLine_eq]; omega, ?_⟩
      have fin := put (upd H4 l (.lst (us ++ [y]))) l [y] (fun g o e => by rw [upd_ne (ne_of_none e hl)]; exact s4 g o e) hl (by rw [upd_ne (fun e => by rw [e, l4] at t4; cases t4)]; exact t4) upd_same (reps_one Ry) (by show 1 ≤ 4; decide)
      refine ⟨_, rfl, rfl, _, rfl, ite2 (fun h2 => absurd ((ltr_a .e).mp (of_decide_eq_true h2)) (by decide)) (fun _ => ⟨_, rfl, rfl, _, rfl, ?_⟩)⟩
      rw [show decide (V.str (ltr .e) = V.str "r") = false from decide_eq_false fun h2 => absurd ((ltr_r .e).mp h2) (by decide)]
      exact iteF fin
    · have ne : so ≠ .e := fun e => h (decide_eq_true ((ltr_e so).mpr e))
      by_cases har : so = .a ∨ so = .r
      · obtain ⟨es, rfl, l4e⟩ : ∃ es, d = .tup es ∧ es.length ≤ 4 := by
          rcases har with e | e
          · subst e; obtain ⟨es, h1, h2, _⟩ := hfd; exact ⟨es, h1, h2⟩
          · subst e; obtain ⟨es, h1, _, h2, _⟩ := hfd; exact ⟨es, h1, h2⟩
        have ek : ptD so (.tup es) = es := by rcases har with e | e <;> subst e <;> rfl
        obtain ⟨b2, zs, rfl, hb2, rz⟩ := Rep.tup_inv Ry
        have lz := rz.length
        refine tnx ?_
        dsimp only
        refine or_two (iteT ?_) fun qT => ?_
        · refine ⟨_, rfl, _, rfl, b2, zs, rfl, .inr (SqT.of (s4 _ _ hb2)), fun m hm => ?_⟩
          have q5 := same_new hm (.lst zs)
          refine ⟨l, m, _, _, rfl, rfl, q5 _ _ l4, upd_same, by rw [sizeLine_eq]; omega, fun r hr' => ?_⟩
          have q6 := same_new hr' (.lst (us ++ zs))
          have s6 := s4.trans (q5.trans q6)
          exact put _ r zs s6 ((s4.trans q5).free hr') (q6 _ _ (q5 _ _ t4)) upd_same (by rw [ek]; exact rz) (by omega)
        · rcases har with e | e
          · exact ⟨_, rfl, rfl, _, rfl, ite2 (fun _ => qT) (fun h2 => absurd (decide_eq_true ((ltr_a so).mpr e)) h2)⟩
          · refine ⟨_, rfl, rfl, _, rfl, ite2 (fun _ => qT) (fun _ => ⟨_, rfl, rfl, _, rfl, ?_⟩)⟩
            rw [decide_eq_true ((ltr_r so).mpr e)]
            exact qT
      · have na : so ≠ .a := fun e => har (.inl e)
        have nr : so ≠ .r := fun e => har (.inr e)
        refine tnx ⟨_, rfl, rfl, _, rfl, ite2 (fun h2 => absurd ((ltr_a so).mp (of_decide_eq_true h2)) na) (fun _ => ⟨_, rfl, rfl, _, rfl, ?_⟩)⟩
        rw [show decide (V.str (ltr so) = V.str "r") = false from decide_eq_false fun h2 => nr ((ltr_r so).mp h2)]
        have ek : ptD so d = [] := by
          cases so with
          | e => exact absurd rfl ne
          | a => exact absurd rfl na
          | r => exact absurd rfl nr
          | _ => rfl
        exact iteF (put H4 l [] s4 hl t4 (by rw [List.append_nil]; exact l4) (by rw [ek]; simp only [Reps]) (by show 0 ≤ 4; decide))
  rintro σ H3 ⟨o2, o3, l, us, rfl, s3, hl, ht3, l3, R3, lu⟩
  refine ⟨_, rfl, q H3 l us s3 hl l3 ?_⟩
  rw [ltr_len hp, Nat.min_eq_left (by omega), List.take_length, ← lds, List.take_length] at R3
  rw [parts_of hp]
  exact R3
end
end K21
set_option maxHeartbeats 1000000
namespace K21
open PySem L2 KB XB
theorem s_r0 {x : Str} : sizeD (.tup [.str x]) = if x = "whole" then 1 else 99 := by rw [sizeD]
theorem s_r1 {x : Str} {l : Dv} : sizeD (.tup [.str x, l]) = if x = "place" ∧ slD l = true then 1 else 99 := by rw [sizeD]
theorem s_r2 {x : Str} {a b : Dv} : sizeD (.tup [.str x, a, b]) = if x = "pair" then 1 + sizeD a + sizeD b else if x = "row" ∧ slD a = true then 1 + sizeD b else 99 := by rw [sizeD]
def SL (c : Int) (ps : List Pr) : Prop := slD (lenDv c ps) = true ∧ (lenDv c ps).small = true
theorem go_canon : ∀ {ps : List Pr} {l : Str}, ps.Pairwise (fun p q => p.1.cps.toList < q.1.cps.toList) → (∀ p ∈ ps, 1 ≤ p.2) → (∀ p ∈ ps, nmB p.1 = true) → (∀ p ∈ ps, l.cps.toList < p.1.cps.toList) → goD l (partsDv ps) = true
  | [], _, _, _, _, _ => rfl
  | p :: ps, l, h1, h2, h3, h4 => by
    have e : partsDv (p :: ps) = .tup [.str p.1, .int p.2] :: partsDv ps := rfl
    rw [e, goD]
    have h1' := List.pairwise_cons.mp h1
    show (partD _ && (decide (l.cps.toList < p.1.cps.toList) && goD p.1 (partsDv ps))) = true
    rw [go_canon h1'.2 (fun q hq => h2 q (List.mem_cons_of_mem _ hq)) (fun q hq => h3 q (List.mem_cons_of_mem _ hq)) (fun q hq => h1'.1 q hq)]
    show ((nmB p.1 && (true && decide (1 ≤ p.2))) && (decide (l.cps.toList < p.1.cps.toList) && true)) = true
    rw [h3 p List.mem_cons_self, decide_eq_true (h2 p List.mem_cons_self), decide_eq_true (h4 p List.mem_cons_self)]
    rfl
theorem smalls_parts : ∀ {ps : List Pr}, (∀ p ∈ ps, p.1.cps.size ≤ 8) → smalls (partsDv ps) = true
  | [], _ => rfl
  | p :: ps, h => by
    simp only [partsDv, List.map_cons, smalls, Dv.small, Bool.and_eq_true, decide_eq_true_eq]
    refine ⟨⟨⟨by have := h p List.mem_cons_self; omega, trivial, trivial⟩, by simp⟩, smalls_parts fun q hq => h q (List.mem_cons_of_mem _ hq)⟩
theorem nm_size {x : Str} (h : nmB x = true) : 1 ≤ x.cps.size ∧ x.cps.size ≤ 8 := by
  unfold nmB at h
  simp only [Bool.and_eq_true, decide_eq_true_eq] at h
  exact h.1
theorem empty_lt {x : Str} (h : nmB x = true) : (Str.ofString "").cps.toList < x.cps.toList := by
  have := (nm_size h).1
  have e : (Str.ofString "").cps.toList = [] := by decide +kernel
  rw [e]
  cases hx : x.cps.toList with
  | nil =>
    have : x.cps.toList.length = x.cps.size := by simp
    rw [hx] at this; simp at this; omega
  | cons c cs => exact List.nil_lt_cons c cs
theorem sl_can {c : Int} {ps : List Pr} (c0 : 0 ≤ c) (c1 : c ≤ 99) (can : Canon ps) (hl : ps.length ≤ 900) (hn' : ∀ p ∈ ps, nmB p.1 = true ∧ p.2 ≤ 99) : SL c ps := by
  constructor
  · show ((true && (decide (0 ≤ c) && goD "" (partsDv ps))) && (decide (c ≤ 99) && (partsDv ps).all fun p => decide (timesD p ≤ 99))) = true
    rw [go_canon can.1 can.2 (fun p hp => (hn' p hp).1) (fun p hp => empty_lt (hn' p hp).1), decide_eq_true c0, decide_eq_true c1]
    rw [show ((partsDv ps).all fun p => decide (timesD p ≤ 99)) = true by
      rw [List.all_eq_true]
      intro d hd
      obtain ⟨p, hp, rfl⟩ := List.mem_map.mp hd
      exact decide_eq_true (hn' p hp).2]
    rfl
  · have h8 : ∀ p ∈ ps, p.1.cps.size ≤ 8 := fun p hp => (nm_size (hn' p hp).1).2
    have h1 := smalls_parts h8
    have h2 : (Dv.tup (partsDv ps)).small = true := by
      simp only [Dv.small, h1, Bool.true_and]
      exact decide_eq_true (by rw [show (partsDv ps).length = ps.length from List.length_map _]; omega)
    show (Dv.tup [.int c, .tup (partsDv ps)]).small = true
    simp only [Dv.small, smalls] at h2 ⊢
    simp only [h2, Bool.true_and, Bool.and_true]
    rfl
theorem tup_small {ds : List Dv} (h : ∀ d ∈ ds, d.small = true) (hl : ds.length ≤ 1000) : (Dv.tup ds).small = true := by
  have : ∀ ds : List Dv, (∀ d ∈ ds, d.small = true) → smalls ds = true := by
    intro ds
    induction ds with
    | nil => intro _; rfl
    | cons d ds ih => intro h; simp only [smalls, Bool.and_eq_true]; exact ⟨h d List.mem_cons_self, ih fun e he => h e (List.mem_cons_of_mem _ he)⟩
  simp only [Dv.small, this ds h, Bool.true_and]
  exact decide_eq_true hl
theorem kd_small : ∀ {k : Kd}, k.All SL → k.dv.small = true
  | .whole, _ => by decide +kernel
  | .place c ps, h => tup_small (fun d hd => by
      rcases List.mem_cons.mp hd with rfl | hd
      · decide +kernel
      · rw [List.mem_singleton.mp hd]; exact h.2) (by show 2 ≤ 1000; decide)
  | .row c ps k, h => tup_small (fun d hd => by
      rcases List.mem_cons.mp hd with rfl | hd
      · decide +kernel
      · rcases List.mem_cons.mp hd with rfl | hd
        · exact h.1.2
        · rw [List.mem_singleton.mp hd]; exact kd_small h.2) (by show 3 ≤ 1000; decide)
  | .pair i j, h => tup_small (fun d hd => by
      rcases List.mem_cons.mp hd with rfl | hd
      · decide +kernel
      · rcases List.mem_cons.mp hd with rfl | hd
        · exact kd_small h.1
        · rw [List.mem_singleton.mp hd]; exact kd_small h.2) (by show 3 ≤ 1000; decide)
theorem kd_size : ∀ {k : Kd}, k.All SL → sizeD k.dv = k.size
  | .whole, _ => by show sizeD (.tup [.str "whole"]) = 1; rw [s_r0, if_pos rfl]
  | .place c ps, h => by show sizeD (.tup [.str "place", lenDv c ps]) = 1; rw [s_r1, if_pos ⟨rfl, h.1⟩]
  | .row c ps k, h => by show sizeD (.tup [.str "row", lenDv c ps, k.dv]) = k.size + 1; rw [s_r2, if_neg w6, if_pos ⟨rfl, h.1.1⟩, kd_size h.2]; omega
  | .pair i j, h => by show sizeD (.tup [.str "pair", i.dv, j.dv]) = i.size + j.size + 1; rw [s_r2, if_pos rfl, kd_size h.1, kd_size h.2]; omega
def Bad (d : Dv) : Prop := ∀ m, 40 < exN m d
theorem bad_no {d : Dv} (h : nodeD d = false) : Bad d := fun m => by
  cases m with
  | zero => show 40 < 99; decide
  | succ m => show 40 < (if nodeD d = true then _ else 99); rw [h]; exact (by decide : 40 < 99)
theorem sum_mem {l : List Nat} {x : Nat} (h : x ∈ l) : x ≤ l.sum := by
  induction l with
  | nil => cases h
  | cons y l ih =>
    rw [List.sum_cons]
    rcases List.mem_cons.mp h with rfl | h
    · omega
    · have := ih h; omega
theorem bad_up {d e : Dv} (h : e ∈ partsD d) (he : Bad e) : Bad d := fun m => by
  cases m with
  | zero => show 40 < 99; decide
  | succ m =>
    show 40 < (if nodeD d = true then 1 + ((partsD d).map (exN m)).sum else 99)
    split
    · have := sum_mem (List.mem_map_of_mem (f := exN m) h)
      have := he m
      omega
    · decide
theorem bad_false {d : Dv} (h : Bad d) : decide (exN 8 d ≤ 40) = false := decide_eq_false (by have := h 8; omega)
end K21
set_option maxHeartbeats 1000000
namespace K21
open PySem L2 KB XB
theorem sml_sl {xs : List Str} (nms : Nms xs) {c : Int} {ps : List Pr} (h : Sml xs c ps) : SL c ps :=
  sl_can h.c0 h.c1 h.can (by have := h.few; omega) fun p hp => ⟨nms.nm _ (h.all p hp).1, (h.all p hp).2.2⟩
theorem kd_sml {xs : List Str} (nms : Nms xs) : ∀ {k : Kd}, k.All (Sml xs) → k.All SL
  | .whole, _ => trivial
  | .place _ _, h => sml_sl nms h
  | .row _ _ _, h => ⟨sml_sl nms h.1, kd_sml nms h.2⟩
  | .pair _ _, h => ⟨kd_sml nms h.1, kd_sml nms h.2⟩
theorem noz : ∀ p ∈ WT, (p.1.cps.toList.drop 1).all (fun c => decide (c ≠ 122)) = true := by decide +kernel
theorem nozr : ∀ x ∈ reck, (x.cps.toList.drop 1).all (fun c => decide (c ≠ 122)) = true := by decide +kernel
theorem z_no {x y : Str} (h : zB x) (hy : (y.cps.toList.drop 1).all (fun c => decide (c ≠ 122)) = true) : y ≠ x := fun e => by
  subst e
  obtain ⟨j, hj, hz⟩ := h
  have hm : (122 : Nat) ∈ y.cps.toList.drop 1 := by
    refine List.mem_of_getElem? (i := j - 1) ?_
    rw [List.getElem?_drop, show 1 + (j - 1) = j by omega]
    exact hz
  have := List.all_eq_true.mp hy 122 hm
  simp at this
theorem def_z {x : Str} (hn : nmB x = true) (hz : zB x) : defD (.str x) = true := by
  have h1 : wordB x = false := by
    unfold wordB
    rw [List.any_eq_false]
    intro p hp
    simpa using z_no hz (noz p hp)
  have h2 : reckB x = false := by
    unfold reckB inV
    rw [List.any_eq_false]
    intro y hy
    obtain ⟨z, hz', rfl⟩ := List.mem_map.mp hy
    have := z_no hz (nozr z hz')
    simpa [eqV] using this
  show (nmB x && (!wordB x && !reckB x)) = true
  rw [hn, h1, h2]
  rfl
theorem reck_ok : ∀ x ∈ reck, reckB x = true := by decide +kernel
theorem fit_ok {xs : List Str} (nms : Nms xs) {E : Dv → Prop} {s : So} {d : Dv} (h : Fld E (Lf xs) s d) : fitD s d = true := by
  cases s with
  | n => obtain ⟨i, rfl, h0, h1⟩ := Fld.leaf h (by decide) (by decide) (by decide); show (decide (0 ≤ i) && decide (i < 1000000000000)) = true; rw [decide_eq_true h0, decide_eq_true (by omega)]; rfl
  | x => obtain ⟨j, nm, _, hx, rfl⟩ := Fld.leaf h (by decide) (by decide) (by decide); exact nms.nm nm (List.mem_of_getElem? hx)
  | y => obtain ⟨nm, hx, rfl⟩ := Fld.leaf h (by decide) (by decide) (by decide); exact nms.nm nm (List.mem_of_getElem? hx)
  | f => obtain ⟨nm, hx, rfl⟩ := Fld.leaf h (by decide) (by decide) (by decide); exact def_z (nms.nm nm hx) (nms.z nm hx)
  | w => obtain ⟨x, hx, rfl⟩ := Fld.leaf h (by decide) (by decide) (by decide); exact reck_ok x hx
  | l => obtain ⟨c, ps, rfl, hs⟩ := Fld.leaf h (by decide) (by decide) (by decide); exact (sml_sl nms hs).1
  | k => obtain ⟨k, rfl, ka, k7⟩ := Fld.leaf h (by decide) (by decide) (by decide); show decide (sizeD k.dv ≤ 12) = true; rw [kd_size (kd_sml nms ka)]; exact decide_eq_true (by omega)
  | e => rfl
  | a => obtain ⟨es, rfl, h4, _⟩ := h; show (decide ((0 : Int) ≤ (es.length : Int)) && decide ((es.length : Int) ≤ 4)) = true; rw [decide_eq_true (by omega), decide_eq_true (by omega)]; rfl
  | r => obtain ⟨es, rfl, h1, h4, _⟩ := h; show (decide ((1 : Int) ≤ (es.length : Int)) && decide ((es.length : Int) ≤ 4)) = true; rw [decide_eq_true (by omega), decide_eq_true (by omega)]; rfl
theorem ok_ok {xs : List Str} (nms : Nms xs) {E : Dv → Prop} {ss : List So} {ds : List Dv} (h : F2 (Fld E (Lf xs)) ss ds) : okF ss ds = true := by
  induction h with
  | nil => rfl
  | cons h _ ih => show (fitD _ _ && okF _ _) = true; rw [fit_ok nms h, ih]; rfl
theorem ex_node {xs : List Str} (nms : Nms xs) {n : Nat} {d : Dv} (h : Ex (Lf xs) n d) : nodeD d = true := by
  cases n with
  | zero => exact False.elim h
  | succ n =>
    obtain ⟨p, ds, hp, rfl, hf⟩ := h
    rw [node_of hp, ok_ok nms hf, Bool.true_and]
    by_cases hfo : p.1 = "fold"
    · rw [show decide (p.1 ≠ "fold") = false from decide_eq_false fun z => z hfo, Bool.false_or]
      rw [fold_wt p hp hfo] at hf
      obtain ⟨d1, d2, d3, d4, d5, rfl⟩ := five hf.length
      obtain ⟨e1, he1, f1⟩ := hf.get (i := 0) rfl
      obtain ⟨e3, he3, f3⟩ := hf.get (i := 2) rfl
      cases he1
      cases he3
      obtain ⟨j, nm, hj, hx, rfl⟩ := Fld.leaf f1 (by decide) (by decide) (by decide)
      obtain ⟨nm2, hx2, rfl⟩ := Fld.leaf f3 (by decide) (by decide) (by decide)
      show decide (nm ≠ nm2) = true
      refine decide_eq_true fun e => ?_
      subst e
      have := (List.getElem?_inj (i := j) (j := 4) (by have := nms.len; omega) nms.nd).mp (by rw [hx, hx2])
      omega
    · rw [decide_eq_true hfo, Bool.true_or]
def deepD : Nat → Dv → Nat
  | 0, _ => 0
  | n + 1, d => ((partsD d).map fun e => deepD n e + 1).foldl max 0
theorem foldl_max (l : List Nat) (a : Nat) : (∀ m, l.foldl max a ≤ m ↔ a ≤ m ∧ ∀ x ∈ l, x ≤ m) := by
  induction l generalizing a with
  | nil => intro m; simp
  | cons x l ih =>
    intro m
    rw [List.foldl_cons, ih]
    simp only [List.mem_cons, forall_eq_or_imp]
    rw [Nat.max_le, and_assoc]
theorem exN_deep {xs : List Str} (nms : Nms xs) : ∀ {n : Nat} {d : Dv}, Ex (Lf xs) n d → ∀ m, (deepD n d < m → exN m d = (nodesD n d).length) ∧ (m ≤ deepD n d → 40 < exN m d)
  | 0, _, h => False.elim h
  | n + 1, d, h => fun m => by
    have hd := (foldl_max ((partsD d).map fun e => deepD n e + 1) 0)
    cases m with
    | zero => exact ⟨fun z => absurd z (by omega), fun _ => by show 40 < 99; decide⟩
    | succ m =>
      have e1 : exN (m + 1) d = 1 + ((partsD d).map (exN m)).sum := by show (if nodeD d = true then _ else _) = _; rw [ex_node nms h]; rfl
      constructor
      · intro z
        have z' : deepD (n + 1) d ≤ m := by omega
        have hp := ((hd m).mp z').2
        rw [e1]
        show _ = (d :: (partsD d).flatMap (nodesD n)).length
        rw [List.length_cons, List.length_flatMap, Nat.add_comm]
        congr 2
        refine List.map_congr_left fun e he => ?_
        have := hp (deepD n e + 1) (List.mem_map_of_mem (f := fun e => deepD n e + 1) he)
        exact (exN_deep nms (h.parts.1 e he) m).1 (by omega)
      · intro z
        have z' : ¬ deepD (n + 1) d ≤ m := by omega
        have : ∃ e ∈ partsD d, m ≤ deepD n e := by
          refine Classical.byContradiction fun hno => z' ((hd m).mpr ⟨Nat.zero_le _, fun x hx => ?_⟩)
          obtain ⟨e, he, rfl⟩ := List.mem_map.mp hx
          refine Nat.lt_of_not_le fun hle => hno ⟨e, he, by omega⟩
        obtain ⟨e, he, hme⟩ := this
        have h1 := (exN_deep nms (h.parts.1 e he) m).2 hme
        have h2 := sum_mem (List.mem_map_of_mem (f := exN m) he)
        rw [e1]
        omega
theorem ex_count {xs : List Str} (nms : Nms xs) {n : Nat} {d : Dv} (h : Ex (Lf xs) n d) : exN 8 d ≤ 40 ↔ (nodesD n d).length ≤ 40 ∧ deepD n d ≤ 7 := by
  obtain ⟨h1, h2⟩ := exN_deep nms h 8
  constructor
  · intro z
    have h7 : deepD n d < 8 := Nat.lt_of_not_le fun y => by have := h2 y; omega
    rw [h1 h7] at z
    exact ⟨z, by omega⟩
  · rintro ⟨z, y⟩
    rw [h1 (by omega)]
    exact z
theorem lf_small {xs : List Str} (nms : Nms xs) {s : So} {d : Dv} (h : Lf xs s d) : d.small = true := by
  have ns : ∀ nm ∈ xs, (Dv.str nm).small = true := fun nm hx => by
    simp only [Dv.small]
    exact decide_eq_true (by have := (nm_size (nms.nm nm hx)).2; omega)
  cases s with
  | n => obtain ⟨i, rfl, _⟩ := h; rfl
  | x => obtain ⟨j, nm, _, hx, rfl⟩ := h; exact ns nm (List.mem_of_getElem? hx)
  | y => obtain ⟨nm, hx, rfl⟩ := h; exact ns nm (List.mem_of_getElem? hx)
  | f => obtain ⟨nm, hx, rfl⟩ := h; exact ns nm hx
  | w => obtain ⟨x, hx, rfl⟩ := h; exact (by decide +kernel : ∀ x ∈ reck, (Dv.str x).small = true) x hx
  | l => obtain ⟨c, ps, rfl, hs⟩ := h; exact (sml_sl nms hs).2
  | k => obtain ⟨k, rfl, ka, _⟩ := h; exact kd_small (kd_sml nms ka)
  | e => exact False.elim h
  | a => exact False.elim h
  | r => exact False.elim h
theorem wt_small : ∀ p ∈ WT, (Dv.str p.1).small = true := by decide +kernel
theorem ex_small {xs : List Str} (nms : Nms xs) : ∀ {n : Nat} {d : Dv}, Ex (Lf xs) n d → d.small = true
  | 0, _, h => False.elim h
  | n + 1, d, h => by
    obtain ⟨p, ds, hp, rfl, hf⟩ := h
    have hl := hf.length
    have h5 := wt_few' p hp
    have key : ∀ d ∈ ds, d.small = true := by
      generalize p.2.2 = ss at hf
      clear hl h5
      induction hf with
      | nil => intro d hd; cases hd
      | @cons s e ss ds h _ ih =>
        intro d hd
        rcases List.mem_cons.mp hd with rfl | hd
        · cases s with
          | e => exact ex_small nms h
          | a => obtain ⟨es, rfl, h4, he⟩ := h; exact tup_small (fun x hx => ex_small nms (he x hx)) (by omega)
          | r => obtain ⟨es, rfl, _, h4, he⟩ := h; exact tup_small (fun x hx => ex_small nms (he x hx)) (by omega)
          | _ => exact lf_small nms (Fld.leaf h (by decide) (by decide) (by decide))
        · exact ih d hd
    refine tup_small (fun d hd => ?_) (by rw [List.length_cons]; omega)
    rcases List.mem_cons.mp hd with rfl | hd
    · exact wt_small p hp
    · exact key d hd
end K21
set_option maxHeartbeats 1000000
namespace K21
open PySem L2 KB XB
abbrev s_measure : Stmt := top 40
abbrev s_with : Stmt := top 41
def spMeas (m : Nat) : Sp := fun vs H Q _ => ∃ (v : V) (d : Dv) (xs : List Str) (n : Nat) (sd : Addr), vs = [v, .ref sd] ∧ n < m ∧ Rep H d v ∧ Ex (Lf xs) n d ∧ H sd = some (.dK lk) ∧ ∀ (H' : Hp) (p : Addr), Same H H' → H' p = some (.tup [.int ((nodesD n d).length : Int), .int (deepD n d : Int)]) → Q (.ref p) H'
section
variable {P : Program} {w : World} {K : PySem.W.Frag} {mg : Str → Option Value} {base : Heap}
theorem sc_measure : FnScope ["_law_one", "_law_shapes_here", "_law_count", "_law_deep", "_law_part", "_law_many", "_law_far"] ["_law_one", "_law_shapes_here"] (defScope s_measure) := ⟨rfl, rfl, rfl, by decide +kernel, rfl, by decide +kernel, by decide +kernel⟩
theorem ok_measure {f : Addr} {fd : FuncData} {k0 m : Nat} (F : Fun K "_law_measure" "_law_measure" s_measure f fd) (T : Txt K mg) (D_law_parts : Def P w K mg base k0 "_law_parts" ["_law_one", "_law_shapes_here"] spLParts) (D_law_measure : Def P w K mg base k0 "_law_measure" ["_law_one", "_law_shapes_here"] (spMeas m)) : FnOk P w K mg base CX0 (k0 + 1) f fd ["_law_one", "_law_shapes_here"] (spMeas (m + 1)) := by
  have nd : (["_law_one", "_law_shapes_here", "_law_count", "_law_deep", "_law_part", "_law_many", "_law_far"] : List Str).Nodup := sc_measure.nd
  refine F.ok sc_measure (fun vs H Q E h => ?_) (fun cdv A outer s H vs Q E hr h => ?_)
  · obtain ⟨v, d, xs, n, sd, rfl, _⟩ := h
    rfl
  obtain ⟨v, d, xs, n, sd, rfl, nm, R, hx, hsd, q⟩ := h
  obtain ⟨n, rfl⟩ : ∃ k, n = k + 1 := by
    cases n with
    | zero => exact False.elim hx
    | succ n => exact ⟨n, rfl⟩
  refine ⟨_, (@pss_cons _ _ _ _ _ (@ps_set _ _ (2) _ _ _ _ nd rfl (Or.inl rfl) (@pe_int _ _ _ _) (by rfl) (by first | exact .inl rfl | exact .inr rfl | assumption)) (@pss_cons _ _ _ _ _ (@ps_set _ _ (3) _ _ _ _ nd rfl (Or.inl rfl) (@pe_int _ _ _ _) (by rfl) (by first | exact .inl rfl | exact .inr rfl | assumption)) (@pss_cons _ _ _ _ _ (@ps_for _ _ _ _ _ _ _ _ PassesOwn.never rfl (@pi_list _ _ _ _ (@pe_def _ _ _ _ _ _ _ _ _ _ D_law_parts hr rfl (@pa_cons _ _ _ _ _ (@pv _ 0 _ _ (by rfl) (by first | exact Or.inl rfl | exact Or.inr (Or.inl rfl) | exact Or.inr (Or.inr rfl)) (by decide) (by decide)) (@pa_cons _ _ _ _ _ (@pv _ 1 _ _ (by rfl) (by first | exact Or.inl rfl | exact Or.inr (Or.inl rfl) | exact Or.inr (Or.inr rfl)) (by decide) (by decide)) (@pa_nil _) (by rfl)) (by rfl)) (by decide) (by rfl) (by rfl))) (@pg_name _ _ (4) _ nd rfl (Or.inl rfl) (by first | exact .inl rfl | exact .inr rfl | assumption)) (@pss_cons _ _ _ _ _ (@ps_asg _ _ _ _ _ _ (@pe_def _ _ _ _ _ _ _ _ _ _ D_law_measure hr rfl (@pa_cons _ _ _ _ _ (@pv _ 4 _ _ (by rfl) (by first | exact Or.inl rfl | exact Or.inr (Or.inl rfl) | exact Or.inr (Or.inr rfl)) (by decide) (by decide)) (@pa_cons _ _ _ _ _ (@pv _ 1 _ _ (by rfl) (by first | exact Or.inl rfl | exact Or.inr (Or.inl rfl) | exact Or.inr (Or.inr rfl)) (by decide) (by decide)) (@pa_nil _) (by rfl)) (by rfl)) (by decide) (by rfl) (by rfl)) (@pg_tup _ _ _ _ _ _ rfl (@pgs_cons _ _ _ _ _ (@pg_name _ _ (5) _ nd rfl (Or.inl rfl) (by first | exact .inl rfl | exact .inr rfl | assumption)) (@pgs_cons _ _ _ _ _ (@pg_name _ _ (6) _ nd rfl (Or.inl rfl) (by first | exact .inl rfl | exact .inr rfl | assumption)) (@pgs_nil _) (by rfl)) (by rfl)) (by rfl) (by rfl)) (by rfl) (by rfl) (by rfl)) (@pss_cons _ _ _ _ _ (@ps_set _ _ (2) _ _ _ _ nd rfl (Or.inl rfl) (@pe_op _ _ _ _ _ _ _ _ op_add (@pv _ 2 _ _ (by rfl) (by first | exact Or.inl rfl | exact Or.inr (Or.inl rfl) | exact Or.inr (Or.inr rfl)) (by decide) (by decide)) (@pv _ 5 _ _ (by rfl) (by first | exact Or.inl rfl | exact Or.inr (Or.inl rfl) | exact Or.inr (Or.inr rfl)) (by decide) (by decide))) (by rfl) (by first | exact .inl rfl | exact .inr rfl | assumption)) (@pss_one _ _ _ (@ps_set _ _ (3) _ _ _ _ nd rfl (Or.inl rfl) (@pe_callB _ _ _ _ _ _ _ _ _ (call_max2 rfl) rfl T.max (by decide +kernel) (@pa_cons _ _ _ _ _ (@pv _ 3 _ _ (by rfl) (by first | exact Or.inl rfl | exact Or.inr (Or.inl rfl) | exact Or.inr (Or.inr rfl)) (by decide) (by decide)) (@pa_cons _ _ _ _ _ (@pe_op _ _ _ _ _ _ _ _ op_add (@pv _ 6 _ _ (by rfl) (by first | exact Or.inl rfl | exact Or.inr (Or.inl rfl) | exact Or.inr (Or.inr rfl)) (by decide) (by decide)) (@pe_int _ _ _ _)) (@pa_nil _) (by rfl)) (by rfl)) (by decide) (by decide) (by rfl) (by rfl)) (by rfl) (by first | exact .inl rfl | exact .inr rfl | assumption))))) (by intro _; rfl)) (@pss_one _ _ _ (@ps_ret _ _ _ _ (@pe_tup _ _ _ _ _ (@pa_cons _ _ _ _ _ (@pv _ 2 _ _ (by rfl) (by first | exact Or.inl rfl | exact Or.inr (Or.inl rfl) | exact Or.inr (Or.inr rfl)) (by decide) (by decide)) (@pa_cons _ _ _ _ _ (@pv _ 3 _ _ (by rfl) (by first | exact Or.inl rfl | exact Or.inr (Or.inl rfl) | exact Or.inr (Or.inr rfl)) (by decide) (by decide)) (@pa_nil _) (by rfl)) (by rfl)))))))), ?_⟩
  refine ⟨_, rfl, _, rfl, v, d, sd, rfl, R, hx.node, hsd, fun H2 l us s2 hl h2 R2 => ?_⟩
  refine ⟨l, rfl, ⟨_, SqL.of h2⟩, for_list_o (xs := us) (fun i σ H' => ∃ (o4 o5 o6 : Option V), σ = [some v, some (.ref sd), some (.int ((1 + (((partsD d).take i).flatMap (nodesD n)).length : Nat) : Int)), some (.int (((((partsD d).take i).map fun e => deepD n e + 1).foldl max 0 : Nat) : Int)), o4, o5, o6] ∧ Same H2 H') ⟨_, _, _, rfl, Same.refl _⟩ (fun i σ H' _ ⟨_, _, _, _, sx⟩ => SqL.of (sx _ _ h2)) ?T1 ?_⟩
  case T1 =>
    rintro i x σ H3 D1 gD hxi ⟨o4, o5, o6, rfl, s3⟩
    obtain ⟨e, he, Re⟩ := R2.get hxi
    have hee := hx.parts.1 e (List.mem_of_getElem? he)
    have s13 := s2.trans s3
    refine ⟨_, rfl, _, rfl, x, e, xs, n, sd, rfl, by omega, Re.mono s13, hee, s13 _ _ hsd, fun H4 p s4 hp => ?_⟩
    refine ⟨p, _, rfl, SqT.of hp, rfl, _, _, rfl, _, _, rfl, rfl, ?_⟩
    have eq : (partsD d).take (i + 1) = (partsD d).take i ++ [e] := by rw [List.take_add_one, he]; rfl
    refine ⟨_, rfl, _, rfl, _, _, rfl, rfl, ?_⟩
    refine ⟨_, rfl, _, rfl, _, _, rfl, rfl, _, _, rfl, ?_⟩
    refine gD _ _ ⟨some x, some (.int ((nodesD n e).length : Int)), some (.int (deepD n e : Int)), ?_, s3.trans s4⟩
    have e1 : ((1 + (((partsD d).take (i + 1)).flatMap (nodesD n)).length : Nat) : Int) = ((1 + (((partsD d).take i).flatMap (nodesD n)).length : Nat) : Int) + ((nodesD n e).length : Int) := by
      rw [eq, List.flatMap_append, List.length_append]
      simp
      omega
    have e2 : (((((partsD d).take (i + 1)).map fun e => deepD n e + 1).foldl max 0 : Nat) : Int) = (if ((deepD n e : Int) + 1 > (((((partsD d).take i).map fun e => deepD n e + 1).foldl max 0 : Nat) : Int)) then (deepD n e : Int) + 1 else (((((partsD d).take i).map fun e => deepD n e + 1).foldl max 0 : Nat) : Int)) := by
      rw [eq, List.map_append, List.foldl_append]
      generalize (((partsD d).take i).map fun e => deepD n e + 1).foldl max 0 = a
      show ((max a (deepD n e + 1) : Nat) : Int) = _
      split <;> omega
    rw [e1, e2]
    rfl
  rintro σ H3 ⟨o4, o5, o6, rfl, s3⟩
  refine ⟨_, rfl, _, rfl, z2, fun p hp => ?_⟩
  refine q _ p (s2.trans (s3.trans (same_new hp _))) ?_
  rw [upd_same, R2.length, List.take_length, Nat.add_comm]
  rfl
end
end K21
set_option maxHeartbeats 1000000
namespace K21
open PySem L2 KB XB
def TH (G H : Hp) : Hp := fun b => match G b with
  | some o => some o
  | none => match H b with
    | some (.tup zs) => some (.tup zs)
    | _ => none
theorem th_base (G H : Hp) : Same G (TH G H) := fun b o h => by unfold TH; rw [h]
theorem th_sub {G H : Hp} (s : Same G H) : Same (TH G H) H := fun b o h => by
  unfold TH at h
  cases e : G b with
  | some x => rw [e] at h; cases h; exact s _ _ e
  | none =>
    rw [e] at h
    cases e2 : H b with
    | none => rw [e2] at h; cases h
    | some x => rw [e2] at h; cases x <;> cases h; rfl
theorem th_mono {G H H' : Hp} (t : TupS H H') : Same (TH G H) (TH G H') := fun b o h => by
  unfold TH at h ⊢
  cases e : G b with
  | some x => rw [e] at h; exact h
  | none =>
    rw [e] at h
    cases e2 : H b with
    | none => rw [e2] at h; cases h
    | some x =>
      rw [e2] at h
      cases x with
      | tup zs => cases h; show (match H' b with | some (.tup zs) => some (HO.tup zs) | _ => none) = _; rw [t _ _ e2]
      | _ => cases h
theorem th_tup {G H : Hp} (s : Same G H) {p : Addr} {zs : List V} (h : H p = some (.tup zs)) : TH G H p = some (.tup zs) := by
  unfold TH
  cases e : G p with
  | some x => have := s _ _ e; rw [h] at this; exact this.symm
  | none => show (match H p with | some (.tup zs) => some (HO.tup zs) | _ => none) = _; rw [h]
theorem pts_snoc : ∀ {ss : List So} {ds : List Dv} {i : Nat} {s : So} (d : Dv), ss[i]? = some s → ds.length = i → ptsD (ss.take (i + 1)) (ds ++ [d]) = ptsD (ss.take i) ds ++ ptD s d
  | [], _, _, _, _, h, _ => by cases h
  | s' :: ss, [], i, s, d, h, hl => by
    cases hl
    cases h
    simp [ptsD]
  | s' :: ss, d' :: ds, i, s, d, h, hl => by
    obtain ⟨j, rfl⟩ : ∃ j, i = j + 1 := ⟨ds.length, by simpa using hl.symm⟩
    simp only [List.take_succ_cons, List.cons_append, ptsD]
    rw [pts_snoc d (show ss[j]? = some s from h) (by simpa using hl), List.append_assoc]
def spWith (m : Nat) : Sp := fun vs H Q _ => ∃ (v u : V) (G : Hp) (d o : Dv) (xs : List Str) (n : Nat) (sd : Addr) (at0 : Nat), vs = [v, .int at0, u, .ref sd] ∧ n < m ∧ Same G H ∧ Rep G d v ∧ Ex (Lf xs) n d ∧ Nms xs ∧ Rep G o u ∧ o.small = true ∧ Bad o ∧ H sd = some (.dK lk) ∧
  ∀ (H' : Hp) (p : Addr) (w : V) (d' : Dv) (a' : Int), Same H H' → H' p = some (.tup [w, .int a']) → Rep (TH G H') d' w → d'.small = true → (at0 < (nodesD n d).length → a' = -1 ∧ Bad d') → ((nodesD n d).length ≤ at0 → a' = (at0 : Int) - ((nodesD n d).length : Int)) → Q (.ref p) H'
def Far (at1 : Nat) (a : Int) (k : Nat) (b : Prop) : Prop := (a = (at1 : Int) - (k : Int) ∧ k ≤ at1) ∨ (a = -1 ∧ at1 < k ∧ b)
theorem tif_go {C : Prop} {c : TT} {A B : TS} {D : Ends} {σ : St} {H : Hp} (hB : C → B D σ H) (f : (C → B D σ H) → tIfS c A B D σ H) : tIfS c A B D σ H := f hB
theorem and_T {t1 t2 : TT} {σ : St} {H : Hp} {Q : Bool → Hp → Prop} (q : Q true H) (f : Q true H → tAnd t1 t2 σ H Q) : tAnd t1 t2 σ H Q := f q
theorem far_step {at1 k L : Nat} {a a6 : Int} {B B' : Prop} (h : Far at1 a k B) (h0 : 0 ≤ a) (h1 : at1 - k < L → a6 = -1 ∧ B') (h2 : L ≤ at1 - k → a6 = ((at1 - k : Nat) : Int) - (L : Int)) : Far at1 a6 (k + L) (B ∨ B') := by
  rcases h with ⟨e, hk⟩ | ⟨e, _, _⟩
  · by_cases hl : L ≤ at1 - k
    · exact .inl ⟨by rw [h2 hl]; omega, by omega⟩
    · obtain ⟨e1, e2⟩ := h1 (by omega)
      exact .inr ⟨e1, by omega, .inr e2⟩
  · omega
theorem far_at {at1 k : Nat} {a : Int} {B : Prop} (h : Far at1 a k B) (h0 : 0 ≤ a) : a = ((at1 - k : Nat) : Int) := by
  rcases h with ⟨e, hk⟩ | ⟨e, _, _⟩ <;> omega
theorem far_keep {at1 k L : Nat} {a : Int} {B B' : Prop} (h : Far at1 a k B) (h0 : 0 ≤ a → L = 0) : Far at1 a (k + L) (B ∨ B') := by
  rcases h with ⟨e, hk⟩ | ⟨e, hk, b⟩
  · have := h0 (by omega)
    subst this
    exact .inl ⟨e, hk⟩
  · exact .inr ⟨e, by omega, .inl b⟩
theorem far_imp {at1 k : Nat} {a : Int} {B B' : Prop} (h : Far at1 a k B) (f : B → B') : Far at1 a k B' := h.imp id fun ⟨h1, h2, h3⟩ => ⟨h1, h2, f h3⟩
section
variable {P : Program} {w : World} {K : PySem.W.Frag} {mg : Str → Option Value} {base : Heap}
theorem sc_with : FnScope ["_law_one", "_law_at", "_law_odd_here", "_law_shapes_here", "_law_found", "_law_sign", "_law_part", "_law_some", "_law_inner"] ["_law_one", "_law_at", "_law_odd_here", "_law_shapes_here"] (defScope s_with) := ⟨rfl, rfl, rfl, by decide +kernel, rfl, by decide +kernel, by decide +kernel⟩
theorem ok_with {f : Addr} {fd : FuncData} {k0 m : Nat} (F : Fun K "_law_with" "_law_with" s_with f fd) (T : Txt K mg) (D_law_with : Def P w K mg base k0 "_law_with" ["_law_one", "_law_at", "_law_odd_here", "_law_shapes_here"] (spWith m)) : FnOk P w K mg base CX0 (k0 + 1) f fd ["_law_one", "_law_at", "_law_odd_here", "_law_shapes_here"] (spWith (m + 1)) := by
  have nd : (["_law_one", "_law_at", "_law_odd_here", "_law_shapes_here", "_law_found", "_law_sign", "_law_part", "_law_some", "_law_inner"] : List Str).Nodup := sc_with.nd
  refine F.ok sc_with (fun vs H Q E h => ?_) (fun cdv A outer s H vs Q E hr h => ?_)
  · obtain ⟨v, u, G, d, o, xs, n, sd, at0, rfl, _⟩ := h
    rfl
  obtain ⟨v, u, G, d, o, xs, n, sd, at0, rfl, nm, sG, R, hx, nms, Ro, so, bo, hsd, q⟩ := h
  have hu := hu_of hr
  have npos := nodes_pos hx
  refine ⟨_, (@pss_cons _ _ _ _ _ (@ps_if _ _ _ _ _ _ _ _ (@pt_cmpR _ _ _ _ _ _ _ _ op_eq (@pv _ 1 _ _ (by rfl) (by first | exact Or.inl rfl | exact Or.inr (Or.inl rfl) | exact Or.inr (Or.inr rfl)) (by decide) (by decide)) (@pe_int _ _ _ _) (nomark _)) (@pss_one _ _ _ (@ps_ret _ _ _ _ (@pe_tup _ _ _ _ _ (@pa_cons _ _ _ _ _ (@pv _ 2 _ _ (by rfl) (by first | exact Or.inl rfl | exact Or.inr (Or.inl rfl) | exact Or.inr (Or.inr rfl)) (by decide) (by decide)) (@pa_cons _ _ _ _ _ (@pe_un _ _ _ _ _ _ un_neg (@pe_int _ _ _ _)) (@pa_nil _) (by rfl)) (by rfl))))) (@pss_nil _)) (@pss_cons _ _ _ _ _ (@ps_set _ _ (1) _ _ _ _ nd rfl (Or.inl rfl) (@pe_op _ _ _ _ _ _ _ _ op_sub (@pv _ 1 _ _ (by rfl) (by first | exact Or.inl rfl | exact Or.inr (Or.inl rfl) | exact Or.inr (Or.inr rfl)) (by decide) (by decide)) (@pe_int _ _ _ _)) (by rfl) (by first | exact .inl rfl | exact .inr rfl | assumption)) (@pss_cons _ _ _ _ _ (@ps_set _ _ (4) _ _ _ _ nd rfl (Or.inl rfl) (@pe_lst _ _ _ _ (@pa_cons _ _ _ _ _ (@pe_ix _ _ _ _ _ _ _ ix_tup (@pv _ 0 _ _ (by rfl) (by first | exact Or.inl rfl | exact Or.inr (Or.inl rfl) | exact Or.inr (Or.inr rfl)) (by decide) (by decide)) (@pe_int _ _ _ _) (fun _ _ => rfl)) (@pa_nil _) (by rfl))) (by rfl) (by first | exact .inl rfl | exact .inr rfl | assumption)) (@pss_cons _ _ _ _ _ (@ps_for _ _ _ _ _ _ _ _ PassesOwn.never rfl (@pi_zipS _ _ _ _ _ _ _ _ _ rfl T.zip (@pa_cons _ _ _ _ _ (@pe_dget _ _ _ _ _ _ hu (@pv _ 3 _ _ (by rfl) (by first | exact Or.inl rfl | exact Or.inr (Or.inl rfl) | exact Or.inr (Or.inr rfl)) (by decide) (by decide)) (@pe_ix _ _ _ _ _ _ _ ix_tup (@pv _ 0 _ _ (by rfl) (by first | exact Or.inl rfl | exact Or.inr (Or.inl rfl) | exact Or.inr (Or.inr rfl)) (by decide) (by decide)) (@pe_int _ _ _ _) (fun _ _ => rfl)) (fun _ _ => rfl)) (@pa_cons _ _ _ _ _ (@pe_slice _ _ _ _ _ _ _ _ _ _ sl_tupW (@pv _ 0 _ _ (by rfl) (by first | exact Or.inl rfl | exact Or.inr (Or.inl rfl) | exact Or.inr (Or.inr rfl)) (by decide) (by decide)) (@po_some _ _ _ (@pe_int _ _ _ _)) (@po_none _)) (@pa_nil _) (by rfl)) (by rfl)) (by rfl) (by rfl)) (@pg_tup _ _ _ _ _ _ rfl (@pgs_cons _ _ _ _ _ (@pg_name _ _ (5) _ nd rfl (Or.inl rfl) (by first | exact .inl rfl | exact .inr rfl | assumption)) (@pgs_cons _ _ _ _ _ (@pg_name _ _ (6) _ nd rfl (Or.inl rfl) (by first | exact .inl rfl | exact .inr rfl | assumption)) (@pgs_nil _) (by rfl)) (by rfl)) (by rfl) (by rfl)) (@pss_cons _ _ _ _ _ (@ps_if _ _ _ _ _ _ _ _ (@PW.pt _ _ _ (@pw_and _ _ _ _ _ _ _ (@pt_cmpR _ _ _ _ _ _ _ _ op_eq (@pv _ 5 _ _ (by rfl) (by first | exact Or.inl rfl | exact Or.inr (Or.inl rfl) | exact Or.inr (Or.inr rfl)) (by decide) (by decide)) (@pe_str _ _ _ _) (nomark _)) (@pw_and1 _ _ _ _ (@pt_cmpR _ _ _ _ _ _ _ _ op_ge (@pv _ 1 _ _ (by rfl) (by first | exact Or.inl rfl | exact Or.inr (Or.inl rfl) | exact Or.inr (Or.inr rfl)) (by decide) (by decide)) (@pe_int _ _ _ _) (nomark _))))) (@pss_one _ _ _ (@ps_asg _ _ _ _ _ _ (@pe_def _ _ _ _ _ _ _ _ _ _ D_law_with hr rfl (@pa_cons _ _ _ _ _ (@pv _ 6 _ _ (by rfl) (by first | exact Or.inl rfl | exact Or.inr (Or.inl rfl) | exact Or.inr (Or.inr rfl)) (by decide) (by decide)) (@pa_cons _ _ _ _ _ (@pv _ 1 _ _ (by rfl) (by first | exact Or.inl rfl | exact Or.inr (Or.inl rfl) | exact Or.inr (Or.inr rfl)) (by decide) (by decide)) (@pa_cons _ _ _ _ _ (@pv _ 2 _ _ (by rfl) (by first | exact Or.inl rfl | exact Or.inr (Or.inl rfl) | exact Or.inr (Or.inr rfl)) (by decide) (by decide)) (@pa_cons _ _ _ _ _ (@pv _ 3 _ _ (by rfl) (by first | exact Or.inl rfl | exact Or.inr (Or.inl rfl) | exact Or.inr (Or.inr rfl)) (by decide) (by decide)) (@pa_nil _) (by rfl)) (by rfl)) (by rfl)) (by rfl)) (by decide) (by rfl) (by rfl)) (@pg_tup _ _ _ _ _ _ rfl (@pgs_cons _ _ _ _ _ (@pg_name _ _ (6) _ nd rfl (Or.inl rfl) (by first | exact .inl rfl | exact .inr rfl | assumption)) (@pgs_cons _ _ _ _ _ (@pg_name _ _ (1) _ nd rfl (Or.inl rfl) (by first | exact .inl rfl | exact .inr rfl | assumption)) (@pgs_nil _) (by rfl)) (by rfl)) (by rfl) (by rfl)) (by rfl) (by rfl) (by rfl))) (@pss_one _ _ _ (@ps_if _ _ _ _ _ _ _ _ (@PW.pt _ _ _ (@pw_and _ _ _ _ _ _ _ (@PW.pt _ _ _ (@pw_or _ _ _ _ _ _ _ (@pt_cmpR _ _ _ _ _ _ _ _ op_eq (@pv _ 5 _ _ (by rfl) (by first | exact Or.inl rfl | exact Or.inr (Or.inl rfl) | exact Or.inr (Or.inr rfl)) (by decide) (by decide)) (@pe_str _ _ _ _) (nomark _)) (@pw_or1 _ _ _ _ (@pt_cmpR _ _ _ _ _ _ _ _ op_eq (@pv _ 5 _ _ (by rfl) (by first | exact Or.inl rfl | exact Or.inr (Or.inl rfl) | exact Or.inr (Or.inr rfl)) (by decide) (by decide)) (@pe_str _ _ _ _) (nomark _))))) (@pw_and1 _ _ _ _ (@pt_cmpR _ _ _ _ _ _ _ _ op_ge (@pv _ 1 _ _ (by rfl) (by first | exact Or.inl rfl | exact Or.inr (Or.inl rfl) | exact Or.inr (Or.inr rfl)) (by decide) (by decide)) (@pe_int _ _ _ _) (nomark _))))) (@pss_cons _ _ _ _ _ (@ps_set _ _ (7) _ _ _ _ nd rfl (Or.inl rfl) (@pe_lst _ _ _ _ (@pa_nil _)) (by rfl) (by first | exact .inl rfl | exact .inr rfl | assumption)) (@pss_cons _ _ _ _ _ (@ps_for _ _ _ _ _ _ _ _ PassesOwn.never rfl (@pi_tup _ _ _ _ (@pv _ 6 _ _ (by rfl) (by first | exact Or.inl rfl | exact Or.inr (Or.inl rfl) | exact Or.inr (Or.inr rfl)) (by decide) (by decide))) (@pg_name _ _ (8) _ nd rfl (Or.inl rfl) (by first | exact .inl rfl | exact .inr rfl | assumption)) (@pss_cons _ _ _ _ _ (@ps_if _ _ _ _ _ _ _ _ (@pt_cmpR _ _ _ _ _ _ _ _ op_ge (@pv _ 1 _ _ (by rfl) (by first | exact Or.inl rfl | exact Or.inr (Or.inl rfl) | exact Or.inr (Or.inr rfl)) (by decide) (by decide)) (@pe_int _ _ _ _) (nomark _)) (@pss_one _ _ _ (@ps_asg _ _ _ _ _ _ (@pe_def _ _ _ _ _ _ _ _ _ _ D_law_with hr rfl (@pa_cons _ _ _ _ _ (@pv _ 8 _ _ (by rfl) (by first | exact Or.inl rfl | exact Or.inr (Or.inl rfl) | exact Or.inr (Or.inr rfl)) (by decide) (by decide)) (@pa_cons _ _ _ _ _ (@pv _ 1 _ _ (by rfl) (by first | exact Or.inl rfl | exact Or.inr (Or.inl rfl) | exact Or.inr (Or.inr rfl)) (by decide) (by decide)) (@pa_cons _ _ _ _ _ (@pv _ 2 _ _ (by rfl) (by first | exact Or.inl rfl | exact Or.inr (Or.inl rfl) | exact Or.inr (Or.inr rfl)) (by decide) (by decide)) (@pa_cons _ _ _ _ _ (@pv _ 3 _ _ (by rfl) (by first | exact Or.inl rfl | exact Or.inr (Or.inl rfl) | exact Or.inr (Or.inr rfl)) (by decide) (by decide)) (@pa_nil _) (by rfl)) (by rfl)) (by rfl)) (by rfl)) (by decide) (by rfl) (by rfl)) (@pg_tup _ _ _ _ _ _ rfl (@pgs_cons _ _ _ _ _ (@pg_name _ _ (8) _ nd rfl (Or.inl rfl) (by first | exact .inl rfl | exact .inr rfl | assumption)) (@pgs_cons _ _ _ _ _ (@pg_name _ _ (1) _ nd rfl (Or.inl rfl) (by first | exact .inl rfl | exact .inr rfl | assumption)) (@pgs_nil _) (by rfl)) (by rfl)) (by rfl) (by rfl)) (by rfl) (by rfl) (by rfl))) (@pss_nil _)) (@pss_one _ _ _ (@ps_expr _ _ _ _ (@pe_bm _ _ _ _ _ _ _ _ _ _ _ _ PySem.F.plainAttrs_list PySem.F.slot_list_append PySem.F.type_list_append mt_append (@pv _ 7 _ _ (by rfl) (by first | exact Or.inl rfl | exact Or.inr (Or.inl rfl) | exact Or.inr (Or.inr rfl)) (by decide) (by decide)) (@pa_cons _ _ _ _ _ (@pv _ 8 _ _ (by rfl) (by first | exact Or.inl rfl | exact Or.inr (Or.inl rfl) | exact Or.inr (Or.inr rfl)) (by decide) (by decide)) (@pa_nil _) (by rfl)) (by rfl) (by rfl) (by rfl) (by rfl) (by rfl)) (by rfl)))) (by intro _; rfl)) (@pss_one _ _ _ (@ps_set _ _ (6) _ _ _ _ nd rfl (Or.inl rfl) (@pe_callTy _ _ _ _ _ _ _ _ _ call_tuple_of rfl T.tuple (by decide +kernel) (@pa_cons _ _ _ _ _ (@pv _ 7 _ _ (by rfl) (by first | exact Or.inl rfl | exact Or.inr (Or.inl rfl) | exact Or.inr (Or.inr rfl)) (by decide) (by decide)) (@pa_nil _) (by rfl)) (by decide) (by decide) (by rfl) (by rfl)) (by rfl) (by first | exact .inl rfl | exact .inr rfl | assumption))))) (@pss_nil _)))) (@pss_one _ _ _ (@ps_expr _ _ _ _ (@pe_bm _ _ _ _ _ _ _ _ _ _ _ _ PySem.F.plainAttrs_list PySem.F.slot_list_append PySem.F.type_list_append mt_append (@pv _ 4 _ _ (by rfl) (by first | exact Or.inl rfl | exact Or.inr (Or.inl rfl) | exact Or.inr (Or.inr rfl)) (by decide) (by decide)) (@pa_cons _ _ _ _ _ (@pv _ 6 _ _ (by rfl) (by first | exact Or.inl rfl | exact Or.inr (Or.inl rfl) | exact Or.inr (Or.inr rfl)) (by decide) (by decide)) (@pa_nil _) (by rfl)) (by rfl) (by rfl) (by rfl) (by rfl) (by rfl)) (by rfl)))) (by intro _; rfl)) (@pss_one _ _ _ (@ps_ret _ _ _ _ (@pe_tup _ _ _ _ _ (@pa_cons _ _ _ _ _ (@pe_callTy _ _ _ _ _ _ _ _ _ call_tuple_of rfl T.tuple (by decide +kernel) (@pa_cons _ _ _ _ _ (@pv _ 4 _ _ (by rfl) (by first | exact Or.inl rfl | exact Or.inr (Or.inl rfl) | exact Or.inr (Or.inr rfl)) (by decide) (by decide)) (@pa_nil _) (by rfl)) (by decide) (by decide) (by rfl) (by rfl)) (@pa_cons _ _ _ _ _ (@pv _ 1 _ _ (by rfl) (by first | exact Or.inl rfl | exact Or.inr (Or.inl rfl) | exact Or.inr (Or.inr rfl)) (by decide) (by decide)) (@pa_nil _) (by rfl)) (by rfl))))))))), ?_⟩
  refine ⟨_, rfl, rfl, _, rfl, ite2 (fun h => ⟨_, rfl, 1, rfl, z2, fun p hp => ?_⟩) (fun h => ?_)⟩
  · have e0 : (at0 : Int) = 0 := eqI h
    refine q _ p u o (-1) (same_new hp _) upd_same (Ro.mono (th_base _ _)) so (fun _ => ⟨rfl, bo⟩) (fun z => absurd z (by omega))
  have a1 : at0 ≠ 0 := fun e => neI h (by rw [e]; rfl)
  obtain ⟨at1, rfl⟩ : ∃ k, at0 = k + 1 := ⟨at0 - 1, by omega⟩
  obtain ⟨n, rfl⟩ : ∃ k, n = k + 1 := by
    cases n with
    | zero => exact False.elim hx
    | succ n => exact ⟨n, rfl⟩
  obtain ⟨p, ds, hp, rfl, hf⟩ := id hx
  obtain ⟨a, vs, rfl, haG, rs⟩ := Rep.tup_inv R
  obtain ⟨v0, ws, rfl, R0, rw'⟩ := reps_cons rs
  obtain rfl : v0 = .str p.1 := R0
  have ha := sG _ _ haG
  have lds := hf.length
  have lws := rw'.length
  have h5 := wt_few' p hp
  refine ⟨_, rfl, _, _, rfl, rfl, ?_⟩
  refine ⟨_, rfl, a, _, 0, .str p.1, rfl, rfl, SqT.of ha, atI_nat (j := 0) rfl, z1, fun L hL => ?_⟩
  have q1 := same_new hL (.lst [.str p.1])
  have l1 : upd H L (.lst [.str p.1]) L = some (.lst [.str p.1]) := upd_same
  generalize upd H L (.lst [.str p.1]) = H1 at q1 l1 ⊢
  have hget : DGet H1 sd (.str p.1) (some (.str p.2.1)) := by rw [← lk_val hp]; exact DGet.k (k := Sum.inr p.1) (q1 _ _ hsd)
  refine ⟨_, rfl, _, rfl, a, _, 0, .str p.1, rfl, rfl, SqT.of (q1 _ _ ha), atI_nat (j := 0) rfl, sd, .str p.2.1, rfl, hget, ?_⟩
  refine ⟨_, rfl, 1, rfl, ?_⟩
  dsimp only [tNoPart]
  refine slW_one (q1 _ _ ha) fun H2 t s2 ht => ?_
  have ec : cutV (V.str p.1 :: ws) (some 1) none = ws := cut_fromA (V.str p.1 :: ws) 1
  rw [ec] at ht
  have s02 := q1.trans s2
  have l2 := s2 _ _ l1
  have aE : ((at1 + 1 : Nat) : Int) - 1 = (at1 : Int) := by omega
  refine ⟨p.2.1, t, rfl, (wt_ltr p hp).2, ⟨_, ht⟩, for_zipS_o (D := { nx := tRet (tTup (tCons (tCB (fun xs H Q => ∃ p ys, xs = [.ref p] ∧ ((SqL K H p ys ∧ ∀ l, H l = none → Q (.ref l) (upd H l (.tup ys))) ∨ (SqT K H p ys ∧ Q (.ref p) H))) (tCons (tVar 4) tNil)) (tCons (tVar 1) tNil))) { nx := fun x H' => Q V.non H', rt := Q }, rt := Q }) (ys := ws) (fun i σ H' => ∃ (o5 o6 o7 o8 : Option V) (ai : Int) (us : List V) (es : List Dv), σ = [some (.ref a), some (.int ai), some u, some (.ref sd), some (.ref L), o5, o6, o7, o8] ∧ Same H H' ∧ H' t = some (.tup ws) ∧ H' L = some (.lst (.str p.1 :: us)) ∧ Reps (TH G H') es us ∧ es.length = i ∧ (∀ e ∈ es, e.small = true) ∧ Far at1 ai ((ptsD (p.2.2.take i) (ds.take i)).flatMap (nodesD n)).length (∃ e ∈ ptsD (p.2.2.take i) es, Bad e)) ⟨_, _, _, _, ((at1 + 1 : Nat) : Int) - 1, [], [], rfl, s02, ht, l2, by simp only [Reps], rfl, by simp, .inl ⟨by rw [aE]; simp [ptsD], by simp [ptsD]⟩⟩ (fun i σ H' ⟨_, _, _, _, _, _, _, _, _, h, _⟩ => h) ?T1 ?_⟩
  case T1 =>
    rintro i y σ H3 t3 D1 gD1 hi hy ⟨o5, o6, o7, o8, ai, us, es, rfl, s3, ht3, l3, R3, le3, sm3, far3⟩ hp3
    obtain ⟨sn, hso, hsg⟩ := sign_ltr hp hi
    rw [hsg]
    obtain ⟨ed, hd, hfd⟩ := hf.get hso
    obtain ⟨y', hy', Ry⟩ := reps_getD rw' hd
    rw [hy] at hy'
    cases hy'
    have q4 := same_new hp3 (.tup [.str (ltr sn), y])
    have ht4 : upd H3 t3 (.tup [.str (ltr sn), y]) t3 = some (.tup [.str (ltr sn), y]) := upd_same
    have s4 := s3.trans q4
    have l4 := q4 _ _ l3
    have t4 := q4 _ _ ht3
    have R4 := R3.mono (th_mono (G := G) (Same.tups q4))
    generalize upd H3 t3 (.tup [.str (ltr sn), y]) = H4 at ht4 s4 l4 t4 R4 ⊢
    refine ⟨t3, _, rfl, SqT.of ht4, rfl, _, _, rfl, _, _, rfl, rfl, ?_⟩
    have sme : ed.small = true := tup_smalls (ex_small nms hx) ed (List.mem_cons_of_mem _ (List.mem_of_getElem? hd))
    have lus := R4.length
    have Lt : L ≠ t := fun e => by rw [e, t4] at l4; cases l4
    have sG4 := sG.trans s4
    have sd4 := s4 _ _ hsd
    show tSeq (tIfS _ _ _) _ _ _ _
    refine seq_goO (fun σ' H' => ∃ (a' : Int) (pv : V) (e' : Dv) (o7 o8 : Option V), σ' = [some (.ref a), some (.int a'), some u, some (.ref sd), some (.ref L), some (.str (ltr sn)), some pv, o7, o8] ∧ Same H4 H' ∧ Rep (TH G H') e' pv ∧ e'.small = true ∧ Far at1 a' (((ptsD (p.2.2.take i) (ds.take i)).flatMap (nodesD n)).length + ((ptD sn ed).flatMap (nodesD n)).length) ((∃ e ∈ ptsD (p.2.2.take i) es, Bad e) ∨ ∃ e ∈ ptD sn e', Bad e)) ?C fun N1 go => ?_
    case C =>
      rintro σ H5 ⟨a', pv, e', o7, o8, rfl, s5, R5, sm5, far5⟩
      have l5 := s5 _ _ l4
      refine ⟨_, rfl, .inl ⟨rfl, _, SqL.of l5⟩, _, rfl, L, _, _, rfl, rfl, l5, by rw [List.length_cons, lus, le3, sizeLine_eq]; rw [ltr_len hp] at hi; omega, ?_⟩
      have b6 := SameB.upd H5 L (.lst ((.str p.1 :: us) ++ [pv]))
      have t6 := b6.tups l5
      refine gD1 _ _ ⟨_, _, _, _, a', us ++ [pv], es ++ [e'], rfl, fun g oo e => b6 g oo (ne_of_none e hL) (s5 _ _ (s4 _ _ e)), b6 _ _ (Ne.symm Lt) (s5 _ _ t4), upd_same, ?_, by rw [List.length_append, le3]; rfl, fun e he => ?_, ?_⟩
      · exact Reps.append (R4.mono (th_mono ((Same.tups s5).trans t6))) (reps_one (R5.mono (th_mono t6)))
      · rcases List.mem_append.mp he with h1 | h1
        · exact sm3 e h1
        · rw [List.mem_singleton.mp h1]; exact sm5
      · rw [ptsD_take _ _ _ hso hd, List.flatMap_append, List.length_append, pts_snoc e' hso le3]
        refine far_imp far5 fun z => ?_
        rcases z with ⟨e, he, hb⟩ | ⟨e, he, hb⟩
        · exact ⟨e, List.mem_append_left _ he, hb⟩
        · exact ⟨e, List.mem_append_right _ he, hb⟩
    have keep : ∀ (o7 o8 : Option V), (0 ≤ ai → ((ptD sn ed).flatMap (nodesD n)).length = 0) → ∃ (a' : Int) (pv : V) (e' : Dv) (o7' o8' : Option V), [some (V.ref a), some (.int ai), some u, some (.ref sd), some (.ref L), some (.str (ltr sn)), some y, o7, o8] = [some (.ref a), some (.int a'), some u, some (.ref sd), some (.ref L), some (.str (ltr sn)), some pv, o7', o8'] ∧ Same H4 H4 ∧ Rep (TH G H4) e' pv ∧ e'.small = true ∧ Far at1 a' (((ptsD (p.2.2.take i) (ds.take i)).flatMap (nodesD n)).length + ((ptD sn ed).flatMap (nodesD n)).length) ((∃ e ∈ ptsD (p.2.2.take i) es, Bad e) ∨ ∃ e ∈ ptD sn e', Bad e) := fun o7 o8 h0 => ⟨ai, y, ed, o7, o8, rfl, Same.refl _, Ry.mono (th_base _ _), sme, far_keep far3 h0⟩
    refine tif_go (C := sn ≠ .e ∨ ai < 0) (fun hC => ?EL) fun el => ?_
    case EL =>
      by_cases har : sn = .a ∨ sn = .r
      · obtain ⟨cs, rfl, c4, hcs⟩ : ∃ cs, ed = .tup cs ∧ cs.length ≤ 4 ∧ ∀ e ∈ cs, Ex (Lf xs) n e := by
          rcases har with e | e
          · subst e; obtain ⟨es, h1, h2, h3⟩ := hfd; exact ⟨es, h1, h2, h3⟩
          · subst e; obtain ⟨es, h1, _, h2, h3⟩ := hfd; exact ⟨es, h1, h2, h3⟩
        have ek : ptD sn (.tup cs) = cs := by rcases har with e | e <;> subst e <;> rfl
        by_cases h0 : 0 ≤ ai
        · refine and_T (iteT ?TT) (fun qT => ?_)
          case TT =>
            obtain ⟨b2, zs, rfl, hb2, rz⟩ := Rep.tup_inv Ry
            have lz := rz.length
            refine ⟨Nat.zero_le _, fun S hS => ?_⟩
            have q5 := same_new hS (.lst [])
            have S5 : upd H4 S (.lst []) S = some (.lst []) := upd_same
            generalize upd H4 S (.lst []) = H5 at q5 S5 ⊢
            refine ⟨_, rfl, b2, rfl, ⟨zs, SqT.of (q5 _ _ (sG4 _ _ hb2))⟩, for_tup_o (xs := zs) (fun j σ H' => ∃ (o8 : Option V) (aj : Int) (vs' : List V) (es' : List Dv), σ = [some (.ref a), some (.int aj), some u, some (.ref sd), some (.ref L), some (.str (ltr sn)), some (.ref b2), some (.ref S), o8] ∧ Same H4 H' ∧ H' S = some (.lst vs') ∧ Reps (TH G H') es' vs' ∧ es'.length = j ∧ (∀ e ∈ es', e.small = true) ∧ Far at1 aj (((ptsD (p.2.2.take i) (ds.take i)).flatMap (nodesD n)).length + ((cs.take j).flatMap (nodesD n)).length) ((∃ e ∈ ptsD (p.2.2.take i) es, Bad e) ∨ ∃ e ∈ es', Bad e)) ⟨_, ai, [], [], rfl, q5, S5, by simp only [Reps], rfl, by simp, far_imp far3 .inl⟩ (fun j σ H' _ ⟨_, _, _, _, _, sx, _⟩ => SqT.of (sx _ _ (sG4 _ _ hb2))) ?T2 ?_⟩
            case T2 =>
              rintro j x σ H6 D2 gD2 hxj ⟨o8, aj, vs', es', rfl, s6, S6, R6, le6, sm6, far6⟩
              obtain ⟨c, hc, Rc⟩ := rz.get hxj
              have hj : j < cs.length := (List.getElem?_eq_some_iff.mp hc).1
              have hcx := hcs c (List.mem_of_getElem? hc)
              have eq : (cs.take (j + 1)).flatMap (nodesD n) = (cs.take j).flatMap (nodesD n) ++ nodesD n c := by rw [List.take_add_one, hc, List.flatMap_append]; simp
              have smc : c.small = true := ex_small nms hcx
              have sG6 := sG4.trans s6
              show tSeq (tIfS _ _ _) _ _ _ _
              refine seq_goO (fun σ' H' => ∃ (a' : Int) (pv : V) (e' : Dv), σ' = [some (.ref a), some (.int a'), some u, some (.ref sd), some (.ref L), some (.str (ltr sn)), some (.ref b2), some (.ref S), some pv] ∧ Same H6 H' ∧ Rep (TH G H') e' pv ∧ e'.small = true ∧ Far at1 a' (((ptsD (p.2.2.take i) (ds.take i)).flatMap (nodesD n)).length + ((cs.take j).flatMap (nodesD n)).length + (nodesD n c).length) (((∃ e ∈ ptsD (p.2.2.take i) es, Bad e) ∨ ∃ e ∈ es', Bad e) ∨ Bad e')) ?C2 fun N2 go2 => ?_
              case C2 =>
                rintro σ H7 ⟨a', pv, e', rfl, s7, R7, sm7, far7⟩
                have S7 := s7 _ _ S6
                have lv := R6.length
                refine ⟨_, rfl, .inl ⟨rfl, _, SqL.of S7⟩, _, rfl, S, _, _, rfl, rfl, S7, by rw [lv, le6, sizeLine_eq]; omega, ?_⟩
                have b8 := SameB.upd H7 S (.lst (vs' ++ [pv]))
                have t8 := b8.tups S7
                refine gD2 _ _ ⟨_, a', vs' ++ [pv], es' ++ [e'], rfl, fun g oo e => b8 g oo (ne_of_none e hS) (s7 _ _ (s6 _ _ e)), upd_same, ?_, by rw [List.length_append, le6]; rfl, fun e he => ?_, ?_⟩
                · exact Reps.append (R6.mono (th_mono ((Same.tups s7).trans t8))) (reps_one (R7.mono (th_mono t8)))
                · rcases List.mem_append.mp he with h1 | h1
                  · exact sm6 e h1
                  · rw [List.mem_singleton.mp h1]; exact sm7
                · rw [eq, List.length_append, ← Nat.add_assoc]
                  refine far_imp far7 fun z => ?_
                  rcases z with (z | ⟨e, he, hb⟩) | hb
                  · exact .inl z
                  · exact .inr ⟨e, List.mem_append_left _ he, hb⟩
                  · exact .inr ⟨e', by simp, hb⟩
              refine ⟨_, rfl, _, _, rfl, rfl, _, rfl, ?_⟩
              by_cases hj0 : 0 ≤ aj
              · rw [decide_eq_true hj0]
                refine iteT ⟨_, rfl, _, rfl, _, rfl, _, rfl, x, u, G, c, o, xs, n, sd, at1 - (((ptsD (p.2.2.take i) (ds.take i)).flatMap (nodesD n)).length + ((cs.take j).flatMap (nodesD n)).length), by show [x, V.int aj, u, V.ref sd] = _; rw [far_at far6 hj0], by omega, sG6, Rc, hcx, nms, Ro, so, bo, s6 _ _ sd4, fun H7 r w7 d7 a7 s7 hr7 R7 sm7 f1 f2 => ?_⟩
                refine ⟨r, _, rfl, SqT.of hr7, rfl, _, _, rfl, _, _, rfl, rfl, go2 _ _ ⟨a7, w7, d7, rfl, s7, R7, sm7, far_step far6 hj0 f1 f2⟩⟩
              · rw [decide_eq_false hj0]
                exact iteF (go2 _ _ ⟨aj, x, c, rfl, Same.refl _, Rc.mono (th_base _ _), smc, far_keep far6 fun z => absurd z hj0⟩)
            rintro σ H6 ⟨o8, aj, vs', es', rfl, s6, S6, R6, le6, sm6, far6⟩
            refine ⟨_, rfl, S, _, rfl, .inl ⟨SqL.of S6, fun tt htt => go _ _ ⟨aj, .ref tt, .tup es', _, _, rfl, s6.trans (same_new htt _), ?_, ?_, ?_⟩⟩⟩
            · rw [Rep]
              exact ⟨tt, _, rfl, th_tup (sG4.trans (s6.trans (same_new htt _))) upd_same, R6.mono (th_mono (Same.tups (same_new htt _)))⟩
            · exact tup_small sm6 (by omega)
            · have ek' : ptD sn (.tup es') = es' := by rcases har with e | e <;> subst e <;> rfl
              rw [ek, ek']
              rw [lz, List.take_length] at far6
              exact far6
          · rcases har with e | e
            · exact ⟨_, rfl, rfl, _, rfl, ite2 (fun _ => iteT ⟨_, rfl, _, _, rfl, rfl, _, rfl, by rw [decide_eq_true h0]; exact qT⟩) (fun h2 => absurd (decide_eq_true ((ltr_a sn).mpr e)) h2)⟩
            · exact ⟨_, rfl, rfl, _, rfl, ite2 (fun h2 => absurd ((ltr_a sn).mp (of_decide_eq_true h2)) (by rw [e]; decide)) (fun _ => ⟨_, rfl, rfl, _, rfl, by rw [decide_eq_true ((ltr_r sn).mpr e)]; exact iteT ⟨_, rfl, _, _, rfl, rfl, _, rfl, by rw [decide_eq_true h0]; exact qT⟩⟩)⟩
        · have kp := fun o7 o8 => keep o7 o8 fun z => absurd z h0
          rcases har with e | e
          · exact ⟨_, rfl, rfl, _, rfl, ite2 (fun _ => iteT ⟨_, rfl, _, _, rfl, rfl, _, rfl, by rw [decide_eq_false h0]; exact iteF (go _ _ (kp _ _))⟩) (fun h2 => absurd (decide_eq_true ((ltr_a sn).mpr e)) h2)⟩
          · exact ⟨_, rfl, rfl, _, rfl, ite2 (fun h2 => absurd ((ltr_a sn).mp (of_decide_eq_true h2)) (by rw [e]; decide)) (fun _ => ⟨_, rfl, rfl, _, rfl, by rw [decide_eq_true ((ltr_r sn).mpr e)]; exact iteT ⟨_, rfl, _, _, rfl, rfl, _, rfl, by rw [decide_eq_false h0]; exact iteF (go _ _ (kp _ _))⟩⟩)⟩
      · have na : sn ≠ .a := fun e => har (.inl e)
        have nr : sn ≠ .r := fun e => har (.inr e)
        refine ⟨_, rfl, rfl, _, rfl, ite2 (fun h2 => absurd ((ltr_a sn).mp (of_decide_eq_true h2)) na) (fun _ => ⟨_, rfl, rfl, _, rfl, ?_⟩)⟩
        rw [show decide (V.str (ltr sn) = V.str "r") = false from decide_eq_false fun h2 => nr ((ltr_r sn).mp h2)]
        refine iteF (iteF (go _ _ (keep _ _ fun h0 => ?_)))
        have ne : sn ≠ .e := hC.elim id fun z => absurd z (by omega)
        cases sn with
        | e => exact absurd rfl ne
        | a => exact absurd rfl na
        | r => exact absurd rfl nr
        | _ => rfl
    by_cases he : sn = .e
    · by_cases h0 : 0 ≤ ai
      · subst he
        refine ⟨_, rfl, rfl, _, rfl, ite2 (fun _ => ⟨_, rfl, _, _, rfl, rfl, _, rfl, ?_⟩) (fun h2 => absurd (decide_eq_true ((ltr_e .e).mpr rfl)) h2)⟩
        rw [decide_eq_true h0]
        refine iteT ⟨_, rfl, _, rfl, _, rfl, _, rfl, y, u, G, ed, o, xs, n, sd, at1 - ((ptsD (p.2.2.take i) (ds.take i)).flatMap (nodesD n)).length, by show [y, V.int ai, u, V.ref sd] = _; rw [far_at far3 h0], by omega, sG4, Ry, hfd, nms, Ro, so, bo, sd4, fun H6 r w6 d6 a6 s6 hr6 R6 sm6 f1 f2 => ?_⟩
        refine ⟨r, _, rfl, SqT.of hr6, rfl, _, _, rfl, _, _, rfl, rfl, go _ _ ⟨a6, w6, d6, _, _, rfl, s6, R6, sm6, ?_⟩⟩
        have e1 : ((ptD .e ed).flatMap (nodesD n)).length = (nodesD n ed).length := by show ([ed].flatMap (nodesD n)).length = _; simp
        rw [e1]
        exact far_imp (far_step far3 h0 f1 f2) fun z => z.imp id fun hb => ⟨d6, List.mem_singleton.mpr rfl, hb⟩
      · subst he
        refine ⟨_, rfl, rfl, _, rfl, ite2 (fun _ => ⟨_, rfl, _, _, rfl, rfl, _, rfl, ?_⟩) (fun h2 => absurd (decide_eq_true ((ltr_e .e).mpr rfl)) h2)⟩
        rw [decide_eq_false h0]
        exact iteF (el (.inr (by omega)))
    · exact ⟨_, rfl, rfl, _, rfl, ite2 (fun h2 => absurd ((ltr_e sn).mp (of_decide_eq_true h2)) he) (fun _ => iteF (el (.inl he)))⟩
  rintro σ H3 ⟨o5, o6, o7, o8, ai, us, es, rfl, s3, ht3, l3, R3, le3, sm3, far3⟩
  refine ⟨_, rfl, L, _, rfl, .inl ⟨SqL.of l3, fun tt htt => ⟨_, rfl, z2, fun r hr' => ?_⟩⟩⟩
  have q4 := same_new htt (.tup (.str p.1 :: us))
  have q5 := same_new hr' (.tup [.ref tt, .int ai])
  rw [ltr_len hp, Nat.min_eq_left (by omega), List.take_length, ← lds, List.take_length] at far3
  have s5 := s3.trans (q4.trans q5)
  have sG5 := sG.trans s5
  have nl : (nodesD (n + 1) (.tup (.str p.1 :: ds))).length = ((ptsD p.2.2 ds).flatMap (nodesD n)).length + 1 := by
    show (_ :: (XB.partsD (.tup (.str p.1 :: ds))).flatMap (nodesD n)).length = _
    rw [XB.parts_of hp, List.length_cons]
  refine q _ r (.ref tt) (.tup (.str p.1 :: es)) ai s5 upd_same ?_ ?_ (fun z => ?_) (fun z => ?_)
  · rw [Rep]
    refine ⟨tt, _, rfl, th_tup sG5 (q5 _ _ upd_same), ?_⟩
    simp only [Reps]
    exact ⟨_, _, rfl, by simp only [Rep], R3.mono (th_mono ((Same.tups q4).trans (Same.tups q5)))⟩
  · refine tup_small (fun e he => ?_) (by rw [List.length_cons]; omega)
    rcases List.mem_cons.mp he with rfl | he
    · exact wt_small p hp
    · exact sm3 e he
  · rcases far3 with ⟨_, h2⟩ | ⟨h1, h2, e, he, hb⟩
    · omega
    · exact ⟨h1, bad_up (e := e) (by rw [XB.parts_of hp]; exact he) hb⟩
  · rcases far3 with ⟨h1, h2⟩ | ⟨h1, h2, _⟩
    · omega
    · omega
end
end K21
set_option maxHeartbeats 1000000
namespace K21
open PySem L2 KB XB
abbrev s_odd : Stmt := top 42
def oe : Dv := .tup [.str "number", .int 1]
def W32 : List Str := WT.map (·.1) ++ reck
def odd0 (wd : Str) : List Dv := [.non, .int 7, .str "name", .lst [], .tup [], .dct, .lst [.str "name", .str "x"], .tup [.str "Name", .str "x"], .tup [.non], .tup [.str "name"], .tup [.str "name", .str "x", .str "y"]]
def odd1 (wd : Str) : List Dv := [.tup [.str "name", .str "X"], .tup [.str "name", .str ""], .tup [.str "name", .str "abcdefghi"], .tup [.str "name", .int 3], .tup [.str "number", .int (-1)]]
def odd2 (wd : Str) : List Dv := [.tup [.str "number", .int (10 ^ (12 : Int).toNat)], .tup [.str "number", .bl true], .tup [.str "number", .str "1"], .tup [.str "length", .tup [.int 0]], .tup [.str "length", .int 4]]
def odd3 (wd : Str) : List Dv := [.tup [.str "length", .tup [.int 100, .tup []]]]
def odd4 (wd : Str) : List Dv := [.tup [.str "length", .tup [.int 0, .tup [.tup [.str "n", .int 100]]]], .tup [.str "length", .tup [.int 0, .tup [.tup [.str "n", .int 0]]]], .tup [.str "reckon", .str "over", oe, oe]]
def odd5 (wd : Str) : List Dv := [.tup [.str "reckon", .str "plus", oe], .tup [.str "plus", oe, oe], .tup [.str "if", oe, oe], .tup [.str "let", .str "x", oe], .tup [.str "let", oe, .str "x", oe]]
def odd6 (wd : Str) : List Dv := [.tup [.str "call", .str wd, .tup []], .tup [.str "call", .str wd, .tup [oe]]]
def odd7 (wd : Str) : List Dv := [.tup [.str "call", .str "f", .lst []], .tup [.str "call", .str "f", .tup (List.replicate (5 : Int).toNat [oe]).flatten]]
def odd8 (wd : Str) : List Dv := [.tup [.str "call", .str "f"], .tup [.str "row", .tup []], .tup [.str "row", .tup (List.replicate (5 : Int).toNat [oe]).flatten], .tup [.str "row", .lst [oe]], .tup [.str "row", oe], .tup [.str "none", .tup [.str "whole", .int 1]]]
def odd9 (wd : Str) : List Dv := [.tup [.str "none", .str "whole"]]
def odd10 (wd : Str) : List Dv := [.tup [.str "none", .tup [.str "row", .tup [.int 100, .tup []], .tup [.str "whole"]]], .tup [.str "place", .tup [.int 0, .tup []], .int 3], .tup [.str "place", .tup [.int 0, .tup []]]]
def odd11 (wd : Str) : List Dv := [.tup [.str "fold", .str "x", .tup [.int 1, .tup []], .str "x", oe, oe], .tup [.str "loop", .str "x", .int 1, oe], .tup [.str "fork", .tup [.int 0, .tup []], oe, .str "x", oe]]
def odd12 (wd : Str) : List Dv := [.tup [.str "when", .tup [.int 0, .tup []], oe, .str "x", oe, oe], .tup [.str "pair", oe], .tup [.str "turn", oe, oe], .tup [.str "get", oe, .tup [.int 0, .tup []]]]
def odd13 (wd : Str) : List Dv := [.tup [.str "mirror", .non]]
theorem ol0 (wd : Str) : (odd0 wd).length = 11 := rfl
theorem ol1 (wd : Str) : (odd1 wd).length = 5 := rfl
theorem ol2 (wd : Str) : (odd2 wd).length = 5 := rfl
theorem ol3 (wd : Str) : (odd3 wd).length = 1 := rfl
theorem ol4 (wd : Str) : (odd4 wd).length = 3 := rfl
theorem ol5 (wd : Str) : (odd5 wd).length = 5 := rfl
theorem ol6 (wd : Str) : (odd6 wd).length = 2 := rfl
theorem ol7 (wd : Str) : (odd7 wd).length = 2 := rfl
theorem ol8 (wd : Str) : (odd8 wd).length = 6 := rfl
theorem ol9 (wd : Str) : (odd9 wd).length = 1 := rfl
theorem ol10 (wd : Str) : (odd10 wd).length = 3 := rfl
theorem ol11 (wd : Str) : (odd11 wd).length = 3 := rfl
theorem ol12 (wd : Str) : (odd12 wd).length = 4 := rfl
theorem ol13 (wd : Str) : (odd13 wd).length = 1 := rfl
def oddAll (wd : Str) : List Dv := (((((((((((((odd0 wd ++ odd1 wd) ++ odd2 wd) ++ odd3 wd) ++ odd4 wd) ++ odd5 wd) ++ odd6 wd) ++ odd7 wd) ++ odd8 wd) ++ odd9 wd) ++ odd10 wd) ++ odd11 wd) ++ odd12 wd) ++ odd13 wd)
theorem l_none {B H : Hp} {l : Addr} (s : Same B (less1 H l)) : B l = none := by
  cases e : B l with
  | none => rfl
  | some o => have := s _ _ e; unfold less1 at this; rw [if_pos rfl] at this; cases this
theorem repL_some {H : Hp} {l : Addr} {ds : List Dv} (h : RepL H l ds) : H l ≠ none := by
  obtain ⟨xs, e, _⟩ := h.ex
  rw [e]; exact nofun
theorem repL_mono {H H' : Hp} {l : Addr} {ds : List Dv} (h : RepL H l ds) (s : Same H H') : RepL H' l ds := by
  obtain ⟨xs, e, r⟩ := h.ex
  exact ⟨xs, s _ _ e, r.mono (less1_same s)⟩
theorem less1_ne {H : Hp} {a l : Addr} {o : HO} (h : a ≠ l) (e : H a = some o) : less1 H l a = some o := by unfold less1; rw [if_neg h]; exact e
theorem atn {α : Type} {xs : List α} {x : Int} {v : α} (h0 : 0 ≤ x) (h : xs[x.toNat]? = some v) : atI xs x = some v := by
  have q := atI_nat h
  rwa [show ((x.toNat : Nat) : Int) = x by omega] at q
theorem w32_len : W32.length = 32 := by decide +kernel
theorem ne_less1 {H : Hp} {a l : Addr} {o : HO} (h : less1 H l a = some o) : a ≠ l := fun e => by
  unfold less1 at h
  rw [if_pos e] at h
  cases h
section
variable {σ : St} {H : Hp} {ds : List Dv} {ta : TE}
theorem deep_pow {i j : Int} (hc : CPow i j) : Deep (tOp (rI CPow fun i j => .int (i ^ j.toNat)) (tC (.int i)) (tC (.int j))) σ H (.int (i ^ j.toNat)) := fun H1 s Q q => ⟨i, j, rfl, rfl, hc, q H1 _ (Same.refl _) (by simp [Rep])⟩
theorem reps_replicate {H : Hp} {ds : List Dv} {vs : List V} (h : Reps H ds vs) : ∀ k : Nat, Reps H (List.replicate k ds).flatten (List.replicate k vs).flatten
  | 0 => by simp [Reps]
  | k + 1 => by
    rw [List.replicate_succ, List.replicate_succ, List.flatten_cons, List.flatten_cons]
    exact Reps.append h (reps_replicate h k)
theorem deep_rep {K : PySem.W.Frag} {k : Int} (h : Deep ta σ H (.tup ds)) (hne : ds ≠ []) (k2 : 2 ≤ k) (k3 : k ≤ 1000) (hz : ds.length * k.toNat ≤ 1000) : Deep (tOp (rRepT K) ta (tC (.int k))) σ H (.tup (List.replicate k.toNat ds).flatten) := fun H1 s Q q =>
  h H1 s _ fun H2 v s2 R => by
    obtain ⟨a, xs, rfl, ha, r1⟩ := Rep.tup_inv R
    have l1 := r1.length
    refine ⟨a, k, xs, rfl, rfl, SqT.of ha, fun e => hne (List.length_eq_zero_iff.mp (by rw [← l1, e]; rfl)), k2, k3, by rw [l1]; exact hz, fun p hp => q _ (.ref p) (s2.trans (same_new hp _)) ?_⟩
    rw [Rep]
    exact ⟨p, _, rfl, upd_same, reps_replicate (r1.mono (same_new hp _)) _⟩
theorem deep_word {K : PySem.W.Frag} {wA : Addr} {x : Int} {wd : Str} (hw : ∀ G, Same H G → G wA = some (.lst (W32.map V.str))) (hat : atI (W32.map V.str) (x / 64 % 32) = some (.str wd)) (x0 : 0 ≤ x) {i3 i0 : Nat} (h3 : σ[i3]? = some (some (.ref wA))) (h0 : σ[i0]? = some (some (.int x))) :
    Deep (tOp (rIxL K) (tVar i3) (tOp (rI (fun _ j => 0 < j) fun i j => .int (i % j)) (tOp (rI CDiv fun i j => .int (i / j)) (tVar i0) (tC (.int 64))) (tC (.int 32)))) σ H (.str wd) := fun H1 s Q q =>
  ⟨_, h3, _, h0, _, _, rfl, rfl, ⟨by decide, by decide⟩, _, _, rfl, rfl, (by show (0 : Int) < 32; decide), wA, _, _, .str wd, rfl, rfl, SqL.of (hw _ s), hat, q H1 _ (Same.refl _) (by simp [Rep])⟩
end
theorem w_at {x : Int} : ∃ wd ∈ W32, atI (W32.map V.str) (x / 64 % 32) = some (.str wd) := by
  obtain ⟨b0, b1⟩ := mod_lt (a := x / 64) 32 (by decide)
  obtain ⟨nm, h1, h2⟩ := xs_at (xs := W32) b0 (by rw [w32_len]; exact b1)
  exact ⟨nm, List.mem_of_getElem? h1, h2⟩
def spOdd : Sp := fun vs H Q _ => ∃ x : Int, vs = [.int x] ∧ 0 ≤ x ∧ ∀ (H' : Hp) (v : V) (d : Dv), Same H H' → Rep H' d v → d.small = true → Bad d → Q v H'
theorem odd_small (wd : Str) (h : wd ∈ W32) : ∀ d ∈ oddAll wd, d.small = true := by
  have key : ∀ wd ∈ W32, ∀ d ∈ oddAll wd, d.small = true := by decide +kernel
  exact key wd h
def badB (d : Dv) : Bool := !nodeD d || (partsD d).any fun e => !nodeD e
theorem bad_of {d : Dv} (h : badB d = true) : Bad d := by
  unfold badB at h
  rw [Bool.or_eq_true] at h
  rcases h with h | h
  · exact bad_no (by simpa using h)
  · obtain ⟨e, he, h⟩ := List.any_eq_true.mp h
    exact bad_up he (bad_no (by simpa using h))
theorem kd1 : nodeD (.tup [.str "none", .tup [.str "whole", .int 1]]) = false := by
  have hp : ((Str.ofString "none", Str.ofString "k", [So.k]) : Wd) ∈ WT := by decide +kernel
  have e := node_of hp [.tup [.str "whole", .int 1]]
  rw [e]
  show ((decide (sizeD (.tup [.str "whole", .int 1]) ≤ 12) && true) && _) = false
  rw [s_r1, if_neg (fun z => w1 z.1)]
  rfl
theorem kd2 : nodeD (.tup [.str "none", .str "whole"]) = false := by
  have hp : ((Str.ofString "none", Str.ofString "k", [So.k]) : Wd) ∈ WT := by decide +kernel
  rw [node_of hp [.str "whole"]]
  show ((decide (sizeD (.str "whole") ≤ 12) && true) && _) = false
  rw [size_no (d := .str "whole") rfl]
  rfl
theorem kd3 : nodeD (.tup [.str "none", .tup [.str "row", .tup [.int 100, .tup []], .tup [.str "whole"]]]) = false := by
  have hp : ((Str.ofString "none", Str.ofString "k", [So.k]) : Wd) ∈ WT := by decide +kernel
  rw [node_of hp [.tup [.str "row", .tup [.int 100, .tup []], .tup [.str "whole"]]]]
  show ((decide (sizeD (.tup [.str "row", .tup [.int 100, .tup []], .tup [.str "whole"]]) ≤ 12) && true) && _) = false
  rw [s_r2, if_neg w6, if_neg (fun z => by have := z.2; revert this; decide +kernel)]
  rfl
theorem odd_bad (wd : Str) (h : wd ∈ W32) : ∀ d ∈ oddAll wd, Bad d := by
  intro d hd
  have key : ∀ wd ∈ W32, ∀ d ∈ (oddAll wd).take 39 ++ (oddAll wd).drop 42, badB d = true := by decide +kernel
  have e : oddAll wd = (oddAll wd).take 39 ++ ([.tup [.str "none", .tup [.str "whole", .int 1]], .tup [.str "none", .str "whole"], .tup [.str "none", .tup [.str "row", .tup [.int 100, .tup []], .tup [.str "whole"]]]] ++ (oddAll wd).drop 42) := rfl
  rw [e] at hd
  rcases List.mem_append.mp hd with h1 | h1
  · exact bad_of (key wd h d (List.mem_append_left _ h1))
  · rcases List.mem_append.mp h1 with h2 | h2
    · rcases List.mem_cons.mp h2 with rfl | h2
      · exact bad_no kd1
      rcases List.mem_cons.mp h2 with rfl | h2
      · exact bad_no kd2
      rw [List.mem_singleton.mp h2]
      exact bad_no kd3
    · exact bad_of (key wd h d (List.mem_append_right _ h2))
end K21
set_option maxHeartbeats 4000000
namespace K21
open PySem L2 KB XB
section
variable {P : Program} {w : World} {K : PySem.W.Frag} {mg : Str → Option Value} {base : Heap}
theorem sc_odd : FnScope ["_law_cell", "_law_e", "_law_some", "_law_words"] ["_law_cell"] (defScope s_odd) := ⟨rfl, rfl, rfl, by decide +kernel, rfl, by decide +kernel, by decide +kernel⟩
theorem ok_odd {f : Addr} {fd : FuncData} {k0 : Nat} (F : Fun K "_law_odd" "_law_odd" s_odd f fd) (T : Txt K mg) (D_law_shapes : Def P w K mg base k0 "_law_shapes" [] spShapes) : FnOk P w K mg base CX0 (k0 + 1) f fd ["_law_cell"] spOdd := by
  have nd : (["_law_cell", "_law_e", "_law_some", "_law_words"] : List Str).Nodup := sc_odd.nd
  refine F.ok sc_odd (fun vs H Q E h => ?_) (fun cdv A outer s H vs Q E hr h => ?_)
  · obtain ⟨x, rfl, _⟩ := h
    rfl
  obtain ⟨x, rfl, x0, q⟩ := h
  obtain ⟨wd, hwd, hatW⟩ := w_at (x := x)
  refine ⟨_, (@pss_cons _ _ _ _ _ (@ps_set _ _ (1) _ _ _ _ nd rfl (Or.inl rfl) (@pe_tup _ _ _ _ _ (@pa_cons _ _ _ _ _ (@pe_str _ _ _ _) (@pa_cons _ _ _ _ _ (@pe_int _ _ _ _) (@pa_nil _) (by rfl)) (by rfl))) (by rfl) (by first | exact .inl rfl | exact .inr rfl | assumption)) (@pss_cons _ _ _ _ _ (@ps_set _ _ (2) _ _ _ _ nd rfl (Or.inl rfl) (@pe_lst _ _ _ _ (@pa_cons _ _ _ _ _ (@pe_non _ _ _) (@pa_cons _ _ _ _ _ (@pe_int _ _ _ _) (@pa_cons _ _ _ _ _ (@pe_str _ _ _ _) (@pa_cons _ _ _ _ _ (@pe_lst _ _ _ _ (@pa_nil _)) (@pa_cons _ _ _ _ _ (@pe_tup _ _ _ _ _ (@pa_nil _)) (@pa_cons _ _ _ _ _ (@pe_dnewK _ _) (@pa_cons _ _ _ _ _ (@pe_lst _ _ _ _ (@pa_cons _ _ _ _ _ (@pe_str _ _ _ _) (@pa_cons _ _ _ _ _ (@pe_str _ _ _ _) (@pa_nil _) (by rfl)) (by rfl))) (@pa_cons _ _ _ _ _ (@pe_tup _ _ _ _ _ (@pa_cons _ _ _ _ _ (@pe_str _ _ _ _) (@pa_cons _ _ _ _ _ (@pe_str _ _ _ _) (@pa_nil _) (by rfl)) (by rfl))) (@pa_cons _ _ _ _ _ (@pe_tup _ _ _ _ _ (@pa_cons _ _ _ _ _ (@pe_non _ _ _) (@pa_nil _) (by rfl))) (@pa_cons _ _ _ _ _ (@pe_tup _ _ _ _ _ (@pa_cons _ _ _ _ _ (@pe_str _ _ _ _) (@pa_nil _) (by rfl))) (@pa_cons _ _ _ _ _ (@pe_tup _ _ _ _ _ (@pa_cons _ _ _ _ _ (@pe_str _ _ _ _) (@pa_cons _ _ _ _ _ (@pe_str _ _ _ _) (@pa_cons _ _ _ _ _ (@pe_str _ _ _ _) (@pa_nil _) (by rfl)) (by rfl)) (by rfl))) (@pa_nil _) (by rfl)) (by rfl)) (by rfl)) (by rfl)) (by rfl)) (by rfl)) (by rfl)) (by rfl)) (by rfl)) (by rfl)) (by rfl))) (by rfl) (by first | exact .inl rfl | exact .inr rfl | assumption)) (@pss_cons _ _ _ _ _ (@ps_set _ _ (2) _ _ _ _ nd rfl (Or.inl rfl) (@pe_op _ _ _ _ _ _ _ _ op_cat (@pv _ 2 _ _ (by rfl) (by first | exact Or.inl rfl | exact Or.inr (Or.inl rfl) | exact Or.inr (Or.inr rfl)) (by decide) (by decide)) (@pe_lst _ _ _ _ (@pa_cons _ _ _ _ _ (@pe_tup _ _ _ _ _ (@pa_cons _ _ _ _ _ (@pe_str _ _ _ _) (@pa_cons _ _ _ _ _ (@pe_str _ _ _ _) (@pa_nil _) (by rfl)) (by rfl))) (@pa_cons _ _ _ _ _ (@pe_tup _ _ _ _ _ (@pa_cons _ _ _ _ _ (@pe_str _ _ _ _) (@pa_cons _ _ _ _ _ (@pe_str _ _ _ _) (@pa_nil _) (by rfl)) (by rfl))) (@pa_cons _ _ _ _ _ (@pe_tup _ _ _ _ _ (@pa_cons _ _ _ _ _ (@pe_str _ _ _ _) (@pa_cons _ _ _ _ _ (@pe_str _ _ _ _) (@pa_nil _) (by rfl)) (by rfl))) (@pa_cons _ _ _ _ _ (@pe_tup _ _ _ _ _ (@pa_cons _ _ _ _ _ (@pe_str _ _ _ _) (@pa_cons _ _ _ _ _ (@pe_int _ _ _ _) (@pa_nil _) (by rfl)) (by rfl))) (@pa_cons _ _ _ _ _ (@pe_tup _ _ _ _ _ (@pa_cons _ _ _ _ _ (@pe_str _ _ _ _) (@pa_cons _ _ _ _ _ (@pe_un _ _ _ _ _ _ un_neg (@pe_int _ _ _ _)) (@pa_nil _) (by rfl)) (by rfl))) (@pa_nil _) (by rfl)) (by rfl)) (by rfl)) (by rfl)) (by rfl)))) (by rfl) (by first | exact .inl rfl | exact .inr rfl | assumption)) (@pss_cons _ _ _ _ _ (@ps_set _ _ (2) _ _ _ _ nd rfl (Or.inl rfl) (@pe_op _ _ _ _ _ _ _ _ op_cat (@pv _ 2 _ _ (by rfl) (by first | exact Or.inl rfl | exact Or.inr (Or.inl rfl) | exact Or.inr (Or.inr rfl)) (by decide) (by decide)) (@pe_lst _ _ _ _ (@pa_cons _ _ _ _ _ (@pe_tup _ _ _ _ _ (@pa_cons _ _ _ _ _ (@pe_str _ _ _ _) (@pa_cons _ _ _ _ _ (@pe_op _ _ _ _ _ _ _ _ op_pow (@pe_int _ _ _ _) (@pe_int _ _ _ _)) (@pa_nil _) (by rfl)) (by rfl))) (@pa_cons _ _ _ _ _ (@pe_tup _ _ _ _ _ (@pa_cons _ _ _ _ _ (@pe_str _ _ _ _) (@pa_cons _ _ _ _ _ (@pe_bl _ _ _ _) (@pa_nil _) (by rfl)) (by rfl))) (@pa_cons _ _ _ _ _ (@pe_tup _ _ _ _ _ (@pa_cons _ _ _ _ _ (@pe_str _ _ _ _) (@pa_cons _ _ _ _ _ (@pe_str _ _ _ _) (@pa_nil _) (by rfl)) (by rfl))) (@pa_cons _ _ _ _ _ (@pe_tup _ _ _ _ _ (@pa_cons _ _ _ _ _ (@pe_str _ _ _ _) (@pa_cons _ _ _ _ _ (@pe_tup _ _ _ _ _ (@pa_cons _ _ _ _ _ (@pe_int _ _ _ _) (@pa_nil _) (by rfl))) (@pa_nil _) (by rfl)) (by rfl))) (@pa_cons _ _ _ _ _ (@pe_tup _ _ _ _ _ (@pa_cons _ _ _ _ _ (@pe_str _ _ _ _) (@pa_cons _ _ _ _ _ (@pe_int _ _ _ _) (@pa_nil _) (by rfl)) (by rfl))) (@pa_nil _) (by rfl)) (by rfl)) (by rfl)) (by rfl)) (by rfl)))) (by rfl) (by first | exact .inl rfl | exact .inr rfl | assumption)) (@pss_cons _ _ _ _ _ (@ps_expr _ _ _ _ (@pe_bm _ _ _ _ _ _ _ _ _ _ _ _ PySem.F.plainAttrs_list PySem.F.slot_list_append PySem.F.type_list_append mt_append (@pv _ 2 _ _ (by rfl) (by first | exact Or.inl rfl | exact Or.inr (Or.inl rfl) | exact Or.inr (Or.inr rfl)) (by decide) (by decide)) (@pa_cons _ _ _ _ _ (@pe_tup _ _ _ _ _ (@pa_cons _ _ _ _ _ (@pe_str _ _ _ _) (@pa_cons _ _ _ _ _ (@pe_tup _ _ _ _ _ (@pa_cons _ _ _ _ _ (@pe_int _ _ _ _) (@pa_cons _ _ _ _ _ (@pe_tup _ _ _ _ _ (@pa_nil _)) (@pa_nil _) (by rfl)) (by rfl))) (@pa_nil _) (by rfl)) (by rfl))) (@pa_nil _) (by rfl)) (by rfl) (by rfl) (by rfl) (by rfl) (by rfl)) (by rfl)) (@pss_cons _ _ _ _ _ (@ps_set _ _ (2) _ _ _ _ nd rfl (Or.inl rfl) (@pe_op _ _ _ _ _ _ _ _ op_cat (@pv _ 2 _ _ (by rfl) (by first | exact Or.inl rfl | exact Or.inr (Or.inl rfl) | exact Or.inr (Or.inr rfl)) (by decide) (by decide)) (@pe_lst _ _ _ _ (@pa_cons _ _ _ _ _ (@pe_tup _ _ _ _ _ (@pa_cons _ _ _ _ _ (@pe_str _ _ _ _) (@pa_cons _ _ _ _ _ (@pe_tup _ _ _ _ _ (@pa_cons _ _ _ _ _ (@pe_int _ _ _ _) (@pa_cons _ _ _ _ _ (@pe_tup _ _ _ _ _ (@pa_cons _ _ _ _ _ (@pe_tup _ _ _ _ _ (@pa_cons _ _ _ _ _ (@pe_str _ _ _ _) (@pa_cons _ _ _ _ _ (@pe_int _ _ _ _) (@pa_nil _) (by rfl)) (by rfl))) (@pa_nil _) (by rfl))) (@pa_nil _) (by rfl)) (by rfl))) (@pa_nil _) (by rfl)) (by rfl))) (@pa_cons _ _ _ _ _ (@pe_tup _ _ _ _ _ (@pa_cons _ _ _ _ _ (@pe_str _ _ _ _) (@pa_cons _ _ _ _ _ (@pe_tup _ _ _ _ _ (@pa_cons _ _ _ _ _ (@pe_int _ _ _ _) (@pa_cons _ _ _ _ _ (@pe_tup _ _ _ _ _ (@pa_cons _ _ _ _ _ (@pe_tup _ _ _ _ _ (@pa_cons _ _ _ _ _ (@pe_str _ _ _ _) (@pa_cons _ _ _ _ _ (@pe_int _ _ _ _) (@pa_nil _) (by rfl)) (by rfl))) (@pa_nil _) (by rfl))) (@pa_nil _) (by rfl)) (by rfl))) (@pa_nil _) (by rfl)) (by rfl))) (@pa_cons _ _ _ _ _ (@pe_tup _ _ _ _ _ (@pa_cons _ _ _ _ _ (@pe_str _ _ _ _) (@pa_cons _ _ _ _ _ (@pe_str _ _ _ _) (@pa_cons _ _ _ _ _ (@pv _ 1 _ _ (by rfl) (by first | exact Or.inl rfl | exact Or.inr (Or.inl rfl) | exact Or.inr (Or.inr rfl)) (by decide) (by decide)) (@pa_cons _ _ _ _ _ (@pv _ 1 _ _ (by rfl) (by first | exact Or.inl rfl | exact Or.inr (Or.inl rfl) | exact Or.inr (Or.inr rfl)) (by decide) (by decide)) (@pa_nil _) (by rfl)) (by rfl)) (by rfl)) (by rfl))) (@pa_nil _) (by rfl)) (by rfl)) (by rfl)))) (by rfl) (by first | exact .inl rfl | exact .inr rfl | assumption)) (@pss_cons _ _ _ _ _ (@ps_set _ _ (2) _ _ _ _ nd rfl (Or.inl rfl) (@pe_op _ _ _ _ _ _ _ _ op_cat (@pv _ 2 _ _ (by rfl) (by first | exact Or.inl rfl | exact Or.inr (Or.inl rfl) | exact Or.inr (Or.inr rfl)) (by decide) (by decide)) (@pe_lst _ _ _ _ (@pa_cons _ _ _ _ _ (@pe_tup _ _ _ _ _ (@pa_cons _ _ _ _ _ (@pe_str _ _ _ _) (@pa_cons _ _ _ _ _ (@pe_str _ _ _ _) (@pa_cons _ _ _ _ _ (@pv _ 1 _ _ (by rfl) (by first | exact Or.inl rfl | exact Or.inr (Or.inl rfl) | exact Or.inr (Or.inr rfl)) (by decide) (by decide)) (@pa_nil _) (by rfl)) (by rfl)) (by rfl))) (@pa_cons _ _ _ _ _ (@pe_tup _ _ _ _ _ (@pa_cons _ _ _ _ _ (@pe_str _ _ _ _) (@pa_cons _ _ _ _ _ (@pv _ 1 _ _ (by rfl) (by first | exact Or.inl rfl | exact Or.inr (Or.inl rfl) | exact Or.inr (Or.inr rfl)) (by decide) (by decide)) (@pa_cons _ _ _ _ _ (@pv _ 1 _ _ (by rfl) (by first | exact Or.inl rfl | exact Or.inr (Or.inl rfl) | exact Or.inr (Or.inr rfl)) (by decide) (by decide)) (@pa_nil _) (by rfl)) (by rfl)) (by rfl))) (@pa_cons _ _ _ _ _ (@pe_tup _ _ _ _ _ (@pa_cons _ _ _ _ _ (@pe_str _ _ _ _) (@pa_cons _ _ _ _ _ (@pv _ 1 _ _ (by rfl) (by first | exact Or.inl rfl | exact Or.inr (Or.inl rfl) | exact Or.inr (Or.inr rfl)) (by decide) (by decide)) (@pa_cons _ _ _ _ _ (@pv _ 1 _ _ (by rfl) (by first | exact Or.inl rfl | exact Or.inr (Or.inl rfl) | exact Or.inr (Or.inr rfl)) (by decide) (by decide)) (@pa_nil _) (by rfl)) (by rfl)) (by rfl))) (@pa_cons _ _ _ _ _ (@pe_tup _ _ _ _ _ (@pa_cons _ _ _ _ _ (@pe_str _ _ _ _) (@pa_cons _ _ _ _ _ (@pe_str _ _ _ _) (@pa_cons _ _ _ _ _ (@pv _ 1 _ _ (by rfl) (by first | exact Or.inl rfl | exact Or.inr (Or.inl rfl) | exact Or.inr (Or.inr rfl)) (by decide) (by decide)) (@pa_nil _) (by rfl)) (by rfl)) (by rfl))) (@pa_cons _ _ _ _ _ (@pe_tup _ _ _ _ _ (@pa_cons _ _ _ _ _ (@pe_str _ _ _ _) (@pa_cons _ _ _ _ _ (@pv _ 1 _ _ (by rfl) (by first | exact Or.inl rfl | exact Or.inr (Or.inl rfl) | exact Or.inr (Or.inr rfl)) (by decide) (by decide)) (@pa_cons _ _ _ _ _ (@pe_str _ _ _ _) (@pa_cons _ _ _ _ _ (@pv _ 1 _ _ (by rfl) (by first | exact Or.inl rfl | exact Or.inr (Or.inl rfl) | exact Or.inr (Or.inr rfl)) (by decide) (by decide)) (@pa_nil _) (by rfl)) (by rfl)) (by rfl)) (by rfl))) (@pa_nil _) (by rfl)) (by rfl)) (by rfl)) (by rfl)) (by rfl)))) (by rfl) (by first | exact .inl rfl | exact .inr rfl | assumption)) (@pss_cons _ _ _ _ _ (@ps_set _ _ (3) _ _ _ _ nd rfl (Or.inl rfl) (@pe_op _ _ _ _ _ _ _ _ op_cat (@pe_callTy _ _ _ _ _ _ _ _ _ (call_listD rfl) rfl T.list (by decide +kernel) (@pa_cons _ _ _ _ _ (@pe_def0 _ _ _ _ _ _ _ D_law_shapes hr rfl (by decide)) (@pa_nil _) (by rfl)) (by decide) (by decide) (by rfl) (by rfl)) (@pe_lst _ _ _ _ (@pa_cons _ _ _ _ _ (@pe_str _ _ _ _) (@pa_cons _ _ _ _ _ (@pe_str _ _ _ _) (@pa_cons _ _ _ _ _ (@pe_str _ _ _ _) (@pa_cons _ _ _ _ _ (@pe_str _ _ _ _) (@pa_cons _ _ _ _ _ (@pe_str _ _ _ _) (@pa_nil _) (by rfl)) (by rfl)) (by rfl)) (by rfl)) (by rfl)))) (by rfl) (by first | exact .inl rfl | exact .inr rfl | assumption)) (@pss_cons _ _ _ _ _ (@ps_set _ _ (2) _ _ _ _ nd rfl (Or.inl rfl) (@pe_op _ _ _ _ _ _ _ _ op_cat (@pv _ 2 _ _ (by rfl) (by first | exact Or.inl rfl | exact Or.inr (Or.inl rfl) | exact Or.inr (Or.inr rfl)) (by decide) (by decide)) (@pe_lst _ _ _ _ (@pa_cons _ _ _ _ _ (@pe_tup _ _ _ _ _ (@pa_cons _ _ _ _ _ (@pe_str _ _ _ _) (@pa_cons _ _ _ _ _ (@pe_ix _ _ _ _ _ _ _ ix_list (@pv _ 3 _ _ (by rfl) (by first | exact Or.inl rfl | exact Or.inr (Or.inl rfl) | exact Or.inr (Or.inr rfl)) (by decide) (by decide)) (@pe_op _ _ _ _ _ _ _ _ op_mod (@pe_op _ _ _ _ _ _ _ _ op_fdiv (@pv _ 0 _ _ (by rfl) (by first | exact Or.inl rfl | exact Or.inr (Or.inl rfl) | exact Or.inr (Or.inr rfl)) (by decide) (by decide)) (@pe_int _ _ _ _)) (@pe_int _ _ _ _)) (fun _ _ => rfl)) (@pa_cons _ _ _ _ _ (@pe_tup _ _ _ _ _ (@pa_nil _)) (@pa_nil _) (by rfl)) (by rfl)) (by rfl))) (@pa_cons _ _ _ _ _ (@pe_tup _ _ _ _ _ (@pa_cons _ _ _ _ _ (@pe_str _ _ _ _) (@pa_cons _ _ _ _ _ (@pe_ix _ _ _ _ _ _ _ ix_list (@pv _ 3 _ _ (by rfl) (by first | exact Or.inl rfl | exact Or.inr (Or.inl rfl) | exact Or.inr (Or.inr rfl)) (by decide) (by decide)) (@pe_op _ _ _ _ _ _ _ _ op_mod (@pe_op _ _ _ _ _ _ _ _ op_fdiv (@pv _ 0 _ _ (by rfl) (by first | exact Or.inl rfl | exact Or.inr (Or.inl rfl) | exact Or.inr (Or.inr rfl)) (by decide) (by decide)) (@pe_int _ _ _ _)) (@pe_int _ _ _ _)) (fun _ _ => rfl)) (@pa_cons _ _ _ _ _ (@pe_tup _ _ _ _ _ (@pa_cons _ _ _ _ _ (@pv _ 1 _ _ (by rfl) (by first | exact Or.inl rfl | exact Or.inr (Or.inl rfl) | exact Or.inr (Or.inr rfl)) (by decide) (by decide)) (@pa_nil _) (by rfl))) (@pa_nil _) (by rfl)) (by rfl)) (by rfl))) (@pa_nil _) (by rfl)) (by rfl)))) (by rfl) (by first | exact .inl rfl | exact .inr rfl | assumption)) (@pss_cons _ _ _ _ _ (@ps_set _ _ (2) _ _ _ _ nd rfl (Or.inl rfl) (@pe_op _ _ _ _ _ _ _ _ op_cat (@pv _ 2 _ _ (by rfl) (by first | exact Or.inl rfl | exact Or.inr (Or.inl rfl) | exact Or.inr (Or.inr rfl)) (by decide) (by decide)) (@pe_lst _ _ _ _ (@pa_cons _ _ _ _ _ (@pe_tup _ _ _ _ _ (@pa_cons _ _ _ _ _ (@pe_str _ _ _ _) (@pa_cons _ _ _ _ _ (@pe_str _ _ _ _) (@pa_cons _ _ _ _ _ (@pe_lst _ _ _ _ (@pa_nil _)) (@pa_nil _) (by rfl)) (by rfl)) (by rfl))) (@pa_cons _ _ _ _ _ (@pe_tup _ _ _ _ _ (@pa_cons _ _ _ _ _ (@pe_str _ _ _ _) (@pa_cons _ _ _ _ _ (@pe_str _ _ _ _) (@pa_cons _ _ _ _ _ (@pe_op _ _ _ _ _ _ _ _ op_repT (@pe_tup _ _ _ _ _ (@pa_cons _ _ _ _ _ (@pv _ 1 _ _ (by rfl) (by first | exact Or.inl rfl | exact Or.inr (Or.inl rfl) | exact Or.inr (Or.inr rfl)) (by decide) (by decide)) (@pa_nil _) (by rfl))) (@pe_int _ _ _ _)) (@pa_nil _) (by rfl)) (by rfl)) (by rfl))) (@pa_nil _) (by rfl)) (by rfl)))) (by rfl) (by first | exact .inl rfl | exact .inr rfl | assumption)) (@pss_cons _ _ _ _ _ (@ps_set _ _ (2) _ _ _ _ nd rfl (Or.inl rfl) (@pe_op _ _ _ _ _ _ _ _ op_cat (@pv _ 2 _ _ (by rfl) (by first | exact Or.inl rfl | exact Or.inr (Or.inl rfl) | exact Or.inr (Or.inr rfl)) (by decide) (by decide)) (@pe_lst _ _ _ _ (@pa_cons _ _ _ _ _ (@pe_tup _ _ _ _ _ (@pa_cons _ _ _ _ _ (@pe_str _ _ _ _) (@pa_cons _ _ _ _ _ (@pe_str _ _ _ _) (@pa_nil _) (by rfl)) (by rfl))) (@pa_cons _ _ _ _ _ (@pe_tup _ _ _ _ _ (@pa_cons _ _ _ _ _ (@pe_str _ _ _ _) (@pa_cons _ _ _ _ _ (@pe_tup _ _ _ _ _ (@pa_nil _)) (@pa_nil _) (by rfl)) (by rfl))) (@pa_cons _ _ _ _ _ (@pe_tup _ _ _ _ _ (@pa_cons _ _ _ _ _ (@pe_str _ _ _ _) (@pa_cons _ _ _ _ _ (@pe_op _ _ _ _ _ _ _ _ op_repT (@pe_tup _ _ _ _ _ (@pa_cons _ _ _ _ _ (@pv _ 1 _ _ (by rfl) (by first | exact Or.inl rfl | exact Or.inr (Or.inl rfl) | exact Or.inr (Or.inr rfl)) (by decide) (by decide)) (@pa_nil _) (by rfl))) (@pe_int _ _ _ _)) (@pa_nil _) (by rfl)) (by rfl))) (@pa_cons _ _ _ _ _ (@pe_tup _ _ _ _ _ (@pa_cons _ _ _ _ _ (@pe_str _ _ _ _) (@pa_cons _ _ _ _ _ (@pe_lst _ _ _ _ (@pa_cons _ _ _ _ _ (@pv _ 1 _ _ (by rfl) (by first | exact Or.inl rfl | exact Or.inr (Or.inl rfl) | exact Or.inr (Or.inr rfl)) (by decide) (by decide)) (@pa_nil _) (by rfl))) (@pa_nil _) (by rfl)) (by rfl))) (@pa_cons _ _ _ _ _ (@pe_tup _ _ _ _ _ (@pa_cons _ _ _ _ _ (@pe_str _ _ _ _) (@pa_cons _ _ _ _ _ (@pv _ 1 _ _ (by rfl) (by first | exact Or.inl rfl | exact Or.inr (Or.inl rfl) | exact Or.inr (Or.inr rfl)) (by decide) (by decide)) (@pa_nil _) (by rfl)) (by rfl))) (@pa_cons _ _ _ _ _ (@pe_tup _ _ _ _ _ (@pa_cons _ _ _ _ _ (@pe_str _ _ _ _) (@pa_cons _ _ _ _ _ (@pe_tup _ _ _ _ _ (@pa_cons _ _ _ _ _ (@pe_str _ _ _ _) (@pa_cons _ _ _ _ _ (@pe_int _ _ _ _) (@pa_nil _) (by rfl)) (by rfl))) (@pa_nil _) (by rfl)) (by rfl))) (@pa_nil _) (by rfl)) (by rfl)) (by rfl)) (by rfl)) (by rfl)) (by rfl)))) (by rfl) (by first | exact .inl rfl | exact .inr rfl | assumption)) (@pss_cons _ _ _ _ _ (@ps_expr _ _ _ _ (@pe_bm _ _ _ _ _ _ _ _ _ _ _ _ PySem.F.plainAttrs_list PySem.F.slot_list_append PySem.F.type_list_append mt_append (@pv _ 2 _ _ (by rfl) (by first | exact Or.inl rfl | exact Or.inr (Or.inl rfl) | exact Or.inr (Or.inr rfl)) (by decide) (by decide)) (@pa_cons _ _ _ _ _ (@pe_tup _ _ _ _ _ (@pa_cons _ _ _ _ _ (@pe_str _ _ _ _) (@pa_cons _ _ _ _ _ (@pe_str _ _ _ _) (@pa_nil _) (by rfl)) (by rfl))) (@pa_nil _) (by rfl)) (by rfl) (by rfl) (by rfl) (by rfl) (by rfl)) (by rfl)) (@pss_cons _ _ _ _ _ (@ps_set _ _ (2) _ _ _ _ nd rfl (Or.inl rfl) (@pe_op _ _ _ _ _ _ _ _ op_cat (@pv _ 2 _ _ (by rfl) (by first | exact Or.inl rfl | exact Or.inr (Or.inl rfl) | exact Or.inr (Or.inr rfl)) (by decide) (by decide)) (@pe_lst _ _ _ _ (@pa_cons _ _ _ _ _ (@pe_tup _ _ _ _ _ (@pa_cons _ _ _ _ _ (@pe_str _ _ _ _) (@pa_cons _ _ _ _ _ (@pe_tup _ _ _ _ _ (@pa_cons _ _ _ _ _ (@pe_str _ _ _ _) (@pa_cons _ _ _ _ _ (@pe_tup _ _ _ _ _ (@pa_cons _ _ _ _ _ (@pe_int _ _ _ _) (@pa_cons _ _ _ _ _ (@pe_tup _ _ _ _ _ (@pa_nil _)) (@pa_nil _) (by rfl)) (by rfl))) (@pa_cons _ _ _ _ _ (@pe_tup _ _ _ _ _ (@pa_cons _ _ _ _ _ (@pe_str _ _ _ _) (@pa_nil _) (by rfl))) (@pa_nil _) (by rfl)) (by rfl)) (by rfl))) (@pa_nil _) (by rfl)) (by rfl))) (@pa_cons _ _ _ _ _ (@pe_tup _ _ _ _ _ (@pa_cons _ _ _ _ _ (@pe_str _ _ _ _) (@pa_cons _ _ _ _ _ (@pe_tup _ _ _ _ _ (@pa_cons _ _ _ _ _ (@pe_int _ _ _ _) (@pa_cons _ _ _ _ _ (@pe_tup _ _ _ _ _ (@pa_nil _)) (@pa_nil _) (by rfl)) (by rfl))) (@pa_cons _ _ _ _ _ (@pe_int _ _ _ _) (@pa_nil _) (by rfl)) (by rfl)) (by rfl))) (@pa_cons _ _ _ _ _ (@pe_tup _ _ _ _ _ (@pa_cons _ _ _ _ _ (@pe_str _ _ _ _) (@pa_cons _ _ _ _ _ (@pe_tup _ _ _ _ _ (@pa_cons _ _ _ _ _ (@pe_int _ _ _ _) (@pa_cons _ _ _ _ _ (@pe_tup _ _ _ _ _ (@pa_nil _)) (@pa_nil _) (by rfl)) (by rfl))) (@pa_nil _) (by rfl)) (by rfl))) (@pa_nil _) (by rfl)) (by rfl)) (by rfl)))) (by rfl) (by first | exact .inl rfl | exact .inr rfl | assumption)) (@pss_cons _ _ _ _ _ (@ps_set _ _ (2) _ _ _ _ nd rfl (Or.inl rfl) (@pe_op _ _ _ _ _ _ _ _ op_cat (@pv _ 2 _ _ (by rfl) (by first | exact Or.inl rfl | exact Or.inr (Or.inl rfl) | exact Or.inr (Or.inr rfl)) (by decide) (by decide)) (@pe_lst _ _ _ _ (@pa_cons _ _ _ _ _ (@pe_tup _ _ _ _ _ (@pa_cons _ _ _ _ _ (@pe_str _ _ _ _) (@pa_cons _ _ _ _ _ (@pe_str _ _ _ _) (@pa_cons _ _ _ _ _ (@pe_tup _ _ _ _ _ (@pa_cons _ _ _ _ _ (@pe_int _ _ _ _) (@pa_cons _ _ _ _ _ (@pe_tup _ _ _ _ _ (@pa_nil _)) (@pa_nil _) (by rfl)) (by rfl))) (@pa_cons _ _ _ _ _ (@pe_str _ _ _ _) (@pa_cons _ _ _ _ _ (@pv _ 1 _ _ (by rfl) (by first | exact Or.inl rfl | exact Or.inr (Or.inl rfl) | exact Or.inr (Or.inr rfl)) (by decide) (by decide)) (@pa_cons _ _ _ _ _ (@pv _ 1 _ _ (by rfl) (by first | exact Or.inl rfl | exact Or.inr (Or.inl rfl) | exact Or.inr (Or.inr rfl)) (by decide) (by decide)) (@pa_nil _) (by rfl)) (by rfl)) (by rfl)) (by rfl)) (by rfl)) (by rfl))) (@pa_cons _ _ _ _ _ (@pe_tup _ _ _ _ _ (@pa_cons _ _ _ _ _ (@pe_str _ _ _ _) (@pa_cons _ _ _ _ _ (@pe_str _ _ _ _) (@pa_cons _ _ _ _ _ (@pe_int _ _ _ _) (@pa_cons _ _ _ _ _ (@pv _ 1 _ _ (by rfl) (by first | exact Or.inl rfl | exact Or.inr (Or.inl rfl) | exact Or.inr (Or.inr rfl)) (by decide) (by decide)) (@pa_nil _) (by rfl)) (by rfl)) (by rfl)) (by rfl))) (@pa_cons _ _ _ _ _ (@pe_tup _ _ _ _ _ (@pa_cons _ _ _ _ _ (@pe_str _ _ _ _) (@pa_cons _ _ _ _ _ (@pe_tup _ _ _ _ _ (@pa_cons _ _ _ _ _ (@pe_int _ _ _ _) (@pa_cons _ _ _ _ _ (@pe_tup _ _ _ _ _ (@pa_nil _)) (@pa_nil _) (by rfl)) (by rfl))) (@pa_cons _ _ _ _ _ (@pv _ 1 _ _ (by rfl) (by first | exact Or.inl rfl | exact Or.inr (Or.inl rfl) | exact Or.inr (Or.inr rfl)) (by decide) (by decide)) (@pa_cons _ _ _ _ _ (@pe_str _ _ _ _) (@pa_cons _ _ _ _ _ (@pv _ 1 _ _ (by rfl) (by first | exact Or.inl rfl | exact Or.inr (Or.inl rfl) | exact Or.inr (Or.inr rfl)) (by decide) (by decide)) (@pa_nil _) (by rfl)) (by rfl)) (by rfl)) (by rfl)) (by rfl))) (@pa_nil _) (by rfl)) (by rfl)) (by rfl)))) (by rfl) (by first | exact .inl rfl | exact .inr rfl | assumption)) (@pss_cons _ _ _ _ _ (@ps_set _ _ (2) _ _ _ _ nd rfl (Or.inl rfl) (@pe_op _ _ _ _ _ _ _ _ op_cat (@pv _ 2 _ _ (by rfl) (by first | exact Or.inl rfl | exact Or.inr (Or.inl rfl) | exact Or.inr (Or.inr rfl)) (by decide) (by decide)) (@pe_lst _ _ _ _ (@pa_cons _ _ _ _ _ (@pe_tup _ _ _ _ _ (@pa_cons _ _ _ _ _ (@pe_str _ _ _ _) (@pa_cons _ _ _ _ _ (@pe_tup _ _ _ _ _ (@pa_cons _ _ _ _ _ (@pe_int _ _ _ _) (@pa_cons _ _ _ _ _ (@pe_tup _ _ _ _ _ (@pa_nil _)) (@pa_nil _) (by rfl)) (by rfl))) (@pa_cons _ _ _ _ _ (@pv _ 1 _ _ (by rfl) (by first | exact Or.inl rfl | exact Or.inr (Or.inl rfl) | exact Or.inr (Or.inr rfl)) (by decide) (by decide)) (@pa_cons _ _ _ _ _ (@pe_str _ _ _ _) (@pa_cons _ _ _ _ _ (@pv _ 1 _ _ (by rfl) (by first | exact Or.inl rfl | exact Or.inr (Or.inl rfl) | exact Or.inr (Or.inr rfl)) (by decide) (by decide)) (@pa_cons _ _ _ _ _ (@pv _ 1 _ _ (by rfl) (by first | exact Or.inl rfl | exact Or.inr (Or.inl rfl) | exact Or.inr (Or.inr rfl)) (by decide) (by decide)) (@pa_nil _) (by rfl)) (by rfl)) (by rfl)) (by rfl)) (by rfl)) (by rfl))) (@pa_cons _ _ _ _ _ (@pe_tup _ _ _ _ _ (@pa_cons _ _ _ _ _ (@pe_str _ _ _ _) (@pa_cons _ _ _ _ _ (@pv _ 1 _ _ (by rfl) (by first | exact Or.inl rfl | exact Or.inr (Or.inl rfl) | exact Or.inr (Or.inr rfl)) (by decide) (by decide)) (@pa_nil _) (by rfl)) (by rfl))) (@pa_cons _ _ _ _ _ (@pe_tup _ _ _ _ _ (@pa_cons _ _ _ _ _ (@pe_str _ _ _ _) (@pa_cons _ _ _ _ _ (@pv _ 1 _ _ (by rfl) (by first | exact Or.inl rfl | exact Or.inr (Or.inl rfl) | exact Or.inr (Or.inr rfl)) (by decide) (by decide)) (@pa_cons _ _ _ _ _ (@pv _ 1 _ _ (by rfl) (by first | exact Or.inl rfl | exact Or.inr (Or.inl rfl) | exact Or.inr (Or.inr rfl)) (by decide) (by decide)) (@pa_nil _) (by rfl)) (by rfl)) (by rfl))) (@pa_cons _ _ _ _ _ (@pe_tup _ _ _ _ _ (@pa_cons _ _ _ _ _ (@pe_str _ _ _ _) (@pa_cons _ _ _ _ _ (@pv _ 1 _ _ (by rfl) (by first | exact Or.inl rfl | exact Or.inr (Or.inl rfl) | exact Or.inr (Or.inr rfl)) (by decide) (by decide)) (@pa_cons _ _ _ _ _ (@pe_tup _ _ _ _ _ (@pa_cons _ _ _ _ _ (@pe_int _ _ _ _) (@pa_cons _ _ _ _ _ (@pe_tup _ _ _ _ _ (@pa_nil _)) (@pa_nil _) (by rfl)) (by rfl))) (@pa_nil _) (by rfl)) (by rfl)) (by rfl))) (@pa_nil _) (by rfl)) (by rfl)) (by rfl)) (by rfl)))) (by rfl) (by first | exact .inl rfl | exact .inr rfl | assumption)) (@pss_cons _ _ _ _ _ (@ps_expr _ _ _ _ (@pe_bm _ _ _ _ _ _ _ _ _ _ _ _ PySem.F.plainAttrs_list PySem.F.slot_list_append PySem.F.type_list_append mt_append (@pv _ 2 _ _ (by rfl) (by first | exact Or.inl rfl | exact Or.inr (Or.inl rfl) | exact Or.inr (Or.inr rfl)) (by decide) (by decide)) (@pa_cons _ _ _ _ _ (@pe_tup _ _ _ _ _ (@pa_cons _ _ _ _ _ (@pe_str _ _ _ _) (@pa_cons _ _ _ _ _ (@pe_non _ _ _) (@pa_nil _) (by rfl)) (by rfl))) (@pa_nil _) (by rfl)) (by rfl) (by rfl) (by rfl) (by rfl) (by rfl)) (by rfl)) (@pss_one _ _ _ (@ps_ret _ _ _ _ (@pe_ix _ _ _ _ _ _ _ ix_list (@pv _ 2 _ _ (by rfl) (by first | exact Or.inl rfl | exact Or.inr (Or.inl rfl) | exact Or.inr (Or.inr rfl)) (by decide) (by decide)) (@pe_op _ _ _ _ _ _ _ _ op_mod (@pv _ 0 _ _ (by rfl) (by first | exact Or.inl rfl | exact Or.inr (Or.inl rfl) | exact Or.inr (Or.inr rfl)) (by decide) (by decide)) (@pe_callB _ _ _ _ _ _ _ _ _ call_len_seq rfl T.len (by decide +kernel) (@pa_cons _ _ _ _ _ (@pv _ 2 _ _ (by rfl) (by first | exact Or.inl rfl | exact Or.inr (Or.inl rfl) | exact Or.inr (Or.inr rfl)) (by decide) (by decide)) (@pa_nil _) (by rfl)) (by decide) (by decide) (by rfl) (by rfl))) (fun _ _ => rfl)))))))))))))))))))), ?_⟩
  refine set_deep (d := oe) ?R fun H0 v0 s0 R0 => ?_
  case R =>
    unfold oe
    refine deep_tup (deeps_cons deep_str (deeps_cons deep_int deeps_nil)) (Nat.le_of_ble_eq_true rfl)
  try dsimp only
  have e0 := R0
  refine set_lst (ds := odd0 wd) ((deeps_cons deep_non (deeps_cons deep_int (deeps_cons deep_str (deeps_cons (deep_lst deeps_nil (Nat.le_of_ble_eq_true rfl)) (deeps_cons (deep_tup deeps_nil (Nat.le_of_ble_eq_true rfl)) (deeps_cons deep_dct (deeps_cons (deep_lst (deeps_cons deep_str (deeps_cons deep_str deeps_nil)) (Nat.le_of_ble_eq_true rfl)) (deeps_cons (deep_tup (deeps_cons deep_str (deeps_cons deep_str deeps_nil)) (Nat.le_of_ble_eq_true rfl)) (deeps_cons (deep_tup (deeps_cons deep_non deeps_nil) (Nat.le_of_ble_eq_true rfl)) (deeps_cons (deep_tup (deeps_cons deep_str deeps_nil) (Nat.le_of_ble_eq_true rfl)) (deeps_cons (deep_tup (deeps_cons deep_str (deeps_cons deep_str (deeps_cons deep_str deeps_nil))) (Nat.le_of_ble_eq_true rfl)) deeps_nil)))))))))))) (Nat.le_of_ble_eq_true rfl) fun H1 l1 t1 L1 => ?_
  have n1 := l_none t1
  have e1 := R0.mono (t1.trans less1_sub)
  have f1 := R0.mono t1
  try dsimp only
  refine set_cat (ds := odd0 wd) (es := odd1 wd) (deep_var (i := 2) rfl L1.rep) (deep_lst (deeps_cons (deep_tup (deeps_cons deep_str (deeps_cons deep_str deeps_nil)) (Nat.le_of_ble_eq_true rfl)) (deeps_cons (deep_tup (deeps_cons deep_str (deeps_cons deep_str deeps_nil)) (Nat.le_of_ble_eq_true rfl)) (deeps_cons (deep_tup (deeps_cons deep_str (deeps_cons deep_str deeps_nil)) (Nat.le_of_ble_eq_true rfl)) (deeps_cons (deep_tup (deeps_cons deep_str (deeps_cons deep_int deeps_nil)) (Nat.le_of_ble_eq_true rfl)) (deeps_cons (deep_tup (deeps_cons deep_str (deeps_cons (deep_neg deep_int) deeps_nil)) (Nat.le_of_ble_eq_true rfl)) deeps_nil))))) (Nat.le_of_ble_eq_true rfl)) (by simp only [List.length_append, ol0, ol1, ol2, ol3, ol4, ol5, ol6, ol7, ol8, ol9, ol10, ol11, ol12, ol13]; decide) fun H2 l2 u2 L2 => ?_
  have t2 := (t1.trans less1_sub).trans u2
  have n2 := l_none t2
  have e2 := R0.mono (t2.trans less1_sub)
  have f2 := R0.mono t2
  try dsimp only
  clear L1 e1 f1
  refine set_cat (ds := (odd0 wd ++ odd1 wd)) (es := odd2 wd) (deep_var (i := 2) rfl L2.rep) (deep_lst (deeps_cons (deep_tup (deeps_cons deep_str (deeps_cons (deep_pow ⟨by decide, by decide, by decide⟩) deeps_nil)) (Nat.le_of_ble_eq_true rfl)) (deeps_cons (deep_tup (deeps_cons deep_str (deeps_cons deep_bl deeps_nil)) (Nat.le_of_ble_eq_true rfl)) (deeps_cons (deep_tup (deeps_cons deep_str (deeps_cons deep_str deeps_nil)) (Nat.le_of_ble_eq_true rfl)) (deeps_cons (deep_tup (deeps_cons deep_str (deeps_cons (deep_tup (deeps_cons deep_int deeps_nil) (Nat.le_of_ble_eq_true rfl)) deeps_nil)) (Nat.le_of_ble_eq_true rfl)) (deeps_cons (deep_tup (deeps_cons deep_str (deeps_cons deep_int deeps_nil)) (Nat.le_of_ble_eq_true rfl)) deeps_nil))))) (Nat.le_of_ble_eq_true rfl)) (by simp only [List.length_append, ol0, ol1, ol2, ol3, ol4, ol5, ol6, ol7, ol8, ol9, ol10, ol11, ol12, ol13]; decide) fun H3 l3 u3 L3 => ?_
  have t3 := (t2.trans less1_sub).trans u3
  have n3 := l_none t3
  have e3 := R0.mono (t3.trans less1_sub)
  have f3 := R0.mono t3
  try dsimp only
  clear L2 e2 f2
  have sn4 : H3 l3 ≠ none := repL_some L3
  refine app_deep (i := 2) (ds := ((odd0 wd ++ odd1 wd) ++ odd2 wd)) (d := (odd3 wd).headD .non) rfl L3 (deepA_tup sn4 (deepsA_cons deepA_str (deepsA_cons (deepA_tup sn4 (deepsA_cons deepA_int (deepsA_cons (deepA_tup sn4 deepsA_nil (Nat.le_of_ble_eq_true rfl)) deepsA_nil)) (Nat.le_of_ble_eq_true rfl)) deepsA_nil)) (Nat.le_of_ble_eq_true rfl)) (by simp only [List.length_append, ol0, ol1, ol2, ol3, ol4, ol5, ol6, ol7, ol8, ol9, ol10, ol11, ol12, ol13]; decide) fun H4 u4 w4 L4 => ?_
  have t4 := w4 _ t3 n3
  have n4 := n3
  have e4 := R0.mono (t4.trans less1_sub)
  have f4 := R0.mono t4
  replace L4 : RepL H4 l3 (((odd0 wd ++ odd1 wd) ++ odd2 wd) ++ odd3 wd) := L4
  try dsimp only
  clear L3 e3 f3
  refine set_cat (ds := (((odd0 wd ++ odd1 wd) ++ odd2 wd) ++ odd3 wd)) (es := odd4 wd) (deep_var (i := 2) rfl L4.rep) (deep_lst (deeps_cons (deep_tup (deeps_cons deep_str (deeps_cons (deep_tup (deeps_cons deep_int (deeps_cons (deep_tup (deeps_cons (deep_tup (deeps_cons deep_str (deeps_cons deep_int deeps_nil)) (Nat.le_of_ble_eq_true rfl)) deeps_nil) (Nat.le_of_ble_eq_true rfl)) deeps_nil)) (Nat.le_of_ble_eq_true rfl)) deeps_nil)) (Nat.le_of_ble_eq_true rfl)) (deeps_cons (deep_tup (deeps_cons deep_str (deeps_cons (deep_tup (deeps_cons deep_int (deeps_cons (deep_tup (deeps_cons (deep_tup (deeps_cons deep_str (deeps_cons deep_int deeps_nil)) (Nat.le_of_ble_eq_true rfl)) deeps_nil) (Nat.le_of_ble_eq_true rfl)) deeps_nil)) (Nat.le_of_ble_eq_true rfl)) deeps_nil)) (Nat.le_of_ble_eq_true rfl)) (deeps_cons (deep_tup (deeps_cons deep_str (deeps_cons deep_str (deeps_cons (deep_var (i := 1) rfl e4) (deeps_cons (deep_var (i := 1) rfl e4) deeps_nil)))) (Nat.le_of_ble_eq_true rfl)) deeps_nil))) (Nat.le_of_ble_eq_true rfl)) (by simp only [List.length_append, ol0, ol1, ol2, ol3, ol4, ol5, ol6, ol7, ol8, ol9, ol10, ol11, ol12, ol13]; decide) fun H5 l5 u5 L5 => ?_
  have t5 := (t4.trans less1_sub).trans u5
  have n5 := l_none t5
  have e5 := R0.mono (t5.trans less1_sub)
  have f5 := R0.mono t5
  try dsimp only
  clear L4 e4 f4
  refine set_cat (ds := ((((odd0 wd ++ odd1 wd) ++ odd2 wd) ++ odd3 wd) ++ odd4 wd)) (es := odd5 wd) (deep_var (i := 2) rfl L5.rep) (deep_lst (deeps_cons (deep_tup (deeps_cons deep_str (deeps_cons deep_str (deeps_cons (deep_var (i := 1) rfl e5) deeps_nil))) (Nat.le_of_ble_eq_true rfl)) (deeps_cons (deep_tup (deeps_cons deep_str (deeps_cons (deep_var (i := 1) rfl e5) (deeps_cons (deep_var (i := 1) rfl e5) deeps_nil))) (Nat.le_of_ble_eq_true rfl)) (deeps_cons (deep_tup (deeps_cons deep_str (deeps_cons (deep_var (i := 1) rfl e5) (deeps_cons (deep_var (i := 1) rfl e5) deeps_nil))) (Nat.le_of_ble_eq_true rfl)) (deeps_cons (deep_tup (deeps_cons deep_str (deeps_cons deep_str (deeps_cons (deep_var (i := 1) rfl e5) deeps_nil))) (Nat.le_of_ble_eq_true rfl)) (deeps_cons (deep_tup (deeps_cons deep_str (deeps_cons (deep_var (i := 1) rfl e5) (deeps_cons deep_str (deeps_cons (deep_var (i := 1) rfl e5) deeps_nil)))) (Nat.le_of_ble_eq_true rfl)) deeps_nil))))) (Nat.le_of_ble_eq_true rfl)) (by simp only [List.length_append, ol0, ol1, ol2, ol3, ol4, ol5, ol6, ol7, ol8, ol9, ol10, ol11, ol12, ol13]; decide) fun H6 l6 u6 L6 => ?_
  have t6 := (t5.trans less1_sub).trans u6
  have n6 := l_none t6
  have e6 := R0.mono (t6.trans less1_sub)
  have f6 := R0.mono t6
  try dsimp only
  clear L5 e5 f5
  refine ⟨rfl, fun G7 dd g1 hdd hdk => ⟨dd, _, rfl, hdk, fun ka hka => ⟨(by show 5 ≤ sizeLine; rw [sizeLine_eq]; decide), fun kb hkb => ?_⟩⟩⟩
  have c1 := same_new hka (.lst (lk.map fun p => kV p.1))
  have c2 := same_new hkb (.lst [.str "plus", .str "minus", .str "times", .str "less", .str "same"])
  refine ⟨ka, kb, _, _, rfl, rfl, c2 _ _ upd_same, upd_same, by rw [List.length_map, lk_len, sizeLine_eq]; decide, fun H7_w hkc => ?_⟩
  have c3 := same_new hkc (.lst ((lk.map fun p => kV p.1) ++ [.str "plus", .str "minus", .str "times", .str "less", .str "same"]))
  have wS := g1.trans (c1.trans (c2.trans c3))
  have wL7 : upd (upd (upd G7 ka (.lst (lk.map fun p => kV p.1))) kb (.lst [.str "plus", .str "minus", .str "times", .str "less", .str "same"])) H7_w (.lst ((lk.map fun p => kV p.1) ++ [.str "plus", .str "minus", .str "times", .str "less", .str "same"])) H7_w = some (.lst (W32.map V.str)) := by rw [upd_same, lk_keys]; unfold W32; rw [List.map_append, List.map_map]; rfl
  have wM7 := less1_ne (l := l6) (fun z => by rw [z, c2 _ _ (c1 _ _ (g1 _ _ L6.ex.choose_spec.1))] at hkc; cases hkc) wL7
  generalize upd _ H7_w _ = H7 at wS wL7 wM7 ⊢
  have L7 := repL_mono L6 wS
  have t7 := t6.trans (less1_same wS)
  have n7 := n6
  have e7 := R0.mono (t7.trans less1_sub)
  have f7 := R0.mono t7
  refine gnm ?_
  try dsimp only
  clear L6 e6 f6
  refine set_cat (ds := (((((odd0 wd ++ odd1 wd) ++ odd2 wd) ++ odd3 wd) ++ odd4 wd) ++ odd5 wd)) (es := odd6 wd) (deep_var (i := 2) rfl L7.rep) (deep_lst (deeps_cons (deep_tup (deeps_cons deep_str (deeps_cons (deep_word (i3 := 3) (i0 := 0) (fun G s => s _ _ wL7) hatW x0 rfl rfl) (deeps_cons (deep_tup deeps_nil (Nat.le_of_ble_eq_true rfl)) deeps_nil))) (Nat.le_of_ble_eq_true rfl)) (deeps_cons (deep_tup (deeps_cons deep_str (deeps_cons (deep_word (i3 := 3) (i0 := 0) (fun G s => s _ _ wL7) hatW x0 rfl rfl) (deeps_cons (deep_tup (deeps_cons (deep_var (i := 1) rfl e7) deeps_nil) (Nat.le_of_ble_eq_true rfl)) deeps_nil))) (Nat.le_of_ble_eq_true rfl)) deeps_nil)) (Nat.le_of_ble_eq_true rfl)) (by simp only [List.length_append, ol0, ol1, ol2, ol3, ol4, ol5, ol6, ol7, ol8, ol9, ol10, ol11, ol12, ol13]; decide) fun H8 l8 u8 L8 => ?_
  have t8 := (t7.trans less1_sub).trans u8
  have n8 := l_none t8
  have e8 := R0.mono (t8.trans less1_sub)
  have f8 := R0.mono t8
  have wM8 := u8 _ _ wL7
  have wL8 := less1_sub _ _ wM8
  try dsimp only
  clear L7 e7 f7
  refine set_cat (ds := ((((((odd0 wd ++ odd1 wd) ++ odd2 wd) ++ odd3 wd) ++ odd4 wd) ++ odd5 wd) ++ odd6 wd)) (es := odd7 wd) (deep_var (i := 2) rfl L8.rep) (deep_lst (deeps_cons (deep_tup (deeps_cons deep_str (deeps_cons deep_str (deeps_cons (deep_lst deeps_nil (Nat.le_of_ble_eq_true rfl)) deeps_nil))) (Nat.le_of_ble_eq_true rfl)) (deeps_cons (deep_tup (deeps_cons deep_str (deeps_cons deep_str (deeps_cons (deep_rep (ds := [oe]) (deep_tup (deeps_cons (deep_var (i := 1) rfl e8) deeps_nil) (Nat.le_of_ble_eq_true rfl)) (fun z => nomatch z) (by decide) (by decide) (by decide)) deeps_nil))) (Nat.le_of_ble_eq_true rfl)) deeps_nil)) (Nat.le_of_ble_eq_true rfl)) (by simp only [List.length_append, ol0, ol1, ol2, ol3, ol4, ol5, ol6, ol7, ol8, ol9, ol10, ol11, ol12, ol13]; decide) fun H9 l9 u9 L9 => ?_
  have t9 := (t8.trans less1_sub).trans u9
  have n9 := l_none t9
  have e9 := R0.mono (t9.trans less1_sub)
  have f9 := R0.mono t9
  have wM9 := u9 _ _ wL8
  have wL9 := less1_sub _ _ wM9
  try dsimp only
  clear L8 e8 f8
  refine set_cat (ds := (((((((odd0 wd ++ odd1 wd) ++ odd2 wd) ++ odd3 wd) ++ odd4 wd) ++ odd5 wd) ++ odd6 wd) ++ odd7 wd)) (es := odd8 wd) (deep_var (i := 2) rfl L9.rep) (deep_lst (deeps_cons (deep_tup (deeps_cons deep_str (deeps_cons deep_str deeps_nil)) (Nat.le_of_ble_eq_true rfl)) (deeps_cons (deep_tup (deeps_cons deep_str (deeps_cons (deep_tup deeps_nil (Nat.le_of_ble_eq_true rfl)) deeps_nil)) (Nat.le_of_ble_eq_true rfl)) (deeps_cons (deep_tup (deeps_cons deep_str (deeps_cons (deep_rep (ds := [oe]) (deep_tup (deeps_cons (deep_var (i := 1) rfl e9) deeps_nil) (Nat.le_of_ble_eq_true rfl)) (fun z => nomatch z) (by decide) (by decide) (by decide)) deeps_nil)) (Nat.le_of_ble_eq_true rfl)) (deeps_cons (deep_tup (deeps_cons deep_str (deeps_cons (deep_lst (deeps_cons (deep_var (i := 1) rfl e9) deeps_nil) (Nat.le_of_ble_eq_true rfl)) deeps_nil)) (Nat.le_of_ble_eq_true rfl)) (deeps_cons (deep_tup (deeps_cons deep_str (deeps_cons (deep_var (i := 1) rfl e9) deeps_nil)) (Nat.le_of_ble_eq_true rfl)) (deeps_cons (deep_tup (deeps_cons deep_str (deeps_cons (deep_tup (deeps_cons deep_str (deeps_cons deep_int deeps_nil)) (Nat.le_of_ble_eq_true rfl)) deeps_nil)) (Nat.le_of_ble_eq_true rfl)) deeps_nil)))))) (Nat.le_of_ble_eq_true rfl)) (by simp only [List.length_append, ol0, ol1, ol2, ol3, ol4, ol5, ol6, ol7, ol8, ol9, ol10, ol11, ol12, ol13]; decide) fun H10 l10 u10 L10 => ?_
  have t10 := (t9.trans less1_sub).trans u10
  have n10 := l_none t10
  have e10 := R0.mono (t10.trans less1_sub)
  have f10 := R0.mono t10
  have wM10 := u10 _ _ wL9
  have wL10 := less1_sub _ _ wM10
  try dsimp only
  clear L9 e9 f9
  have sn11 : H10 l10 ≠ none := repL_some L10
  refine app_deep (i := 2) (ds := ((((((((odd0 wd ++ odd1 wd) ++ odd2 wd) ++ odd3 wd) ++ odd4 wd) ++ odd5 wd) ++ odd6 wd) ++ odd7 wd) ++ odd8 wd)) (d := (odd9 wd).headD .non) rfl L10 (deepA_tup sn11 (deepsA_cons deepA_str (deepsA_cons deepA_str deepsA_nil)) (Nat.le_of_ble_eq_true rfl)) (by simp only [List.length_append, ol0, ol1, ol2, ol3, ol4, ol5, ol6, ol7, ol8, ol9, ol10, ol11, ol12, ol13]; decide) fun H11 u11 w11 L11 => ?_
  have t11 := w11 _ t10 n10
  have n11 := n10
  have e11 := R0.mono (t11.trans less1_sub)
  have f11 := R0.mono t11
  have wL11 := u11 _ _ wM10
  have wM11 := less1_ne (ne_less1 wM10) wL11
  replace L11 : RepL H11 l10 (((((((((odd0 wd ++ odd1 wd) ++ odd2 wd) ++ odd3 wd) ++ odd4 wd) ++ odd5 wd) ++ odd6 wd) ++ odd7 wd) ++ odd8 wd) ++ odd9 wd) := L11
  try dsimp only
  clear L10 e10 f10
  refine set_cat (ds := (((((((((odd0 wd ++ odd1 wd) ++ odd2 wd) ++ odd3 wd) ++ odd4 wd) ++ odd5 wd) ++ odd6 wd) ++ odd7 wd) ++ odd8 wd) ++ odd9 wd)) (es := odd10 wd) (deep_var (i := 2) rfl L11.rep) (deep_lst (deeps_cons (deep_tup (deeps_cons deep_str (deeps_cons (deep_tup (deeps_cons deep_str (deeps_cons (deep_tup (deeps_cons deep_int (deeps_cons (deep_tup deeps_nil (Nat.le_of_ble_eq_true rfl)) deeps_nil)) (Nat.le_of_ble_eq_true rfl)) (deeps_cons (deep_tup (deeps_cons deep_str deeps_nil) (Nat.le_of_ble_eq_true rfl)) deeps_nil))) (Nat.le_of_ble_eq_true rfl)) deeps_nil)) (Nat.le_of_ble_eq_true rfl)) (deeps_cons (deep_tup (deeps_cons deep_str (deeps_cons (deep_tup (deeps_cons deep_int (deeps_cons (deep_tup deeps_nil (Nat.le_of_ble_eq_true rfl)) deeps_nil)) (Nat.le_of_ble_eq_true rfl)) (deeps_cons deep_int deeps_nil))) (Nat.le_of_ble_eq_true rfl)) (deeps_cons (deep_tup (deeps_cons deep_str (deeps_cons (deep_tup (deeps_cons deep_int (deeps_cons (deep_tup deeps_nil (Nat.le_of_ble_eq_true rfl)) deeps_nil)) (Nat.le_of_ble_eq_true rfl)) deeps_nil)) (Nat.le_of_ble_eq_true rfl)) deeps_nil))) (Nat.le_of_ble_eq_true rfl)) (by simp only [List.length_append, ol0, ol1, ol2, ol3, ol4, ol5, ol6, ol7, ol8, ol9, ol10, ol11, ol12, ol13]; decide) fun H12 l12 u12 L12 => ?_
  have t12 := (t11.trans less1_sub).trans u12
  have n12 := l_none t12
  have e12 := R0.mono (t12.trans less1_sub)
  have f12 := R0.mono t12
  have wM12 := u12 _ _ wL11
  have wL12 := less1_sub _ _ wM12
  try dsimp only
  clear L11 e11 f11
  refine set_cat (ds := ((((((((((odd0 wd ++ odd1 wd) ++ odd2 wd) ++ odd3 wd) ++ odd4 wd) ++ odd5 wd) ++ odd6 wd) ++ odd7 wd) ++ odd8 wd) ++ odd9 wd) ++ odd10 wd)) (es := odd11 wd) (deep_var (i := 2) rfl L12.rep) (deep_lst (deeps_cons (deep_tup (deeps_cons deep_str (deeps_cons deep_str (deeps_cons (deep_tup (deeps_cons deep_int (deeps_cons (deep_tup deeps_nil (Nat.le_of_ble_eq_true rfl)) deeps_nil)) (Nat.le_of_ble_eq_true rfl)) (deeps_cons deep_str (deeps_cons (deep_var (i := 1) rfl e12) (deeps_cons (deep_var (i := 1) rfl e12) deeps_nil)))))) (Nat.le_of_ble_eq_true rfl)) (deeps_cons (deep_tup (deeps_cons deep_str (deeps_cons deep_str (deeps_cons deep_int (deeps_cons (deep_var (i := 1) rfl e12) deeps_nil)))) (Nat.le_of_ble_eq_true rfl)) (deeps_cons (deep_tup (deeps_cons deep_str (deeps_cons (deep_tup (deeps_cons deep_int (deeps_cons (deep_tup deeps_nil (Nat.le_of_ble_eq_true rfl)) deeps_nil)) (Nat.le_of_ble_eq_true rfl)) (deeps_cons (deep_var (i := 1) rfl e12) (deeps_cons deep_str (deeps_cons (deep_var (i := 1) rfl e12) deeps_nil))))) (Nat.le_of_ble_eq_true rfl)) deeps_nil))) (Nat.le_of_ble_eq_true rfl)) (by simp only [List.length_append, ol0, ol1, ol2, ol3, ol4, ol5, ol6, ol7, ol8, ol9, ol10, ol11, ol12, ol13]; decide) fun H13 l13 u13 L13 => ?_
  have t13 := (t12.trans less1_sub).trans u13
  have n13 := l_none t13
  have e13 := R0.mono (t13.trans less1_sub)
  have f13 := R0.mono t13
  have wM13 := u13 _ _ wL12
  have wL13 := less1_sub _ _ wM13
  try dsimp only
  clear L12 e12 f12
  refine set_cat (ds := (((((((((((odd0 wd ++ odd1 wd) ++ odd2 wd) ++ odd3 wd) ++ odd4 wd) ++ odd5 wd) ++ odd6 wd) ++ odd7 wd) ++ odd8 wd) ++ odd9 wd) ++ odd10 wd) ++ odd11 wd)) (es := odd12 wd) (deep_var (i := 2) rfl L13.rep) (deep_lst (deeps_cons (deep_tup (deeps_cons deep_str (deeps_cons (deep_tup (deeps_cons deep_int (deeps_cons (deep_tup deeps_nil (Nat.le_of_ble_eq_true rfl)) deeps_nil)) (Nat.le_of_ble_eq_true rfl)) (deeps_cons (deep_var (i := 1) rfl e13) (deeps_cons deep_str (deeps_cons (deep_var (i := 1) rfl e13) (deeps_cons (deep_var (i := 1) rfl e13) deeps_nil)))))) (Nat.le_of_ble_eq_true rfl)) (deeps_cons (deep_tup (deeps_cons deep_str (deeps_cons (deep_var (i := 1) rfl e13) deeps_nil)) (Nat.le_of_ble_eq_true rfl)) (deeps_cons (deep_tup (deeps_cons deep_str (deeps_cons (deep_var (i := 1) rfl e13) (deeps_cons (deep_var (i := 1) rfl e13) deeps_nil))) (Nat.le_of_ble_eq_true rfl)) (deeps_cons (deep_tup (deeps_cons deep_str (deeps_cons (deep_var (i := 1) rfl e13) (deeps_cons (deep_tup (deeps_cons deep_int (deeps_cons (deep_tup deeps_nil (Nat.le_of_ble_eq_true rfl)) deeps_nil)) (Nat.le_of_ble_eq_true rfl)) deeps_nil))) (Nat.le_of_ble_eq_true rfl)) deeps_nil)))) (Nat.le_of_ble_eq_true rfl)) (by simp only [List.length_append, ol0, ol1, ol2, ol3, ol4, ol5, ol6, ol7, ol8, ol9, ol10, ol11, ol12, ol13]; decide) fun H14 l14 u14 L14 => ?_
  have t14 := (t13.trans less1_sub).trans u14
  have n14 := l_none t14
  have e14 := R0.mono (t14.trans less1_sub)
  have f14 := R0.mono t14
  have wM14 := u14 _ _ wL13
  have wL14 := less1_sub _ _ wM14
  try dsimp only
  clear L13 e13 f13
  have sn15 : H14 l14 ≠ none := repL_some L14
  refine app_deep (i := 2) (ds := ((((((((((((odd0 wd ++ odd1 wd) ++ odd2 wd) ++ odd3 wd) ++ odd4 wd) ++ odd5 wd) ++ odd6 wd) ++ odd7 wd) ++ odd8 wd) ++ odd9 wd) ++ odd10 wd) ++ odd11 wd) ++ odd12 wd)) (d := (odd13 wd).headD .non) rfl L14 (deepA_tup sn15 (deepsA_cons deepA_str (deepsA_cons deepA_non deepsA_nil)) (Nat.le_of_ble_eq_true rfl)) (by simp only [List.length_append, ol0, ol1, ol2, ol3, ol4, ol5, ol6, ol7, ol8, ol9, ol10, ol11, ol12, ol13]; decide) fun H15 u15 w15 L15 => ?_
  have t15 := w15 _ t14 n14
  have n15 := n14
  have e15 := R0.mono (t15.trans less1_sub)
  have f15 := R0.mono t15
  have wL15 := u15 _ _ wM14
  have wM15 := less1_ne (ne_less1 wM14) wL15
  replace L15 : RepL H15 l14 (((((((((((((odd0 wd ++ odd1 wd) ++ odd2 wd) ++ odd3 wd) ++ odd4 wd) ++ odd5 wd) ++ odd6 wd) ++ odd7 wd) ++ odd8 wd) ++ odd9 wd) ++ odd10 wd) ++ odd11 wd) ++ odd12 wd) ++ odd13 wd) := L15
  try dsimp only
  clear L14 e14 f14
  obtain ⟨ys, hys, Rys⟩ := L15.ex
  have ly : ys.length = 52 := Rys.length.trans (by simp only [List.length_append, ol0, ol1, ol2, ol3, ol4, ol5, ol6, ol7, ol8, ol9, ol10, ol11, ol12, ol13])
  obtain ⟨i0, i1⟩ := mod_lt (a := x) 52 (by decide)
  have hlt : (x % 52).toNat < ys.length := by omega
  obtain ⟨d, hd, Rd⟩ := Rys.get (List.getElem?_eq_getElem hlt)
  have hat : atI ys (x % 52) = some ys[(x % 52).toNat] := atn i0 (List.getElem?_eq_getElem hlt)
  have hm := List.mem_of_getElem? hd
  refine ⟨_, rfl, _, rfl, _, rfl, l14, ys, rfl, .inl (SqL.of hys), _, _, rfl, rfl, ?_, l14, _, _, _, rfl, rfl, SqL.of hys, ?_, q _ _ d (s0.trans (t15.trans less1_sub)) (Rd.mono less1_sub) (odd_small wd hwd d hm) (odd_bad wd hwd d hm)⟩
  · show (0 : Int) < (ys.length : Int); omega
  · rw [ly]; exact hat
end
end K21
set_option maxHeartbeats 2000000
namespace K21
open PySem L2 KB XB
abbrev s_law : Stmt := top 43
def spLaw (K : PySem.W.Frag) : Sp := fun vs H Q _ => ∃ (a : Addr) (ns : List Int), vs = [.ref a] ∧ SqL K H a (ns.map V.int) ∧ ns.length ≤ 63 ∧ ∀ H', Q (.bl true) H'
theorem cut_map (ns : List Int) (lo hi : Option Int) : ∃ ms : List Int, cutV (ns.map V.int) lo hi = ms.map V.int ∧ ms.length ≤ ns.length := by
  unfold cutV
  rw [List.length_map]
  refine ⟨(ns.drop (HT.sIx ns.length 0 lo)).take (HT.sIx ns.length ns.length hi - HT.sIx ns.length 0 lo), by rw [List.map_take, List.map_drop], ?_⟩
  rw [List.length_take, List.length_drop]
  omega
section
variable {P : Program} {w : World} {K : PySem.W.Frag} {mg : Str → Option Value} {base : Heap}
theorem sc_law : FnScope ["_law_script", "_law_shapes_here", "_law_begin", "_law_draws_here", "_law_names_here", "_law_at", "_law_odd_here", "_law_one", "_law_count", "_law_deep", "_law_turn", "_law_found", "_law_spoilt", "_law_thing"] ["_law_script"] (defScope s_law) := ⟨rfl, rfl, rfl, by decide +kernel, rfl, by decide +kernel, by decide +kernel⟩
theorem ok_law {f : Addr} {fd : FuncData} {k0 : Nat} (F : Fun K "law" "law" s_law f fd) (T : Txt K mg) (D_law_shapes : Def P w K mg base k0 "_law_shapes" [] spShapes) (D_law_draws : Def P w K mg base k0 "_law_draws" ["_law_cells", "_law_many"] (spDraws K)) (D_law_next : Def P w K mg base k0 "_law_next" ["_law_draws_here"] spNext) (D_law_names : Def P w K mg base k0 "_law_names" ["_law_cell"] spNames)
    (D_law_odd : Def P w K mg base k0 "_law_odd" ["_law_cell"] spOdd) (D_law_any : Def P w K mg base k0 "_law_any" ["_law_draws_here", "_law_names_here", "_law_room", "_law_shapes_here"] (spAny 11)) (D_law_measure : Def P w K mg base k0 "_law_measure" ["_law_one", "_law_shapes_here"] (spMeas 12)) (D_law_with : Def P w K mg base k0 "_law_with" ["_law_one", "_law_at", "_law_odd_here", "_law_shapes_here"] (spWith 12)) (Dis_expression : Def P w K mg base k0 "is_expression" ["thing"] spIsExpr) :
    FnOk P w K mg base CX0 (k0 + 1) f fd ["_law_script"] (spLaw K) := by
  have nd : (["_law_script", "_law_shapes_here", "_law_begin", "_law_draws_here", "_law_names_here", "_law_at", "_law_odd_here", "_law_one", "_law_count", "_law_deep", "_law_turn", "_law_found", "_law_spoilt", "_law_thing"] : List Str).Nodup := sc_law.nd
  refine F.ok sc_law (fun vs H Q E h => ?_) (fun cdv A outer s H vs Q E hr h => ?_)
  · obtain ⟨a, ns, rfl, _⟩ := h
    rfl
  obtain ⟨sc, ns, rfl, hS, h63, q⟩ := h
  refine ⟨_, (@pss_cons _ _ _ _ _ (@ps_set _ _ (1) _ _ _ _ nd rfl (Or.inl rfl) (@pe_def0 _ _ _ _ _ _ _ D_law_shapes hr rfl (by decide)) (by rfl) (by first | exact .inl rfl | exact .inr rfl | assumption)) (@pss_cons _ _ _ _ _ (@ps_for _ _ _ _ _ _ _ _ PassesOwn.never rfl (@pi_range3 _ _ _ _ _ _ _ _ rfl T.range (@pa_cons _ _ _ _ _ (@pe_int _ _ _ _) (@pa_cons _ _ _ _ _ (@pe_callB _ _ _ _ _ _ _ _ _ (call_max2 rfl) rfl T.max (by decide +kernel) (@pa_cons _ _ _ _ _ (@pe_int _ _ _ _) (@pa_cons _ _ _ _ _ (@pe_callB _ _ _ _ _ _ _ _ _ call_len_seq rfl T.len (by decide +kernel) (@pa_cons _ _ _ _ _ (@pv _ 0 _ _ (by rfl) (by first | exact Or.inl rfl | exact Or.inr (Or.inl rfl) | exact Or.inr (Or.inr rfl)) (by decide) (by decide)) (@pa_nil _) (by rfl)) (by decide) (by decide) (by rfl) (by rfl)) (@pa_nil _) (by rfl)) (by rfl)) (by decide) (by decide) (by rfl) (by rfl)) (@pa_cons _ _ _ _ _ (@pe_int _ _ _ _) (@pa_nil _) (by rfl)) (by rfl)) (by rfl)) (by rfl) (by rfl)) (@pg_name _ _ (2) _ nd rfl (Or.inl rfl) (by first | exact .inl rfl | exact .inr rfl | assumption)) (@pss_cons _ _ _ _ _ (@ps_set _ _ (3) _ _ _ _ nd rfl (Or.inl rfl) (@pe_def _ _ _ _ _ _ _ _ _ _ D_law_draws hr rfl (@pa_cons _ _ _ _ _ (@pe_slice _ _ _ _ _ _ _ _ _ _ sl_list (@pe_op _ _ _ _ _ _ _ _ op_cat (@pe_slice _ _ _ _ _ _ _ _ _ _ sl_list (@pv _ 0 _ _ (by rfl) (by first | exact Or.inl rfl | exact Or.inr (Or.inl rfl) | exact Or.inr (Or.inr rfl)) (by decide) (by decide)) (@po_some _ _ _ (@pv _ 2 _ _ (by rfl) (by first | exact Or.inl rfl | exact Or.inr (Or.inl rfl) | exact Or.inr (Or.inr rfl)) (by decide) (by decide))) (@po_some _ _ _ (@pe_op _ _ _ _ _ _ _ _ op_add (@pv _ 2 _ _ (by rfl) (by first | exact Or.inl rfl | exact Or.inr (Or.inl rfl) | exact Or.inr (Or.inr rfl)) (by decide) (by decide)) (@pe_int _ _ _ _)))) (@pe_op _ _ _ _ _ _ _ _ op_rep (@pe_lst _ _ _ _ (@pa_cons _ _ _ _ _ (@pe_int _ _ _ _) (@pa_nil _) (by rfl))) (@pe_int _ _ _ _))) (@po_none _) (@po_some _ _ _ (@pe_int _ _ _ _))) (@pa_cons _ _ _ _ _ (@pe_int _ _ _ _) (@pa_nil _) (by rfl)) (by rfl)) (by decide) (by rfl) (by rfl)) (by rfl) (by first | exact .inl rfl | exact .inr rfl | assumption)) (@pss_cons _ _ _ _ _ (@ps_set _ _ (4) _ _ _ _ nd rfl (Or.inl rfl) (@pe_def _ _ _ _ _ _ _ _ _ _ D_law_names hr rfl (@pa_cons _ _ _ _ _ (@pe_def _ _ _ _ _ _ _ _ _ _ D_law_next hr rfl (@pa_cons _ _ _ _ _ (@pv _ 3 _ _ (by rfl) (by first | exact Or.inl rfl | exact Or.inr (Or.inl rfl) | exact Or.inr (Or.inr rfl)) (by decide) (by decide)) (@pa_nil _) (by rfl)) (by decide) (by rfl) (by rfl)) (@pa_nil _) (by rfl)) (by decide) (by rfl) (by rfl)) (by rfl) (by first | exact .inl rfl | exact .inr rfl | assumption)) (@pss_cons _ _ _ _ _ (@ps_set _ _ (5) _ _ _ _ nd rfl (Or.inl rfl) (@pe_def _ _ _ _ _ _ _ _ _ _ D_law_next hr rfl (@pa_cons _ _ _ _ _ (@pv _ 3 _ _ (by rfl) (by first | exact Or.inl rfl | exact Or.inr (Or.inl rfl) | exact Or.inr (Or.inr rfl)) (by decide) (by decide)) (@pa_nil _) (by rfl)) (by decide) (by rfl) (by rfl)) (by rfl) (by first | exact .inl rfl | exact .inr rfl | assumption)) (@pss_cons _ _ _ _ _ (@ps_set _ _ (6) _ _ _ _ nd rfl (Or.inl rfl) (@pe_def _ _ _ _ _ _ _ _ _ _ D_law_odd hr rfl (@pa_cons _ _ _ _ _ (@pe_def _ _ _ _ _ _ _ _ _ _ D_law_next hr rfl (@pa_cons _ _ _ _ _ (@pv _ 3 _ _ (by rfl) (by first | exact Or.inl rfl | exact Or.inr (Or.inl rfl) | exact Or.inr (Or.inr rfl)) (by decide) (by decide)) (@pa_nil _) (by rfl)) (by decide) (by rfl) (by rfl)) (@pa_nil _) (by rfl)) (by decide) (by rfl) (by rfl)) (by rfl) (by first | exact .inl rfl | exact .inr rfl | assumption)) (@pss_cons _ _ _ _ _ (@ps_set _ _ (7) _ _ _ _ nd rfl (Or.inl rfl) (@pe_def _ _ _ _ _ _ _ _ _ _ D_law_any hr rfl (@pa_cons _ _ _ _ _ (@pe_slice _ _ _ _ _ _ _ _ _ _ sl_list (@pv _ 3 _ _ (by rfl) (by first | exact Or.inl rfl | exact Or.inr (Or.inl rfl) | exact Or.inr (Or.inr rfl)) (by decide) (by decide)) (@po_some _ _ _ (@pe_op _ _ _ _ _ _ _ _ op_mod (@pv _ 5 _ _ (by rfl) (by first | exact Or.inl rfl | exact Or.inr (Or.inl rfl) | exact Or.inr (Or.inr rfl)) (by decide) (by decide)) (@pe_int _ _ _ _))) (@po_none _)) (@pa_cons _ _ _ _ _ (@pv _ 4 _ _ (by rfl) (by first | exact Or.inl rfl | exact Or.inr (Or.inl rfl) | exact Or.inr (Or.inr rfl)) (by decide) (by decide)) (@pa_cons _ _ _ _ _ (@pe_op _ _ _ _ _ _ _ _ op_add (@pe_int _ _ _ _) (@pe_op _ _ _ _ _ _ _ _ op_mod (@pe_op _ _ _ _ _ _ _ _ op_fdiv (@pv _ 5 _ _ (by rfl) (by first | exact Or.inl rfl | exact Or.inr (Or.inl rfl) | exact Or.inr (Or.inr rfl)) (by decide) (by decide)) (@pe_int _ _ _ _)) (@pe_int _ _ _ _))) (@pa_cons _ _ _ _ _ (@pv _ 1 _ _ (by rfl) (by first | exact Or.inl rfl | exact Or.inr (Or.inl rfl) | exact Or.inr (Or.inr rfl)) (by decide) (by decide)) (@pa_nil _) (by rfl)) (by rfl)) (by rfl)) (by rfl)) (by decide) (by rfl) (by rfl)) (by rfl) (by first | exact .inl rfl | exact .inr rfl | assumption)) (@pss_cons _ _ _ _ _ (@ps_asg _ _ _ _ _ _ (@pe_def _ _ _ _ _ _ _ _ _ _ D_law_measure hr rfl (@pa_cons _ _ _ _ _ (@pv _ 7 _ _ (by rfl) (by first | exact Or.inl rfl | exact Or.inr (Or.inl rfl) | exact Or.inr (Or.inr rfl)) (by decide) (by decide)) (@pa_cons _ _ _ _ _ (@pv _ 1 _ _ (by rfl) (by first | exact Or.inl rfl | exact Or.inr (Or.inl rfl) | exact Or.inr (Or.inr rfl)) (by decide) (by decide)) (@pa_nil _) (by rfl)) (by rfl)) (by decide) (by rfl) (by rfl)) (@pg_tup _ _ _ _ _ _ rfl (@pgs_cons _ _ _ _ _ (@pg_name _ _ (8) _ nd rfl (Or.inl rfl) (by first | exact .inl rfl | exact .inr rfl | assumption)) (@pgs_cons _ _ _ _ _ (@pg_name _ _ (9) _ nd rfl (Or.inl rfl) (by first | exact .inl rfl | exact .inr rfl | assumption)) (@pgs_nil _) (by rfl)) (by rfl)) (by rfl) (by rfl)) (by rfl) (by rfl) (by rfl)) (@pss_cons _ _ _ _ _ (@ps_for _ _ _ _ _ _ _ _ PassesOwn.never rfl (@pi_range1 _ _ _ _ _ _ rfl T.range (@pa_cons _ _ _ _ _ (@pe_int _ _ _ _) (@pa_nil _) (by rfl)) (by rfl)) (@pg_name _ _ (10) _ nd rfl (Or.inl rfl) (by first | exact .inl rfl | exact .inr rfl | assumption)) (@pss_cons _ _ _ _ _ (@ps_set _ _ (11) _ _ _ _ nd rfl (Or.inl rfl) (@pe_def _ _ _ _ _ _ _ _ _ _ Dis_expression hr rfl (@pa_cons _ _ _ _ _ (@pv _ 7 _ _ (by rfl) (by first | exact Or.inl rfl | exact Or.inr (Or.inl rfl) | exact Or.inr (Or.inr rfl)) (by decide) (by decide)) (@pa_nil _) (by rfl)) (by decide) (by rfl) (by rfl)) (by rfl) (by first | exact .inl rfl | exact .inr rfl | assumption)) (@pss_one _ _ _ (@ps_if _ _ _ _ _ _ _ _ (@PW.pt _ _ _ (@pw_or _ _ _ _ _ _ _ (@pt_not _ _ _ _ (@pt_val _ _ _ (@pe_callB _ _ _ _ _ _ _ _ _ call_isi rfl T.isinstance (by decide +kernel) (@pa_cons _ _ _ _ _ (@pv _ 11 _ _ (by rfl) (by first | exact Or.inl rfl | exact Or.inr (Or.inl rfl) | exact Or.inr (Or.inr rfl)) (by decide) (by decide)) (@pa_cons _ _ _ _ _ (@pe_bltn _ _ (.ty "bool") _ _ rfl T.bool (by decide +kernel) rfl (by decide) (by decide)) (@pa_nil _) (by rfl)) (by rfl)) (by decide) (by decide) (by rfl) (by rfl)) (by intro _; rfl))) (@pw_or1 _ _ _ _ (@pt_cmpR _ _ _ _ _ _ _ _ op_ne (@pv _ 11 _ _ (by rfl) (by first | exact Or.inl rfl | exact Or.inr (Or.inl rfl) | exact Or.inr (Or.inr rfl)) (by decide) (by decide)) (@pe_and _ _ _ _ _ _ _ (@pe_cmpR _ _ _ _ _ _ _ _ op_le (@pv _ 8 _ _ (by rfl) (by first | exact Or.inl rfl | exact Or.inr (Or.inl rfl) | exact Or.inr (Or.inr rfl)) (by decide) (by decide)) (@pe_int _ _ _ _) (nomark _)) (@pe_one _ _ _ _ _ (@pe_cmpR _ _ _ _ _ _ _ _ op_le (@pv _ 9 _ _ (by rfl) (by first | exact Or.inl rfl | exact Or.inr (Or.inl rfl) | exact Or.inr (Or.inr rfl)) (by decide) (by decide)) (@pe_int _ _ _ _) (nomark _)))) (nomark _))))) (@pss_one _ _ _ (@ps_ret _ _ _ _ (@pe_bl _ _ _ _))) (@pss_nil _)))) (by intro _; rfl)) (@pss_cons _ _ _ _ _ (@ps_set _ _ (12) _ _ _ _ nd rfl (Or.inl rfl) (@pe_ix _ _ _ _ _ _ _ ix_tup (@pe_def _ _ _ _ _ _ _ _ _ _ D_law_with hr rfl (@pa_cons _ _ _ _ _ (@pv _ 7 _ _ (by rfl) (by first | exact Or.inl rfl | exact Or.inr (Or.inl rfl) | exact Or.inr (Or.inr rfl)) (by decide) (by decide)) (@pa_cons _ _ _ _ _ (@pe_op _ _ _ _ _ _ _ _ op_mod (@pe_op _ _ _ _ _ _ _ _ op_fdiv (@pv _ 5 _ _ (by rfl) (by first | exact Or.inl rfl | exact Or.inr (Or.inl rfl) | exact Or.inr (Or.inr rfl)) (by decide) (by decide)) (@pe_int _ _ _ _)) (@pv _ 8 _ _ (by rfl) (by first | exact Or.inl rfl | exact Or.inr (Or.inl rfl) | exact Or.inr (Or.inr rfl)) (by decide) (by decide))) (@pa_cons _ _ _ _ _ (@pv _ 6 _ _ (by rfl) (by first | exact Or.inl rfl | exact Or.inr (Or.inl rfl) | exact Or.inr (Or.inr rfl)) (by decide) (by decide)) (@pa_cons _ _ _ _ _ (@pv _ 1 _ _ (by rfl) (by first | exact Or.inl rfl | exact Or.inr (Or.inl rfl) | exact Or.inr (Or.inr rfl)) (by decide) (by decide)) (@pa_nil _) (by rfl)) (by rfl)) (by rfl)) (by rfl)) (by decide) (by rfl) (by rfl)) (@pe_int _ _ _ _) (fun _ _ => rfl)) (by rfl) (by first | exact .inl rfl | exact .inr rfl | assumption)) (@pss_one _ _ _ (@ps_for _ _ _ _ _ _ _ _ PassesOwn.never rfl (@pi_list _ _ _ _ (@pe_lst _ _ _ _ (@pa_cons _ _ _ _ _ (@pv _ 12 _ _ (by rfl) (by first | exact Or.inl rfl | exact Or.inr (Or.inl rfl) | exact Or.inr (Or.inr rfl)) (by decide) (by decide)) (@pa_cons _ _ _ _ _ (@pv _ 6 _ _ (by rfl) (by first | exact Or.inl rfl | exact Or.inr (Or.inl rfl) | exact Or.inr (Or.inr rfl)) (by decide) (by decide)) (@pa_cons _ _ _ _ _ (@pe_lst _ _ _ _ (@pa_cons _ _ _ _ _ (@pv _ 7 _ _ (by rfl) (by first | exact Or.inl rfl | exact Or.inr (Or.inl rfl) | exact Or.inr (Or.inr rfl)) (by decide) (by decide)) (@pa_nil _) (by rfl))) (@pa_nil _) (by rfl)) (by rfl)) (by rfl)))) (@pg_name _ _ (13) _ nd rfl (Or.inl rfl) (by first | exact .inl rfl | exact .inr rfl | assumption)) (@pss_one _ _ _ (@ps_if _ _ _ _ _ _ _ _ (@pt_cmpR _ _ _ _ _ _ _ _ op_isnotB (@pe_def _ _ _ _ _ _ _ _ _ _ Dis_expression hr rfl (@pa_cons _ _ _ _ _ (@pv _ 13 _ _ (by rfl) (by first | exact Or.inl rfl | exact Or.inr (Or.inl rfl) | exact Or.inr (Or.inr rfl)) (by decide) (by decide)) (@pa_nil _) (by rfl)) (by decide) (by rfl) (by rfl)) (@pe_bl _ _ _ _) (nomark _)) (@pss_one _ _ _ (@ps_ret _ _ _ _ (@pe_bl _ _ _ _))) (@pss_nil _))) (by intro _; rfl))))))))))) (by intro _; rfl)) (@pss_one _ _ _ (@ps_ret _ _ _ _ (@pe_bl _ _ _ _))))), ?_⟩
  refine ⟨rfl, fun H1 sd s1 hsdn hsd => ?_⟩
  have B2 : (if ((ns.map V.int).length : Int) > 1 then ((ns.map V.int).length : Int) else 1) < (1000000 : Int) := by
    rw [List.length_map]
    split <;> omega
  refine ⟨_, rfl, sc, _, rfl, .inl (s1.seq hS), _, _, rfl, 0, _, 9, rfl, ⟨by decide, by decide, by decide, by decide, ?B1, B2⟩, for_itf_o (fun i σ H' => ∃ (o2 o3 o4 o5 o6 o7 o8 o9 o10 o11 o12 o13 : Option V), σ = [some (.ref sc), some (.ref sd), o2, o3, o4, o5, o6, o7, o8, o9, o10, o11, o12, o13] ∧ Same H1 H') ⟨_, _, _, _, _, _, _, _, _, _, _, _, rfl, Same.refl _⟩ ?T1 ?_⟩
  case B1 =>
    show (-1000000 : Int) ≤ (if ((ns.map V.int).length : Int) > 1 then ((ns.map V.int).length : Int) else 1)
    split <;> omega
  case T1 =>
    rintro i σ H2 D1 go1 hi ⟨o2, o3, o4, o5, o6, o7, o8, o9, o10, o11, o12, o13, rfl, s2⟩
    have s02 := s1.trans s2
    obtain ⟨ms, hms, lms⟩ := cut_map ns (some (0 + (i : Int) * 9)) (some (0 + (i : Int) * 9 + 9))
    refine ⟨_, rfl, _, rfl, _, rfl, _, rfl, _, _, rfl, rfl, _, rfl, sc, _, rfl, s02.seq hS, fun e1 he1 => ⟨z1, fun e2 he2 => ⟨e2, 9, _, rfl, rfl, upd_same, by decide, by decide, by rw [sizeLine_eq]; decide, fun e3 he3 => ?_⟩⟩⟩
    have c1 := same_new he1 (.lst (cutV (ns.map V.int) (some (0 + (i : Int) * 9)) (some (0 + (i : Int) * 9 + 9))))
    have c2 := same_new he2 (.lst [.int 0])
    have c3 := same_new he3 (.lst (List.replicate (9 : Int).toNat [V.int 0]).flatten)
    have f1 := c3 _ _ (c2 _ _ (upd_same (H := H2) (a := e1) (o := .lst (cutV (ns.map V.int) (some (0 + (i : Int) * 9)) (some (0 + (i : Int) * 9 + 9))))))
    refine ⟨e1, e3, _, _, rfl, rfl, f1, upd_same, ?_, fun e4 he4 => ?_⟩
    · rw [hms, List.length_map, sizeLine_eq]
      have : (List.replicate (9 : Int).toNat [V.int 0]).flatten.length = 9 := by decide
      omega
    have c4 := same_new he4 (.lst (cutV (ns.map V.int) (some (0 + (i : Int) * 9)) (some (0 + (i : Int) * 9 + 9)) ++ (List.replicate (9 : Int).toNat [V.int 0]).flatten))
    refine ⟨9, rfl, e4, _, rfl, SqL.of upd_same, fun e5 he5 => ?_⟩
    have c5 := same_new he5 (.lst (cutV (cutV (ns.map V.int) (some (0 + (i : Int) * 9)) (some (0 + (i : Int) * 9 + 9)) ++ (List.replicate (9 : Int).toNat [V.int 0]).flatten) none (some 9)))
    have hcells : ∃ cells : List Int, cutV (cutV (ns.map V.int) (some (0 + (i : Int) * 9)) (some (0 + (i : Int) * 9 + 9)) ++ (List.replicate (9 : Int).toNat [V.int 0]).flatten) none (some 9) = cells.map V.int ∧ cells.length = 9 := by
      refine ⟨(ms ++ List.replicate 9 0).take 9, ?_, by rw [List.length_take, List.length_append, List.length_replicate]; omega⟩
      have e := cut_toA (cutV (ns.map V.int) (some (0 + (i : Int) * 9)) (some (0 + (i : Int) * 9 + 9)) ++ (List.replicate (9 : Int).toNat [V.int 0]).flatten) 9
      rw [List.map_take, List.map_append, ← hms]
      exact e
    obtain ⟨cells, hc, lc⟩ := hcells
    have s5 := c1.trans (c2.trans (c3.trans (c4.trans c5)))
    have f5 := upd_same (H := upd (upd (upd (upd H2 e1 (.lst (cutV (ns.map V.int) (some (0 + (i : Int) * 9)) (some (0 + (i : Int) * 9 + 9))))) e2 (.lst [.int 0])) e3 (.lst (List.replicate (9 : Int).toNat [V.int 0]).flatten)) e4 (.lst (cutV (ns.map V.int) (some (0 + (i : Int) * 9)) (some (0 + (i : Int) * 9 + 9)) ++ (List.replicate (9 : Int).toNat [V.int 0]).flatten))) (a := e5) (o := .lst (cutV (cutV (ns.map V.int) (some (0 + (i : Int) * 9)) (some (0 + (i : Int) * 9 + 9)) ++ (List.replicate (9 : Int).toNat [V.int 0]).flatten) none (some 9)))
    rw [hc] at f5 s5
    rw [hc]
    generalize upd _ e5 _ = H3 at f5 s5 ⊢
    refine ⟨e5, 120, cells, rfl, SqL.of f5, lc, by decide, by decide, fun H4 dA s4 hdA d4 => ?_⟩
    have s24 := s5.trans s4
    refine ⟨_, rfl, dA, _, rfl, d4, fun H5 x s5' d5 x0 x1 => ⟨x, rfl, x0, fun H6 r xs s6 hrn hr6 nms => ?_⟩⟩
    have dAn : H2 dA = none := s5.free hdA
    have s26 : Same H2 H6 := fun g o e => s6 _ _ (s5' g o (ne_of_none e dAn) (s24 _ _ e))
    have d6 := d5.m s6
    have rA : r ≠ dA := fun e => d5.some (by rw [← e]; exact hrn)
    refine ⟨_, rfl, dA, _, rfl, d6, fun H7 y s7 d7 y0 y1 => ?_⟩
    have s27 : Same H2 H7 := fun g o e => s7 g o (ne_of_none e dAn) (s26 _ _ e)
    have r7 := s7 _ _ rA hr6
    refine ⟨_, rfl, dA, _, rfl, d7, fun H8 z s8 d8 z0 z1 => ⟨z, rfl, z0, fun H9 uo o s9 Ro smo bo => ?_⟩⟩
    have s28 : Same H2 H8 := fun g o e => s8 g o (ne_of_none e dAn) (s27 _ _ e)
    have s29 := s28.trans s9
    have r9 := s9 _ _ (s8 _ _ rA r7)
    have d9 := d8.m s9
    obtain ⟨dn, hdn, ldn, bdn⟩ := id d9
    obtain ⟨j0, j1⟩ := mod_lt (a := y) 90 (by decide)
    refine ⟨_, rfl, _, rfl, _, _, rfl, rfl, (by show (0 : Int) < 90; decide), _, rfl, dA, _, rfl, SqL.of hdn, fun k2 hk2 => ?_⟩
    have ek : cutV (dn.map V.int) (some (y % 90)) none = (dn.drop (y % 90).toNat).map V.int := by
      rw [show y % 90 = (((y % 90).toNat : Nat) : Int) by omega, cut_fromA, List.map_drop]
      rfl
    rw [ek]
    have c1 := same_new hk2 (.lst ((dn.drop (y % 90).toNat).map V.int))
    have k2d : Dr (upd H9 k2 (.lst ((dn.drop (y % 90).toNat).map V.int))) k2 (dn.drop (y % 90).toNat).length := ⟨_, upd_same, rfl, fun x hx => bdn x (List.mem_of_mem_drop hx)⟩
    generalize upd H9 k2 (.lst ((dn.drop (y % 90).toNat).map V.int)) = Ha at c1 k2d ⊢
    have s2a := s29.trans c1
    have ra := c1 _ _ r9
    have rk : r ≠ k2 := fun e => by rw [← e, r9] at hk2; cases hk2
    have k2n : H2 k2 = none := s29.free hk2
    obtain ⟨g0, g1⟩ := mod_lt (a := y / 90) 7 (by decide)
    obtain ⟨g, hg, g9⟩ : ∃ g : Nat, 3 + y / 90 % 7 = (g : Int) ∧ g ≤ 9 := ⟨(3 + y / 90 % 7).toNat, by omega, by omega⟩
    refine ⟨_, rfl, _, rfl, _, _, rfl, rfl, ⟨by decide, by decide⟩, _, _, rfl, rfl, (by show (0 : Int) < 7; decide), _, _, rfl, rfl, _, rfl, k2, r, sd, _, xs, g, by show [V.ref k2, V.ref r, V.int (3 + y / 90 % 7), V.ref sd] = _; rw [hg], by omega, k2d, ra, rk, nms, s2a _ _ (s2 _ _ hsd), by omega, fun Hb v d nb sb db Rb xb _ => ?_⟩
    have s2b : Same H2 Hb := fun g o e => sb g o (ne_of_none e k2n) (s2a _ _ e)
    have s9b : Same H9 Hb := fun g o e => sb g o (ne_of_none e hk2) (c1 _ _ e)
    have Rob := Ro.mono s9b
    have smd := ex_small nms xb
    refine ⟨_, rfl, _, rfl, v, d, xs, g + 1, sd, rfl, by omega, Rb, xb, s2b _ _ (s2 _ _ hsd), fun Hc p sc' hp => ?_⟩
    refine ⟨p, _, rfl, SqT.of hp, rfl, _, _, rfl, _, _, rfl, rfl, ?_⟩
    have npos := nodes_pos xb
    have hcnt := ex_count nms xb
    have s2c := s2b.trans sc'
    have Rc := Rb.mono sc'
    have Roc := Rob.mono sc'
    have hdec : decide (exN 8 d ≤ 40) = (decide (((nodesD (g + 1) d).length : Int) ≤ 40) && decide ((deepD (g + 1) d : Int) ≤ 7)) := by
      rw [Bool.eq_iff_iff, Bool.and_eq_true, decide_eq_true_iff, decide_eq_true_iff, decide_eq_true_iff, hcnt]
      omega
    refine ⟨_, rfl, by decide, by decide, for_range_o (lo := 0) (n := 2) (fun i2 σ H' => ∃ (o10 o11 : Option V), σ = [some (.ref sc), some (.ref sd), some (.int (0 + (i : Int) * 9)), some (.ref dA), some (.ref r), some (.int y), some uo, some v, some (.int ((nodesD (g + 1) d).length : Int)), some (.int (deepD (g + 1) d : Int)), o10, o11, o12, o13] ∧ Same Hc H') ⟨_, _, rfl, Same.refl _⟩ ?T2 ?_⟩
    case T2 =>
      rintro i2 σ Hd D2 go2 hi2 ⟨o10, o11, rfl, sD⟩
      refine ⟨_, rfl, v, d, rfl, Rc.mono sD, smd, fun He se => ?_⟩
      refine ⟨_, rfl, _, _, _, _, rfl, .bl _, kit_bool K (.bl true), _, rfl, iteF ⟨_, rfl, _, rfl, _, _, rfl, rfl, _, rfl, ?_⟩⟩
      show if decide (((nodesD (g + 1) d).length : Int) ≤ 40) = true then _ else _
      have fin : ∃ (o10' o11' : Option V), [some (V.ref sc), some (.ref sd), some (.int (0 + (i : Int) * 9)), some (.ref dA), some (.ref r), some (.int y), some uo, some v, some (.int ((nodesD (g + 1) d).length : Int)), some (.int (deepD (g + 1) d : Int)), some (.int (0 + (i2 : Int))), some (.bl (decide (exN 8 d ≤ 40))), o12, o13] = [some (.ref sc), some (.ref sd), some (.int (0 + (i : Int) * 9)), some (.ref dA), some (.ref r), some (.int y), some uo, some v, some (.int ((nodesD (g + 1) d).length : Int)), some (.int (deepD (g + 1) d : Int)), o10', o11', o12, o13] ∧ Same Hc He := ⟨_, _, rfl, sD.trans se⟩
      by_cases h40 : ((nodesD (g + 1) d).length : Int) ≤ 40
      · rw [decide_eq_true h40]
        refine iteT ⟨_, rfl, _, _, rfl, rfl, rfl, _, rfl, ?_⟩
        rw [show (!decide (V.bl (decide (exN 8 d ≤ 40)) = V.bl (decide ((deepD (g + 1) d : Int) ≤ 7)))) = false by rw [hdec, decide_eq_true h40, Bool.true_and, decide_eq_true rfl]; rfl]
        exact iteF (go2 _ _ fin)
      · rw [decide_eq_false h40]
        refine iteF ⟨rfl, _, rfl, ?_⟩
        rw [show (!decide (V.bl (decide (exN 8 d ≤ 40)) = V.bl false)) = false by rw [hdec, decide_eq_false h40, Bool.false_and, decide_eq_true rfl]; rfl]
        exact iteF (go2 _ _ fin)
    rintro σ Hd ⟨o10, o11, rfl, sD⟩
    have cpos : (0 : Int) < ((nodesD (g + 1) d).length : Int) := by omega
    obtain ⟨w0, w1⟩ := mod_lt (a := y / 630) ((nodesD (g + 1) d).length : Int) cpos
    obtain ⟨an, han, anl⟩ : ∃ an : Nat, y / 630 % ((nodesD (g + 1) d).length : Int) = (an : Int) ∧ an < (nodesD (g + 1) d).length := ⟨(y / 630 % ((nodesD (g + 1) d).length : Int)).toNat, by omega, by omega⟩
    have Rd := Rc.mono sD
    have Rod := Roc.mono sD
    have s2d := s2c.trans sD
    refine ⟨_, rfl, _, rfl, _, _, rfl, rfl, ⟨by decide, by decide⟩, _, rfl, _, _, rfl, rfl, cpos, _, rfl, _, rfl, v, uo, Hd, d, o, xs, g + 1, sd, an, by show [v, V.int (y / 630 % ((nodesD (g + 1) d).length : Int)), uo, V.ref sd] = _; rw [han], by omega, Same.refl _, Rd, xb, nms, Rod, smo, bo, s2d _ _ (s2 _ _ hsd), fun He p2 w2 d2 a2 se hp2 R2 sm2 f1 _ => ?_⟩
    have b2 := (f1 anl).2
    have R2e := R2.mono (th_sub se)
    refine ⟨p2, _, 0, w2, rfl, rfl, SqT.of hp2, atI_nat (j := 0) rfl, ?_⟩
    refine ⟨_, rfl, _, rfl, _, rfl, KB.z1, fun l1 hl1 => ⟨z3, fun l2 hl2 => ?_⟩⟩
    have q1 := same_new hl1 (.lst [v])
    have q2 := same_new hl2 (.lst [w2, uo, .ref l1])
    have e1 := q2 _ _ (upd_same (H := He) (a := l1) (o := .lst [v]))
    have e2 : upd (upd He l1 (.lst [v])) l2 (.lst [w2, uo, .ref l1]) l2 = some (.lst [w2, uo, .ref l1]) := upd_same
    have sf := q1.trans q2
    generalize upd (upd He l1 (.lst [v])) l2 (.lst [w2, uo, .ref l1]) = Hf at e1 e2 sf ⊢
    have items : ∀ x ∈ [w2, uo, V.ref l1], ∃ dx : Dv, Rep Hf dx x ∧ dx.small = true ∧ Bad dx := by
      intro x hx
      rcases List.mem_cons.mp hx with rfl | hx
      · exact ⟨d2, R2e.mono sf, sm2, b2⟩
      rcases List.mem_cons.mp hx with rfl | hx
      · exact ⟨o, (Rod.mono se).mono sf, smo, bo⟩
      rw [List.mem_singleton.mp hx]
      refine ⟨.lst [d], ?_, ?_, bad_no rfl⟩
      · rw [Rep]
        exact ⟨l1, _, rfl, e1, reps_one ((Rd.mono se).mono sf)⟩
      · simp only [Dv.small, smalls, smd, Bool.and_self, Bool.true_and]
        rfl
    refine ⟨l2, rfl, ⟨_, SqL.of e2⟩, for_list (xs := [w2, uo, .ref l1]) (fun i3 σ H' => ∃ (o13 : Option V), σ = [some (.ref sc), some (.ref sd), some (.int (0 + (i : Int) * 9)), some (.ref dA), some (.ref r), some (.int y), some uo, some v, some (.int ((nodesD (g + 1) d).length : Int)), some (.int (deepD (g + 1) d : Int)), o10, o11, some w2, o13] ∧ Same Hf H') ⟨_, rfl, Same.refl _⟩ (fun i3 σ H' _ ⟨_, _, sx⟩ => SqL.of (sx _ _ e2)) ?T3 ?_⟩
    case T3 =>
      rintro i3 x σ Hg hx3 ⟨o13, rfl, sg⟩
      obtain ⟨dx, Rx, smx, bx⟩ := items x (List.mem_of_getElem? hx3)
      refine ⟨_, rfl, x, dx, rfl, Rx.mono sg, smx, fun Hh sh => ⟨_, _, rfl, rfl, _, rfl, ?_⟩⟩
      show if ((decide (exN 8 dx ≤ 40)) != false) = true then _ else _
      rw [bad_false bx]
      exact iteF ⟨_, rfl, sg.trans sh⟩
    rintro σ Hg ⟨o13, rfl, sg⟩
    exact go1 _ _ ⟨_, _, _, _, _, _, _, _, _, _, _, _, rfl, s2.trans (s2d.trans (se.trans (sf.trans sg)))⟩
  rintro σ H2 ⟨o2, o3, o4, o5, o6, o7, o8, o9, o10, o11, o12, o13, rfl, s2⟩
  exact q H2
end
end K21
set_option maxHeartbeats 1000000
namespace K21
open PySem L2 KB XB
theorem us0 {p : List Value → Prop} (h : p []) : ∀ us : List Value, us.length = 0 → p us
  | [], _ => h
theorem us1 {p : List Value → Prop} (h : ∀ x0, p [x0]) : ∀ us : List Value, us.length = 1 → p us
  | [x0], _ => h x0
theorem us2 {p : List Value → Prop} (h : ∀ x0 x1, p [x0, x1]) : ∀ us : List Value, us.length = 2 → p us
  | [x0, x1], _ => h x0 x1
theorem us3 {p : List Value → Prop} (h : ∀ x0 x1 x2, p [x0, x1, x2]) : ∀ us : List Value, us.length = 3 → p us
  | [x0, x1, x2], _ => h x0 x1 x2
theorem us4 {p : List Value → Prop} (h : ∀ x0 x1 x2 x3, p [x0, x1, x2, x3]) : ∀ us : List Value, us.length = 4 → p us
  | [x0, x1, x2, x3], _ => h x0 x1 x2 x3
theorem all_mk {l : PySem.W.OpenLaw} {w : World} {K : PySem.W.Frag} {h : Heap} {mg : Str → Option Value} {fa f1 f2 f3 f4 f5 f6 f7 f8 f9 f10 f11 f12 f13 f14 f15 f16 f17 f18 f19 f20 f21 f22 f23 f24 f25 f26 f27 f28 f29 f30 f31 : Addr} (X : K.In h) (G : h.Ns mainGlobals mg) (hfa : mg "law" = some (.ref fa))
    {od1 an1 od2 an2 od3 an3 od4 an4 od5 an5 od6 an6 od7 an7 od8 an8 od9 an9 od10 an10 od11 an11 od12 an12 od13 an13 od14 an14 od15 an15 od16 an16 od17 an17 od18 an18 od19 an19 od20 an20 od21 an21 od22 an22 od23 an23 od24 an24 od25 an25 od26 an26 od27 an27 od28 an28 od29 an29 od30 an30 od31 an31 : Option Addr} {sl1 sl2 sl3 sl4 sl5 sl6 sl7 sl8 sl9 sl10 sl11 sl12 sl13 sl14 sl15 sl16 sl17 sl18 sl19 sl20 sl21 sl22 sl23 sl24 sl25 sl26 sl27 sl28 sl29 sl30 sl31 : Array (Option Value)}
    {oc1 kV1 dc1 pm1 cd1 ct1 oc2 kV2 dc2 pm2 cd2 ct2 oc3 kV3 dc3 pm3 cd3 ct3 oc4 kV4 dc4 pm4 cd4 ct4 oc5 kV5 dc5 pm5 cd5 ct5 oc6 kV6 dc6 pm6 cd6 ct6 oc7 kV7 dc7 pm7 cd7 ct7 oc8 kV8 dc8 pm8 cd8 ct8 oc9 kV9 dc9 pm9 cd9 ct9 oc10 kV10 dc10 pm10 cd10 ct10 oc11 kV11 dc11 pm11 cd11 ct11 oc12 kV12 dc12 pm12 cd12 ct12 oc13 kV13 dc13 pm13 cd13 ct13 oc14 kV14 dc14 pm14 cd14 ct14 oc15 kV15 dc15 pm15 cd15 ct15 oc16 kV16 dc16 pm16 cd16 ct16 oc17 kV17 dc17 pm17 cd17 ct17 oc18 kV18 dc18 pm18 cd18 ct18 oc19 kV19 dc19 pm19 cd19 ct19 oc20 kV20 dc20 pm20 cd20 ct20 oc21 kV21 dc21 pm21 cd21 ct21 oc22 kV22 dc22 pm22 cd22 ct22 oc23 kV23 dc23 pm23 cd23 ct23 oc24 kV24 dc24 pm24 cd24 ct24 oc25 kV25 dc25 pm25 cd25 ct25 oc26 kV26 dc26 pm26 cd26 ct26 oc27 kV27 dc27 pm27 cd27 ct27 oc28 kV28 dc28 pm28 cd28 ct28 oc29 kV29 dc29 pm29 cd29 ct29 oc30 kV30 dc30 pm30 cd30 ct30 oc31 kV31 dc31 pm31 cd31 ct31 : Value}
    (a1 : PySem.W.nsIn K mainGlobals "is_whole" = some (some (.ref f1)))
    (l1 : K.lookup f1 = some ⟨oc1, od1, .func (PySem.W.fnOf "is_whole" "is_whole" (defArgs s_is_whole) (defBody s_is_whole) (defScope s_is_whole) .none kV1 dc1 pm1 an1 cd1 ct1), sl1⟩)
    (c1 : PySem.W.codeIn K cd1 "is_whole" = true) (k1 : PySem.W.keepIn K (.ref f1) = true)
    (a2 : PySem.W.nsIn K mainGlobals "is_name" = some (some (.ref f2)))
    (l2 : K.lookup f2 = some ⟨oc2, od2, .func (PySem.W.fnOf "is_name" "is_name" (defArgs s_is_name) (defBody s_is_name) (defScope s_is_name) .none kV2 dc2 pm2 an2 cd2 ct2), sl2⟩)
    (c2 : PySem.W.codeIn K cd2 "is_name" = true) (k2 : PySem.W.keepIn K (.ref f2) = true)
    (a3 : PySem.W.nsIn K mainGlobals "is_part" = some (some (.ref f3)))
    (l3 : K.lookup f3 = some ⟨oc3, od3, .func (PySem.W.fnOf "is_part" "is_part" (defArgs s_is_part) (defBody s_is_part) (defScope s_is_part) .none kV3 dc3 pm3 an3 cd3 ct3), sl3⟩)
    (c3 : PySem.W.codeIn K cd3 "is_part" = true) (k3 : PySem.W.keepIn K (.ref f3) = true)
    (a4 : PySem.W.nsIn K mainGlobals "are_parts" = some (some (.ref f4)))
    (l4 : K.lookup f4 = some ⟨oc4, od4, .func (PySem.W.fnOf "are_parts" "are_parts" (defArgs s_are_parts) (defBody s_are_parts) (defScope s_are_parts) .none kV4 dc4 pm4 an4 cd4 ct4), sl4⟩)
    (c4 : PySem.W.codeIn K cd4 "are_parts" = true) (k4 : PySem.W.keepIn K (.ref f4) = true)
    (a5 : PySem.W.nsIn K mainGlobals "is_length" = some (some (.ref f5)))
    (l5 : K.lookup f5 = some ⟨oc5, od5, .func (PySem.W.fnOf "is_length" "is_length" (defArgs s_is_length) (defBody s_is_length) (defScope s_is_length) .none kV5 dc5 pm5 an5 cd5 ct5), sl5⟩)
    (c5 : PySem.W.codeIn K cd5 "is_length" = true) (k5 : PySem.W.keepIn K (.ref f5) = true)
    (a6 : PySem.W.nsIn K mainGlobals "is_small_length" = some (some (.ref f6)))
    (l6 : K.lookup f6 = some ⟨oc6, od6, .func (PySem.W.fnOf "is_small_length" "is_small_length" (defArgs s_is_small) (defBody s_is_small) (defScope s_is_small) .none kV6 dc6 pm6 an6 cd6 ct6), sl6⟩)
    (c6 : PySem.W.codeIn K cd6 "is_small_length" = true) (k6 : PySem.W.keepIn K (.ref f6) = true)
    (a7 : PySem.W.nsIn K mainGlobals "has_word" = some (some (.ref f7)))
    (l7 : K.lookup f7 = some ⟨oc7, od7, .func (PySem.W.fnOf "has_word" "has_word" (defArgs s_has_word) (defBody s_has_word) (defScope s_has_word) .none kV7 dc7 pm7 an7 cd7 ct7), sl7⟩)
    (c7 : PySem.W.codeIn K cd7 "has_word" = true) (k7 : PySem.W.keepIn K (.ref f7) = true)
    (a8 : PySem.W.nsIn K mainGlobals "is_point" = some (some (.ref f8)))
    (l8 : K.lookup f8 = some ⟨oc8, od8, .func (PySem.W.fnOf "is_point" "is_point" (defArgs s_is_point) (defBody s_is_point) (defScope s_is_point) .none kV8 dc8 pm8 an8 cd8 ct8), sl8⟩)
    (c8 : PySem.W.codeIn K cd8 "is_point" = true) (k8 : PySem.W.keepIn K (.ref f8) = true)
    (a9 : PySem.W.nsIn K mainGlobals "things_of" = some (some (.ref f9)))
    (l9 : K.lookup f9 = some ⟨oc9, od9, .func (PySem.W.fnOf "things_of" "things_of" (defArgs s_things_of) (defBody s_things_of) (defScope s_things_of) .none kV9 dc9 pm9 an9 cd9 ct9), sl9⟩)
    (c9 : PySem.W.codeIn K cd9 "things_of" = true) (k9 : PySem.W.keepIn K (.ref f9) = true)
    (a10 : PySem.W.nsIn K mainGlobals "is_kind" = some (some (.ref f10)))
    (l10 : K.lookup f10 = some ⟨oc10, od10, .func (PySem.W.fnOf "is_kind" "is_kind" (defArgs s_is_kind) (defBody s_is_kind) (defScope s_is_kind) .none kV10 dc10 pm10 an10 cd10 ct10), sl10⟩)
    (c10 : PySem.W.codeIn K cd10 "is_kind" = true) (k10 : PySem.W.keepIn K (.ref f10) = true)
    (a11 : PySem.W.nsIn K mainGlobals "is_below" = some (some (.ref f11)))
    (l11 : K.lookup f11 = some ⟨oc11, od11, .func (PySem.W.fnOf "is_below" "is_below" (defArgs s_is_below) (defBody s_is_below) (defScope s_is_below) .none kV11 dc11 pm11 an11 cd11 ct11), sl11⟩)
    (c11 : PySem.W.codeIn K cd11 "is_below" = true) (k11 : PySem.W.keepIn K (.ref f11) = true)
    (a12 : PySem.W.nsIn K mainGlobals "is_def_name" = some (some (.ref f12)))
    (l12 : K.lookup f12 = some ⟨oc12, od12, .func (PySem.W.fnOf "is_def_name" "is_def_name" (defArgs s_is_def_name) (defBody s_is_def_name) (defScope s_is_def_name) .none kV12 dc12 pm12 an12 cd12 ct12), sl12⟩)
    (c12 : PySem.W.codeIn K cd12 "is_def_name" = true) (k12 : PySem.W.keepIn K (.ref f12) = true)
    (a13 : PySem.W.nsIn K mainGlobals "is_few" = some (some (.ref f13)))
    (l13 : K.lookup f13 = some ⟨oc13, od13, .func (PySem.W.fnOf "is_few" "is_few" (defArgs s_is_few) (defBody s_is_few) (defScope s_is_few) .none kV13 dc13 pm13 an13 cd13 ct13), sl13⟩)
    (c13 : PySem.W.codeIn K cd13 "is_few" = true) (k13 : PySem.W.keepIn K (.ref f13) = true)
    (a14 : PySem.W.nsIn K mainGlobals "fits" = some (some (.ref f14)))
    (l14 : K.lookup f14 = some ⟨oc14, od14, .func (PySem.W.fnOf "fits" "fits" (defArgs s_fits) (defBody s_fits) (defScope s_fits) .none kV14 dc14 pm14 an14 cd14 ct14), sl14⟩)
    (c14 : PySem.W.codeIn K cd14 "fits" = true) (k14 : PySem.W.keepIn K (.ref f14) = true)
    (a15 : PySem.W.nsIn K mainGlobals "is_node" = some (some (.ref f15)))
    (l15 : K.lookup f15 = some ⟨oc15, od15, .func (PySem.W.fnOf "is_node" "is_node" (defArgs s_is_node) (defBody s_is_node) (defScope s_is_node) .none kV15 dc15 pm15 an15 cd15 ct15), sl15⟩)
    (c15 : PySem.W.codeIn K cd15 "is_node" = true) (k15 : PySem.W.keepIn K (.ref f15) = true)
    (a16 : PySem.W.nsIn K mainGlobals "parts_of" = some (some (.ref f16)))
    (l16 : K.lookup f16 = some ⟨oc16, od16, .func (PySem.W.fnOf "parts_of" "parts_of" (defArgs s_parts_of) (defBody s_parts_of) (defScope s_parts_of) .none kV16 dc16 pm16 an16 cd16 ct16), sl16⟩)
    (c16 : PySem.W.codeIn K cd16 "parts_of" = true) (k16 : PySem.W.keepIn K (.ref f16) = true)
    (a17 : PySem.W.nsIn K mainGlobals "is_expression" = some (some (.ref f17)))
    (l17 : K.lookup f17 = some ⟨oc17, od17, .func (PySem.W.fnOf "is_expression" "is_expression" (defArgs s_is_expr) (defBody s_is_expr) (defScope s_is_expr) .none kV17 dc17 pm17 an17 cd17 ct17), sl17⟩)
    (c17 : PySem.W.codeIn K cd17 "is_expression" = true) (k17 : PySem.W.keepIn K (.ref f17) = true)
    (a18 : PySem.W.nsIn K mainGlobals "_law_draws" = some (some (.ref f18)))
    (l18 : K.lookup f18 = some ⟨oc18, od18, .func (PySem.W.fnOf "_law_draws" "_law_draws" (defArgs s_draws) (defBody s_draws) (defScope s_draws) .none kV18 dc18 pm18 an18 cd18 ct18), sl18⟩)
    (c18 : PySem.W.codeIn K cd18 "_law_draws" = true) (k18 : PySem.W.keepIn K (.ref f18) = true)
    (a19 : PySem.W.nsIn K mainGlobals "_law_next" = some (some (.ref f19)))
    (l19 : K.lookup f19 = some ⟨oc19, od19, .func (PySem.W.fnOf "_law_next" "_law_next" (defArgs s_next) (defBody s_next) (defScope s_next) .none kV19 dc19 pm19 an19 cd19 ct19), sl19⟩)
    (c19 : PySem.W.codeIn K cd19 "_law_next" = true) (k19 : PySem.W.keepIn K (.ref f19) = true)
    (a20 : PySem.W.nsIn K mainGlobals "_law_names" = some (some (.ref f20)))
    (l20 : K.lookup f20 = some ⟨oc20, od20, .func (PySem.W.fnOf "_law_names" "_law_names" (defArgs s_names) (defBody s_names) (defScope s_names) .none kV20 dc20 pm20 an20 cd20 ct20), sl20⟩)
    (c20 : PySem.W.codeIn K cd20 "_law_names" = true) (k20 : PySem.W.keepIn K (.ref f20) = true)
    (a21 : PySem.W.nsIn K mainGlobals "_law_times" = some (some (.ref f21)))
    (l21 : K.lookup f21 = some ⟨oc21, od21, .func (PySem.W.fnOf "_law_times" "_law_times" (defArgs s_times) (defBody s_times) (defScope s_times) .none kV21 dc21 pm21 an21 cd21 ct21), sl21⟩)
    (c21 : PySem.W.codeIn K cd21 "_law_times" = true) (k21 : PySem.W.keepIn K (.ref f21) = true)
    (a22 : PySem.W.nsIn K mainGlobals "_law_length" = some (some (.ref f22)))
    (l22 : K.lookup f22 = some ⟨oc22, od22, .func (PySem.W.fnOf "_law_length" "_law_length" (defArgs s_length) (defBody s_length) (defScope s_length) .none kV22 dc22 pm22 an22 cd22 ct22), sl22⟩)
    (c22 : PySem.W.codeIn K cd22 "_law_length" = true) (k22 : PySem.W.keepIn K (.ref f22) = true)
    (a23 : PySem.W.nsIn K mainGlobals "_law_kind" = some (some (.ref f23)))
    (l23 : K.lookup f23 = some ⟨oc23, od23, .func (PySem.W.fnOf "_law_kind" "_law_kind" (defArgs s_kind) (defBody s_kind) (defScope s_kind) .none kV23 dc23 pm23 an23 cd23 ct23), sl23⟩)
    (c23 : PySem.W.codeIn K cd23 "_law_kind" = true) (k23 : PySem.W.keepIn K (.ref f23) = true)
    (a24 : PySem.W.nsIn K mainGlobals "_law_shapes" = some (some (.ref f24)))
    (l24 : K.lookup f24 = some ⟨oc24, od24, .func (PySem.W.fnOf "_law_shapes" "_law_shapes" (defArgs s_shapes) (defBody s_shapes) (defScope s_shapes) .none kV24 dc24 pm24 an24 cd24 ct24), sl24⟩)
    (c24 : PySem.W.codeIn K cd24 "_law_shapes" = true) (k24 : PySem.W.keepIn K (.ref f24) = true)
    (a25 : PySem.W.nsIn K mainGlobals "_law_plain" = some (some (.ref f25)))
    (l25 : K.lookup f25 = some ⟨oc25, od25, .func (PySem.W.fnOf "_law_plain" "_law_plain" (defArgs s_plain) (defBody s_plain) (defScope s_plain) .none kV25 dc25 pm25 an25 cd25 ct25), sl25⟩)
    (c25 : PySem.W.codeIn K cd25 "_law_plain" = true) (k25 : PySem.W.keepIn K (.ref f25) = true)
    (a26 : PySem.W.nsIn K mainGlobals "_law_any" = some (some (.ref f26)))
    (l26 : K.lookup f26 = some ⟨oc26, od26, .func (PySem.W.fnOf "_law_any" "_law_any" (defArgs s_any) (defBody s_any) (defScope s_any) .none kV26 dc26 pm26 an26 cd26 ct26), sl26⟩)
    (c26 : PySem.W.codeIn K cd26 "_law_any" = true) (k26 : PySem.W.keepIn K (.ref f26) = true)
    (a27 : PySem.W.nsIn K mainGlobals "_law_parts" = some (some (.ref f27)))
    (l27 : K.lookup f27 = some ⟨oc27, od27, .func (PySem.W.fnOf "_law_parts" "_law_parts" (defArgs s_lparts) (defBody s_lparts) (defScope s_lparts) .none kV27 dc27 pm27 an27 cd27 ct27), sl27⟩)
    (c27 : PySem.W.codeIn K cd27 "_law_parts" = true) (k27 : PySem.W.keepIn K (.ref f27) = true)
    (a28 : PySem.W.nsIn K mainGlobals "_law_measure" = some (some (.ref f28)))
    (l28 : K.lookup f28 = some ⟨oc28, od28, .func (PySem.W.fnOf "_law_measure" "_law_measure" (defArgs s_measure) (defBody s_measure) (defScope s_measure) .none kV28 dc28 pm28 an28 cd28 ct28), sl28⟩)
    (c28 : PySem.W.codeIn K cd28 "_law_measure" = true) (k28 : PySem.W.keepIn K (.ref f28) = true)
    (a29 : PySem.W.nsIn K mainGlobals "_law_with" = some (some (.ref f29)))
    (l29 : K.lookup f29 = some ⟨oc29, od29, .func (PySem.W.fnOf "_law_with" "_law_with" (defArgs s_with) (defBody s_with) (defScope s_with) .none kV29 dc29 pm29 an29 cd29 ct29), sl29⟩)
    (c29 : PySem.W.codeIn K cd29 "_law_with" = true) (k29 : PySem.W.keepIn K (.ref f29) = true)
    (a30 : PySem.W.nsIn K mainGlobals "_law_odd" = some (some (.ref f30)))
    (l30 : K.lookup f30 = some ⟨oc30, od30, .func (PySem.W.fnOf "_law_odd" "_law_odd" (defArgs s_odd) (defBody s_odd) (defScope s_odd) .none kV30 dc30 pm30 an30 cd30 ct30), sl30⟩)
    (c30 : PySem.W.codeIn K cd30 "_law_odd" = true) (k30 : PySem.W.keepIn K (.ref f30) = true)
    (a31 : PySem.W.nsIn K mainGlobals "law" = some (some (.ref f31)))
    (l31 : K.lookup f31 = some ⟨oc31, od31, .func (PySem.W.fnOf "law" "law" (defArgs s_law) (defBody s_law) (defScope s_law) .none kV31 dc31 pm31 an31 cd31 ct31), sl31⟩)
    (c31 : PySem.W.codeIn K cd31 "law" = true) (k31 : PySem.W.keepIn K (.ref f31) = true)
    (z1 : PySem.W.nsIn K mainGlobals "len" = some none)
    (z2 : PySem.W.nsIn K mainGlobals "isinstance" = some none)
    (z3 : PySem.W.nsIn K mainGlobals "int" = some none)
    (z4 : PySem.W.nsIn K mainGlobals "bool" = some none)
    (z5 : PySem.W.nsIn K mainGlobals "str" = some none)
    (z6 : PySem.W.nsIn K mainGlobals "tuple" = some none)
    (z7 : PySem.W.nsIn K mainGlobals "list" = some none)
    (z8 : PySem.W.nsIn K mainGlobals "all" = some none)
    (z9 : PySem.W.nsIn K mainGlobals "zip" = some none)
    (z10 : PySem.W.nsIn K mainGlobals "range" = some none)
    (z11 : PySem.W.nsIn K mainGlobals "sorted" = some none)
    (z12 : PySem.W.nsIn K mainGlobals "max" = some none)
    {tg0 tg1 tg2 tg3 tg4 tg5 tg6 : Tok}
    (zg0 : PySem.W.nsIn K mainGlobals "LONGEST_NAME" = some (some (.int 8 tg0)))
    (zg1 : PySem.W.nsIn K mainGlobals "GREATEST_SIZE" = some (some (.int 12 tg1)))
    (zg2 : PySem.W.nsIn K mainGlobals "GREATEST_NUMBER" = some (some (.int 99 tg2)))
    (zg3 : PySem.W.nsIn K mainGlobals "WHOLE_BOUND" = some (some (.int 1000000000000 tg3)))
    (zg4 : PySem.W.nsIn K mainGlobals "MOST_NODES" = some (some (.int 40 tg4)))
    (zg5 : PySem.W.nsIn K mainGlobals "MOST_ABOVE" = some (some (.int 7 tg5)))
    (zg6 : PySem.W.nsIn K mainGlobals "MOST_THINGS" = some (some (.int 4 tg6)))
    {gR : Addr} {odR : Option Addr} {nR : Nat} {slR : Array (Option Value)} {tr0 tr1 tr2 tr3 tr4 : Tok}
    (zR : PySem.W.nsIn K mainGlobals "RECKONS" = some (some (.ref gR)))
    (lR : K.lookup gR = some ⟨.type "tuple", odR, .seq #[.str "plus" tr0, .str "minus" tr1, .str "times" tr2, .str "less" tr3, .str "same" tr4] nR, slR⟩)
    {gS : Addr}
    (zS : PySem.W.nsIn K mainGlobals "SHAPES" = some (some (.ref gS)))
    (sS : XB.Shp l.prog w K gS)
    :
    ∃ fd : FuncData, (∀ (s : Shared) (v : Value), BindsTo s fd ⟨[v], []⟩ [("_law_script", v)]) ∧ ∀ base : Heap, K.In base → base.Ns mainGlobals mg → FnOk l.prog w K mg base CX0 18 fa fd ["_law_script"] (spLaw K) := by
  have e := hfa.symm.trans (PySem.W.mg_of X G a31)
  cases e
  have T : Txt K mg := ⟨PySem.W.mg_none_of X G z1, PySem.W.mg_none_of X G z2, PySem.W.mg_none_of X G z3, PySem.W.mg_none_of X G z4, PySem.W.mg_none_of X G z5, PySem.W.mg_none_of X G z6, PySem.W.mg_none_of X G z7, PySem.W.mg_none_of X G z8, PySem.W.mg_none_of X G z9, PySem.W.mg_none_of X G z10, PySem.W.mg_none_of X G z11, PySem.W.mg_none_of X G z12, ⟨tg0, PySem.W.mg_of X G zg0⟩, ⟨tg1, PySem.W.mg_of X G zg1⟩, ⟨tg2, PySem.W.mg_of X G zg2⟩, ⟨tg3, PySem.W.mg_of X G zg3⟩, ⟨tg4, PySem.W.mg_of X G zg4⟩, ⟨tg5, PySem.W.mg_of X G zg5⟩, ⟨tg6, PySem.W.mg_of X G zg6⟩⟩
  have F1 := fun_mk (st := s_is_whole) l1 c1 k1
  have b1 := F1.binds (ps := ["thing"]) fun _ _ _ _ _ _ => us1 fun _ => rfl
  have F2 := fun_mk (st := s_is_name) l2 c2 k2
  have b2 := F2.binds (ps := ["thing"]) fun _ _ _ _ _ _ => us1 fun _ => rfl
  have F3 := fun_mk (st := s_is_part) l3 c3 k3
  have b3 := F3.binds (ps := ["thing"]) fun _ _ _ _ _ _ => us1 fun _ => rfl
  have F4 := fun_mk (st := s_are_parts) l4 c4 k4
  have b4 := F4.binds (ps := ["thing"]) fun _ _ _ _ _ _ => us1 fun _ => rfl
  have F5 := fun_mk (st := s_is_length) l5 c5 k5
  have b5 := F5.binds (ps := ["thing"]) fun _ _ _ _ _ _ => us1 fun _ => rfl
  have F6 := fun_mk (st := s_is_small) l6 c6 k6
  have b6 := F6.binds (ps := ["thing"]) fun _ _ _ _ _ _ => us1 fun _ => rfl
  have F7 := fun_mk (st := s_has_word) l7 c7 k7
  have b7 := F7.binds (ps := ["thing"]) fun _ _ _ _ _ _ => us1 fun _ => rfl
  have F8 := fun_mk (st := s_is_point) l8 c8 k8
  have b8 := F8.binds (ps := ["thing"]) fun _ _ _ _ _ _ => us1 fun _ => rfl
  have F9 := fun_mk (st := s_things_of) l9 c9 k9
  have b9 := F9.binds (ps := ["point"]) fun _ _ _ _ _ _ => us1 fun _ => rfl
  have F10 := fun_mk (st := s_is_kind) l10 c10 k10
  have b10 := F10.binds (ps := ["thing"]) fun _ _ _ _ _ _ => us1 fun _ => rfl
  have F11 := fun_mk (st := s_is_below) l11 c11 k11
  have b11 := F11.binds (ps := ["thing", "bound"]) fun _ _ _ _ _ _ => us2 fun _ _ => rfl
  have F12 := fun_mk (st := s_is_def_name) l12 c12 k12
  have b12 := F12.binds (ps := ["thing"]) fun _ _ _ _ _ _ => us1 fun _ => rfl
  have F13 := fun_mk (st := s_is_few) l13 c13 k13
  have b13 := F13.binds (ps := ["thing", "least"]) fun _ _ _ _ _ _ => us2 fun _ _ => rfl
  have F14 := fun_mk (st := s_fits) l14 c14 k14
  have b14 := F14.binds (ps := ["sort", "thing"]) fun _ _ _ _ _ _ => us2 fun _ _ => rfl
  have F15 := fun_mk (st := s_is_node) l15 c15 k15
  have b15 := F15.binds (ps := ["thing"]) fun _ _ _ _ _ _ => us1 fun _ => rfl
  have F16 := fun_mk (st := s_parts_of) l16 c16 k16
  have b16 := F16.binds (ps := ["node"]) fun _ _ _ _ _ _ => us1 fun _ => rfl
  have F17 := fun_mk (st := s_is_expr) l17 c17 k17
  have b17 := F17.binds (ps := ["thing"]) fun _ _ _ _ _ _ => us1 fun _ => rfl
  have F18 := fun_mk (st := s_draws) l18 c18 k18
  have b18 := F18.binds (ps := ["_law_cells", "_law_many"]) fun _ _ _ _ _ _ => us2 fun _ _ => rfl
  have F19 := fun_mk (st := s_next) l19 c19 k19
  have b19 := F19.binds (ps := ["_law_draws_here"]) fun _ _ _ _ _ _ => us1 fun _ => rfl
  have F20 := fun_mk (st := s_names) l20 c20 k20
  have b20 := F20.binds (ps := ["_law_cell"]) fun _ _ _ _ _ _ => us1 fun _ => rfl
  have F21 := fun_mk (st := s_times) l21 c21 k21
  have b21 := F21.binds (ps := ["_law_way", "_law_cell"]) fun _ _ _ _ _ _ => us2 fun _ _ => rfl
  have F22 := fun_mk (st := s_length) l22 c22 k22
  have b22 := F22.binds (ps := ["_law_draws_here", "_law_names_here"]) fun _ _ _ _ _ _ => us2 fun _ _ => rfl
  have F23 := fun_mk (st := s_kind) l23 c23 k23
  have b23 := F23.binds (ps := ["_law_draws_here", "_law_names_here", "_law_room"]) fun _ _ _ _ _ _ => us3 fun _ _ _ => rfl
  have F24 := fun_mk (st := s_shapes) l24 c24 k24
  have b24 := F24.binds (ps := []) fun _ _ _ _ _ _ => us0 rfl
  have F25 := fun_mk (st := s_plain) l25 c25 k25
  have b25 := F25.binds (ps := ["_law_sign", "_law_draws_here", "_law_names_here"]) fun _ _ _ _ _ _ => us3 fun _ _ _ => rfl
  have F26 := fun_mk (st := s_any) l26 c26 k26
  have b26 := F26.binds (ps := ["_law_draws_here", "_law_names_here", "_law_room", "_law_shapes_here"]) fun _ _ _ _ _ _ => us4 fun _ _ _ _ => rfl
  have F27 := fun_mk (st := s_lparts) l27 c27 k27
  have b27 := F27.binds (ps := ["_law_one", "_law_shapes_here"]) fun _ _ _ _ _ _ => us2 fun _ _ => rfl
  have F28 := fun_mk (st := s_measure) l28 c28 k28
  have b28 := F28.binds (ps := ["_law_one", "_law_shapes_here"]) fun _ _ _ _ _ _ => us2 fun _ _ => rfl
  have F29 := fun_mk (st := s_with) l29 c29 k29
  have b29 := F29.binds (ps := ["_law_one", "_law_at", "_law_odd_here", "_law_shapes_here"]) fun _ _ _ _ _ _ => us4 fun _ _ _ _ => rfl
  have F30 := fun_mk (st := s_odd) l30 c30 k30
  have b30 := F30.binds (ps := ["_law_cell"]) fun _ _ _ _ _ _ => us1 fun _ => rfl
  have F31 := fun_mk (st := s_law) l31 c31 k31
  refine ⟨PySem.W.fnOf "law" "law" (defArgs s_law) (defBody s_law) (defScope s_law) .none kV31 dc31 pm31 an31 cd31 ct31, fun s v => .of_eq rfl, fun base _ _ => ?_⟩
  have hRK : ∀ H, SqT K H gR (reck.map V.str) := fun H => .inr ⟨_, _, _, lR, rfl, rfl, (by show 5 ≤ sizeLine; rw [sizeLine_eq]; decide), .cons ⟨_, rfl⟩ (.cons ⟨_, rfl⟩ (.cons ⟨_, rfl⟩ (.cons ⟨_, rfl⟩ (.cons ⟨_, rfl⟩ .nil))))⟩
  have D1 : Def l.prog w K mg base 1 "is_whole" ["thing"] (spD wholeD) := ⟨f1, _, ok_is_whole F1 T, b1, k1, PySem.W.mg_of X G a1⟩
  have D2 : Def l.prog w K mg base 1 "is_name" ["thing"] (spS nameD) := ⟨f2, _, ok_is_name F2 T, b2, k2, PySem.W.mg_of X G a2⟩
  have D3 : Def l.prog w K mg base 2 "is_part" ["thing"] (spS partD) := ⟨f3, _, ok_is_part (k := 1) F3 T (D1.up (by decide)) (D2.up (by decide)), b3, k3, PySem.W.mg_of X G a3⟩
  have D4 : Def l.prog w K mg base 3 "are_parts" ["thing"] (spS arepD) := ⟨f4, _, ok_are_parts (k := 2) F4 T (D3.up (by decide)), b4, k4, PySem.W.mg_of X G a4⟩
  have D5 : Def l.prog w K mg base 4 "is_length" ["thing"] (spS islD) := ⟨f5, _, ok_is_length (k := 3) F5 T (D1.up (by decide)) (D4.up (by decide)), b5, k5, PySem.W.mg_of X G a5⟩
  have D6 : Def l.prog w K mg base 5 "is_small_length" ["thing"] (spS slD) := ⟨f6, _, ok_is_small (k := 4) F6 T (D5.up (by decide)), b6, k6, PySem.W.mg_of X G a6⟩
  have D7 : Def l.prog w K mg base 1 "has_word" ["thing"] (spD wordD) := ⟨f7, _, ok_has_word F7 T, b7, k7, PySem.W.mg_of X G a7⟩
  have D8 : Def l.prog w K mg base 6 "is_point" ["thing"] (spS pointD) := ⟨f8, _, ok_is_point (k := 5) F8 T (D7.up (by decide)) (D6.up (by decide)), b8, k8, PySem.W.mg_of X G a8⟩
  have D9 : Def l.prog w K mg base 1 "things_of" ["point"] spThD := ⟨f9, _, ok_thingsD F9 T, b9, k9, PySem.W.mg_of X G a9⟩
  have D10 : Def l.prog w K mg base 7 "is_kind" ["thing"] spIsKind := ⟨f10, _, ok_is_kind (k := 6) F10 T (D8.up (by decide)) (D9.up (by decide)), b10, k10, PySem.W.mg_of X G a10⟩
  have D11 : Def l.prog w K mg base 2 "is_below" ["thing", "bound"] spBelow := ⟨f11, _, ok_is_below (k := 1) F11 T (D1.up (by decide)), b11, k11, PySem.W.mg_of X G a11⟩
  have D13 : Def l.prog w K mg base 1 "is_few" ["thing", "least"] spFew := ⟨f13, _, ok_is_few F13 T, b13, k13, PySem.W.mg_of X G a13⟩
  have D12 : Def l.prog w K mg base 2 "is_def_name" ["thing"] (spS defD) := ⟨f12, _, ok_is_def_name (k := 1) F12 T sS (PySem.W.mg_of X G zS) (PySem.W.mg_of X G zR) hRK (D2.up (by decide)), b12, k12, PySem.W.mg_of X G a12⟩
  have D14 : Def l.prog w K mg base 8 "fits" ["sort", "thing"] spFits := ⟨f14, _, ok_fits (k := 7) F14 T (PySem.W.mg_of X G zR) hRK (D11.up (by decide)) (D2.up (by decide)) (D6.up (by decide)) (D10.up (by decide)) (D12.up (by decide)) (D13.up (by decide)), b14, k14, PySem.W.mg_of X G a14⟩
  have D15 : Def l.prog w K mg base 9 "is_node" ["thing"] (spS nodeD) := ⟨f15, _, ok_is_node (k := 8) F15 T sS (PySem.W.mg_of X G zS) (D7.up (by decide)) (D14.up (by decide)), b15, k15, PySem.W.mg_of X G a15⟩
  have D16 : Def l.prog w K mg base 1 "parts_of" ["node"] spParts := ⟨f16, _, ok_parts_of F16 T sS (PySem.W.mg_of X G zS), b16, k16, PySem.W.mg_of X G a16⟩
  have D17 : Def l.prog w K mg base 10 "is_expression" ["thing"] spIsExpr := ⟨f17, _, ok_is_expr (k := 9) F17 T (D15.up (by decide)) (D16.up (by decide)), b17, k17, PySem.W.mg_of X G a17⟩
  have D18 : Def l.prog w K mg base 1 "_law_draws" ["_law_cells", "_law_many"] (spDraws K) := ⟨f18, _, ok_draws F18 T, b18, k18, PySem.W.mg_of X G a18⟩
  have D19 : Def l.prog w K mg base 1 "_law_next" ["_law_draws_here"] spNext := ⟨f19, _, ok_next F19 T, b19, k19, PySem.W.mg_of X G a19⟩
  have D20 : Def l.prog w K mg base 1 "_law_names" ["_law_cell"] spNames := ⟨f20, _, ok_names F20 T, b20, k20, PySem.W.mg_of X G a20⟩
  have D21 : Def l.prog w K mg base 1 "_law_times" ["_law_way", "_law_cell"] spTimes := ⟨f21, _, ok_times F21 T, b21, k21, PySem.W.mg_of X G a21⟩
  have D22 : Def l.prog w K mg base 2 "_law_length" ["_law_draws_here", "_law_names_here"] spLen := ⟨f22, _, ok_length (k0 := 1) F22 T (D19.up (by decide)) (D21.up (by decide)), b22, k22, PySem.W.mg_of X G a22⟩
  have D24 : Def l.prog w K mg base 1 "_law_shapes" [] spShapes := ⟨f24, _, ok_shapes F24 T, b24, k24, PySem.W.mg_of X G a24⟩
  have ch23 : ∀ n, FnOk l.prog w K mg base CX0 (2 + n) f23 _ ["_law_draws_here", "_law_names_here", "_law_room"] (spKind n) := fun n => by
    induction n with
    | zero => exact ⟨fun vs H Q E h => (by obtain ⟨a, r, n, xs, g, rfl, _⟩ := h; rfl), fun A outer s H args us vs Q E hr he hb hv h => (by obtain ⟨a, r, n, xs, g, _, h0, _⟩ := h; omega)⟩
    | succ n ih => exact ok_kind (k0 := 2 + n) F23 T (D19.up (by omega)) (D22.up (by omega)) ⟨f23, _, ih, b23, k23, PySem.W.mg_of X G a23⟩
  have D23 : Def l.prog w K mg base 5 "_law_kind" ["_law_draws_here", "_law_names_here", "_law_room"] (spKind 3) := ⟨f23, _, ch23 3, b23, k23, PySem.W.mg_of X G a23⟩
  have D25 : Def l.prog w K mg base 6 "_law_plain" ["_law_sign", "_law_draws_here", "_law_names_here"] spPlain := ⟨f25, _, ok_plain (k0 := 5) F25 T (D19.up (by decide)) (D22.up (by decide)) (D23.up (by decide)), b25, k25, PySem.W.mg_of X G a25⟩
  have ch26 : ∀ n, FnOk l.prog w K mg base CX0 (6 + n) f26 _ ["_law_draws_here", "_law_names_here", "_law_room", "_law_shapes_here"] (spAny n) := fun n => by
    induction n with
    | zero => exact ⟨fun vs H Q E h => (by obtain ⟨a, r, sd, n, xs, g, rfl, _⟩ := h; rfl), fun A outer s H args us vs Q E hr he hb hv h => (by obtain ⟨a, r, sd, n, xs, g, _, h0, _⟩ := h; omega)⟩
    | succ n ih => exact ok_any (k0 := 6 + n) F26 T (D19.up (by omega)) (D25.up (by omega)) ⟨f26, _, ih, b26, k26, PySem.W.mg_of X G a26⟩
  have D26 : Def l.prog w K mg base 17 "_law_any" ["_law_draws_here", "_law_names_here", "_law_room", "_law_shapes_here"] (spAny 11) := ⟨f26, _, ch26 11, b26, k26, PySem.W.mg_of X G a26⟩
  have D27 : Def l.prog w K mg base 1 "_law_parts" ["_law_one", "_law_shapes_here"] spLParts := ⟨f27, _, ok_lparts F27 T, b27, k27, PySem.W.mg_of X G a27⟩
  have ch28 : ∀ n, FnOk l.prog w K mg base CX0 (1 + n) f28 _ ["_law_one", "_law_shapes_here"] (spMeas n) := fun n => by
    induction n with
    | zero => exact ⟨fun vs H Q E h => (by obtain ⟨v, d, xs, n, sd, rfl, _⟩ := h; rfl), fun A outer s H args us vs Q E hr he hb hv h => (by obtain ⟨v, d, xs, n, sd, _, h0, _⟩ := h; omega)⟩
    | succ n ih => exact ok_measure (k0 := 1 + n) F28 T (D27.up (by omega)) ⟨f28, _, ih, b28, k28, PySem.W.mg_of X G a28⟩
  have D28 : Def l.prog w K mg base 13 "_law_measure" ["_law_one", "_law_shapes_here"] (spMeas 12) := ⟨f28, _, ch28 12, b28, k28, PySem.W.mg_of X G a28⟩
  have ch29 : ∀ n, FnOk l.prog w K mg base CX0 (0 + n) f29 _ ["_law_one", "_law_at", "_law_odd_here", "_law_shapes_here"] (spWith n) := fun n => by
    induction n with
    | zero => exact ⟨fun vs H Q E h => (by obtain ⟨v, u, Gh, d, o, xs, n, sd, at0, rfl, _⟩ := h; rfl), fun A outer s H args us vs Q E hr he hb hv h => (by obtain ⟨v, u, Gh, d, o, xs, n, sd, at0, _, h0, _⟩ := h; omega)⟩
    | succ n ih => exact ok_with (k0 := 0 + n) F29 T ⟨f29, _, ih, b29, k29, PySem.W.mg_of X G a29⟩
  have D29 : Def l.prog w K mg base 12 "_law_with" ["_law_one", "_law_at", "_law_odd_here", "_law_shapes_here"] (spWith 12) := ⟨f29, _, ch29 12, b29, k29, PySem.W.mg_of X G a29⟩
  have D30 : Def l.prog w K mg base 2 "_law_odd" ["_law_cell"] spOdd := ⟨f30, _, ok_odd (k0 := 1) F30 T (D24.up (by decide)), b30, k30, PySem.W.mg_of X G a30⟩
  exact ok_law (k0 := 17) F31 T (D24.up (by decide)) (D18.up (by decide)) (D19.up (by decide)) (D20.up (by decide)) (D30.up (by decide)) (D26.up (by decide)) (D28.up (by decide)) (D29.up (by decide)) (D17.up (by decide))
theorem walk {l : PySem.W.OpenLaw} {q : Program} {loose : List Str} {XP : (Str → Option Value) → Heap → Prop} {YP : World → Heap → Prop} {d : DefRec} {K : Params → PySem.W.Frag} (hn : l.most = some 63) (hdf : d.params.defaults = [])
    (hY : ∀ (w : World) (h : Heap), YP w h → (K w.params).In h)
    (F : ∀ (w : World) (mg : Str → Option Value) (fa : Addr) (h : Heap), (K w.params).In h → h.Ns mainGlobals mg → mg d.name = some (.ref fa) →
      ∃ fd : FuncData, (∀ (s : Shared) (u : Value), BindsTo s fd ⟨[u], []⟩ [("_law_script", u)]) ∧ ∀ base : Heap, (K w.params).In base → base.Ns mainGlobals mg → FnOk l.prog w (K w.params) mg base CX0 18 fa fd ["_law_script"] (spLaw (K w.params))) :
    PySem.W.WalkO q loose XP YP l.row.toRowW d [] (fun f vs => PySem.call f vs) :=
  L2.walk_of (n := 63) (k := 18) (x := "_law_script") (CX := fun _ => CX0) (sp := fun w => spLaw (K w.params)) hn (by decide) hdf ⟨rfl, by decide, by decide⟩ hY F (fun _ _ a ns hl _ hS => ⟨a, ns, rfl, hS, hl, fun _ => rfl⟩) fun _ _ _ _ _ z => z
end K21
def PySem.W.Fast.tw9931751270319839500 : Nat := 0
def PySem.W.Fast.tw10825851177333561868 : Nat := 0
def PySem.W.Fast.tw1909029464468394993 : Nat := 0
def PySem.W.Fast.tw12335041116139112412 : Nat := 0
def PySem.W.Fast.tw11725464644726924382 : Nat := 0
def PySem.W.Fast.tw9947610683535840496 : Nat := 0
def PySem.W.Fast.tw15581596385033139182 : Nat := 0
def PySem.W.Fast.tw7210757394078590673 : Nat := 0
open PySem PySem.W PyProof.Rows
set_option maxRecDepth 100000 in
set_option maxHeartbeats 0 in
theorem PySem.Challenge.cw_indexwise_k21_what_is_an_expression_holds : PySem.Challenge.rw_indexwise_k21_what_is_an_expression.Holds := by
  w_on; o_law; k_head; (case hw => w_witness2)
  k_fill
  refine K21.walk (l := PySem.Challenge.rw_indexwise_k21_what_is_an_expression) rfl rfl (fun w h Y => PySem.W.kIn_of Y) ?F
  case F =>
    intro w mg fa h KX G hmg
    refine' K21.all_mk KX G hmg ?a1 ?l1 ?c1 ?k1 ?a2 ?l2 ?c2 ?k2 ?a3 ?l3 ?c3 ?k3 ?a4 ?l4 ?c4 ?k4 ?a5 ?l5 ?c5 ?k5 ?a6 ?l6 ?c6 ?k6 ?a7 ?l7 ?c7 ?k7 ?a8 ?l8 ?c8 ?k8 ?a9 ?l9 ?c9 ?k9 ?a10 ?l10 ?c10 ?k10 ?a11 ?l11 ?c11 ?k11 ?a12 ?l12 ?c12 ?k12 ?a13 ?l13 ?c13 ?k13 ?a14 ?l14 ?c14 ?k14 ?a15 ?l15 ?c15 ?k15 ?a16 ?l16 ?c16 ?k16 ?a17 ?l17 ?c17 ?k17 ?a18 ?l18 ?c18 ?k18 ?a19 ?l19 ?c19 ?k19 ?a20 ?l20 ?c20 ?k20 ?a21 ?l21 ?c21 ?k21 ?a22 ?l22 ?c22 ?k22 ?a23 ?l23 ?c23 ?k23 ?a24 ?l24 ?c24 ?k24 ?a25 ?l25 ?c25 ?k25 ?a26 ?l26 ?c26 ?k26 ?a27 ?l27 ?c27 ?k27 ?a28 ?l28 ?c28 ?k28 ?a29 ?l29 ?c29 ?k29 ?a30 ?l30 ?c30 ?k30 ?a31 ?l31 ?c31 ?k31 ?z1 ?z2 ?z3 ?z4 ?z5 ?z6 ?z7 ?z8 ?z9 ?z10 ?z11 ?z12 ?zg0 ?zg1 ?zg2 ?zg3 ?zg4 ?zg5 ?zg6 ?zR ?lR ?zS ?sS
    (case a1 => k_is); (case l1 => k_is); (case c1 => k_is); (case k1 => k_is)
    (case a2 => k_is); (case l2 => k_is); (case c2 => k_is); (case k2 => k_is)
    (case a3 => k_is); (case l3 => k_is); (case c3 => k_is); (case k3 => k_is)
    (case a4 => k_is); (case l4 => k_is); (case c4 => k_is); (case k4 => k_is)
    (case a5 => k_is); (case l5 => k_is); (case c5 => k_is); (case k5 => k_is)
    (case a6 => k_is); (case l6 => k_is); (case c6 => k_is); (case k6 => k_is)
    (case a7 => k_is); (case l7 => k_is); (case c7 => k_is); (case k7 => k_is)
    (case a8 => k_is); (case l8 => k_is); (case c8 => k_is); (case k8 => k_is)
    (case a9 => k_is); (case l9 => k_is); (case c9 => k_is); (case k9 => k_is)
    (case a10 => k_is); (case l10 => k_is); (case c10 => k_is); (case k10 => k_is)
    (case a11 => k_is); (case l11 => k_is); (case c11 => k_is); (case k11 => k_is)
    (case a12 => k_is); (case l12 => k_is); (case c12 => k_is); (case k12 => k_is)
    (case a13 => k_is); (case l13 => k_is); (case c13 => k_is); (case k13 => k_is)
    (case a14 => k_is); (case l14 => k_is); (case c14 => k_is); (case k14 => k_is)
    (case a15 => k_is); (case l15 => k_is); (case c15 => k_is); (case k15 => k_is)
    (case a16 => k_is); (case l16 => k_is); (case c16 => k_is); (case k16 => k_is)
    (case a17 => k_is); (case l17 => k_is); (case c17 => k_is); (case k17 => k_is)
    (case a18 => k_is); (case l18 => k_is); (case c18 => k_is); (case k18 => k_is)
    (case a19 => k_is); (case l19 => k_is); (case c19 => k_is); (case k19 => k_is)
    (case a20 => k_is); (case l20 => k_is); (case c20 => k_is); (case k20 => k_is)
    (case a21 => k_is); (case l21 => k_is); (case c21 => k_is); (case k21 => k_is)
    (case a22 => k_is); (case l22 => k_is); (case c22 => k_is); (case k22 => k_is)
    (case a23 => k_is); (case l23 => k_is); (case c23 => k_is); (case k23 => k_is)
    (case a24 => k_is); (case l24 => k_is); (case c24 => k_is); (case k24 => k_is)
    (case a25 => k_is); (case l25 => k_is); (case c25 => k_is); (case k25 => k_is)
    (case a26 => k_is); (case l26 => k_is); (case c26 => k_is); (case k26 => k_is)
    (case a27 => k_is); (case l27 => k_is); (case c27 => k_is); (case k27 => k_is)
    (case a28 => k_is); (case l28 => k_is); (case c28 => k_is); (case k28 => k_is)
    (case a29 => k_is); (case l29 => k_is); (case c29 => k_is); (case k29 => k_is)
    (case a30 => k_is); (case l30 => k_is); (case c30 => k_is); (case k30 => k_is)
    (case a31 => k_is); (case l31 => k_is); (case c31 => k_is); (case k31 => k_is)
    (case z1 => k_is); (case z2 => k_is); (case z3 => k_is); (case z4 => k_is); (case z5 => k_is); (case z6 => k_is); (case z7 => k_is); (case z8 => k_is); (case z9 => k_is); (case z10 => k_is); (case z11 => k_is); (case z12 => k_is); (case zg0 => k_is); (case zg1 => k_is); (case zg2 => k_is); (case zg3 => k_is); (case zg4 => k_is); (case zg5 => k_is); (case zg6 => k_is); (case zR => k_is); (case lR => k_is); (case zS => k_is)
    case sS =>
      refine' XB.shp_mk ?xShl ?xSlo ?xShe ?xSht
      (case xShl => k_is)
      (case xSlo => decide)
      (case xShe => repeat (first | exact XB.Ents.nil | refine XB.Ents.cons ?_))
      case xSht =>
        refine' (XB.TupsK.cons ?xSa1 ?xSb1 (XB.TupsK.cons ?xSa2 ?xSb2 (XB.TupsK.cons ?xSa3 ?xSb3 (XB.TupsK.cons ?xSa4 ?xSb4 (XB.TupsK.cons ?xSa5 ?xSb5 (XB.TupsK.cons ?xSa6 ?xSb6 (XB.TupsK.cons ?xSa7 ?xSb7 (XB.TupsK.cons ?xSa8 ?xSb8 (XB.TupsK.cons ?xSa9 ?xSb9 (XB.TupsK.cons ?xSa10 ?xSb10 (XB.TupsK.cons ?xSa11 ?xSb11 (XB.TupsK.cons ?xSa12 ?xSb12 (XB.TupsK.cons ?xSa13 ?xSb13 (XB.TupsK.cons ?xSa14 ?xSb14 (XB.TupsK.cons ?xSa15 ?xSb15 (XB.TupsK.cons ?xSa16 ?xSb16 (XB.TupsK.cons ?xSa17 ?xSb17 (XB.TupsK.cons ?xSa18 ?xSb18 (XB.TupsK.cons ?xSa19 ?xSb19 (XB.TupsK.cons ?xSa20 ?xSb20 (XB.TupsK.cons ?xSa21 ?xSb21 (XB.TupsK.cons ?xSa22 ?xSb22 (XB.TupsK.cons ?xSa23 ?xSb23 (XB.TupsK.cons ?xSa24 ?xSb24 (XB.TupsK.cons ?xSa25 ?xSb25 (XB.TupsK.cons ?xSa26 ?xSb26 (XB.TupsK.cons ?xSa27 ?xSb27 XB.TupsK.nil)))))))))))))))))))))))))))
        (case xSa1 => k_is); (case xSb1 => repeat (first | exact XB.AreS.nil | refine XB.AreS.cons ?_))
        (case xSa2 => k_is); (case xSb2 => repeat (first | exact XB.AreS.nil | refine XB.AreS.cons ?_))
        (case xSa3 => k_is); (case xSb3 => repeat (first | exact XB.AreS.nil | refine XB.AreS.cons ?_))
        (case xSa4 => k_is); (case xSb4 => repeat (first | exact XB.AreS.nil | refine XB.AreS.cons ?_))
        (case xSa5 => k_is); (case xSb5 => repeat (first | exact XB.AreS.nil | refine XB.AreS.cons ?_))
        (case xSa6 => k_is); (case xSb6 => repeat (first | exact XB.AreS.nil | refine XB.AreS.cons ?_))
        (case xSa7 => k_is); (case xSb7 => repeat (first | exact XB.AreS.nil | refine XB.AreS.cons ?_))
        (case xSa8 => k_is); (case xSb8 => repeat (first | exact XB.AreS.nil | refine XB.AreS.cons ?_))
        (case xSa9 => k_is); (case xSb9 => repeat (first | exact XB.AreS.nil | refine XB.AreS.cons ?_))
        (case xSa10 => k_is); (case xSb10 => repeat (first | exact XB.AreS.nil | refine XB.AreS.cons ?_))
        (case xSa11 => k_is); (case xSb11 => repeat (first | exact XB.AreS.nil | refine XB.AreS.cons ?_))
        (case xSa12 => k_is); (case xSb12 => repeat (first | exact XB.AreS.nil | refine XB.AreS.cons ?_))
        (case xSa13 => k_is); (case xSb13 => repeat (first | exact XB.AreS.nil | refine XB.AreS.cons ?_))
        (case xSa14 => k_is); (case xSb14 => repeat (first | exact XB.AreS.nil | refine XB.AreS.cons ?_))
        (case xSa15 => k_is); (case xSb15 => repeat (first | exact XB.AreS.nil | refine XB.AreS.cons ?_))
        (case xSa16 => k_is); (case xSb16 => repeat (first | exact XB.AreS.nil | refine XB.AreS.cons ?_))
        (case xSa17 => k_is); (case xSb17 => repeat (first | exact XB.AreS.nil | refine XB.AreS.cons ?_))
        (case xSa18 => k_is); (case xSb18 => repeat (first | exact XB.AreS.nil | refine XB.AreS.cons ?_))
        (case xSa19 => k_is); (case xSb19 => repeat (first | exact XB.AreS.nil | refine XB.AreS.cons ?_))
        (case xSa20 => k_is); (case xSb20 => repeat (first | exact XB.AreS.nil | refine XB.AreS.cons ?_))
        (case xSa21 => k_is); (case xSb21 => repeat (first | exact XB.AreS.nil | refine XB.AreS.cons ?_))
        (case xSa22 => k_is); (case xSb22 => repeat (first | exact XB.AreS.nil | refine XB.AreS.cons ?_))
        (case xSa23 => k_is); (case xSb23 => repeat (first | exact XB.AreS.nil | refine XB.AreS.cons ?_))
        (case xSa24 => k_is); (case xSb24 => repeat (first | exact XB.AreS.nil | refine XB.AreS.cons ?_))
        (case xSa25 => k_is); (case xSb25 => repeat (first | exact XB.AreS.nil | refine XB.AreS.cons ?_))
        (case xSa26 => k_is); (case xSb26 => repeat (first | exact XB.AreS.nil | refine XB.AreS.cons ?_))
        (case xSa27 => k_is); (case xSb27 => repeat (first | exact XB.AreS.nil | refine XB.AreS.cons ?_))
