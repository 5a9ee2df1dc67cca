import PyProof.Rows.All
import Wide.All
import OpenK.AllK
import Wide.FinOn
import Lean
import PyProof.EqAt
import PyProof.EqKinds
import PyProof.TupleCall
import PySem.Challenge.RW_indexwise_k16_whole_weights_count
set_option Elab.async false
set_option linter.all false
set_option maxRecDepth 100000
set_option maxHeartbeats 3200000
local macro_rules | `(tactic| trivial) => `(tactic| first | exact .inl rfl | exact .inr (.inl rfl) | exact .inr (.inr rfl) | exact .inr rfl | assumption)
namespace L2
open PySem PySem.Spec PyProof.Rows
abbrev Key:=Sum Int Str
def jJ:Key->Value->Bool
 | .inl k,v=>Value.isInt k v
 | .inr x,v=>Value.isStrOf x v
def vt (w:World):Key->Int
 | .inl k=>hashInt k
 | .inr x=>hashStr w x
theorem bm:∀ {k:Key} {v:Value},jJ k v=true->(∃ i t,k=Sum.inl i/\v=Value.int i t)\/(∃ x t,k=Sum.inr x/\v=Value.str x t)
 | .inl i,v,h=>by
  obtain ⟨t,e⟩:=Value.isInt_shape (k:=i) (v:=v) h
  exact .inl ⟨i,t,rfl,e⟩
 | .inr x,v,h=>by
  obtain ⟨t,e⟩:=Value.isStrOf_shape (x:=x) (v:=v) h
  exact .inr ⟨x,t,rfl,e⟩
theorem gv (i:Int) (t:Tok):jJ (.inl i) (.int i t)=true:=by simp [jJ,Value.isInt]
theorem gK (x:Str) (t:Tok):jJ (.inr x) (.str x t)=true:=by simp [jJ,Value.isStrOf]
theorem wt (a b:Int):decide ((Sum.inl a:Key)=Sum.inl b)=(a == b):=by
 by_cases e:a=b
 ·subst e; simp
 ·have h:¬ (Sum.inl a:Key)=Sum.inl b:=fun q=>e (Sum.inl.inj q)
  rw [decide_eq_false h]
  exact (beq_eq_false_iff_ne.mpr e).symm
theorem xa (a b:Str):decide ((Sum.inr a:Key)=Sum.inr b)=decide (a=b):=by
 by_cases e:a=b
 ·subst e; simp
 ·have h:¬ (Sum.inr a:Key)=Sum.inr b:=fun q=>e (Sum.inr.inj q)
  rw [decide_eq_false h,decide_eq_false e]
theorem wz (a:Int) (b:Str):decide ((Sum.inl a:Key)=Sum.inr b)=false:=decide_eq_false (fun q=>nomatch q)
theorem wf (a:Str) (b:Int):decide ((Sum.inr a:Key)=Sum.inl b)=false:=decide_eq_false (fun q=>nomatch q)
def aF (prog:Program) (w:World):PySem.KeyKind prog w Key where
 is:=jJ
 hash:=vt w
 inj:=fun v a b ha hb=>by
  rcases bm ha with ⟨i,t,rfl,rfl⟩ | ⟨x,t,rfl,rfl⟩
  ·rcases bm hb with ⟨j,u,rfl,e⟩ | ⟨y,u,rfl,e⟩
   ·injection e with e1 _; rw [e1]
   ·exact nomatch e
  ·rcases bm hb with ⟨j,u,rfl,e⟩ | ⟨y,u,rfl,e⟩
   ·exact nomatch e
   ·injection e with e1 _; rw [e1]
 byValue:=fun k v h=>by
   rcases bm h with ⟨i,t,rfl,rfl⟩ | ⟨x,t,rfl,rfl⟩ <;> rfl
 pyHash:=fun hv h=>by
  rcases bm hv with ⟨i,t,rfl,rfl⟩ | ⟨x,t,rfl,rfl⟩
  ·exact wpAny_pyHash_int h
  ·exact wpAny_pyHash_str h
 eqBool:=fun hu hv h=>by
  rcases bm hu with ⟨i,t,rfl,rfl⟩ | ⟨x,t,rfl,rfl⟩
  ·rcases bm hv with ⟨j,u,rfl,rfl⟩ | ⟨y,u,rfl,rfl⟩
   ·rw [wt] at h; exact wpAny_eqBool_int h
   ·rw [wz] at h; exact SeqAt.EqAt.int_str i t y u _ _ _ _ h
  ·rcases bm hv with ⟨j,u,rfl,rfl⟩ | ⟨y,u,rfl,rfl⟩
   ·rw [wf] at h; exact SeqAt.EqAt.str_int x t j u _ _ _ _ h
   ·rw [xa] at h; exact wpAny_eqBool_str h
 «strs»:=fun k x t v h=>by
  rcases bm h with ⟨i,u,rfl,e⟩ | ⟨y,u,rfl,e⟩
  ·exact nomatch e
  ·injection e with e1 _
   subst e1
   cases v <;> rfl
theorem lZ (prog:Program) (w:World) (i:Int) (t:Tok):(aF prog w).is (.inl i) (.int i t)=true:=gv i t
theorem mM (prog:Program) (w:World) (x:Str) (t:Tok):(aF prog w).is (.inr x) (.str x t)=true:=gK x t
inductive V where
 | non | bl (b:Bool) | int (i:Int) | str (x:Str) | byt (b:Array UInt8) | flt (b:UInt64) | ref (a:Addr) | ty (n:String)
 deriving DecidableEq
def aV:V->Value->Prop
 | .non,u=>u=Value.none
 | .bl b,u=>u=Value.bool b
 | .int i,u=>∃ t,u=Value.int i t
 | .str x,u=>∃ t,u=Value.str x t
 | .byt b,u=>∃ t,u=Value.bytes b t
 | .flt b,u=>∃ t,u=Value.float b t
 | .ref a,u=>u=Value.ref a
 | .ty n,u=>u=Value.type n
abbrev aP:List V->List Value->Prop:=Paired aV
theorem aP.length {xs:List V} {us:List Value} (r:aP xs us):xs.length=us.length:=Paired.length r
theorem aP.get:∀ {xs:List V} {us:List Value} {i:Nat} {x:V},aP xs us->xs[i]?=some x->∃ u,us[i]?=some u/\aV x u
 | _,_,_,_,.nil,e=>by simp at e
 | _,_,0,_,.cons r _,e=>by simp at e; subst e; exact ⟨_,rfl,r⟩
 | _,_,i + 1,x,.cons _ t,e=>by
  obtain ⟨u,h1,h2⟩:=aP.get (i:=i) (x:=x) t (by simpa using e)
  exact ⟨u,by simpa using h1,h2⟩
theorem aP.set {x:V} {u:Value} (r:aV x u):∀ {xs:List V} {us:List Value} (i:Nat),aP xs us->aP (xs.set i x) (us.set i u)
 | _,_,_,.nil=>.nil
 | _,_,0,.cons _ t=>.cons r t
 | _,_,i + 1,.cons q t=>.cons q (aP.set r i t)
theorem aP.append:∀ {xs ys:List V} {us ws:List Value},aP xs us->aP ys ws->aP (xs ++ ys) (us ++ ws)
 | _,_,_,_,.nil,s=>s
 | _,_,_,_,.cons r t,s=>.cons r (aP.append t s)
def ls:Option V->Option Value->Prop
 | some v,some u=>aV v u
 | none,none=>True
 | _,_=>False
def KV {κ:Type}:List (κ×V)->List (κ×Value)->Prop:=Paired fun (p:κ×V) (q:κ×Value)=>p.1=q.1/\aV p.2 q.2
def kV:Key->V
 | .inl i=>.int i
 | .inr x=>.str x
inductive HO where
 /-- a list -/
 | lst (xs:List V)
 /-- a tuple (never changes) -/
 | tup (xs:List V)
 /-- a dict whose keys are ints and texts; one whose keys are tuples of ints and texts (the empty one is both) -/
 | dK (kvs:List (Key×V)) | dT (kvs:List (List Key×V))
 /-- a set of ints: its members,its size -/
 | set (S:Int->Bool) (n:Nat)
 /-- an instance of the class at C,its dict at dx,its attributes -/
 | ins (C dx:Addr) (fs:List (Str×V))
 /-- the dict of the instance at x -/
 | own (x:Addr)
 /-- the dict of an exception -/
 | xd (fs:List (Str×V))
 /-- a bound method,f of x -/
 | met (f x:Addr)
 /-- a range object lo,lo + 1,.. below hi -/
 | rng (lo hi:Int)
 /-- a thing that is known to the object (the script; a dict while a loop walks it): read,never written while it is so -/
 | frz (o:Obj) (u:HO)
 /-- a code object's table -/
 | tbl (ps:Array Value)
 /-- any other thing,by what is true of its one object (a def of one's own: SetO a S n:=HO.ext fun h=>..) -/
 | ext (φ:Heap->Prop)
abbrev Hp:=Addr->Option HO
def upd (H:Hp) (a:Addr) (o:HO):Hp:=fun b=>if b=a then some o else H b
theorem af {H:Hp} {a:Addr} {o:HO}:upd H a o a=some o:=by unfold upd; rw [if_pos rfl]
theorem aI {H:Hp} {a b:Addr} {o:HO} (h:b≠a):upd H a o b=H b:=by unfold upd; rw [if_neg h]
theorem lg {H:Hp} {a:Addr} {o u:HO}:upd (upd H a o) a u=upd H a u:=by
 funext b; unfold upd; split <;> rfl
theorem vP {H:Hp} {a b:Addr} {o u:HO} (h:H a=some o) (h':H b=some u) (d:o≠u):a≠b:=by
 intro e; subst e; rw [h] at h'; exact d (Option.some.inj h')
theorem am {H:Hp} {a b:Addr} {o:HO} (h:H a=some o) (h':H b=none):a≠b:=by
 intro e; subst e; rw [h] at h'; cases h'
def NoD (h:Heap) (a:Addr):Prop:=∃ o,h.get? a=some o/\o.dict=none
theorem NoD.new (h:Heap) {o:Obj} (e:o.dict=none) (f:o.isFreed=false:=by rfl):NoD (h.push o) h.objs.size:=⟨_,Heap.get?_push_size _ f,e⟩
section
variable (P:Program) (w:World)
def aU (H:Hp) (h:Heap) (a:Addr):HO->Prop
 | .lst xs=>xs.length<=sizeLine/\∃ (its:List Value) (n:Nat),aP xs its/\h.get? a=some { cls:=.type "list",data:=.seq its.toArray n }
 | .tup xs=>xs.length<=sizeLine/\∃ its:List Value,aP xs its/\IsTup h a its.toArray/\NoD h a
 | .dK kvs=>kvs.length<=sizeLine/\(a == sysModules)=false/\∃ vs,KV kvs vs/\h.DictOf (aF P w) a vs
 | .dT kvs=>kvs.length<=sizeLine/\(a == sysModules)=false/\∃ xs:List (List Key×Addr×Value),
   Paired (fun (p:List Key×V) (q:List Key×Addr×Value)=>p.1=q.1/\H q.2.1=some (.tup (p.1.map kV))/\aV p.2 q.2.2) kvs xs /\
   ∃ o es ep,h.get? a=some o/\o.ExactDict/\o.data=.dict es ep/\es.toList=xs.map (entryOfKey (tupleKind (aF P w)))/\(xs.map (·.1)).Nodup
 | .set S n=>h.SetOf (intKind P w) a S n
 | .ins C dx fs=>H dx=some (.own a)/\fs.length<=1000/\dx≠a/\h.get? a=some (PySem.W.instObj C dx) /\
   ∃ mA,h.Ns1 dx mA/\(∀ f,ls (fs.lookup f) (mA f))/\PySem.Within mA (fs.map (·.1))
 | .own _=>∃ o,h.get? a=some o
 | .xd fs=>∃ mA,h.Ns1 a mA/\∀ f,ls (fs.lookup f) (mA f)
 | .rng lo hi=>∃ t u v,h.get? a=some { cls:=.type "range",data:=.fields #[.int lo t,.int hi u,.int 1 v] }
 | .frz o u=>h.get? a=some o/\aU H h a u
 | .tbl ps=>h.get? a=some { cls:=.none,data:=.fields ps }
 | .met f x=>h.get? a=some (PySem.W.methodObj (.ref f) (.ref x))
 | .ext φ=>φ h/\(∃ o,h.get? a=some o)/\∀ h1 h2:Heap,φ h1->(∀ o,h1.get? a=some o->h2.get? a=some o)->φ h2
def HOk (H:Hp) (h:Heap):Prop:=∀ a o,H a=some o->aU P w H h a o
end
section
variable {P:Program} {w:World} {H H':Hp} {h h':Heap} {a:Addr} {o:HO}
theorem aU.lt (x:aU P w H h a o):a < h.objs.size:=by
 cases o with
 | lst xs=>obtain ⟨_,_,_,_,e⟩:=x; exact Heap.lt_size e
 | tup xs=>obtain ⟨_,_,_,p⟩:=x; exact p.1.lt
 | dK kvs=>obtain ⟨_,_,_,_,o,_,_,e,_⟩:=x; exact Heap.lt_size e
 | dT kvs=>obtain ⟨_,_,_,_,o,_,_,e,_⟩:=x; exact Heap.lt_size e
 | set S n=>obtain ⟨o,_,_,_,e,_⟩:=x; exact Heap.lt_size e
 | ins C dx fs=>obtain ⟨_,_,_,e,_⟩:=x; exact Heap.lt_size e
 | own y=>obtain ⟨_,e⟩:=x; exact Heap.lt_size e
 | xd fs=>obtain ⟨_,⟨_,_,_,e,_⟩,_⟩:=x; exact Heap.lt_size e
 | rng lo hi=>obtain ⟨_,_,_,e⟩:=x; exact Heap.lt_size e
 | frz ob u=>obtain ⟨e,_⟩:=x; exact Heap.lt_size e
 | tbl ps=>exact Heap.lt_size (show h.get? a=some _ from x)
 | met f y=>exact Heap.lt_size (show h.get? a=some _ from x)
 | ext φ=>obtain ⟨_,⟨_,e⟩,_⟩:=x; exact Heap.lt_size e
theorem Paired.mapP {α β:Type} {F G:α->β->Prop}:∀ {l₁:List α} {l₂:List β},Paired F l₁ l₂->(∀ a b,F a b->G a b)->Paired G l₁ l₂
 | _,_,.nil,_=>.nil
 | _,_,.cons r t,f=>.cons (f _ _ r) (Paired.mapP t f)
theorem aU.stay (x:aU P w H h a o) (k:∀ b u,(b=a\/H b=some (.own a))->h.get? b=some u->h'.get? b=some u)
  (ho:∀ b,H b=some (.own a)->H' b=some (.own a)) (ht:∀ b xs,H b=some (.tup xs)->H' b=some (.tup xs)):aU P w H' h' a o:=by
 induction o with
 | lst xs=>obtain ⟨z,its,n,r,e⟩:=x; exact ⟨z,its,n,r,k _ _ (.inl rfl) e⟩
 | tup xs=>obtain ⟨z,its,r,⟨ob,e,c⟩,od,e2,c2⟩:=x; exact ⟨z,its,r,⟨ob,k _ _ (.inl rfl) e,c⟩,od,k _ _ (.inl rfl) e2,c2⟩
 | dK kvs=>obtain ⟨z,y,vs,r,ob,es,ep,e,c⟩:=x; exact ⟨z,y,vs,r,ob,es,ep,k _ _ (.inl rfl) e,c⟩
 | dT kvs=>
  obtain ⟨z,y,xs,r,ob,es,ep,e,c⟩:=x
  exact ⟨z,y,xs,Paired.mapP r fun p q z=>⟨z.1,ht _ _ z.2.1,z.2.2⟩,ob,es,ep,k _ _ (.inl rfl) e,c⟩
 | set S n=>obtain ⟨ob,es,ep,t,e,c⟩:=x; exact ⟨ob,es,ep,t,k _ _ (.inl rfl) e,c⟩
 | ins C dx fs=>
  obtain ⟨d,z,ne,e,mA,⟨od,es,ep,e2,c⟩,r⟩:=x
  exact ⟨ho _ d,z,ne,k _ _ (.inl rfl) e,mA,⟨od,es,ep,k _ _ (.inr d) e2,c⟩,r⟩
 | own y=>obtain ⟨ob,e⟩:=x; exact ⟨ob,k _ _ (.inl rfl) e⟩
 | xd fs=>obtain ⟨mA,⟨od,es,ep,e,c⟩,r⟩:=x; exact ⟨mA,⟨od,es,ep,k _ _ (.inl rfl) e,c⟩,r⟩
 | rng lo hi=>obtain ⟨t,u,v,e⟩:=x; exact ⟨t,u,v,k _ _ (.inl rfl) e⟩
 | frz ob u ih=>obtain ⟨e,q⟩:=x; exact ⟨k _ _ (.inl rfl) e,ih q⟩
 | tbl ps=>
  have e:h.get? a=some { cls:=.none,data:=.fields ps }:=x
  show h'.get? a=some { cls:=.none,data:=.fields ps }
  exact k a _ (.inl rfl) e
 | met f y=>
  have e:h.get? a=some (PySem.W.methodObj (.ref f) (.ref y)):=x
  show h'.get? a=some (PySem.W.methodObj (.ref f) (.ref y))
  exact k a _ (.inl rfl) e
 | ext φ=>obtain ⟨p,⟨o,e⟩,st⟩:=x; exact ⟨st _ _ p fun o q=>k _ _ (.inl rfl) q,⟨o,k _ _ (.inl rfl) e⟩,st⟩
theorem HOk.lt (x:HOk P w H h) (e:H a=some o):a < h.objs.size:=(x a o e).lt
theorem HOk.fresh (x:HOk P w H h) (e:h.objs.size<=a):H a=none:=by
 cases q:H a with
 | none=>rfl
 | some u=>exact absurd (Nat.lt_of_lt_of_le (x.lt q) e) (Nat.lt_irrefl _)
theorem HOk.kept (x:HOk P w H h) (k:∀ b u,h.get? b=some u->h'.get? b=some u):HOk P w H h':=fun a o e=>
 (x a o e).stay (fun b u _ q=>k b u q) (fun _ q=>q) fun _ _ q=>q
theorem HOk.laid (x:HOk P w H h) (k:∀ b u,h.get? b=some u->h'.get? b=some u) (hp:h.objs.size<=a) (new:aU P w (upd H a o) h' a o):HOk P w (upd H a o) h':=fun b u e=>by
 have hn:=x.fresh hp
 by_cases hb:b=a
 ·subst hb; rw [af] at e; cases e; exact new
 ·rw [aI hb] at e
  exact (x b u e).stay (fun c v _ q=>k c v q) (fun c q=>by rw [aI (am q hn)]; exact q) fun c xs q=>by rw [aI (am q hn)]; exact q
end
def Rd (H:Hp) (a:Addr) (u:HO):Prop:=H a=some u\/∃ o,H a=some (.frz o u)
theorem Rd.ok {P:Program} {w:World} {H:Hp} {h:Heap} {a:Addr} {u:HO} (r:Rd H a u) (x:HOk P w H h):aU P w H h a u:=by
 rcases r with r | ⟨o,r⟩
 ·exact x a u r
 ·obtain ⟨_,q⟩:=x a _ r
  exact q
def Mut:Option HO->Prop
 | some (.lst _)=>True
 | some (.dK _)=>True
 | some (.dT _)=>True
 | some (.set _ _)=>True
 | some (.ins _ _ _)=>True
 | some (.ext _)=>True
 | _=>False
section
variable {P:Program} {w:World} {H:Hp} {h h':Heap} {x e:Addr} {o':HO}
theorem HOk.write (ok:HOk P w H h) (mu:Mut (H x)) (he:e=x\/H e=some (.own x)) (k:∀ b u,b≠e->h.get? b=some u->h'.get? b=some u) (heo:∃ u,h'.get? e=some u)
  (new:aU P w (upd H x o') h' x o'):HOk P w (upd H x o') h':=fun b u q=>by
 have nown:∀ c y,H c=some (.own y)->c≠x:=fun c y r z=>by subst z; rw [r] at mu; exact mu
 have ntup:∀ c xs,H c=some (.tup xs)->c≠x:=fun c xs r z=>by subst z; rw [r] at mu; exact mu
 by_cases hb:b=x
 ·subst hb; rw [af] at q; cases q; exact new
 ·rw [aI hb] at q
  by_cases hbe:b=e
  ·have q':H b=some (.own x):=by
    rcases he with z | z
    ·exact absurd (hbe.trans z) hb
    ·rw [hbe]; exact z
   rw [q] at q'; cases q'
   obtain ⟨v,hv⟩:=heo
   exact ⟨v,by rw [hbe]; exact hv⟩
  ·refine (ok b u q).stay (fun c v hc r=>k c v ?_ r) (fun c r=>by rw [aI (nown c b r)]; exact r) fun c xs r=>by rw [aI (ntup c xs r)]; exact r
   rcases hc with rfl | hc
   ·exact hbe
   ·rintro rfl
    rcases he with z | z
    ·exact nown c b hc z
    ·rw [hc] at z; cases z; exact hb rfl
end
structure Un (fs ex:List Addr) (H H':Hp) (h h':Heap):Prop where
 keep:∀ b o,h.get? b=some o->H b=none->b∉fs->b∉ex->h'.get? b=some o
 slot:∀ b o,h.get? b=some o->H b=none->b∈fs->b∉ex->∃ sl,h'.get? b=some { o with slots:=sl }
 free:∀ b o,h.get? b=some o->H b=none->b∉ex->H' b=none
 there:∀ b o,h.get? b=some o->b∉ex->∃ o',h'.get? b=some o'
 tups:∀ b xs,H b=some (.tup xs)->H' b=some (.tup xs)
 frzs:∀ b o u,H b=some (.frz o u)->H' b=some (.frz o u)
 tbls:∀ b ps,H b=some (.tbl ps)->∃ more,H' b=some (.tbl (ps ++ more))
section
variable {fs fs' ex ex':List Addr} {H H1 H2:Hp} {h h1 h2 h':Heap} {a x e:Addr} {o:HO}
theorem Un.any (u:Un fs ex H H1 h h1) {b:Addr} {ob:Obj} (q:h.get? b=some ob) (n:H b=none) (hx:b∉ex):∃ sl,h1.get? b=some { ob with slots:=sl }:=by
 by_cases hb:b∈fs
 ·exact u.slot b ob q n hb hx
 ·exact ⟨ob.slots,u.keep b ob q n hb hx⟩
theorem Un.kept (k:∀ b u,h.get? b=some u->h'.get? b=some u):Un fs ex H H h h':=
 ⟨fun b ob q _ _ _=>k b ob q,fun b ob q _ _ _=>⟨ob.slots,k b ob q⟩,fun _ _ _ n _=>n,fun b ob q _=>⟨ob,k b ob q⟩,fun _ _ q=>q,fun _ _ _ q=>q,fun _ ps q=>⟨#[],by rw [q]; simp⟩⟩
theorem Un.refl:Un fs ex H H h h:=Un.kept fun _ _ q=>q
theorem Un.laid (k:∀ b u,h.get? b=some u->h'.get? b=some u) (hp:h.objs.size<=a) (hn:H a=none):Un fs ex H (upd H a o) h h' where
 keep:=fun b u q _ _ _=>k b u q
 slot:=fun b u q _ _ _=>⟨u.slots,k b u q⟩
 free:=fun b u q n _=>by rw [aI (Nat.ne_of_lt (Nat.lt_of_lt_of_le (Heap.lt_size q) hp))]; exact n
 there:=fun b u q _=>⟨u,k b u q⟩
 tups:=fun b xs q=>by rw [aI (am q hn)]; exact q
 frzs:=fun b u xs q=>by rw [aI (am q hn)]; exact q
 tbls:=fun b ps q=>⟨#[],by rw [aI (am q hn),q]; simp⟩
theorem Un.write (mu:Mut (H x)) (he:e=x\/H e=some (.own x)) (k:∀ b u,b≠e->h.get? b=some u->h'.get? b=some u) (heo:∃ u,h'.get? e=some u):Un fs ex H (upd H x o) h h':=by
 have hx:∀ b,H b=none->b≠x:=fun b n z=>by subst z; rw [n] at mu; exact mu
 have hb:∀ b,H b=none->b≠e:=fun b n z=>by
  subst z
  rcases he with r | r
  ·exact hx b n r
  ·rw [n] at r; cases r
 have hm:∀ b u,H b=some u->¬ Mut (some u)->b≠x:=fun b u q nm z=>by subst z; rw [q] at mu; exact nm mu
 refine ⟨fun b u q n _ _=>k b u (hb b n) q,fun b u q n _ _=>⟨u.slots,k b u (hb b n) q⟩,fun b u q n _=>by rw [aI (hx b n)]; exact n,fun b u q _=>?_,
  fun b xs q=>by rw [aI (hm b _ q fun z=>z)]; exact q,fun b u xs q=>by rw [aI (hm b _ q fun z=>z)]; exact q,fun b ps q=>⟨#[],by rw [aI (hm b _ q fun z=>z),q]; simp⟩⟩
 by_cases hbe:b=e
 ·subst hbe; exact heo
 ·exact ⟨u,k b u hbe q⟩
end
def trk (h:Heap) (H:Hp):List Addr:=(List.range h.objs.size).filter fun a=>(H a).isSome
def kH (h:Heap) (H:Hp):Heap:=PySem.W.hideAll h (trk h H)
theorem qY (h:Heap) (H:Hp):(kH h H).objs.size=h.objs.size:=PySem.W.hideAll_size _ _
theorem rX {h:Heap} {H:Hp} {b:Addr} {o:Obj} (e:h.get? b=some o) (n:H b=none):(kH h H).get? b=some o:=
 PySem.W.hideAll_get _ e fun hm=>by
  have q:(H b).isSome=true:=(List.mem_filter.mp hm).2
  rw [n] at q; simp at q
theorem uZ {h:Heap} {H:Hp} {b:Addr} {o:Obj} (e:(kH h H).get? b=some o):h.get? b=some o/\H b=none:=by
 have e':h.get? b=some o:=PySem.W.of_hideAll (trk h H) e
 refine ⟨e',?_⟩
 cases q:H b with
 | none=>rfl
 | some x=>
  have hm:b∈trk h H:=List.mem_filter.mpr ⟨List.mem_range.mpr (Heap.lt_size e'),by simp [q]⟩
  have z:(kH h H).get? b=none:=PySem.W.hideAll_none (trk h H) hm
  rw [z] at e; cases e
def fK (g h:Heap) (L:Addr):List (Addr×Obj):=(List.range h.objs.size).filterMap fun a=>if a=L\/(g.get? a).isSome=true then none else (h.get? a).map fun o=>(a,o)
theorem gP {g h:Heap} {L a:Addr} {o:Obj} (h1:a≠L) (h2:g.get? a=none) (h3:h.get? a=some o):(a,o)∈fK g h L:=
 List.mem_filterMap.mpr ⟨a,List.mem_range.mpr (Heap.lt_size h3),by simp [h1,h2,h3]⟩
theorem ig {g h:Heap} {L:Addr} {p:Addr×Obj} (hp:p∈fK g h L):p.1≠L/\g.get? p.1=none/\h.get? p.1=some p.2:=by
 obtain ⟨b,_,e⟩:=List.mem_filterMap.mp hp
 split at e
 ·cases e
 ·rename_i hn
  cases q:h.get? b with
  | none=>rw [q] at e; simp at e
  | some u=>
   rw [q] at e
   simp only [Option.map_some,Option.some.injEq] at e
   subst e
   refine ⟨fun z=>hn (.inl z),?_,q⟩
   show g.get? b=none
   cases r:g.get? b with
   | none=>rfl
   | some v=>exact (hn (.inr (by simp [r]))).elim
theorem mQ {g h:Heap} {L:Addr}:News g L h (fK g h L):=fun p hp=>let ⟨a,b,c⟩:=ig hp; ⟨c,a,b⟩
structure Mod (K:PySem.W.Frag) (mg:Str->Option Value) (base:Heap):Prop where
 kin:K.In base
 glob:base.Ns mainGlobals mg
 blt:∃ mb,base.Ns builtinsNs mb/\∀ x:Str,x≠"__name__"->mb x=bootBuiltins x
 nolimit:base.NoLimit
structure Cx where
 prog:Program
 w:World
 K:PySem.W.Frag
 mg:Str->Option Value
 base:Heap
 A:Around
 N:List Str
 s₀:Shared
 H₀:Hp
 env:Env
 outer:List Env
 stack:List Env
 ex:List Addr
 fn:Str->Bool
 calm:Bool
 pn:List (Addr×Obj)
 xe:Value->Shared->Prop
def frs (l:List Env):List Addr:=l.filterMap (·.frame)
abbrev Cx.fs (X:Cx):List Addr:=frs X.outer
def Vis (sc:Scope) (x:Str):Prop:=sc.names.lookup x=some .local\/sc.names.lookup x=some .cell\/sc.names.lookup x=some .free
def Loc (sc:Scope) (x:Str):Prop:=sc.names.lookup x=some .local\/sc.names.lookup x=some .cell
def yr (env:Env) (h:Heap) (m:Str->Option Value) (x:Str) (u:Value):Prop:=
 (env.kindOf x=some .local/\m x=some u)\/((env.kindOf x=some .cell\/env.kindOf x=some .free)/\∃ c,env.cells.lookup x=some c/\h.IsCell c (some u))
structure Cx.Ok (X:Cx):Prop where
 mod:Mod X.K X.mg X.base
 kind:X.env.scope.kind=.function
 glob:X.env.globals=mainGlobals
 blt:X.env.builtins=builtinsNs
 above:X.s₀.heap.objs.size<=X.env.locals
 inj:∀ x y c,X.env.cells.lookup x=some c->X.env.cells.lookup y=some c->x=y
 has:∀ x,(X.env.kindOf x=some .cell\/X.env.kindOf x=some .free)->∃ c,X.env.cells.lookup x=some c
 cab:∀ x c,X.fn x=true->X.env.cells.lookup x=some c->X.s₀.heap.objs.size<=c
 hd:X.calm=true->X.A.handled=none
 frames:X.A.frames=some X.stack
 stk:X.stack=X.outer\/(X.stack=X.env :: X.outer/\X.env.frame=some X.env.locals)
 exf:∀ b∈X.ex,b≠X.env.locals/\∀ x c,X.env.cells.lookup x=some c->c≠b
 bs:∀ b o,X.base.get? b=some o->X.s₀.heap.get? b=some o/\X.H₀ b=none
 bsz:X.base.objs.size<=X.s₀.heap.objs.size
 noex:∀ b o,X.base.get? b=some o->b∉X.ex
 exfs:∀ b∈X.ex,b∉X.fs
 funs:X.s₀.heap.FunFrames X.base X.outer
 frf:∀ b∈X.fs,X.H₀ b=none
structure Inv (X:Cx) (pins:List (Addr×Obj)) (σ:List (Option V)) (H:Hp) (s:Shared):Prop where
 ok:X.Ok
 os:s.os=X.s₀.os
 bare:AllBare s.gens
 base:Un X.fs X.ex X.H₀ H X.s₀.heap s.heap
 loc:∃ m,s.heap.Ns X.env.locals m/\∀ (i:Nat) (x:Str) (v:V),X.N[i]?=some x->σ[i]?=some (some v)->Vis X.env.scope x->∃ u,aV v u/\yr X.env s.heap m x u
 cell:∀ x c,X.env.cells.lookup x=some c->∃ v,s.heap.IsCell c v
 free:H X.env.locals=none
 freeC:∀ x c,X.env.cells.lookup x=some c->H c=none
 pin:∀ p∈X.pn ++ pins,s.heap.get? p.1=some p.2/\H p.1=none/\p.1≠X.env.locals/\p.1∉X.fs/\∀ v,p.2.data≠.cell v
 hok:HOk X.prog X.w H s.heap
 len:σ.length=X.N.length
section
variable {X:Cx} {pins:List (Addr×Obj)} {σ:List (Option V)} {H H':Hp} {s:Shared} {h':Heap}
theorem Cx.Ok.nofr (ok:X.Ok) {b:Addr} {o:Obj} (e:X.base.get? b=some o):b∉X.fs:=fun hb=>by
 have:=(ok.funs.mem hb).1
 rw [e] at this; cases this
theorem Inv.bs (I:Inv X pins σ H s):∀ b o,X.base.get? b=some o->s.heap.get? b=some o/\H b=none:=fun b o e=>
 ⟨I.base.keep b o (I.ok.bs b o e).1 (I.ok.bs b o e).2 (I.ok.nofr e) (I.ok.noex b o e),I.base.free b o (I.ok.bs b o e).1 (I.ok.bs b o e).2 (I.ok.noex b o e)⟩
theorem Inv.bk (I:Inv X pins σ H s):∀ b o,X.base.get? b=some o->s.heap.get? b=some o:=fun b o e=>(I.bs b o e).1
theorem Inv.mod (I:Inv X pins σ H s):Mod X.K X.mg X.base:=I.ok.mod
theorem Inv.kIn (I:Inv X pins σ H s):X.K.In s.heap:=I.ok.mod.kin.keeps I.bk
theorem Inv.lt (I:Inv X pins σ H s):X.env.locals < s.heap.objs.size:=let ⟨_,hn,_⟩:=I.loc; hn.lt
theorem Inv.sz (I:Inv X pins σ H s):X.s₀.heap.objs.size<=s.heap.objs.size:=Nat.le_trans I.ok.above (Nat.le_of_lt I.lt)
theorem Inv.nofs (I:Inv X pins σ H s) {a:Addr} (h:s.heap.objs.size<=a):a∉X.fs:=fun hb=>by
 obtain ⟨_,o,ho,_⟩:=I.ok.funs.mem hb
 exact absurd (Nat.lt_of_lt_of_le (Heap.lt_size ho) (Nat.le_trans I.sz h)) (Nat.lt_irrefl _)
theorem Inv.cne (I:Inv X pins σ H s):∀ x c,X.env.cells.lookup x=some c->c≠X.env.locals:=fun x c e z=>by
 obtain ⟨v,o,ho,hd⟩:=I.cell x c e
 obtain ⟨m,⟨o',es,ep,ho',hd',_⟩,_⟩:=I.loc
 rw [z,ho'] at ho; cases ho; rw [hd'] at hd; cases hd
theorem Inv.funs (I:Inv X pins σ H s):s.heap.FunFrames X.base X.outer:=by
 have all:∀ (l:List Env),(∀ b∈frs l,b∈X.fs)->X.s₀.heap.FunFrames X.base l->s.heap.FunFrames X.base l:=by
  intro l
  induction l with
  | nil=>intro _ _; trivial
  | cons env r ih=>
   intro hs hl
   obtain ⟨hk,⟨L,o,hf,hn,ho,hd⟩,hr⟩:=hl
   have hL:L∈X.fs:=hs L (by unfold frs; rw [List.filterMap_cons,hf]; exact List.mem_cons_self)
   obtain ⟨sl,e⟩:=I.base.slot L o ho (I.ok.frf L hL) hL fun z=>I.ok.exfs L z hL
   exact ⟨hk,⟨L,_,hf,hn,e,hd⟩,ih (fun b hb=>hs b (by unfold frs; rw [List.filterMap_cons,hf]; exact List.mem_cons_of_mem _ hb)) hr⟩
 exact all X.outer (fun _ hb=>hb) I.ok.funs
theorem Inv.stack (I:Inv X pins σ H s):s.heap.FunFrames X.base X.stack:=by
 rcases I.ok.stk with e | ⟨e,hf⟩
 ·rw [e]; exact I.funs
 ·rw [e]
  obtain ⟨m,hn,_⟩:=I.loc
  refine .cons (by rw [I.ok.kind]; decide) hf hn ?_ I.funs
  exact Heap.get?_none_of_le (Nat.le_trans I.ok.bsz I.ok.above)
theorem Inv.stkSub (I:Inv X pins σ H s):∀ b∈frs X.stack,b∈X.env.locals :: X.fs:=fun b hb=>by
 rcases I.ok.stk with e | ⟨e,hf⟩
 ·rw [e] at hb; exact List.mem_cons_of_mem _ hb
 ·rw [e] at hb
  unfold frs at hb
  rw [List.filterMap_cons,hf] at hb
  exact hb
theorem Inv.stkFree (I:Inv X pins σ H s):∀ b∈frs X.stack,H b=none:=fun b hb=>by
 rcases List.mem_cons.mp (I.stkSub b hb) with e | hb
 ·rw [e]; exact I.free
 ·obtain ⟨_,o,ho,_⟩:=I.ok.funs.mem hb
  exact I.base.free b o ho (I.ok.frf b hb) fun z=>I.ok.exfs b z hb
theorem Inv.step {g':Array GenState} {t':Nat} {d':Drawn} {ch:List Addr} (I:Inv X pins σ H s)
  (hch:∀ b∈ch,(b∈X.ex\/X.s₀.heap.objs.size<=b)/\b≠X.env.locals/\(∀ x c,X.env.cells.lookup x=some c->c≠b)/\∀ p∈X.pn ++ pins,p.1≠b)
  (keep:∀ b o,b≠X.env.locals->b∉X.fs->b∉ch->s.heap.get? b=some o->H b=none->h'.get? b=some o)
  (slot:∀ b o,b≠X.env.locals->b∈X.fs->b∉ch->s.heap.get? b=some o->H b=none->∃ sl,h'.get? b=some { o with slots:=sl }) (free:∀ b o,b∉ch->s.heap.get? b=some o->H b=none->H' b=none)
  (there:∀ b o,b∉ch->s.heap.get? b=some o->∃ o',h'.get? b=some o')
  (tups:∀ b xs,H b=some (.tup xs)->H' b=some (.tup xs)) (frzs:∀ b o u,H b=some (.frz o u)->H' b=some (.frz o u)) (tbls:∀ b ps,H b=some (.tbl ps)->∃ more,H' b=some (.tbl (ps ++ more)))
  (ns:∀ m,s.heap.Ns X.env.locals m->h'.Ns X.env.locals m) (hok:HOk X.prog X.w H' h') (hg:AllBare g') :
  Inv X pins σ H' { s with heap:=h',gens:=g',drawn:=d',toks:=t' }:=by
 have neL:∀ b o,X.s₀.heap.get? b=some o->b≠X.env.locals:=fun b o e=>Nat.ne_of_lt (Nat.lt_of_lt_of_le (Heap.lt_size e) I.ok.above)
 have neC:∀ b o,X.s₀.heap.get? b=some o->b∉X.ex->b∉ch:=fun b o e hx hb=>by
  rcases (hch b hb).1 with z | z
  ·exact hx z
  ·exact absurd (Nat.lt_of_lt_of_le (Heap.lt_size e) z) (Nat.lt_irrefl _)
 have cellK:∀ x c,X.env.cells.lookup x=some c->∀ v,s.heap.IsCell c v->h'.IsCell c v:=fun x c e v ⟨o,ho,hd⟩=>by
  have nch:c∉ch:=fun z=>(hch c z).2.2.1 x c e rfl
  by_cases hc:c∈X.fs
  ·obtain ⟨sl,q⟩:=slot c o (I.cne x c e) hc nch ho (I.freeC x c e)
   exact ⟨_,q,hd⟩
  ·exact ⟨o,keep c o (I.cne x c e) hc nch ho (I.freeC x c e),hd⟩
 refine ⟨I.ok,I.os,hg,⟨fun b o e n hb hx=>?_,fun b o e n hb hx=>?_,fun b o e n hx=>?_,fun b o e hx=>?_,fun b xs e=>tups b xs (I.base.tups b xs e),fun b o xs e=>frzs b o xs (I.base.frzs b o xs e),fun b ps e=>?_⟩,?_,fun x c e=>?_,?_,fun x c e=>?_,fun p hp=>?_,hok,I.len⟩
 ·exact keep b o (neL b o e) hb (neC b o e hx) (I.base.keep b o e n hb hx) (I.base.free b o e n hx)
 ·obtain ⟨sl,e1⟩:=I.base.slot b o e n hb hx
  obtain ⟨sl',e2⟩:=slot b _ (neL b o e) hb (neC b o e hx) e1 (I.base.free b o e n hx)
  exact ⟨sl',e2⟩
 ·obtain ⟨o',e1⟩:=I.base.there b o e hx
  exact free b o' (neC b o e hx) e1 (I.base.free b o e n hx)
 ·obtain ⟨o',e1⟩:=I.base.there b o e hx
  exact there b o' (neC b o e hx) e1
 ·obtain ⟨m1,e1⟩:=I.base.tbls b ps e
  obtain ⟨m2,e2⟩:=tbls b _ e1
  exact ⟨m1 ++ m2,by rw [e2,Array.append_assoc]⟩
 ·obtain ⟨m,hn,hl⟩:=I.loc
  refine ⟨m,ns m hn,fun i x v e1 e2 e3=>?_⟩
  obtain ⟨u,r,l⟩:=hl i x v e1 e2 e3
  refine ⟨u,r,?_⟩
  rcases l with l | ⟨k,c,e,z⟩
  ·exact .inl l
  ·exact .inr ⟨k,c,e,cellK x c e _ z⟩
 ·obtain ⟨v,z⟩:=I.cell x c e
  exact ⟨v,cellK x c e v z⟩
 ·obtain ⟨m,⟨o,_,_,ho,_⟩,_⟩:=I.loc
  exact free _ o (fun z=>(hch _ z).2.1 rfl) ho I.free
 ·obtain ⟨v,o,ho,hd⟩:=I.cell x c e
  exact free c o (fun z=>(hch c z).2.2.1 x c e rfl) ho (I.freeC x c e)
 ·obtain ⟨e,n,ne,nf,d⟩:=I.pin p hp
  have nch:p.1∉ch:=fun z=>(hch p.1 z).2.2.2 p hp rfl
  exact ⟨keep p.1 p.2 ne nf nch e n,free p.1 p.2 nch e n,ne,nf,d⟩
theorem Inv.un {t':Nat} (I:Inv X pins σ H s) (u:Un X.fs [] H H' s.heap h') (hok:HOk X.prog X.w H' h'):Inv X pins σ H' { s with heap:=h',toks:=t' }:=by
 obtain ⟨m,⟨o,es,ep,ho,r⟩,_⟩:=id I.loc
 obtain ⟨sl,hL⟩:=u.any ho I.free (by simp)
 exact I.step (g':=s.gens) (d':=s.drawn) (ch:=[]) (fun _ z=>nomatch z) (fun b o _ hb _ e n=>u.keep b o e n hb (by simp)) (fun b o _ hb _ e n=>u.slot b o e n hb (by simp)) (fun b o _ e n=>u.free b o e n (by simp)) (fun b o _ e=>u.there b o e (by simp)) u.tups u.frzs u.tbls (fun m' hm=>by
  obtain ⟨o',es',ep',ho',r'⟩:=hm
  rw [ho] at ho'; cases ho'
  exact ⟨_,es',ep',hL,r'⟩) hok I.bare
theorem Inv.call {g':Array GenState} {t':Nat} {d':Drawn} {ch:List Addr} (I:Inv X pins σ H s) (u:Un (frs X.stack) ch H H' s.heap h') (hok:HOk X.prog X.w H' h') (hg:AllBare g')
  (hch:∀ b∈ch,(b∈X.ex\/X.s₀.heap.objs.size<=b)/\b≠X.env.locals/\(∀ x c,X.env.cells.lookup x=some c->c≠b)/\∀ p∈X.pn ++ pins,p.1≠b) :
  Inv X pins σ H' { s with heap:=h',gens:=g',drawn:=d',toks:=t' }:=by
 obtain ⟨m,⟨o,es,ep,ho,r⟩,_⟩:=id I.loc
 obtain ⟨sl,hL⟩:=u.any ho I.free fun z=>(hch _ z).2.1 rfl
 exact I.step (ch:=ch) hch (fun b o hL hb hc e n=>u.keep b o e n (fun z=>(List.mem_cons.mp (I.stkSub b z)).elim hL hb) hc) (fun b o _ _ hc e n=>u.any e n hc) (fun b o hc e n=>u.free b o e n hc) (fun b o hc e=>u.there b o e hc) u.tups u.frzs u.tbls (fun m' hm=>by
  obtain ⟨o',es',ep',ho',r'⟩:=hm
  rw [ho] at ho'; cases ho'
  exact ⟨_,es',ep',hL,r'⟩) hok hg
theorem Inv.turned {t':Nat} {it:Addr} (I:Inv X pins σ H s) (k:∀ b o,b≠it->s.heap.get? b=some o->h'.get? b=some o) (hn:H it=none) (hL:it≠X.env.locals)
  (h1:it∈X.ex\/X.s₀.heap.objs.size<=it) (h2:∀ x c,X.env.cells.lookup x=some c->c≠it) (h3:∀ p∈X.pn ++ pins,p.1≠it):Inv X pins σ H { s with heap:=h',toks:=t' }:=by
 have nit:∀ b u,H b=some u->b≠it:=fun b u e z=>by rw [z,hn] at e; cases e
 refine I.step (g':=s.gens) (d':=s.drawn) (ch:=[it]) (fun b hb=>?_) (fun b o _ _ hc e _=>k b o (fun z=>hc (by simp [z])) e) (fun b o _ _ hc e _=>⟨o.slots,k b o (fun z=>hc (by simp [z])) e⟩) (fun _ _ _ _ n=>n)
  (fun b o hc e=>⟨o,k b o (fun z=>hc (by simp [z])) e⟩) (fun _ _ e=>e) (fun _ _ _ e=>e) (fun b ps e=>⟨#[],by rw [e]; simp⟩) (fun m hm=>?_) (fun b u e=>?_) I.bare
 ·have e:b=it:=by simpa using hb
  subst e
  exact ⟨h1,hL,h2,h3⟩
 ·obtain ⟨o,es,ep,ho,r⟩:=hm
  exact ⟨o,es,ep,k _ o (Ne.symm hL) ho,r⟩
 ·refine (I.hok b u e).stay (fun c v hc q=>k c v ?_ q) (fun _ q=>q) fun _ _ q=>q
  rcases hc with z | z
  ·rw [z]; exact nit b u e
  ·exact nit c _ z
theorem Inv.tok (I:Inv X pins σ H s) (t:Nat):Inv X pins σ H { s with toks:=t }:=I.un (h':=s.heap) (t':=t) Un.refl I.hok
theorem Inv.kept {t':Nat} (I:Inv X pins σ H s) (k:∀ b u,s.heap.get? b=some u->h'.get? b=some u):Inv X pins σ H { s with heap:=h',toks:=t' }:=I.un (Un.kept k) (I.hok.kept k)
theorem Inv.laid {a:Addr} {o:HO} {t':Nat} (I:Inv X pins σ H s) (k:∀ b u,s.heap.get? b=some u->h'.get? b=some u) (hp:s.heap.objs.size<=a) (new:aU X.prog X.w (upd H a o) h' a o) :
  Inv X pins σ (upd H a o) { s with heap:=h',toks:=t' }:=I.un (Un.laid k hp (I.hok.fresh hp)) (I.hok.laid k hp new)
theorem Inv.write {x e:Addr} {o:HO} {t':Nat} (I:Inv X pins σ H s) (mu:Mut (H x)) (he:e=x\/H e=some (.own x)) (k:∀ b u,b≠e->s.heap.get? b=some u->h'.get? b=some u) (heo:∃ u,h'.get? e=some u)
  (new:aU X.prog X.w (upd H x o) h' x o):Inv X pins σ (upd H x o) { s with heap:=h',toks:=t' }:=I.un (Un.write mu he k heo) (I.hok.write mu he k heo new)
theorem Inv.weak {σ':List (Option V)} (I:Inv X pins σ H s) (hl:σ'.length=σ.length) (w:∀ (i:Nat) v,σ'[i]?=some (some v)->σ[i]?=some (some v)):Inv X pins σ' H s:=
 ⟨I.ok,I.os,I.bare,I.base,let ⟨m,hn,hl'⟩:=I.loc; ⟨m,hn,fun i x v e1 e2 e3=>hl' i x v e1 (w i v e2) e3⟩,I.cell,I.free,I.freeC,I.pin,I.hok,hl.trans I.len⟩
theorem Inv.pins_of {pins':List (Addr×Obj)} (I:Inv X pins σ H s) (h:∀ p∈pins',s.heap.get? p.1=some p.2/\H p.1=none/\p.1≠X.env.locals/\p.1∉X.fs/\∀ v,p.2.data≠.cell v):Inv X pins' σ H s:=
 ⟨I.ok,I.os,I.bare,I.base,I.loc,I.cell,I.free,I.freeC,fun p hp=>(List.mem_append.mp hp).elim (fun z=>I.pin p (List.mem_append_left _ z)) (h p),I.hok,I.len⟩
theorem mj {N:List Str} (hN:N.Nodup) {i j:Nat} {x:Str} (a:N[i]?=some x) (b:N[j]?=some x):i=j:=by
 obtain ⟨h1,e1⟩:=List.getElem?_eq_some_iff.mp a
 obtain ⟨h2,e2⟩:=List.getElem?_eq_some_iff.mp b
 exact (List.getElem_inj hN).mp (e1.trans e2.symm)
theorem jw {M:Model} {A:Around} {E:Value->Shared->Prop} {i:Nat} {x:Str} {v:V} {u:Value} {Q:Unit->Shared->Prop} (I:Inv X pins σ H s) (hN:X.N.Nodup) (hi:X.N[i]?=some x) (hx:Loc X.env.scope x) (r:aV v u)
  (h:∀ s',Inv X pins (σ.set i (some v)) H s'->(∃ a,Heap.SameBut a s.heap s'.heap/\(a=X.env.locals\/X.env.cells.lookup x=some a))->Q () s') (hf:X.fn x=true\/X.env.scope.names.lookup x=some .local:=by first | exact .inl rfl | exact .inr rfl | assumption):wpAny M A (storeName X.env x u) Q E s:=by
 obtain ⟨m,hn,hl⟩:=id I.loc
 have hcls:(X.env.scope.kind == .class || (X.env.scope.kind == .module && X.env.locals != X.env.globals))=false:=by rw [I.ok.kind]; rfl
 have hiσ:i < σ.length:=by rw [I.len]; exact (List.getElem?_eq_some_iff.mp hi).1
 have cne:=I.cne
 have tracked:∀ {a:Addr} {h':Heap},(∃ o,s.heap.get? a=some o/\H a=none)->Heap.SameBut a s.heap h'->HOk X.prog X.w H h':=fun {a h'} ha hs b ob e=>by
  obtain ⟨_,_,hfree⟩:=ha
  refine (I.hok b ob e).stay (fun c w' hc q=>(hs.2 c ?_).trans q) (fun _ q=>q) fun _ _ q=>q
  rintro rfl
  rcases hc with rfl | hc
  ·rw [hfree] at e; cases e
  ·rw [hfree] at hc; cases hc
 rcases hx with hk | hk
 ·refine wpAny_storeName_local hk hn (fun h' hn' hs=>?_) hcls
  obtain ⟨oL,_,_,hoL,_⟩:=id hn
  refine h _ ⟨I.ok,I.os,I.bare,⟨fun b o e n hb hx=>?_,fun b o e n hb hx=>?_,I.base.free,fun b o e hx=>?_,I.base.tups,I.base.frzs,I.base.tbls⟩,⟨_,hn',fun j y v' e1 e2 e3=>?_⟩,fun y c e=>?_,I.free,I.freeC,fun p hp=>?_,tracked ⟨oL,hoL,I.free⟩ hs,by simpa using I.len⟩ ⟨_,hs,.inl rfl⟩
  ·exact (hs.2 b (Nat.ne_of_lt (Nat.lt_of_lt_of_le (Heap.lt_size e) I.ok.above))).trans (I.base.keep b o e n hb hx)
  ·obtain ⟨sl,e1⟩:=I.base.slot b o e n hb hx
   exact ⟨sl,(hs.2 b (Nat.ne_of_lt (Nat.lt_of_lt_of_le (Heap.lt_size e) I.ok.above))).trans e1⟩
  ·obtain ⟨o',e1⟩:=I.base.there b o e hx
   exact ⟨o',(hs.2 b (Nat.ne_of_lt (Nat.lt_of_lt_of_le (Heap.lt_size e) I.ok.above))).trans e1⟩
  ·by_cases hj:j=i
   ·subst hj
    rw [hi] at e1; cases e1
    rw [List.getElem?_set_self hiσ] at e2
    cases e2
    exact ⟨u,r,.inl ⟨hk,by simp⟩⟩
   ·rw [List.getElem?_set_ne (Ne.symm hj)] at e2
    obtain ⟨u',r',q⟩:=hl j y v' e1 e2 e3
    refine ⟨u',r',?_⟩
    rcases q with ⟨k,e⟩ | ⟨k,c,e,z⟩
    ·refine .inl ⟨k,?_⟩
     have:y≠x:=fun e=>hj (mj hN e1 (e▸hi))
     simp [this,e]
    ·exact .inr ⟨k,c,e,z.sameBut hs (cne y c e)⟩
  ·obtain ⟨w',z⟩:=I.cell y c e
   exact ⟨w',z.sameBut hs (cne y c e)⟩
  ·obtain ⟨e,n,ne,nf,d⟩:=I.pin p hp
   exact ⟨(hs.2 p.1 ne).trans e,n,ne,nf,d⟩
 ·have hfn:X.fn x=true:=by
   rcases hf with z | z
   ·exact z
   ·rw [z] at hk; cases hk
  obtain ⟨c,hc⟩:=I.ok.has x (.inl hk)
  obtain ⟨w',z⟩:=I.cell x c hc
  refine wpAny_storeName_cell I.ok.kind hk hc z (fun h' hc' hs=>?_)
  obtain ⟨oc,hoc,hocd⟩:=id z
  refine h { s with heap:=h' } ⟨I.ok,I.os,I.bare,⟨fun b o e n hb hx=>?_,fun b o e n hb hx=>?_,I.base.free,fun b o e hx=>?_,I.base.tups,I.base.frzs,I.base.tbls⟩,⟨m,hn.sameBut hs (Ne.symm (cne x c hc)),fun j y v' e1 e2 e3=>?_⟩,fun y c' e=>?_,I.free,I.freeC,fun p hp=>?_,tracked ⟨oc,hoc,I.freeC x c hc⟩ hs,by simpa using I.len⟩ ⟨c,hs,.inr hc⟩
  ·exact (hs.2 b (Nat.ne_of_lt (Nat.lt_of_lt_of_le (Heap.lt_size e) (I.ok.cab x c hfn hc)))).trans (I.base.keep b o e n hb hx)
  ·obtain ⟨sl,e1⟩:=I.base.slot b o e n hb hx
   exact ⟨sl,(hs.2 b (Nat.ne_of_lt (Nat.lt_of_lt_of_le (Heap.lt_size e) (I.ok.cab x c hfn hc)))).trans e1⟩
  ·obtain ⟨o',e1⟩:=I.base.there b o e hx
   exact ⟨o',(hs.2 b (Nat.ne_of_lt (Nat.lt_of_lt_of_le (Heap.lt_size e) (I.ok.cab x c hfn hc)))).trans e1⟩
  ·by_cases hj:j=i
   ·subst hj
    rw [hi] at e1; cases e1
    rw [List.getElem?_set_self hiσ] at e2
    cases e2
    exact ⟨u,r,.inr ⟨.inl hk,c,hc,hc'⟩⟩
   ·rw [List.getElem?_set_ne (Ne.symm hj)] at e2
    obtain ⟨u',r',q⟩:=hl j y v' e1 e2 e3
    refine ⟨u',r',?_⟩
    rcases q with q | ⟨k,c',e,z'⟩
    ·exact .inl q
    ·refine .inr ⟨k,c',e,z'.sameBut hs ?_⟩
     rintro rfl
     exact hj (mj hN e1 (I.ok.inj _ _ _ e hc▸hi))
  ·by_cases hcc:c'=c
   ·subst hcc; exact ⟨_,hc'⟩
   ·obtain ⟨w2,z2⟩:=I.cell y c' e
    exact ⟨w2,z2.sameBut hs hcc⟩
  ·obtain ⟨e,n,ne,nf,d⟩:=I.pin p hp
   refine ⟨(hs.2 p.1 ?_).trans e,n,ne,nf,d⟩
   intro q
   rw [q,hoc] at e
   have q':oc=p.2:=Option.some.inj e
   exact d w' (by rw [<- q']; exact hocd)
theorem nF {M:Model} {A:Around} {E:Value->Shared->Prop} {i:Nat} {x:Str} {v:V} {u:Value} {Q:Unit->Shared->Prop} (I:Inv X pins σ H s) (hN:X.N.Nodup) (hi:X.N[i]?=some x) (hx:Loc X.env.scope x) (r:aV v u)
  (h:∀ s',Inv X pins (σ.set i (some v)) H s'->Q () s') (hf:X.fn x=true\/X.env.scope.names.lookup x=some .local:=by first | exact .inl rfl | exact .inr rfl | assumption):wpAny M A (storeName X.env x u) Q E s:=
 jw I hN hi hx r (fun s' I' _=>h s' I') hf
theorem Inv.call' {s':Shared} {ch:List Addr} (I:Inv X pins σ H s) (ho:s'.os=s.os) (u:Un (frs X.stack) ch H H' s.heap s'.heap) (hok:HOk X.prog X.w H' s'.heap) (hg:AllBare s'.gens)
  (hch:∀ b∈ch,(b∈X.ex\/X.s₀.heap.objs.size<=b)/\b≠X.env.locals/\(∀ x c,X.env.cells.lookup x=some c->c≠b)/\∀ p∈X.pn ++ pins,p.1≠b):Inv X pins σ H' s':=by
 obtain ⟨h',g',d',t',o'⟩:=s'
 have e:o'=s.os:=ho
 subst e
 exact I.call (g':=g') (t':=t') (d':=d') u hok hg hch
end
abbrev XK:=Value->Option Addr->Hp->Prop
abbrev St:=List (Option V)
abbrev VK:=V->Hp->Prop
abbrev TE:=St->Hp->VK->Prop
abbrev TT:=St->Hp->(Bool->Hp->Prop)->Prop
abbrev TA:=St->Hp->(List V->Hp->Prop)->Prop
structure gm where
 nx:St->Hp->Prop
 rt:VK
 bk:St->Hp->Prop:=fun _ _=>False
 ct:St->Hp->Prop:=fun _ _=>False
abbrev TS:=gm->St->Hp->Prop
def EP (X:Cx) (pins:List (Addr×Obj)) (σ:St) (Q:VK) (u:Value) (s':Shared):Prop:=∃ v H',Inv X pins σ H' s'/\aV v u/\Q v H'
def TP (X:Cx) (pins:List (Addr×Obj)) (σ:St) (Q:Bool->Hp->Prop) (b:Bool) (s':Shared):Prop:=∃ H',Inv X pins σ H' s'/\Q b H'
def AP (X:Cx) (pins:List (Addr×Obj)) (σ:St) (Q:List V->Hp->Prop) (us:List Value) (s':Shared):Prop:=∃ vs H',Inv X pins σ H' s'/\aP vs us/\Q vs H'
def SP (X:Cx) (pins:List (Addr×Obj)) (D:gm) (f:Flow) (s':Shared):Prop:=
 match f with
 | .next=>∃ σ' H',Inv X pins σ' H' s'/\D.nx σ' H'
 | .brk=>∃ σ' H',Inv X pins σ' H' s'/\D.bk σ' H'
 | .cont=>∃ σ' H',Inv X pins σ' H' s'/\D.ct σ' H'
 | .ret u=>∃ v σ' H',Inv X pins σ' H' s'/\aV v u/\D.rt v H'
def PE (X:Cx) (e:Expr) (t:TE):Prop:=
 ∀ (pins:List (Addr×Obj)) (s:Shared) (σ:St) (H:Hp) (Q:VK),Inv X pins σ H s->t σ H Q->wpAny (model X.prog X.w) X.A (eval e X.env) (EP X pins σ Q) X.xe s
def PT (X:Cx) (e:Expr) (t:TT):Prop:=
 ∀ (pins:List (Addr×Obj)) (s:Shared) (σ:St) (H:Hp) (Q:Bool->Hp->Prop),Inv X pins σ H s->t σ H Q->wpAny (model X.prog X.w) X.A (isTrue e X.env (eval e X.env)) (TP X pins σ Q) X.xe s
def PW (X:Cx) (e:Expr) (t:TT):Prop:=
 ∀ (whole:Sem Value) (pins:List (Addr×Obj)) (s:Shared) (σ:St) (H:Hp) (Q:Bool->Hp->Prop),Inv X pins σ H s->t σ H Q->wpAny (model X.prog X.w) X.A (isTrue e X.env whole) (TP X pins σ Q) X.xe s
theorem PW.pt {X:Cx} {e:Expr} {t:TT} (h:PW X e t):PT X e t:=h _
def PA (X:Cx) (es:List Expr) (t:TA):Prop:=
 ∀ (pos:Pos) (pins:List (Addr×Obj)) (s:Shared) (σ:St) (H:Hp) (Q:List V->Hp->Prop),Inv X pins σ H s->t σ H Q->wpAny (model X.prog X.w) X.A (spliced (backTo pos (starEach es X.env))) (AP X pins σ Q) X.xe s
def PS (X:Cx) (st:Stmt) (t:TS):Prop:=
 ∀ (pins:List (Addr×Obj)) (s:Shared) (σ:St) (H:Hp) (D:gm),Inv X pins σ H s->t D σ H->wpAny (model X.prog X.w) X.A (exec st X.env) (SP X pins D) X.xe s
def PSs (X:Cx) (st:List Stmt) (t:TS):Prop:=
 ∀ (pins:List (Addr×Obj)) (s:Shared) (σ:St) (H:Hp) (D:gm),Inv X pins σ H s->t D σ H->wpAny (model X.prog X.w) X.A (execs st X.env) (SP X pins D) X.xe s
theorem thn {α:Type} {t:Sem α} {Q Q':α->Shared->Prop} {M:Model} {A:Around} {E:Value->Shared->Prop} {s:Shared} (h:wpAny M A t Q E s) (hQ:∀ a s,Q a s->Q' a s):wpAny M A t Q' E s:=wpAny_mono h hQ fun _ _ x=>x
section
variable {X:Cx}
def xz (i:Nat):TE:=fun σ H Q=>∃ v,σ[i]?=some (some v)/\Q v H
def tC (v:V):TE:=fun _ H Q=>Q v H
theorem wm {i:Nat} {x:Str} {pos:Pos} (hN:X.N[i]?=some x) (hv:Vis X.env.scope x) (hd:(x == ("__debug__" : Str))=false:=by decide) (hcd:(x == ("__classdict__" : Str))=false:=by decide):PE X (.Name x pos) (xz i):=by
 intro pins s σ H Q I h
 obtain ⟨v,e,h⟩:=h
 obtain ⟨m,hn,hl⟩:=I.loc
 obtain ⟨u,r,l⟩:=hl i x v hN e hv
 have fin:EP X pins σ Q u s:=⟨v,H,I,r,h⟩
 rcases l with ⟨hk,hm⟩ | ⟨hk,c,hc,hcell⟩
 ·exact wpAny_Name (wpAny_loadName_local I.ok.kind hk hn hm fin) hd
 ·rcases hk with hk | hk
  ·exact wpAny_Name (wpAny_loadName_cell I.ok.kind hk hc hcell fin) hd
  ·exact wpAny_Name (wpAny_loadName_free I.ok.kind hk hc hcell fin hcd) hd
theorem ad {i j pos}:PE X (.Constant (.int i) j pos) (tC (.int i)):=fun _ _ _ H _ I h=>wpAny_Constant_int ⟨.int i,H,I.tok _,⟨_,rfl⟩,h⟩
theorem dq {b j pos}:PE X (.Constant (.bool b) j pos) (tC (.bl b)):=fun _ _ _ H _ I h=>Constant_bool ⟨.bl b,H,I,rfl,h⟩
theorem bq {x j pos}:PE X (.Constant (.str x) j pos) (tC (.str x)):=fun _ _ _ H _ I h=>Calls.Constant_str ⟨.str x,H,I.tok _,⟨_,rfl⟩,h⟩
def Gl (X:Cx) (x:Str):Prop:=X.env.kindOf x=some .globalImplicit
theorem oS {E:Value->Shared->Prop} {pins:List (Addr×Obj)} {s:Shared} {σ:St} {H:Hp} {x:Str} {u:Value} {pos:Pos} {Q:Value->Shared->Prop} (I:Inv X pins σ H s) (hg:Gl X x) (hm:X.mg x=some u) (h:Q u s)
  (hd:(x == ("__debug__" : Str))=false:=by decide):wpAny (model X.prog X.w) X.A (eval (.Name x pos) X.env) Q E s:=
 Calls.Name_function_global I.ok.kind hg (Calls.loadGlobal_global (by rw [I.ok.glob]; exact I.mod.glob.keeps I.bk) hm h) hd
theorem iQ {E:Value->Shared->Prop} {pins:List (Addr×Obj)} {s:Shared} {σ:St} {H:Hp} {x:Str} {u:Value} {pos:Pos} {Q:Value->Shared->Prop} (I:Inv X pins σ H s) (hg:Gl X x) (hm:X.mg x=none) (hv:bootBuiltins x=some u) (h:Q u s)
  (hn:x≠"__name__":=by decide) (hd:(x == ("__debug__" : Str))=false:=by decide):wpAny (model X.prog X.w) X.A (eval (.Name x pos) X.env) Q E s:=by
 obtain ⟨mb,h1,h2⟩:=I.mod.blt
 exact Calls.Name_function_global I.ok.kind hg (Calls.loadGlobal_builtin (by rw [I.ok.glob]; exact I.mod.glob.keeps I.bk) hm (by rw [I.ok.blt]; exact h1.keeps I.bk) ((h2 x hn).trans hv) h) hd
theorem pQ {x:Str} {v:V} {u:Value} {pos:Pos} (hg:Gl X x) (hm:X.mg x=some u) (r:aV v u) (hd:(x == ("__debug__" : Str))=false:=by decide):PE X (.Name x pos) (tC v):=
 fun _ _ _ H _ I h=>oS I hg hm ⟨v,H,I,r,h⟩ hd
theorem cT {x:Str} {v:V} {u:Value} {pos:Pos} (hg:Gl X x) (hm:X.mg x=none) (hv:bootBuiltins x=some u) (r:aV v u) (hn:x≠"__name__":=by decide) (hd:(x == ("__debug__" : Str))=false:=by decide):PE X (.Name x pos) (tC v):=
 fun _ _ _ H _ I h=>iQ I hg hm hv ⟨v,H,I,r,h⟩ hn hd
variable {a b:Expr} {ta tb:TE} {pos:Pos}
def tB (t:TE):TT:=fun σ H Q=>t σ H fun x H1=>∃ c,x=.bl c/\Q c H1
theorem dL {e:Expr} {t:TE} (h:PE X e t) (he:∀ whole,isTrue e X.env whole=(do let v <- whole; standAt e.pos; holding [v] (truthy v)):=by intro _; rfl):PT X e (tB t):=by
 intro pins s σ H Q I hw
 refine isTrue_plain (thn (h pins s σ H _ I hw) fun v s1 ⟨x,H1,I1,r1,q1⟩=>?_) (he _)
 obtain ⟨d,rfl,q⟩:=q1
 cases r1
 exact wpAny_truthy_bool ⟨H1,I1,q⟩
variable {tA tB':TT} {rest:List Expr}
def ww (t u:TT):TT:=fun σ H Q=>t σ H fun c H1=>if c=true then u σ H1 Q else Q false H1
def tOr (t u:TT):TT:=fun σ H Q=>t σ H fun c H1=>if c=true then Q true H1 else u σ H1 Q
def yk (t:TT):TT:=fun σ H Q=>t σ H fun c H1=>Q (!c) H1
theorem oQ (ha:PT X a tA):PW X (.BoolOp .And [a] pos) tA:=by
 intro wh pins s σ H Q I h
 refine isTrue_and (thn (ha pins s σ H Q I h) fun c s1 e=>?_)
 cases c with
 | true=>exact isTrue_and_nil e
 | false=>exact e
theorem iX (ha:PT X a tA):PW X (.BoolOp .Or [a] pos) tA:=by
 intro wh pins s σ H Q I h
 refine isTrue_or (thn (ha pins s σ H Q I h) fun c s1 e=>?_)
 cases c with
 | false=>exact isTrue_or_nil e
 | true=>exact e
theorem oz (ha:PT X a tA) (hb:PW X (.BoolOp .And (b :: rest) pos) tB'):PW X (.BoolOp .And (a :: b :: rest) pos) (ww tA tB'):=by
 intro wh pins s σ H Q I h
 refine isTrue_and (thn (ha pins s σ H _ I h) fun c s1 ⟨H1,I1,q1⟩=>?_)
 cases c with
 | true=>exact hb wh pins s1 σ H1 Q I1 q1
 | false=>exact ⟨H1,I1,q1⟩
theorem lM (ha:PT X a tA) (hb:PW X (.BoolOp .Or (b :: rest) pos) tB'):PW X (.BoolOp .Or (a :: b :: rest) pos) (tOr tA tB'):=by
 intro wh pins s σ H Q I h
 refine isTrue_or (thn (ha pins s σ H _ I h) fun c s1 ⟨H1,I1,q1⟩=>?_)
 cases c with
 | true=>exact ⟨H1,I1,q1⟩
 | false=>exact hb wh pins s1 σ H1 Q I1 q1
theorem fk (ha:PT X a tA):PT X (.UnaryOp .Not a pos) (yk tA):=by
 intro pins s σ H Q I h
 exact isTrue_not (ha pins s σ H (fun c H1=>Q (!c) H1) I h)
def xu (ta tb:TE):TE:=fun σ H Q=>ta σ H fun x H1=>∃ c,x=.bl c/\if c=true then tb σ H1 Q else Q (.bl false) H1
def yq (ta tb:TE):TE:=fun σ H Q=>ta σ H fun x H1=>∃ c,x=.bl c/\if c=true then Q (.bl true) H1 else tb σ H1 Q
def xt (ta:TE):TE:=fun σ H Q=>ta σ H fun x H1=>∃ c,x=.bl c/\Q (.bl (!c)) H1
theorem eA {op} {t:TE} (h:PE X a t):PE X (.BoolOp op [a] pos) t:=fun pins s σ H Q I hw=>BoolOp_one (h pins s σ H Q I hw)
theorem dU (ha:PE X a ta) (hb:PE X (.BoolOp .And (b :: rest) pos) tb):PE X (.BoolOp .And (a :: b :: rest) pos) (xu ta tb):=by
 intro pins s σ H Q I h
 refine BoolOp_and (thn (ha pins s σ H _ I h) fun v s1 ⟨x,H1,I1,r1,q1⟩=>?_)
 obtain ⟨c,rfl,q1⟩:=q1
 cases r1
 refine wpAny_truthy_bool ?_
 cases c with
 | true=>exact hb pins s1 σ H1 Q I1 q1
 | false=>exact ⟨.bl false,H1,I1,rfl,q1⟩
theorem xh (ha:PE X a ta) (hb:PE X (.BoolOp .Or (b :: rest) pos) tb):PE X (.BoolOp .Or (a :: b :: rest) pos) (yq ta tb):=by
 intro pins s σ H Q I h
 refine BoolOp_or (thn (ha pins s σ H _ I h) fun v s1 ⟨x,H1,I1,r1,q1⟩=>?_)
 obtain ⟨c,rfl,q1⟩:=q1
 cases r1
 refine wpAny_truthy_bool ?_
 cases c with
 | false=>exact hb pins s1 σ H1 Q I1 q1
 | true=>exact ⟨.bl true,H1,I1,rfl,q1⟩
theorem sL (ha:PE X a ta):PE X (.UnaryOp .Not a pos) (xt ta):=by
 intro pins s σ H Q I h
 refine UnaryOp_ (thn (ha pins s σ H _ I h) fun v s1 ⟨x,H1,I1,r1,q1⟩=>?_)
 obtain ⟨c,rfl,q1⟩:=q1
 cases r1
 exact not_of (wpAny_truthy_bool ⟨.bl (!c),H1,I1,rfl,q1⟩)
end
def SqL (K:PySem.W.Frag) (H:Hp) (a:Addr) (xs:List V):Prop:=
 Rd H a (.lst xs) \/
  ∃ (o:Obj) (its:Array Value) (n:Nat),K.lookup a=some o/\o.cls=.type "list"/\o.dict=none/\o.data=.seq its n/\its.size<=sizeLine/\aP xs its.toList
def SqT (K:PySem.W.Frag) (H:Hp) (a:Addr) (xs:List V):Prop:=
 Rd H a (.tup xs) \/
  ∃ (o:Obj) (its:Array Value) (n:Nat),K.lookup a=some o/\o.cls=.type "tuple"/\o.data=.seq its n/\its.size<=sizeLine/\aP xs its.toList
def yD:Value->Option V
 | .none=>some .non
 | .bool b=>some (.bl b)
 | .int i _=>some (.int i)
 | .str x _=>some (.str x)
 | .bytes b _=>some (.byt b)
 | .float b _=>some (.flt b)
 | .ref a=>some (.ref a)
 | .type n=>some (.ty n)
 | _=>none
theorem aV.abs {x:V} {u:Value} (r:aV x u):yD u=some x:=by
 cases x with
 | non=>cases r; rfl
 | bl _=>cases r; rfl
 | int _=>obtain ⟨t,rfl⟩:=r; rfl
 | str _=>obtain ⟨t,rfl⟩:=r; rfl
 | byt _=>obtain ⟨t,rfl⟩:=r; rfl
 | flt _=>obtain ⟨t,rfl⟩:=r; rfl
 | ref _=>cases r; rfl
 | ty _=>cases r; rfl
theorem aV.inj {x y:V} {u:Value} (r:aV x u) (q:aV y u):x=y:=Option.some.inj (r.abs.symm.trans q.abs)
theorem aP.inj:∀ {xs ys:List V} {us:List Value},aP xs us->aP ys us->xs=ys
 | _,_,_,.nil,.nil=>rfl
 | _,_,_,.cons r t,.cons r' t'=>by rw [r.inj r',aP.inj t t']
section
variable {X:Cx} {pins:List (Addr×Obj)} {σ:St} {H:Hp} {s:Shared} {a:Addr} {xs ys:List V}
theorem SqL.of {K:PySem.W.Frag} (h:H a=some (.lst xs)):SqL K H a xs:=.inl (.inl h)
theorem SqT.of {K:PySem.W.Frag} (h:H a=some (.tup xs)):SqT K H a xs:=.inl (.inl h)
theorem Inv.list (I:Inv X pins σ H s) (h:SqL X.K H a xs):∃ its:List Value,aP xs its/\PlainL s.heap a its.toArray/\xs.length<=sizeLine:=by
 rcases h with h | ⟨o,its,n,hk,hc,hd,hs,hz,r⟩
 ·obtain ⟨z,its,n,r,e⟩:=h.ok I.hok
  exact ⟨its,r,⟨_,n,e,rfl,rfl,rfl⟩,z⟩
 ·refine ⟨its.toList,r,⟨o,n,I.kIn a o hk,hc,hd,by simpa using hs⟩,?_⟩
  have e:=r.length
  simp only [Array.length_toList] at e
  omega
theorem Inv.tuple (I:Inv X pins σ H s) (h:SqT X.K H a xs):∃ its:List Value,aP xs its/\IsTup s.heap a its.toArray/\xs.length<=sizeLine:=by
 rcases h with h | ⟨o,its,n,hk,hc,hs,hz,r⟩
 ·obtain ⟨z,its,r,p⟩:=h.ok I.hok
  exact ⟨its,r,p.1,z⟩
 ·refine ⟨its.toList,r,⟨o,I.kIn a o hk,hc,n,by simpa using hs⟩,?_⟩
  have e:=r.length
  simp only [Array.length_toList] at e
  omega
theorem Inv.list_inj (I:Inv X pins σ H s) (h:SqL X.K H a xs) (h':SqL X.K H a ys):xs=ys:=by
 obtain ⟨its,r,⟨o,n,e,_,_,d⟩,_⟩:=I.list h
 obtain ⟨its',r',⟨o',n',e',_,_,d'⟩,_⟩:=I.list h'
 rw [e] at e'; cases e'
 rw [d] at d'
 injection d' with d1 _
 have:its=its':=by simpa using congrArg Array.toList d1
 subst this
 exact r.inj r'
theorem Inv.tuple_inj (I:Inv X pins σ H s) (h:SqT X.K H a xs) (h':SqT X.K H a ys):xs=ys:=by
 obtain ⟨its,r,⟨o,e,_,n,d⟩,_⟩:=I.tuple h
 obtain ⟨its',r',⟨o',e',_,n',d'⟩,_⟩:=I.tuple h'
 rw [e] at e'; cases e'
 rw [d] at d'
 injection d' with d1 _
 have:its=its':=by simpa using congrArg Array.toList d1
 subst this
 exact r.inj r'
end
abbrev Cx.wish (X:Cx) (E:Value->Shared->Prop):Cx:={ X with xe:=E }
abbrev Cx.nox (X:Cx):Cx:=X.wish fun _ _=>False
theorem Cx.Ok.wish {X:Cx} (ok:X.Ok) (E:Value->Shared->Prop):(X.wish E).Ok:=
 ⟨ok.mod,ok.kind,ok.glob,ok.blt,ok.above,ok.inj,ok.has,ok.cab,ok.hd,ok.frames,ok.stk,ok.exf,ok.bs,ok.bsz,ok.noex,ok.exfs,ok.funs,ok.frf⟩
theorem Cx.Ok.unwish {X:Cx} {E:Value->Shared->Prop} (ok:(X.wish E).Ok):X.Ok:=
 ⟨ok.mod,ok.kind,ok.glob,ok.blt,ok.above,ok.inj,ok.has,ok.cab,ok.hd,ok.frames,ok.stk,ok.exf,ok.bs,ok.bsz,ok.noex,ok.exfs,ok.funs,ok.frf⟩
section
variable {X:Cx} {pins:List (Addr×Obj)} {σ:St} {H:Hp} {s:Shared} {E:Value->Shared->Prop}
theorem Inv.wish (I:Inv X pins σ H s) (E:Value->Shared->Prop):Inv (X.wish E) pins σ H s:=⟨I.ok.wish E,I.os,I.bare,I.base,I.loc,I.cell,I.free,I.freeC,I.pin,I.hok,I.len⟩
theorem Inv.unwish (I:Inv (X.wish E) pins σ H s):Inv X pins σ H s:=⟨I.ok.unwish,I.os,I.bare,I.base,I.loc,I.cell,I.free,I.freeC,I.pin,I.hok,I.len⟩
theorem SP.unwish {D:gm} {f:Flow} {s':Shared} (h:SP (X.wish E) pins D f s'):SP X pins D f s':=by
 cases f with
 | next=>obtain ⟨σ',H',I,q⟩:=h; exact ⟨σ',H',I.unwish,q⟩
 | brk=>obtain ⟨σ',H',I,q⟩:=h; exact ⟨σ',H',I.unwish,q⟩
 | cont=>obtain ⟨σ',H',I,q⟩:=h; exact ⟨σ',H',I.unwish,q⟩
 | ret u=>obtain ⟨v,σ',H',I,r,q⟩:=h; exact ⟨v,σ',H',I.unwish,r,q⟩
theorem PSs.nox {st:List Stmt} {t:TS} (h:PSs X.nox st t):PSs X st t:=fun pins s σ H D I hw=>
 wpAny_mono (h pins s σ H D (I.wish _) hw) (fun _ _ q=>q.unwish) fun _ _ z=>False.elim z
end
section
variable {X:Cx} {st:Stmt} {rest:List Stmt} {t u:TS} {e:Expr} {te:TE} {pos:Pos}
def vM:TS:=fun D σ H=>D.nx σ H
def xO (t u:TS):TS:=fun D σ H=>t { D with nx:=u D } σ H
theorem aN:PSs X [] vM:=fun _ _ σ H _ I h=>wpAny_execs_nil ⟨σ,H,I,h⟩
theorem ah (h1:PS X st t) (h2:PSs X rest u):PSs X (st :: rest) (xO t u):=by
 intro pins s σ H D I h
 refine wpAny_execs_cons (thn (h1 pins s σ H { D with nx:=u D } I h) fun f s1 q=>?_)
 cases f with
 | next=>
  obtain ⟨σ',H',I',q⟩:=q
  exact h2 pins s1 σ' H' D I' q
 | ret v=>exact q
 | brk=>exact q
 | cont=>exact q
theorem aj (h1:PS X st t):PSs X [st] t:=by
 intro pins s σ H D I h
 refine wpAny_execs_cons (thn (h1 pins s σ H D I h) fun f s1 q=>?_)
 cases f with
 | next=>exact wpAny_execs_nil q
 | ret v=>exact q
 | brk=>exact q
 | cont=>exact q
theorem Inv.quiet {pins:List (Addr×Obj)} {σ:St} {H:Hp} {s:Shared} (I:Inv X pins σ H s):interactive X.env=false:=by simp [interactive,I.ok.kind]
def xM (te:TE):TS:=fun D σ H=>te σ H fun _ H1=>D.nx σ H1
theorem eC (he:PE X e te) (hs:swapsWith e none pos.line X.env=pure false:=by rfl):PS X (.Expr e pos) (xM te):=by
 intro pins s σ H D I h
 exact wpAny_Expr_any (thn (he pins s σ H _ I h) fun v s1 ⟨x,H1,I1,r1,q1⟩=>⟨σ,H1,I1,q1⟩) I.quiet hs
def ye (te:TE):TS:=fun D σ H=>te σ H D.rt
theorem aA (he:PE X e te):PS X (.Return (some e) pos) (ye te):=by
 intro pins s σ H D I h
 exact wpAny_Return_some (thn (he pins s σ H _ I h) fun v s1 ⟨x,H1,I1,r1,q1⟩=>⟨x,σ,H1,I1,r1,q1⟩)
def yl (c:TT) (t u:TS):TS:=fun D σ H=>c σ H fun b H1=>if b=true then t D σ H1 else u D σ H1
theorem bi {c:Expr} {a b:List Stmt} {tc:TT} (hc:PT X c tc) (ha:PSs X a t) (hb:PSs X b u):PS X (.If c a b pos) (yl tc t u):=by
 intro pins s σ H D I h
 refine wpAny_If (thn (hc pins s σ H _ I h) fun d s1 ⟨H1,I1,q1⟩=>?_)
 cases d with
 | true=>exact ha pins s1 σ H1 D I1 q1
 | false=>exact hb pins s1 σ H1 D I1 q1
end
abbrev TG:=V->St->Hp->(St->Hp->Prop)->Prop
abbrev TGs:=List V->St->Hp->(St->Hp->Prop)->Prop
def PG (X:Cx) (target:Expr) (t:TG):Prop:=
 ∀ (pins:List (Addr×Obj)) (s:Shared) (σ:St) (H:Hp) (v:V) (u:Value) (Q:St->Hp->Prop),Inv X pins σ H s->aV v u->t v σ H Q ->
  wpAny (model X.prog X.w) X.A (assign target X.env u) (fun _ s'=>∃ σ' H',Inv X pins σ' H' s'/\Q σ' H') X.xe s
def PGs (X:Cx) (ts:List Expr) (t:TGs):Prop:=
 ∀ (pins:List (Addr×Obj)) (s:Shared) (σ:St) (H:Hp) (vs:List V) (us:List Value) (Q:St->Hp->Prop),Inv X pins σ H s->aP vs us->t vs σ H Q ->
  wpAny (model X.prog X.w) X.A (assignInOrder ((assignEach ts X.env).map (·.2)) us) (fun _ s'=>∃ σ' H',Inv X pins σ' H' s'/\Q σ' H') X.xe s
abbrev wZ:=V->V->V->Hp->(Hp->Prop)->Prop
def xH (X:Cx) (t:wZ):Prop:=
 ∀ (pins:List (Addr×Obj)) (s:Shared) (σ:St) (H:Hp) (o i v:V) (ov iv u:Value) (Q:Hp->Prop),Inv X pins σ H s->aV o ov->aV i iv->aV v u->t o i v H Q ->
  wpAny (model X.prog X.w) X.A (setItem ov iv u) (fun _ s'=>∃ H',Inv X pins σ H' s'/\Q H') X.xe s
section
variable {X:Cx} {pos:Pos}
def dB (i:Nat):TG:=fun v σ H Q=>Q (σ.set i (some v)) H
theorem au {i:Nat} {x:Str} (hN:X.N.Nodup) (hi:X.N[i]?=some x) (hx:Loc X.env.scope x) (hf:X.fn x=true\/X.env.scope.names.lookup x=some .local:=by first | exact .inl rfl | exact .inr rfl | assumption):PG X (.Name x pos) (dB i):=by
 intro pins s σ H v u Q I r h
 exact wpAny_assign_Name (nF I hN hi hx r (fun s' I'=>⟨_,H,I',h⟩) hf)
def oj:TGs:=fun vs σ H Q=>vs=[]/\Q σ H
def eV (t:TG) (u:TGs):TGs:=fun vs σ H Q=>∃ v r,vs=v :: r/\t v σ H fun σ' H'=>u r σ' H' Q
theorem bo:PGs X [] oj:=by
 intro pins s σ H vs us Q I r h
 obtain ⟨e,h⟩:=h
 subst e
 cases r
 exact assignInOrder_nil ⟨σ,H,I,h⟩
theorem av {e:Expr} {es:List Expr} {t:TG} {u:TGs} (h1:PG X e t) (h2:PGs X es u)
  (hs:(assignEach (e :: es) X.env).map (·.2)=assign e X.env :: (assignEach es X.env).map (·.2):=by rfl):PGs X (e :: es) (eV t u):=by
 intro pins s σ H vs us Q I r h
 obtain ⟨v,vr,e1,h⟩:=h
 subst e1
 cases r with
 | cons r rr=>
  rw [hs]
  refine assignInOrder_cons (thn (h1 pins s σ H _ _ _ I r h) fun _ s1 ⟨σ1,H1,I1,q1⟩=>?_)
  exact h2 pins s1 σ1 H1 _ _ Q I1 rr q1
def uk (K:PySem.W.Frag) (n:Nat) (t:TGs):TG:=fun v σ H Q=>∃ a xs,v=.ref a/\SqT K H a xs/\xs.length=n/\t xs σ H Q
theorem bD {es:List Expr} {k:Nat} {t:TGs} {n:Nat} (hc:X.calm=true) (h:PGs X es t)
  (hn:(assignEach es X.env).length=n:=by rfl) (hst:(assignEach es X.env).findIdx? (·.1)=none:=by rfl):PG X (.Tuple es k pos) (uk X.K n t):=by
 intro pins s σ H v u Q I r hw
 obtain ⟨a,xs,e1,hq,hl,hw⟩:=hw
 subst e1
 cases r
 obtain ⟨its,rv,ht,hz⟩:=I.tuple hq
 refine assign_Tuple_tuple (I.ok.hd hc) ht (by simp [hn,<- hl,rv.length]) hst fun h' hx=>?_
 have I1:Inv X pins σ H { s with heap:=h' }:=I.kept (t':=s.toks) fun b o e=>hx b o (Nat.ne_of_lt (Heap.lt_size e)) e
 exact h pins _ σ H xs _ Q I1 (by simpa using rv) hw
def ym (to ti:TE) (t:wZ):TG:=fun v σ H Q=>to σ H fun o H1=>ti σ H1 fun i H2=>t o i v H2 fun H3=>Q σ H3
theorem sK {o i:Expr} {to ti:TE} {t:wZ} (ho:PE X o to) (hi:PE X i ti) (hs:xH X t)
  (ha:∀ v,assign (.Subscript o i pos) X.env v=(do
   let ov <- holding [v] (eval o X.env)
   let iv <- holding [v,ov] (eval i X.env)
   standAt pos
   holding [v,ov,iv] (setItem ov iv v)
   release [v,ov,iv] []):=by intro _; rfl):PG X (.Subscript o i pos) (ym to ti t):=by
 intro pins s σ H v u Q I r h
 rw [ha]
 refine wpAny_bind (wpAny_holding (thn (ho pins s σ H _ I h) fun ov s1 ⟨x,H1,I1,r1,q1⟩=>?_))
 refine wpAny_bind (wpAny_holding (thn (hi pins s1 σ H1 _ I1 q1) fun iv s2 ⟨y,H2,I2,r2,q2⟩=>?_))
 refine wpAny_bind (wpAny_standAt (wpAny_bind (wpAny_holding (thn (hs pins s2 σ H2 x y v ov iv u _ I2 r1 r2 r q2) fun _ s3 ⟨H3,I3,q3⟩=>?_))))
 exact wpAny_release ⟨σ,H3,I3,q3⟩
def vV (te:TE) (g:TG):TS:=fun D σ H=>te σ H fun x H1=>g x σ H1 D.nx
theorem iq {tg e:Expr} {te:TE} {g:TG} (he:PE X e te) (hg:PG X tg g) (hs:swapsWithSole [tg] e pos.line X.env=pure false:=by rfl) (hw:swappedStores [tg] e X.env=pure none:=by rfl)
  (h1:(assignEach [tg] X.env).map (·.2)=[assign tg X.env]:=by rfl):PS X (.Assign [tg] e pos) (vV te g):=by
 intro pins s σ H D I h
 refine wpAny_Assign_stores (thn (he pins s σ H _ I h) fun v s1 ⟨x,H1,I1,r1,q1⟩=>?_) hs hw
 rw [h1]
 exact thn (hg pins s1 σ H1 x v _ I1 r1 q1) fun _ s2 q=>q
theorem aT {i:Nat} {x:Str} {e:Expr} {te:TE} {pos':Pos} (hN:X.N.Nodup) (hi:X.N[i]?=some x) (hx:Loc X.env.scope x) (he:PE X e te) (hs:swapsWith e (some (.Name x pos')) pos.line X.env=pure false:=by rfl) (hf:X.fn x=true\/X.env.scope.names.lookup x=some .local:=by first | exact .inl rfl | exact .inr rfl | assumption) :
  PS X (.Assign [.Name x pos'] e pos) (vV te (dB i)):=by
 intro pins s σ H D I h
 refine wpAny_Assign_Name (thn (he pins s σ H _ I h) fun v s1 ⟨y,H1,I1,r1,q1⟩=>?_) hs
 exact nF I1 hN hi hx r1 (fun s2 I2=>⟨_,H1,I2,q1⟩) hf
end
section
variable {X:Cx} {pos:Pos}
def sU (c:TT) (tb:TS):TS:=fun D σ H=>∃ W:Nat->St->Hp->Prop,(∃ m,W m σ H)/\∀ m σ H,W m σ H ->
 c σ H fun b H1=>if b=true then ∃ N:St->Hp->Prop,(∀ σ' H',N σ' H'->∃ m',m' < m/\W m' σ' H')/\tb { D with nx:=N,ct:=N,bk:=D.nx } σ H1 else D.nx σ H1
theorem rC {c:Expr} {body:List Stmt} {tc:TT} {tb:TS} (hp:PassesOwn (model X.prog X.w) X.A X.env X.xe) (hc:PT X c tc) (hb:PSs X body tb):PS X (.While c body [] pos) (sU tc tb):=by
 intro pins s σ H D I h
 obtain ⟨W,⟨m0,w0⟩,turn⟩:=h
 refine wpAny_While (codeAny_whileLoop (fun n s'=>∃ σ' H',Inv X pins σ' H' s'/\W n σ' H') ?_ m0 ⟨σ,H,I,w0⟩)
 rintro n s1 ⟨σ1,H1,I1,w1⟩
 refine wpAny_passesOwn hp (thn (hc pins s1 σ1 H1 _ I1 (turn n σ1 H1 w1)) fun b s2 ⟨H2,I2,q2⟩=>?_)
 cases b with
 | true=>
  obtain ⟨N,hN,q2⟩:=q2
  rw [if_pos rfl]
  refine wpAny_passesOwn hp (thn (hb pins s2 σ1 H2 _ I2 q2) fun f s3 q3=>?_)
  cases f with
  | next=>
   obtain ⟨σ3,H3,I3,n3⟩:=q3
   obtain ⟨m',hm,w3⟩:=hN σ3 H3 n3
   exact ⟨m',hm,σ3,H3,I3,w3⟩
  | cont=>
   obtain ⟨σ3,H3,I3,n3⟩:=q3
   obtain ⟨m',hm,w3⟩:=hN σ3 H3 n3
   exact ⟨m',hm,σ3,H3,I3,w3⟩
  | brk=>exact q3
  | ret v=>exact q3
 | false=>
  rw [if_neg Bool.false_ne_true]
  exact wpAny_execs_nil ⟨σ1,H2,I2,q2⟩
end
structure It where
 go:Nat->Hp->Prop
 yld:Nat->Hp->V->Hp->Prop
 stop:Nat->Hp->Prop
def ja (X:Cx) (pins:List (Addr×Obj)) (H:Hp) (b:Addr):Prop:=
 H b=none/\b≠X.env.locals/\b∉X.fs/\(b∈X.ex\/X.s₀.heap.objs.size<=b)/\(∀ x c,X.env.cells.lookup x=some c->c≠b)/\∀ p∈X.pn ++ pins,p.1≠b
theorem Inv.fpOk {X:Cx} {pins:List (Addr×Obj)} {σ:St} {H H':Hp} {s:Shared} {b:Addr} (I:Inv X pins σ H s) (hb:s.heap.objs.size<=b) (hn:H' b=none):ja X pins H' b:=by
 refine ⟨hn,Nat.ne_of_gt (Nat.lt_of_lt_of_le I.lt hb),I.nofs hb,.inr (Nat.le_trans I.sz hb),fun x c e z=>?_,fun p hp z=>?_⟩
 ·obtain ⟨v,q⟩:=I.cell x c e
  exact absurd (Nat.lt_of_lt_of_le q.lt (by rw [z]; exact hb)) (Nat.lt_irrefl _)
 ·exact absurd (Nat.lt_of_lt_of_le (Heap.lt_size (I.pin p hp).1) (by rw [z]; exact hb)) (Nat.lt_irrefl _)
structure sH (P:Program) (w:World) (K:PySem.W.Frag) (tg:Expr) (J:It) (fp:List Addr) (it:Addr) (tn:Nat->Heap->Prop):Prop where
 mem:it∈fp
 obj:∀ i h,tn i h->∀ b∈fp,∃ o,h.get? b=some o/\∀ v,o.data≠.cell v
 keep:∀ i h h',tn i h->(∀ b∈fp,∀ o,h.get? b=some o->h'.get? b=some o)->tn i h'
 item:∀ (X:Cx),X.prog=P->X.w=w->X.K=K->X.calm=true->∀ (i:Nat) (pins:List (Addr×Obj)) (s:Shared) (σ:St) (H:Hp) (E:Value->Shared->Prop),Inv X pins σ H s->(∀ b∈fp,ja X pins H b)->tn i s.heap->J.go i H ->
  wpAny (model P w) X.A (pyNext (.ref it)) (fun r s1=>∃ u,r=some u /\
   wpAny (model P w) X.A (letOwnedTupleGo tg (.ref it) u) (fun _ s2=>∃ x H',Inv X pins σ H' s2/\aV x u/\J.yld i H x H'/\tn (i + 1) s2.heap/\∀ b∈fp,H' b=none) E s1) E s
 done:∀ (X:Cx),X.prog=P->X.w=w->X.K=K->X.calm=true->∀ (i:Nat) (pins:List (Addr×Obj)) (s:Shared) (σ:St) (H:Hp) (E:Value->Shared->Prop),Inv X pins σ H s->(∀ b∈fp,ja X pins H b)->tn i s.heap->J.stop i H ->
  wpAny (model P w) X.A (pyNext (.ref it)) (fun r s1=>r=none/\Inv X pins σ H s1) E s
 self:∀ (A:Around) (i:Nat) (s:Shared) (Q:Value->Shared->Prop) (E:Value->Shared->Prop),tn i s.heap->Q (.ref it) s->wpAny (model P w) A (pyIter (.ref it)) Q E s
abbrev TI:=St->Hp->(It->Hp->Prop)->Prop
def PIE (X:Cx) (pins:List (Addr×Obj)) (σ:St) (tg:Expr) (R:It->Hp->Prop) (itv:Value) (s2:Shared):Prop:=
 ∃ (it:Addr) (fp:List Addr) (tn:Nat->Heap->Prop) (J:It) (H':Hp),itv=.ref it/\Inv X pins σ H' s2/\sH X.prog X.w X.K tg J fp it tn/\tn 0 s2.heap/\(∀ b∈fp,ja X pins H' b)/\R J H'
def PI (X:Cx) (tg iter:Expr) (wi:TI):Prop:=
 ∀ (pins:List (Addr×Obj)) (s:Shared) (σ:St) (H:Hp) (R:It->Hp->Prop),Inv X pins σ H s->wi σ H R ->
  wpAny (model X.prog X.w) X.A (eval iter X.env) (fun v s1=>wpAny (model X.prog X.w) X.A (pyIter v) (PIE X pins σ tg R) X.xe s1) X.xe s
theorem rJ {M:Model} {A:Around} {E:Value->Shared->Prop} {s:Shared} {tg:Expr} {it:Addr} {u:Value} {o:Obj} {n:String} {vs:Array Value} {Q:Unit->Shared->Prop} (ho:s.heap.get? it=some o) (hc:o.cls=.type n) (hd:o.data=.fields vs)
  (hn:["enumerate","zip","dict_itemiterator","dict_reverseitemiterator","odict_iterator","itertools.zip_longest","itertools.pairwise"].contains n=false) (hQ:Q () s):wpAny M A (letOwnedTupleGo tg (.ref it) u) Q E s:=by
 unfold letOwnedTupleGo
 cases tg <;> first
  | exact wpAny_pure hQ
  | (cases u <;> first
    | exact wpAny_pure hQ
    | (refine wpAny_bind (wpAny_load ho ?_)
       rw [hc,hd]
       show wpAny M A (if (["enumerate","zip","dict_itemiterator","dict_reverseitemiterator","odict_iterator","itertools.zip_longest","itertools.pairwise"].contains n && vs[0]? == some (rawInt _))=true then _ else _) Q E s
       rw [if_neg (by intro h; rw [hn,Bool.false_and] at h; cases h)]
       exact wpAny_pure hQ))
def Itl (K:PySem.W.Frag) (a:Addr):It:=
 ⟨fun i H=>∃ xs x,SqL K H a xs/\xs[i]?=some x,fun i H x H'=>H'=H/\∀ xs,SqL K H a xs->xs[i]?=some x,fun i H=>∃ xs,SqL K H a xs/\xs.length<=i⟩
def Itt (K:PySem.W.Frag) (a:Addr):It:=
 ⟨fun i H=>∃ xs x,SqT K H a xs/\xs[i]?=some x,fun i H x H'=>H'=H/\∀ xs,SqT K H a xs->xs[i]?=some x,fun i H=>∃ xs,SqT K H a xs/\xs.length<=i⟩
def Itr (lo:Int) (n:Nat):It:=⟨fun i _=>i < n,fun i H x H'=>H'=H/\x=.int (lo + i),fun i _=>n<=i⟩
theorem qk {P:Program} {w:World} {K:PySem.W.Frag} {tg:Expr} (a it:Addr):sH P w K tg (Itl K a) [it] it (fun i h=>h.IsListIter it a i) where
 mem:=by simp
 obj:=fun i h st b hb=>by
  have e:b=it:=by simpa using hb
  subst e
  obtain ⟨o,e,c,d⟩:=st
  exact ⟨o,e,fun v z=>by rw [d] at z; cases z⟩
 keep:=fun i h h' st k=>st.at fun o e=>k it (by simp) o e
 item:=by
  intro X hP hw hK hc i pins s σ H E I hf st hg
  subst hP hw hK
  obtain ⟨xs,x,hq,hx⟩:=hg
  obtain ⟨its,rv,p,hz⟩:=I.list hq
  obtain ⟨u,hu,ru⟩:=rv.get hx
  obtain ⟨f0,f1,f2,f3,f4,f5⟩:=hf it (by simp)
  refine wpAny_pyNext_list_item st p.isList (x:=u) (by simpa using hu) fun h' st' sb=>?_
  have I1:Inv X pins σ H { s with heap:=h' }:=I.turned (t':=s.toks) (fun b o hb e=>(sb.2 b hb).trans e) f0 f1 f3 f4 f5
  obtain ⟨o,e,c,d⟩:=id st'
  exact ⟨u,rfl,rJ (s:={ s with heap:=h' }) e c d (by decide) ⟨x,H,I1,ru,⟨rfl,fun ys hy=>by rw [I.list_inj hy hq]; exact hx⟩,st',fun b hb=>(hf b hb).1⟩⟩
 done:=by
  intro X hP hw hK hc i pins s σ H E I hf st hg
  subst hP hw hK
  obtain ⟨xs,hq,hx⟩:=hg
  obtain ⟨its,rv,p,hz⟩:=I.list hq
  obtain ⟨f0,f1,f2,f3,f4,f5⟩:=hf it (by simp)
  have hl:=rv.length
  exact wpAny_pyNext_list_end (I.ok.hd hc) st p.isList (by simp; omega) fun h' eb=>⟨rfl,I.turned (t':=s.toks) (fun b o hb e=>eb b o hb e) f0 f1 f3 f4 f5⟩
 self:=fun _ _ _ _ _ st h=>wpAny_pyIter_listiter st h
theorem ou {P:Program} {w:World} {K:PySem.W.Frag} {tg:Expr} (a it:Addr):sH P w K tg (Itt K a) [it] it (fun i h=>h.IsTupleIter it a i) where
 mem:=by simp
 obj:=fun i h st b hb=>by
  have e:b=it:=by simpa using hb
  subst e
  obtain ⟨o,e,c,d⟩:=st
  exact ⟨o,e,fun v z=>by rw [d] at z; cases z⟩
 keep:=fun i h h' st k=>st.at fun o e=>k it (by simp) o e
 item:=by
  intro X hP hw hK hc i pins s σ H E I hf st hg
  subst hP hw hK
  obtain ⟨xs,x,hq,hx⟩:=hg
  obtain ⟨its,rv,p,hz⟩:=I.tuple hq
  obtain ⟨u,hu,ru⟩:=rv.get hx
  obtain ⟨f0,f1,f2,f3,f4,f5⟩:=hf it (by simp)
  refine wpAny_pyNext_tuple_item st (show s.heap.IsTuple a its.toArray from p) (x:=u) (by simpa using hu) fun h' st' sb=>?_
  have I1:Inv X pins σ H { s with heap:=h' }:=I.turned (t':=s.toks) (fun b o hb e=>(sb.2 b hb).trans e) f0 f1 f3 f4 f5
  obtain ⟨o,e,c,d⟩:=id st'
  exact ⟨u,rfl,rJ (s:={ s with heap:=h' }) e c d (by decide) ⟨x,H,I1,ru,⟨rfl,fun ys hy=>by rw [I.tuple_inj hy hq]; exact hx⟩,st',fun b hb=>(hf b hb).1⟩⟩
 done:=by
  intro X hP hw hK hc i pins s σ H E I hf st hg
  subst hP hw hK
  obtain ⟨xs,hq,hx⟩:=hg
  obtain ⟨its,rv,p,hz⟩:=I.tuple hq
  obtain ⟨f0,f1,f2,f3,f4,f5⟩:=hf it (by simp)
  have hl:=rv.length
  exact wpAny_pyNext_tuple_end (I.ok.hd hc) st (show s.heap.IsTuple a its.toArray from p) (by simp; omega) fun h' eb=>⟨rfl,I.turned (t':=s.toks) (fun b o hb e=>eb b o hb e) f0 f1 f3 f4 f5⟩
 self:=fun _ _ _ _ _ st h=>wpAny_pyIter_tupleiter st h
theorem nV {P:Program} {w:World} {K:PySem.W.Frag} {tg:Expr} (it:Addr) (lo:Int) (n:Nat):sH P w K tg (Itr lo n) [it] it (fun i h=>IsRangeIter h it (lo + (i:Nat) * 1) ((n:Int) - (i:Nat)) 1) where
 mem:=by simp
 obj:=fun i h st b hb=>by
  have e:b=it:=by simpa using hb
  subst e
  exact ⟨_,st,fun v z=>by
   have z':Data.fields _=Data.cell v:=z
   cases z'⟩
 keep:=fun i h h' st k=>k it (by simp) _ st
 item:=by
  intro X hP hw hK hc i pins s σ H E I hf st hg
  subst hP hw hK
  obtain ⟨f0,f1,f2,f3,f4,f5⟩:=hf it (by simp)
  have W:=Walks.range (prog:=X.prog) (w:=X.w) (I.ok.hd hc) it lo 1 n
  refine W.item i s _ _ hg st fun v h' tk hv st' kk=>?_
  obtain ⟨t,rfl⟩:=hv
  have I1:Inv X pins σ H { s with heap:=h',toks:=tk }:=I.turned (fun b o hb e=>kk b o (by simpa using hb) e) f0 f1 f3 f4 f5
  refine ⟨_,rfl,rJ (s:={ s with heap:=h',toks:=tk }) (n:="range_iterator") st' rfl rfl (by decide) ⟨.int (lo + i),H,I1,⟨t,?_⟩,⟨rfl,rfl⟩,st',fun b hb=>(hf b hb).1⟩⟩
  rw [Int.mul_one]
 done:=by
  intro X hP hw hK hc i pins s σ H E I hf st hg
  subst hP hw hK
  obtain ⟨f0,f1,f2,f3,f4,f5⟩:=hf it (by simp)
  exact wpAny_pyNext_range_end (I.ok.hd hc) st (by have:n<=i:=hg; omega) fun h' eb=>⟨rfl,I.turned (t':=s.toks) (fun b o hb e=>eb b o hb e) f0 f1 f3 f4 f5⟩
 self:=fun _ _ _ _ _ st h=>wpAny_pyIter_rangeiter st h
section
variable {X:Cx} {tg:Expr}
def xI (K:PySem.W.Frag) (tl:TE):TI:=fun σ H R=>tl σ H fun x H1=>∃ a,x=.ref a/\(∃ xs,SqL K H1 a xs)/\R (Itl K a) H1
def yF (K:PySem.W.Frag) (tl:TE):TI:=fun σ H R=>tl σ H fun x H1=>∃ a,x=.ref a/\(∃ xs,SqT K H1 a xs)/\R (Itt K a) H1
theorem hE {l:Expr} {tl:TE} (hl:PE X l tl):PI X tg l (xI X.K tl):=by
 intro pins s σ H R I h
 refine thn (hl pins s σ H _ I h) fun v s1 ⟨x,H1,I1,r1,q1⟩=>?_
 obtain ⟨a,e,⟨xs,hq⟩,q⟩:=q1
 subst e
 cases r1
 obtain ⟨its,rv,p,hz⟩:=I1.list hq
 refine wpAny_pyIter_list p.isList ?_
 refine ⟨s1.heap.objs.size,[s1.heap.objs.size],_,_,H1,rfl,I1.kept (t':=s1.toks) fun b o e=>Heap.get?_push_of_some _ e,qk a _,⟨_,Heap.get?_push_size _ rfl,rfl,rfl⟩,fun b hb=>?_,q⟩
 have e:b=s1.heap.objs.size:=by simpa using hb
 subst e
 exact I1.fpOk (Nat.le_refl _) (I1.hok.fresh (Nat.le_refl _))
theorem bQ {l:Expr} {tl:TE} (hl:PE X l tl):PI X tg l (yF X.K tl):=by
 intro pins s σ H R I h
 refine thn (hl pins s σ H _ I h) fun v s1 ⟨x,H1,I1,r1,q1⟩=>?_
 obtain ⟨a,e,⟨xs,hq⟩,q⟩:=q1
 subst e
 cases r1
 obtain ⟨its,rv,p,hz⟩:=I1.tuple hq
 refine wpAny_pyIter_tuple (show s1.heap.IsTuple a its.toArray from p) ?_
 refine ⟨s1.heap.objs.size,[s1.heap.objs.size],_,_,H1,rfl,I1.kept (t':=s1.toks) fun b o e=>Heap.get?_push_of_some _ e,ou a _,⟨_,Heap.get?_push_size _ rfl,rfl,rfl⟩,fun b hb=>?_,q⟩
 have e:b=s1.heap.objs.size:=by simpa using hb
 subst e
 exact I1.fpOk (Nat.le_refl _) (I1.hok.fresh (Nat.le_refl _))
theorem mR {pins:List (Addr×Obj)} {σ:St} {H:Hp} {s:Shared} {R:It->Hp->Prop} {E:Value->Shared->Prop} {lo hi:Int} {t u v:Tok} {tk:Nat} (I:Inv X pins σ H s) (h1:-(2 ^ 62)<=lo) (h2:lo < 2 ^ 62) (h3:-(2 ^ 62)<=hi) (h4:hi < 2 ^ 62)
  (q:R (Itr lo (hi - lo).toNat) H):wpAny (model X.prog X.w) X.A (pyIter (.ref s.heap.objs.size)) (PIE X pins σ tg R) E { s with heap:=s.heap.push { cls:=.type "range",data:=.fields #[.int lo t,.int hi u,.int 1 v] },toks:=tk }:=by
 refine wpAny_pyIter_range (IsRange.new ..) (small_one h1 h2 h3 h4) ?_
 have I1:Inv X pins σ H { s with heap:=s.heap.push { cls:=.type "range",data:=.fields #[.int lo t,.int hi u,.int 1 v] },toks:=tk }:=I.kept fun b o e=>Heap.get?_push_of_some _ e
 refine ⟨(s.heap.push { cls:=.type "range",data:=.fields #[.int lo t,.int hi u,.int 1 v] }).objs.size,[(s.heap.push { cls:=.type "range",data:=.fields #[.int lo t,.int hi u,.int 1 v] }).objs.size],_,_,H,rfl,
  I1.kept (t':=tk) fun b o e=>Heap.get?_push_of_some _ e,nV _ lo (hi - lo).toNat,?_,fun b hb=>?_,q⟩
 ·have e1:lo + ((0:Nat):Int) * 1=lo:=by simp
  have e2:(((hi - lo).toNat:Nat):Int) - ((0:Nat):Int)=Builtin.Range.rangeSize lo hi 1:=by rw [rangeSize_one]; split <;> omega
  show IsRangeIter _ _ (lo + ((0:Nat):Int) * 1) ((((hi - lo).toNat:Nat):Int) - ((0:Nat):Int)) 1
  rw [e1,e2]
  exact Heap.get?_push_size _ rfl
 ·have e:b=(s.heap.push { cls:=.type "range",data:=.fields #[.int lo t,.int hi u,.int 1 v] }).objs.size:=by simpa using hb
  subst e
  exact I1.fpOk (Nat.le_refl _) (I1.hok.fresh (Nat.le_refl _))
def xU (ta:TA):TI:=fun σ H R=>ta σ H fun vs H1=>∃ j:Int,vs=[.int j]/\-(2 ^ 62)<=j/\j < 2 ^ 62/\R (Itr 0 j.toNat) H1
def xD (ta:TA):TI:=fun σ H R=>ta σ H fun vs H1=>∃ i j:Int,vs=[.int i,.int j]/\(-(2 ^ 62)<=i/\i < 2 ^ 62/\-(2 ^ 62)<=j/\j < 2 ^ 62)/\R (Itr i (j - i).toNat) H1
theorem gj {a:Expr} {ta:TA} {p pos:Pos} (hg:Gl X "range") (hm:X.mg "range"=none) (ha:PA X [a] ta) (hs:starEach [a] X.env=[(false,eval a X.env)]:=by rfl):PI X tg (.Call (.Name "range" p) [a] [] pos) (xU ta):=by
 intro pins s σ H R I h
 refine Call_ (iQ I hg hm boot_range (PyProof.Rows.callWith_type1 (thn (ha pos pins s σ H _ I h) fun us s1 ⟨vs,H1,I1,r1,q1⟩=>?_) hs rfl))
 obtain ⟨j,e,q1,q2,q⟩:=q1
 subst e
 cases r1 with
 | cons r rr=>
  cases rr
  obtain ⟨t,rfl⟩:=r
  exact call_range_1 (mR I1 (by omega) (by omega) q1 q2 (by simpa using q))
theorem qZ {a b:Expr} {ta:TA} {p pos:Pos} (hg:Gl X "range") (hm:X.mg "range"=none) (ha:PA X [a,b] ta) (hs:starEach [a,b] X.env=[(false,eval a X.env),(false,eval b X.env)]:=by rfl) (hs2:starEach [b] X.env=[(false,eval b X.env)]:=by rfl) :
  PI X tg (.Call (.Name "range" p) [a,b] [] pos) (xD ta):=by
 intro pins s σ H R I h
 refine Call_ (iQ I hg hm boot_range (PyProof.Rows.callWith_type1 (thn (ha pos pins s σ H _ I h) fun us s1 ⟨vs,H1,I1,r1,q1⟩=>?_) (by rw [hs,hs2]) (by rw [hs2]; rfl)))
 obtain ⟨i,j,e,⟨q1,q2,q3,q4⟩,q⟩:=q1
 subst e
 cases r1 with
 | cons r rr=>
  cases rr with
  | cons r' rr=>
   cases rr
   obtain ⟨t,rfl⟩:=r
   obtain ⟨t',rfl⟩:=r'
   exact call_range_2 (mR I1 q1 q2 q3 q4 q)
def yv (wi:TI) (g:TG) (tb:TS):TS:=fun D σ H=>wi σ H fun J H1=>∃ W:Nat->Nat->St->Hp->Prop,(∃ m,W 0 m σ H1)/\∀ i m σ H,W i m σ H ->
 (J.stop i H/\D.nx σ H)\/(J.go i H/\∃ N:St->Hp->Prop,(∀ σ' H',N σ' H'->∃ m',m' < m/\W (i + 1) m' σ' H')/\∀ x H',J.yld i H x H'->g x σ H' fun σ2 H2=>tb { D with nx:=N,ct:=N,bk:=D.nx } σ2 H2)
def iV (fp:List Addr) (h:Heap):List (Addr×Obj):=fp.filterMap fun b=>(h.get? b).map fun o=>(b,o)
theorem dG {fp:List Addr} {h:Heap} {b:Addr} {o:Obj} (hb:b∈fp) (e:h.get? b=some o):(b,o)∈iV fp h:=List.mem_filterMap.mpr ⟨b,hb,by rw [e]; rfl⟩
theorem qy {fp:List Addr} {h:Heap} {p:Addr×Obj} (hp:p∈iV fp h):p.1∈fp/\h.get? p.1=some p.2:=by
 obtain ⟨b,hb,e⟩:=List.mem_filterMap.mp hp
 cases q:h.get? b with
 | none=>rw [q] at e; cases e
 | some o=>
  rw [q] at e
  have e':(b,o)=p:=Option.some.inj e
  subst e'
  exact ⟨hb,q⟩
theorem Inv.pinned {pins:List (Addr×Obj)} {σ:St} {H:Hp} {s:Shared} {fp:List Addr} (I:Inv X pins σ H s) (hf:∀ b∈fp,ja X pins H b) (ho:∀ b∈fp,∃ o,s.heap.get? b=some o/\∀ v,o.data≠.cell v):Inv X (pins ++ iV fp s.heap) σ H s:=
 I.pins_of fun p hp=>(List.mem_append.mp hp).elim (fun z=>I.pin p (List.mem_append_right _ z)) fun z=>by
  obtain ⟨hb,e⟩:=qy z
  obtain ⟨f0,f1,f2,_⟩:=hf p.1 hb
  obtain ⟨o,e',d⟩:=ho p.1 hb
  rw [e] at e'; cases e'
  exact ⟨e,f0,f1,f2,d⟩
theorem Inv.unpinned {pins pl:List (Addr×Obj)} {σ:St} {H:Hp} {s:Shared} (I:Inv X (pins ++ pl) σ H s):Inv X pins σ H s:=I.pins_of fun p hp=>I.pin p (List.mem_append_right _ (List.mem_append_left _ hp))
theorem bW {iter:Expr} {body:List Stmt} {wi:TI} {g:TG} {tb:TS} {pos:Pos} (hp:PassesOwn (model X.prog X.w) X.A X.env X.xe) (hc:X.calm=true) (hi:PI X tg iter wi) (hg:PG X tg g) (hb:PSs X body tb)
  (hs:∀ x,foldedSetIterable iter X.env x=pure x:=by intro _; rfl):PS X (.For tg iter body [] pos) (yv wi g tb):=by
 intro pins s σ H D I h
 refine wpAny_For (thn (hi pins s σ H _ I h) fun v s1 h1=>thn h1 fun itv s2 h2=>?_) hs
 obtain ⟨it,fp,tn,J,H2,e,I2,T,st2,f2,W,⟨m0,w0⟩,turn⟩:=h2
 subst e
 have stat:∀ {H':Hp},(∀ b∈fp,H' b=none)->∀ b∈fp,ja X pins H' b:=fun hn b hb=>⟨hn b hb,(f2 b hb).2⟩
 refine codeAny_forLoop_any (fun n s'=>∃ i σ' H',Inv X pins σ' H' s'/\tn i s'.heap/\(∀ b∈fp,H' b=none)/\W i n σ' H') ?_ m0 ⟨0,σ,H2,I2,st2,fun b hb=>(f2 b hb).1,w0⟩
 rintro n s3 ⟨i,σ3,H3,I3,st3,fr3,w3⟩
 rcases turn i n σ3 H3 w3 with ⟨stop,qn⟩ | ⟨go,N,hN,step⟩
 ·refine wpAny_passesOwn hp (thn (T.done X rfl rfl rfl hc i pins s3 σ3 H3 X.xe I3 (stat fr3) st3 stop) fun r s4 ⟨hr,I4⟩=>?_)
  subst hr
  exact wpAny_execs_nil ⟨σ3,H3,I4,qn⟩
 ·refine wpAny_passesOwn hp (thn (T.item X rfl rfl rfl hc i pins s3 σ3 H3 X.xe I3 (stat fr3) st3 go) fun r s4 ⟨u,hr,h4⟩=>?_)
  subst hr
  refine wpAny_passesOwn hp (thn h4 fun _ s5 ⟨x,H5,I5,r5,y5,st5,fr5⟩=>?_)
  have I5':=I5.pinned (stat fr5) (T.obj _ _ st5)
  refine wpAny_passesOwn hp (thn (hg _ s5 σ3 H5 x u _ I5' r5 (step x H5 y5)) fun _ s6 ⟨σ6,H6,I6,q6⟩=>?_)
  refine wpAny_passesOwn hp (thn (hb _ s6 σ6 H6 _ I6 q6) fun f s7 q7=>?_)
  have again:∀ {σ7:St} {H7:Hp},Inv X (pins ++ iV fp s5.heap) σ7 H7 s7->N σ7 H7->∃ m,m < n/\∃ i σ' H',Inv X pins σ' H' s7/\tn i s7.heap/\(∀ b∈fp,H' b=none)/\W i m σ' H':=fun {σ7 H7} I7 n7=>by
   obtain ⟨m',hm,w7⟩:=hN σ7 H7 n7
   refine ⟨m',hm,i + 1,σ7,H7,I7.unpinned,T.keep _ _ _ st5 fun b hb o e=>(I7.pin (b,o) (List.mem_append_right _ (List.mem_append_right _ (dG hb e)))).1,fun b hb=>?_,w7⟩
   obtain ⟨o,e,d⟩:=T.obj _ _ st5 b hb
   exact (I7.pin (b,o) (List.mem_append_right _ (List.mem_append_right _ (dG hb e)))).2.1
  cases f with
  | next=>obtain ⟨σ7,H7,I7,n7⟩:=q7; exact again I7 n7
  | cont=>obtain ⟨σ7,H7,I7,n7⟩:=q7; exact again I7 n7
  | brk=>obtain ⟨σ7,H7,I7,q7⟩:=q7; exact ⟨σ7,H7,I7.unpinned,q7⟩
  | ret v=>obtain ⟨x7,σ7,H7,I7,r7,q7⟩:=q7; exact ⟨x7,σ7,H7,I7.unpinned,r7,q7⟩
end
theorem fF {K:PySem.W.Frag} {a:Addr} {xs:List V} {g:TG} {tb:TS} {D:gm} {σ:St} {H:Hp} (Pv:Nat->St->Hp->Prop) (h0:Pv 0 σ H) (hl:∀ i σ H,i<=xs.length->Pv i σ H->SqL K H a xs)
  (hs:∀ i x σ H,xs[i]?=some x->Pv i σ H->g x σ H fun σ2 H2=>tb { D with nx:=Pv (i + 1),ct:=Pv (i + 1),bk:=D.nx } σ2 H2) (hd:∀ σ H,Pv xs.length σ H->D.nx σ H) :
  ∃ W:Nat->Nat->St->Hp->Prop,(∃ m,W 0 m σ H)/\∀ i m σ H,W i m σ H ->
   ((Itl K a).stop i H/\D.nx σ H)\/((Itl K a).go i H/\∃ N:St->Hp->Prop,(∀ σ' H',N σ' H'->∃ m',m' < m/\W (i + 1) m' σ' H')/\∀ x H',(Itl K a).yld i H x H'->g x σ H' fun σ2 H2=>tb { D with nx:=N,ct:=N,bk:=D.nx } σ2 H2):=by
 refine ⟨fun i m σ H=>m=xs.length - i/\i<=xs.length/\Pv i σ H,⟨xs.length,by simp,Nat.zero_le _,h0⟩,?_⟩
 rintro i m σ H ⟨rfl,hi,p⟩
 have q:=hl i σ H hi p
 by_cases hlt:i < xs.length
 ·refine .inr ⟨⟨xs,xs[i],q,by simp [hlt]⟩,Pv (i + 1),fun σ' H' p'=>⟨xs.length - (i + 1),by omega,rfl,hlt,p'⟩,fun x H' y=>?_⟩
  obtain ⟨e,y⟩:=y
  subst e
  exact hs i x σ _ (y xs q) p
 ·have e:i=xs.length:=by omega
  subst e
  exact .inl ⟨⟨xs,q,Nat.le_refl _⟩,hd σ H p⟩
theorem cV {K:PySem.W.Frag} {a:Addr} {xs:List V} {g:TG} {tb:TS} {D:gm} {σ:St} {H:Hp} (Pv:Nat->St->Hp->Prop) (h0:Pv 0 σ H) (hl:∀ i σ H,i<=xs.length->Pv i σ H->SqT K H a xs)
  (hs:∀ i x σ H,xs[i]?=some x->Pv i σ H->g x σ H fun σ2 H2=>tb { D with nx:=Pv (i + 1),ct:=Pv (i + 1),bk:=D.nx } σ2 H2) (hd:∀ σ H,Pv xs.length σ H->D.nx σ H) :
  ∃ W:Nat->Nat->St->Hp->Prop,(∃ m,W 0 m σ H)/\∀ i m σ H,W i m σ H ->
   ((Itt K a).stop i H/\D.nx σ H)\/((Itt K a).go i H/\∃ N:St->Hp->Prop,(∀ σ' H',N σ' H'->∃ m',m' < m/\W (i + 1) m' σ' H')/\∀ x H',(Itt K a).yld i H x H'->g x σ H' fun σ2 H2=>tb { D with nx:=N,ct:=N,bk:=D.nx } σ2 H2):=by
 refine ⟨fun i m σ H=>m=xs.length - i/\i<=xs.length/\Pv i σ H,⟨xs.length,by simp,Nat.zero_le _,h0⟩,?_⟩
 rintro i m σ H ⟨rfl,hi,p⟩
 have q:=hl i σ H hi p
 by_cases hlt:i < xs.length
 ·refine .inr ⟨⟨xs,xs[i],q,by simp [hlt]⟩,Pv (i + 1),fun σ' H' p'=>⟨xs.length - (i + 1),by omega,rfl,hlt,p'⟩,fun x H' y=>?_⟩
  obtain ⟨e,y⟩:=y
  subst e
  exact hs i x σ _ (y xs q) p
 ·have e:i=xs.length:=by omega
  subst e
  exact .inl ⟨⟨xs,q,Nat.le_refl _⟩,hd σ H p⟩
theorem jt {lo:Int} {n:Nat} {g:TG} {tb:TS} {D:gm} {σ:St} {H:Hp} (Pv:Nat->St->Hp->Prop) (h0:Pv 0 σ H)
  (hs:∀ i σ H,i < n->Pv i σ H->g (.int (lo + i)) σ H fun σ2 H2=>tb { D with nx:=Pv (i + 1),ct:=Pv (i + 1),bk:=D.nx } σ2 H2) (hd:∀ σ H,Pv n σ H->D.nx σ H) :
  ∃ W:Nat->Nat->St->Hp->Prop,(∃ m,W 0 m σ H)/\∀ i m σ H,W i m σ H ->
   ((Itr lo n).stop i H/\D.nx σ H)\/((Itr lo n).go i H/\∃ N:St->Hp->Prop,(∀ σ' H',N σ' H'->∃ m',m' < m/\W (i + 1) m' σ' H')/\∀ x H',(Itr lo n).yld i H x H'->g x σ H' fun σ2 H2=>tb { D with nx:=N,ct:=N,bk:=D.nx } σ2 H2):=by
 refine ⟨fun i m σ H=>m=n - i/\i<=n/\Pv i σ H,⟨n,by simp,Nat.zero_le _,h0⟩,?_⟩
 rintro i m σ H ⟨rfl,hi,p⟩
 by_cases hlt:i < n
 ·refine .inr ⟨hlt,Pv (i + 1),fun σ' H' p'=>⟨n - (i + 1),by omega,rfl,hlt,p'⟩,fun x H' y=>?_⟩
  obtain ⟨e,y⟩:=y
  subst e y
  exact hs i σ _ hlt p
 ·have e:i=n:=by omega
  subst e
  exact .inl ⟨Nat.le_refl _,hd σ H p⟩
abbrev R2:=V->V->Hp->VK->Prop
def OpR (X:Cx) (f:Value->Value->Sem Value) (r:R2):Prop:=
 ∀ (pins:List (Addr×Obj)) (s:Shared) (σ:St) (H:Hp) (x y:V) (v u:Value) (Q:VK),Inv X pins σ H s->aV x v->aV y u->r x y H Q ->
  wpAny (model X.prog X.w) X.A (f v u) (EP X pins σ Q) X.xe s
def UnR (X:Cx) (f:Value->Sem Value) (r:V->Hp->VK->Prop):Prop:=
 ∀ (pins:List (Addr×Obj)) (s:Shared) (σ:St) (H:Hp) (x:V) (v:Value) (Q:VK),Inv X pins σ H s->aV x v->r x H Q ->
  wpAny (model X.prog X.w) X.A (f v) (EP X pins σ Q) X.xe s
def bM (X:Cx) (f:Value) (r:List V->Hp->VK->Prop):Prop:=
 ∀ (pins:List (Addr×Obj)) (s:Shared) (σ:St) (H:Hp) (xs:List V) (us:List Value) (Q:VK),Inv X pins σ H s->aP xs us->r xs H Q ->
  wpAny (model X.prog X.w) X.A (call f us) (EP X pins σ Q) X.xe s
def tOp (r:R2) (ta tb:TE):TE:=fun σ H Q=>ta σ H fun x H1=>tb σ H1 fun y H2=>r x y H2 Q
def tUn (r:V->Hp->VK->Prop) (ta:TE):TE:=fun σ H Q=>ta σ H fun x H1=>r x H1 Q
def rI (C:Int->Int->Prop) (g:Int->Int->V):R2:=fun x y H Q=>∃ i j,x=.int i/\y=.int j/\C i j/\Q (g i j) H
def rI0 (g:Int->Int->V):R2:=fun x y H Q=>∃ i j,x=.int i/\y=.int j/\Q (g i j) H
def rU (g:Int->V):V->Hp->VK->Prop:=fun x H Q=>∃ i,x=.int i/\Q (g i) H
section
variable {X:Cx} {a b c:Expr} {ta tb tc:TE} {pos:Pos}
theorem wl (ha:PE X a ta) (hb:PE X b tb) {pins:List (Addr×Obj)} {s:Shared} {σ:St} {H:Hp} {R:V->V->Hp->Prop} (I:Inv X pins σ H s)
  (h:ta σ H fun x H1=>tb σ H1 fun y H2=>R x y H2) {Q:Value->Shared->Prop} {f:Value->Value->Sem Value}
  (hf:∀ v u s2 x y H2,Inv X pins σ H2 s2->aV x v->aV y u->R x y H2->wpAny (model X.prog X.w) X.A (f v u) Q X.xe s2) :
  wpAny (model X.prog X.w) X.A (eval a X.env) (fun v s₁=>wpAny (model X.prog X.w) X.A (eval b X.env) (fun u s₂=>wpAny (model X.prog X.w) X.A (f v u) Q X.xe s₂) X.xe s₁) X.xe s:=by
 refine thn (ha pins s σ H _ I h) fun v s1 ⟨x,H1,I1,r1,q1⟩=>?_
 refine thn (hb pins s1 σ H1 _ I1 q1) fun u s2 ⟨y,H2,I2,r2,q2⟩=>?_
 exact hf v u s2 x y H2 I2 r1 r2 q2
theorem aQ {op:Operator} {r:R2} (ho:OpR X (binaryOp op) r) (ha:PE X a ta) (hb:PE X b tb):PE X (.BinOp a op b pos) (tOp r ta tb):=by
 intro pins s σ H Q I h
 exact wpAny_BinOp (wl ha hb I h fun v u s2 x y H2 I2 rx ry q=>ho pins s2 σ H2 x y v u Q I2 rx ry q)
theorem sv {op:UnaryOp} {r:V->Hp->VK->Prop} (ho:UnR X (unaryOp op) r) (ha:PE X a ta):PE X (.UnaryOp op a pos) (tUn r ta):=by
 intro pins s σ H Q I h
 exact UnaryOp_ (thn (ha pins s σ H _ I h) fun v s1 ⟨x,H1,I1,r1,q1⟩=>ho pins s1 σ H1 x v Q I1 r1 q1)
theorem opI {f:Value->Value->Sem Value} {C:Int->Int->Prop} {g:Int->Int->Int}
  (rule:∀ (i j:Int) (t u:Tok) (s:Shared) (Q:Value->Shared->Prop) (E:Value->Shared->Prop),C i j->Q (.int (g i j) s.toks) { s with toks:=s.toks + 1 }->wpAny (model X.prog X.w) X.A (f (.int i t) (.int j u)) Q E s) :
  OpR X f (rI C fun i j=>.int (g i j)):=by
 intro pins s σ H x y v u Q I rx ry h
 obtain ⟨i,j,rfl,rfl,hc,q⟩:=h
 obtain ⟨t,rfl⟩:=rx
 obtain ⟨t',rfl⟩:=ry
 exact rule i j t t' s _ _ hc ⟨.int (g i j),H,I.tok _,⟨_,rfl⟩,q⟩
theorem yA {f:Value->Value->Sem Value} {g:Int->Int->Int}
  (rule:∀ (i j:Int) (t u:Tok) (s:Shared) (Q:Value->Shared->Prop) (E:Value->Shared->Prop),Q (.int (g i j) s.toks) { s with toks:=s.toks + 1 }->wpAny (model X.prog X.w) X.A (f (.int i t) (.int j u)) Q E s) :
  OpR X f (rI0 fun i j=>.int (g i j)):=by
 intro pins s σ H x y v u Q I rx ry h
 obtain ⟨i,j,rfl,rfl,q⟩:=h
 obtain ⟨t,rfl⟩:=rx
 obtain ⟨t',rfl⟩:=ry
 exact rule i j t t' s _ _ ⟨.int (g i j),H,I.tok _,⟨_,rfl⟩,q⟩
theorem uR {f:Value->Value->Sem Value} {g:Int->Int->Bool}
  (rule:∀ (i j:Int) (t u:Tok) (s:Shared) (Q:Value->Shared->Prop) (E:Value->Shared->Prop),Q (.bool (g i j)) s->wpAny (model X.prog X.w) X.A (f (.int i t) (.int j u)) Q E s) :
  OpR X f (rI0 fun i j=>.bl (g i j)):=by
 intro pins s σ H x y v u Q I rx ry h
 obtain ⟨i,j,rfl,rfl,q⟩:=h
 obtain ⟨t,rfl⟩:=rx
 obtain ⟨t',rfl⟩:=ry
 exact rule i j t t' s _ _ ⟨.bl (g i j),H,I,rfl,q⟩
def yj (i j:Int):Prop:=0 < j/\j < 1073741824
def xo (i j:Int):Prop:=0<=j/\j<=1000000/\i.natAbs < 2 ^ 64
def xb (i j:Int):Prop:=(-(2 ^ 64) < i/\i < 2 ^ 64)\/(-(2 ^ 64) < j/\j < 2 ^ 64)
theorem xb.ok {i j:Int} (h:xb i j):IntMulOk i j:=by
 rcases h with ⟨h1,h2⟩ | ⟨h1,h2⟩
 ·exact .of_left (intBits_le_64 h1 h2)
 ·exact .of_right (intBits_le_64 h1 h2)
theorem bt:OpR X (binaryOp .Add) (rI0 fun i j=>.int (i + j)):=yA fun _ _ _ _ _ _ _ q=>add_int q
theorem ck:OpR X (binaryOp .Mult) (rI xb fun i j=>.int (i * j)):=opI fun _ _ _ _ _ _ _ hc q=>mul_int q hc.ok
theorem uI:OpR X (binaryOp .FloorDiv) (rI yj fun i j=>.int (i / j)):=opI fun i j _ _ _ _ _ hc q=>by
 have h1:(0:Int) < j:=hc.1
 have h2:j < 1073741824:=hc.2
 exact floordiv_int (by omega) (by rw [Int.fdiv_eq_ediv_of_nonneg i (by omega)]; exact q) (.inl (PyProof.noPylong_small (by omega)))
theorem fq:OpR X (binaryOp .Mod) (rI (fun _ j=>0 < j) fun i j=>.int (i % j)):=opI fun i j _ _ _ _ _ hc q=>by
 have h1:(0:Int) < j:=hc
 exact mod_int' (by omega) (by rw [Int.fmod_eq_emod_of_nonneg i (by omega)]; exact q)
theorem wW:OpR X (binaryOp .Pow) (rI xo fun i j=>.int (i ^ j.toNat)):=opI fun _ _ _ _ _ _ _ hc q=>pow_int_small hc.1 hc.2.1 hc.2.2 q
theorem unI {f:Value->Sem Value} {g:Int->Int}
  (rule:∀ (i:Int) (t:Tok) (s:Shared) (Q:Value->Shared->Prop) (E:Value->Shared->Prop),Q (.int (g i) s.toks) { s with toks:=s.toks + 1 }->wpAny (model X.prog X.w) X.A (f (.int i t)) Q E s) :
  UnR X f (rU fun i=>.int (g i)):=by
 intro pins s σ H x v Q I rx h
 obtain ⟨i,rfl,q⟩:=h
 obtain ⟨t,rfl⟩:=rx
 exact rule i t s _ _ ⟨.int (g i),H,I.tok _,⟨_,rfl⟩,q⟩
theorem nP:UnR X (unaryOp .USub) (rU fun i=>.int (-i)):=unI fun _ _ _ _ _ q=>neg_int q
end
def ya:V->V->Bool
 | .non,.non=>true | .non,.int _=>true | .int _,.non=>true | .non,.bl _=>true | .bl _,.non=>true | .non,.str _=>true | .str _,.non=>true
 | .int _,.int _=>true | .bl _,.bl _=>true | .str _,.str _=>true | .byt _,.byt _=>true
 | .int _,.str _=>true | .str _,.int _=>true | .bl _,.str _=>true | .str _,.bl _=>true
 | _,_=>false
def rEq:R2:=fun x y H Q=>ya x y=true/\Q (.bl (decide (x=y))) H
def rNe:R2:=fun x y H Q=>ya x y=true/\Q (.bl (!decide (x=y))) H
theorem qc {i j:Int}:decide (V.int i=V.int j)=(i == j):=by
 rw [Bool.eq_iff_iff]
 simp
theorem sS {i j:Bool}:decide (V.bl i=V.bl j)=(i == j):=by
 rw [Bool.eq_iff_iff]
 simp
theorem pU {i j:Str}:decide (V.str i=V.str j)=(i == j):=by
 rw [Bool.eq_iff_iff]
 simp
theorem ph {i j:Array UInt8}:decide (V.byt i=V.byt j)=(i.toList == j.toList):=by
 rw [Bool.eq_iff_iff]
 cases i
 cases j
 simp
section
variable {X:Cx} {a b c:Expr} {ta tb tc:TE} {pos:Pos}
theorem aZ {pins:List (Addr×Obj)} {σ:St} {H:Hp} {s:Shared} {Q:VK} {k k':Bool} (I:Inv X pins σ H s) (q:Q (.bl k) H) (e:k=k'):EP X pins σ Q (.bool k') s:=by
 subst e
 exact ⟨.bl k,H,I,rfl,q⟩
theorem bK:OpR X (compareOp .Eq) rEq:=by
 intro pins s σ H x y v u Q I rx ry h
 obtain ⟨hs,q⟩:=h
 cases x with
 | non=>
  cases rx
  cases y with
  | non=>cases ry; exact PySem.EqNone.eq_none_none (aZ I q (by simp))
  | bl j=>cases ry; exact PySem.EqNone.eq_none_bool (aZ I q (by simp))
  | int j=>obtain ⟨t',rfl⟩:=ry; exact PySem.EqNone.eq_none_int (aZ I q (by simp))
  | str j=>obtain ⟨t',rfl⟩:=ry; exact PySem.EqNone.eq_none_str (aZ I q (by simp))
  | _=>exact absurd (show false=true from hs) Bool.false_ne_true
 | bl i=>
  cases rx
  cases y with
  | non=>cases ry; exact PySem.EqNone.eq_bool_none (aZ I q (by simp))
  | bl j=>cases ry; exact eq_bool (aZ I q sS)
  | str j=>obtain ⟨t',rfl⟩:=ry; exact PySem.EqMixed.eq_bool_str (aZ I q (by simp))
  | _=>exact absurd (show false=true from hs) Bool.false_ne_true
 | int i=>
  obtain ⟨t,rfl⟩:=rx
  cases y with
  | non=>cases ry; exact PySem.EqNone.eq_int_none (aZ I q (by simp))
  | int j=>obtain ⟨t',rfl⟩:=ry; exact eq_int (aZ I q qc)
  | str j=>obtain ⟨t',rfl⟩:=ry; exact PySem.EqMixed.eq_int_str (aZ I q (by simp))
  | _=>exact absurd (show false=true from hs) Bool.false_ne_true
 | str i=>
  obtain ⟨t,rfl⟩:=rx
  cases y with
  | non=>cases ry; exact PySem.EqNone.eq_str_none (aZ I q (by simp))
  | bl j=>cases ry; exact PySem.EqMixed.eq_str_bool (aZ I q (by simp))
  | int j=>obtain ⟨t',rfl⟩:=ry; exact PySem.EqMixed.eq_str_int (aZ I q (by simp))
  | str j=>obtain ⟨t',rfl⟩:=ry; exact eq_str (aZ I q pU)
  | _=>exact absurd (show false=true from hs) Bool.false_ne_true
 | byt i=>
  obtain ⟨t,rfl⟩:=rx
  cases y with
  | byt j=>obtain ⟨t',rfl⟩:=ry; exact PySem.W.eq_bytes (aZ I q ph)
  | _=>exact absurd (show false=true from hs) Bool.false_ne_true
 | _=>cases y <;> exact absurd (show false=true from hs) Bool.false_ne_true
theorem oZ:OpR X (compareOp .NotEq) rNe:=by
 intro pins s σ H x y v u Q I rx ry h
 obtain ⟨hs,q⟩:=h
 cases x with
 | non=>
  cases rx
  cases y with
  | non=>cases ry; exact PySem.EqNone.ne_none_none (aZ I q (by simp))
  | bl j=>cases ry; exact PySem.EqNone.ne_none_bool (aZ I q (by simp))
  | int j=>obtain ⟨t',rfl⟩:=ry; exact PySem.EqNone.ne_none_int (aZ I q (by simp))
  | str j=>obtain ⟨t',rfl⟩:=ry; exact PySem.EqNone.ne_none_str (aZ I q (by simp))
  | _=>exact absurd (show false=true from hs) Bool.false_ne_true
 | bl i=>
  cases rx
  cases y with
  | non=>cases ry; exact PySem.EqNone.ne_bool_none (aZ I q (by simp))
  | bl j=>cases ry; exact ne_bool (aZ I q (congrArg not sS))
  | str j=>obtain ⟨t',rfl⟩:=ry; exact PySem.EqMixed.ne_bool_str (aZ I q (by simp))
  | _=>exact absurd (show false=true from hs) Bool.false_ne_true
 | int i=>
  obtain ⟨t,rfl⟩:=rx
  cases y with
  | non=>cases ry; exact PySem.EqNone.ne_int_none (aZ I q (by simp))
  | int j=>obtain ⟨t',rfl⟩:=ry; exact ne_int (aZ I q (congrArg not qc))
  | str j=>obtain ⟨t',rfl⟩:=ry; exact PySem.EqMixed.ne_int_str (aZ I q (by simp))
  | _=>exact absurd (show false=true from hs) Bool.false_ne_true
 | str i=>
  obtain ⟨t,rfl⟩:=rx
  cases y with
  | non=>cases ry; exact PySem.EqNone.ne_str_none (aZ I q (by simp))
  | bl j=>cases ry; exact PySem.EqMixed.ne_str_bool (aZ I q (by simp))
  | int j=>obtain ⟨t',rfl⟩:=ry; exact PySem.EqMixed.ne_str_int (aZ I q (by simp))
  | str j=>obtain ⟨t',rfl⟩:=ry; exact ne_str (aZ I q (congrArg not pU))
  | _=>exact absurd (show false=true from hs) Bool.false_ne_true
 | byt i=>
  obtain ⟨t,rfl⟩:=rx
  cases y with
  | byt j=>obtain ⟨t',rfl⟩:=ry; exact PySem.W.ne_bytes (aZ I q (congrArg not ph))
  | _=>exact absurd (show false=true from hs) Bool.false_ne_true
 | _=>cases y <;> exact absurd (show false=true from hs) Bool.false_ne_true
theorem iW:OpR X (compareOp .Lt) (rI0 fun i j=>.bl (decide (i < j))):=uR fun _ _ _ _ _ _ _ q=>lt_int q
theorem vK:OpR X (compareOp .LtE) (rI0 fun i j=>.bl (decide (i<=j))):=uR fun _ _ _ _ _ _ _ q=>le_int q
theorem mK:OpR X (compareOp .Gt) (rI0 fun i j=>.bl (decide (j < i))):=uR fun _ _ _ _ _ _ _ q=>gt_int q
theorem xX:OpR X (compareOp .GtE) (rI0 fun i j=>.bl (decide (j<=i))):=uR fun _ _ _ _ _ _ _ q=>ge_int q
theorem aM (b:Expr) {op:CmpOp} (h:op≠.In:=by decide) (h2:op≠.NotIn:=by decide):behindInMarks op b=false:=by
 have e1:(op == CmpOp.In)=false:=by cases op <;> first | rfl | exact absurd rfl h
 have e2:(op == CmpOp.NotIn)=false:=by cases op <;> first | rfl | exact absurd rfl h2
 cases b <;> simp [behindInMarks,e1,e2]
theorem eK {op:CmpOp} {r:R2} (ho:OpR X (compareOp op) r) (ha:PE X a ta) (hb:PE X b tb) (hm:behindInMarks op b=false):PE X (.Compare a [op] [b] pos) (tOp r ta tb):=by
 intro pins s σ H Q I h
 exact wpAny_Compare1 (wl ha hb I h fun v u s2 x y H2 I2 rx ry q=>ho pins s2 σ H2 x y v u Q I2 rx ry q) hm
def xi (t:TE):TT:=fun σ H Q=>t σ H fun x H'=>∃ k,x=.bl k/\Q k H'
theorem aG {op:CmpOp} {r:R2} (ho:OpR X (compareOp op) r) (ha:PE X a ta) (hb:PE X b tb) (hm:behindInMarks op b=false):PT X (.Compare a [op] [b] pos) (xi (tOp r ta tb)):=by
 intro pins s σ H Q I h
 refine wpAny_isTrue_Compare1 (thn (ha pins s σ H _ I h) fun v s1 ⟨x,H1,I1,r1,q1⟩=>thn (hb pins s1 σ H1 _ I1 q1) fun u s2 ⟨y,H2,I2,r2,q2⟩=>
  thn (ho pins s2 σ H2 x y v u _ I2 r1 r2 q2) fun c s3 ⟨z,H3,I3,r3,k,e,q3⟩=>?_) hm
 subst e
 cases r3
 exact wpAny_truthy_bool ⟨H3,I3,q3⟩
def wT (r r':R2) (ta tb tc:TE):TE:=fun σ H Q=>ta σ H fun x H1=>tb σ H1 fun y H2=>r x y H2 fun z H3=>∃ k,z=.bl k /\
 (if k=true then tc σ H3 fun w' H4=>r' y w' H4 Q else Q (.bl false) H3)
theorem tu {op op':CmpOp} {r r':R2} (ho:OpR X (compareOp op) r) (ho':OpR X (compareOp op') r') (ha:PE X a ta) (hb:PE X b tb) (hc:PE X c tc)
  (hm:lastMarks [op,op'] [b,c]=false:=by with_unfolding_all rfl):PE X (.Compare a [op,op'] [b,c] pos) (wT r r' ta tb tc):=by
 intro pins s σ H Q I h
 refine Compare_chain (thn (ha pins s σ H _ I h) fun v s1 ⟨x,H1,I1,r1,q1⟩=>chain_link (thn (hb pins s1 σ H1 _ I1 q1) fun u s2 ⟨y,H2,I2,r2,q2⟩=>
  thn (ho pins s2 σ H2 x y v u _ I2 r1 r2 q2) fun d s3 ⟨z,H3,I3,r3,k,e,q3⟩=>?_)) hm
 subst e
 cases r3
 refine wpAny_truthy_bool ?_
 cases k with
 | false=>exact ite_ff ⟨.bl false,H3,I3,rfl,q3⟩
 | true=>exact ite_tt (chain_last (thn (hc pins s3 σ H3 _ I3 q3) fun w' s4 ⟨z',H4,I4,r4,q4⟩=>ho' pins s4 σ H4 y z' u w' Q I4 r2 r4 q4))
theorem gi:(sizeLine:Nat) < 2 ^ 63:=by rw [sizeLine_eq]; decide
theorem fj:OpR X (binaryOp .Add) (fun x y H Q=>∃ i j,x=.str i/\y=.str j/\i.length + j.length<=sizeLine/\Q (.str (i ++ j)) H):=by
 intro pins s σ H x y v u Q I rx ry h
 obtain ⟨i,j,rfl,rfl,hz,q⟩:=h
 obtain ⟨t,rfl⟩:=rx
 obtain ⟨t',rfl⟩:=ry
 exact add_str (fun t' tk=>⟨.str (i ++ j),H,I.tok _,⟨_,rfl⟩,q⟩) hz
theorem cC {x:V} {us:List Value} (r:aP [x] us):∃ u,us=[u]/\aV x u:=by
 cases r with
 | cons r1 r2=>cases r2; exact ⟨_,rfl,r1⟩
theorem pA {x y:V} {us:List Value} (r:aP [x,y] us):∃ u w',us=[u,w']/\aV x u/\aV y w':=by
 cases r with
 | cons r1 r2=>
  cases r2 with
  | cons r3 r4=>cases r4; exact ⟨_,_,rfl,r1,r3⟩
theorem qA (hc:X.calm=true):bM X (.builtin "max") (fun xs H Q=>∃ i j,xs=[.int i,.int j]/\Q (.int (if j > i then j else i)) H):=by
 intro pins s σ H xs us Q I r h
 obtain ⟨i,j,rfl,q⟩:=h
 obtain ⟨u,w',rfl,⟨t,rfl⟩,⟨t',rfl⟩⟩:=pA r
 refine max_two_ints (I.ok.hd hc) fun h' tk k=>⟨_,H,I.kept k,?_,q⟩
 by_cases hj:j > i
 ·rw [if_pos hj,if_pos hj]; exact ⟨_,rfl⟩
 ·rw [if_neg hj,if_neg hj]; exact ⟨_,rfl⟩
theorem qm (hc:X.calm=true):bM X (.builtin "min") (fun xs H Q=>∃ i j,xs=[.int i,.int j]/\Q (.int (if j < i then j else i)) H):=by
 intro pins s σ H xs us Q I r h
 obtain ⟨i,j,rfl,q⟩:=h
 obtain ⟨u,w',rfl,⟨t,rfl⟩,⟨t',rfl⟩⟩:=pA r
 refine min_two_ints (I.ok.hd hc) fun h' tk k=>⟨_,H,I.kept k,?_,q⟩
 by_cases hj:j < i
 ·rw [if_pos hj,if_pos hj]; exact ⟨_,rfl⟩
 ·rw [if_neg hj,if_neg hj]; exact ⟨_,rfl⟩
end
structure vS (h:Heap) (x dx C:Addr) (mA:Str->Option Value):Prop where
 obj:h.get? x=some (PySem.W.instObj C dx)
 ns:h.Ns1 dx mA
 ne:dx≠x
theorem ql {h:Heap} {dx:Addr} {mA:Str->Option Value} (n:h.Ns1 dx mA):∃ od,h.get? dx=some od/\∀ name,PySem.W.lookIn name od=some (mA name):=by
 obtain ⟨o,es,ep,ho,hd,hk,_,hm⟩:=n
 refine ⟨o,ho,fun name=>?_⟩
 have e:=hm name
 unfold nsFind findBy at e
 rw [<- Array.find?_toList] at e
 unfold PySem.W.lookIn
 rw [hd]
 dsimp only
 split
 ·rename_i y q
  rw [q] at e
  exact congrArg some e
 ·rename_i q
  rw [q] at e
  have a:es.toList.any (·.refKey)=false:=by
   rw [List.any_eq_false]
   intro y hy
   obtain ⟨z,t,hkey⟩:=hk y (Array.mem_toList_iff.mp hy)
   simp [DictEntry.refKey,hkey]
  have a':¬ es.toList.any (·.refKey)=true:=by rw [a]; exact Bool.false_ne_true
  rw [if_neg a']
  exact congrArg some e
theorem vS.look {h:Heap} {x dx C:Addr} {mA:Str->Option Value} (I:vS h x dx C mA):∃ od,PySem.W.InstAt h x (PySem.W.instObj C dx) C (some od)/\∀ name,PySem.W.lookIn name od=some (mA name):=
 let ⟨od,ho,hl⟩:=ql I.ns
 ⟨od,⟨I.obj,rfl,rfl,ho⟩,hl⟩
section
variable {prog:Program} {w:World} {A:Around} {E:Value->Shared->Prop} {s:Shared} {K:PySem.W.Frag} {x dx C f:Addr} {mA:Str->Option Value} {name:Str} {v:Value}
end
section
variable {P:Program} {w:World} {H H':Hp} {h h':Heap} {a C dx:Addr} {fs fs':List (Str×V)}
theorem ve (hok:HOk P w H h) (e:H a=some (.ins C dx fs)):∃ mA,vS h a dx C mA/\(∀ f,ls (fs.lookup f) (mA f))/\PySem.Within mA (fs.map (·.1))/\fs.length<=1000/\H dx=some (.own a):=by
 obtain ⟨d,z,ne,ob,mA,n,r,q⟩:=(show aU P w H h a (.ins C dx fs) from hok a _ e)
 exact ⟨mA,⟨ob,n,ne⟩,r,q,z,d⟩
end
structure Cls (K:PySem.W.Frag) (C:Addr):Prop where
 pg:PySem.W.plainGet K C Str.empty=true
 hd:PySem.W.hasDictIn K C=true
 po:PySem.W.plainOver K C=true
 sa:PySem.W.findIn K (.ref C) "__setattr__"=some (some (.builtin "object.__setattr__"))
theorem Cls.get {K:PySem.W.Frag} {C:Addr} (c:Cls K C) (f:Str):PySem.W.plainGet K C f=true:=c.pg
section
variable {X:Cx} {pins:List (Addr×Obj)} {σ:St} {H:Hp} {s:Shared} {a C dx:Addr} {fs:List (Str×V)} {f:Str} {v:V} {A:Around} {E:Value->Shared->Prop}
end
section
variable {X:Cx} {o e value:Expr} {f:Str} {pos pos' tpos:Pos} {ta tv:TE}
end
section
variable {X:Cx} {pins:List (Addr×Obj)} {σ:St} {H:Hp} {s:Shared} {A:Around} {E:Value->Shared->Prop} {Q:Value->Shared->Prop} {c:Value} {b:Bool}
inductive fC (K:PySem.W.Frag) (H:Hp):V->Value->Prop where
 | non:fC K H .non (.type "NoneType")
 | bl (x:Bool):fC K H (.bl x) (.type "bool")
 | int (i:Int):fC K H (.int i) (.type "int")
 | str (x:Str):fC K H (.str x) (.type "str")
 | flt (x:UInt64):fC K H (.flt x) (.type "float")
 | lst {a:Addr} {xs:List V} (e:H a=some (.lst xs)):fC K H (.ref a) (.type "list")
 | frz {a:Addr} {o:Obj} {xs:List V} (e:H a=some (.frz o (.lst xs))):fC K H (.ref a) (.type "list")
 | tup {a:Addr} {xs:List V} (e:H a=some (.tup xs)):fC K H (.ref a) (.type "tuple")
 | dK {a:Addr} {kvs:List (Key×V)} (e:H a=some (.dK kvs)):fC K H (.ref a) (.type "dict")
 | dT {a:Addr} {kvs:List (List Key×V)} (e:H a=some (.dT kvs)):fC K H (.ref a) (.type "dict")
 | ins {a C dx:Addr} {fs:List (Str×V)} (e:H a=some (.ins C dx fs)) (cl:Cls K C) (ha:PySem.W.findIn K (.ref C) "__class__"=some (some (.builtin "object.__class__")))
   (hn:PySem.W.specialIn K (.builtin "object.__class__") "__get__"=some (some (.builtin "getset_descriptor.__get__"))) (htk:PySem.W.takesIn K (.builtin "object.__class__")=some true)
   (hm:PySem.W.mroIn K C (.type "object")=some true):fC K H (.ref a) (.ref C)
theorem qv {x:V} {u t:Value} (I:Inv X pins σ H s) (rx:aV x u) (ty:fC X.K H x t) (e:PySem.W.kitOne X.K t c=some b) (h:∀ tk,Q (.bool b) { s with toks:=tk }) :
  wpAny (model X.prog X.w) A (call (.builtin "isinstance") [u,c]) Q E s:=by
 cases ty with
 | non=>cases (show u=Value.none from rx); exact PySem.W.kia_one PySem.W.kitx_none I.kIn True.intro e (fun z=>nomatch z) h
 | bl y=>cases (show u=Value.bool y from rx); exact PySem.W.kia_one PySem.W.kitx_bool I.kIn True.intro e (fun z=>nomatch z) h
 | int i=>obtain ⟨t,q⟩:=(show ∃ t,u=Value.int i t from rx); cases q; exact PySem.W.kia_one PySem.W.kitx_int I.kIn True.intro e (fun z=>nomatch z) h
 | str y=>obtain ⟨t,q⟩:=(show ∃ t,u=Value.str y t from rx); cases q; exact PySem.W.kia_one PySem.W.kitx_str I.kIn True.intro e (fun z=>nomatch z) h
 | flt y=>obtain ⟨t,q⟩:=(show ∃ t,u=Value.float y t from rx); cases q; exact PySem.W.kia_one PySem.W.kitx_float I.kIn True.intro e (fun z=>nomatch z) h
 | @lst a xs ea=>
  cases (show u=Value.ref a from rx)
  obtain ⟨_,_,n,_,h1⟩:=(show aU X.prog X.w H s.heap a (.lst xs) from I.hok a _ ea)
  exact PySem.W.kia_one PySem.W.kitx_list I.kIn ⟨_,h1,rfl⟩ e (fun z=>nomatch z) h
 | @frz a ob xs ea=>
  cases (show u=Value.ref a from rx)
  obtain ⟨_,_,_,n,_,h1⟩:=(show aU X.prog X.w H s.heap a (.frz ob (.lst xs)) from I.hok a _ ea)
  exact PySem.W.kia_one PySem.W.kitx_list I.kIn ⟨_,h1,rfl⟩ e (fun z=>nomatch z) h
 | @tup a xs ea=>
  cases (show u=Value.ref a from rx)
  obtain ⟨_,_,_,p⟩:=(show aU X.prog X.w H s.heap a (.tup xs) from I.hok a _ ea)
  obtain ⟨⟨o,h1,h2,_⟩,_⟩:=p
  exact PySem.W.kia_one PySem.W.kitx_tuple I.kIn ⟨o,h1,h2⟩ e (fun z=>nomatch z) h
 | @dK a kvs ea=>
  cases (show u=Value.ref a from rx)
  obtain ⟨_,_,vs,_,p⟩:=(show aU X.prog X.w H s.heap a (.dK kvs) from I.hok a _ ea)
  obtain ⟨o,es,ep,h1,h2,_⟩:=p
  exact PySem.W.kia_one PySem.W.kitx_dict I.kIn ⟨o,h1,h2.1⟩ e (fun z=>nomatch z) h
 | @dT a kvs ea=>
  cases (show u=Value.ref a from rx)
  obtain ⟨_,_,xs,_,o,es,ep,h1,h2,_⟩:=(show aU X.prog X.w H s.heap a (.dT kvs) from I.hok a _ ea)
  exact PySem.W.kia_one PySem.W.kitx_dict I.kIn ⟨o,h1,h2.1⟩ e (fun z=>nomatch z) h
 | @ins a C dx fs ea cl ha hn htk hm=>
  cases (show u=Value.ref a from rx)
  obtain ⟨mA,O,_⟩:=ve I.hok ea
  obtain ⟨od,J,_⟩:=O.look
  exact PySem.W.kia_one (PySem.W.kitx_own (cl.get _) cl.hd ha hn htk hm) I.kIn J e (fun z=>nomatch z) h
end
structure dJ (k:Nat) (A:Around):Prop where
 hd:A.handled=none
 dp:A.depth + 3 * k + 5 < recursionLimit
 un:A.units + 16 * k + 200 < cLine
theorem dJ.mono {j k:Nat} {A:Around} (r:dJ k A) (h:j<=k):dJ j A:=⟨r.hd,by have:=r.dp; omega,by have:=r.un; omega⟩
theorem dJ.deeper {k:Nat} {A:Around} (r:dJ (k + 1) A) (env:Env):dJ k (A.deeper env):=
 ⟨r.hd,by have:=r.dp; show A.depth + 1 + 3 * k + 5 < _; omega,by have:=r.un; show A.units + 3 + 16 * k + 200 < _; omega⟩
theorem dJ.depth {k:Nat} {A:Around} (r:dJ k A):A.depth < recursionLimit:=by have:=r.dp; omega
theorem dJ.units {k:Nat} {A:Around} (r:dJ k A):A.units + 64 < cLine:=by have:=r.un; omega
def yn:TA:=fun _ H Q=>Q [] H
def xQ (ta:TE) (tr:TA):TA:=fun σ H Q=>ta σ H fun x H1=>tr σ H1 fun xs H2=>Q (x :: xs) H2
section
variable {X:Cx} {e:Expr} {es:List Expr} {te:TE} {t:TA} {pos:Pos}
theorem ae:PA X [] yn:=fun _ _ _ _ H Q I h=>Calls.spliced_nil ⟨[],H,I,.nil,h⟩
theorem aa (ha:PE X e te) (hr:PA X es t) (hs:starEach (e :: es) X.env=(false,eval e X.env) :: starEach es X.env:=by rfl):PA X (e :: es) (xQ te t):=by
 intro pos pins s σ H Q I h
 rw [hs]
 show wpAny _ _ (spliced ((false,eval e X.env) :: backTo pos (starEach es X.env))) _ _ s
 refine Calls.spliced_cons (thn (ha pins s σ H _ I h) fun u s1 ⟨x,H1,I1,r1,q1⟩=>?_)
 exact thn (hr pos pins s1 σ H1 _ I1 q1) fun us s2 ⟨xs,H2,I2,r2,q2⟩=>⟨x :: xs,H2,I2,.cons r1 r2,q2⟩
def yx (t:TA):TE:=fun σ H Q=>t σ H fun xs H1=>xs.length<=sizeLine/\∀ p,H1 p=none->Q (.ref p) (upd H1 p (.tup xs))
def yo (t:TA):TE:=fun σ H Q=>t σ H fun xs H1=>xs.length<=sizeLine/\∀ p,H1 p=none->Q (.ref p) (upd H1 p (.lst xs))
theorem bE {x1} (h:PA X es t):PE X (.Tuple es x1 pos) (yx t):=by
 intro pins s σ H Q I hq
 refine wpAny_Tuple_spliced (thn (h pos pins s σ H _ I hq) fun us s1 ⟨xs,H1,I1,r,z,q⟩=>⟨by rw [<- r.length]; exact z,?_⟩)
 have hf:H1 s1.heap.objs.size=none:=I1.hok.fresh (Nat.le_refl _)
 refine ⟨.ref s1.heap.objs.size,upd H1 s1.heap.objs.size (.tup xs),I1.laid (t':=s1.toks) (fun b u e=>Heap.get?_push_of_some _ e) (Nat.le_refl _) ?_,rfl,q _ hf⟩
 exact ⟨z,us,r,⟨_,Heap.get?_push_size _ rfl,rfl,_,rfl⟩,NoD.new _ rfl⟩
theorem iD (h:PA X es t):PE X (.List es pos) (yo t):=by
 intro pins s σ H Q I hq
 refine wpAny_List_spliced (thn (h pos pins s σ H _ I hq) fun us s1 ⟨xs,H1,I1,r,z,q⟩=>⟨by rw [<- r.length]; exact z,?_⟩)
 have hf:H1 s1.heap.objs.size=none:=I1.hok.fresh (Nat.le_refl _)
 refine ⟨.ref s1.heap.objs.size,upd H1 s1.heap.objs.size (.lst xs),I1.laid (t':=s1.toks) (fun b u e=>Heap.get?_push_of_some _ e) (Nat.le_refl _) ?_,rfl,q _ hf⟩
 exact ⟨z,us,0,r,Heap.get?_push_size _ rfl⟩
end
abbrev Sp:=List V->Hp->VK->XK->Prop
abbrev CXT:=List Env->Hp->Shared->XK->Value->Shared->Prop
structure vd (P:Program) (w:World) (K:PySem.W.Frag) (mg:Str->Option Value) (base:Heap) (A:Around) (outer:List Env) (s:Shared) (H:Hp):Prop where
 frames:A.frames=some outer
 mod:Mod K mg base
 bs:∀ b o,base.get? b=some o->s.heap.get? b=some o/\H b=none
 bsz:base.objs.size<=s.heap.objs.size
 funs:s.heap.FunFrames base outer
 frf:∀ b∈frs outer,H b=none
 hok:HOk P w H s.heap
 bare:AllBare s.gens
def CE (outer:List Env) (P:Program) (w:World) (H:Hp) (s:Shared) (Q:VK) (u:Value) (s':Shared):Prop:=
 ∃ v H',s'.os=s.os/\AllBare s'.gens/\Un (frs outer) [] H H' s.heap s'.heap/\HOk P w H' s'.heap/\aV v u/\Q v H'
def CR (CX:CXT) (outer:List Env) (P:Program) (w:World) (H:Hp) (s:Shared) (Q:VK) (E:XK) (r:Result) (s':Shared):Prop:=
 match r with
 | .ok (.ret u)=>CE outer P w H s Q u s'
 | .ok _=>False
 | .error e=>CX outer H s E e s'
structure bj (P:Program) (w:World) (K:PySem.W.Frag) (mg:Str->Option Value) (base:Heap) (CX:CXT) (k:Nat) (f:Addr) (fd:FuncData) (ps:List Str) (sp:Sp):Prop where
 len:∀ vs H Q E,sp vs H Q E->vs.length=ps.length
 run:∀ (A:Around) (outer:List Env) (s:Shared) (H:Hp) (args:Args) (us:List Value) (vs:List V) (Q:VK) (E:XK),dJ k A->vd P w K mg base A outer s H->BindsTo s fd args (ps.zip us)->aP vs us->sp vs H Q E ->
  codeAny (model P w) A (.call (.ref f) args) (CR CX outer P w H s Q E) s
theorem bj.mono {P:Program} {w:World} {K:PySem.W.Frag} {mg:Str->Option Value} {base:Heap} {CX:CXT} {j k:Nat} {f:Addr} {fd:FuncData} {ps:List Str} {sp:Sp} (F:bj P w K mg base CX j f fd ps sp) (h:j<=k) :
  bj P w K mg base CX k f fd ps sp:=⟨F.len,fun A outer s H args us vs Q E hr=>F.run A outer s H args us vs Q E (hr.mono h)⟩
section
variable {X:Cx} {pins:List (Addr×Obj)} {σ:St} {H:Hp} {s s':Shared}
theorem Inv.env0 (I:Inv X pins σ H s):vd X.prog X.w X.K X.mg X.base X.A X.stack s H:=
 ⟨I.ok.frames,I.ok.mod,I.bs,Nat.le_trans I.ok.bsz I.sz,I.stack,I.stkFree,I.hok,I.bare⟩
theorem Inv.after {Q:VK} {u:Value} (I:Inv X pins σ H s) (h:CE X.stack X.prog X.w H s Q u s'):EP X pins σ Q u s':=by
 obtain ⟨v,H',os,bare,un,hok,r,q⟩:=h
 obtain ⟨hh,g,d,t,os'⟩:=s'
 obtain rfl:os'=s.os:=os
 exact ⟨v,H',I.call (h':=hh) (g':=g) (d':=d) (t':=t) (ch:=[]) un hok bare (fun b z=>absurd z (by simp)),r,q⟩
end
def vG (sp:Sp) (dvs:List V) (E:XK) (t:TA):TE:=fun σ H Q=>t σ H fun vs H1=>sp (vs ++ dvs) H1 Q E
def jm (K:PySem.W.Frag) (fd:FuncData) (ps:List Str) (ds:List Value):Prop:=
 ∀ (s:Shared) (us:List Value),K.In s.heap->(us ++ ds).length=ps.length->BindsTo s fd ⟨us,[]⟩ (ps.zip (us ++ ds))
theorem jm.all {K:PySem.W.Frag} {fd:FuncData} {ps:List Str} (h:∀ us:List Value,us.length=ps.length->bindArgs fd ⟨us,[]⟩=pure (ps.zip us)):jm K fd ps []:=fun s us _ hl=>by
 rw [List.append_nil] at hl ⊢
 exact .of_eq (h us hl)
def nZ (CX:CXT) (X:Cx) (E:XK):Prop:=∀ (pins:List (Addr×Obj)) (σ:St) (H:Hp) (s:Shared) (e:Value) (s':Shared),Inv X pins σ H s->CX X.stack H s E e s'->X.xe e s'
section
variable {X:Cx} {CX:CXT} {k:Nat} {f C:Addr} {fd:FuncData} {ps:List Str} {sp:Sp} {dvs:List V} {ds:List Value} {E:XK} {x m:Str} {p pos apos:Pos} {e o:Expr} {es:List Expr} {ta:TE} {t:TA}
theorem vU {pins:List (Addr×Obj)} {σ:St} {H:Hp} {s:Shared} {Q:VK} {us:List Value} {vs:List V} (F:bj X.prog X.w X.K X.mg X.base CX k f fd ps sp) (hr:dJ k X.A) (hb:jm X.K fd ps ds) (hd:aP dvs ds) (hx:nZ CX X E)
  (I:Inv X pins σ H s) (r:aP vs us) (h:sp (vs ++ dvs) H Q E):wpAny (model X.prog X.w) X.A (call (.ref f) us) (EP X pins σ Q) X.xe s:=by
 have r2:aP (vs ++ dvs) (us ++ ds):=r.append hd
 have hl:(us ++ ds).length=ps.length:=by rw [<- r2.length]; exact F.len _ _ _ _ h
 refine wpAny_call (codeAny_mono (F.run X.A X.stack s H ⟨us,[]⟩ (us ++ ds) (vs ++ dvs) Q E hr I.env0 (hb s us I.kIn hl) r2 h) fun r s' hq=>?_)
 cases r with
 | error e=>exact hx pins σ H s e s' I hq
 | ok fl=>
  cases fl with
  | ret u=>exact I.after hq
  | next=>exact False.elim hq
  | brk=>exact False.elim hq
  | cont=>exact False.elim hq
theorem uF (F:bj X.prog X.w X.K X.mg X.base CX k f fd ps sp) (hr:dJ k X.A) (hg:Gl X x) (hm:X.mg x=some (.ref f)) (hk:PySem.W.keepIn X.K (.ref f)=true) (hb:jm X.K fd ps ds) (hd:aP dvs ds) (hx:nZ CX X E)
  (ha:PA X (e :: es) t) (hdb:(x == ("__debug__" : Str))=false:=by decide) (he:starEach (e :: es) X.env=(false,eval e X.env) :: starEach es X.env:=by rfl) (hpl:(backTo pos (starEach es X.env)).any (·.1)=false:=by rfl) :
  PE X (.Call (.Name x p) (e :: es) [] pos) (vG sp dvs E t):=by
 intro pins s σ H Q I h
 refine wpAny_Call_Name_kw (oS I hg hm ?_ hdb)
 refine PySem.W.callWith_K (h₀:=X.base) I.ok.mod.kin hk (thn (ha pos pins s σ H _ I h) fun us s1 ⟨vs,H1,I1,r,q⟩=>⟨I1.kIn,?_⟩) he hpl
 exact vU F hr hb hd hx I1 r q
end
section
variable {X:Cx} {CX:CXT} {k:Nat} {f C:Addr} {fd:FuncData} {ps ks:List Str} {sp:Sp} {E:XK} {x m:Str} {p pos apos kpos:Pos} {e o:Expr} {es:List Expr} {kws:List Keyword} {te ta:TE} {t tk:TA} {nm:Option Str}
variable {g:List Value->List Value->List Value} {gV:List V->List V->List V}
end
structure aR (N P:List Str) (sc:Scope):Prop where
 kind:sc.kind=.function
 co:sc.isCoroutine=false
 gen:sc.isGenerator=false
 nd:N.Nodup
 pre:N.take P.length=P
 par:∀ x∈P,sc.names.lookup x=some .local\/sc.names.lookup x=some .cell
 nofree:∀ y∈sc.names,y.2≠.free
theorem jG {kindOf:Str->Option NameKind} {x:Str}:∀ {binds:List (Str×Value)} {m:Str->Option Value},(∀ v,(x,v)∉binds)->bindL kindOf binds m x=m x
 | [],_,_=>rfl
 | (n,v) :: r,m,h=>by
  unfold bindL
  rw [jG fun w hw=>h w (List.mem_cons_of_mem _ hw)]
  split
  ·have:x≠n:=by rintro rfl; exact h v List.mem_cons_self
   simp [this]
  ·rfl
theorem jI {kindOf:Str->Option NameKind} {x:Str}:∀ {binds:List (Str×Value)} {m:Str->Option Value},(∀ v,(x,v)∉binds)->bindC kindOf binds m x=m x
 | [],_,_=>rfl
 | (n,v) :: r,m,h=>by
  unfold bindC
  rw [jI fun w hw=>h w (List.mem_cons_of_mem _ hw)]
  split
  ·rfl
  ·have:x≠n:=by rintro rfl; exact h v List.mem_cons_self
   simp [this]
theorem jH {kindOf:Str->Option NameKind} {x:Str} {v:Value}:∀ {P:List Str} {vs:List Value} {i:Nat} {m:Str->Option Value},P.Nodup->P[i]?=some x->vs[i]?=some v->kindOf x=some .local ->
  bindL kindOf (P.zip vs) m x=some v
 | [],_,_,_,_,h,_,_=>by simp at h
 | _ :: _,[],_,_,_,_,h,_=>by simp at h
 | p :: P,w :: vs,0,m,nd,h1,h2,hk=>by
  simp at h1 h2; subst h1; subst h2
  show bindL kindOf ((p,w) :: P.zip vs) m p=_
  unfold bindL
  rw [jG fun v hv=>(List.nodup_cons.mp nd).1 (List.of_mem_zip hv).1,if_pos hk]
  simp
 | p :: P,w :: vs,i + 1,m,nd,h1,h2,hk=>by
  show bindL kindOf ((p,w) :: P.zip vs) m x=_
  unfold bindL
  exact jH (i:=i) (List.nodup_cons.mp nd).2 (by simpa using h1) (by simpa using h2) hk
theorem jr {kindOf:Str->Option NameKind} {x:Str} {v:Value}:∀ {P:List Str} {vs:List Value} {i:Nat} {m:Str->Option Value},P.Nodup->P[i]?=some x->vs[i]?=some v->kindOf x≠some .local ->
  bindC kindOf (P.zip vs) m x=some v
 | [],_,_,_,_,h,_,_=>by simp at h
 | _ :: _,[],_,_,_,_,h,_=>by simp at h
 | p :: P,w :: vs,0,m,nd,h1,h2,hk=>by
  simp at h1 h2; subst h1; subst h2
  show bindC kindOf ((p,w) :: P.zip vs) m p=_
  unfold bindC
  rw [jI fun v hv=>(List.nodup_cons.mp nd).1 (List.of_mem_zip hv).1,if_neg hk]
  simp
 | p :: P,w :: vs,i + 1,m,nd,h1,h2,hk=>by
  show bindC kindOf ((p,w) :: P.zip vs) m x=_
  unfold bindC
  exact jr (i:=i) (List.nodup_cons.mp nd).2 (by simpa using h1) (by simpa using h2) hk
def gT (N:List Str) (vs:List V):St:=vs.map some ++ List.replicate (N.length - vs.length) none
def rb (CX:CXT) (P:Program) (w:World) (K:PySem.W.Frag) (mg:Str->Option Value) (base:Heap) (N:List Str) (qual:Str) (scope:Scope) (f:Addr) (cd:Value) (A:Around) (outer:List Env) (s:Shared) (H:Hp) (E:XK):Cx where
 prog:=P
 w:=w
 K:=K
 mg:=mg
 base:=base
 A:=A.deeper (envOfC qual scope s.heap.objs.size f cd)
 N:=N
 s₀:=s
 H₀:=H
 env:=envOfC qual scope s.heap.objs.size f cd
 outer:=outer
 stack:=envOfC qual scope s.heap.objs.size f cd :: outer
 ex:=[]
 calm:=true
 fn:=fun _=>true
 pn:=[]
 xe:=fun e s'=>wpAny (model P w) (A.deeper (envOfC qual scope s.heap.objs.size f cd)) (leaving (envOfC qual scope s.heap.objs.size f cd) e) (fun _ s''=>CX outer H s E e s'') (fun e' s''=>CX outer H s E e' s'') s'
theorem nB {sc:Scope} {n:Nat} {x:Str} (h:sc.names.lookup x=some .cell):∃ c,(cellsFrom n sc.names []).lookup x=some c:=by
 have q:=PySem.W.cellsFrom_some sc.names n [] (.inl h)
 exact Option.isSome_iff_exists.mp q
theorem qI {CX:CXT} {P:Program} {w:World} {K:PySem.W.Frag} {mg:Str->Option Value} {base:Heap} {N ps:List Str} {qual:Str} {scope:Scope} {f:Addr} {cd:Value} {A:Around} {outer:List Env} {s s1:Shared} {H:Hp} {E:XK} {us:List Value} {vs:List V}
  (S:aR N ps scope) (hd:A.handled=none) (e0:vd P w K mg base A outer s H) (hl:vs.length=ps.length) (r:aP vs us)
  (x:InCallC s s.heap.objs.size (bindL (envOfC qual scope s.heap.objs.size f cd).kindOf (ps.zip us) fun _=>none) (cellsFrom (s.heap.objs.size + 1) scope.names []) (bindC (envOfC qual scope s.heap.objs.size f cd).kindOf (ps.zip us) fun _=>none) s1) :
  Inv (rb CX P w K mg base N qual scope f cd A outer s H E) [] (gT N vs) H s1:=by
 have hpl:ps.length<=N.length:=by have:=congrArg List.length S.pre; rw [List.length_take] at this; omega
 obtain ⟨h1,tk,rfl,hk⟩:=x.done
 have noA:∀ b:Addr,b∉(rb CX P w K mg base N qual scope f cd A outer s H E).ex:=fun b z=>absurd (show b∈([]:List Addr) from z) (by simp)
 refine ⟨⟨e0.mod,S.kind,rfl,rfl,Nat.le_refl _,fun y z c h1 h2=>?_,fun y hy=>?_,fun y c _ h=>?_,fun _=>hd,Around.frames_deeper e0.frames,.inr ⟨rfl,rfl⟩,fun b z=>absurd z (noA b),e0.bs,e0.bsz,fun b _ _=>noA b,fun b z=>absurd z (noA b),e0.funs,e0.frf⟩,
  rfl,e0.bare,Un.kept hk,⟨_,x.toInCall.ns,fun i y v h1 h2 h3=>?_⟩,fun y c h=>⟨_,x.cell y c h⟩,e0.hok.fresh (Nat.le_refl _),fun y c h=>?_,fun p hp=>absurd (show p∈([]:List (Addr×Obj)) from hp) (by simp),e0.hok.kept hk,?_⟩
 ·exact name_of_addr x.apart (PySem.mem_of_lookup h1) (PySem.mem_of_lookup h2)
 ·have hy:scope.names.lookup y=some .cell\/scope.names.lookup y=some .free:=hy
  rcases hy with hy | hy
  ·exact nB hy
  ·exact absurd rfl (S.nofree _ (PySem.mem_of_lookup hy))
 ·exact Nat.le_of_lt (x.above y c (PySem.mem_of_lookup h))
 ·have hi:i < vs.length:=by
   unfold gT at h2
   by_cases hi:i < vs.length
   ·exact hi
   ·rw [List.getElem?_append_right (by simpa using hi)] at h2
    rw [List.getElem?_replicate] at h2
    split at h2 <;> cases h2
  have ha:vs[i]?=some v:=by
   unfold gT at h2
   rw [List.getElem?_append_left (by simpa using hi),List.getElem?_map] at h2
   cases e:vs[i]? with
   | none=>rw [e] at h2; cases h2
   | some a=>rw [e] at h2; cases h2; rfl
  obtain ⟨u,hu,rv⟩:=r.get ha
  have hp:ps[i]?=some y:=by
   rw [<- S.pre,List.getElem?_take_of_lt (by omega)]; exact h1
  have ndP:ps.Nodup:=by rw [<- S.pre]; exact S.nd.sublist (List.take_sublist _ _)
  refine ⟨u,rv,?_⟩
  rcases S.par y (List.mem_of_getElem? hp) with k | k
  ·exact .inl ⟨k,jH ndP hp hu k⟩
  ·obtain ⟨c,e⟩:=nB (n:=s.heap.objs.size + 1) k
   refine .inr ⟨.inl k,c,e,?_⟩
   have q:=x.cell y c e
   rw [jr ndP hp hu (by show scope.names.lookup y≠_; rw [k]; decide)] at q
   exact q
 ·exact e0.hok.fresh (Nat.le_of_lt (x.above y c (PySem.mem_of_lookup h)))
 ·unfold gT
  show _=N.length
  rw [List.length_append,List.length_map,List.length_replicate]
  omega
theorem xk {CX:CXT} {P:Program} {w:World} {K:PySem.W.Frag} {mg:Str->Option Value} {base:Heap} {k:Nat} {f:Addr} {name qual:Str} {params:Arguments} {body:List Stmt} {scope:Scope} {dV kV doc pm cdv ct oc:Value} {an od:Option Addr}
  {osl:Array (Option Value)} {N ps:List Str} {sp:Sp} (lk:K.lookup f=some ⟨oc,od,.func (PySem.W.fnOf name qual params body scope dV kV doc pm an cdv ct),osl⟩) (hcd:PySem.W.codeIn K cdv qual=true) (S:aR N ps scope)
  (len:∀ vs H Q E,sp vs H Q E->vs.length=ps.length)
  (hbody:∀ (A:Around) (outer:List Env) (s:Shared) (H:Hp) (vs:List V) (Q:VK) (E:XK),dJ k (A.deeper (envOfC qual scope s.heap.objs.size f cdv))->sp vs H Q E ->
   ∃ t,PSs (rb CX P w K mg base N qual scope f cdv A outer s H E) body t/\t { nx:=fun _ H'=>Q .non H',rt:=Q } (gT N vs) H) :
  bj P w K mg base CX (k + 1) f (PySem.W.fnOf name qual params body scope dV kV doc pm an cdv ct) ps sp:=by
 refine ⟨len,fun A outer s H args us vs Q E hr e0 hb r hsp=>?_⟩
 have hl:=len _ _ _ _ hsp
 have KX:K.In s.heap:=e0.mod.kin.keeps fun b o e=>(e0.bs b o e).1
 have lim:s.heap.NoLimit:=e0.mod.nolimit.keeps fun b o e=>(e0.bs b o e).1
 have hkind:∀ y∈ps.zip us,scope.names.lookup y.1=some .local\/(scope.names.lookup y.1=some .cell/\((cellsFrom (s.heap.objs.size + 1) scope.names []).lookup y.1).isSome=true):=fun ⟨n,v⟩ hy=>by
  rcases S.par n (List.of_mem_zip hy).1 with q | q
  ·exact .inl q
  ·exact .inr ⟨q,PySem.W.cellsFrom_some _ _ _ (.inl q)⟩
 refine codeAny_call_function hr.depth (KX _ _ lk) rfl S.co S.gen rfl (PySem.W.codeRec_of KX hcd) (hb _ _ _ _ ?_)
 refine wpAny_newFunctionEnv_cells S.kind hkind fun env he s1 x=>?_
 subst he
 refine ⟨lim.keeps x.toInCall.keep,codeAny_func ?_⟩
 obtain ⟨t,ht,hq⟩:=hbody A outer s H vs Q E (hr.deeper _) hsp
 have I:Inv (rb CX P w K mg base N qual scope f cdv A outer s H E) [] (gT N vs) H s1:=qI S hr.hd e0 hl r x
 refine wpAny_mono (ht [] s1 (gT N vs) H _ I hq) (fun fl s' hs=>?_) fun e s' hs=>hs
 have fin:∀ {σ':St} {H':Hp} {v:V} {u:Value},Inv (rb CX P w K mg base N qual scope f cdv A outer s H E) [] σ' H' s'->aV v u->Q v H'->CE outer P w H s Q u s':=
  fun {σ' H' v u} J rv q=>⟨v,H',J.os,J.bare,J.base,J.hok,rv,q⟩
 cases fl with
 | ret u=>
  obtain ⟨v,σ',H',J,rv,q⟩:=hs
  exact fin J rv q
 | next=>
  obtain ⟨σ',H',J,q⟩:=hs
  exact fin (v:=V.non) (u:=Value.none) J rfl q
 | brk=>
  obtain ⟨_,_,_,q⟩:=hs
  exact False.elim q
 | cont=>
  obtain ⟨_,_,_,q⟩:=hs
  exact False.elim q
section
variable {X:Cx} {x:Str} {p pos:Pos} {e:Expr} {es:List Expr} {t:TA} {id T:String} {r:List V->Hp->VK->Prop}
def tCB (r:List V->Hp->VK->Prop) (t:TA):TE:=fun σ H Q=>t σ H fun vs H1=>r vs H1 Q
theorem aK (hc:bM X (.builtin id) r) (hg:Gl X x) (hm:X.mg x=none) (hv:bootBuiltins x=some (.builtin id)) (ha:PA X (e :: es) t) (hn:x≠"__name__":=by decide) (hdb:(x == ("__debug__" : Str))=false:=by decide)
  (he:starEach (e :: es) X.env=(false,eval e X.env) :: starEach es X.env:=by rfl) (hpl:(backTo pos (starEach es X.env)).any (·.1)=false:=by rfl):PE X (.Call (.Name x p) (e :: es) [] pos) (tCB r t):=by
 intro pins s σ H Q I h
 refine wpAny_Call_Name_kw (iQ I hg hm hv ?_ hn hdb)
 exact PyProof.Rows.callWith_builtin1 (thn (ha pos pins s σ H _ I h) fun us s1 ⟨vs,H1,I1,r1,q1⟩=>hc pins s1 σ H1 vs us Q I1 r1 q1) he hpl
theorem bH (hc:bM X (.type T) r) (hg:Gl X x) (hm:X.mg x=none) (hv:bootBuiltins x=some (.type T)) (ha:PA X (e :: es) t) (hn:x≠"__name__":=by decide) (hdb:(x == ("__debug__" : Str))=false:=by decide)
  (he:starEach (e :: es) X.env=(false,eval e X.env) :: starEach es X.env:=by rfl) (hpl:(backTo pos (starEach es X.env)).any (·.1)=false:=by rfl):PE X (.Call (.Name x p) (e :: es) [] pos) (tCB r t):=by
 intro pins s σ H Q I h
 refine wpAny_Call_Name_kw (iQ I hg hm hv ?_ hn hdb)
 exact PyProof.Rows.callWith_type1 (thn (ha pos pins s σ H _ I h) fun us s1 ⟨vs,H1,I1,r1,q1⟩=>hc pins s1 σ H1 vs us Q I1 r1 q1) he hpl
end
section
variable {κ:Type} [DecidableEq κ]
def fi (kvs:List (κ×V)) (k:κ):Option V:=(kvs.find? fun kv=>decide (kv.1=k)).map (·.2)
def dP (kvs:List (κ×V)) (k:κ) (v:V):List (κ×V):=
 if (kvs.any fun kv=>decide (kv.1=k))=true then kvs.map (fun kv=>if kv.1=k then (kv.1,v) else kv) else kvs ++ [(k,v)]
theorem fN {p:κ×V} {r:List (κ×V)} {k:κ} (e:p.1=k):fi (p :: r) k=some p.2:=by simp [fi,List.find?_cons,e]
theorem fB {p:κ×V} {r:List (κ×V)} {k:κ} (e:¬ p.1=k):fi (p :: r) k=fi r k:=by simp [fi,List.find?_cons,e]
theorem lQ (k:κ):∀ kvs:List (κ×V),(kvs.any fun kv=>decide (kv.1=k))=(fi kvs k).isSome
 | []=>rfl
 | p :: r=>by
  rw [List.any_cons]
  by_cases e:p.1=k
  ·simp only [fN e,decide_eq_true e,Bool.true_or,Option.isSome_some]
  ·rw [fB e,decide_eq_false e,Bool.false_or]; exact lQ k r
theorem gR (kvs:List (κ×V)) (k:κ) (v:V):(dP kvs k v).length<=kvs.length + 1:=by
 unfold dP
 split
 ·rw [List.length_map]; omega
 ·rw [List.length_append,List.length_cons,List.length_nil]; omega
theorem ls.isSome_eq {o:Option V} {u:Option Value} (r:ls o u):o.isSome=u.isSome:=by
 cases o with
 | none=>cases u with
  | none=>rfl
  | some _=>exact (show False from r).elim
 | some _=>cases u with
  | none=>exact (show False from r).elim
  | some _=>rfl
theorem ls.getD {o:Option V} {u:Option Value} {d:V} {d':Value} (r:ls o u) (rd:aV d d'):aV (o.getD d) (u.getD d'):=by
 cases o with
 | none=>cases u with
  | none=>exact rd
  | some _=>exact (show False from r).elim
 | some _=>cases u with
  | none=>exact (show False from r).elim
  | some _=>exact r
theorem KV.val {kvs:List (κ×V)} {vs:List (κ×Value)} (r:KV kvs vs) (k:κ):ls (fi kvs k) (valueAt vs k):=by
 unfold KV at r
 induction r with
 | nil=>exact True.intro
 | @cons p q ps qs h t ih=>
  obtain ⟨h1,h2⟩:=h
  by_cases e:p.1=k
  ·have e':q.1=k:=h1.symm.trans e
   have b:valueAt (q :: qs) k=some q.2:=by simp [valueAt,List.find?_cons,e']
   rw [fN e,b]; exact h2
  ·have e':¬ q.1=k:=fun z=>e (h1.trans z)
   have b:valueAt (q :: qs) k=valueAt qs k:=by simp [valueAt,List.find?_cons,e']
   rw [fB e,b]; exact ih
theorem KV.any {kvs:List (κ×V)} {vs:List (κ×Value)} (r:KV kvs vs) (k:κ):(kvs.any fun kv=>decide (kv.1=k))=vs.any fun kv=>decide (kv.1=k):=by
 unfold KV at r
 induction r with
 | nil=>rfl
 | cons h t ih=>rw [List.any_cons,List.any_cons,ih,h.1]
theorem KV.repl {kvs:List (κ×V)} {vs:List (κ×Value)} (r:KV kvs vs) (k:κ) {y:V} {u:Value} (ry:aV y u) :
  KV (kvs.map fun kv=>if kv.1=k then (kv.1,y) else kv) (vs.map fun kv=>if kv.1=k then (kv.1,u) else kv):=by
 unfold KV at r ⊢
 induction r with
 | nil=>exact .nil
 | @cons p q ps qs h t ih=>
  rw [List.map_cons,List.map_cons]
  refine .cons ?_ ih
  obtain ⟨h1,h2⟩:=h
  by_cases e:p.1=k
  ·rw [if_pos e,if_pos (h1.symm.trans e)]; exact ⟨h1,ry⟩
  ·rw [if_neg e,if_neg (fun z=>e (h1.trans z))]; exact ⟨h1,h2⟩
theorem KV.put {kvs:List (κ×V)} {vs:List (κ×Value)} (r:KV kvs vs) (k:κ) {y:V} {u:Value} (ry:aV y u):KV (dP kvs k y) (stored vs k u):=by
 unfold dP stored
 rw [r.any k]
 by_cases e:(vs.any fun kv=>decide (kv.1=k))=true
 ·rw [if_pos e,if_pos e]; exact r.repl k ry
 ·rw [if_neg e,if_neg e]; exact Paired.snoc r ⟨rfl,ry⟩
theorem KV.keys {kvs:List (κ×V)} {vs:List (κ×Value)} (r:KV kvs vs):kvs.map (·.1)=vs.map (·.1):=by
 unfold KV at r
 induction r with
 | nil=>rfl
 | cons h t ih=>rw [List.map_cons,List.map_cons,ih,h.1]
theorem KV.length {kvs:List (κ×V)} {vs:List (κ×Value)} (r:KV kvs vs):kvs.length=vs.length:=Paired.length r
end
theorem sr {P:Program} {w:World} {k:Key} {u:Value} (r:aV (kV k) u):(aF P w).is k u=true:=by
 cases k with
 | inl i=>obtain ⟨t,e⟩:=(show ∃ t,u=Value.int i t from r); subst e; exact lZ P w i t
 | inr x=>obtain ⟨t,e⟩:=(show ∃ t,u=Value.str x t from r); subst e; exact mM P w x t
theorem jL {P:Program} {w:World}:∀ {ks:List Key} {us:List Value},aP (ks.map kV) us->ItemsAre (aF P w) ks us
 | [],_,r=>by rw [List.map_nil] at r; cases r; exact .nil
 | k :: ks,_,r=>by
  rw [List.map_cons] at r
  cases r with
  | cons h t=>exact .cons (sr h) (jL t)
abbrev KT (H:Hp):List (List Key×V)->List (List Key×Addr×Value)->Prop:=Paired fun p q=>p.1=q.1/\H q.2.1=some (.tup (p.1.map kV))/\aV p.2 q.2.2
theorem KT.val {H:Hp} {kvs:List (List Key×V)} {xs:List (List Key×Addr×Value)} (r:KT H kvs xs) (k:List Key):ls (fi kvs k) ((atKey xs k).map (·.2)):=by
 induction r with
 | nil=>exact True.intro
 | @cons p q ps qs h t ih=>
  obtain ⟨h1,_,h2⟩:=h
  by_cases e:p.1=k
  ·have e':q.1=k:=h1.symm.trans e
   have b:atKey (q :: qs) k=some q.2:=by simp [atKey,List.find?_cons,e']
   rw [fN e,b]; exact h2
  ·have e':¬ q.1=k:=fun z=>e (h1.trans z)
   have b:atKey (q :: qs) k=atKey qs k:=by simp [atKey,List.find?_cons,e']
   rw [fB e,b]; exact ih
theorem KT.repl {H:Hp} {kvs:List (List Key×V)} {xs:List (List Key×Addr×Value)} (r:KT H kvs xs) (k:List Key) {y:V} {u:Value} (ry:aV y u) :
  KT H (kvs.map fun kv=>if kv.1=k then (kv.1,y) else kv) (xs.map (putAt k u)):=by
 induction r with
 | nil=>exact .nil
 | @cons p q ps qs h t ih=>
  rw [List.map_cons,List.map_cons]
  refine .cons ?_ ih
  obtain ⟨h1,h2,h3⟩:=h
  unfold putAt
  by_cases e:p.1=k
  ·rw [if_pos e,if_pos (h1.symm.trans e)]; exact ⟨h1,h2,ry⟩
  ·rw [if_neg e,if_neg (fun z=>e (h1.trans z))]; exact ⟨h1,h2,h3⟩
theorem KT.put {H:Hp} {kvs:List (List Key×V)} {xs:List (List Key×Addr×Value)} (r:KT H kvs xs) (k:List Key) {b:Addr} {y:V} {u:Value} (hb:H b=some (.tup (k.map kV))) (ry:aV y u) :
  KT H (dP kvs k y) (storedH xs k b u):=by
 have e:(kvs.any fun kv=>decide (kv.1=k))=(atKey xs k).isSome:=by
  rw [lQ,(r.val k).isSome_eq,Option.isSome_map]
 unfold dP storedH
 rw [e]
 by_cases q:(atKey xs k).isSome=true
 ·rw [if_pos q,if_pos q]; exact r.repl k ry
 ·rw [if_neg q,if_neg q]; exact Paired.snoc r ⟨rfl,hb,ry⟩
theorem KT.keeps {H H':Hp} {kvs:List (List Key×V)} {xs:List (List Key×Addr×Value)} (r:KT H kvs xs) (ht:∀ b ys,H b=some (.tup ys)->H' b=some (.tup ys)):KT H' kvs xs:=
 Paired.mapP r fun _ _ z=>⟨z.1,ht _ _ z.2.1,z.2.2⟩
section
variable {P:Program} {w:World} {H:Hp} {h:Heap} {a:Addr}
theorem vQ {u:HO} (ok:HOk P w H h) (e:Rd H a u):aU P w H h a u:=e.ok ok
theorem rS {kvs:List (Key×V)} (ok:HOk P w H h) (e:Rd H a (.dK kvs)):kvs.length<=sizeLine/\(a == sysModules)=false/\∃ vs,KV kvs vs/\h.DictOf (aF P w) a vs:=
 show aU P w H h a (.dK kvs) from vQ ok e
theorem sO {kvs:List (Key×V)} (ok:HOk P w H h) (e:H a=some (.dK kvs)):kvs.length<=sizeLine/\(a == sysModules)=false/\∃ vs,KV kvs vs/\h.DictOf (aF P w) a vs:=rS ok (.inl e)
theorem jW {ks:List Key} (ok:HOk P w H h) (e:H a=some (.tup (ks.map kV))):(tupleKind (aF P w)).is h ks a:=by
 obtain ⟨_,its,r,⟨o,h1,h2,n,h3⟩,_⟩:=(show aU P w H h a (.tup (ks.map kV)) from ok a _ e)
 exact ⟨o,its.toArray,n,h1,h2,h3,by simpa using jL r⟩
theorem sR {kvs:List (List Key×V)} (ok:HOk P w H h) (e:Rd H a (.dT kvs)):kvs.length<=sizeLine/\(a == sysModules)=false /\
  ∃ xs,KT H kvs xs/\h.DictOfH (tupleKind (aF P w)) a xs:=by
 obtain ⟨z,y,xs,r,o,es,ep,h1,h2,h3,h4,h5⟩:=(show aU P w H h a (.dT kvs) from vQ ok e)
 refine ⟨z,y,xs,r,o,es,ep,h1,h2,h3,h4,fun x hx=>?_,h5⟩
 have all:∀ {l:List (List Key×V)} {m:List (List Key×Addr×Value)},KT H l m->∀ x∈m,(tupleKind (aF P w)).is h x.1 x.2.1:=by
  intro l m q
  induction q with
  | nil=>intro x hx; exact nomatch hx
  | @cons p q ps qs hq t ih=>
   intro x hx
   rcases List.mem_cons.mp hx with e | hx
   ·subst e
    exact jW ok (by rw [<- hq.1]; exact hq.2.1)
   ·exact ih x hx
 exact all r x hx
theorem xE {kvs:List (List Key×V)} (ok:HOk P w H h) (e:H a=some (.dT kvs)):kvs.length<=sizeLine/\(a == sysModules)=false /\
  ∃ xs,KT H kvs xs/\h.DictOfH (tupleKind (aF P w)) a xs:=sR ok (.inl e)
end
def nu (H:Hp) (a:Addr) (y:V) (r:Option V):Prop:=
 (∃ kvs k,Rd H a (.dK kvs)/\y=kV k/\r=fi kvs k)\/∃ kvs k b,Rd H a (.dT kvs)/\y=.ref b/\H b=some (.tup (k.map kV))/\r=fi kvs k
def lA (H:Hp) (a:Addr) (y v:V) (H':Hp):Prop:=
 (∃ kvs k,H a=some (.dK kvs)/\y=kV k/\kvs.length < sizeLine/\H'=upd H a (.dK (dP kvs k v))) \/
 ∃ kvs k b,H a=some (.dT kvs)/\y=.ref b/\H b=some (.tup (k.map kV))/\kvs.length < sizeLine/\H'=upd H a (.dT (dP kvs k v))
theorem nu.k {H:Hp} {a:Addr} {kvs:List (Key×V)} {k:Key} (e:H a=some (.dK kvs)):nu H a (kV k) (fi kvs k):=.inl ⟨kvs,k,.inl e,rfl,rfl⟩
theorem lA.k {H:Hp} {a:Addr} {kvs:List (Key×V)} {k:Key} {v:V} (e:H a=some (.dK kvs)) (hl:kvs.length < sizeLine):lA H a (kV k) v (upd H a (.dK (dP kvs k v))):=.inl ⟨kvs,k,e,rfl,hl,rfl⟩
section
variable {X:Cx} {pins:List (Addr×Obj)} {σ:St} {H:Hp} {s:Shared} {a:Addr} {y v:V} {u r:Value} {o:Option V} {A:Around} {E:Value->Shared->Prop}
theorem Inv.big (I:Inv X pins σ H s):sysModules < s.heap.objs.size:=by
 have h:mainGlobals < s.heap.objs.size:=(I.mod.glob.keeps I.bk).lt
 exact Nat.lt_trans (by decide) h
theorem kY {h':Heap} {t':Nat} {ob:HO} (I:Inv X pins σ H s) (mu:Mut (H a)) (hs:Heap.SameBut a s.heap h') (he:∃ q,h'.get? a=some q) (new:aU X.prog X.w (upd H a ob) h' a ob) :
  Inv X pins σ (upd H a ob) { s with heap:=h',toks:=t' }:=
 I.write (x:=a) (e:=a) mu (.inl rfl) (fun b q hb z=>(hs.2 b hb).trans z) he new
theorem wu {P:Program} {w:World} {H':Hp} {h':Heap} {kvs:List (Key×V)} {vs:List (Key×Value)} (z:kvs.length<=sizeLine) (hd:(a == sysModules)=false) (rel:KV kvs vs) (dd:h'.DictOf (aF P w) a vs) :
  aU P w H' h' a (.dK kvs):=⟨z,hd,vs,rel,dd⟩
theorem rm {H':Hp} {Q:Unit->Shared->Prop} (hu:A.units + 1 < cLine) (I:Inv X pins σ H s) (g:lA H a y v H') (ry:aV y u) (rv:aV v r) (h:∀ s',Inv X pins σ H' s'->Q () s') :
  wpAny (model X.prog X.w) A (setItem (.ref a) u r) Q E s:=by
 rcases g with ⟨kvs,k,e,ey,l,eH⟩ | ⟨kvs,k,b,e,ey,eb,l,eH⟩
 ·subst ey eH
  obtain ⟨z,hd,vs,rel,dd⟩:=sO I.hok e
  have hz:vs.length<=sizeLine:=by rw [<- rel.length]; exact z
  have hl:(dP kvs k v).length<=sizeLine:=by have:=gR kvs k v; omega
  refine wpAny_setItem_pairs (hsz:=hz) (sr ry) dd fun h' dd' hs=>h _ ?_
  have he:∃ q,h'.get? a=some q:=let ⟨q,_,_,hq,_⟩:=dd'; ⟨q,hq⟩
  exact kY I (by rw [e]; exact True.intro) hs he (wu hl hd (rel.put k rv) dd')
 ·subst ey eH
  cases (show u=Value.ref b from ry)
  obtain ⟨z,hd,xs,rel,dd⟩:=xE I.hok e
  have hz:xs.length<=sizeLine:=by rw [<- Paired.length rel]; exact z
  have hl:(dP kvs k v).length<=sizeLine:=by have:=gR kvs k v; omega
  refine wpAny_setItem_heap (hsz:=hz) (tupleKind_room_in1 hu) (jW I.hok eb) dd fun h' dd' hs=>h _ ?_
  obtain ⟨q,es,ep,hq,h2,h3,h4,_,h5⟩:=dd'
  refine kY I (by rw [e]; exact True.intro) hs ⟨q,hq⟩ ⟨hl,hd,_,(rel.put k eb rv).keeps fun c ys ec=>?_,q,es,ep,hq,h2,h3,h4,h5⟩
  rw [aI (vP ec e (fun z=>nomatch z))]
  exact ec
end
section
variable {X:Cx} {pins:List (Addr×Obj)} {σ:St} {H:Hp} {s:Shared} {a:Addr} {kvs:List (Key×V)} {k:Key} {u:Value} {A:Around} {E:Value->Shared->Prop}
end
def xr (td ty tv:TE):TS:=fun D σ H=>tv σ H fun v H1=>td σ H1 fun x H2=>ty σ H2 fun y H3=>∃ a H4,x=.ref a/\lA H3 a y v H4/\D.nx σ H4
section
variable {X:Cx} {o i e value:Expr} {pos pos' tpos:Pos} {td ty tv:TE}
theorem fx (hu:X.A.units + 1 < cLine) (ho:PE X o td) (hi:PE X i ty) (hv:PE X value tv) (hs:swapsWith value (some (.Subscript o i pos')) pos.line X.env=pure false) :
  PS X (.Assign [.Subscript o i pos'] value pos) (xr td ty tv):=by
 intro pins s σ H D I h
 refine wpAny_Assign_Subscript (thn (hv pins s σ H _ I h) fun r s1 ⟨v,H1,I1,rv,q1⟩=>thn (ho pins s1 σ H1 _ I1 q1) fun u s2 ⟨x,H2,I2,rx,q2⟩=>thn (hi pins s2 σ H2 _ I2 q2) fun iv s3 ⟨y,H3,I3,ry,a,H4,ex,g,q3⟩=>?_) hs
 subst ex
 obtain rfl:u=Value.ref a:=rx
 exact rm hu I3 g ry rv fun s4 I4=>⟨σ,H4,I4,q3⟩
end
theorem sA {P:Program} {w:World} {H:Hp} (h:Heap) (hb:sysModules < h.objs.size):aU P w H (h.push { cls:=.type "dict",data:=.dict #[] }) h.objs.size (.dK []):=
 ⟨Nat.zero_le _,beq_eq_false_iff_ne.mpr (Ne.symm (Nat.ne_of_lt hb)),[],.nil,Heap.DictOf.new h⟩
def wD:TE:=fun _ H Q=>∀ p,H p=none->Q (.ref p) (upd H p (.dK []))
section
variable {X:Cx} {pos:Pos}
theorem fV:PE X (.Dict [] [] pos) wD:=fun pins s σ H Q I h=>
 wpAny_Dict_empty ⟨.ref s.heap.objs.size,_,I.laid (a:=s.heap.objs.size) (o:=.dK []) (t':=s.toks) (fun _ _ q=>Heap.get?_push_of_some _ q) (Nat.le_refl _) (sA s.heap I.big),rfl,h _ (I.hok.fresh (Nat.le_refl _))⟩
end
structure M2 (X:Cx) (o:Expr) (m:Str) (apos:Pos) (e f:Expr) (cpos:Pos):Prop where
 base:attributeBase o m X.env (eval o X.env)=eval o X.env
 few:((backTo cpos (starEach [e,f] X.env)).all (fun x=>!x.1) && (backToKw cpos (keywordEach [] X.env)).all (fun x=>x.1.isSome)
  && decide (([e,f]:List Expr).length + ([]:List Keyword).length + (if ([]:List Keyword).isEmpty then 0 else 1) < 30))=true
 line:(apos.endLine == cpos.line)=true
 trees:backTo cpos (starEach [e,f] X.env)=[(false,eval e X.env),(false,eval f X.env)]
def IsD (H:Hp) (a:Addr):Prop:=(∃ kvs,Rd H a (.dK kvs))\/∃ kvs,Rd H a (.dT kvs)
theorem wU {X:Cx} {pins:List (Addr×Obj)} {σ:St} {H:Hp} {s:Shared} {a:Addr} (I:Inv X pins σ H s) (d:IsD H a) :
  s.TypeIs (.ref a) "dict"/\(∀ b,Value.ref a=.ref b->∃ ob,s.heap.get? b=some ob/\ob.dict=none)/\(a == sysModules)=false:=by
 rcases d with ⟨kvs,e⟩ | ⟨kvs,e⟩
 ·obtain ⟨_,hd,vs,_,dd⟩:=rS I.hok e
  refine ⟨dd.typeIs,fun b q=>?_,hd⟩
  cases q
  obtain ⟨ob,_,_,h1,h2,_⟩:=dd
  exact ⟨ob,h1,h2.2.1⟩
 ·obtain ⟨_,hd,xs,_,dd⟩:=sR I.hok e
  refine ⟨dd.typeIs,fun b q=>?_,hd⟩
  cases q
  obtain ⟨ob,_,_,h1,h2,_⟩:=dd
  exact ⟨ob,h1,h2.2.1⟩
section
variable {X:Cx} {pins:List (Addr×Obj)} {σ:St} {H:Hp} {s:Shared} {a:Addr} {y d:V} {u r:Value} {o:Option V} {A:Around} {E:Value->Shared->Prop}
theorem wb {Q:Value->Shared->Prop} (hu:A.units + 1 < cLine) (I:Inv X pins σ H s) (g:nu H a y o) (ry:aV y u) (rd:aV d r) (h:∀ w' s',Inv X pins σ H s'->aV (o.getD d) w'->Q w' s') :
  wpAny (model X.prog X.w) A (call (.builtin "dict.get") [.ref a,u,r]) Q E s:=by
 rcases g with ⟨kvs,k,e,ey,l⟩ | ⟨kvs,k,b,e,ey,eb,l⟩
 ·subst ey
  obtain ⟨z,hd,vs,rel,dd⟩:=rS I.hok e
  refine call_meetsIn PySem.F.slot_dict_get dd.typeIs PySem.F.entry_dict_get (PySem.F.args_dict_get_3 _ _ _) (meets_dict_get_default (aF X.prog X.w) a (sr ry) hd r) ⟨_,dd.mapOf,h _ _ (I.tok _) ?_⟩
  rw [l]
  exact (rel.val k).getD rd
 ·subst ey
  cases (show u=Value.ref b from ry)
  obtain ⟨z,hd,xs,rel,dd⟩:=sR I.hok e
  refine call_meetsIn PySem.F.slot_dict_get dd.typeIs PySem.F.entry_dict_get (PySem.F.args_dict_get_3 _ _ _) (meetsH_dict_get_default (tupleKind (aF X.prog X.w)) a b hd r) ⟨tupleKind_room_in1 hu,k,xs,jW I.hok eb,dd,h _ _ (I.tok _) ?_⟩
  rw [l]
  exact (rel.val k).getD rd
end
def wG (td ty tx:TE):TE:=fun σ H Q=>td σ H fun x H1=>∃ a,x=.ref a/\IsD H1 a/\ty σ H1 fun y H2=>tx σ H2 fun z H3=>∃ o,nu H3 a y o/\Q (o.getD z) H3
section
variable {X:Cx} {o e f:Expr} {apos cpos:Pos} {td ty tx:TE}
theorem fD (hu:X.A.units + 1 < cLine) (ho:PE X o td) (he:PE X e ty) (hf:PE X f tx) (m:M2 X o "get" apos e f cpos):PE X (.Call (.Attribute o "get" apos) [e,f] [] cpos) (wG td ty tx):=by
 intro pins s σ H Q I h
 refine wpAny_Call_method m.base m.few m.line PySem.F.plainAttrs_dict PySem.F.slot_dict_get PySem.F.type_dict_get (thn (ho pins s σ H _ I h) fun u s1 ⟨x,H1,I1,rx,a,ex,d,q1⟩=>?_)
 subst ex
 obtain rfl:u=Value.ref a:=rx
 obtain ⟨t1,t2,_⟩:=wU I1 d
 refine ⟨t1,t2,?_⟩
 rw [m.trees]
 refine Calls.callWith_builtin rfl (Calls.evalArgs_plain (Calls.spliced_cons (thn (he pins s1 σ H1 _ I1 q1) fun iv s2 ⟨y,H2,I2,ry,q2⟩=>
  Calls.spliced_cons (thn (hf pins s2 σ H2 _ I2 q2) fun fv s3 ⟨z,H3,I3,rz,ov,g,q3⟩=>Calls.spliced_nil ?_))))
 exact wb hu I3 g ry rz fun w' s4 I4 rw'=>⟨_,H3,I4,rw',q3⟩
end
section
variable {X:Cx} {pins:List (Addr×Obj)} {σ:St} {H:Hp} {s:Shared} {a:Addr} {kvs:List (Key×V)} {A:Around} {E:Value->Shared->Prop}
end
section
variable {X:Cx} {pins:List (Addr×Obj)} {σ:St} {H:Hp} {s:Shared} {a:Addr} {y:V} {u:Value} {A:Around} {E:Value->Shared->Prop}
end
end L2
namespace HT
open PySem PyProof.Rows
section
open PySem.SeqAt
open PySem.AutoSeq1 (wpAny_loadPart')
open PySem.MeetsSeq PySem.MeetsSeq2 PySem.MeetsSeq3
end
section
variable {prog:Program} {w:World} {A:Around} {E:Value->Shared->Prop} {s:Shared}
theorem cat_tup {t b:Addr} {vs ws:List Value} {Q:Value->Shared->Prop} (ht:IsTup s.heap t vs.toArray) (hb:IsTup s.heap b ws.toArray) (hv:vs≠[])
  (h1:ws=[]->Q (.ref t) s) (h2:ws≠[]->Q (.ref s.heap.objs.size) { s with heap:=s.heap.push { cls:=.type "tuple",data:=.seq (vs ++ ws).toArray } })
  (hsz:vs.length + ws.length<=sizeLine):wpAny (model prog w) A (binaryOp .Add (.ref t) (.ref b)) Q E s:=by
 obtain ⟨⟨cls,dd,data,sl⟩,ho,hc,n,hd⟩:=id ht
 obtain ⟨⟨cls2,dd2,data2,sl2⟩,ho2,hc2,n2,hd2⟩:=id hb
 simp only at hc hd hc2 hd2
 subst hc hd hc2 hd2
 have e:vs.toArray ++ ws.toArray=(vs ++ ws).toArray:=by simp
 by_cases hw:ws=[]
 ·exact concat_meets ⟨_,ho,rfl⟩ ⟨_,ho2,rfl⟩ noFill_tuple_add seq_tuple_add PySem.F.slot_tuple_add PySem.F.entry_tuple_add (PySem.F.args_tuple_add_2 _ _)
   (tuple_addW1 t b vs.toArray ws.toArray n n2 dd dd2 sl sl2 (by simpa using hv) (by simp [hw])) ⟨ho,ho2,h1 hw⟩
 ·refine concat_meets ⟨_,ho,rfl⟩ ⟨_,ho2,rfl⟩ noFill_tuple_add seq_tuple_add PySem.F.slot_tuple_add PySem.F.entry_tuple_add (PySem.F.args_tuple_add_2 _ _)
   (tuple_addW2 t b vs.toArray ws.toArray n n2 dd dd2 sl sl2 (by simpa using hv) (by simpa using hw) (by rw [List.size_toArray,List.size_toArray]; exact hsz)) ⟨ho,ho2,?_⟩
  rw [e]
  exact h2 hw
end
end HT
namespace L2
open PySem PySem.Spec PyProof.Rows
abbrev TO:=St->Hp->(Option Int->Hp->Prop)->Prop
def PO (X:Cx) (e:Option Expr) (t:TO):Prop:=
 ∀ (pins:List (Addr×Obj)) (s:Shared) (σ:St) (H:Hp) (Q:Option Int->Hp->Prop),Inv X pins σ H s->t σ H Q ->
  wpAny (model X.prog X.w) X.A (evalPart e X.env) (fun u s'=>∃ o H',Inv X pins σ H' s'/\IsPart u o/\Q o H') X.xe s
def uL:TO:=fun _ H Q=>Q none H
def xG (t:TE):TO:=fun σ H Q=>t σ H fun x H1=>∃ i,x=.int i/\Q (some i) H1
section
variable {X:Cx} {e:Expr} {te:TE} {lo hi:Option Expr} {tl th:TO} {pos p2:Pos}
theorem qe:PO X none uL:=by
 intro pins s σ H Q I h
 rw [evalPart_none]
 exact wpAny_pure ⟨none,H,I,.none,h⟩
theorem qg (h:PE X e te):PO X (some e) (xG te):=by
 intro pins s σ H Q I hw
 rw [evalPart_some]
 refine thn (h pins s σ H _ I hw) fun u s1 ⟨x,H1,I1,r1,q1⟩=>?_
 obtain ⟨i,rfl,q⟩:=q1
 obtain ⟨t,rfl⟩:=r1
 exact ⟨some i,H1,I1,.int i t,q⟩
def SlR (X:Cx) (r:V->Option Int->Option Int->Hp->VK->Prop):Prop:=
 ∀ (pins:List (Addr×Obj)) (s:Shared) (σ:St) (H:Hp) (x:V) (v vl vu:Value) (lo hi:Option Int) (sl:Addr) (Q:VK),Inv X pins σ H s->aV x v->s.heap.IsSliceOf sl vl vu .none->IsPart vl lo->IsPart vu hi->r x lo hi H Q ->
  ∃ T id,typeLookup (.type T) "__getitem__"=pure (some (.builtin id))/\s.TypeIs v T/\wpAny (model X.prog X.w) X.A (getItem v (.ref sl)) (EP X pins σ Q) X.xe s
def tSl (r:V->Option Int->Option Int->Hp->VK->Prop) (te:TE) (tl th:TO):TE:=fun σ H Q=>te σ H fun x H1=>tl σ H1 fun l H2=>th σ H2 fun u H3=>r x l u H3 Q
theorem nh {r:V->Option Int->Option Int->Hp->VK->Prop} (hr:SlR X r) (he:PE X e te) (hl:PO X lo tl) (hu:PO X hi th):PE X (.Subscript e (.Slice lo hi none p2) pos) (tSl r te tl th):=by
 intro pins s σ H Q I h
 refine Subscript_ (thn (he pins s σ H _ I h) fun v s1 ⟨x,H1,I1,r1,q1⟩=>?_)
 refine wpAny_Slice (thn (hl pins s1 σ H1 _ I1 q1) fun vl s2 ⟨l,H2,I2,pl,q2⟩=>thn (hu pins s2 σ H2 _ I2 q2) fun vu s3 ⟨u,H3,I3,pu,q3⟩=>?_)
 rw [evalPart_none]
 refine wpAny_pure ?_
 have I4:Inv X pins σ H3 { s3 with heap:=s3.heap.push { cls:=.type "slice",data:=.fields #[vl,vu,.none] } }:=I3.kept (t':=s3.toks) fun b ob q=>Heap.get?_push_of_some _ q
 obtain ⟨T,id,hT,ht,hg⟩:=hr pins { s3 with heap:=s3.heap.push { cls:=.type "slice",data:=.fields #[vl,vu,.none] } } σ H3 x v vl vu l u s3.heap.objs.size Q I4 r1 (Heap.IsSliceOf.new ..) pl pu q3
 show wpAny (model X.prog X.w) X.A (subscriptTail e (.Slice lo hi none p2) v (.ref s3.heap.objs.size)) (EP X pins σ Q) X.xe { s3 with heap:=s3.heap.push { cls:=.type "slice",data:=.fields #[vl,vu,.none] } }
 exact tail_any (ops:=[.ref s3.heap.objs.size,v]) ht hT hg (by with_unfolding_all rfl)
def xN (K:PySem.W.Frag):R2:=fun x y H Q=>∃ a b xs ys,x=.ref a/\y=.ref b/\SqT K H a xs/\SqT K H b ys/\xs≠[]/\xs.length + ys.length<=sizeLine /\
 (ys=[]->Q (.ref a) H)/\(ys≠[]->∀ p,H p=none->Q (.ref p) (upd H p (.tup (xs ++ ys))))
theorem aP.nil_iff {xs:List V} {us:List Value} (r:aP xs us):us=[]↔xs=[]:=by
 cases r with
 | nil=>simp
 | cons _ _=>simp
theorem uK:OpR X (binaryOp .Add) (xN X.K):=by
 intro pins s σ H x y v u Q I rx ry h
 obtain ⟨a,b,xs,ys,rfl,rfl,ha,hb,hx,hz,q1,q2⟩:=h
 cases rx
 cases ry
 obtain ⟨its,r1,p1,_⟩:=I.tuple ha
 obtain ⟨its2,r2,p2,_⟩:=I.tuple hb
 refine HT.cat_tup p1 p2 (fun z=>hx (r1.nil_iff.mp z)) (fun z=>⟨.ref a,H,I,rfl,q1 (r2.nil_iff.mp z)⟩) (fun z=>?_) (by rw [<- r1.length,<- r2.length]; exact hz)
 refine ⟨.ref s.heap.objs.size,_,I.laid (t':=s.toks) (o:=.tup (xs ++ ys)) (fun b ob q=>Heap.get?_push_of_some _ q) (Nat.le_refl _) ?_,rfl,q2 (fun w=>z (r2.nil_iff.mpr w)) _ (I.hok.fresh (Nat.le_refl _))⟩
 exact ⟨by rw [List.length_append]; exact hz,_,r1.append r2,IsTup.new _ _,NoD.new _ rfl⟩
end
def ixN (n:Nat) (i:Int):Option Nat:=if 0<=i then (if i < n then some i.toNat else none) else if -(n:Int)<=i then some (i + n).toNat else none
def atI {α:Type} (xs:List α) (i:Int):Option α:=(ixN xs.length i).bind fun j=>xs[j]?
theorem pT {n:Nat} {i:Int} {j:Nat} (h:ixN n i=some j):seqIndex? i n=some j/\j < n/\-(n:Int)<=i/\i < n:=by
 unfold ixN at h
 by_cases h0:0<=i
 ·rw [if_pos h0] at h
  by_cases h1:i < n
  ·rw [if_pos h1] at h
   have e:i.toNat=j:=Option.some.inj h
   exact ⟨by rw [seqIndex_of h0 h1,e],by omega,by omega,h1⟩
  ·rw [if_neg h1] at h; cases h
 ·rw [if_neg h0] at h
  by_cases h1:-(n:Int)<=i
  ·rw [if_pos h1] at h
   have e:(i + n).toNat=j:=Option.some.inj h
   exact ⟨by rw [seqIndex_neg (by omega) h1,e],by omega,h1,by omega⟩
  ·rw [if_neg h1] at h; cases h
theorem kh {α:Type} {xs:List α} {i:Int} {v:α} (h:atI xs i=some v):∃ j,seqIndex? i xs.length=some j/\xs[j]?=some v/\j < xs.length/\-(xs.length:Int)<=i/\i < xs.length:=by
 unfold atI at h
 cases e:ixN xs.length i with
 | none=>rw [e] at h; cases h
 | some j=>
  rw [e] at h
  obtain ⟨h1,h2,h3,h4⟩:=pT e
  exact ⟨j,h1,h,h2,h3,h4⟩
theorem ag {α:Type} {xs:List α} {j:Nat} {v:α} (h:xs[j]?=some v):atI xs (j:Int)=some v:=by
 have hj:j < xs.length:=(List.getElem?_eq_some_iff.mp h).1
 have e:ixN xs.length (j:Int)=some j:=by
  unfold ixN
  rw [if_pos (by omega),if_pos (by omega)]; simp
 unfold atI; rw [e]; exact h
theorem np {α:Type} (xs:List α) (v:α):atI (xs ++ [v]) (-1)=some v:=by
 have hl:(xs ++ [v]).length=xs.length + 1:=by simp
 have e:ixN (xs ++ [v]).length (-1)=some xs.length:=by
  unfold ixN
  rw [hl,if_neg (by decide),if_pos (by omega)]
  congr 1
  omega
 unfold atI
 rw [e]
 show (xs ++ [v])[xs.length]?=some v
 simp
def vA (b:Expr):Prop:=∀ o i,subscripted b false o i=operate [o,i] (getItem o i)
def IxR (X:Cx) (r:R2):Prop:=
 ∀ (value slice:Expr) (pins:List (Addr×Obj)) (s:Shared) (σ:St) (H:Hp) (x y:V) (v u:Value) (Q:VK),Inv X pins σ H s->aV x v->aV y u->r x y H Q ->
  subscripted slice false v u=operate [v,u] (getItem v u)->wpAny (model X.prog X.w) X.A (subscriptTail value slice v u) (EP X pins σ Q) X.xe s
def MtR (X:Cx) (id:String) (r:V->List V->Hp->VK->Prop):Prop:=
 ∀ (pins:List (Addr×Obj)) (s:Shared) (σ:St) (H:Hp) (x:V) (xs:List V) (v:Value) (us:List Value) (Q:VK),Inv X pins σ H s->aV x v->aP xs us->r x xs H Q ->
  wpAny (model X.prog X.w) X.A (call (.builtin id) (v :: us)) (EP X pins σ Q) X.xe s
section
variable {X:Cx} {a b:Expr} {ta tb:TE} {pos:Pos}
theorem aE {r:R2} (hr:IxR X r) (ha:PE X a ta) (hb:PE X b tb) (hs:vA b):PE X (.Subscript a b pos) (tOp r ta tb):=by
 intro pins s σ H Q I h
 exact Subscript_ (wl ha hb I h fun v u s2 x y H2 I2 rx ry q=>hr a b pins s2 σ H2 x y v u Q I2 rx ry q (hs _ _))
def yh (K:PySem.W.Frag):R2:=fun x y H Q=>∃ p xs i v,x=.ref p/\y=.int i/\SqL K H p xs/\atI xs i=some v/\Q v H
def xF (K:PySem.W.Frag):R2:=fun x y H Q=>∃ p xs i v,x=.ref p/\y=.int i/\SqT K H p xs/\atI xs i=some v/\Q v H
def yf:R2:=fun x y H Q=>∃ z i c,x=.str z/\y=.int i/\z.length<=sizeLine/\atI z.cps.toList i=some c/\Q (.str ⟨#[c]⟩) H
theorem cp:IxR X (yh X.K):=by
 intro value slice pins s σ H x y v u Q I rx ry h hs
 obtain ⟨p,xs,i,z,rfl,rfl,hq,he,q⟩:=h
 cases rx
 obtain ⟨t,rfl⟩:=ry
 obtain ⟨its,r,pl,hz⟩:=I.list hq
 obtain ⟨j,h1,h2,h3,h4,h5⟩:=kh he
 obtain ⟨w,ew,rw'⟩:=r.get h2
 have hl:=r.length
 have hn:=gi
 have fin:EP X pins σ Q w s:=⟨z,H,I,rw',q⟩
 by_cases h0:0<=i
 ·have hj:i.toNat=j:=by
   rw [seqIndex_of h0 h5] at h1
   exact Option.some.inj h1
  exact item_listR pl.isList h0 (by omega) (by rw [hj]; simpa using ew) fin hs
 ·have hj:(i + (its.toArray.size:Int)).toNat=j:=by
   rw [seqIndex_neg (by omega) h4] at h1
   rw [List.size_toArray,<- hl]
   exact Option.some.inj h1
  exact subscriptTail_builtinR (x:=w) pl.isList.typeIs slot_list_getitem.lookup
   (wpAny_getItem_list_neg (Q:=fun r s'=>r=w/\EP X pins σ Q r s') pl.isList (by omega) (by rw [List.size_toArray] <;> omega) (by omega) (by rw [hj]; simpa using ew) ⟨rfl,fin⟩) hs
theorem aD:IxR X (xF X.K):=by
 intro value slice pins s σ H x y v u Q I rx ry h hs
 obtain ⟨p,xs,i,z,rfl,rfl,hq,he,q⟩:=h
 cases rx
 obtain ⟨t,rfl⟩:=ry
 obtain ⟨its,r,pl,hz⟩:=I.tuple hq
 obtain ⟨j,h1,h2,h3,h4,h5⟩:=kh he
 obtain ⟨w,ew,rw'⟩:=r.get h2
 have hl:=r.length
 have hn:=gi
 have fin:EP X pins σ Q w s:=⟨z,H,I,rw',q⟩
 exact subscriptTail_builtinR (x:=w) pl.typeIs slot_tuple_getitem.lookup
  (getItem_tuple (j:=j) (Q:=fun r s'=>r=w/\EP X pins σ Q r s') pl (by omega) (by omega) (by rw [List.size_toArray,<- hl]; exact h1) (by simpa using ew) ⟨rfl,fin⟩) hs
theorem se:IxR X yf:=by
 intro value slice pins s σ H x y v u Q I rx ry h hs
 obtain ⟨z,i,c,rfl,rfl,hz,he,q⟩:=h
 obtain ⟨t,rfl⟩:=rx
 obtain ⟨t',rfl⟩:=ry
 obtain ⟨j,h1,h2,h3,h4,h5⟩:=kh he
 have hl:z.cps.toList.length=z.length:=by simp [Str.length]
 rw [hl] at h1 h4 h5
 have hn:=gi
 exact tail_any (typeIs_str s z t) slot_str_getitem.lookup (getItem_str (c:=c) (by
  have e1:decide (i < -(2 ^ 63:Int))=false:=decide_eq_false (by omega)
  have e2:decide (i>=2 ^ 63)=false:=decide_eq_false (by omega)
  rw [e1,e2,Bool.or_false]) (by rw [h1]; simpa using h2) ⟨.str ⟨#[c]⟩,H,I.tok _,⟨_,rfl⟩,q⟩) hs
theorem oA (its:List Value) (n j:Nat) (u:Value):Obj.mapSeq (·.setIfInBounds j u) { cls:=.type "list",data:=.seq its.toArray n }={ cls:=.type "list",data:=.seq (its.set j u).toArray n }:=by
 simp [Obj.mapSeq]
theorem Inv.lst {pins:List (Addr×Obj)} {σ:St} {H:Hp} {s:Shared} {p:Addr} {xs:List V} (I:Inv X pins σ H s) (h:H p=some (.lst xs)) :
  ∃ (its:List Value) (n:Nat),aP xs its/\s.heap.get? p=some { cls:=.type "list",data:=.seq its.toArray n }/\xs.length<=sizeLine:=by
 obtain ⟨z,its,n,r,e⟩:=I.hok p _ h
 exact ⟨its,n,r,e,z⟩
theorem Inv.lstUpd {pins:List (Addr×Obj)} {σ:St} {H:Hp} {s:Shared} {p:Addr} {xs ys:List V} {its its':List Value} {n n':Nat} {f:Obj->Obj} (I:Inv X pins σ H s) (h:H p=some (.lst xs))
  (ho:s.heap.get? p=some { cls:=.type "list",data:=.seq its.toArray n }) (hf:f { cls:=.type "list",data:=.seq its.toArray n }={ cls:=.type "list",data:=.seq its'.toArray n' }) (r:aP ys its') (hz:ys.length<=sizeLine) (t:Nat) :
  Inv X pins σ (upd H p (.lst ys)) { s with heap:=s.heap.update p f,toks:=t }:=by
 have e:(s.heap.update p f).get? p=some { cls:=.type "list",data:=.seq its'.toArray n' }:=by
  rw [Heap.get?_update_self f ho (by rw [hf] <;> rfl),hf]
 refine I.write (x:=p) (e:=p) (by rw [h]; trivial) (.inl rfl) (fun b u hb q=>(Heap.get?_update_other _ _ (Ne.symm hb)).trans q) ⟨_,e⟩ ?_
 exact ⟨hz,its',n',r,e⟩
def xP:V->V->V->Hp->(Hp->Prop)->Prop:=fun o i v H Q=>∃ p xs k j,o=.ref p/\i=.int k/\H p=some (.lst xs)/\ixN xs.length k=some j/\Q (upd H p (.lst (xs.set j v)))
theorem nI:xH X xP:=by
 intro pins s σ H o i v ov iv u Q I ro ri rv h
 obtain ⟨p,xs,k,j,rfl,rfl,hp,hj,q⟩:=h
 cases ro
 obtain ⟨t,rfl⟩:=ri
 obtain ⟨its,n,r,ho,hz⟩:=I.lst hp
 obtain ⟨h1,h2,h3,h4⟩:=pT hj
 have hl:=r.length
 have hn:=gi
 have I':Inv X pins σ (upd H p (.lst (xs.set j v))) { s with heap:=s.heap.update p (Obj.mapSeq (·.setIfInBounds j u)) }:=
  I.lstUpd hp ho (oA its n j u) (r.set rv j) (by rw [List.length_set]; exact hz) s.toks
 by_cases h0:0<=k
 ·have hk:k.toNat=j:=by
   rw [seqIndex_of h0 h4] at h1
   exact Option.some.inj h1
  exact PySem.W.ki_setAt ho h0 (by omega) (by rw [List.size_toArray,<- hl]; exact h4) (by rw [hk]; exact ⟨_,I',q⟩)
 ·have hk:(k + (its.toArray.size:Int)).toNat=j:=by
   rw [seqIndex_neg (by omega) h3] at h1
   rw [List.size_toArray,<- hl]
   exact Option.some.inj h1
  exact PySem.W.ki_setBack ho (by omega) (by rw [List.size_toArray,<- hl]; exact h3) (by omega) (by rw [hk]; exact ⟨_,I',q⟩)
theorem bJ:bM X (.builtin "len") (fun xs H Q=>∃ p ys,xs=[.ref p]/\(SqL X.K H p ys\/SqT X.K H p ys)/\Q (.int ys.length) H):=by
 intro pins s σ H xs us Q I r h
 obtain ⟨p,ys,rfl,hq,q⟩:=h
 obtain ⟨u,rfl,rx⟩:=cC r
 cases rx
 have hn:=gi
 rcases hq with hq | hq
 ·obtain ⟨its,r',pl,hz⟩:=I.list hq
  have hlen:=r'.length
  exact Calls.call_len_list pl.isList (by simp only [List.size_toArray] <;> omega) ⟨.int ys.length,H,I.tok _,⟨s.toks + 1,by rw [List.size_toArray,hlen]⟩,q⟩
 ·obtain ⟨its,r',pl,hz⟩:=I.tuple hq
  have hlen:=r'.length
  exact len_tuple pl (by simp only [List.size_toArray] <;> omega) ⟨.int ys.length,H,I.tok _,⟨s.toks + 1,by rw [List.size_toArray,hlen]⟩,q⟩
theorem kB:bM X (.builtin "len") (fun xs H Q=>∃ z,xs=[.str z]/\z.length<=sizeLine/\Q (.int z.length) H):=by
 intro pins s σ H xs us Q I r h
 obtain ⟨z,rfl,hz,q⟩:=h
 obtain ⟨u,rfl,t,rfl⟩:=cC r
 have hn:=gi
 exact len_str (by omega) ⟨.int z.length,H,I.tok _,⟨_,rfl⟩,q⟩
theorem kI:bM X (.type "list") (fun xs H Q=>∃ p ys,xs=[.ref p]/\(SqL X.K H p ys\/SqT X.K H p ys)/\∀ l,H l=none->Q (.ref l) (upd H l (.lst ys))):=by
 intro pins s σ H xs us Q I r h
 obtain ⟨p,ys,rfl,hq,q⟩:=h
 obtain ⟨u,rfl,rx⟩:=cC r
 cases rx
 have fin:∀ (its:List Value),aP ys its->ys.length<=sizeLine->∀ (h':Heap) (c':Nat),(∀ b o',s.heap.get? b=some o'->h'.get? b=some o') ->
   h'.get? s.heap.objs.size=some { cls:=.type "list",dict:=none,data:=.seq its.toArray c',slots:=#[] }->EP X pins σ Q (.ref s.heap.objs.size) { s with heap:=h' }:=fun its r' hz h' c' kp e=>
  ⟨.ref s.heap.objs.size,_,I.laid (t':=s.toks) kp (Nat.le_refl _) (show aU X.prog X.w _ h' _ (.lst ys) from ⟨hz,its,c',r',e⟩),rfl,q _ (I.hok.fresh (Nat.le_refl _))⟩
 rcases hq with hq | hq
 ·obtain ⟨its,r',pl,hz⟩:=I.list hq
  have hlen:=r'.length
  obtain ⟨o,ho,hc,n,hd⟩:=pl.isList
  exact call_list_seq p (.inl rfl) ho hc hd (fun h' c' kp e=>fin its r' hz h' c' kp e) (by simp only [List.size_toArray] <;> omega)
 ·obtain ⟨its,r',pl,hz⟩:=I.tuple hq
  have hlen:=r'.length
  obtain ⟨o,ho,hc,n,hd⟩:=pl
  exact call_list_seq p (.inr rfl) ho hc hd (fun h' c' kp e=>fin its r' hz h' c' kp e) (by simp only [List.size_toArray] <;> omega)
theorem bO:bM X (.type "tuple") (fun xs H Q=>∃ p ys,xs=[.ref p]/\((SqL X.K H p ys/\∀ l,H l=none->Q (.ref l) (upd H l (.tup ys)))\/(SqT X.K H p ys/\Q (.ref p) H))):=by
 intro pins s σ H xs us Q I r h
 obtain ⟨p,ys,rfl,h⟩:=h
 obtain ⟨u,rfl,rx⟩:=cC r
 cases rx
 rcases h with ⟨hq,q⟩ | ⟨hq,q⟩
 ·obtain ⟨its,r',pl,hz⟩:=I.list hq
  have hlen:=r'.length
  refine call_tuple_list pl.isList (fun h' kp=>?_) (by simp only [List.size_toArray] <;> omega)
  have I1:Inv X pins σ H { s with heap:=h' }:=I.kept (t':=s.toks) kp
  have I2:Inv X pins σ (upd H h'.objs.size (.tup ys)) { s with heap:=h'.push { cls:=.type "tuple",data:=.seq its.toArray } }:=
   I1.laid (t':=s.toks) (fun b o e=>Heap.get?_push_of_some _ e) (Nat.le_refl _) (show aU X.prog X.w _ _ _ (.tup ys) from ⟨hz,its,r',IsTup.new _ _,NoD.new _ rfl⟩)
  exact ⟨.ref h'.objs.size,_,I2,rfl,q _ (I1.hok.fresh (Nat.le_refl _))⟩
 ·obtain ⟨its,r',pl,hz⟩:=I.tuple hq
  exact call_tuple_same pl ⟨.ref p,H,I,rfl,q⟩
def tyV (K:PySem.W.Frag) (T:String) (x:V) (H:Hp):Prop:=match x with
 | .str _=>T="str"
 | .int _=>T="int"
 | .ref p=>(T="list"/\∃ xs,SqL K H p xs)\/(T="tuple"/\∃ o,K.lookup p=some o/\o.cls=.type "tuple"/\o.dict=none) \/
   (T="dict"/\((∃ kvs,H p=some (.dK kvs))\/∃ kvs,H p=some (.dT kvs)))\/(T="set"/\∃ S n,H p=some (.set S n))
 | _=>False
theorem tI {pins:List (Addr×Obj)} {σ:St} {H:Hp} {s:Shared} {T:String} {x:V} {v:Value} (I:Inv X pins σ H s) (r:aV x v) (ty:tyV X.K T x H) :
  s.TypeIs v T/\∀ a,v=.ref a->∃ ob,s.heap.get? a=some ob/\ob.dict=none:=by
 cases x with
 | str z=>
  obtain ⟨t,rfl⟩:=r
  cases (show T="str" from ty)
  exact ⟨typeIs_str s z t,fun _ e=>nomatch e⟩
 | int i=>
  obtain ⟨t,rfl⟩:=r
  cases (show T="int" from ty)
  exact ⟨typeIs_int s i t,fun _ e=>nomatch e⟩
 | ref p=>
  cases r
  rcases ty with ⟨rfl,xs,hq⟩ | ⟨rfl,o,hk,hc,hd⟩ | ⟨rfl,hk⟩ | ⟨rfl,S,n,hk⟩
  ·obtain ⟨its,_,pl,_⟩:=I.list hq
   refine ⟨pl.isList.typeIs,fun a e=>?_⟩
   cases e
   obtain ⟨o,n,e,c,hd,_⟩:=pl
   exact ⟨o,e,hd⟩
  ·refine ⟨⟨o,I.kIn p o hk,hc⟩,fun a e=>?_⟩
   cases e
   exact ⟨o,I.kIn _ o hk,hd⟩
  ·have z:∃ o,s.heap.get? p=some o/\o.ExactDict:=by
    rcases hk with ⟨kvs,hk⟩ | ⟨kvs,hk⟩
    ·obtain ⟨_,_,_,_,o,_,_,e,ex,_⟩:=I.hok p _ hk
     exact ⟨o,e,ex⟩
    ·obtain ⟨_,_,_,_,o,_,_,e,ex,_⟩:=I.hok p _ hk
     exact ⟨o,e,ex⟩
   obtain ⟨o,e,ex⟩:=z
   refine ⟨⟨o,e,ex.1⟩,fun a e2=>?_⟩
   cases e2
   exact ⟨o,e,ex.2.1⟩
  ·obtain ⟨o,_,_,_,e,ex,_⟩:=I.hok p _ hk
   refine ⟨⟨o,e,ex.1⟩,fun a e2=>?_⟩
   cases e2
   exact ⟨o,e,ex.2.1⟩
 | _=>exact False.elim ty
def yt (K:PySem.W.Frag) (T:String) (r:V->List V->Hp->VK->Prop) (to:TE):TE:=fun σ H Q=>to σ H fun x H1=>tyV K T x H1/\r x [] H1 Q
def tBM (K:PySem.W.Frag) (T:String) (r:V->List V->Hp->VK->Prop) (to:TE) (t:TA):TE:=fun σ H Q=>to σ H fun x H1=>tyV K T x H1/\t σ H1 fun xs H2=>r x xs H2 Q
variable {o e:Expr} {es:List Expr} {to:TE} {t:TA} {name:Str} {apos cpos:Pos} {T id:String} {r:V->List V->Hp->VK->Prop}
theorem iB (pa:PlainAttrs T) (slot:Slot T name id) (hty:typeOf (.builtin id)=pure (.type "method_descriptor")) (hm:MtR X id r) (ho:PE X o to)
  (hbase:attributeBase o name X.env (eval o X.env)=eval o X.env:=by rfl) (hline:(apos.endLine == cpos.line)=true:=by rfl):PE X (.Call (.Attribute o name apos) [] [] cpos) (yt X.K T r to):=by
 intro pins s σ H Q I h
 refine wpAny_Call_method0_late hbase hline (thn (ho pins s σ H _ I h) fun v s1 ⟨x,H1,I1,r1,ty,q1⟩=>?_)
 obtain ⟨h1,h2⟩:=tI I1 r1 ty
 exact ⟨T,id,pa,slot,hty,h1,h2,Calls.callWith_builtin rfl (PySem.evalArgs_none (hm pins s1 σ H1 x [] v [] Q I1 r1 .nil q1))⟩
theorem jh (pa:PlainAttrs T) (slot:Slot T name id) (hty:typeOf (.builtin id)=pure (.type "method_descriptor")) (hm:MtR X id r) (ho:PE X o to) (ha:PA X (e :: es) t)
  (hbase:attributeBase o name X.env (eval o X.env)=eval o X.env:=by rfl)
  (hfew:((backTo cpos (starEach (e :: es) X.env)).all (fun x=>!x.1) && (backToKw cpos (keywordEach [] X.env)).all (fun x=>x.1.isSome)
   && decide ((e :: es).length + ([]:List Keyword).length + (if ([]:List Keyword).isEmpty then 0 else 1) < 30))=true:=by rfl)
  (hline:(apos.endLine == cpos.line)=true:=by rfl) (hs:starEach (e :: es) X.env=(false,eval e X.env) :: starEach es X.env:=by rfl) (hplain:(backTo cpos (starEach es X.env)).any (·.1)=false:=by rfl) :
  PE X (.Call (.Attribute o name apos) (e :: es) [] cpos) (tBM X.K T r to t):=by
 intro pins s σ H Q I h
 refine wpAny_Call_method_late hbase hfew hline rfl (thn (ho pins s σ H _ I h) fun v s1 ⟨x,H1,I1,r1,ty,q1⟩=>?_)
 obtain ⟨h1,h2⟩:=tI I1 r1 ty
 refine ⟨T,id,pa,slot,hty,h1,h2,?_⟩
 have hA:=ha cpos pins s1 σ H1 _ I1 q1
 rw [hs] at hA ⊢
 refine Calls.callWith_builtin (by show (false || (backTo cpos (starEach es X.env)).any (·.1))=false; rw [hplain] <;> rfl) (Calls.evalArgs_plain ?_)
 exact thn hA fun us s2 ⟨vs,H2,I2,r2,q2⟩=>hm pins s2 σ H2 x vs v us Q I2 r1 r2 q2
end
def MtM (X:Cx) (id:String) (r:V->List V->Hp->VK->Prop):Prop:=
 ∀ (pins:List (Addr×Obj)) (s:Shared) (σ:St) (H:Hp) (x:V) (xs:List V) (v:Value) (us:List Value) (Q:VK),Inv X pins σ H s->aV x v->aP xs us->r x xs H Q ->
  wpAny (model X.prog X.w) X.A (call (.builtin id) (v :: us)) (EP X pins σ Q) X.xe s
theorem aP.one:∀ {x:V} {us:List Value},aP [x] us->∃ u,us=[u]/\aV x u
 | _,_,.cons r .nil=>⟨_,rfl,r⟩
theorem aP.zero:∀ {us:List Value},aP [] us->us=[]
 | _,.nil=>rfl
theorem aP.dropLast {xs:List V} {us:List Value} (h:aP xs us):aP xs.dropLast us.dropLast:=by
 induction h with
 | nil=>exact .nil
 | cons r t ih=>
  cases t with
  | nil=>exact .nil
  | cons q t'=>exact .cons r ih
theorem om {α:Type} (l:List α):l.eraseIdx (l.length - 1)=l.dropLast:=by
 induction l with
 | nil=>rfl
 | cons a r ih=>
  cases r with
  | nil=>rfl
  | cons b r=>
   have e:(a :: b :: r).length - 1=((b :: r).length - 1) + 1:=by
    have h1:(a :: b :: r).length=r.length + 2:=rfl
    have h2:(b :: r).length=r.length + 1:=rfl
    omega
   rw [e,List.eraseIdx_cons_succ,ih]
   all_goals rfl
section
variable {X:Cx} {pins:List (Addr×Obj)} {σ:St} {H:Hp} {s:Shared} {l b:Addr} {xs ys zs:List V}
theorem Inv.lset {its its':List Value} {n:Nat} {f:Array Value->Array Value} {t':Nat} (I:Inv X pins σ H s) (hH:H l=some (.lst xs))
  (e:s.heap.get? l=some { cls:=.type "list",data:=.seq its.toArray n }) (hf:f its.toArray=its'.toArray) (hv:aP ys its') (hz:ys.length<=sizeLine) :
  Inv X pins σ (upd H l (.lst ys)) { s with heap:=s.heap.update l (Obj.mapSeq f),toks:=t' }:=by
 have q:=PySem.IsL.update e f
 rw [hf] at q
 refine I.write (x:=l) (e:=l) (by rw [hH]; exact trivial) (.inl rfl) (fun b' u hb hu=>(Heap.get?_update_other s.heap (Obj.mapSeq f) (Ne.symm hb)).trans hu) ⟨_,q⟩ ?_
 exact ⟨hz,its',_,hv,q⟩
theorem Inv.lnew {its:List Value} {t':Nat} (I:Inv X pins σ H s) (hv:aP ys its) (hz:ys.length<=sizeLine) :
  Inv X pins σ (upd H s.heap.objs.size (.lst ys)) { s with heap:=s.heap.push { cls:=.type "list",data:=.seq its.toArray },toks:=t' }:=
 I.laid (fun _ _ q=>Heap.get?_push_of_some _ q) (Nat.le_refl _) ⟨hz,its,0,hv,Heap.get?_push_size _ rfl⟩
theorem Inv.fresh (I:Inv X pins σ H s):H s.heap.objs.size=none:=I.hok.fresh (Nat.le_refl _)
theorem Inv.lstM (I:Inv X pins σ H s) (hH:H l=some (.lst xs)):xs.length<=sizeLine/\∃ (its:List Value) (n:Nat),aP xs its/\xs.length=its.length/\s.heap.get? l=some { cls:=.type "list",data:=.seq its.toArray n }:=by
 obtain ⟨z,its,n,r,e⟩:=I.hok l _ hH
 exact ⟨z,its,n,r,r.length,e⟩
end
section
variable {X:Cx}
def pW:V->List V->Hp->VK->Prop:=fun x vs H Q=>∃ l xs y,x=.ref l/\vs=[y]/\H l=some (.lst xs)/\xs.length < sizeLine/\Q .non (upd H l (.lst (xs ++ [y])))
theorem cI:MtM X "list.append" pW:=by
 intro pins s σ H x vs v us Q I rx rv h
 obtain ⟨l,xs,y,rfl,rfl,hH,hz,q⟩:=h
 cases rx
 obtain ⟨u,rfl,ru⟩:=rv.one
 obtain ⟨z,its,n,r,hl,e⟩:=I.lstM hH
 refine call_meets F.slot_list_append ⟨_,e,rfl⟩ F.entry_list_append (F.args_list_append_2 _ _) (PySem.list_append l its.toArray n u (by rw [List.size_toArray]; omega)) ⟨e,?_⟩
 refine ⟨.non,_,I.lset (its':=its ++ [u]) hH e (by simp) (r.append (.cons ru .nil)) ?_,rfl,q⟩
 rw [List.length_append,List.length_singleton]
 omega
def yc:V->List V->Hp->VK->Prop:=fun x vs H Q=>∃ l xs y,x=.ref l/\vs=[]/\H l=some (.lst xs)/\xs[xs.length - 1]?=some y/\Q y (upd H l (.lst xs.dropLast))
theorem nQ:MtM X "list.pop" yc:=by
 intro pins s σ H x vs v us Q I rx rv h
 obtain ⟨l,xs,y,rfl,rfl,hH,hy,q⟩:=h
 cases rx
 have hus:=rv.zero
 subst hus
 obtain ⟨z,its,n,r,hl,e⟩:=I.lstM hH
 obtain ⟨u,hu,ru⟩:=r.get hy
 have hy':its.toArray[its.toArray.size - 1]?=some u:=by
  show its.toArray[its.length - 1]?=some u
  rw [<- Array.getElem?_toList,<- hl]
  exact hu
 refine call_meets F.slot_list_pop ⟨_,e,rfl⟩ F.entry_list_pop (F.args_list_pop_1 _) (MeetsSeq.list_pop_last l its.toArray n u hy' (by rw [List.size_toArray]; omega)) ⟨e,?_⟩
 refine ⟨y,_,I.lset (its':=its.dropLast) hH e ?_ r.dropLast ?_,ru,q⟩
 ·show its.toArray.eraseIdxIfInBounds (its.toArray.size - 1)=its.dropLast.toArray
  rw [List.size_toArray,List.eraseIdxIfInBounds_toArray,om]
 ·rw [List.length_dropLast]
  omega
end
section
variable {prog:Program} {w:World} {A:Around} {E:Value->Shared->Prop} {s:Shared}
end
section
variable {X:Cx}
end
end L2
namespace Att
open PySem PySem.W PySem.Calls PyProof.Rows
theorem gU {P:Params} {h:Heap}:∀ (ns:List Int) (vs:List Value),WellAll P h vs (ns.map WData.int)->IntsAre vs ns:=by
 intro ns
 induction ns with
 | nil=>
  intro vs w
  rw [List.map_nil] at w
  cases w
  exact .nil
 | cons n ns ih=>
  intro vs w
  rw [List.map_cons] at w
  cases w with
  | cons a b=>
   cases a
   exact .cons _ _ (ih _ b)
theorem rh {l:OpenLaw} {n:Nat} (hn:l.most=some n) {P:Params} {h:Heap} {args:List WData} {vals:List Value}
  (hpre:l.row.toRowW.claim.pre args=true) (hwl:WellAll P h vals args) :
  ∃ a vs ns,vals=[Value.ref a]/\args=[WData.list (ns.map WData.int)]/\h.get? a=some { cls:=.type "list",data:=.seq vs.toArray }/\IntsAre vs ns/\ns.length<=n:=by
 have hsh:WShape.hasAll [] args [.list .int]=true:=(pre_splitW hpre).1
 have hc:l.pre.holds [] { args:=args }=true:=(pre_splitW hpre).2
 obtain ⟨d,r,rfl,h1,h2⟩:=hasAllW_cons hsh
 obtain rfl:=hasAllW_nil h2
 obtain ⟨xs,rfl,h3⟩:=hasW_list h1
 obtain ⟨ns,rfl⟩:=items_int h3
 have hlen:ns.length<=n:=by
  unfold OpenLaw.pre at hc
  have h4:(WTm.not (.lt (.lit (.int (n:Int))) (.len (.arg 0)))).holds [] { args:=[.list (ns.map .int)] }=true:=by
   have h4:=(holds_andW hc).1
   rw [hn] at h4
   exact h4
  have h5:=condW_of h4 (w_not (w_lt w_lit (w_len_list (w_arg rfl))))
  rw [List.length_map] at h5
  refine Nat.le_of_not_lt fun q=>?_
  have q':(n:Int) < ((ns.length:Nat):Int):=by omega
  first
   | (rw [decide_eq_true q'] at h5; exact absurd h5 (by decide))
   | (simp at h5; omega)
 cases hwl with
 | cons w1 w2=>
  cases w2
  cases w1 with
  | list ho hall=>exact ⟨_,_,ns,rfl,rfl,ho,gU ns _ hall,hlen⟩
theorem qu (l:OpenLaw) (args:List WData):l.row.toRowW.claim.post args (.bool true) args=true:=
 postW_of (r:=l.row.toRowW) (X:=(true == true))
  (show WShape.has [] (.bool true) .bool=true by first | rfl | decide | simp [WShape.has,WShape.arms,WShape.armsAll])
  (show (WTm.eq .res (.lit (.bool true))).value [] { args:=args,res:=some (.bool true),after:=args }=some (.bool (true == true)) from w_eq_bool (w_res rfl) w_lit) rfl
theorem attach_call {l:OpenLaw} {n:Nat} {q:Program} {loose:List Str} {XP:(Str->Option Value)->Heap->Prop} {YP:World->Heap->Prop} {d:DefRec}
  (hn:l.most=some n) (hdf:d.params.defaults=[])
  (call:∀ (w:World) (s₀ s₁:Shared) (mg mb:Str->Option Value) (fa:Addr) (o:Obj) (pm cd doc:Value) (a:Addr) (vs:List Value) (ns:List Int),
   Ground q loose [] XP w s₀ mg mb s₁.heap->YP w s₁.heap ->
   s₁.heap.get? fa=some o->o.data=.func (docDef d.name d.params d.body d.scope pm cd doc)->s₁.heap.CodeRec cd d.name->mg d.name=some (.ref fa) ->
   s₁.heap.get? a=some { cls:=.type "list",data:=.seq vs.toArray }->IntsAre vs ns->ns.length<=n->s₁.gens=#[] ->
   codeAny (model l.prog w) callerA (.call (.ref fa) ⟨[.ref a],[]⟩) (fun r s'=>r=.ok (.ret (.bool true))/\OldK s₁.heap s'.heap/\s'.os=s₁.os/\AllBare s'.gens) s₁) :
  WalkO q loose XP YP l.row.toRowW d [] (fun f vs=>PySem.call f vs):=by
 intro w s₀ s₁ mg mb G Y fa o pm cd doc dV kV ho hd hcd hD hmg hg args vals as hpre hlay hrd hwl hlo
 obtain rfl:dV=.none:=Dflts.none hD hdf
 obtain rfl:kV=.none:=Dflts.noKw hD
 obtain ⟨a,vs,ns,rfl,rfl,hobj,hints,hlen⟩:=rh hn hpre hwl
 refine enter_call (codeAny_mono (call w s₀ s₁ mg mb fa o pm cd doc a vs ns G Y ho (fd_plain hd) hcd hmg hobj hints hlen hg) fun r s' hq=>?_)
 obtain ⟨rfl,h2,h3,h4⟩:=hq
 exact ⟨.inl ⟨.bool true,.bool true,[],rfl,fun _=>rfl,.bool true,qu l _,fun _=>⟨List.Pairwise.nil,fun _ hm=>(nomatch hm)⟩⟩,h2,h3,h4⟩
section
variable {prog:Program} {w:World} {A:Around} {E:Value->Shared->Prop} {s:Shared} {K:Frag}
def noObjs (h:Heap):Heap:={ h with objs:=#[] }
theorem noObjs_get (h:Heap) (b:Addr):(noObjs h).get? b=none:=by
 cases e:(noObjs h).get? b with
 | none=>rfl
 | some o=>exact absurd (Heap.lt_size e) (Nat.not_lt_zero _)
theorem fr_all {h:Heap} {L:Addr} {m:Str->Option Value} (n:h.Ns L m):Fr (noObjs h) L h m:=
 ⟨n,fun b o e=>(by rw [noObjs_get] at e; cases e),Nat.zero_le _⟩
end
end Att
namespace L2
open PySem PySem.Spec PyProof.Rows
theorem jp:∀ {vs:List Value} {ns:List Int},IntsAre vs ns->aP (ns.map V.int) vs
 | _,_,.nil=>.nil
 | _,_,.cons n t h=>.cons ⟨t,rfl⟩ (jp h)
def wF (H:Hp):Prop:=∀ b,H b=none\/∃ o xs,H b=some (.frz o (.lst xs))
theorem tV {P:Program} {w:World} {K:PySem.W.Frag} {mg mb:Str->Option Value} {CX:CXT} {k:Nat} {fa a:Addr} {fd:FuncData} {x:Str} {sp:Sp} {s₁:Shared} {vs:List Value} {ns:List Int}
  (KX:K.In s₁.heap) (hns:s₁.heap.Ns mainGlobals mg) (hb:s₁.heap.Ns builtinsNs mb) (hbb:∀ x:Str,x≠"__name__"->mb x=bootBuiltins x) (hlim:s₁.heap.NoLimit) (hg:s₁.gens=#[])
  (ha:s₁.heap.get? a=some { cls:=.type "list",data:=.seq vs.toArray }) (hi:IntsAre vs ns) (hl:ns.length<=sizeLine) (hr:dJ k callerA)
  (F:∀ base:Heap,K.In base->base.Ns mainGlobals mg->bj P w K mg base CX k fa fd [x] sp) (hbind:∀ (s:Shared) (u:Value),BindsTo s fd ⟨[u],[]⟩ [(x,u)])
  (hsp:∀ H:Hp,wF H->SqL K H a (ns.map V.int)->sp [.ref a] H (fun v _=>v=.bl true) fun _ _ _=>False)
  (hCX:∀ H e s',CX [] H s₁ (fun _ _ _=>False) e s'->False) :
  codeAny (model P w) callerA (.call (.ref fa) ⟨[.ref a],[]⟩) (fun r s'=>r=.ok (.ret (.bool true))/\OldK s₁.heap s'.heap/\s'.os=s₁.os/\AllBare s'.gens) s₁:=by
 have rv:=jp hi
 have lenV:=hi.length
 have core:∀ H:Hp,wF H->SqL K H a (ns.map V.int)->HOk P w H s₁.heap->(∀ b,H b≠none->b=a)->(H a≠none->K.lookup a=none) ->
   codeAny (model P w) callerA (.call (.ref fa) ⟨[.ref a],[]⟩) (fun r s'=>r=.ok (.ret (.bool true))/\OldK s₁.heap s'.heap/\s'.os=s₁.os/\AllBare s'.gens) s₁:=by
  intro H hO hS hok hA hK
  have base_of:∀ {b:Addr} {o:Obj},s₁.heap.get? b=some o->H b=none->(kH s₁.heap H).get? b=some o:=fun e n=>rX e n
  have noA:∀ {b:Addr} {o:Obj} {es:Array DictEntry} {ep:Nat},s₁.heap.get? b=some o->o.data=.dict es ep->H b=none:=fun {b o es ep} e d=>by
   cases q:H b with
   | none=>rfl
   | some u=>
    have e':b=a:=hA b (by rw [q]; simp)
    subst e'
    rw [ha] at e; cases e
    have d':Data.seq vs.toArray _=Data.dict es ep:=d
    cases d'
  have nsK:∀ {b:Addr} {m:Str->Option Value},s₁.heap.Ns b m->(kH s₁.heap H).Ns b m:=fun {b m} ⟨o,es,ep,e,d,r⟩=>⟨o,es,ep,base_of e (noA e d),d,r⟩
  have hKb:K.In (kH s₁.heap H):=fun b o e=>base_of (KX b o e) (by
   cases q:H b with
   | none=>rfl
   | some u=>
    have e':b=a:=hA b (by rw [q]; simp)
    subst e'
    rw [hK (by rw [q]; simp)] at e; cases e)
  have hM:Mod K mg (kH s₁.heap H):=⟨hKb,nsK hns,⟨mb,nsK hb,hbb⟩,let ⟨mc,h1,h2⟩:=hlim; ⟨mc,nsK h1,h2⟩⟩
  have e0:vd P w K mg (kH s₁.heap H) callerA [] s₁ H:=⟨rfl,hM,fun b o e=>uZ e,Nat.le_of_eq (qY _ _),trivial,fun b hb=>absurd (show b∈([]:List Addr) from hb) (by simp),hok,.of_eq hg⟩
  refine codeAny_mono ((F _ hKb (nsK hns)).run callerA [] s₁ H ⟨[.ref a],[]⟩ [.ref a] [.ref a] _ _ hr e0 (hbind s₁ (.ref a)) (.cons rfl .nil) (hsp H hO hS)) fun r s' h=>?_
  cases r with
  | error e=>exact (hCX H e s' h).elim
  | ok fl=>
   cases fl with
   | next=>exact False.elim h
   | brk=>exact False.elim h
   | cont=>exact False.elim h
   | ret u=>
    obtain ⟨v,H',os,bare,un,hok',r',q⟩:=h
    have q':v=.bl true:=q
    subst q'
    obtain rfl:u=Value.bool true:=r'
    refine ⟨rfl,OldK.of_keep fun b o e=>?_,os,bare⟩
    cases q:H b with
    | none=>exact un.keep b o e q (by intro z; exact absurd (show b∈([]:List Addr) from z) (by simp)) (by simp)
    | some u=>
     rcases hO b with z | ⟨ob,xs,z⟩
     ·rw [q] at z; cases z
     ·have z2:=un.frzs b ob _ z
      obtain ⟨e1,_⟩:=hok b _ z
      obtain ⟨e2,_⟩:=hok' b _ z2
      rw [e] at e1; cases e1
      exact e2
 cases hk:K.lookup a with
 | some o=>
  have e:=KX a o hk
  rw [ha] at e
  cases e
  refine core (fun _=>none) (fun _=>.inl rfl) (.inr ⟨_,vs.toArray,_,hk,rfl,rfl,rfl,by rw [List.size_toArray,lenV]; exact hl,by simpa using rv⟩) (fun b u z=>by have z':(none:Option HO)=some u:=z; cases z') (fun b z=>absurd rfl z) fun z=>absurd rfl z
 | none=>
  refine core (fun b=>if b=a then some (.frz { cls:=.type "list",data:=.seq vs.toArray } (.lst (ns.map V.int))) else none) (fun b=>?_) (.inl (.inr ⟨{ cls:=.type "list",data:=.seq vs.toArray },if_pos rfl⟩)) (fun b u z=>?_) (fun b z=>?_) fun _=>hk
  ·by_cases hb:b=a
   ·exact .inr ⟨_,_,if_pos hb⟩
   ·exact .inl (if_neg hb)
  ·by_cases hb:b=a
   ·have z':=(if_pos hb).symm.trans z
    cases z'
    subst hb
    exact ⟨ha,by rw [List.length_map]; exact hl,vs,_,rv,ha⟩
   ·have z':=(if_neg hb).symm.trans z
    cases z'
  ·by_cases hb:b=a
   ·exact hb
   ·exact absurd (if_neg hb) z
theorem walk_of {l:PySem.W.OpenLaw} {n k:Nat} {q:Program} {loose:List Str} {XP:(Str->Option Value)->Heap->Prop} {YP:World->Heap->Prop} {d:DefRec} {K:Params->PySem.W.Frag} {CX:World->CXT} {sp:World->Sp} {x:Str}
  (hn:l.most=some n) (hn2:n<=sizeLine) (hdf:d.params.defaults=[]) (hr:dJ k callerA)
  (hY:∀ (w:World) (h:Heap),YP w h->(K w.params).In h)
  (F:∀ (w:World) (mg:Str->Option Value) (fa:Addr) (h:Heap),(K w.params).In h->h.Ns mainGlobals mg->mg d.name=some (.ref fa) ->
   ∃ fd:FuncData,(∀ (s:Shared) (u:Value),BindsTo s fd ⟨[u],[]⟩ [(x,u)]) /\
    ∀ base:Heap,(K w.params).In base->base.Ns mainGlobals mg->bj l.prog w (K w.params) mg base (CX w) k fa fd [x] (sp w))
  (hsp:∀ (w:World) (H:Hp) (a:Addr) (ns:List Int),ns.length<=n->wF H->SqL (K w.params) H a (ns.map V.int)->sp w [.ref a] H (fun v _=>v=.bl true) fun _ _ _=>False)
  (hCX:∀ (w:World) (H:Hp) (s:Shared) (e:Value) (s':Shared),CX w [] H s (fun _ _ _=>False) e s'->False) :
  PySem.W.WalkO q loose XP YP l.row.toRowW d [] (fun f vs=>PySem.call f vs):=by
 refine Att.attach_call hn hdf fun w s₀ s₁ mg mb fa o pm cd doc a vs ns G Y ho hd hcd hmg hobj hints hlen hg=>?_
 have KX:=hY w _ Y
 obtain ⟨fd,hb,hF⟩:=F w mg fa _ KX G.T.g hmg
 exact tV KX G.T.g G.T.b G.T.builtins G.T.nolimit hg hobj hints (Nat.le_trans hlen hn2) hr hF hb (fun H hO hS=>hsp w H a ns hlen hO hS) fun H e s'=>hCX w H s₁ e s'
def aO (s:Stmt):Arguments:=match s with
 | .FunctionDef _ a _ _ _ _ _ _ _ _=>a
 | _=>{ posonlyargs:=[],args:=[],vararg:=none,kwonlyargs:=[],kw_defaults:=[],kwarg:=none,defaults:=[] }
def aL (s:Stmt):List Stmt:=match s with
 | .FunctionDef _ _ b _ _ _ _ _ _ _=>b
 | _=>[]
def ai (s:Stmt):Scope:=match s with
 | .FunctionDef _ _ _ _ _ _ sc _ _ _=>sc
 | _=>{ kind:=.function,names:=[],isGenerator:=false,isCoroutine:=false }
abbrev CX0:CXT:=fun _ _ _ _ _ _=>False
abbrev E0:XK:=fun _ _ _=>False
theorem xq {X:Cx}:nZ CX0 X E0:=fun _ _ _ _ _ _ _ h=>h.elim
structure Fun (K:PySem.W.Frag) (x qual:Str) (st:Stmt) (f:Addr) (fd:FuncData):Prop where
 ex:∃ (oc:Value) (od:Option Addr) (kV doc pm:Value) (an:Option Addr) (cdv ct:Value) (osl:Array (Option Value)),
  fd=PySem.W.fnOf x qual (aO st) (aL st) (ai st) .none kV doc pm an cdv ct/\K.lookup f=some ⟨oc,od,.func fd,osl⟩/\PySem.W.codeIn K cdv qual=true
 kp:PySem.W.keepIn K (.ref f)=true
section
variable {P:Program} {w:World} {K:PySem.W.Frag} {mg:Str->Option Value} {base:Heap}
theorem Fun.ok {x qual:Str} {st:Stmt} {f:Addr} {fd:FuncData} {N ps:List Str} {k:Nat} {sp:Sp} (F:Fun K x qual st f fd) (S:aR N ps (ai st)) (len:∀ vs H Q E,sp vs H Q E->vs.length=ps.length)
  (hbody:∀ (cdv:Value) (A:Around) (outer:List Env) (s:Shared) (H:Hp) (vs:List V) (Q:VK) (E:XK),dJ k (A.deeper (envOfC qual (ai st) s.heap.objs.size f cdv))->sp vs H Q E ->
   ∃ t,PSs (rb CX0 P w K mg base N qual (ai st) f cdv A outer s H E).nox (aL st) t/\t { nx:=fun _ H'=>Q .non H',rt:=Q } (gT N vs) H):bj P w K mg base CX0 (k + 1) f fd ps sp:=by
 obtain ⟨oc,od,kV,doc,pm,an,cdv,ct,osl,rfl,lk,hcd⟩:=F.ex
 refine xk lk hcd S len fun A outer s H vs Q E hr hsp=>?_
 obtain ⟨t,h,q⟩:=hbody cdv A outer s H vs Q E hr hsp
 exact ⟨t,h.nox,q⟩
theorem Fun.binds {x qual:Str} {st:Stmt} {f:Addr} {fd:FuncData} {ps:List Str} (F:Fun K x qual st f fd)
  (h:∀ (kV doc pm:Value) (an:Option Addr) (cdv ct:Value) (us:List Value),us.length=ps.length->bindArgs (PySem.W.fnOf x qual (aO st) (aL st) (ai st) .none kV doc pm an cdv ct) ⟨us,[]⟩=pure (ps.zip us)):jm K fd ps []:=by
 obtain ⟨oc,od,kV,doc,pm,an,cdv,ct,osl,rfl,lk,hcd⟩:=F.ex
 exact .all (h kV doc pm an cdv ct)
theorem bh {x qual:Str} {st:Stmt} {f:Addr} {oc:Value} {od an:Option Addr} {osl:Array (Option Value)} {kV doc pm cdv ct:Value} (l:K.lookup f=some ⟨oc,od,.func (PySem.W.fnOf x qual (aO st) (aL st) (ai st) .none kV doc pm an cdv ct),osl⟩)
  (c:PySem.W.codeIn K cdv qual=true) (k:PySem.W.keepIn K (.ref f)=true):Fun K x qual st f (PySem.W.fnOf x qual (aO st) (aL st) (ai st) .none kV doc pm an cdv ct):=⟨⟨oc,od,kV,doc,pm,an,cdv,ct,osl,rfl,l,c⟩,k⟩
end
theorem iS {A:Around} {k:Nat} (hr:dJ k A):A.units + 1 < cLine:=Nat.lt_of_le_of_lt (Nat.add_le_add_left (by decide:1<=64) _) hr.units
section
variable {X:Cx}
theorem pv (i:Nat) {x:Str} {pos:Pos} (hN:X.N[i]?=some x:=by rfl) (hv:Vis X.env.scope x:=by first | exact Or.inl rfl | exact Or.inr (Or.inl rfl) | exact Or.inr (Or.inr rfl)) (hd:(x == ("__debug__" : Str))=false:=by decide)
  (hcd:(x == ("__classdict__" : Str))=false:=by decide):PE X (.Name x pos) (xz i):=wm hN hv hd hcd
end
theorem cF {A B:Prop} (h:B):if false=true then A else B:=by
 rw [if_neg Bool.false_ne_true]
 exact h
theorem cQ {A B:Prop} (h:A):if true=true then A else B:=by
 rw [if_pos rfl]
 exact h
theorem aW {c A B:Prop} [Decidable c] (h1:c->A) (h2:¬ c->B):if c then A else B:=by
 by_cases h:c
 ·rw [if_pos h]
  exact h1 h
 ·rw [if_neg h]
  exact h2 h
theorem pb {c A B:Prop} [Decidable c] (hc:c) (h:B):if (!decide c)=true then A else B:=by
 rw [decide_eq_true hc]
 exact cF h
def aq (H H':Hp):Prop:=∀ b o,H b=some o->H' b=some o
theorem aq.refl (H:Hp):aq H H:=fun _ _ h=>h
theorem aq.trans {H H1 H2:Hp} (a:aq H H1) (b:aq H1 H2):aq H H2:=fun c o h=>b c o (a c o h)
theorem aq.free {H H':Hp} (e:aq H H') {l:Addr} (h:H' l=Option.none):H l=Option.none:=by
 cases q:H l with
 | none=>rfl
 | some o=>
  rw [e l o q] at h
  cases h
theorem aq.seq {K:PySem.W.Frag} {H H':Hp} {a:Addr} {xs:List V} (e:aq H H') (h:SqL K H a xs):SqL K H' a xs:=by
 rcases h with (h | ⟨o,h⟩) | h
 ·exact .inl (.inl (e _ _ h))
 ·exact .inl (.inr ⟨o,e _ _ h⟩)
 ·exact .inr h
section
variable {κ:Type} [DecidableEq κ]
end
theorem uX {prog:Program} {w:World} {A:Around} {R:Result->Shared->Prop} {s:Shared} {elt target iter:Expr} {ifs:List Expr} {scope:Scope} {pos:Pos} {it acc:Value} {env:Env} (I:Nat->Shared->Prop)
  (turn:∀ n s,I n s->wpAny (model prog w) A (pyNext it) (fun r s₁=>match r with
   | none=>R (.ok .next) s₁
   | some v=>wpAny (model prog w) A (letOwnedTupleGo target it v) (fun _ s₁'=>wpAny (model prog w) A (assign target env v) (fun _ s₂=>
     wpAny (model prog w) A (forIn ifs true fun c r=>if r=true then do let ok <- isTrue c env (eval c env); pure (ForInStep.yield ok) else pure (ForInStep.yield r)) (fun ok s₃=>
      if ok=true then wpAny (model prog w) A (eval elt env) (fun x s₄=>
       wpAny (model prog w) A (call (.builtin "list.append") [acc,x]) (fun _ s₅=>∃ m,m < n/\I m s₅) (fun _ _=>False) s₄) (fun _ _=>False) s₃
      else ∃ m,m < n/\I m s₃) (fun _ _=>False) s₂) (fun _ _=>False) s₁') (fun _ _=>False) s₁) (fun _ _=>False) s)
  (n:Nat) (h:I n s) :
  codeAny (model prog w) A (.compLoop (.ListComp elt [⟨target,iter,ifs,0⟩] scope pos) 0 it acc env) R s:=by
 refine codeAny_loop rfl I (fun n s hI=>?_) n h
 show wpAny _ A ((compTurn (.ListComp elt [⟨target,iter,ifs,0⟩] scope pos) 0 it acc env).onRaise (fun x=>do noteFrame x env; theTreesLotGoes x)) _ _ s
 refine wpAny_noted ?_
 rw [compTurn_list]
 have no:∀ {E:Value->Shared->Prop} (x:Value) (s:Shared),False->E x s:=fun _ _ z=>z.elim
 refine wpAny_bind (wpAny_standAt (wpAny_bind (wpAny_mono (turn n s hI) (fun r s₁ h₁=>?_) no)))
 cases r with
 | none=>exact wpAny_pure h₁
 | some v=>
  refine wpAny_bind (wpAny_mono h₁ (fun _ s₁' h₁'=>?_) no)
  refine wpAny_bind (wpAny_mono h₁' (fun _ s₂ h₂=>wpAny_bind (wpAny_mono h₂ (fun ok s₃ h₃=>?_) no)) no)
  cases ok with
  | false=>exact wpAny_pure ⟨rfl,h₃⟩
  | true=>
   exact wpAny_bind (wpAny_bind (wpAny_mono h₃ (fun x s₄ h₄=>wpAny_bind (wpAny_mono h₄ (fun _ s₅ h₅=>wpAny_pure (wpAny_pure ⟨rfl,h₅⟩)) no)) no))
def bf (env:Env):List (Str×NameKind)->List (Str×Addr)->List (Str×Addr)
 | [],acc=>acc
 | (n,k) :: r,acc=>if k=.free then bf env r (match env.cells.lookup n with | some c=>(n,c) :: acc | none=>acc) else bf env r acc
theorem mi {env:Env} {scope:Scope} (h:∀ x∈scope.names,x.2=.free->∃ c,env.cells.lookup x.1=some c):closureFor scope env=pure (bf env scope.names []):=by
 have all:∀ (l:List (Str×NameKind)) (acc:List (Str×Addr)),(∀ x∈l,x.2=NameKind.free->∃ c,env.cells.lookup x.1=some c) ->
   (forIn l acc fun x cs=>(do
    if x.2 == NameKind.free then
     let a <- cellOf env x.1
     pure (ForInStep.yield ((x.1,a) :: cs))
    else pure (ForInStep.yield cs):Sem _))=pure (bf env l acc):=by
  intro l
  induction l with
  | nil=>intro acc _; rfl
  | cons x r ih=>
   intro acc hl
   obtain ⟨n,k⟩:=x
   have hr:=fun y hy=>hl y (List.mem_cons_of_mem _ hy)
   rw [List.forIn_cons]
   by_cases hk:k=.free
   ·subst hk
    obtain ⟨c,hc⟩:=hl (n,.free) List.mem_cons_self rfl
    simp only [beq_self_eq_true,if_true,bf]
    have e:cellOf env n=pure c:=by unfold cellOf; rw [show env.cells.lookup n=some c from hc]
    rw [e]
    simp only [pure_bind]
    rw [ih _ hr,show env.cells.lookup n=some c from hc]
   ·have hb:(k == NameKind.free)=false:=by simpa using hk
    simp only [hb,Bool.false_eq_true,if_false,bf,if_neg hk,pure_bind]
    exact ih _ hr
 unfold closureFor
 exact (congrArg (fun t:Sem (List (Str×Addr))=>t >>= pure) (all scope.names [] h)).trans (by simp)
theorem bA {env:Env}:∀ (l:List (Str×NameKind)) (acc:List (Str×Addr)),(∀ n c,acc.lookup n=some c->env.cells.lookup n=some c)->∀ n c,(bf env l acc).lookup n=some c->env.cells.lookup n=some c
 | [],acc,h,n,c,e=>h n c e
 | (m,k) :: r,acc,h,n,c,e=>by
  unfold bf at e
  split at e
  ·refine bA r _ ?_ n c e
   intro n' c' e'
   split at e'
   ·rename_i c0 hc0
    rw [List.lookup_cons] at e'
    split at e'
    ·rename_i hb
     have:n'=m:=by simpa using hb
     subst this
     cases e'
     exact hc0
    ·exact h n' c' e'
   ·exact h n' c' e'
  ·exact bA r _ h n c e
theorem dH {env:Env} {n:Str}:∀ (l:List (Str×NameKind)) (acc:List (Str×Addr)),(∃ c,acc.lookup n=some c)->∃ c,(bf env l acc).lookup n=some c
 | [],acc,h=>h
 | (m,k) :: r,acc,h=>by
  unfold bf
  split
  ·refine dH r _ ?_
   obtain ⟨c,hc⟩:=h
   split
   ·rw [List.lookup_cons]
    split
    ·exact ⟨_,rfl⟩
    ·exact ⟨c,hc⟩
   ·exact ⟨c,hc⟩
  ·exact dH r _ h
theorem cD {env:Env} {n:Str} (hc:∃ c,env.cells.lookup n=some c):∀ (l:List (Str×NameKind)) (acc:List (Str×Addr)),(n,NameKind.free)∈l->∃ c,(bf env l acc).lookup n=some c
 | [],_,h=>by cases h
 | (m,k) :: r,acc,h=>by
  obtain ⟨c,hc⟩:=hc
  unfold bf
  rcases List.mem_cons.mp h with e | h
  ·cases e
   rw [if_pos rfl,hc]
   exact dH r _ ⟨c,by simp⟩
  ·split
   ·exact cD ⟨c,hc⟩ r _ h
   ·exact cD ⟨c,hc⟩ r _ h
def Cx.comp (X:Cx) (N:List Str) (scope:Scope) (fp:List Addr) (s:Shared) (H:Hp):Cx where
 prog:=X.prog
 w:=X.w
 K:=X.K
 mg:=X.mg
 base:=X.base
 A:=X.A
 N:=N
 s₀:=s
 H₀:=H
 env:=compEnvC scope (bf X.env scope.names []) (s.heap.objs.size + 1) X.env
 outer:=X.stack
 stack:=X.stack
 ex:=fp
 calm:=X.calm
 fn:=fun _=>false
 pn:=[]
 xe:=fun _ _=>False
def dA (k:Nat) (ix:List Nat) (σ:St):St:=List.replicate k none ++ ix.map fun j=>(σ[j]?).join
structure cU (N:List Str) (sc:Scope) (scope:Scope) (own:List Str) (ix:List Nat):Prop where
 kind:scope.kind=.function
 nocell:∀ y∈scope.names,y.2≠.cell
 names:∀ y∈scope.names,y.2=.local->scope.names.lookup y.1=some .local
 free:∀ y∈scope.names,y.2=.free->sc.names.lookup y.1=some .cell\/sc.names.lookup y.1=some .free
 cap:∀ j∈ix,∀ x,N[j]?=some x->(x,NameKind.free)∈scope.names/\(scope.names.lookup x=some .free)
 inN:∀ j∈ix,j < N.length
abbrev lcN (N own:List Str) (ix:List Nat):List Str:=own ++ ix.filterMap fun j=>N[j]?
theorem uW {N own:List Str} {ix:List Nat} (h:∀ j∈ix,j < N.length):(lcN N own ix).length=own.length + ix.length:=by
 unfold lcN
 rw [List.length_append]
 congr 1
 induction ix with
 | nil=>rfl
 | cons j r ih=>
  have hj:j < N.length:=h j List.mem_cons_self
  rw [List.filterMap_cons,List.getElem?_eq_getElem hj]
  show _ + 1=_ + 1
  rw [ih fun i hi=>h i (List.mem_cons_of_mem _ hi)]
theorem fb {N:List Str}:∀ {ix:List Nat},(∀ j∈ix,j < N.length)->∀ {i:Nat} {x:Str},(ix.filterMap fun j=>N[j]?)[i]?=some x->∃ j,ix[i]?=some j/\N[j]?=some x
 | [],_,i,x,e=>by simp at e
 | j :: r,h,i,x,e=>by
  have hj:j < N.length:=h j List.mem_cons_self
  rw [List.filterMap_cons,List.getElem?_eq_getElem hj] at e
  cases i with
  | zero=>
   refine ⟨j,rfl,?_⟩
   rw [List.getElem?_eq_getElem hj]
   exact e
  | succ i=>
   obtain ⟨j',e1,e2⟩:=fb (fun i hi=>h i (List.mem_cons_of_mem _ hi)) (i:=i) (x:=x) (by simpa using e)
   exact ⟨j',by simpa using e1,e2⟩
theorem jz {k:Nat} {ix:List Nat} {σ:St} {i:Nat} {v:V} (h:(dA k ix σ)[i]?=some (some v)):∃ i' j,i=k + i'/\ix[i']?=some j/\σ[j]?=some (some v):=by
 unfold dA at h
 by_cases hi:i < k
 ·rw [List.getElem?_append_left (by simpa using hi),List.getElem?_replicate,if_pos hi] at h
  cases h
 ·rw [List.getElem?_append_right (by simpa using hi),List.length_replicate,List.getElem?_map] at h
  refine ⟨i - k,?_⟩
  cases e:ix[i - k]? with
  | none=>rw [e] at h; cases h
  | some j=>
   rw [e] at h
   refine ⟨j,by omega,rfl,?_⟩
   have h':(σ[j]?).join=some v:=by simpa using h
   cases q:σ[j]? with
   | none=>rw [q] at h'; cases h'
   | some o=>
    rw [q] at h'
    exact congrArg some h'
theorem cA {env:Env} {x:Str}:∀ {names:List (Str×NameKind)},names.lookup x=some .free ->
  (names.map fun (n,k)=>if (k == NameKind.free && env.scope.kind == .function && env.kindOf n == some .cell) then (n,NameKind.cell) else (n,k)).lookup x=some .cell \/
  (names.map fun (n,k)=>if (k == NameKind.free && env.scope.kind == .function && env.kindOf n == some .cell) then (n,NameKind.cell) else (n,k)).lookup x=some .free
 | [],h=>by simp at h
 | (n,k) :: r,h=>by
  have ih:=@cA env x r
  rw [List.map_cons]
  show List.lookup x ((if (k == NameKind.free && env.scope.kind == .function && env.kindOf n == some .cell)=true then (n,NameKind.cell) else (n,k)) :: _)=_\/List.lookup x ((if (k == NameKind.free && env.scope.kind == .function && env.kindOf n == some .cell)=true then (n,NameKind.cell) else (n,k)) :: _)=_
  cases hx:x == n with
  | true=>
   simp only [List.lookup_cons,hx] at h
   cases h
   by_cases hc:(NameKind.free == NameKind.free && env.scope.kind == .function && env.kindOf n == some .cell)=true
   ·rw [if_pos hc]; left; simp only [List.lookup_cons,hx]
   ·rw [if_neg hc]; right; simp only [List.lookup_cons,hx]
  | false=>
   simp only [List.lookup_cons,hx] at h
   by_cases hc:(k == NameKind.free && env.scope.kind == .function && env.kindOf n == some .cell)=true
   ·rw [if_pos hc]; simp only [List.lookup_cons,hx]; exact ih h
   ·rw [if_neg hc]; simp only [List.lookup_cons,hx]; exact ih h
theorem cw {env:Env} {x:Str} {kd:NameKind}:∀ {names:List (Str×NameKind)},
  (names.map fun (n,k)=>if (k == NameKind.free && env.scope.kind == .function && env.kindOf n == some .cell) then (n,NameKind.cell) else (n,k)).lookup x=some kd->(kd=.cell\/kd=.free)->(∀ y∈names,y.2≠.cell) ->
  (x,NameKind.free)∈names
 | [],h,_,_=>by simp at h
 | (n,k) :: r,h,hk,hc=>by
  have ih:=@cw env x kd r
  rw [List.map_cons] at h
  have hcr:∀ y∈r,y.2≠.cell:=fun y hy=>hc y (List.mem_cons_of_mem _ hy)
  by_cases hf:k=.free
  ·subst hf
   cases hx:x == n with
   | true=>
    have:x=n:=by simpa using hx
    subst this
    exact List.mem_cons_self
   | false=>
    refine List.mem_cons_of_mem _ (ih ?_ hk hcr)
    by_cases hcc:(NameKind.free == NameKind.free && env.scope.kind == .function && env.kindOf n == some .cell)=true
    ·have h2:List.lookup x ((if (NameKind.free == NameKind.free && env.scope.kind == .function && env.kindOf n == some .cell)=true then (n,NameKind.cell) else (n,NameKind.free)) :: r.map fun (n,k)=>if (k == NameKind.free && env.scope.kind == .function && env.kindOf n == some .cell) then (n,NameKind.cell) else (n,k))=some kd:=h
     rw [if_pos hcc,List.lookup_cons,hx] at h2
     exact h2
    ·have h2:List.lookup x ((if (NameKind.free == NameKind.free && env.scope.kind == .function && env.kindOf n == some .cell)=true then (n,NameKind.cell) else (n,NameKind.free)) :: r.map fun (n,k)=>if (k == NameKind.free && env.scope.kind == .function && env.kindOf n == some .cell) then (n,NameKind.cell) else (n,k))=some kd:=h
     rw [if_neg hcc,List.lookup_cons,hx] at h2
     exact h2
  ·have hb:(k == NameKind.free)=false:=by simpa using hf
   have h2:List.lookup x ((if (k == NameKind.free && env.scope.kind == .function && env.kindOf n == some .cell)=true then (n,NameKind.cell) else (n,k)) :: r.map fun (n,k)=>if (k == NameKind.free && env.scope.kind == .function && env.kindOf n == some .cell) then (n,NameKind.cell) else (n,k))=some kd:=h
   rw [hb,Bool.false_and,Bool.false_and,if_neg Bool.false_ne_true,List.lookup_cons] at h2
   cases hx:x == n with
   | true=>
    rw [hx] at h2
    cases h2
    rcases hk with z | z
    ·exact absurd z (hc (n,_) List.mem_cons_self)
    ·exact absurd z hf
   | false=>
    rw [hx] at h2
    exact List.mem_cons_of_mem _ (ih h2 hk hcr)
theorem nlt {a b:Nat} (h:a < b):a≠b:=Nat.ne_of_lt h
theorem ngt {a b:Nat} (h:a < b):b≠a:=Nat.ne_of_gt h
theorem jZ {a b:Nat} (h:a < b):a≠b + 1:=Nat.ne_of_lt (Nat.lt_succ_of_lt h)
theorem yg {a b:Nat} (h:a < b):b + 1≠a:=Nat.ne_of_gt (Nat.lt_succ_of_lt h)
theorem nss (a:Nat):a≠a + 1:=Nat.ne_of_lt (Nat.lt_succ_self a)
theorem yd (a:Nat):a + 1≠a:=Nat.ne_of_gt (Nat.lt_succ_self a)
section
variable {X:Cx} {pins:List (Addr×Obj)} {σ:St} {H:Hp} {s:Shared} {scope:Scope} {own:List Str} {ix:List Nat} {fp:List Addr}
theorem Inv.compOk {N:List Str} (I:Inv X pins σ H s) (L:cU X.N X.env.scope scope own ix) (hf:∀ b∈fp,ja X pins H b) (hlt:∀ b∈fp,b < s.heap.objs.size):(X.comp N scope fp s H).Ok where
 mod:=I.ok.mod
 kind:=L.kind
 glob:=I.ok.glob
 blt:=I.ok.blt
 above:=Nat.le_succ _
 inj:=fun x y c h1 h2=>I.ok.inj x y c (bA _ _ (fun _ _ z=>by simp at z) x c h1) (bA _ _ (fun _ _ z=>by simp at z) y c h2)
 has:=fun x hx=>by
  have hm:(x,NameKind.free)∈scope.names:=by
   rcases hx with hx | hx
   ·exact cw (env:=X.env) (x:=x) (names:=scope.names) hx (.inl rfl) L.nocell
   ·exact cw (env:=X.env) (x:=x) (names:=scope.names) hx (.inr rfl) L.nocell
  exact cD (I.ok.has x (L.free _ hm rfl)) _ _ hm
 cab:=fun x c h=>by cases h
 hd:=I.ok.hd
 frames:=I.ok.frames
 stk:=.inl rfl
 exf:=fun b hb=>⟨jZ (hlt b hb),fun x c e=>(hf b hb).2.2.2.2.1 x c (bA _ _ (fun _ _ z=>by simp at z) x c e)⟩
 bs:=I.bs
 bsz:=Nat.le_trans I.ok.bsz I.sz
 noex:=fun b o e hb=>by
  rcases (hf b hb).2.2.2.1 with z | z
  ·exact I.ok.noex b o e z
  ·exact absurd (Nat.lt_of_lt_of_le (Heap.lt_size e) (Nat.le_trans I.ok.bsz z)) (Nat.lt_irrefl _)
 exfs:=fun b hb z=>by
  rcases List.mem_cons.mp (I.stkSub b z) with e | e
  ·exact (hf b hb).2.1 e
  ·exact (hf b hb).2.2.1 e
 funs:=I.stack
 frf:=I.stkFree
theorem Inv.compStart {h1:Heap} {tk:Nat} (I:Inv X pins σ H s) (L:cU X.N X.env.scope scope own ix) (hf:∀ b∈fp,ja X pins H b) (hlt:∀ b∈fp,b < s.heap.objs.size)
  (k:∀ b o,s.heap.get? b=some o->h1.get? b=some o) {m:Str->Option Value} (hn:h1.Ns (s.heap.objs.size + 1) m) :
  Inv (X.comp (lcN X.N own ix) scope fp s H) [] (dA own.length ix σ) H { s with heap:=h1,toks:=tk }:=by
 have sub:=fun x c=>bA (env:=X.env) scope.names [] (fun _ _ z=>by simp at z) x c
 refine ⟨I.compOk L hf hlt,rfl,I.bare,Un.kept k,⟨m,hn,fun i x v e1 e2 e3=>?_⟩,fun x c e=>?_,I.hok.fresh (Nat.le_succ _),fun x c e=>I.freeC x c (sub x c e),fun p hp=>absurd (show p∈([]:List (Addr×Obj)) from hp) (by simp),I.hok.kept k,?_⟩
 ·obtain ⟨i',j,rfl,hj,hv⟩:=jz e2
  have e1':(lcN X.N own ix)[own.length + i']?=some x:=e1
  unfold lcN at e1'
  rw [List.getElem?_append_right (Nat.le_add_right _ _),Nat.add_sub_cancel_left] at e1'
  obtain ⟨j',hj',hN⟩:=fb L.inN e1'
  rw [hj] at hj'
  cases hj'
  have hjm:j∈ix:=List.mem_of_getElem? hj
  obtain ⟨hmem,hlk⟩:=L.cap j hjm x hN
  have hkind:=L.free _ hmem rfl
  obtain ⟨m0,hn0,hl0⟩:=I.loc
  obtain ⟨u,r,l⟩:=hl0 j x v hN hv (by rcases hkind with z | z; exact .inr (.inl z); exact .inr (.inr z))
  refine ⟨u,r,.inr ⟨?_,?_⟩⟩
  ·exact cA (env:=X.env) hlk
  ·rcases l with ⟨kl,_⟩ | ⟨_,c,hc,hcell⟩
   ·have kl':X.env.scope.names.lookup x=some .local:=kl
    rcases hkind with z | z
    ·rw [kl'] at z; cases z
    ·rw [kl'] at z; cases z
   ·obtain ⟨c',hc'⟩:=cD (env:=X.env) ⟨c,hc⟩ scope.names [] hmem
    have:c'=c:=by
     have q:=sub x c' hc'
     rw [hc] at q
     exact (Option.some.inj q).symm
    subst this
    obtain ⟨o,ho,hd⟩:=hcell
    exact ⟨c',hc',o,k _ _ ho,hd⟩
 ·obtain ⟨v,o,ho,hd⟩:=I.cell x c (sub x c e)
  exact ⟨v,o,k _ _ ho,hd⟩
 ·show (dA own.length ix σ).length=(lcN X.N own ix).length
  rw [uW L.inN]
  unfold dA
  rw [List.length_append,List.length_replicate,List.length_map]
def GW (k:Nat) (g:TG):Prop:=∀ x (σ:St) H (Q:St->Hp->Prop),g x σ H Q->g x σ H fun σ2 H2=>Q σ2 H2/\σ2.length=σ.length/\∀ j,k<=j->σ2[j]?=σ[j]?
theorem fY {k i:Nat} (h:i < k):GW k (dB i):=fun x σ H Q q=>⟨q,by simp,fun j hj=>by rw [List.getElem?_set_ne (by omega)]⟩
def GWs (k:Nat) (g:TGs):Prop:=∀ x (σ:St) H (Q:St->Hp->Prop),g x σ H Q->g x σ H fun σ2 H2=>Q σ2 H2/\σ2.length=σ.length/\∀ j,k<=j->σ2[j]?=σ[j]?
def GM (g:TG):Prop:=∀ x (σ:St) H (Q Q':St->Hp->Prop),(∀ s h,Q s h->Q' s h)->g x σ H Q->g x σ H Q'
theorem kT {i:Nat}:GM (dB i):=fun _ _ _ _ _ h q=>h _ _ q
theorem uJ {k:Nat}:GWs k oj:=fun x σ H Q q=>⟨q.1,q.2,rfl,fun _ _=>rfl⟩
theorem mL {k:Nat} {t:TG} {u:TGs} (ht:GW k t) (hu:GWs k u) (mt:GM t) (mu:∀ x (σ:St) H (Q Q':St->Hp->Prop),(∀ s h,Q s h->Q' s h)->u x σ H Q->u x σ H Q'):GWs k (eV t u):=fun x σ H Q q=>by
 obtain ⟨v,r,e,q⟩:=q
 refine ⟨v,r,e,mt _ _ _ _ _ ?_ (ht _ _ _ _ q)⟩
 rintro σ1 H1 ⟨q1,l1,j1⟩
 refine mu _ _ _ _ _ ?_ (hu _ _ _ _ q1)
 rintro σ2 H2 ⟨q2,l2,j2⟩
 exact ⟨q2,l2.trans l1,fun j hj=>(j2 j hj).trans (j1 j hj)⟩
theorem pS:∀ x (σ:St) H (Q Q':St->Hp->Prop),(∀ s h,Q s h->Q' s h)->oj x σ H Q->oj x σ H Q':=fun _ _ _ _ _ h q=>⟨q.1,h _ _ q.2⟩
theorem tE {t:TG} {u:TGs} (mt:GM t) (mu:∀ x (σ:St) H (Q Q':St->Hp->Prop),(∀ s h,Q s h->Q' s h)->u x σ H Q->u x σ H Q'):∀ x (σ:St) H (Q Q':St->Hp->Prop),(∀ s h,Q s h->Q' s h)->eV t u x σ H Q->eV t u x σ H Q':=
 fun _ _ _ _ _ h ⟨v,r,e,q⟩=>⟨v,r,e,mt _ _ _ _ _ (fun _ _ q1=>mu _ _ _ _ _ h q1) q⟩
theorem we {k:Nat} {K:PySem.W.Frag} {n:Nat} {t:TGs} (ht:GWs k t):GW k (uk K n t):=fun x σ H Q q=>by
 obtain ⟨a,xs,e,hq,hl,q⟩:=q
 exact ⟨a,xs,e,hq,hl,ht _ _ _ _ q⟩
theorem gA {K:PySem.W.Frag} {i j k:Nat} (hi:i < k) (hj:j < k):GW k (uk K 2 (eV (dB i) (eV (dB j) oj))):=
 we (mL (fY hi) (mL (fY hj) uJ kT pS) kT (tE kT pS))
def PIf (X:Cx) (ifs:List Expr) (t:TT):Prop:=
 ∀ (pins:List (Addr×Obj)) (s:Shared) (σ:St) (H:Hp) (Q:Bool->Hp->Prop),Inv X pins σ H s->t σ H Q ->
  wpAny (model X.prog X.w) X.A (forIn ifs true fun c r=>if r=true then do let ok <- isTrue c X.env (eval c X.env); pure (ForInStep.yield ok) else pure (ForInStep.yield r)) (TP X pins σ Q) X.xe s
def uC:TT:=fun _ H Q=>Q true H
theorem cG:PIf X [] uC:=fun _ _ _ H _ I h=>wpAny_tests_nil ⟨H,I,h⟩
def rLC (J:It) (k:Nat) (ix:List Nat) (g:TG) (tt:TT) (te:TE) (σ:St) (H1:Hp) (Q:List V->Hp->Prop):Prop:=
 ∃ W:Nat->Nat->List V->Hp->Prop,(∃ m,W 0 m [] H1)/\∀ i m ys H,W i m ys H ->
  (J.stop i H/\Q ys H) \/
  (J.go i H/\∃ N:List V->Hp->Prop,(∀ ys' H',N ys' H'->∃ m',m' < m/\W (i + 1) m' ys' H')/\∀ x H',J.yld i H x H'->g x (dA k ix σ) H' fun σ2 H2=>tt σ2 H2 fun c H3=>
   if c=true then te σ2 H3 fun y H4=>ys.length < sizeLine/\N (ys ++ [y]) H4
   else N ys H3)
theorem lU {elt tg iter:Expr} {ifs:List Expr} {pos:Pos} {it:Addr} {tn:Nat->Heap->Prop} {J:It} {g:TG} {tt:TT} {te:TE} {E:Value->Shared->Prop} {Qf:List V->Hp->Prop} {RR:Value->Addr->Result->Shared->Prop}
  (L:cU X.N X.env.scope scope own ix) (hc:X.calm=true) (hg:∀ fp s H,PG (X.comp (lcN X.N own ix) scope fp s H) tg g) (gw:GW own.length g)
  (ht:∀ fp s H,PIf (X.comp (lcN X.N own ix) scope fp s H) ifs tt) (he:∀ fp s H,PE (X.comp (lcN X.N own ix) scope fp s H) elt te)
  (I:Inv X pins σ H s) (T:sH X.prog X.w X.K tg J fp it tn) (st:tn 0 s.heap) (hf:∀ b∈fp,ja X pins H b)
  (hw:rLC J own.length ix g tt te σ H Qf)
  (hRR:∀ (D C:Addr) (s':Shared) (ys:List V) (H':Hp) (m:Str->Option Value),s'.heap.Ns C m->C≠X.env.locals->(∀ x c,X.env.cells.lookup x=some c->c≠C)->X.s₀.heap.objs.size<=C->(∀ p∈X.pn ++ pins,p.1≠C)->upd H' D (.lst ys) C=none->H' D=none ->
   Inv X pins σ (upd H' D (.lst ys)) s'->Qf ys H'->RR (.ref D) C (.ok .next) s') :
  wpAny (model X.prog X.w) X.A (newList []) (fun acc s₃=>wpAny (model X.prog X.w) X.A (newFunctionEnv scope X.env.globals (bf X.env scope.names []) [] X.env.qual none .none (some X.env)) (fun cenv s₄=>
   codeAny (model X.prog X.w) X.A (.compStart (.ListComp elt [⟨tg,iter,ifs,0⟩] scope pos) 0 (.ref it) acc { cenv with scope:=relabel scope X.env }) (RR acc cenv.locals) s₄) E s₃) E s:=by
 obtain ⟨W,⟨m0,w0⟩,turn⟩:=hw
 have hlt:∀ b∈fp,b < s.heap.objs.size:=fun b hb=>by
  obtain ⟨o,e,_⟩:=T.obj 0 s.heap st b hb
  exact Heap.lt_size e
 refine wpAny_newObj_type (wpAny_newFunctionEnv L.nocell (by intro y hy; simp at hy) (fun h₁ hns₁ hsb₁=>?_) L.kind)
 dsimp only at hns₁ hsb₁ ⊢
 generalize hH2:s.heap.push { cls:=.type "list",dict:=none,data:=.seq ([]:List Value).toArray }=h2 at hns₁ hsb₁ ⊢
 have hC:h2.objs.size=s.heap.objs.size + 1:=by rw [<- hH2,Heap.size_push]
 have old:∀ b o,s.heap.get? b=some o->h₁.get? b=some o:=fun b o e=>by
  exact hsb₁.extBut b o (by rw [hC]; exact jZ (Heap.lt_size e)) (Heap.get?_push_of_some _ (hH2▸Heap.get?_push_of_some _ e))
 have hacc:h₁.PlainList s.heap.objs.size #[]:=⟨_,hsb₁.extBut _ _ (by rw [hC]; exact nss _) (Heap.get?_push_of_some _ (hH2▸Heap.get?_push_size _ rfl))⟩
 have hD0:H s.heap.objs.size=none:=I.hok.fresh (Nat.le_refl _)
 rw [hC] at hns₁
 have I0:=I.compStart (tk:=s.toks + ([]:List (Str×Value)).length) L hf hlt old hns₁
 have sub:=fun x c=>bA (env:=X.env) scope.names [] (fun _ _ z=>by simp at z) x c
 have cellLt:∀ x c,X.env.cells.lookup x=some c->c < s.heap.objs.size:=fun x c e=>by
  obtain ⟨v,q⟩:=I.cell x c e
  exact q.lt
 have stkLt:∀ b∈frs X.stack,b < s.heap.objs.size:=fun b hb=>by
  obtain ⟨_,o,ho,_⟩:=I.stack.mem hb
  exact Heap.lt_size ho
 have env_eq:({ newEnv scope h2.objs.size X.env.globals (bf X.env scope.names []) X.env.qual none .none (some X.env) builtinsNs with scope:=relabel scope X.env }:Env)=(X.comp (lcN X.N own ix) scope fp s H).env:=by
  show compEnvC scope (bf X.env scope.names []) h2.objs.size X.env=compEnvC scope (bf X.env scope.names []) (s.heap.objs.size + 1) X.env
  rw [hC]
 have loop:codeAny (model X.prog X.w) X.A (.compLoop (.ListComp elt [⟨tg,iter,ifs,0⟩] scope pos) 0 (.ref it) (.ref s.heap.objs.size) (X.comp (lcN X.N own ix) scope fp s H).env) (RR (.ref s.heap.objs.size) (s.heap.objs.size + 1))
   { s with heap:=h₁,toks:=s.toks + ([]:List (Str×Value)).length }:=by
  refine uX (fun n s'=>∃ i ys H',Inv (X.comp (lcN X.N own ix) scope fp s H) [] (dA own.length ix σ) H' s'/\tn i s'.heap/\(∀ b∈fp,H' b=none)/\H' s.heap.objs.size=none /\
   (∃ its:List Value,aP ys its/\s'.heap.PlainList s.heap.objs.size its.toArray)/\ys.length<=sizeLine/\W i n ys H') ?_ m0
   ⟨0,[],H,I0,T.keep _ _ _ st (fun b _ o e=>old b o e),fun b hb=>(hf b hb).1,hD0,⟨[],.nil,hacc⟩,Nat.zero_le _,w0⟩
  rintro n s3 ⟨i,ys,H3,I3,st3,fr3,d3,⟨its,rv,n3,hp3⟩,hz,w3⟩
  have Ip:=I3.pins_of (pins':=[(s.heap.objs.size,{ cls:=.type "list",data:=.seq its.toArray n3 })]) (fun p hp=>by
   have e:p=(s.heap.objs.size,{ cls:=.type "list",data:=.seq its.toArray n3 }):=by simpa using hp
   subst e
   exact ⟨hp3,d3,nss _,fun z=>absurd (stkLt _ z) (Nat.lt_irrefl _),fun v z=>by cases z⟩)
  have stat:∀ {H':Hp},(∀ b∈fp,H' b=none)->∀ b∈fp,ja (X.comp (lcN X.N own ix) scope fp s H) [(s.heap.objs.size,{ cls:=.type "list",data:=.seq its.toArray n3 })] H' b:=fun hn b hb=>
   ⟨hn b hb,jZ (hlt b hb),I3.ok.exfs b hb,.inl hb,fun x c e=>(I3.ok.exf b hb).2 x c e,fun p hp=>by
    have e:p=(s.heap.objs.size,{ cls:=.type "list",data:=.seq its.toArray n3 }):=by simpa using (show p∈([]:List (Addr×Obj)) ++ [(s.heap.objs.size,{ cls:=.type "list",data:=.seq its.toArray n3 })] from hp)
    subst e
    exact ngt (hlt b hb)⟩
  rcases turn i n ys H3 w3 with ⟨stop,qf⟩ | ⟨go,N,hN,step⟩
  ·refine thn (T.done (X.comp (lcN X.N own ix) scope fp s H) rfl rfl rfl hc i _ s3 _ H3 _ Ip (stat fr3) st3 stop) fun r s4 ⟨hr,I4⟩=>?_
   subst hr
   obtain ⟨e4,d4,_⟩:=I4.pin (s.heap.objs.size,{ cls:=.type "list",data:=.seq its.toArray n3 }) (List.mem_append_right _ List.mem_cons_self)
   obtain ⟨mC,hnC,_⟩:=I4.loc
   have hok:HOk X.prog X.w (upd H3 s.heap.objs.size (.lst ys)) s4.heap:=fun b u e=>by
    by_cases hb:b=s.heap.objs.size
    ·subst hb
     rw [af] at e
     cases e
     exact ⟨hz,its,n3,rv,e4⟩
    ·rw [aI hb] at e
     exact (I4.hok b u e).stay (fun c v _ q=>q) (fun c q=>by rw [aI (am q d4)]; exact q) fun c xs q=>by rw [aI (am q d4)]; exact q
   have ub:=I4.base
   have un:Un (frs X.stack) fp H (upd H3 s.heap.objs.size (.lst ys)) s.heap s4.heap:=
    ⟨ub.keep,ub.slot,fun b o e n hx=>by rw [aI (Nat.ne_of_lt (Heap.lt_size e))]; exact ub.free b o e n hx,ub.there,
     fun b xs e=>by rw [aI (am (ub.tups b xs e) d4)]; exact ub.tups b xs e,fun b o u e=>by rw [aI (am (ub.frzs b o u e) d4)]; exact ub.frzs b o u e,
     fun b ps e=>by
      obtain ⟨more,q⟩:=ub.tbls b ps e
      exact ⟨more,by rw [aI (am q d4)]; exact q⟩⟩
   have I5:Inv X pins σ (upd H3 s.heap.objs.size (.lst ys)) s4:=I.call' I4.os un hok I4.bare fun b hb=>by
    obtain ⟨f0,f1,f2,f3,f4,f5⟩:=hf b hb
    exact ⟨f3,f1,f4,f5⟩
   refine hRR _ _ s4 ys H3 mC hnC ?_ ?_ ?_ ?_ ?_ d4 I5 qf
   ·exact yg I.lt
   ·intro x c e
    exact jZ (cellLt x c e)
   ·exact Nat.le_trans I.sz (Nat.le_succ _)
   ·intro p hp
    exact jZ (Heap.lt_size (I.pin p hp).1)
   ·rw [aI (yd _)]
    exact I4.free
  ·refine thn (T.item (X.comp (lcN X.N own ix) scope fp s H) rfl rfl rfl hc i _ s3 _ H3 _ Ip (stat fr3) st3 go) fun r s4 ⟨u,hr,h4⟩=>?_
   subst hr
   refine thn h4 fun _ s5 ⟨x,H5,I5,r5,y5,st5,fr5⟩=>?_
   have I5':=I5.pinned (stat fr5) (T.obj _ _ st5)
   refine thn (hg fp s H _ s5 _ H5 x u _ I5' r5 (gw _ _ _ _ (step x H5 y5))) fun _ s6 ⟨σ6,H6,I6,q6,l6,k6⟩=>?_
   refine thn (ht fp s H _ s6 σ6 H6 _ I6 q6) fun c s7 ⟨H7,I7,q7⟩=>?_
   have again:∀ {s8:Shared} {H8:Hp},Inv (X.comp (lcN X.N own ix) scope fp s H) ([(s.heap.objs.size,{ cls:=.type "list",data:=.seq its.toArray n3 })] ++ iV fp s5.heap) σ6 H8 s8 ->
     Inv (X.comp (lcN X.N own ix) scope fp s H) [] (dA own.length ix σ) H8 s8/\tn (i + 1) s8.heap/\(∀ b∈fp,H8 b=none)/\H8 s.heap.objs.size=none/\s8.heap.get? s.heap.objs.size=some { cls:=.type "list",data:=.seq its.toArray n3 }:=fun {s8 H8} I8=>by
    obtain ⟨e8,d8,_⟩:=I8.pin (s.heap.objs.size,{ cls:=.type "list",data:=.seq its.toArray n3 }) (List.mem_append_right _ (List.mem_append_left _ List.mem_cons_self))
    refine ⟨(I8.pins_of (pins':=[]) fun p hp=>by cases hp).weak l6.symm fun j v e=>?_,T.keep _ _ _ st5 fun b hb o e=>(I8.pin (b,o) (List.mem_append_right _ (List.mem_append_right _ (dG hb e)))).1,fun b hb=>?_,d8,e8⟩
    ·obtain ⟨i',j',rfl,_,_⟩:=jz e
     rw [k6 _ (Nat.le_add_right _ _)]
     exact e
    ·obtain ⟨o,e,d⟩:=T.obj _ _ st5 b hb
     exact (I8.pin (b,o) (List.mem_append_right _ (List.mem_append_right _ (dG hb e)))).2.1
   cases c with
   | false=>
    rw [if_neg Bool.false_ne_true] at q7 ⊢
    obtain ⟨m',hm,w7⟩:=hN _ _ q7
    obtain ⟨a1,a2,a3,a4,a5⟩:=again I7
    exact ⟨m',hm,i + 1,ys,H7,a1,a2,a3,a4,⟨its,rv,n3,a5⟩,hz,w7⟩
   | true=>
    rw [if_pos rfl] at q7 ⊢
    refine thn (he fp s H _ s7 σ6 H7 _ I7 q7) fun v s8 ⟨y,H8,I8,r8,hz8,q8⟩=>?_
    obtain ⟨m',hm,w8⟩:=hN _ _ q8
    obtain ⟨a1,a2,a3,a4,a5⟩:=again I8
    refine wpAny_list_append_plain (s:=s8) (l:=s.heap.objs.size) (items:=its.toArray) ⟨n3,a5⟩ (fun h9 hl9 hs9=>?_) (by have:=rv.length; simp; omega)
    have I9:Inv (X.comp (lcN X.N own ix) scope fp s H) [] (dA own.length ix σ) H8 { s8 with heap:=h9 }:=a1.turned (t':=s8.toks) (it:=s.heap.objs.size) (fun b o hb e=>hs9.extBut b o hb e) a4 (nss _)
     (.inr (Nat.le_refl _)) (fun x c e=>nlt (cellLt x c (sub x c e))) (fun p hp=>absurd (show p∈([]:List (Addr×Obj)) from hp) (by simp))
    refine ⟨m',hm,i + 1,ys ++ [y],H8,I9,T.keep _ _ _ a2 (fun b hb o e=>hs9.extBut b o (nlt (hlt b hb)) e),a3,a4,⟨its ++ [v],aP.append rv (.cons r8 .nil),?_⟩,?_,w8⟩
    ·have e:(its ++ [v]).toArray=its.toArray.push v:=by simp
     rw [e]
     exact hl9
    ·rw [List.length_append]
     show _ + 1<=_
     omega
 show codeAny _ _ (.compStart _ 0 (.ref it) (.ref s.heap.objs.size) _) (RR (.ref s.heap.objs.size) h2.objs.size) _
 rw [hC]
 have e2:=env_eq
 rw [hC] at e2
 refine Eq.mpr (congrArg (fun e=>codeAny (model X.prog X.w) X.A (.compStart (.ListComp elt [⟨tg,iter,ifs,0⟩] scope pos) 0 (.ref it) (.ref s.heap.objs.size) e) (RR (.ref s.heap.objs.size) (s.heap.objs.size + 1)) { s with heap:=h₁,toks:=s.toks + ([]:List (Str×Value)).length }) e2) ?_
 exact codeAny_compStart_list loop (T.self X.A 0 _ _ _ (T.keep _ _ _ st fun b _ o e=>old b o e) loop)
end
section
variable {X:Cx} {scope:Scope} {own:List Str} {ix:List Nat}
def tLC (wi:TI) (k:Nat) (ix:List Nat) (g:TG) (tt:TT) (te:TE):TE:=fun σ H Q=>wi σ H fun J H1=>rLC J k ix g tt te σ H1 fun ys H'=>∀ a,H' a=none->Q (.ref a) (upd H' a (.lst ys))
theorem Inv.clos {pins:List (Addr×Obj)} {σ:St} {H:Hp} {s:Shared} (I:Inv X pins σ H s) (L:cU X.N X.env.scope scope own ix):closureFor scope X.env=pure (bf X.env scope.names []):=
 mi fun x hx hf=>I.ok.has x.1 (L.free x hx hf)
theorem iM {elt tg iter:Expr} {ifs:List Expr} {pos:Pos} {wi:TI} {g:TG} {tt:TT} {te:TE} (hi:PI X tg iter wi) (L:cU X.N X.env.scope scope own ix) (hc:X.calm=true)
  (hg:∀ fp s H,PG (X.comp (lcN X.N own ix) scope fp s H) tg g) (gw:GW own.length g) (ht:∀ fp s H,PIf (X.comp (lcN X.N own ix) scope fp s H) ifs tt) (he:∀ fp s H,PE (X.comp (lcN X.N own ix) scope fp s H) elt te)
  (hs:∀ x,foldedSetIterable iter X.env x=pure x:=by intro _; rfl):PE X (.ListComp elt [⟨tg,iter,ifs,0⟩] scope pos) (tLC wi own.length ix g tt te):=by
 intro pins s σ H Q I h
 rw [eval_ListComp]
 refine wpAny_comprehension_free (use:=none) rfl hs (I.clos L) L.kind L.names (thn (hi pins s σ H _ I h) fun v s1 h1=>thn h1 fun itv s2 h2=>?_)
 obtain ⟨it,fp,tn,J,H2,e,I2,T,st2,f2,hw⟩:=h2
 subst e
 refine lU (RR:=fun acc C=>compPost (model X.prog X.w) X.A X.xe none (EP X pins σ Q) acc C) L hc hg gw ht he I2 T st2 f2 hw ?_
 intro D C s' ys H' m hn c1 c2 c3 c4 c5 d I' q
 exact ⟨m,hn,fun h' hs'=>⟨.ref D,_,I'.turned (t':=s'.toks) (it:=C) (fun b o hb e=>hs'.extBut b o hb e) c5 c1 (.inr c3) c2 c4,rfl,q D d⟩⟩
theorem vE {elt tg iter:Expr} {ifs:List Expr} {pos spos py:Pos} {wi:TI} {g:TG} {tt:TT} {te:TE} {i:Nat} {y:Str} (hN:X.N.Nodup) (hy:X.N[i]?=some y) (hx:X.env.scope.names.lookup y=some .local) (hi:PI X tg iter wi) (L:cU X.N X.env.scope scope own ix) (hc:X.calm=true)
  (hg:∀ fp s H,PG (X.comp (lcN X.N own ix) scope fp s H) tg g) (gw:GW own.length g) (ht:∀ fp s H,PIf (X.comp (lcN X.N own ix) scope fp s H) ifs tt) (he:∀ fp s H,PE (X.comp (lcN X.N own ix) scope fp s H) elt te)
  (hsw:swapsWith (.ListComp elt [⟨tg,iter,ifs,0⟩] scope pos) (some (.Name y py)) spos.line X.env=pure true:=by rfl)
  (hs:∀ x,foldedSetIterable iter X.env x=pure x:=by intro _; rfl):PS X (.Assign [.Name y py] (.ListComp elt [⟨tg,iter,ifs,0⟩] scope pos) spos) (vV (tLC wi own.length ix g tt te) (dB i)):=by
 intro pins s σ H Dn I h
 rw [exec_Assign_Name_used _ _ _ _ hsw]
 refine wpAny_bind (wpAny_standAt (wpAny_bind ?_))
 show wpAny _ X.A (do let _ <- comprehension (.ListComp elt [⟨tg,iter,ifs,0⟩] scope pos) scope X.env _ (newList []) false (eval iter X.env) (some (assign (.Name y py) X.env))) _ _ s
 refine wpAny_bind (thn (wpAny_comprehension_free (use:=some (assign (.Name y py) X.env)) (Q:=fun _ s'=>SP X pins Dn .next s') rfl hs (I.clos L) L.kind L.names
  (thn (hi pins s σ H _ I h) fun v s1 h1=>thn h1 fun itv s2 h2=>?_)) fun _ s' hq=>wpAny_pure (wpAny_pure hq))
 obtain ⟨it,fp,tn,J,H2,e,I2,T,st2,f2,hw⟩:=h2
 subst e
 refine lU (RR:=fun acc C=>compPost (model X.prog X.w) X.A X.xe (some (assign (.Name y py) X.env)) (fun _ s'=>SP X pins Dn .next s') acc C) L hc hg gw ht he I2 T st2 f2 hw ?_
 intro D C s' ys H' m hn c1 c2 c3 c4 c5 d I' q
 show wpAny _ X.A (assign (.Name y py) X.env (.ref D)) _ _ s'
 refine wpAny_assign_Name (jw I' hN hy (.inl hx) (v:=.ref D) rfl (fun s2 I2 ⟨a,hs2,ha⟩=>?_) (.inr hx))
 have aC:a≠C:=by
  rcases ha with rfl | ha
  ·exact Ne.symm c1
  ·exact c2 y a ha
 refine ⟨m,hn.sameBut hs2 (Ne.symm aC),fun h' hs'=>?_⟩
 exact ⟨_,_,I2.turned (t':=s2.toks) (it:=C) (fun b o hb e=>hs'.extBut b o hb e) c5 c1 (.inr c3) c2 c4,q D d⟩
end
section
variable {k:Nat} {ix:List Nat} {g:TG} {tt:TT} {te:TE} {σ:St} {H1:Hp} {Q:List V->Hp->Prop}
def gu (k:Nat) (ix:List Nat) (g:TG) (tt:TT) (te:TE) (σ:St) (x:V) (ys:List V) (H:Hp) (N:List V->Hp->Prop):Prop:=
 g x (dA k ix σ) H fun σ2 H2=>tt σ2 H2 fun c H3=>if c=true then te σ2 H3 fun y H4=>ys.length < sizeLine/\N (ys ++ [y]) H4 else N ys H3
theorem vJ {J:It} {n:Nat} (Pv:Nat->List V->Hp->Prop) (h0:Pv 0 [] H1) (hgo:∀ i ys H,i < n->Pv i ys H->J.go i H) (hst:∀ ys H,Pv n ys H->J.stop n H)
  (hs:∀ i ys H x H',i < n->Pv i ys H->J.yld i H x H'->gu k ix g tt te σ x ys H' (Pv (i + 1))) (hd:∀ ys H,Pv n ys H->Q ys H):rLC J k ix g tt te σ H1 Q:=by
 refine ⟨fun i m ys H=>m=n - i/\i<=n/\Pv i ys H,⟨n,by simp,Nat.zero_le _,h0⟩,?_⟩
 rintro i m ys H ⟨rfl,hi,p⟩
 by_cases hlt:i < n
 ·exact .inr ⟨hgo i ys H hlt p,Pv (i + 1),fun ys' H' q=>⟨n - (i + 1),by omega,rfl,hlt,q⟩,fun x H' y=>hs i ys H x H' hlt p y⟩
 ·have e:i=n:=by omega
  subst e
  exact .inl ⟨hst ys H p,hd ys H p⟩
theorem mS {lo:Int} {n:Nat} (Pv:Nat->List V->Hp->Prop) (h0:Pv 0 [] H1) (hs:∀ i ys H,i < n->Pv i ys H->gu k ix g tt te σ (.int (lo + i)) ys H (Pv (i + 1)))
  (hd:∀ ys H,Pv n ys H->Q ys H):rLC (Itr lo n) k ix g tt te σ H1 Q:=
 vJ (n:=n) Pv h0 (fun i _ _ h _=>h) (fun _ _ _=>Nat.le_refl _) (fun i ys H x H' h p y=>by
  obtain ⟨e,y⟩:=y
  subst e y
  exact hs i ys _ h p) hd
theorem fg {K:PySem.W.Frag} {a:Addr} {xs:List V} (Pv:Nat->List V->Hp->Prop) (h0:Pv 0 [] H1) (hl:∀ i ys H,i<=xs.length->Pv i ys H->SqT K H a xs)
  (hs:∀ i ys H x,xs[i]?=some x->Pv i ys H->gu k ix g tt te σ x ys H (Pv (i + 1))) (hd:∀ ys H,Pv xs.length ys H->Q ys H):rLC (Itt K a) k ix g tt te σ H1 Q:=
 vJ (n:=xs.length) Pv h0 (fun i ys H h p=>⟨xs,xs[i],hl i ys H (Nat.le_of_lt h) p,by simp [h]⟩) (fun ys H p=>⟨xs,hl _ ys H (Nat.le_refl _) p,Nat.le_refl _⟩) (fun i ys H x H' h p y=>by
  obtain ⟨e,y⟩:=y
  subst e
  exact hs i ys _ x (y xs (hl i ys _ (Nat.le_of_lt h) p)) p) hd
end
section
variable {X:Cx} {tg:Expr}
theorem KV.at {kvs:List (Key×V)} {vs:List (Key×Value)} (r:KV kvs vs) {i:Nat} {k:Key} {v:Value} (e:vs[i]?=some (k,v)):∃ x,kvs[i]?=some (k,x)/\aV x v:=by
 induction r generalizing i with
 | nil=>simp at e
 | @cons p q ps qs h t ih=>
  cases i with
  | zero=>
   have e':q=(k,v):=by simpa using e
   obtain ⟨p1,p2⟩:=p
   subst e'
   obtain ⟨h1,h2⟩:=h
   have h1':p1=k:=h1
   subst h1'
   exact ⟨p2,rfl,h2⟩
  | succ i=>exact ih (by simpa using e)
theorem rL {P:Program} {w:World} {k:Key} {u:Value} (h:(aF P w).is k u=true):aV (kV k) u:=by
 rcases bm (k:=k) (v:=u) h with ⟨i,t,rfl,rfl⟩ | ⟨x,t,rfl,rfl⟩
 ·exact ⟨t,rfl⟩
 ·exact ⟨t,rfl⟩
end
section
variable {X:Cx}
theorem kN {s:Shared} {h':Heap} {o:Obj} (hk:∀ b x,b∉[s.heap.objs.size]->(s.heap.push o).get? b=some x->h'.get? b=some x) (b:Addr) (x:Obj) (e:s.heap.get? b=some x):h'.get? b=some x:=
 hk b x (fun z=>by rw [List.mem_singleton.mp z] at e; exact Nat.lt_irrefl _ (Heap.lt_size e)) (Heap.get?_push_of_some _ e)
theorem mh:∀ {bs:List Bool} {us:List Value},aP (bs.map V.bl) us->∀ (i:Nat) (v:Value),us[i]?=some v->∃ b,bs[i]?=some b/\v=.bool b
 | [],_,.nil,i,v,e=>by simp at e
 | b :: bs,u :: us,.cons r t,0,v,e=>by
  have e':u=v:=by simpa using e
  subst e'
  exact ⟨b,rfl,r⟩
 | b :: bs,u :: us,.cons r t,i + 1,v,e=>mh (bs:=bs) t i v (by simpa using e)
theorem sB (hc:X.calm=true):bM X (.builtin "all") (fun xs H Q=>∃ (a:Addr) (bs:List Bool),xs=[.ref a]/\SqL X.K H a (bs.map V.bl)/\Q (.bl (bs.all id)) H):=by
 intro pins s σ H xs us Q I r h
 obtain ⟨a,bs,rfl,hq,q⟩:=h
 obtain ⟨u,rfl,ru⟩:=cC r
 cases ru
 obtain ⟨its,rv,p,hz⟩:=I.list hq
 have hl:=p.isList
 have hlt:a < s.heap.objs.size:=by obtain ⟨_,e,_⟩:=hl; exact Heap.lt_size e
 refine call_all_walk (wpAny_pyIter_list hl ?_)
 refine ⟨s.heap.objs.size,[s.heap.objs.size,a],[s.heap.objs.size],its.toArray.size,_,_,fun i=>(bs[i]?).getD true,rfl,Walks.list (A:=X.A.in1) (I.ok.hd hc) _ a (Nat.ne_of_lt hlt) its.toArray,
  ⟨⟨_,Heap.get?_push_size _ rfl,rfl,rfl⟩,hl.push _⟩,fun i v s' Q' E' hP hQ=>?_,fun h' tk hk=>?_⟩
 ·obtain ⟨b,e,rfl⟩:=mh rv i v (by simpa using hP)
  simp only [e,Option.getD_some] at hQ
  exact wpAny_truthy_bool hQ
 ·have hlen:=rv.length
  have e:((List.range its.toArray.size).all fun i=>(bs[i]?).getD true)=bs.all id:=by
   rw [List.size_toArray,<- hlen,List.length_map,Bool.eq_iff_iff,List.all_eq_true,List.all_eq_true]
   constructor
   ·intro z b hb
    obtain ⟨i,hi,rfl⟩:=List.getElem_of_mem hb
    have:=z i (List.mem_range.mpr hi)
    simpa [hi] using this
   ·intro z i hi
    have hi':=List.mem_range.mp hi
    rw [List.getElem?_eq_getElem hi']
    exact z _ (List.getElem_mem hi')
  rw [e]
  exact ⟨.bl _,H,I.kept (kN hk),rfl,q⟩
theorem di:bM X (.builtin "isinstance") (fun xs H Q=>∃ x t n b,xs=[x,.ty n]/\fC X.K H x t/\PySem.W.kitOne X.K t (.type n)=some b/\Q (.bl b) H):=by
 intro pins s σ H xs us Q I r h
 obtain ⟨x,t,n,b,rfl,ty,e,q⟩:=h
 obtain ⟨u,w',rfl,rx,rn⟩:=pA r
 cases rn
 exact qv I rx ty e fun tk=>⟨.bl b,H,I.tok tk,rfl,q⟩
theorem oO:∀ {ys:List Str} {us:List Value},aP (ys.map V.str) us->StrsAre us ys
 | [],_,.nil=>.nil
 | y :: ys,u :: us,.cons r t=>by
  obtain ⟨k,rfl⟩:=r
  exact .cons y k (oO t)
theorem tQ:SlR X (fun x lo hi H Q=>∃ z,x=.str z/\z.length<=sizeLine/\Q (.str (Txt.slice z lo hi)) H):=by
 intro pins s σ H x v vl vu lo hi sl Q I rx hs pl pu h
 obtain ⟨z,rfl,hz,q⟩:=h
 obtain ⟨t,rfl⟩:=rx
 refine ⟨"str",_,slot_str_getitem.lookup,typeIs_str _ _ _,?_⟩
 have fin:(Txt.slice z lo hi).length<=sizeLine/\∀ t' k,EP X pins σ Q (.str (Txt.slice z lo hi) t') { s with toks:=k }:=⟨Nat.le_trans (Txt.slice_le z _ _) hz,fun t' k=>⟨.str _,H,I.tok _,⟨_,rfl⟩,q⟩⟩
 cases pl with
 | none=>
  cases pu with
  | none=>exact wpAny_getItem_str_slice (l:=none) (u:=none) (st:=none) hs rfl (post_val_or_str fin)
  | int j uj=>exact wpAny_getItem_str_slice (l:=none) (u:=some (j,uj)) (st:=none) hs rfl (post_val_or_str fin)
 | int i ui=>
  cases pu with
  | none=>exact wpAny_getItem_str_slice (l:=some (i,ui)) (u:=none) (st:=none) hs rfl (post_val_or_str fin)
  | int j uj=>exact wpAny_getItem_str_slice (l:=some (i,ui)) (u:=some (j,uj)) (st:=none) hs rfl (post_val_or_str fin)
end
open PySem PySem.Spec PyProof.Rows PySem.W
section
variable {cmp:Nat->Nat->(Bool->Shared->Prop)->Shared->Prop} {lt:Nat->Nat->Bool} {n:Nat} {s:Shared}
structure Ord (cmp:Nat->Nat->(Bool->Shared->Prop)->Shared->Prop) (lt:Nat->Nat->Bool) (n:Nat) (s:Shared):Prop where
 ask:∀ i j C,i < n->j < n->i≠j->C (lt i j) s->cmp i j C s
 tr:∀ i j k,lt i j=true->lt j k=true->lt i k=true
 tot:∀ i j,i < n->j < n->i≠j->lt i j=false->lt j i=true
 asym:∀ i j,lt i j=true->lt j i=false
structure Re (n:Nat) (p:Array Nat):Prop where
 size:p.size=n
 lt:∀ i,i < n->p.getD i 0 < n
 inj:∀ i j,i < n->j < n->i≠j->p.getD i 0≠p.getD j 0
 perm:p.Perm (List.toArray (List.range n))
theorem Re.of_perm {p:Array Nat} (h:p.Perm (List.toArray (List.range n))):Re n p:=by
 have hs:p.size=n:=by have:=h.size_eq; simpa using this
 have hl:p.toList.Perm (List.range n):=by simpa using Array.perm_iff_toList_perm.mp h
 have nd:p.toList.Nodup:=(List.Perm.nodup_iff hl).mpr List.nodup_range
 have get:∀ i,(hi:i < n)->p.getD i 0=p.toList[i]'(by simpa [hs] using hi):=fun i hi=>by
  simp [Array.getD,hs,hi]
 refine ⟨hs,fun i hi=>?_,fun i j hi hj hij e=>?_,h⟩
 ·have hm:p.getD i 0∈p.toList:=by rw [get i hi]; exact List.getElem_mem _
  exact List.mem_range.mp ((List.Perm.mem_iff hl).mp hm)
 ·rw [get i hi,get j hj] at e
  exact hij ((List.getElem_inj nd).mp e)
def Up (lt:Nat->Nat->Bool) (p:Array Nat) (m:Nat):Prop:=∀ i j,i < j->j < m->lt (p.getD i 0) (p.getD j 0)=true
def Dn (lt:Nat->Nat->Bool) (p:Array Nat) (m:Nat):Prop:=∀ i j,i < j->j < m->lt (p.getD j 0) (p.getD i 0)=true
theorem Up.next {p:Array Nat} {m:Nat} (O:Ord cmp lt n s) (h:Up lt p m) (h1:1<=m) (hq:lt (p.getD (m - 1) 0) (p.getD m 0)=true):Up lt p (m + 1):=fun i j hij hj=>by
 by_cases e:j=m
 ·subst e
  by_cases e2:i=j - 1
  ·subst e2; exact hq
  ·exact O.tr _ _ _ (h i (j - 1) (by omega) (by omega)) hq
 ·exact h i j hij (by omega)
theorem Dn.next {p:Array Nat} {m:Nat} (O:Ord cmp lt n s) (h:Dn lt p m) (h1:1<=m) (hq:lt (p.getD m 0) (p.getD (m - 1) 0)=true):Dn lt p (m + 1):=fun i j hij hj=>by
 by_cases e:j=m
 ·subst e
  by_cases e2:i=j - 1
  ·subst e2; exact hq
  ·exact O.tr _ _ _ hq (h i (j - 1) (by omega) (by omega))
 ·exact h i j hij (by omega)
theorem gG {p:Array Nat} {Q:Nat->Shared->Prop} (O:Ord cmp lt n s) (r:Re n p):∀ (f m:Nat),1<=m->m + f<=n->Up lt p m->(∀ m',m<=m'->m'<=m + f->Up lt p m'->(m'=m + f\/lt (p.getD m' 0) (p.getD (m' - 1) 0)=true)->Q m' s)->(kas_asc p f m).kasWp cmp Q s
 | 0,m,h1,hm,u,q=>q m (Nat.le_refl _) (Nat.le_refl _) u (.inl rfl)
 | f + 1,m,h1,hm,u,q=>by
  show cmp _ _ _ s
  refine O.ask _ _ _ (r.lt m (by omega)) (r.lt (m - 1) (by omega)) (r.inj _ _ (by omega) (by omega) (by omega)) ?_
  cases c:lt (p.getD m 0) (p.getD (m - 1) 0) with
  | true=>
   show (KasT.ret m).kasWp cmp Q s
   exact q m (Nat.le_refl _) (by omega) u (.inr c)
  | false=>
   show (kas_asc p f (m + 1)).kasWp cmp Q s
   have hq:=O.tot _ _ (r.lt m (by omega)) (r.lt (m - 1) (by omega)) (r.inj _ _ (by omega) (by omega) (by omega)) c
   refine gG O r f (m + 1) (by omega) (by omega) (u.next O h1 hq) fun m' a b c d=>q m' (by omega) (by omega) c ?_
   rcases d with d | d
   ·exact .inl (by omega)
   ·exact .inr d
theorem oW {p:Array Nat} {Q:Array Nat×Nat×Nat->Shared->Prop} (O:Ord cmp lt n s) (r:Re n p):∀ (f m:Nat),1<=m->m + f<=n->Dn lt p m->(∀ m',m<=m'->m'<=m + f->Dn lt p m'->Q (p,m',0) s)->(kas_desc f p m 0).kasWp cmp Q s
 | 0,m,h1,hm,u,q=>q m (Nat.le_refl _) (Nat.le_refl _) u
 | f + 1,m,h1,hm,u,q=>by
  show cmp _ _ _ s
  refine O.ask _ _ _ (r.lt m (by omega)) (r.lt (m - 1) (by omega)) (r.inj _ _ (by omega) (by omega) (by omega)) ?_
  cases c:lt (p.getD m 0) (p.getD (m - 1) 0) with
  | true=>
   show (kas_desc f p (m + 1) 0).kasWp cmp Q s
   exact oW O r f (m + 1) (by omega) (by omega) (u.next O h1 c) fun m' a b c=>q m' (by omega) (by omega) c
  | false=>
   show cmp _ _ _ s
   refine O.ask _ _ _ (r.lt (m - 1) (by omega)) (r.lt m (by omega)) (r.inj _ _ (by omega) (by omega) (by omega)) ?_
   rw [O.tot _ _ (r.lt m (by omega)) (r.lt (m - 1) (by omega)) (r.inj _ _ (by omega) (by omega) (by omega)) c]
   show (KasT.ret (p,m,0)).kasWp cmp Q s
   exact q m (Nat.le_refl _) (by omega) u
theorem pJ {p:Array Nat} {m k:Nat} (hm:m<=p.size):(kas_rev p 0 m).getD k 0=if k < m then p.getD (m - 1 - k) 0 else p.getD k 0:=by
 have h:=getElem?_mirror_all (xs:=p) (i:=0) (j:=m) hm k
 have e1:∀ (a:Array Nat) (i:Nat),a.getD i 0=(a[i]?).getD 0:=fun a i=>by rw [Array.getD_eq_getD_getElem?]
 rw [e1]
 unfold kas_rev
 rw [h]
 by_cases hk:k < m
 ·rw [if_pos hk]
  simp only [e1]
  rw [if_pos (by omega)]
  congr 2
  omega
 ·rw [if_neg hk]
  simp only [e1]
  rw [if_neg (by omega)]
theorem tJ {p:Array Nat} {m:Nat} (r:Re n p):Re n (kas_rev p 0 m):=Re.of_perm ((mirror_perm p 0 m _).trans r.perm)
theorem ic {Q:Nat×Array Nat->Shared->Prop} {p:Array Nat} (O:Ord cmp lt n s) (r:Re n p) (h2:2<=n) (q:∀ m p',Re n p'->1<=m->m<=n->Up lt p' m->Q (m,p') s):(kas_count n p).kasWp cmp Q s:=by
 unfold kas_count
 rw [KasT.kasWp_bind]
 refine gG O r (n - 1) 1 (Nat.le_refl _) (by omega) (fun i j h1 h2=>by omega) fun m a b u e=>?_
 by_cases hm:(m == n)=true
 ·rw [if_pos hm]
  exact q m p r a (by omega) u
 ·rw [if_neg hm]
  have hmn:m≠n:=by simpa using hm
  by_cases h1:m > 1
  ·rw [if_pos h1]
   show cmp _ _ _ s
   refine O.ask _ _ _ (r.lt 0 (by omega)) (r.lt (m - 1) (by omega)) (r.inj _ _ (by omega) (by omega) (by omega)) ?_
   rw [u 0 (m - 1) (by omega) (by omega)]
   show (KasT.ret (m,p)).kasWp cmp Q s
   exact q m p r a (by omega) u
  ·rw [if_neg h1]
   have e1:m=1:=by omega
   subst e1
   have hd:lt (p.getD 1 0) (p.getD 0 0)=true:=by
    rcases e with e | e
    ·omega
    ·exact e
   unfold kas_descPart
   rw [KasT.kasWp_bind]
   refine oW O r (n - (1 + 1)) (1 + 1) (by omega) (by omega) (fun i j h1 h2=>?_) fun m' a' b' dn=>?_
   ·have:i=0:=by omega
    have:j=1:=by omega
    subst_vars
    exact hd
   ·show (if (0:Nat) > 0 then _ else kas_tail3 m' n p).kasWp cmp Q s
    rw [if_neg (by omega)]
    unfold kas_tail3
    rw [KasT.kasWp_bind]
    have up:Up lt (kas_rev p 0 m') m':=fun i j hij hj=>by
     rw [pJ (by rw [r.size]; omega),pJ (by rw [r.size]; omega),if_pos (by omega),if_pos (by omega)]
     exact dn _ _ (by omega) (by omega)
    refine gG O (tJ r) (n - m') m' (by omega) (by omega) up fun m2 a2 b2 u2 _=>?_
    exact q m2 _ (tJ r) (by omega) (by omega) u2
theorem iz {p:Array Nat} {k:Nat} {Q:Nat->Shared->Prop} (O:Ord cmp lt n s) (r:Re n p) (hk:k < n) (u:Up lt p k) (q:∀ l,l<=k->(∀ i,i < l->lt (p.getD i 0) (p.getD k 0)=true)->(∀ i,l<=i->i < k->lt (p.getD k 0) (p.getD i 0)=true)->Q l s) :
  ∀ (f l e:Nat),l<=e->e<=k->e - l<=f->(∀ i,i < l->lt (p.getD i 0) (p.getD k 0)=true)->(∀ i,e<=i->i < k->lt (p.getD k 0) (p.getD i 0)=true)->(kas_place p k f l e).kasWp cmp Q s
 | 0,l,e,h1,h2,h3,a,b=>q l (by omega) a fun i hi hk'=>b i (by omega) hk'
 | f + 1,l,e,h1,h2,h3,a,b=>by
  show (if l>=e then KasT.ret l else _).kasWp cmp Q s
  by_cases h:l>=e
  ·rw [if_pos h]
   exact q l (by omega) a fun i hi hk'=>b i (by omega) hk'
  ·rw [if_neg h]
   show cmp _ _ _ s
   have hm:(l + e) / 2 < k:=by omega
   refine O.ask _ _ _ (r.lt k hk) (r.lt _ (by omega)) (r.inj _ _ hk (by omega) (by omega)) ?_
   cases c:lt (p.getD k 0) (p.getD ((l + e) / 2) 0) with
   | true=>
    show (kas_place p k f l ((l + e) / 2)).kasWp cmp Q s
    refine iz O r hk u q f l _ (by omega) (by omega) (by omega) a fun i hi hk'=>?_
    by_cases ei:i=(l + e) / 2
    ·subst ei; exact c
    ·exact O.tr _ _ _ c (u _ i (by omega) hk')
   | false=>
    show (kas_place p k f ((l + e) / 2 + 1) e).kasWp cmp Q s
    have c':=O.tot _ _ (r.lt k hk) (r.lt _ (by omega)) (r.inj _ _ hk (by omega) (by omega)) c
    refine iz O r hk u q f _ e (by omega) h2 (by omega) (fun i hi=>?_) b
    by_cases ei:i=(l + e) / 2
    ·subst ei; exact c'
    ·exact O.tr _ _ _ (u i _ (by omega) hm) c'
theorem pI {p:Array Nat} {k d j:Nat} (hk:k < p.size) (hd:d<=k):(bubble p k d).getD j 0=if j < k - d\/k < j then p.getD j 0 else if j=k - d then p.getD k 0 else p.getD (j - 1) 0:=by
 have e1:∀ (a:Array Nat) (i:Nat),a.getD i 0=(a[i]?).getD 0:=fun a i=>by rw [Array.getD_eq_getD_getElem?]
 have h:=getElem?_bubble (xs:=p) (src:=k) hk d hd j
 rw [e1,h]
 by_cases a:j=k - d
 ·rw [if_pos a,if_neg (by omega),if_pos a,e1]
 ·rw [if_neg a]
  by_cases b:k - d < j/\j<=k
  ·rw [if_pos b,if_neg (by omega),if_neg a,e1]
  ·rw [if_neg b,if_pos (by omega),e1]
theorem ie {Q:Array Nat->Shared->Prop} (O:Ord cmp lt n s) (q:∀ p,Re n p->Up lt p n->Q p s):∀ (f k:Nat) (p:Array Nat),Re n p->1<=k->k + f=n->Up lt p k->(kas_bin f p k).kasWp cmp Q s
 | 0,k,p,r,h1,hn,u=>q p r (by rw [<- hn]; exact u)
 | f + 1,k,p,r,h1,hn,u=>by
  show ((kas_place p k k 0 k).bind fun l=>kas_bin f (bubble p k (k - l)) (k + 1)).kasWp cmp Q s
  rw [KasT.kasWp_bind]
  refine iz O r (by omega) u (fun l hl a b=>?_) k 0 k (Nat.zero_le _) (Nat.le_refl _) (by omega) (fun i hi=>by omega) (fun i h1 h2=>by omega)
  have hks:k < p.size:=by rw [r.size]; omega
  refine ie O q f (k + 1) _ (Re.of_perm ((bubble_perm p k _).trans r.perm)) (by omega) (by omega) fun i j hij hj=>?_
  rw [pI hks (by omega),pI hks (by omega)]
  have ek:k - (k - l)=l:=by omega
  rw [ek]
  by_cases hi:i < l
  ·rw [if_pos (.inl hi)]
   by_cases hj2:j < l
   ·rw [if_pos (.inl hj2)]; exact u i j hij (by omega)
   ·rw [if_neg (by omega)]
    by_cases hj3:j=l
    ·rw [if_pos hj3]; exact a i hi
    ·rw [if_neg hj3]; exact u i (j - 1) (by omega) (by omega)
  ·rw [if_neg (by omega)]
   by_cases hi2:i=l
   ·rw [if_pos hi2,if_neg (by omega),if_neg (by omega)]
    exact b (j - 1) (by omega) (by omega)
   ·rw [if_neg hi2,if_neg (by omega),if_neg (by omega)]
    exact u (i - 1) (j - 1) (by omega) (by omega)
theorem pN {Q:Array Nat->Shared->Prop} (O:Ord cmp lt n s) (h2:2<=n) (q:∀ p,Re n p->Up lt p n->Q p s):(kas_sort n).kasWp cmp Q s:=by
 unfold kas_sort
 rw [KasT.kasWp_bind]
 refine ic O (Re.of_perm (Array.Perm.refl _)) h2 fun m p r h1 hm u=>?_
 show (if m < n then kas_bin (n - max m 1) p (max m 1) else .ret p).kasWp cmp Q s
 have em:max m 1=m:=by omega
 rw [em]
 by_cases h:m < n
 ·rw [if_pos h]
  exact ie O q (n - m) m p r h1 (by omega) u
 ·rw [if_neg h]
  have:m=n:=by omega
  subst this
  exact q p r u
end
theorem cZ {prog:Program} {w:World} {A:Around} {E:Value->Shared->Prop} {st:Shared} {l:Addr} {us:List Value} {ep:Nat} {R:PySem.Fin->Shared->Prop} (at0:st.heap.get? l=some (seqObj "list" us.toArray ep)) (few:us.length < 2)
  (fin:∀ hp ep',(∀ b o,b≠l->st.heap.get? b=some o->hp.get? b=some o)->hp.get? l=some (seqObj "list" us.toArray ep')->R (.done (.ret .none)) { st with heap:=hp }) :
  wpAny (model prog w) A (Builtin.«list.sort» ⟨[.ref l],[]⟩) R E st:=by
 have sz:us.toArray.size=us.length:=by simp
 have lt0:l < st.heap.objs.size:=Heap.lt_size at0
 have line:us.length<=sizeLine:=by rw [sizeLine_eq]; omega
 rw [list_sort_plain]
 refine wpAny_bind (listItems_at at0 rfl (wpAny_bind (listUpdate_at at0 rfl ?_ (by rw [sz]; exact line) (Nat.zero_le _))))
 have at1:=get?_update_seq at0 (fun _=>(#[]:Array Value))
 refine wpAny_bind (seqEpoch_at at1 rfl (wpAny_bind (wpAny_newTuple ?_ (by show us.length<=_; exact line))))
 refine wpAny_bind (wpAny_newList ?_ (Nat.zero_le _))
 refine wpAny_holding ?_
 rw [if_pos (by rw [sz]; exact few),if_pos (by rw [sz]; exact few)]
 show wpAny (model prog w) A _ R E { st with heap:=((st.heap.update l (Obj.mapSeq fun _=>(#[]:Array Value))).push (seqObj "tuple" us.toArray 0)).push (seqObj "list" #[] 0) }
 have at2:(((st.heap.update l (Obj.mapSeq fun _=>(#[]:Array Value))).push (seqObj "tuple" us.toArray 0)).push (seqObj "list" #[] 0)).get? l=some (seqObj "list" #[] (if ((#[]:Array Value).size == us.toArray.size)=true then ep else ep + 1)):=by
  rw [Heap.get?_push_ne _ _ _ (by rw [size_push',Heap.size_update]; exact jZ lt0),Heap.get?_push_ne _ _ _ (by rw [Heap.size_update]; exact nlt lt0)]
  exact at1
 have all:(arrOf (SortSt.mk' general' (us.toArray.zip us.toArray) #[] 7 none)).map (·.2)=us.toArray:=by
  show (us.toArray.zip us.toArray).map (·.2)=us.toArray
  apply Array.ext'
  simp [List.map_snd_zip]
 have at3:=get?_update_seq at2 (fun _=>us.toArray)
 refine wpAny_bind (wpAny_pure ?_)
 dsimp only
 rw [StateT.run_pure]
 refine wpAny_bind (wpAny_pure ?_)
 dsimp only
 refine wpAny_bind (seqEpoch_at at2 rfl ?_)
 refine wpAny_bind (listUpdate_at at2 rfl ?_ (Nat.zero_le _) (by rw [all,sz]; omega))
 simp only [bne_self_eq_false,Bool.false_eq_true,if_false]
 rw [all]
 refine wpAny_pure (fin _ _ (fun b o hb e=>?_) at3)
 rw [Heap.get?_update_ne _ _ _ _ hb,Heap.get?_push_ne _ _ _ (by rw [size_push',Heap.size_update]; exact jZ (Heap.lt_size e)),Heap.get?_push_ne _ _ _ (by rw [Heap.size_update]; exact nlt (Heap.lt_size e)),Heap.get?_update_ne _ _ _ _ hb]
 exact e
theorem wP {h:Heap} {a:Addr} {m m':Str->Option Value} (x:h.Ns a m) (y:h.Ns a m'):m=m':=by
 obtain ⟨o,es,ep,e,d,_,f⟩:=x
 obtain ⟨o',es',ep',e',d',_,f'⟩:=y
 rw [e] at e'
 cases e'
 rw [d] at d'
 cases d'
 funext z
 rw [<- f z,f' z]
theorem kQ {a b:List Nat} (h:¬ a < b) (h2:a≠b):b < a:=by
 by_cases h3:b < a
 ·exact h3
 ·exact absurd (List.le_antisymm (List.not_lt.mp h3) (List.not_lt.mp h)) h2
theorem kA {a b:Str} (h:a.cps.toList=b.cps.toList):a=b:=by
 cases a
 cases b
 congr 1
 exact Array.ext' h
section
variable {X:Cx} {pins:List (Addr×Obj)} {σ:St} {H:Hp} {s:Shared}
abbrev TK:=Addr×Str×List V
def tw (p q:TK):Prop:=p.2.1.cps.toList < q.2.1.cps.toList
theorem uM (ps:List TK):∀ (us:List Value),aP (ps.map fun p=>V.ref p.1) us->us=ps.map fun p=>Value.ref p.1:=by
 induction ps with
 | nil=>
  intro us r
  cases r
  rfl
 | cons p ps ih=>
  intro us r
  rw [List.map_cons] at r ⊢
  cases r with
  | cons r t=>
   rw [ih _ t,show _=Value.ref p.1 from r]
theorem gJ (ps:List TK):aP (ps.map fun p=>V.ref p.1) (ps.map fun p=>Value.ref p.1):=by
 induction ps with
 | nil=>exact .nil
 | cons p ps ih=>exact .cons rfl ih
theorem sk (I:Inv X pins σ H s) {a:Addr} {x:Str} {r:List V} (h:H a=some (.tup (.str x :: r))):∃ (o:Obj) (us:List Value) (n:Nat) (t:Tok),s.heap.get? a=some o/\o.cls=.type "tuple"/\o.data=.seq (Value.str x t :: us).toArray n:=by
 obtain ⟨_,its,rv,⟨o,e,c,n,d⟩,_⟩:=(show aU X.prog X.w H s.heap a (.tup (.str x :: r)) from I.hok a _ h)
 cases rv with
 | cons r1 r2=>
  obtain ⟨t,rfl⟩:=r1
  exact ⟨o,_,n,t,e,c,d⟩
theorem ji {n:Nat} {p:Array Nat} {α:Type} {d:α} {ps:List α} (hn:ps.length=n) (r:Re n p):(p.toList.map fun i=>ps.getD i d).Perm ps:=by
 have hl:p.toList.Perm (List.range n):=by simpa using Array.perm_iff_toList_perm.mp r.perm
 refine (hl.map _).trans ?_
 have e:(List.range n).map (fun i=>ps.getD i d)=ps:=by
  apply List.ext_getElem?
  intro i
  rw [List.getElem?_map]
  by_cases hi:i < n
  ·rw [List.getElem?_range hi]
   simp [List.getD,show i < ps.length by omega]
  ·rw [List.getElem?_eq_none (by simpa using hi),List.getElem?_eq_none (by omega)]
   rfl
 rw [e]
theorem fe {n:Nat} {p:Array Nat} {α:Type} {d:α} {ps:List α} {R:α->α->Prop} {lt:Nat->Nat->Bool} (hlt:∀ i j,i < n->j < n->lt i j=true->R (ps.getD i d) (ps.getD j d)) (r:Re n p) (u:Up lt p n):(p.toList.map fun i=>ps.getD i d).Pairwise R:=by
 rw [List.pairwise_iff_getElem]
 intro i j hi hj hij
 rw [List.length_map,Array.length_toList,r.size] at hi hj
 have get:∀ k (hk:k < n) h,(p.toList.map fun i=>ps.getD i d)[k]'h=ps.getD (p.getD k 0) d:=fun k hk h=>by
  rw [List.getElem_map]
  congr 1
  simp [Array.getD,r.size,hk]
 rw [get i hi,get j hj]
 exact hlt _ _ (r.lt i hi) (r.lt j hj) (u i j hij hj)
end
open PySem PySem.Spec PyProof.Rows
def xK (N:List Str) (sc scope:Scope) (ix:List Nat):Bool:=
 decide (scope.kind=.function) && scope.names.all (fun y=>decide (y.2≠.cell)) && scope.names.all (fun y=>decide (y.2=.local->scope.names.lookup y.1=some .local)) &&
 scope.names.all (fun y=>decide (y.2=.free->sc.names.lookup y.1=some .cell\/sc.names.lookup y.1=some .free)) &&
 ix.all (fun j=>decide (j < N.length) && match N[j]? with | some x=>scope.names.any (fun y=>decide (y.1=x) && decide (y.2=.free)) && decide (scope.names.lookup x=some .free) | none=>false)
theorem cU.of {N:List Str} {sc scope:Scope} {own:List Str} {ix:List Nat} (h:xK N sc scope ix=true):cU N sc scope own ix:=by
 unfold xK at h
 simp only [Bool.and_eq_true,decide_eq_true_eq,List.all_eq_true] at h
 obtain ⟨⟨⟨⟨h1,h2⟩,h3⟩,h4⟩,h5⟩:=h
 refine ⟨h1,h2,h3,h4,fun j hj x hx=>?_,fun j hj=>(h5 j hj).1⟩
 have:=(h5 j hj).2
 rw [hx] at this
 simp only [Bool.and_eq_true,decide_eq_true_eq,List.any_eq_true] at this
 obtain ⟨⟨⟨n,k⟩,hy,e1,e2⟩,e3⟩:=this
 have e1':n=x:=e1
 have e2':k=.free:=e2
 subst e1' e2'
 exact ⟨hy,e3⟩
theorem cN {l N:List Str} (h:l.Nodup) (e:N=l):N.Nodup:=by rw [e]; exact h
structure Def (P:Program) (w:World) (K:PySem.W.Frag) (mg:Str->Option Value) (base:Heap) (k:Nat) (x:Str) (ps:List Str) (sp:Sp):Prop where
 ex:∃ f fd,bj P w K mg base CX0 k f fd ps sp/\jm K fd ps []/\PySem.W.keepIn K (.ref f)=true/\mg x=some (.ref f)
theorem Def.up {P:Program} {w:World} {K:PySem.W.Frag} {mg:Str->Option Value} {base:Heap} {j k:Nat} {x:Str} {ps:List Str} {sp:Sp} (d:Def P w K mg base j x ps sp) (h:j<=k):Def P w K mg base k x ps sp:=
 let ⟨f,fd,F,b,kp,m⟩:=d.ex
 ⟨f,fd,F.mono h,b,kp,m⟩
theorem ao {X:Cx} {k:Nat} {x:Str} {ps:List Str} {sp:Sp} {p pos:Pos} {e:Expr} {es:List Expr} {t:TA} (d:Def X.prog X.w X.K X.mg X.base k x ps sp) (hr:dJ k X.A) (hg:Gl X x) (ha:PA X (e :: es) t) (hdb:(x == ("__debug__" : Str))=false:=by decide)
  (he:starEach (e :: es) X.env=(false,eval e X.env) :: starEach es X.env:=by rfl) (hpl:(backTo pos (starEach es X.env)).any (·.1)=false:=by rfl):PE X (.Call (.Name x p) (e :: es) [] pos) (vG sp [] E0 t):=by
 obtain ⟨f,fd,F,b,kp,m⟩:=d.ex
 exact uF F hr hg m kp b .nil xq ha hdb he hpl
inductive Dv where
 | non | bl (b:Bool) | int (i:Int) | str (x:Str) | tup (xs:List Dv) | lst (xs:List Dv) | dct
mutual
def Rep (H:Hp):Dv->V->Prop
 | .non,v=>v=.non
 | .bl b,v=>v=.bl b
 | .int i,v=>v=.int i
 | .str x,v=>v=.str x
 | .tup ds,v=>∃ a vs,v=.ref a/\H a=some (.tup vs)/\Reps H ds vs
 | .lst ds,v=>∃ a vs,v=.ref a/\H a=some (.lst vs)/\Reps H ds vs
 | .dct,v=>∃ a,v=.ref a/\H a=some (.dK [])
def Reps (H:Hp):List Dv->List V->Prop
 | [],vs=>vs=[]
 | d :: ds,vs=>∃ v r,vs=v :: r/\Rep H d v/\Reps H ds r
end
mutual
theorem Rep.mono {H H':Hp} (s:aq H H'):∀ {d:Dv} {v:V},Rep H d v->Rep H' d v
 | .non,_,h=>by simpa only [Rep] using h
 | .bl b,_,h=>by simpa only [Rep] using h
 | .int i,_,h=>by simpa only [Rep] using h
 | .str x,_,h=>by simpa only [Rep] using h
 | .tup ds,_,h=>by
  simp only [Rep] at h ⊢
  obtain ⟨a,vs,e,h1,h2⟩:=h
  exact ⟨a,vs,e,s _ _ h1,Reps.mono s h2⟩
 | .lst ds,_,h=>by
  simp only [Rep] at h ⊢
  obtain ⟨a,vs,e,h1,h2⟩:=h
  exact ⟨a,vs,e,s _ _ h1,Reps.mono s h2⟩
 | .dct,_,h=>by
  simp only [Rep] at h ⊢
  obtain ⟨a,e,h1⟩:=h
  exact ⟨a,e,s _ _ h1⟩
theorem Reps.mono {H H':Hp} (s:aq H H'):∀ {ds:List Dv} {vs:List V},Reps H ds vs->Reps H' ds vs
 | [],_,h=>by simpa only [Reps] using h
 | d :: ds,_,h=>by
  simp only [Reps] at h ⊢
  obtain ⟨v,r,e,h1,h2⟩:=h
  exact ⟨v,r,e,Rep.mono s h1,Reps.mono s h2⟩
end
theorem Reps.length {H:Hp}:∀ {ds:List Dv} {vs:List V},Reps H ds vs->vs.length=ds.length
 | [],_,h=>by simp only [Reps] at h; subst h; rfl
 | d :: ds,_,h=>by
  simp only [Reps] at h
  obtain ⟨v,r,e,h1,h2⟩:=h
  subst e
  rw [List.length_cons,List.length_cons,Reps.length h2]
theorem Reps.get {H:Hp}:∀ {ds:List Dv} {vs:List V},Reps H ds vs->∀ {i:Nat} {v:V},vs[i]?=some v->∃ d,ds[i]?=some d/\Rep H d v
 | [],_,h,i,v,e=>by simp only [Reps] at h; subst h; simp at e
 | d :: ds,_,h,i,v,e=>by
  simp only [Reps] at h
  obtain ⟨v',r,e',h1,h2⟩:=h
  subst e'
  cases i with
  | zero => exact ⟨d, rfl, by have : v' = v := by simpa using e
                              subst this; exact h1⟩
  | succ i=>obtain ⟨d',e1,e2⟩:=Reps.get h2 (i:=i) (v:=v) (by simpa using e); exact ⟨d',by simpa using e1,e2⟩
def Dv.tn:Dv->String
 | .non=>"NoneType" | .bl _=>"bool" | .int _=>"int" | .str _=>"str" | .tup _=>"tuple" | .lst _=>"list" | .dct=>"dict"
theorem Rep.ty {K:PySem.W.Frag} {H:Hp} {d:Dv} {v:V} (h:Rep H d v):fC K H v (.type d.tn):=by
 cases d with
 | non=>simp only [Rep] at h; subst h; exact .non
 | bl b=>simp only [Rep] at h; subst h; exact .bl b
 | int i=>simp only [Rep] at h; subst h; exact .int i
 | str x=>simp only [Rep] at h; subst h; exact .str x
 | tup ds=>simp only [Rep] at h; obtain ⟨a,vs,rfl,h1,_⟩:=h; exact .tup h1
 | lst ds=>simp only [Rep] at h; obtain ⟨a,vs,rfl,h1,_⟩:=h; exact .lst h1
 | dct=>simp only [Rep] at h; obtain ⟨a,rfl,h1⟩:=h; exact .dK h1
def isT (d:Dv) (n:String):Bool:=d.tn == n || (d.tn == "bool" && n == "int")
theorem pC (K:PySem.W.Frag) (d:Dv):PySem.W.kitOne K (.type d.tn) (.type "int")=some (isT d "int"):=by
 unfold PySem.W.kitOne PySem.W.kitCls
 cases d <;> kernel_rfl
theorem iC (K:PySem.W.Frag) (d:Dv):PySem.W.kitOne K (.type d.tn) (.type "bool")=some (isT d "bool"):=by
 unfold PySem.W.kitOne PySem.W.kitCls
 cases d <;> kernel_rfl
theorem eO (K:PySem.W.Frag) (d:Dv):PySem.W.kitOne K (.type d.tn) (.type "tuple")=some (isT d "tuple"):=by
 unfold PySem.W.kitOne PySem.W.kitCls
 cases d <;> kernel_rfl
section
variable {k:Nat} {ix:List Nat} {g:TG} {tt:TT} {te:TE} {σ:St} {H1:Hp} {Q:List V->Hp->Prop}
theorem gs {i:Nat} {x:V} {ys:List V} {H:Hp} {N:List V->Hp->Prop} (h:te ((dA k ix σ).set i (some x)) H fun y H4=>ys.length < sizeLine/\N (ys ++ [y]) H4):gu k ix (dB i) uC te σ x ys H N:=by
 exact cQ (B:=N ys H) h
theorem mT {i j:Nat} {K:PySem.W.Frag} {a:Addr} {x y:V} {ys:List V} {H:Hp} {N:List V->Hp->Prop} (ha:H a=some (.tup [x,y])) (h:te (((dA k ix σ).set i (some x)).set j (some y)) H fun y H4=>ys.length < sizeLine/\N (ys ++ [y]) H4) :
  gu k ix (uk K 2 (eV (dB i) (eV (dB j) oj))) uC te σ (.ref a) ys H N:=by
 refine ⟨a,_,rfl,SqT.of ha,rfl,_,_,rfl,_,_,rfl,rfl,?_⟩
 exact cQ (B:=N ys H) h
end
mutual
def Dv.small:Dv->Bool
 | .str x=>decide (x.cps.size<=1000)
 | .tup xs=>smalls xs && decide (xs.length<=1000)
 | .lst xs=>smalls xs && decide (xs.length<=1000)
 | _=>true
def smalls:List Dv->Bool
 | []=>true
 | d :: ds=>d.small && smalls ds
end
theorem cL:∀ {ds:List Dv},smalls ds=true->∀ {i:Nat} {d:Dv},ds[i]?=some d->d.small=true
 | [],_,i,d,e=>by simp at e
 | x :: ds,h,i,d,e=>by
  simp only [smalls,Bool.and_eq_true] at h
  cases i with
  | zero=>
   have e':x=d:=by simpa using e
   subst e'; exact h.1
  | succ i=>exact cL h.2 (i:=i) (by simpa using e)
theorem ak {H:Hp} {p:Addr} (h:H p=none) (o:HO):aq H (upd H p o):=fun b u q=>by rw [aI (am q h)]; exact q
section
variable {X:Cx}
theorem uY (K:PySem.W.Frag) (h:X.K=K):IxR X (xF K):=by subst h; exact aD
end
section
variable {X:Cx}
def xm (K:PySem.W.Frag):R2:=fun x y H Q=>∃ a b xs ys,x=.ref a/\y=.ref b/\SqT K H a xs/\SqT K H b ys/\xs.length + ys.length<=sizeLine /\
 (xs=[]->Q (.ref b) H)/\(ys=[]->Q (.ref a) H)/\(∀ p,H p=none->Q (.ref p) (upd H p (.tup (xs ++ ys))))
theorem oR:OpR X (binaryOp .Add) (xm X.K):=by
 intro pins s σ H x y v u Q I rx ry h
 obtain ⟨a,b,xs,ys,rfl,rfl,ha,hb,hz,q0,q1,q2⟩:=h
 by_cases hx:xs=[]
 ·cases rx
  cases ry
  obtain ⟨its,r1,p1,_⟩:=I.tuple ha
  obtain ⟨its2,r2,p2,_⟩:=I.tuple hb
  subst hx
  cases r1
  obtain ⟨⟨cls,dd,data,sl⟩,ho,hc,n,hd⟩:=id p1
  obtain ⟨⟨cls2,dd2,data2,sl2⟩,ho2,hc2,n2,hd2⟩:=id p2
  simp only at hc hd hc2 hd2
  subst hc hd hc2 hd2
  exact concat_meets ⟨_,ho,rfl⟩ ⟨_,ho2,rfl⟩ noFill_tuple_add seq_tuple_add PySem.F.slot_tuple_add PySem.F.entry_tuple_add (PySem.F.args_tuple_add_2 _ _) (tuple_addW0 a b _ _ n n2 dd dd2 sl sl2 rfl) ⟨ho,ho2,⟨.ref b,H,I,rfl,q0 rfl⟩⟩
 ·exact uK pins s σ H (.ref a) (.ref b) v u Q I rx ry ⟨a,b,xs,ys,rfl,rfl,ha,hb,hx,hz,q1,fun _=>q2⟩
end
section
variable {σ:St} {H:Hp} {d e:Dv} {ds es:List Dv} {ta tb:TE} {t:TA}
theorem Reps.append {H:Hp}:∀ {ds es:List Dv} {vs ws:List V},Reps H ds vs->Reps H es ws->Reps H (ds ++ es) (vs ++ ws)
 | [],_,_,_,h,g=>by simp only [Reps] at h; subst h; exact g
 | d :: ds,es,vs,ws,h,g=>by
  simp only [Reps] at h
  obtain ⟨v,r,rfl,h1,h2⟩:=h
  simp only [List.cons_append,Reps]
  exact ⟨v,r ++ ws,rfl,h1,Reps.append h2 g⟩
end
section
variable {σ:St} {H:Hp} {d e:Dv} {ds es:List Dv} {ta tb:TE} {t:TA} {l:Addr}
variable {i:Nat} {u:TS} {D:gm}
end
section
variable {X:Cx}
end
section
variable {prog:Program} {w:World} {K:Type} [DecidableEq K] {knd:PySem.KeyKind prog w K} {A:Around} {R:Result->Shared->Prop} {I d:Addr} {fp wr:List Addr} {n:Nat} {P:Nat->Value->Prop} {St:Nat->Heap->Prop}
end
section
variable {prog:Program} {w:World} {K:Type} [DecidableEq K] {knd:PySem.KeyKind prog w K} {A:Around} {E:Value->Shared->Prop} {s:Shared}
end
section
variable {X:Cx}
end
theorem gO (ns:List Int):∀ k,k<=ns.length->preSum (fun i=>(ns[i]?).getD 0) k=(ns.take k).sum
 | 0,_=>by simp [preSum]
 | k + 1,h=>by
  have e:ns[k]?=some ns[k]:=List.getElem?_eq_getElem (by omega)
  rw [preSum,gO ns k (by omega),List.take_add_one,List.sum_append,e]
  simp
theorem ku:∀ {ns:List Int} {us:List Value},aP (ns.map V.int) us->∀ (i:Nat) (v:Value),us[i]?=some v->∃ t,v=.int ((ns[i]?).getD 0) t:=fun {ns us} r i v e=>by
 have hl:=r.length
 have hi:i < ns.length:=by rw [List.length_map] at hl; rw [hl]; exact (List.getElem?_eq_some_iff.mp e).1
 obtain ⟨u,hu,ru⟩:=aP.get (i:=i) (x:=V.int ns[i]) r (by rw [List.getElem?_map,List.getElem?_eq_getElem hi]; rfl)
 obtain rfl:u=v:=Option.some.inj (hu.symm.trans e)
 obtain ⟨t,rfl⟩:=(show ∃ t,u=Value.int ns[i] t from ru)
 exact ⟨t,by rw [List.getElem?_eq_getElem hi]; rfl⟩
section
variable {X:Cx}
theorem gz (hc:X.calm=true):bM X (.builtin "sum") (fun xs H Q=>∃ (a:Addr) (ns:List Int),xs=[.ref a]/\SqL X.K H a (ns.map V.int)/\Q (.int ns.sum) H):=by
 intro pins s σ H xs us Q I r h
 obtain ⟨a,ns,rfl,hq,q⟩:=h
 obtain ⟨u,rfl,ru⟩:=cC r
 cases ru
 obtain ⟨its,rv,p,hz⟩:=I.list hq
 have hl:=p.isList
 have hlt:a < s.heap.objs.size:=by obtain ⟨_,e,_⟩:=hl; exact Heap.lt_size e
 have hlen:its.length=ns.length:=by have:=rv.length; rw [List.length_map] at this; exact this.symm
 refine call_sum_walkAnyS (wpAny_pyIter_list hl ?_)
 refine ⟨s.heap.objs.size,[s.heap.objs.size,a],[s.heap.objs.size],_,its.toArray.size,_,_,fun i=>(ns[i]?).getD 0,rfl,(Walks.list (A:=X.A.in1) (I.ok.hd hc) _ a (Nat.ne_of_lt hlt) its.toArray).toS,
  ⟨⟨_,Heap.get?_push_size _ rfl,rfl,rfl⟩,hl.push _⟩,fun b hb=>?_,fun i v hP=>ku rv i v (by simpa using hP),fun s' t' hm=>?_⟩
 ·obtain ⟨_,e,_⟩:=hl
  rcases List.mem_cons.mp hb with rfl | hb
  ·exact Heap.lt_size (Heap.get?_push_size _ rfl)
  ·obtain rfl:=List.mem_singleton.mp hb
   exact Heap.lt_size (Heap.get?_push_of_some _ e)
 ·obtain ⟨h',g',d',tk',os'⟩:=s'
  have e1:g'=s.gens:=hm.gens
  have e2:d'=s.drawn:=hm.drawn
  have e3:os'=s.os:=hm.os
  subst e1 e2 e3
  rw [List.size_toArray,hlen,gO ns _ (Nat.le_refl _),List.take_length]
  exact ⟨.int ns.sum,H,I.kept fun b o e=>hm.heap b o (fun hb=>absurd (Heap.lt_size e) ((List.mem_singleton.mp hb)▸Nat.lt_irrefl _)) (Heap.get?_push_of_some _ e),⟨t',rfl⟩,q⟩
end
open PySem PySem.Spec PyProof.Rows PySem.W
section
variable {X:Cx} {pins:List (Addr×Obj)} {σ:St} {H:Hp} {s:Shared}
theorem Inv.setList {D:Addr} {ys0 ys:List V} {its:List Value} {c:Nat} {h':Heap} {m:Str->Option Value} (I:Inv X pins σ H s) (hm:s.heap.Ns X.env.locals m) (hD:H D=some (.lst ys0)) (rv:aP ys its) (hz:ys.length<=sizeLine)
  (F:h'.Ns X.env.locals m) (k:∀ b o,b≠X.env.locals->b≠D->s.heap.get? b=some o->h'.get? b=some o) (e:h'.get? D=some { cls:=.type "list",data:=.seq its.toArray c }):Inv X pins σ (upd H D (.lst ys)) { s with heap:=h' }:=by
 have nl:∀ b v,H b=some v->b≠X.env.locals:=fun b v q z=>by rw [z,I.free] at q; cases q
 have nD:∀ b,H b=none->b≠D:=fun b q z=>by rw [z,hD] at q; cases q
 have nT:∀ b v,H b=some v->v≠.lst ys0->b≠D:=fun b v q n z=>by rw [z,hD] at q; cases q; exact n rfl
 refine I.step (g':=s.gens) (d':=s.drawn) (t':=s.toks) (ch:=[]) (fun b hb=>by cases hb) (fun b o hL _ _ q n=>k b o hL (nD b n) q) (fun b o hL _ _ q n=>⟨o.slots,k b o hL (nD b n) q⟩) (fun b o _ q n=>by rw [aI (nD b n)]; exact n) (fun b o _ q=>?_)
  (fun b xs q=>by rw [aI (nT b _ q nofun)]; exact q) (fun b o v q=>by rw [aI (nT b _ q nofun)]; exact q) (fun b ps q=>⟨#[],by rw [aI (nT b _ q nofun),q]; simp⟩) (fun m' hm'=>by rw [wP hm' hm]; exact F) (fun b v q=>?_) I.bare
 ·by_cases hb:b=X.env.locals
  ·subst hb
   obtain ⟨o',_,_,q',_⟩:=F
   exact ⟨o',q'⟩
  ·by_cases hd:b=D
   ·subst hd; exact ⟨_,e⟩
   ·exact ⟨o,k b o hb hd q⟩
 ·by_cases hb:b=D
  ·subst hb
   rw [af] at q
   cases q
   exact ⟨hz,its,c,rv,e⟩
  ·rw [aI hb] at q
   refine (I.hok b v q).stay (fun c w' hc q'=>?_) (fun c q'=>by rw [aI (nT c _ q' nofun)]; exact q') fun c xs q'=>by rw [aI (nT c _ q' nofun)]; exact q'
   rcases hc with z | z
   ·subst z; exact k c w' (nl c v q) hb q'
   ·exact k c w' (nl c _ z) (nT c _ z nofun) q'
theorem sV {A:Around} {E:Value->Shared->Prop} {l:Addr} {ps:List TK} {Q:Value->Shared->Prop} (I:Inv X pins σ H s) (hq:H l=some (.lst (ps.map fun p=>V.ref p.1))) (ht:∀ p∈ps,H p.1=some (.tup (.str p.2.1 :: p.2.2)))
  (nd:(ps.map (·.2.1)).Nodup) (h64:ps.length < 64) (q:∀ (qs:List TK) (h':Heap),qs.Perm ps->qs.Pairwise tw->Inv X pins σ (upd H l (.lst (qs.map fun p=>V.ref p.1))) { s with heap:=h' }->Q .none { s with heap:=h' }) :
  wpAny (model X.prog X.w) A (call (.builtin "list.sort") [.ref l]) Q E s:=by
 obtain ⟨hz,its,n,rv,at0⟩:=(show aU X.prog X.w H s.heap l (.lst (ps.map fun p=>V.ref p.1)) from I.hok l _ hq)
 have ei:=uM ps its rv
 subst ei
 obtain ⟨m,hm,_⟩:=I.loc
 have nL:l≠X.env.locals:=fun z=>by rw [z,I.free] at hq; cases hq
 have lne:∀ p∈ps,p.1≠l/\p.1≠X.env.locals:=fun p hp=>by
  refine ⟨fun z=>?_,fun z=>?_⟩
  ·have t:=ht p hp
   rw [z,hq] at t
   cases t
  ·have t:=ht p hp
   rw [z,I.free] at t
   cases t
 by_cases few:ps.length < 2
 ·refine wpAny_call_entry slot_list_sort ⟨_,at0,rfl⟩ entry_list_sort (cZ at0 (by simpa using few) fun hp ep k2 e2=>⟨_,rfl,?_⟩) (args_list_sort _)
  refine q ps hp (List.Perm.refl _) ?_ (I.setList hm hq (gJ ps) hz (hm.at' fun o e=>k2 _ o (Ne.symm nL) e) (fun b o _ hb z=>k2 b o hb z) e2)
  match ps,few with
  | [],_=>exact .nil
  | [p],_=>exact List.pairwise_singleton _ _
 ·have hlen:(ps.map fun p=>Value.ref p.1).length=ps.length:=List.length_map _
  have F0:Fr (Att.noObjs s.heap) X.env.locals s.heap m:=Att.fr_all hm
  generalize hN:(fK (Att.noObjs s.heap) s.heap X.env.locals).filter (fun p=>decide (p.1≠l))=nw
  have N0:News (Att.noObjs s.heap) X.env.locals s.heap nw:=fun p hp=>by rw [<- hN] at hp; exact mQ p (List.mem_filter.mp hp).1
  have nl0:∀ p∈nw,p.1≠l:=fun p hp=>by rw [<- hN] at hp; exact of_decide_eq_true (List.mem_filter.mp hp).2
  refine wpAny_call_entry slot_list_sort ⟨_,at0,rfl⟩ entry_list_sort (kat_list_sort F0 N0 at0 nL (Att.noObjs_get _ _) nl0 (by rw [hlen]; omega) (by rw [hlen]; exact h64) fun e1 h' F' N'=>?_) (args_list_sort _)
  have keep:∀ (g:Heap) (x:Obj),News (Att.noObjs s.heap) X.env.locals g ((l,x) :: nw)->∀ b o,b≠X.env.locals->b≠l->s.heap.get? b=some o->g.get? b=some o:=fun g x N b o hb hl e=>
   (N (b,o) (List.mem_cons_of_mem _ (by rw [<- hN]; exact List.mem_filter.mpr ⟨gP hb (Att.noObjs_get _ _) e,decide_eq_true hl⟩))).1
  have kp:=keep h' _ N'
  have atv:∀ i,i < ps.length->(ps.map fun p=>Value.ref p.1).getD i .none=Value.ref (ps.getD i (0,default,[])).1:=fun i hi=>by
   simp [List.getD,hi]
  have item:∀ i,i < ps.length->∃ (o:Obj) (us:List Value) (n:Nat) (t:Tok),h'.get? (ps.getD i (0,default,[])).1=some o/\o.cls=.type "tuple"/\o.data=.seq (Value.str (ps.getD i (0,default,[])).2.1 t :: us).toArray n:=fun i hi=>by
   have hm':ps.getD i (0,default,[])∈ps:=by
    have e:ps.getD i (0,default,[])=ps[i]:=by simp [List.getD,hi]
    rw [e]; exact List.getElem_mem hi
   obtain ⟨o,us,n,t,e,c,d⟩:=sk I (ht _ hm')
   exact ⟨o,us,n,t,kp _ o (lne _ hm').2 (lne _ hm').1 e,c,d⟩
  have firsts:∀ (qs:List TK),(∀ p∈qs,p∈ps)->∃ fs:List Value,KatTups h' (qs.map fun p=>Value.ref p.1) fs/\fs.length=qs.length/\∀ v∈fs,∃ x t,v=Value.str x t:=by
   intro qs
   induction qs with
   | nil=>intro _; exact ⟨[],KatTups.nil,rfl,by simp⟩
   | cons p qs ih=>
    intro hs
    obtain ⟨fs,t1,t2,t3⟩:=ih fun x hx=>hs x (List.mem_cons_of_mem _ hx)
    have hp:=hs p List.mem_cons_self
    obtain ⟨o,us,n,t,e,c,d⟩:=sk I (ht _ hp)
    refine ⟨Value.str p.2.1 t :: fs,KatTups.cons (kp _ o (lne _ hp).2 (lne _ hp).1 e) c d (by simp) t1,by simp [t2],fun v hv=>?_⟩
    rcases List.mem_cons.mp hv with rfl | hv
    ·exact ⟨_,_,rfl⟩
    ·exact t3 v hv
  obtain ⟨fs,t1,t2,t3⟩:=firsts ps fun p hp=>hp
  refine kat_kind (T:=.type "str") (s:={ s with heap:=h' }) t1 (by rw [t2]; omega) (fun v hv=>?_) (by decide) ?_
  ·obtain ⟨x,t,rfl⟩:=t3 v hv
   exact Looks.of_pure rfl
  rw [hlen]
  have O:Ord (kas_ask X.prog X.w A.in1 (tuples' (Value.type "str" != Value.type "tuple")) (ps.map fun p=>Value.ref p.1)) (fun i j=>decide ((ps.getD i (0,default,[])).2.1.cps.toList < (ps.getD j (0,default,[])).2.1.cps.toList)) ps.length { s with heap:=h' }:=by
   have unlike:∀ i j,i < ps.length->j < ps.length->i≠j->(ps.getD i (0,default,[])).2.1≠(ps.getD j (0,default,[])).2.1:=fun i j hi hj hij e=>by
    have ei:ps.getD i (0,default,[])=ps[i]:=by simp [List.getD,hi]
    have ej:ps.getD j (0,default,[])=ps[j]:=by simp [List.getD,hj]
    rw [ei,ej] at e
    exact hij ((List.getElem_inj (h₀:=by simpa using hi) (h₁:=by simpa using hj) nd).mp (by simpa using e))
   refine ⟨fun i j C hi hj hij hC=>?_,fun i j k h1 h2=>?_,fun i j hi hj hij h1=>?_,fun i j h1=>?_⟩
   ·show wpAny _ _ (keyLt' _ _ _) C _ _
    rw [atv i hi,atv j hj]
    obtain ⟨o,us,n,t,e,c,d⟩:=item i hi
    obtain ⟨o2,us2,n2,t2',e2,c2,d2⟩:=item j hj
    refine kat_lt (s:={ s with heap:=h' }) e d e2 d2 ?_
    show KatLex _ _ _ _ _ _ ((Value.str _ t,Value.str _ t2') :: _) 0 _
    refine kat_cons (wpAny_eqBool_str ?_)
    rw [decide_eq_false (unlike i j hi hj hij)]
    exact kat_no (oneLt_str hC)
   ·exact decide_eq_true (List.lt_trans (of_decide_eq_true h1) (of_decide_eq_true h2))
   ·exact decide_eq_true (kQ (of_decide_eq_false h1) fun e=>unlike i j hi hj hij (kA e))
   ·exact decide_eq_false (List.lt_asymm (of_decide_eq_true h1))
  refine pN O (by omega) fun p re up=>?_
  have outs:(p.toList.map fun i=>(ps.map fun p=>Value.ref p.1).getD i .none)=(p.toList.map fun i=>ps.getD i (0,default,[])).map fun p=>Value.ref p.1:=by
   rw [List.map_map]
   refine List.map_congr_left fun i hi=>?_
   have hl2:p.toList.Perm (List.range ps.length):=by simpa using Array.perm_iff_toList_perm.mp re.perm
   exact atv i (List.mem_range.mp ((List.Perm.mem_iff hl2).mp hi))
  rw [outs]
  refine KasFin.intro (news:=(l,seqObj "list" #[] e1) :: nw) (g:=fun o'=>(l,o') :: nw) F' N' (.head nl0) fun h2 c F2 N2=>?_
  have pq:=ji (d:=(0,default,[])) rfl re
  have I2:=I.setList (D:=l) (ys:=(p.toList.map fun i=>ps.getD i (0,default,[])).map fun p=>V.ref p.1) hm hq (gJ _) (by rw [List.length_map,pq.length_eq]; simpa using hz) F2.ns (keep h2 _ N2) (N2 (l,_) List.mem_cons_self).1
  exact ⟨_,rfl,q _ h2 pq (fe (R:=tw) (fun i j _ _ h=>(of_decide_eq_true h:(ps.getD i (0,default,[])).2.1.cps.toList < (ps.getD j (0,default,[])).2.1.cps.toList)) re up) I2⟩
def cS (v d:Addr):HO:=.ext fun h=>h.IsItemsView v d
theorem nA:MtR X "dict.items" (fun x xs H Q=>∃ d kvs,x=.ref d/\xs=[]/\H d=some (.dK kvs)/\∀ v,H v=none->Q (.ref v) (upd H v (cS v d))):=by
 intro pins s σ H x xs u us Q I rx rv h
 obtain ⟨d,kvs,rfl,rfl,hd,q⟩:=h
 cases rx
 cases rv
 obtain ⟨z,hdm,vs,rel,dd⟩:=sO I.hok hd
 refine call_meetsIn PySem.F.slot_dict_items dd.typeIs PySem.F.entry_dict_items (PySem.F.args_dict_items_1 _) (meets_dict_items (aF X.prog X.w) d hdm) ⟨⟨vs,dd⟩,?_⟩
 refine ⟨.ref s.heap.objs.size,_,I.laid (t':=s.toks) (a:=s.heap.objs.size) (o:=cS s.heap.objs.size d) (fun b u q=>Heap.get?_push_of_some _ q) (Nat.le_refl _) ?_,rfl,q _ I.fresh⟩
 exact ⟨⟨_,Heap.get?_push_size _ rfl,rfl,rfl⟩,⟨_,Heap.get?_push_size _ rfl⟩,fun h1 h2 ⟨o,e,r⟩ k=>⟨o,k o e,r⟩⟩
def lays (H:Hp) (rs:List TK):Hp:=fun b=>match rs.find? (fun r=>decide (r.1=b)) with | some r=>some (.tup (.str r.2.1 :: r.2.2)) | none=>H b
theorem iG {rs:List TK} {b:Addr} (h:∀ r∈rs,r.1≠b):lays H rs b=H b:=by
 unfold lays
 rw [List.find?_eq_none.mpr (fun r hr e=>h r hr (of_decide_eq_true e))]
theorem pH {rs:List TK} (nd:(rs.map (·.1)).Nodup) {r:TK} (hr:r∈rs):lays H rs r.1=some (.tup (.str r.2.1 :: r.2.2)):=by
 unfold lays
 cases e:rs.find? (fun x=>decide (x.1=r.1)) with
 | none=>exact absurd (decide_eq_true rfl) (List.find?_eq_none.mp e r hr)
 | some x=>
  have hx:=List.mem_of_find?_eq_some e
  have e1:x.1=r.1:=of_decide_eq_true (List.find?_some (p:=fun x:TK=>decide (x.1=r.1)) e)
  obtain ⟨i,hi,rfl⟩:=List.getElem_of_mem hx
  obtain ⟨j,hj,rfl⟩:=List.getElem_of_mem hr
  have:i=j:=(List.getElem_inj (h₀:=by simpa using hi) (h₁:=by simpa using hj) nd).mp (by simpa using e1)
  subst this
  rfl
theorem Inv.lays {h':Heap} {tk:Nat} {rs:List TK} (I:Inv X pins σ H s) (k:∀ b u,s.heap.get? b=some u->h'.get? b=some u) (nd:(rs.map (·.1)).Nodup) (hp:∀ r∈rs,s.heap.objs.size<=r.1)
  (new:∀ r∈rs,aU X.prog X.w (L2.lays H rs) h' r.1 (.tup (.str r.2.1 :: r.2.2))):Inv X pins σ (L2.lays H rs) { s with heap:=h',toks:=tk }:=by
 have out:∀ b,b < s.heap.objs.size->L2.lays H rs b=H b:=fun b hb=>iG fun r hr e=>absurd hb (Nat.not_lt.mpr (e▸hp r hr))
 refine I.un (t':=tk) ⟨fun b u q _ _ _=>k b u q,fun b u q _ _ _=>⟨u.slots,k b u q⟩,fun b u q n _=>by rw [out b (Heap.lt_size q)]; exact n,fun b u q _=>⟨u,k b u q⟩,fun b xs q=>by rw [out b (I.hok.lt q)]; exact q,fun b u xs q=>by rw [out b (I.hok.lt q)]; exact q,
  fun b ps q=>⟨#[],by rw [out b (I.hok.lt q),q]; simp⟩⟩ fun b u e=>?_
 by_cases hb:∃ r∈rs,r.1=b
 ·obtain ⟨r,hr,rfl⟩:=hb
  rw [pH nd hr] at e
  cases e
  exact new r hr
 ·rw [iG fun r hr z=>hb ⟨r,hr,z⟩] at e
  exact (I.hok b u e).stay (fun c v _ q=>k c v q) (fun c q=>by rw [out c (I.hok.lt q)]; exact q) fun c xs q=>by rw [out c (I.hok.lt q)]; exact q
theorem fG (hc:X.calm=true):bM X (.builtin "sorted") (fun xs H Q=>∃ (v d:Addr) (m:List (Str×V)),xs=[.ref v]/\H v=some (cS v d)/\H d=some (.dK (m.map fun p=>((Sum.inr p.1:Key),p.2)))/\m.length < 64 /\
  ∀ (H':Hp) (l:Addr) (qs:List TK),aq H H'->H l=none->(∀ r∈qs,H' r.1=some (.tup (.str r.2.1 :: r.2.2))/\H r.1=none)->H' l=some (.lst (qs.map fun r=>V.ref r.1))->(qs.map (·.2)).Perm (m.map fun p=>(p.1,[p.2]))->qs.Pairwise tw->Q (.ref l) H'):=by
 intro pins s σ H xs us Q I r h
 obtain ⟨v,d,m,rfl,hv,hd,h64,q⟩:=h
 obtain ⟨u,rfl,ru⟩:=cC r
 cases ru
 obtain ⟨vw,_,_⟩:=(show aU X.prog X.w H s.heap v (cS v d) from I.hok v _ hv)
 obtain ⟨z,hdm,vs,rel,dd⟩:=sO I.hok hd
 have hvl:vs.length=m.length:=by have:=rel.length; rw [List.length_map] at this; exact this.symm
 obtain ⟨ep,da⟩:=dd.dictAt
 have ndk:(vs.map (·.1)).Nodup:=by obtain ⟨_,_,_,_,_,_,_,nd⟩:=da; exact nd
 refine Calls.call_function_entry kind_sorted plain_sorted entry_sorted (args_sorted1 _) ?_
 unfold Builtin.«sorted»
 refine wpAny_bind (m:=checkCount "sorted" 1 1 _) (wpAny_pure (wpAny_bind (kdx_collect (A:=X.A.in1) (knd:=aF X.prog X.w) (kvs:=vs) (ep:=ep) (I.ok.hd hc) vw da (by rw [<- rel.length]; exact z) fun h' tk as hk hl hG=>?_)))
 have hlm:as.length=m.length:=by omega
 have e1:((as.zip m).map fun p=>((p.1,p.2.1,[p.2.2]):TK)).map (·.1)=as:=by
  rw [List.map_map]
  have:((fun x:TK=>x.1) ∘ fun p:Addr×Str×V=>((p.1,p.2.1,[p.2.2]):TK))=Prod.fst:=rfl
  rw [this,List.map_fst_zip (by omega)]
 have e2:((as.zip m).map fun p=>((p.1,p.2.1,[p.2.2]):TK)).map (·.2)=m.map fun p=>(p.1,[p.2]):=by
  rw [List.map_map]
  have:((fun x:TK=>x.2) ∘ fun p:Addr×Str×V=>((p.1,p.2.1,[p.2.2]):TK))=(fun p:Str×V=>(p.1,[p.2])) ∘ Prod.snd:=rfl
  rw [this,<- List.map_map,List.map_snd_zip (by omega)]
 have e3:((as.zip m).map fun p=>((p.1,p.2.1,[p.2.2]):TK)).map (fun r=>V.ref r.1)=as.map V.ref:=by
  have:(fun r:TK=>V.ref r.1)=V.ref ∘ (fun r:TK=>r.1):=rfl
  rw [this,<- List.map_map,e1]
 have pairs:∀ r∈(as.zip m).map fun p=>((p.1,p.2.1,[p.2.2]):TK),∃ (x:Str) (y:V) (u w':Value),r.2=(x,[y])/\aV (.str x) u/\aV y w'/\h'.get? r.1=some { cls:=.type "tuple",data:=.seq #[u,w'] }:=fun r hr=>by
  obtain ⟨⟨a,x,y⟩,hp,rfl⟩:=List.mem_map.mp hr
  obtain ⟨j,hj⟩:=List.getElem?_of_mem hp
  obtain ⟨ha,hm⟩:=List.getElem?_zip_eq_some.mp hj
  obtain ⟨key,k,w',g1,g2,g3⟩:=hG.pairs j a ha
  obtain ⟨y',hy,ry⟩:=rel.at g1
  rw [List.getElem?_map,hm] at hy
  have hy':((Sum.inr x:Key),y)=(k,y'):=Option.some.inj hy
  injection hy' with k1 k2
  subst k1 k2
  exact ⟨x,y,key,w',rfl,rL g2,ry,g3⟩
 generalize hrs:(as.zip m).map (fun p=>((p.1,p.2.1,[p.2.2]):TK))=rs at e1 e2 e3 pairs
 have lrs:rs.length=m.length:=by rw [<- hrs,List.length_map,List.length_zip]; omega
 have nda:(rs.map (·.1)).Nodup:=by rw [e1]; exact hG.rise.imp fun h=>Nat.ne_of_lt h
 have above:∀ r∈rs,s.heap.objs.size<=r.1:=fun r hr=>Nat.le_of_lt (hG.above r.1 (by rw [<- e1]; exact List.mem_map_of_mem hr))
 have tup:∀ (Hx:Hp) (r:TK),r∈rs->aU X.prog X.w Hx h' r.1 (.tup (.str r.2.1 :: r.2.2)):=fun Hx r hr=>by
  obtain ⟨x,y,u,w',er,r1,r2,g⟩:=pairs r hr
  rw [er]
  exact ⟨by show 2<=sizeLine; rw [sizeLine_eq]; decide,[u,w'],.cons r1 (.cons r2 .nil),⟨_,g,rfl,0,rfl⟩,⟨_,g,rfl⟩⟩
 have I1:Inv X pins σ (lays H rs) { s with heap:=h',toks:=tk }:=I.lays hk nda above fun r hr=>tup _ r hr
 have s1:aq H (lays H rs):=fun b o e=>by
  have ho:∀ r∈rs,r.1≠b:=fun r hr z'=>by
   have h1:=above r hr
   rw [z'] at h1
   exact absurd (I.hok.lt e) (Nat.not_lt.mpr h1)
  rw [iG ho]; exact e
 refine wpAny_bind (wpAny_newList ?_ (by rw [List.length_map,hlm,sizeLine_eq]; omega))
 have rvals:aP (rs.map fun r=>V.ref r.1) (as.map Value.ref):=by
  have:=gJ rs
  have e4:rs.map (fun p=>Value.ref p.1)=as.map Value.ref:=by
   rw [<- e1,List.map_map]; rfl
  rwa [e4] at this
 have I2:=I1.lnew (t':=tk) (its:=as.map Value.ref) rvals (by rw [List.length_map,lrs,sizeLine_eq]; omega)
 have fr:lays H rs h'.objs.size=none:=I1.fresh
 have s2:aq (lays H rs) (upd (lays H rs) h'.objs.size (.lst (rs.map fun r=>V.ref r.1))):=ak fr _
 have inr:∀ r∈rs,lays H rs r.1=some (.tup (.str r.2.1 :: r.2.2)):=fun r hr=>pH nda hr
 have hnone:H h'.objs.size=none:=by
  cases e:H h'.objs.size with
  | none=>rfl
  | some o=>have:=s1 _ _ e; rw [fr] at this; cases this
 have nd2:(rs.map (·.2.1)).Nodup:=by
  have e5:rs.map (·.2.1)=m.map (·.1):=by
   have:=congrArg (List.map Prod.fst) e2
   simpa [List.map_map,Function.comp_def] using this
  have e6:(m.map (·.1)).map (Sum.inr:Str->Key)=vs.map (·.1):=by
   rw [<- rel.keys,List.map_map,List.map_map]; rfl
  rw [e5]
  rw [<- e6] at ndk
  rw [List.Nodup,List.pairwise_map] at ndk
  exact ndk.imp fun h e=>h (by rw [e])
 refine wpAny_bind (wpAny_holding (sV (A:=X.A.in1) (l:=h'.objs.size) (ps:=rs) I2 af (fun r hr=>s2 _ _ (inr r hr)) nd2 (by omega) fun qs h2 pq pw I3=>?_))
 refine wpAny_pure ⟨_,rfl,.ref h'.objs.size,_,I3,rfl,q _ _ qs (fun b o e=>?_) hnone (fun r hr=>⟨?_,I.hok.fresh (above r (pq.mem_iff.mp hr))⟩) af (by rw [<- e2]; exact pq.map _) pw⟩
 ·have:=s2 _ _ (s1 _ _ e)
  rw [aI (fun z'=>by rw [z',hnone] at e; cases e)]
  exact this
 ·have hm:=pq.mem_iff.mp hr
  rw [aI (am (inr r hm) fr)]
  exact s2 _ _ (inr r hm)
end
open PySem PySem.Spec PyProof.Rows
section
variable {X:Cx} {pins:List (Addr×Obj)} {σ:St} {H:Hp} {s:Shared}
end
section
variable {X:Cx}
end
section
variable {P:Program} {w:World} {K:PySem.W.Frag} {mg:Str->Option Value} {base:Heap}
end
open PySem PySem.Spec PyProof.Rows PySem.W
section
variable {X:Cx} {e st:Expr} {te:TE} {ts:TO} {p2 pos:Pos}
end
section
variable {X:Cx}
theorem uV:OpR X (binaryOp .Mult) (rI IntMulOk fun i j=>.int (i * j)):=opI fun _ _ _ _ _ _ _ hc q=>mul_int q hc
theorem px {k:Int} {n:Nat} (h1:-(2 ^ n) < k) (h2:k < 2 ^ n):Builtin.Int.intBits k<=n:=by
 unfold Builtin.Int.intBits
 split
 ·exact Nat.zero_le _
 ·have hn:k.natAbs < 2 ^ n:=by
   have e:((2 ^ n:Nat):Int)=(2:Int) ^ n:=by simp
   omega
  have:k.natAbs.log2 < n:=by
   rcases Nat.eq_zero_or_pos k.natAbs with h0 | hp
   ·rename_i hne
    have:k=0:=Int.natAbs_eq_zero.mp h0
    simp [this] at hne
   ·exact (Nat.log2_lt (Nat.ne_of_gt hp)).mpr hn
  omega
theorem uE {i j:Int} (h1:-(2 ^ 1000) < i) (h2:i < 2 ^ 1000) (h3:-(2 ^ 1000) < j) (h4:j < 2 ^ 1000):IntMulOk i j:=by
 have a:=px h1 h2
 have b:=px h3 h4
 unfold IntMulOk Builtin.Int.intTooBig
 have e:decide (((Builtin.Int.intBits i + Builtin.Int.intBits j:Nat):Int) > (bitsLine:Int))=false:=decide_eq_false (by
  have:(bitsLine:Int)=134217728:=by decide +kernel
  omega)
 simp only [Int.natCast_add] at e
 rw [e]
 simp
end
theorem nM (t:SetTable) (n:Nat):(t.orStandIn n).led=t.led/\((t.orStandIn n).plain=true->t.plain=true):=by
 unfold SetTable.orStandIn
 split
 ·exact ⟨rfl,fun h=>h⟩
 ·exact ⟨rfl,fun h=>by cases h⟩
theorem vb (t:SetTable) (es:Array (Int×Value)) (h:Int) (x:Value):(layNew t es h x).2.1.led=t.led/\((layNew t es h x).2.1.plain=true->t.plain=true):=by
 unfold layNew
 split
 ·rename_i slot wd _
  obtain ⟨a,b⟩:=nM (t.put slot).1 (SetTable.insertAt es (t.put slot).2 (h,x)).size
  exact ⟨a,b⟩
 ·exact ⟨rfl,fun h=>by cases h⟩
theorem oG {t t':SetTable} {hs:Array Int} {n:Nat} {o:Array Nat} (h:t.relaid hs n=some (t',o)):t'.led=t.led/\t'.plain=t.plain:=by
 unfold SetTable.relaid SetTable.laid at h
 cases e:SetTable.layClean (SetTable.sizeAbove n - 1) hs with
 | none=>rw [e] at h; cases h
 | some ow=>
  rw [e] at h
  have h2:=Option.some.inj h
  injection h2 with h3 h4
  subst h3
  exact ⟨rfl,rfl⟩
theorem rj (t:SetTable) (es:Array (Int×Value)) (n:Nat):(relayAll t es n).2.1.led=t.led/\((relayAll t es n).2.1.plain=true->t.plain=true):=by
 unfold relayAll
 split
 ·rename_i t' o h
  obtain ⟨a,b⟩:=oG h
  dsimp only
  split
  ·exact ⟨a,fun z=>by rw [<- b]; exact z⟩
  ·exact ⟨rfl,fun z=>by cases z⟩
 ·exact ⟨rfl,fun z=>by cases z⟩
def dS (e:Int×Value):Str:=match e.2 with | .str x _=>x | _=>default
def dC (P:Program) (w:World) (h:Heap) (a:Addr) (xs:List Str):Prop:=
 ∃ o es ep t,h.get? a=some o/\o.ExactSet/\o.data=.set es ep t/\ElemsOf (PySem.strKind P w) es.toList/\es.size < scanBound/\t.fits es.size=true/\t.led=(!w.params.followText "set-order")/\(t.plain=true->es.size=0)/\(es.toList.map dS).Perm xs
section
variable {P:Program} {w:World} {A:Around} {E:Value->Shared->Prop} {s:Shared}
theorem gB {y:Str} {e:Int×Value} (h:(PySem.strKind P w).is y e.2=true):dS e=y:=by
 obtain ⟨t,ht⟩:=Value.isStrOf_shape h
 unfold dS
 rw [ht]
theorem qr {e:Int×Value} (h:∃ k,(PySem.strKind P w).is k e.2=true):(PySem.strKind P w).is (dS e) e.2=true:=by
 obtain ⟨k,hk⟩:=h
 rw [gB hk]; exact hk
theorem dC.put {h:Heap} {a:Addr} {o:Obj} {es es':Array (Int×Value)} {ep:Nat} {t t':SetTable} {xs:List Str} (ho:h.get? a=some o) (hex:o.ExactSet) (hd:o.data=.set es ep t) (hel:ElemsOf (PySem.strKind P w) es'.toList)
  (hb:es'.size < scanBound) (hf:t'.fits es'.size=true) (hl:t'.led=(!w.params.followText "set-order")) (hp:t'.plain=true->es'.size=0) (hx:(es'.toList.map dS).Perm xs) :
  (h.update a (Obj.putSet es' t')).get? a=some { o with data:=.set es' (ep + 1) t' }/\dC P w (h.update a (Obj.putSet es' t')) a xs:=by
 have hg:(h.update a (Obj.putSet es' t')).get? a=some { o with data:=.set es' (ep + 1) t' }:=by
  have:=Heap.get?_update_self (Obj.putSet es' t') ho (by rw [putSet_of es' t' hd]; rfl)
  rw [putSet_of es' t' hd] at this; exact this
 exact ⟨hg,_,es',ep + 1,t',hg,hex,rfl,hel,hb,hf,hl,hp,hx⟩
theorem nt {g:Bool->Sem Unit} (hg:∀ (b:Bool) (s₁:Shared) (Q':Unit->Shared->Prop),Q' () s₁->wpAny (model P w) A (g b) Q' E s₁) {a:Addr} {o:Obj} {es es1:Array (Int×Value)} {ep:Nat} {t t2:SetTable} {xs:List Str} {wd:Bool} {R:Option Bool->Shared->Prop}
  (ho:s.heap.get? a=some o) (hex:o.ExactSet) (hd:o.data=.set es ep t) (hel:ElemsOf (PySem.strKind P w) es1.toList) (hb:es1.size < scanBound) (hf:t2.fits es1.size=true) (hl:t2.led=(!w.params.followText "set-order")) (hp:t2.plain=false) (hx:(es1.toList.map dS).Perm xs)
  (h:∀ h',Heap.SameBut a s.heap h'->dC P w h' a xs->R (some true) { s with heap:=h' }) :
  wpAny (model P w) A (do
    storeSet a es1 t2
    if (!wd && t2.tooFull) = true then do
        g (relayAll t2 es1 (SetTable.grown es1.size)).2.2
        storeSet a (relayAll t2 es1 (SetTable.grown es1.size)).1 (relayAll t2 es1 (SetTable.grown es1.size)).2.1
        pure (some true)
     else pure (some true)) R E s:=by
 refine wpAny_bind (wpAny_storeSet_of ho hd ?_ (fits_of_scanBound hb))
 obtain ⟨ho1,hS1⟩:=dC.put (P:=P) (w:=w) ho hex hd hel hb hf hl (fun z=>by rw [hp] at z; cases z) hx
 have sb1:=Heap.SameBut.update s.heap a (Obj.putSet es1 t2)
 split
 ·have pm:=relayAll_perm t2 es1 (SetTable.grown es1.size)
  have ft:=relayAll_fits t2 es1 (SetTable.grown es1.size)
  have ld:=rj t2 es1 (SetTable.grown es1.size)
  generalize relayAll t2 es1 (SetTable.grown es1.size)=Rl at pm ft ld ⊢
  obtain ⟨es2,t3,gave⟩:=Rl
  dsimp only at pm ft ld ⊢
  have sz:es2.size=es1.size:=by rw [<- Array.length_toList,pm.length_eq,Array.length_toList]
  refine wpAny_bind (hg _ _ _ (wpAny_bind (wpAny_storeSet_of ho1 rfl ?_ (fits_of_scanBound (by rw [sz]; exact hb)))))
  obtain ⟨_,hS2⟩:=dC.put (P:=P) (w:=w) (xs:=xs) ho1 hex rfl (hel.perm pm) (by rw [sz]; exact hb) ft (by rw [ld.1]; exact hl) (fun z=>by have:=ld.2 z; rw [hp] at this; cases this) ((pm.map _).trans hx)
  exact wpAny_pure (h _ (sb1.trans (Heap.SameBut.update _ a _)) hS2)
 ·exact wpAny_pure (h _ sb1 hS1)
theorem lT {a:Addr} {xs:List Str} {y:Str} {tk:Tok} {Q:Bool->Shared->Prop} (hS:dC P w s.heap a xs) (hlen:xs.length + 1 < scanBound)
  (h:∀ h' b,Heap.SameBut a s.heap h'->dC P w h' a (if y∈xs then xs else xs ++ [y])->Q b { s with heap:=h' }):wpAny (model P w) A (setAddHashed a (.str y tk) ((PySem.strKind P w).hash y)) Q E s:=by
 obtain ⟨o,es,ep,t,ho,hex,hd,hel,hb,hf,hl,hpl,hx⟩:=hS
 have hkey:(PySem.strKind P w).is y (.str y tk)=true:=strKind_is _ _ _ _
 have hsc:(Value.str y tk).scannable=true:=rfl
 have sz:es.size=xs.length:=by rw [<- hx.length_eq,List.length_map,Array.length_toList]
 unfold setAddHashed setAddHashedIn
 refine wpAny_holding (wpAny_bind (wpAny_setState_of ho hd hf ?_))
 dsimp only
 rw [byScan_of hsc hb hel]
 simp only [↓reduceIte]
 unfold setAddByScan
 refine wpAny_bind (wpAny_bind (wpAny_rule (wpAny_bind (wpAny_setScan_of hkey ho hd hf hel ?_))))
 cases hr:List.findIdx? (fun e=>(PySem.strKind P w).is y e.2) es.toList with
 | some j=>
  dsimp only
  obtain ⟨hj,hpj,_⟩:=List.findIdx?_eq_some_iff_getElem.mp hr
  have hy:y∈xs:=hx.mem_iff.mp (List.mem_map.mpr ⟨es.toList[j],List.getElem_mem hj,gB hpj⟩)
  have e:s={ s with heap:=s.heap }:=by cases s; rfl
  have q:=h s.heap false (Heap.SameBut.refl a s.heap) (by rw [if_pos hy]; exact ⟨o,es,ep,t,ho,hex,hd,hel,hb,hf,hl,hpl,hx⟩)
  rw [<- e] at q
  exact wpAny_pure (wpAny_pure q)
 | none=>
  dsimp only
  have hy:y∉xs:=fun z=>by
   obtain ⟨e,he,e1⟩:=List.mem_map.mp (hx.mem_iff.mpr z)
   have:=List.findIdx?_eq_none_iff.mp hr e he
   rw [<- e1,qr (hel.keys e he)] at this
   cases this
  rw [if_neg hy] at h
  have hgw:∀ (b:Bool) {s₁:Shared} {Q':Unit->Shared->Prop},Q' () s₁->wpAny (model P w) A (match b with | true=>rule "set.scan.the-table-gave-way" | false=>pure ()) Q' E s₁:=
   fun b s₁ Q' hq=>by cases b <;> first | exact wpAny_pure hq | exact wpAny_rule hq
  have pm:=layNew_perm t es ((PySem.strKind P w).hash y) (.str y tk)
  have ft:=layNew_fits t es ((PySem.strKind P w).hash y) (.str y tk)
  have ld:=vb t es ((PySem.strKind P w).hash y) (.str y tk)
  generalize layNew t es ((PySem.strKind P w).hash y) (.str y tk)=L at pm ft ld ⊢
  obtain ⟨es1,t1,wd,gave⟩:=L
  dsimp only at pm ft ld ⊢
  rw [Array.toList_push] at pm
  have hel1:ElemsOf (PySem.strKind P w) es1.toList:=(hel.push hkey hsc).perm pm
  have sz1:es1.size=es.size + 1:=by rw [<- Array.length_toList,pm.length_eq,List.length_append,Array.length_toList]; rfl
  have hb1:es1.size < scanBound:=by rw [sz1,sz]; exact hlen
  have hx1:(es1.toList.map dS).Perm (xs ++ [y]):=by
   refine (pm.map dS).trans ?_
   rw [List.map_append]
   exact hx.append (List.Perm.refl _)
  refine wpAny_bind (hgw _ ?_)
  split
  ·refine wpAny_bind ?_
   rw [hashByValue_scannable 8 hsc]
   refine wpAny_pure ?_
   refine nt ?_ ho hex hd hel1 hb1 (t2:={ t1 with plain:=false }) (SetTable.fits_plain_off ft) (by rw [<- hl]; exact ld.1) rfl hx1 ?_
   ·intro b s₁ Q' hq; cases b <;> first | exact wpAny_pure hq | exact wpAny_rule hq
   ·intro h' sb hS'; dsimp only; exact wpAny_pure (h h' true sb hS')
  ·rename_i hnp
   refine wpAny_bind (wpAny_pure ?_)
   simp only [↓reduceIte]
   refine nt ?_ ho hex hd hel1 hb1 ft (by rw [<- hl]; exact ld.1) (by cases z:t1.plain with | false=>rfl | true=>exact absurd z hnp) hx1 ?_
   ·intro b s₁ Q' hq; cases b <;> first | exact wpAny_pure hq | exact wpAny_rule hq
   ·intro h' sb hS'; dsimp only; exact wpAny_pure (h h' true sb hS')
end
def ni (acc:List Str) (y:Str):List Str:=if y∈acc then acc else acc ++ [y]
def uq (val:Nat->Str) (i:Nat):List Str:=((List.range i).map val).foldl ni []
theorem gY (val:Nat->Str) (i:Nat):uq val (i + 1)=ni (uq val i) (val i):=by
 unfold uq
 rw [List.range_succ,List.map_append,List.foldl_append]
 rfl
theorem kK (val:Nat->Str):∀ i,(uq val i).length<=i
 | 0=>Nat.le_refl _
 | i + 1=>by
  have ih:=kK val i
  rw [gY]
  unfold ni
  split
  ·omega
  ·rw [List.length_append,List.length_singleton]; omega
theorem gf (val:Nat->Str):∀ i,(uq val i).Nodup
 | 0=>List.nodup_nil
 | i + 1=>by
  rw [gY]
  unfold ni
  split
  ·exact gf val i
  ·rename_i h
   exact List.nodup_append.mpr ⟨gf val i,by simp,fun a ha b hb e=>h (by rw [List.mem_singleton.mp hb] at e; rw [<- e]; exact ha)⟩
theorem oH (val:Nat->Str) (x:Str):∀ i,x∈uq val i↔∃ j,j < i/\val j=x
 | 0=>⟨(fun h=>nomatch h),(fun ⟨j,h,_⟩=>absurd h (Nat.not_lt_zero _))⟩
 | i + 1=>by
  rw [gY]
  unfold ni
  have ih:=oH val x i
  constructor
  ·intro h
   split at h
   ·obtain ⟨j,hj,e⟩:=ih.mp h
    exact ⟨j,by omega,e⟩
   ·rcases List.mem_append.mp h with h | h
    ·obtain ⟨j,hj,e⟩:=ih.mp h
     exact ⟨j,by omega,e⟩
    ·exact ⟨i,by omega,(List.mem_singleton.mp h).symm⟩
  ·rintro ⟨j,hj,e⟩
   split
   ·rename_i h
    by_cases hji:j=i
    ·rw [<- e,hji]; exact h
    ·exact ih.mpr ⟨j,by omega,e⟩
   ·by_cases hji:j=i
    ·rw [<- e,hji]; exact List.mem_append_right _ (List.mem_singleton.mpr rfl)
    ·exact List.mem_append_left _ (ih.mpr ⟨j,by omega,e⟩)
section
variable {P:Program} {w:World} {A:Around} {R:Result->Shared->Prop} {I:Addr} {fp wr:List Addr} {G:Array GenState->Array GenState->Prop} {n:Nat} {Pv:Nat->Value->Prop} {St:Nat->Shared->Prop}
theorem dC.at' {h h':Heap} {a:Addr} {xs:List Str} (x:dC P w h a xs) (k:∀ o,h.get? a=some o->h'.get? a=some o):dC P w h' a xs:=let ⟨o,es,ep,t,ho,r⟩:=x; ⟨o,es,ep,t,k o ho,r⟩
theorem sJ (W:WalksS P w A.in1 I fp wr G n Pv St) (S:Addr) (hSf:S∉fp) (val:Nat->Str) (hval:∀ i v,Pv i v->∃ t,v=.str (val i) t) (hb:n + 1 < scanBound) :
  ∀ (k i:Nat) (s:Shared),n - i=k->i<=n->St i s->dC P w s.heap S (uq val i)->(∀ s',Moved (S :: wr) G s s'->dC P w s'.heap S (uq val n)->R (.ok (.ret .none)) s') ->
   codeAny (model P w) A (.builtin "set.update.loop" ⟨[.ref S,.ref I],[]⟩) R s:=by
 have hSw:S∉wr:=fun h=>hSf (W.sub _ h)
 have more:∀ b∈wr,b∈S :: wr:=fun b hb=>List.mem_cons_of_mem _ hb
 intro k
 induction k with
 | zero=>
  intro i s hk hi st hS fin
  obtain rfl:i=n:=by omega
  refine codeAny_builtin F.entry_set_update_loop ?_
  rw [Around.under_plainId F.plain_set_update_loop _]
  show wpAny _ A.in1 (pyNext (.ref I) >>= _) _ _ s
  refine wpAny_bind (W.done s _ _ st fun s' hm=>?_)
  show wpAny _ A.in1 (ret Value.none) _ _ s'
  exact wpAny_pure (fin s' (hm.mono more) (hS.at' fun o e=>hm.heap S _ hSw e))
 | succ k ih=>
  intro i s hk hi st hS fin
  have hlt:i < n:=by omega
  refine codeAny_builtin F.entry_set_update_loop ?_
  rw [Around.under_plainId F.plain_set_update_loop _]
  show wpAny _ A.in1 (pyNext (.ref I) >>= _) _ _ s
  refine wpAny_bind (W.item i s _ _ hlt st fun v s' hP st' hm=>?_)
  obtain ⟨t,rfl⟩:=hval i v hP
  have hS':dC P w s'.heap S (uq val i):=hS.at' fun o e=>hm.heap S _ hSw e
  show wpAny _ A.in1 (holding [Value.str (val i) t] (setAdd S (.str (val i) t)) >>= _) _ _ s'
  refine wpAny_bind (wpAny_holding ?_)
  unfold setAdd
  refine wpAny_holding (wpAny_bind ((PySem.strKind P w).pyHash (k:=val i) (strKind_is _ _ _ _) ?_))
  have room:(uq val i).length + 1 < scanBound:=by have:=kK val i; omega
  refine lT (s:={ s' with toks:=s'.toks + 1 }) hS' room fun h' b sb hS2=>?_
  have hSi:dC P w h' S (uq val (i + 1)):=by rw [gY]; exact hS2
  refine wpAny_pure ⟨plainId_quiet F.plain_set_update_loop _,ih (i + 1) _ (by omega) hlt (W.frame _ s' _ _ st' (Nat.le_succ _) fun b hb o e=>?_) hSi fun s'' hm'' hS''=>?_⟩
  ·rw [sb.2 b (fun h:b=S=>hSf (by rw [<- h]; exact hb))]; exact e
  ·refine fin s'' (Moved.trans W.gtrans ((hm.mono more).then_heap (Nat.le_succ _) fun b o hb e=>?_) hm'') hS''
   rw [sb.2 b (fun h:b=S=>hb (by rw [h]; exact List.mem_cons_self))]; exact e
end
def bd (w:World):Obj:={ cls:=.type "set",dict:=none,data:=.set #[] 0 (.fresh 0 0 (!w.params.followText "set-order")) }
section
variable {P:Program} {w:World} {A:Around} {E:Value->Shared->Prop} {s:Shared}
theorem ff (a:Value) {Q₁:Value->Shared->Prop} (h:Q₁ (.ref s.heap.objs.size) { s with heap:=s.heap.push (bd w) }) :
  codeAny (model P w) A (.call (.builtin "set.__new__") ⟨[.type "set",a],[]⟩) (wants Q₁ E) s:=by
 refine codeAny_of_tree ?_
 show wpAny _ A.in1 (do checkBuiltinCall "set.__new__" ⟨[.type "set",a],[]⟩; again (.builtin "set.__new__" ⟨[.type "set",a],[]⟩)) _ _ s
 refine wpAny_bind (wpAny_of_eq (PySem.F.newCall_set_1 a) (wpAny_pure ⟨plainId_quiet PySem.F.plain_set_new _,codeAny_builtin PySem.F.entry_set_new ?_⟩))
 rw [Around.under_plainId PySem.F.plain_set_new _]
 unfold Builtin.«set.__new__» Builtin.Frozenset.newClass
 have hsub:=sub_set_self
 obtain ⟨hp,g,d,tk,os⟩:=s
 dsimp only
 wp_walk
 refine wpAny_askSetting (wpAny_pure ?_)
 dsimp only
 simp only [newObj]
 refine wpAny_bind (wpAny_alloc (wpAny_pure ?_))
 exact wpAny_pure h
theorem oI (h:Heap):dC P w (h.push (bd w)) h.objs.size []:=
 ⟨_,#[],0,_,Heap.get?_push_size _ rfl,⟨rfl,rfl,rfl⟩,rfl,fun e he=>by simp at he,by decide,rfl,rfl,fun _=>rfl,List.Perm.refl _⟩
theorem iZ {l:Addr} {items:Array Value} {ys:List Str} {Q:Value->Shared->Prop} (hh:A.handled=none) (hl:s.heap.IsList l items) (hi:∀ (i:Nat) (v:Value),items[i]?=some v->∃ t,v=.str (ys.getD i default) t) (hb:items.size + 1 < scanBound)
  (h:∀ (h':Heap) (tk:Nat),dC P w h' s.heap.objs.size (uq (fun i=>ys.getD i default) items.size)->(∀ b o,b < s.heap.objs.size->s.heap.get? b=some o->h'.get? b=some o)->Q (.ref s.heap.objs.size) { s with heap:=h',toks:=tk }) :
  wpAny (model P w) A (call (.type "set") [.ref l]) Q E s:=by
 obtain ⟨c,tl,hmro⟩:=PySem.F.called_set.mro
 have hmade:=PySem.F.called_set.made
 have hsub:=PySem.F.called_set.sub
 refine wpAny_call (codeAny_of_tree ?_)
 show wpAny _ _ (callAny (.type "set") _) _ _ _
 refine wpAny_pure ⟨Code.quiet_builtin _ (by decide +kernel),codeAny_builtin PySem.F.entry_type_call ?_⟩
 rw [Around.under_plain (weight_type_call_type "set" [.ref l] []) rfl]
 have h1:=PySem.F.called_set.notType
 have h2:=PySem.F.called_set.canCreate
 have hct:=PySem.F.typeCall_set_1 (.ref l)
 repeat (any_goals (first | assumption | wp_step))
 refine codeAny_mono (ff (.ref l) (E:=E) (Q₁:=fun obj s₁=>obj=.ref s.heap.objs.size/\s₁={ s with heap:=s.heap.push (bd w) }) ⟨rfl,rfl⟩) fun r s₁ hr=>?_
 cases r with
 | error e=>exact hr
 | ok fl=>
  cases fl with
  | ret obj=>
   obtain ⟨rfl,rfl⟩:=hr
   have hS:(s.heap.push (bd w)).get? s.heap.objs.size=some (bd w):=Heap.get?_push_size _ rfl
   have hT:Shared.TypeIs { s with heap:=s.heap.push (bd w) } (.ref s.heap.objs.size) "set":=⟨_,hS,rfl⟩
   have hli:=PySem.F.called_set.init.lookup
   have hbi:=PySem.F.called_set.init.bind (.ref s.heap.objs.size)
   repeat (any_goals (first | assumption | wp_step))
   refine codeAny_mono (codeAny_call_builtin (R:=wants (fun r s₂=>r=.none/\∃ h' tk,s₂={ s with heap:=h',toks:=tk }/\dC P w h' s.heap.objs.size (uq (fun i=>ys.getD i default) items.size)/\(∀ b o,b < s.heap.objs.size->s.heap.get? b=some o->h'.get? b=some o)) E)
    PySem.F.called_set.init.plain PySem.F.entry_set_init (check_set_init_1 hT ?_)) fun r₂ s₂ hr₂=>?_
   ·obtain ⟨ol,hol,hcl,nl,hdl⟩:=hl
    obtain ⟨ocls,odict,odata,oslots⟩:=ol
    simp only at hcl hdl
    subst hcl; subst hdl
    have hol':(s.heap.push (bd w)).get? l=some { cls:=.type "list",dict:=odict,data:=.seq items nl,slots:=oslots }:=Heap.get?_push_of_some _ hol
    have hsls:=PySem.F.sub_list_set
    have hslf:=PySem.F.sub_list_frozenset
    have hne:(Value.type "list" == Value.type "dict")=false:=by decide
    have hl1:(s.heap.push (bd w)).IsList l items:=⟨_,hol',rfl,nl,rfl⟩
    unfold bd at hS hT hol' hl1 ⊢
    unfold Builtin.«set.__init__» noKeywords Builtin.Frozenset.updateFrom
    generalize hPI:pyIter=PI
    wp_walk
    subst hPI
    refine wpAny_pyIter_list hl1 ?_
    refine wpAny_bind (wpAny_runValue ?_)
    have hlS:l < s.heap.objs.size:=Heap.lt_size hol
    have hh3:A.in1.in1.in1.handled=none:=by simp [hh]
    have hneI:l≠(s.heap.push (bd w)).objs.size:=by
     rw [Heap.size_push]; exact Nat.ne_of_lt (Nat.lt_succ_of_lt hlS)
    have hSf:s.heap.objs.size∉[(s.heap.push (bd w)).objs.size,l]:=by
     rw [Heap.size_push]; simp only [List.mem_cons,List.mem_singleton,List.not_mem_nil,or_false,not_or]
     exact ⟨Nat.ne_of_lt (Nat.lt_succ_self _),Nat.ne_of_gt hlS⟩
    refine sJ ((Walks.list hh3 _ l hneI items).toS) s.heap.objs.size hSf (fun i=>ys.getD i default) hi hb (items.size - 0) 0 _ (by omega) (Nat.zero_le _)
     ⟨⟨_,Heap.get?_push_size _ rfl,rfl,rfl⟩,(hl1.push _)⟩ ?hS0 ?hR
    case hS0=>exact (oI s.heap).at' fun o e=>Heap.get?_push_of_some _ e
    case hR=>
     intro s' hm hS'
     obtain ⟨h',g',d',tk',os'⟩:=s'
     have eg:g'=s.gens:=hm.gens
     have ed:d'=s.drawn:=hm.drawn
     have eo:os'=s.os:=hm.os
     subst eg; subst ed; subst eo
     show wpAny _ _ _ _ _ _
     refine wpAny_pure ?_
     show wpAny _ _ (ret Value.none) _ _ _
     refine wpAny_pure ⟨rfl,h',tk',rfl,hS',fun b o hb e=>?_⟩
     have hb1:b≠s.heap.objs.size:=Nat.ne_of_lt hb
     have hb2:b≠(s.heap.push (bd w)).objs.size:=by
      rw [Heap.size_push]; exact Nat.ne_of_lt (Nat.lt_succ_of_lt hb)
     exact hm.heap b o (by simp only [List.mem_cons,List.mem_singleton,List.not_mem_nil,or_false,not_or]; exact ⟨hb1,hb2⟩) (Heap.get?_push_of_some _ (Heap.get?_push_of_some _ e))
   ·cases r₂ with
    | error e=>exact hr₂
    | ok fl₂=>
     cases fl₂ with
     | ret r=>
      obtain ⟨rfl,h',tk,rfl,hS',hk'⟩:=hr₂
      repeat (any_goals (first | assumption | wp_step))
      exact h _ _ hS' hk'
     | _=>exact hr₂.elim
  | _=>exact hr.elim
end
theorem jb:entryFor table "set.__iter__"=some Builtin.«frozenset.__iter__»:=entryFor_alias (id':="frozenset.__iter__") (by kernel_rfl) rfl (by decide +kernel) (by kernel_rfl)
theorem bN:Slot "set_iterator" "__next__" "set_iterator.__next__":=.of (owner:="set_iterator") (n:="__next__") (by rw [typeLookup_type,builtinLookup_eq_fast]; kernel_rfl) (by decide +kernel) (by decide +kernel) (by decide +kernel) (by first | exact .inl (by decide +kernel) | exact .inr (by decide +kernel)) (by rw [isSubtype_type]; kernel_rfl)
theorem eM:entryFor table "set_iterator.__next__"=some Builtin.«set_iterator.__next__»:=entryFor_of_tree (by kernel_rfl)
theorem fO (a:Value):argsOk "set_iterator.__next__" ⟨[a],[]⟩:=by
 unfold argsOk; kernel_rfl
theorem fu {α:Type}:∀ (l:List α) (i:Nat) (h:i < l.length),(l[i] :: l.eraseIdx i).Perm l
 | a :: l,0,_=>.refl _
 | a :: l,i + 1,h=>by
  have:=fu l i (by simpa using h)
  rw [List.eraseIdx_cons_succ,List.getElem_cons_succ]
  exact (List.Perm.swap _ _ _).trans (this.cons a)
section
variable {P:Program} {w:World} {A:Around} {E:Value->Shared->Prop}
theorem nN {s:Shared} {n:Nat} {Q:Nat->Shared->Prop} (h0:n≠0) (h:∀ i d,i < n->Q i { s with drawn:=d }):wpAny (model P w) A (choose .order n) Q E s:=fun Γ p hΓ=>by
 unfold choose
 rw [Sem.wp_choose]
 exact ⟨h0,h _ _ (Nat.mod_lt _ (Nat.pos_of_ne_zero h0))⟩
theorem rV {α:Type} (n:Nat):∀ (xs:List α) (s:Shared) {Q:List α->Shared->Prop},xs.length=n->(∀ ys d,ys.Perm xs->Q ys { s with drawn:=d })->wpAny (model P w) A (drawOrder n xs) Q E s:=by
 induction n with
 | zero=>
  intro xs s Q hl h
  rw [List.eq_nil_of_length_eq_zero hl] at h ⊢
  unfold drawOrder
  exact wpAny_pure (h [] s.drawn (.refl _))
 | succ n ih=>
  intro xs s Q hl h
  cases xs with
  | nil=>cases hl
  | cons x xs=>
   unfold drawOrder
   refine wpAny_bind (nN (by simp) fun i d hi=>?_)
   rw [List.getElem?_eq_getElem hi]
   dsimp only
   refine wpAny_bind (ih ((x :: xs).eraseIdx i) _ (by rw [List.length_eraseIdx_of_lt hi]; simpa using hl) fun ys d' hp=>?_)
   exact wpAny_pure (h _ d' ((hp.cons _).trans (fu _ i hi)))
theorem qh {α:Type} (next:Nat->Nat):∀ (n k:Nat) (left:List α) (out:Array α),left.length=n->(pickOrder.go next n k left out).toList.Perm (out.toList ++ left)
 | 0,k,left,out,h=>by
  rw [List.eq_nil_of_length_eq_zero h,List.append_nil]
  exact .refl _
 | n + 1,k,left,out,h=>by
  have hi:next k % left.length < left.length:=Nat.mod_lt _ (by omega)
  unfold pickOrder.go
  rw [List.getElem?_eq_getElem hi]
  dsimp only
  refine (qh next n (k + 1) _ _ (by rw [List.length_eraseIdx_of_lt hi]; omega)).trans ?_
  rw [Array.toList_push,List.append_assoc]
  exact List.Perm.append_left _ (fu left _ hi)
theorem oo {α:Type} (next:Nat->Nat) (xs:Array α):(pickOrder next xs).toList.Perm xs.toList:=by
 have:=qh next xs.size 0 xs.toList #[] (by simp)
 simpa [pickOrder] using this
abbrev SIt (h:Heap) (it S:Addr) (first:Value) (i n ep:Nat):Prop:=h.get? it=some { cls:=.type "set_iterator",dict:=none,data:=.fields #[first,.int i 0,.ref S,.int n 0,.int ep 0],slots:=#[] }
variable {s:Shared} {it S:Addr} {o:Obj} {es:Array (Int×Value)} {ep n i:Nat} {t:SetTable}
theorem mZ {slot slot':Nat} {x:Value} {Q:Option Value->Shared->Prop} (hit:SIt s.heap it S (rawInt slot) i n ep) (ho:s.heap.get? S=some o) (hd:o.data=.set es ep t) (hf:t.fits es.size=true) (hn:es.size=n)
  (hnext:∀ (A:Around) (E:Value->Shared->Prop) (Q':Option (Value×Nat)->Shared->Prop),Q' (some (x,slot')) s->wpAny (model P w) A (setNext S slot i ep) Q' E s)
  (hQ:∀ h',SIt h' it S (rawInt slot') (i + 1) n ep->Heap.SameBut it s.heap h'->Q (some x) { s with heap:=h' }):wpAny (model P w) A (pyNext (.ref it)) Q E s:=by
 have hT:s.TypeIs (.ref it) "set_iterator":=⟨_,hit,rfl⟩
 unfold pyNext
 refine wpAny_bind (wpAny_attempt (wpAny_callSpecial?_slot (name:=Str.ofString "__next__") hT bN (wpAny_call_entry bN hT eM ?_ (fO _))))
 unfold Builtin.«set_iterator.__next__»
 refine wpAny_bind (wpAny_pure ?_)
 refine wpAny_bind (wpAny_fieldsOf hit rfl ?_)
 show wpAny _ _ (setEntries S >>= _) _ _ _
 refine wpAny_bind (wpAny_setEntries_of ho hd hf ?_)
 rw [if_neg (by rw [hn]; simp)]
 show wpAny _ _ (setNext S ((slot:Int).toNat) ((i:Int).toNat) ((ep:Int).toNat) >>= _) _ _ _
 rw [Int.toNat_natCast,Int.toNat_natCast,Int.toNat_natCast]
 refine wpAny_bind (hnext _ _ _ ?_)
 dsimp only
 refine wpAny_bind (wpAny_setField_rec hit (by simp) fun h1 e1 s1=>?_)
 refine wpAny_bind (wpAny_setField_rec e1 (by simp) fun h2 e2 s2=>?_)
 refine wpAny_pure ⟨_,rfl,wpAny_pure (hQ h2 ?_ (s1.trans s2))⟩
 have e:((i + 1:Nat):Int)=(i:Int) + 1:=by omega
 show h2.get? it=_
 rw [e]
 simpa [rawInt] using e2
end
section
variable {P:Program} {w:World} {A:Around} {E:Value->Shared->Prop} {s:Shared} {it S:Addr} {o:Obj} {es:Array (Int×Value)} {ep n i:Nat} {t:SetTable}
theorem nv {h0:Heap} {Q:Option Value->Shared->Prop} (hh:A.handled=none) (hQ:∀ h',(∀ b u,h0.get? b=some u->h'.get? b=some u)->Q none { s with heap:=h' }) :
  wpAny (model P w) A.in1 (newExc (.type "StopIteration") [] >>= fun e=>(raiseNew e:Sem PySem.Fin)) (fun _ _=>False) (fun e s'=>wpAny (model P w) A (isInstance e (.type "StopIteration")) (fun b s2=>b=true/\Q none s2) E s') { s with heap:=h0 }:=by
 refine wpAny_bind ?_
 simp only [newExc,newTuple]
 refine wpAny_bind (wpAny_newObj_type ?_ (by size_fits))
 refine wpAny_bind (m:=firstArgMember _ _) (wpAny_of_eq (a:=Value.none) (by first | rfl | (simp only [firstArgMember]; rfl)) ?_)
 refine wpAny_newObj_type ?_ (by size_fits)
 simp only [raiseNew]
 refine wpAny_bind (wpAny_handled ?_)
 rw [show A.in1.handled=none from hh]
 refine wpAny_bind (wpAny_pure (wpAny_throw ?_))
 refine wpAny_isInstance (T:="StopIteration") (b:=true) ⟨_,Heap.get?_push_size _ rfl,rfl⟩ isSubtype_stop ⟨rfl,?_⟩
 exact hQ _ fun b u e=>Heap.get?_push_of_some _ (Heap.get?_push_of_some _ e)
theorem fM {slot:Nat} {Q:Option Value->Shared->Prop} (hh:A.handled=none) (hit:SIt s.heap it S (rawInt slot) i n ep) (ho:s.heap.get? S=some o) (hd:o.data=.set es ep t) (hf:t.fits es.size=true) (hn:es.size=n)
  (hnext:∀ (A:Around) (E:Value->Shared->Prop) (Q':Option (Value×Nat)->Shared->Prop),Q' none s->wpAny (model P w) A (setNext S slot i ep) Q' E s)
  (hQ:∀ h',(∀ b u,b≠it->s.heap.get? b=some u->h'.get? b=some u)->Q none { s with heap:=h' }):wpAny (model P w) A (pyNext (.ref it)) Q E s:=by
 have hT:s.TypeIs (.ref it) "set_iterator":=⟨_,hit,rfl⟩
 unfold pyNext
 refine wpAny_bind (wpAny_attempt (wpAny_callSpecial?_slot (name:=Str.ofString "__next__") hT bN (wpAny_call_entry bN hT eM ?_ (fO _))))
 unfold Builtin.«set_iterator.__next__»
 refine wpAny_bind (wpAny_pure ?_)
 refine wpAny_bind (wpAny_fieldsOf hit rfl ?_)
 show wpAny _ _ (setEntries S >>= _) _ _ _
 refine wpAny_bind (wpAny_setEntries_of ho hd hf ?_)
 rw [if_neg (by rw [hn]; simp)]
 show wpAny _ _ (setNext S ((slot:Int).toNat) ((i:Int).toNat) ((ep:Int).toNat) >>= _) _ _ _
 rw [Int.toNat_natCast,Int.toNat_natCast,Int.toNat_natCast]
 refine wpAny_bind (hnext _ _ _ ?_)
 show wpAny _ _ (setField (.ref it) 2 .none >>= _) _ _ s
 refine wpAny_bind (wpAny_setField hit rfl (by simp) ?_)
 refine wpAny_mono (nv (P:=P) (w:=w) (A:=A) (E:=E) (s:=s) (Q:=Q) hh fun h' k=>hQ h' fun b u hb e=>k b u ?_) (fun _ _ z=>z.elim) fun e s' z=>?_
 ·exact (Heap.SameBut.update ..).extBut b u hb e
 ·refine wpAny_bind (wpAny_mono z (fun b s2 ⟨e1,e2⟩=>?_) fun _ _ y=>y)
  subst e1
  exact wpAny_pure e2
end
section
variable {P:Program} {w:World} {A:Around} {E:Value->Shared->Prop} {s:Shared} {it S tp:Addr} {o ot:Obj} {es:Array (Int×Value)} {ep n i m:Nat} {t:SetTable} {pl:Array Value}
theorem tM {p:Nat} {h:Int} {x:Value} {Q:Value->Shared->Prop} (ho:s.heap.get? S=some o) (hd:o.data=.set es ep t) (hf:t.fits es.size=true) (he:es[p]?=some (h,x)) (q:Q x s):wpAny (model P w) A (setNextDrawn S p ep) Q E s:=by
 unfold setNextDrawn
 refine wpAny_bind (wpAny_setState_of ho hd hf ?_)
 dsimp only
 rw [if_neg (by simp)]
 rw [he]
 exact wpAny_pure q
theorem tW {p:Nat} {h:Int} {x:Value} {Q:Option Value->Shared->Prop} (hit:SIt s.heap it S (.ref tp) i n ep) (htp:s.heap.get? tp=some ot) (hdt:ot.data=.seq pl m) (ho:s.heap.get? S=some o) (hd:o.data=.set es ep t) (hf:t.fits es.size=true) (hn:es.size=n)
  (hp:pl[i]?=some (rawInt p)) (he:es[p]?=some (h,x)) (hQ:∀ h',SIt h' it S (.ref tp) (i + 1) n ep->Heap.SameBut it s.heap h'->Q (some x) { s with heap:=h' }):wpAny (model P w) A (pyNext (.ref it)) Q E s:=by
 have hT:s.TypeIs (.ref it) "set_iterator":=⟨_,hit,rfl⟩
 unfold pyNext
 refine wpAny_bind (wpAny_attempt (wpAny_callSpecial?_slot (name:=Str.ofString "__next__") hT bN (wpAny_call_entry bN hT eM ?_ (fO _))))
 unfold Builtin.«set_iterator.__next__»
 refine wpAny_bind (wpAny_pure ?_)
 refine wpAny_bind (wpAny_fieldsOf hit rfl ?_)
 show wpAny _ _ (setEntries S >>= _) _ _ _
 refine wpAny_bind (wpAny_setEntries_of ho hd hf ?_)
 rw [if_neg (by rw [hn]; simp)]
 show wpAny _ _ (seqItems? (.ref tp) >>= _) _ _ _
 refine wpAny_bind (wpAny_seqItems htp hdt ?_)
 show wpAny _ _ (match pl[(i:Int).toNat]? with | some (.int place _)=>_ | some _=>_ | none=>_) _ _ _
 rw [Int.toNat_natCast,hp]
 show wpAny _ _ (setNextDrawn S ((p:Int).toNat) ((ep:Int).toNat) >>= _) _ _ _
 rw [Int.toNat_natCast,Int.toNat_natCast]
 refine wpAny_bind (tM ho hd hf he ?_)
 refine wpAny_bind (wpAny_setField_rec hit (by simp) fun h2 e2 s2=>?_)
 refine wpAny_pure ⟨_,rfl,wpAny_pure (hQ h2 ?_ s2)⟩
 have e:((i + 1:Nat):Int)=(i:Int) + 1:=by omega
 show h2.get? it=_
 rw [e]
 simpa [rawInt] using e2
theorem kc {Q:Option Value->Shared->Prop} (hh:A.handled=none) (hit:SIt s.heap it S (.ref tp) i n ep) (htp:s.heap.get? tp=some ot) (hdt:ot.data=.seq pl m) (ho:s.heap.get? S=some o) (hd:o.data=.set es ep t) (hf:t.fits es.size=true) (hn:es.size=n)
  (hp:pl[i]?=none) (hQ:∀ h',(∀ b u,b≠it->s.heap.get? b=some u->h'.get? b=some u)->Q none { s with heap:=h' }):wpAny (model P w) A (pyNext (.ref it)) Q E s:=by
 have hT:s.TypeIs (.ref it) "set_iterator":=⟨_,hit,rfl⟩
 unfold pyNext
 refine wpAny_bind (wpAny_attempt (wpAny_callSpecial?_slot (name:=Str.ofString "__next__") hT bN (wpAny_call_entry bN hT eM ?_ (fO _))))
 unfold Builtin.«set_iterator.__next__»
 refine wpAny_bind (wpAny_pure ?_)
 refine wpAny_bind (wpAny_fieldsOf hit rfl ?_)
 show wpAny _ _ (setEntries S >>= _) _ _ _
 refine wpAny_bind (wpAny_setEntries_of ho hd hf ?_)
 rw [if_neg (by rw [hn]; simp)]
 show wpAny _ _ (seqItems? (.ref tp) >>= _) _ _ _
 refine wpAny_bind (wpAny_seqItems htp hdt ?_)
 show wpAny _ _ (match pl[(i:Int).toNat]? with | some (.int place _)=>_ | some _=>_ | none=>_) _ _ _
 rw [Int.toNat_natCast,hp]
 show wpAny _ _ (setField (.ref it) 0 (rawInt 0) >>= _) _ _ s
 refine wpAny_bind (wpAny_setField_rec hit (by simp) fun h2 e2 s2=>?_)
 refine wpAny_bind (wpAny_setField e2 rfl (by simp) ?_)
 refine wpAny_mono (nv (P:=P) (w:=w) (A:=A) (E:=E) (s:=s) (Q:=Q) hh fun h' k=>hQ h' fun b u hb e=>k b u ?_) (fun _ _ z=>z.elim) fun e s' z=>?_
 ·exact (Heap.SameBut.update ..).extBut b u hb (s2.extBut b u hb e)
 ·refine wpAny_bind (wpAny_mono z (fun b s2 ⟨e1,e2⟩=>?_) fun _ _ y=>y)
  subst e1
  exact wpAny_pure e2
theorem jy {slot g:Nat} {Q:Option (Value×Nat)->Shared->Prop} (hbt:w.params.followText "set-order"=true) (ho:s.heap.get? S=some o) (hd:o.data=.set es ep t) (hf:t.fits es.size=true)
  (q:Q (((pickOrder (w.params.setOrder S ep) es)[g]?).map fun e=>(e.2,slot)) s):wpAny (model P w) A (setNext S slot g ep) Q E s:=by
 unfold setNext setWalk setsByText
 refine wpAny_bind (wpAny_setState_of ho hd hf ?_)
 dsimp only
 refine wpAny_bind (wpAny_bind (wpAny_askSetting (wpAny_pure ?_)))
 refine wpAny_ite_split (fun _=>?_) (fun z=>absurd hbt z)
 refine wpAny_ite_split (fun z=>absurd z (by simp)) (fun _=>?_)
 refine wpAny_bind (wpAny_bind (wpAny_setState_of ho hd hf ?_))
 dsimp only
 refine wpAny_bind (wpAny_bind (wpAny_askSetting (wpAny_pure ?_)))
 refine wpAny_ite_split (fun _=>?_) (fun z=>absurd hbt z)
 refine wpAny_bind (wpAny_askSetting (wpAny_pure ?_))
 exact wpAny_pure q
theorem mH {slot g:Nat} {Q:Option (Value×Nat)->Shared->Prop} (hbt:w.params.followText "set-order"=false) (ho:s.heap.get? S=some o) (hd:o.data=.set es ep t) (hf:t.fits es.size=true) (hl:t.led=true) (h1:es.size<=1)
  (q:Q (match es[SetTable.below t.place slot]?,t.place[SetTable.below t.place slot]? with | some (_,x),some j=>some (x,j + 1) | _,_=>none) s):wpAny (model P w) A (setNext S slot g ep) Q E s:=by
 unfold setNext setsByText
 refine wpAny_bind (wpAny_setState_of ho hd hf ?_)
 dsimp only
 refine wpAny_bind (wpAny_bind (wpAny_askSetting (wpAny_pure ?_)))
 refine wpAny_ite_split (fun z=>absurd (hbt.symm.trans z) (fun y=>nomatch y)) (fun _=>?_)
 refine wpAny_ite_split (fun z=>absurd z ?_) (fun _=>?_)
 ·show ¬ ((!t.plain && decide (es.size > 1))=true)
  rw [decide_eq_false (by omega),Bool.and_false]
  exact Bool.false_ne_true
 refine wpAny_bind ?_
 show wpAny _ _ (if (!t.led && !es.isEmpty)=true then _ else _) _ _ _
 rw [if_neg (by rw [hl]; simp)]
 refine wpAny_pure ?_
 exact wpAny_pure q
end
section
variable {P:Program} {w:World} {A:Around} {E:Value->Shared->Prop} {s:Shared} {S:Addr} {o:Obj} {es:Array (Int×Value)} {ep:Nat} {t:SetTable}
theorem tH {Q:Bool->Shared->Prop} (ho:s.heap.get? S=some o) (hd:o.data=.set es ep t) (hf:t.fits es.size=true) (q:Q (!w.params.followText "set-order" && (!t.plain && decide (es.size > 1))) s):wpAny (model P w) A (setDrawn S) Q E s:=by
 unfold setDrawn setsByText
 refine wpAny_bind (wpAny_setState_of ho hd hf ?_)
 dsimp only
 refine wpAny_bind (wpAny_bind (wpAny_askSetting (wpAny_pure ?_)))
 exact wpAny_pure q
theorem ud {Q:Value->Shared->Prop} (ho:s.heap.get? S=some o) (hex:o.ExactSet) (hd:o.data=.set es ep t) (hf:t.fits es.size=true) (hz:es.size<=4000)
  (q0:(!w.params.followText "set-order" && (!t.plain && decide (es.size > 1)))=false->Q (.ref s.heap.objs.size) { s with heap:=s.heap.push { cls:=.type "set_iterator",data:=.fields #[rawInt 0,.int 0 0,.ref S,.int es.size 0,.int ep 0] } })
  (q1:(!w.params.followText "set-order" && (!t.plain && decide (es.size > 1)))=true->∀ (ys:List Nat) (d:Drawn),ys.Perm (List.range es.size)->Q (.ref (s.heap.objs.size + 1)) { s with heap:=(s.heap.push { cls:=.type "tuple",data:=.seq (ys.map fun (i:Nat)=>rawInt i).toArray }).push { cls:=.type "set_iterator",data:=.fields #[.ref s.heap.objs.size,.int 0 0,.ref S,.int es.size 0,.int ep 0] },drawn:=d }) :
  wpAny (model P w) A (pyIter (.ref S)) Q E s:=by
 have hT:s.TypeIs (.ref S) "set":=⟨o,ho,hex.1⟩
 refine wpAny_pyIter_slot hT PySem.F.slot_set_iter (wpAny_call_entry PySem.F.slot_set_iter hT jb ?_ (PySem.F.args_set_iter_1 _))
 unfold Builtin.«frozenset.__iter__» Builtin.Frozenset.slot0 slotArgs
 simp only [List.isEmpty_nil,Bool.not_true,Bool.false_eq_true,↓reduceIte,bind_assoc,List.length_nil,bne_self_eq_false]
 unfold Builtin.Frozenset.addrOf Builtin.Frozenset.sizeOf
 refine wpAny_bind (wpAny_pure ?_)
 try dsimp only
 refine wpAny_bind (wpAny_pure ?_)
 refine wpAny_bind (wpAny_bind (wpAny_setEntries_of ho hd hf (wpAny_pure ?_)))
 refine wpAny_bind (tH ho hd hf ?_)
 cases hb:(!w.params.followText "set-order" && (!t.plain && decide (es.size > 1))) with
 | false=>
  simp only [Bool.false_eq_true,if_false]
  refine wpAny_bind (wpAny_pure ?_)
  refine wpAny_bind (wpAny_setEpoch_of ho hd hf ?_)
  refine wpAny_bind (wpAny_newObj_type (wpAny_pure ⟨_,rfl,"set_iterator",_,⟨_,Heap.get?_push_size _ rfl,rfl⟩,bN.lookup,?_⟩) ?_)
  ·exact q0 hb
  ·simp only [sizeOk,List.size_toArray,List.length_cons,List.length_nil,sizeLine_eq]; omega
 | true=>
  simp only [if_true]
  refine wpAny_bind (rV es.size (List.range es.size) _ List.length_range fun ys d hp=>?_)
  have hl:ys.length<=4000:=by rw [hp.length_eq]; simpa using hz
  refine wpAny_bind (wpAny_newTuple ?_ (by rw [List.length_map,sizeLine_eq]; omega))
  have ho':(s.heap.push { cls:=.type "tuple",data:=.seq (ys.map fun (i:Nat)=>rawInt i).toArray }).get? S=some o:=Heap.get?_push_of_some _ ho
  refine wpAny_bind (wpAny_setEpoch_of ho' hd hf ?_)
  refine wpAny_bind (wpAny_newObj_type (wpAny_pure ⟨_,rfl,"set_iterator",_,⟨_,Heap.get?_push_size _ rfl,rfl⟩,bN.lookup,?_⟩) ?_)
  ·have:=q1 hb ys d hp
   rw [Heap.size_push]
   exact this
  ·simp only [sizeOk,List.size_toArray,List.length_cons,List.length_nil,sizeLine_eq]; omega
end
structure Wk (P:Program) (w:World) (it:Addr) (fp:List Addr) (vs:List Value) (St:Nat->Heap->Prop):Prop where
 keep:∀ i h h',St i h->(∀ b∈fp,∀ u,h.get? b=some u->h'.get? b=some u)->St i h'
 item:∀ (i:Nat) (s:Shared) (A:Around) (Q:Option Value->Shared->Prop) (E:Value->Shared->Prop) (x:Value),St i s.heap->vs[i]?=some x ->
  (∀ h',St (i + 1) h'->(∀ b u,b≠it->s.heap.get? b=some u->h'.get? b=some u)->Q (some x) { s with heap:=h' })->wpAny (model P w) A (pyNext (.ref it)) Q E s
 done:∀ (s:Shared) (A:Around) (Q:Option Value->Shared->Prop) (E:Value->Shared->Prop),A.handled=none->St vs.length s.heap ->
  (∀ h',(∀ b u,b≠it->s.heap.get? b=some u->h'.get? b=some u)->Q none { s with heap:=h' })->wpAny (model P w) A (pyNext (.ref it)) Q E s
section
variable {P:Program} {w:World} {it S tp:Addr} {o ot:Obj} {es:Array (Int×Value)} {ep m:Nat} {t:SetTable}
theorem uS (hbt:w.params.followText "set-order"=true) (hd:o.data=.set es ep t) (hf:t.fits es.size=true) (hne:S≠it) :
  Wk P w it [it,S] ((pickOrder (w.params.setOrder S ep) es).toList.map (·.2)) (fun i h=>SIt h it S (rawInt 0) i es.size ep/\h.get? S=some o) where
 keep:=fun i h h' st k=>⟨k it (by simp) _ st.1,k S (by simp) _ st.2⟩
 item:=fun i s A Q E x st hx hQ=>by
  have hx':((pickOrder (w.params.setOrder S ep) es)[i]?).map (fun e=>(e.2,0))=some (x,0):=by
   rw [List.getElem?_map,Array.getElem?_toList] at hx
   cases e:(pickOrder (w.params.setOrder S ep) es)[i]? with
   | none=>rw [e] at hx; cases hx
   | some y=>rw [e] at hx; have:=Option.some.inj hx; rw [<- this]; rfl
  exact mZ (slot':=0) st.1 st.2 hd hf rfl (fun A E Q' q=>jy hbt st.2 hd hf (by rw [hx']; exact q)) fun h' hit' sb=>hQ h' ⟨hit',(sb.2 S hne).trans st.2⟩ fun b u hb e=>(sb.2 b hb).trans e
 done:=fun s A Q E hh st hQ=>by
  refine fM hh st.1 st.2 hd hf rfl (fun A E Q' q=>jy hbt st.2 hd hf ?_) hQ
  have e:(pickOrder (w.params.setOrder S ep) es)[((pickOrder (w.params.setOrder S ep) es).toList.map (·.2)).length]?=none:=by
   rw [List.length_map,Array.length_toList]
   exact Array.getElem?_eq_none (Nat.le_refl _)
  rw [e]; exact q
theorem kR {α:Type} {a:Array α} (h:a.size=1):∃ x,a=#[x]:=by
 cases a with
 | mk l=>match l,h with | [x],_=>exact ⟨x,rfl⟩
theorem jE (j k:Nat):SetTable.below #[j] k=if j < k then 1 else 0:=by
 unfold SetTable.below
 show SetTable.below.go #[j] k 1 0 1=_
 unfold SetTable.below.go
 rw [if_pos (by decide)]
 show (if j < k then SetTable.below.go #[j] k 0 1 1 else SetTable.below.go #[j] k 0 0 0)=_
 split
 ·rfl
 ·rfl
theorem wJ (hbt:w.params.followText "set-order"=false) (hd:o.data=.set es ep t) (hf:t.fits es.size=true) (hl:t.led=true) (h1:es.size<=1) (hne:S≠it) :
  Wk P w it [it,S] (es.toList.map (·.2)) (fun i h=>SIt h it S (rawInt ((if i=0 then 0 else t.place.getD 0 0 + 1:Nat))) i es.size ep/\h.get? S=some o) where
 keep:=fun i h h' st k=>⟨k it (by simp) _ st.1,k S (by simp) _ st.2⟩
 item:=fun i s A Q E x st hx hQ=>by
  have hi:i < es.size:=by have:=(List.getElem?_eq_some_iff.mp hx).1; simpa using this
  have i0:i=0:=by omega
  subst i0
  have n1:es.size=1:=by omega
  have ps:t.place.size=1:=by
   have:=hf
   simp only [SetTable.fits,Bool.and_eq_true,beq_iff_eq] at this
   rw [this.1,n1]
  obtain ⟨j,hj⟩:=kR ps
  obtain ⟨y,hy⟩:=kR n1
  have ex:y.2=x:=by
   rw [hy] at hx
   simpa using hx
  refine mZ (slot:=0) (slot':=j + 1) st.1 st.2 hd hf rfl (fun A E Q' q=>mH hbt st.2 hd hf hl h1 ?_) fun h' hit' sb=>hQ h' ⟨?_,(sb.2 S hne).trans st.2⟩ fun b u hb e=>(sb.2 b hb).trans e
  ·have b0:SetTable.below t.place 0=0:=by rw [hj,jE,if_neg (Nat.not_lt_zero _)]
   rw [b0,hj,hy]
   show Q' (some (y.2,j + 1)) s
   rw [ex]; exact q
  ·have e:t.place.getD 0 0=j:=by rw [hj]; rfl
   show SIt h' it S (rawInt ((if (0 + 1:Nat)=0 then 0 else t.place.getD 0 0 + 1:Nat))) (0 + 1) es.size ep
   rw [if_neg (by decide),e]
   exact hit'
 done:=fun s A Q E hh st hQ=>by
  refine fM hh st.1 st.2 hd hf rfl (fun A E Q' q=>mH hbt st.2 hd hf hl h1 ?_) hQ
  have ps:t.place.size=es.size:=by
   have:=hf
   simp only [SetTable.fits,Bool.and_eq_true,beq_iff_eq] at this
   exact this.1
  have e:es[SetTable.below t.place (if (es.toList.map (·.2)).length=0 then 0 else t.place.getD 0 0 + 1)]?=none:=by
   rw [List.length_map,Array.length_toList]
   by_cases z:es.size=0
   ·exact Array.getElem?_eq_none (by omega)
   ·have n1:es.size=1:=by omega
    rw [n1] at ps
    obtain ⟨j,hj⟩:=kR ps
    rw [if_neg z,hj]
    have e2:(#[j]:Array Nat).getD 0 0=j:=rfl
    rw [e2,jE,if_pos (Nat.lt_succ_self _)]
    exact Array.getElem?_eq_none (by omega)
  rw [e]; exact q
theorem uw {ys:List Nat} (hp:ys.Perm (List.range es.size)) (hdt:ot.data=.seq (ys.map fun (i:Nat)=>rawInt i).toArray m) (hd:o.data=.set es ep t) (hf:t.fits es.size=true) (hne:S≠it) (hte:tp≠it) :
  Wk P w it [it,S,tp] (ys.map fun p=>(es.getD p (0,Value.none)).2) (fun i h=>SIt h it S (.ref tp) i es.size ep/\h.get? S=some o/\h.get? tp=some ot) where
 keep:=fun i h h' st k=>⟨k it (by simp) _ st.1,k S (by simp) _ st.2.1,k tp (by simp) _ st.2.2⟩
 item:=fun i s A Q E x st hx hQ=>by
  rw [List.getElem?_map] at hx
  cases e:ys[i]? with
  | none=>rw [e] at hx; cases hx
  | some p=>
   rw [e] at hx
   have hx':(es.getD p (0,Value.none)).2=x:=Option.some.inj hx
   have hlt:p < es.size:=List.mem_range.mp (hp.mem_iff.mp (List.mem_of_getElem? e))
   have he:es[p]?=some ((es.getD p (0,Value.none)).1,x):=by
    rw [<- hx']
    simp [Array.getD,hlt]
   refine tW st.1 st.2.2 hdt st.2.1 hd hf rfl (p:=p) ?_ he fun h' hit' sb=>hQ h' ⟨hit',(sb.2 S hne).trans st.2.1,(sb.2 tp hte).trans st.2.2⟩ fun b u hb e=>(sb.2 b hb).trans e
   rw [List.getElem?_toArray,List.getElem?_map,e]; rfl
 done:=fun s A Q E hh st hQ=>by
  refine kc hh st.1 st.2.2 hdt st.2.1 hd hf rfl ?_ hQ
  rw [List.getElem?_toArray]
  exact List.getElem?_eq_none (by simp)
end
section
variable {P:Program} {w:World} {A:Around} {E:Value->Shared->Prop} {s:Shared} {S:Addr} {xs:List Str}
theorem nk:∀ {l:List (Int×Value)},ElemsOf (PySem.strKind P w) l->aP ((l.map dS).map V.str) (l.map (·.2))
 | [],_=>.nil
 | e :: l,h=>by
  obtain ⟨⟨k,hk,_⟩,_⟩:=h.head
  obtain ⟨tk,ht⟩:=Value.isStrOf_shape hk
  refine .cons ?_ (nk h.tail)
  show ∃ t,e.2=Value.str (dS e) t
  exact ⟨tk,by rw [gB hk]; exact ht⟩
def kX (w:World) (h:Heap) (a:Addr) (us:List Value):Prop:=∃ o es ep t,h.get? a=some o/\o.ExactSet/\o.data=.set es ep t/\t.fits es.size=true/\t.led=(!w.params.followText "set-order")/\(t.plain=true->es.size<=1)/\(es.toList.map (·.2)).Perm us
theorem qj {us:List Value} {Q:Value->Shared->Prop} (hS:kX w s.heap S us) (hx:us.length<=4000)
  (q:∀ (h':Heap) (d:Drawn) (it:Addr) (fp:List Addr) (vs:List Value) (St:Nat->Heap->Prop),(∀ b u,s.heap.get? b=some u->h'.get? b=some u)->Wk P w it fp vs St->St 0 h'->(∀ b∈fp,b=S\/s.heap.objs.size<=b)->s.heap.objs.size<=it->vs.Perm us->Q (.ref it) { s with heap:=h',drawn:=d }) :
  wpAny (model P w) A (pyIter (.ref S)) Q E s:=by
 obtain ⟨o,es,ep,t,ho,hex,hd,hf,hl,hpl,hp⟩:=hS
 have sz:es.size=us.length:=by rw [<- hp.length_eq,List.length_map,Array.length_toList]
 have hlt:S < s.heap.objs.size:=Heap.lt_size ho
 refine ud ho hex hd hf (by omega) (fun hb0=>?_) (fun hb1 ys d hys=>?_)
 ·have e0:s={ s with drawn:=s.drawn }:=by cases s; rfl
  have ne:S≠s.heap.objs.size:=Nat.ne_of_lt hlt
  have go:=q (s.heap.push { cls:=.type "set_iterator",data:=.fields #[rawInt 0,.int 0 0,.ref S,.int es.size 0,.int ep 0] }) s.drawn s.heap.objs.size [s.heap.objs.size,S]
  have fpo:∀ b∈[s.heap.objs.size,S],b=S\/s.heap.objs.size<=b:=fun b hb=>by
   rcases List.mem_cons.mp hb with rfl | hb
   ·exact .inr (Nat.le_refl _)
   ·exact .inl (List.mem_singleton.mp hb)
  cases hbt:w.params.followText "set-order" with
  | true=>
   have pm:=oo (w.params.setOrder S ep) es
   exact go _ _ (fun b u e=>Heap.get?_push_of_some _ e) (uS hbt hd hf ne) ⟨Heap.get?_push_size _ rfl,Heap.get?_push_of_some _ ho⟩ fpo (Nat.le_refl _) ((pm.map _).trans hp)
  | false=>
   have h1:es.size<=1:=by
    rw [hbt] at hb0
    by_cases z:es.size > 1
    ·rw [decide_eq_true z] at hb0
     cases pz:t.plain with
     | true=>have:=hpl pz; omega
     | false=>rw [pz] at hb0; cases hb0
    ·omega
   exact go _ _ (fun b u e=>Heap.get?_push_of_some _ e) (wJ hbt hd hf (by rw [hl,hbt]; rfl) h1 ne) ⟨Heap.get?_push_size _ rfl,Heap.get?_push_of_some _ ho⟩ fpo (Nat.le_refl _) hp
 ·have hsz:(s.heap.push { cls:=.type "tuple",data:=.seq (ys.map fun (i:Nat)=>rawInt i).toArray }).objs.size=s.heap.objs.size + 1:=Heap.size_push ..
  have ne:S≠s.heap.objs.size + 1:=Nat.ne_of_lt (Nat.lt_succ_of_lt hlt)
  have ne2:s.heap.objs.size≠s.heap.objs.size + 1:=Nat.ne_of_lt (Nat.lt_succ_self _)
  have itAt:((s.heap.push { cls:=.type "tuple",data:=.seq (ys.map fun (i:Nat)=>rawInt i).toArray }).push { cls:=.type "set_iterator",data:=.fields #[.ref s.heap.objs.size,.int 0 0,.ref S,.int es.size 0,.int ep 0] }).get? (s.heap.objs.size + 1)=some { cls:=.type "set_iterator",dict:=none,data:=.fields #[.ref s.heap.objs.size,.int 0 0,.ref S,.int es.size 0,.int ep 0],slots:=#[] }:=by
   rw [<- hsz]; exact Heap.get?_push_size _ rfl
  have perm2:(ys.map fun p=>es.getD p (0,Value.none)).Perm es.toList:=by
   refine (hys.map _).trans ?_
   have e:(List.range es.size).map (fun p=>es.getD p (0,Value.none))=es.toList:=by
    apply List.ext_getElem
    ·simp
    ·intro i h1 h2
     have hi:i < es.size:=by simpa using h1
     simp [Array.getD,hi]
   rw [e]
  have vs:=(perm2.map (fun x:Int×Value=>x.2)).trans hp
  rw [List.map_map (g:=fun x:Int×Value=>x.2)] at vs
  refine q _ d (s.heap.objs.size + 1) [s.heap.objs.size + 1,S,s.heap.objs.size] _ _ (fun b u e=>Heap.get?_push_of_some _ (Heap.get?_push_of_some _ e)) (uw (tp:=s.heap.objs.size) (m:=0) (ot:={ cls:=.type "tuple",data:=.seq (ys.map fun (i:Nat)=>rawInt i).toArray }) hys rfl hd hf ne ne2)
   ⟨itAt,Heap.get?_push_of_some _ (Heap.get?_push_of_some _ ho),Heap.get?_push_of_some _ (Heap.get?_push_size _ rfl)⟩ (fun b hb=>?_) (Nat.le_succ _) vs
  simp only [List.mem_cons,List.not_mem_nil,or_false] at hb
  rcases hb with rfl | rfl | rfl
  ·exact .inr (Nat.le_succ _)
  ·exact .inl rfl
  ·exact .inr (Nat.le_refl _)
variable {R:Result->Shared->Prop} {it L:Addr} {fp:List Addr} {vs:List Value} {St:Nat->Heap->Prop}
theorem rE (W:Wk P w it fp vs St) (hh:A.handled=none) (hL:L∉fp) (hLi:L≠it) (hn:vs.length<=4000) (res:Value) {h₁:Heap}
  (hR:∀ h' tk c acc,(∀ b u,b≠L->b≠it->h₁.get? b=some u->h'.get? b=some u)->h'.get? L=some { cls:=.type "list",dict:=none,data:=.seq acc c,slots:=#[] }->acc.toList=vs->R (.ok (.ret res)) { s with heap:=h',toks:=tk }) :
  ∀ (k i:Nat) (h:Heap) (tk c:Nat) (acc:Array Value),vs.length - i=k->i<=vs.length->St i h->(∀ b u,b≠L->b≠it->h₁.get? b=some u->h.get? b=some u)->h.get? L=some { cls:=.type "list",dict:=none,data:=.seq acc c,slots:=#[] }->acc.toList=vs.take i ->
   codeAny (model P w) A (.builtin "list.extend.loop" ⟨[.ref L,.ref it,res],[]⟩) R { s with heap:=h,toks:=tk }:=by
 intro k
 induction k with
 | zero=>
  intro i h tk c acc hk hi st kp hl ha
  obtain rfl:i=vs.length:=by omega
  refine codeAny_builtin PySem.F.entry_extend_loop ?_
  rw [Around.under_plainId PySem.F.plain_extend_loop _]
  show wpAny _ A.in1 (pyNext (.ref it) >>= _) _ _ _
  refine wpAny_bind (W.done { s with heap:=h,toks:=tk } A.in1 _ _ hh st fun h' k'=>?_)
  exact wpAny_pure (hR h' tk c acc (fun b u h1 h2 e=>k' b u h2 (kp b u h1 h2 e)) (k' L _ hLi hl) (by rw [ha,List.take_length]))
 | succ k ih=>
  intro i h tk c acc hk hi st kp hl ha
  have hlt:i < vs.length:=by omega
  have hsz:acc.size=i:=by rw [<- Array.length_toList,ha,List.length_take]; omega
  refine codeAny_builtin PySem.F.entry_extend_loop ?_
  rw [Around.under_plainId PySem.F.plain_extend_loop _]
  show wpAny _ A.in1 (pyNext (.ref it) >>= _) _ _ _
  refine wpAny_bind (W.item i { s with heap:=h,toks:=tk } A.in1 _ _ vs[i] st (List.getElem?_eq_getElem hlt) fun h' st' k'=>?_)
  dsimp only at k' ⊢
  have hl':=k' L _ hLi hl
  have up:∀ b u,b≠L->h'.get? b=some u->(h'.update L (Obj.mapSeq (·.push vs[i]))).get? b=some u:=fun b u hb e=>(Heap.get?_update_other _ _ (Ne.symm hb)).trans e
  show wpAny _ A.in1 (updateSeq L (·.push vs[i]) >>= _) _ _ _
  refine wpAny_bind ?_
  refine wpAny_updateSeq hl' rfl (wpAny_pure ⟨plainId_quiet PySem.F.plain_extend_loop _,ih (i + 1) _ tk _ (acc.push vs[i]) (by omega) hlt (W.keep _ _ _ st' fun b hb u e=>up b u (fun z=>hL (z▸hb)) e) (fun b u h1 h2 e=>up b u h1 (k' b u h2 (kp b u h1 h2 e))) (Heap.get?_update_self _ hl' rfl) ?_⟩) (by rw [hsz,sizeLine_eq]; omega) (by show (acc.push vs[i]).size<=sizeLine + 1; rw [Array.size_push,hsz,sizeLine_eq]; omega)
  rw [Array.toList_push,ha,List.take_add_one,List.getElem?_eq_getElem hlt]; rfl
theorem tS (hT:s.TypeIs (.ref S) "set") {Q:Bool->Shared->Prop} (h:Q false s):wpAny (model P w) A (Builtin.List.listLengthHint (.ref S)) Q E s:=by
 unfold Builtin.List.listLengthHint
 refine wpAny_bind (wpAny_specialOf hT PySem.F.slot_set_len.lookup ?_)
 generalize hid:("set.__len__" : String)=id0
 wp_delta
 rw [show splitId id0=some ("set","__len__") from by subst hid; decide +kernel]
 subst hid
 refine wpAny_bind (wpAny_isInstance (T:="set") (b:=true) hT (by rw [isSubtype_type]; kernel_rfl) ?_)
 refine wpAny_ite_split (fun hab=>absurd hab (by decide)) (fun _=>?_)
 refine wpAny_ite_split (fun _=>?_) (fun hab=>absurd (by decide +kernel) hab)
 refine wpAny_bind (wpAny_typeOf hT ?_)
 exact wpAny_pure h
end
section
variable {P:Program} {w:World} {A:Around} {E:Value->Shared->Prop} {s:Shared} {S:Addr} {xs:List Str}
theorem vo {us:List Value} {R:Result->Shared->Prop} (hh:A.handled=none) (hS:kX w s.heap S us) (hx:us.length<=4000) (L:Addr) (hLS:L≠S) (res:Value) (hL:s.heap.get? L=some { cls:=.type "list",data:=.seq #[] })
  (hR:∀ (h':Heap) (d:Drawn) (tk c:Nat) (acc:Array Value),(∀ b u,b≠L->s.heap.get? b=some u->h'.get? b=some u)->h'.get? L=some { cls:=.type "list",dict:=none,data:=.seq acc c,slots:=#[] }->acc.toList.Perm us->R (.ok (.ret res)) { s with heap:=h',toks:=tk,drawn:=d }) :
  wpAny (model P w) A.in1 (Builtin.List.listExtendWith (.ref L) (.ref S) res) (fun fin s'=>match fin with | .done f=>R (.ok f) s' | .again c'=>c'.quiet=true/\codeAny (model P w) A c' R s') (fun e s'=>R (.error e) s') s:=by
 have hT:s.TypeIs (.ref S) "set":=let ⟨o,_,_,_,ho,hex,_⟩:=hS; ⟨o,ho,hex.1⟩
 have lL:L < s.heap.objs.size:=Heap.lt_size hL
 unfold Builtin.List.listExtendWith
 refine wpAny_bind (wpAny_typeOf (T:="set") hT ?_)
 have h1:Builtin.List.listSameRef (.ref L) (.ref S)=false:=by simp [Builtin.List.listSameRef,hLS]
 have h2:(Value.type "set" == Value.type "list")=false:=by decide
 have h3:(Value.type "set" == Value.type "tuple")=false:=by decide
 simp only [h1,h2,h3,Bool.or_false,Bool.false_eq_true,if_false]
 refine wpAny_bind (qj hS hx fun h1 d it fp vs St k1 W st hfp hit hp=>?_)
 have hLf:L∉fp:=fun z=>by
  rcases hfp L z with e | e
  ·exact hLS e
  ·exact absurd lL (Nat.not_lt.mpr e)
 have hLi:L≠it:=fun z=>absurd lL (Nat.not_lt.mpr (z▸hit))
 have hvs:vs.length<=4000:=by rw [hp.length_eq]; exact hx
 have key:∀ (h:Heap) (c tk:Nat),(∀ b u,b≠L->h1.get? b=some u->h.get? b=some u)->h.get? L=some { cls:=.type "list",data:=.seq #[] c }->codeAny (model P w) A (.builtin "list.extend.loop" ⟨[.ref L,.ref it,res],[]⟩) R { s with heap:=h,toks:=tk,drawn:=d }:=by
  intro h c tk hk hL1
  refine rE (s:={ s with drawn:=d }) W hh hLf hLi hvs res (h₁:=s.heap) (fun h' tk' c' acc k' hl' ha=>?_) vs.length 0 h tk c #[] (Nat.sub_zero _) (Nat.zero_le _) (W.keep _ _ _ st fun b hb u e=>hk b u (fun z=>hLf (z▸hb)) e) (fun b u hb _ e=>hk b u hb (k1 b u e)) hL1 rfl
  refine hR h' d tk' c' acc (fun b u hb e=>k' b u hb (fun z=>absurd (Heap.lt_size e) (Nat.not_lt.mpr (z▸hit))) e) hl' (by rw [ha]; exact hp)
 have hL1:=k1 L _ hL
 have hT1:Shared.TypeIs { s with heap:=h1,drawn:=d } (.ref S) "set":=let ⟨o,ho,hc⟩:=hT; ⟨o,k1 S o ho,hc⟩
 refine wpAny_bind (wpAny_holding (tS hT1 ?_))
 refine wpAny_ite_split (fun _=>?_) (fun _=>wpAny_pure ⟨plainId_quiet PySem.F.plain_extend_loop _,key _ _ _ (fun b u _ e=>e) hL1⟩)
 refine wpAny_bind (wpAny_rule ?_)
 refine wpAny_bind ?_
 show wpAny _ _ (updateSeq L (·.push .none) >>= fun _=>updateSeq L (·.pop)) _ _ _
 refine wpAny_bind (wpAny_updateSeq hL1 rfl ?_)
 have hL2:=Heap.get?_update_self (Obj.mapSeq (·.push Value.none)) hL1 rfl
 refine wpAny_updateSeq (hz:=by seq_fits) hL2 rfl ?_
 have hL3:=Heap.get?_update_self (Obj.mapSeq (·.pop)) hL2 rfl
 refine wpAny_pure ⟨plainId_quiet PySem.F.plain_extend_loop _,key _ _ _ (fun b u hb e=>?_) hL3⟩
 exact (Heap.get?_update_other _ _ (Ne.symm hb)).trans ((Heap.get?_update_other _ _ (Ne.symm hb)).trans e)
theorem kX.at' {h h':Heap} {a:Addr} {us:List Value} (x:kX w h a us) (k:∀ o,h.get? a=some o->h'.get? a=some o):kX w h' a us:=let ⟨o,es,ep,t,ho,r⟩:=x; ⟨o,es,ep,t,k o ho,r⟩
theorem fw {us:List Value} {R:List Value->Shared->Prop} (hh:A.handled=none) (hS:kX w s.heap S us) (hx:us.length<=4000)
  (h:∀ (h':Heap) (d:Drawn) (tk:Nat) (vs:List Value),(∀ b u,s.heap.get? b=some u->h'.get? b=some u)->vs.Perm us->R vs { s with heap:=h',toks:=tk,drawn:=d }) :
  wpAny (model P w) A (collect (.ref S)) R E s:=by
 have hlt:S < s.heap.objs.size:=let ⟨o,_,_,_,ho,_⟩:=hS; Heap.lt_size ho
 unfold collect
 refine wpAny_bind (wpAny_runValue (codeAny_builtin entry_proto_collect' ?_))
 rw [Around.under_plainId PySem.F.plain_proto_collect _]
 show wpAny _ A.in1 (newList [] >>= fun l=>again (.builtin "list.__iadd__" ⟨[l,.ref S],[]⟩)) _ _ s
 refine wpAny_bind (wpAny_newObj_type ?_)
 refine wpAny_pure ⟨plainId_quiet PySem.F.plain_list_iadd _,codeAny_builtin entry_list_iadd' ?_⟩
 rw [Around.under_plainId PySem.F.plain_list_iadd _]
 have hL1:(s.heap.push { cls:=.type "list",data:=.seq ([]:List Value).toArray }).get? s.heap.objs.size=some { cls:=.type "list",data:=.seq #[] }:=Heap.get?_push_size _ rfl
 show wpAny _ A.in1 (Builtin.List.listExtendWith (.ref s.heap.objs.size) (.ref S) (.ref s.heap.objs.size)) _ _ _
 have key:=vo (P:=P) (A:=A) (s:={ s with heap:=s.heap.push { cls:=.type "list",data:=.seq ([]:List Value).toArray } })
  (R:=fun (q:Result) (s':Shared)=>∃ (h':Heap) (d:Drawn) (tk c:Nat) (acc:Array Value),q=.ok (.ret (.ref s.heap.objs.size))/\s'={ s with heap:=h',toks:=tk,drawn:=d }/\(∀ b u,s.heap.get? b=some u->h'.get? b=some u)/\h'.get? s.heap.objs.size=some { cls:=.type "list",dict:=none,data:=.seq acc c,slots:=#[] }/\acc.toList.Perm us)
  hh (hS.at' fun o e=>Heap.get?_push_of_some _ e) hx s.heap.objs.size (Nat.ne_of_gt hlt) (.ref s.heap.objs.size) hL1
  (fun h' d tk c acc k hl hp=>⟨h',d,tk,c,acc,rfl,rfl,fun b u e=>k b u (Nat.ne_of_lt (Heap.lt_size e)) (Heap.get?_push_of_some _ e),hl,hp⟩)
 refine wpAny_mono key (fun fin s' x=>?_) fun e s' x=>?_
 ·cases fin with
  | done f=>
   obtain ⟨h',d,tk,c,acc,e,rfl,k,hl,hp⟩:=x
   cases e
   show wpAny _ A (load s.heap.objs.size >>= _) _ _ _
   refine wpAny_bind (wpAny_load hl ?_)
   exact wpAny_pure (h h' d tk acc.toList k hp)
  | again c₁=>
   refine ⟨x.1,codeAny_mono x.2 fun q s₂ y=>?_⟩
   obtain ⟨h',d,tk,c,acc,rfl,rfl,k,hl,hp⟩:=y
   show wpAny _ A (load s.heap.objs.size >>= _) _ _ _
   refine wpAny_bind (wpAny_load hl ?_)
   exact wpAny_pure (h h' d tk acc.toList k hp)
 ·obtain ⟨_,_,_,_,_,e',_⟩:=x
  cases e'
theorem fT {α β:Type} (f:α->β) {l k:List β} (h:l.Perm k):∀ {m:List α},k=m.map f->∃ m':List α,m'.Perm m/\l=m'.map f:=by
 induction h with
 | nil=>intro m e; exact ⟨[],by rw [List.map_eq_nil_iff.mp e.symm],rfl⟩
 | cons x _ ih=>
  intro m e
  cases m with
  | nil=>cases e
  | cons a m=>
   injection e with e1 e2
   obtain ⟨m',p,rfl⟩:=ih e2
   exact ⟨a :: m',p.cons a,by rw [List.map_cons,e1]⟩
 | swap x y l=>
  intro m e
  cases m with
  | nil=>cases e
  | cons a m=>
   cases m with
   | nil=>injection e with _ e; cases e
   | cons b m=>
    injection e with e1 e2
    injection e2 with e2 e3
    exact ⟨b :: a :: m,List.Perm.swap a b m,by rw [List.map_cons,List.map_cons,e1,e2,e3]⟩
 | trans _ _ ih1 ih2=>
  intro m e
  obtain ⟨m2,p2,e2⟩:=ih2 e
  obtain ⟨m1,p1,e1⟩:=ih1 e2
  exact ⟨m1,p1.trans p2,e1⟩
theorem lP {R:List Value->Shared->Prop} (hh:A.handled=none) (hS:dC P w s.heap S xs) (hx:xs.length<=1000)
  (h:∀ (h':Heap) (d:Drawn) (tk:Nat) (vs:List Value) (os:List Str),(∀ b u,s.heap.get? b=some u->h'.get? b=some u)->aP (os.map V.str) vs->os.Perm xs->R vs { s with heap:=h',toks:=tk,drawn:=d }) :
  wpAny (model P w) A (collect (.ref S)) R E s:=by
 obtain ⟨o,es,ep,t,ho,hex,hd,hel,hb,hf,hl,hpl,hp⟩:=hS
 refine fw (us:=es.toList.map (·.2)) hh ⟨o,es,ep,t,ho,hex,hd,hf,hl,fun z=>by have:=hpl z; omega,.refl _⟩ (by have:=hp.length_eq; rw [List.length_map] at this ⊢; omega) fun h' d tk vs k pv=>?_
 obtain ⟨es',pe,rfl⟩:=fT _ pv rfl
 exact h h' d tk _ (es'.map dS) k (nk (hel.perm pe)) ((pe.map _).trans hp)
end
def sF (a b:Str):Prop:=a.cps.toList < b.cps.toList
section
variable {X:Cx} {pins:List (Addr×Obj)} {σ:St} {H:Hp} {s:Shared}
theorem gX {ps:List Str} {its:List Value} (rv:aP (ps.map V.str) its) (i:Nat) (hi:i < ps.length):∃ t,its.getD i .none=Value.str (ps.getD i default) t:=by
 obtain ⟨u,hu,ru⟩:=aP.get (i:=i) (x:=V.str ps[i]) rv (by rw [List.getElem?_map,List.getElem?_eq_getElem hi]; rfl)
 obtain ⟨t,rfl⟩:=(show ∃ t,u=Value.str ps[i] t from ru)
 exact ⟨t,by simp [List.getD,hu,hi]⟩
theorem qR {A:Around} {E:Value->Shared->Prop} {l:Addr} {ps:List Str} {Q:Value->Shared->Prop} (I:Inv X pins σ H s) (hq:H l=some (.lst (ps.map V.str))) (nd:ps.Nodup) (h64:ps.length < 64)
  (q:∀ (qs:List Str) (h':Heap),qs.Perm ps->qs.Pairwise sF->Inv X pins σ (upd H l (.lst (qs.map V.str))) { s with heap:=h' }->Q .none { s with heap:=h' }):wpAny (model X.prog X.w) A (call (.builtin "list.sort") [.ref l]) Q E s:=by
 obtain ⟨hz,its,n,rv,at0⟩:=(show aU X.prog X.w H s.heap l (.lst (ps.map V.str)) from I.hok l _ hq)
 have li:its.length=ps.length:=by have:=rv.length; rw [List.length_map] at this; exact this.symm
 obtain ⟨m,hm,_⟩:=I.loc
 have nL:l≠X.env.locals:=fun z=>by rw [z,I.free] at hq; cases hq
 by_cases few:ps.length < 2
 ·refine wpAny_call_entry slot_list_sort ⟨_,at0,rfl⟩ entry_list_sort (cZ at0 (by omega) fun hp ep k2 e2=>⟨_,rfl,?_⟩) (args_list_sort _)
  refine q ps hp (List.Perm.refl _) ?_ (I.setList hm hq rv hz (hm.at' fun o e=>k2 _ o (Ne.symm nL) e) (fun b o _ hb z=>k2 b o hb z) e2)
  match ps,few with
  | [],_=>exact .nil
  | [p],_=>exact List.pairwise_singleton _ _
 ·have F0:Fr (Att.noObjs s.heap) X.env.locals s.heap m:=Att.fr_all hm
  generalize hN:(fK (Att.noObjs s.heap) s.heap X.env.locals).filter (fun p=>decide (p.1≠l))=nw
  have N0:News (Att.noObjs s.heap) X.env.locals s.heap nw:=fun p hp=>by rw [<- hN] at hp; exact mQ p (List.mem_filter.mp hp).1
  have nl0:∀ p∈nw,p.1≠l:=fun p hp=>by rw [<- hN] at hp; exact of_decide_eq_true (List.mem_filter.mp hp).2
  refine wpAny_call_entry slot_list_sort ⟨_,at0,rfl⟩ entry_list_sort (kat_list_sort F0 N0 at0 nL (Att.noObjs_get _ _) nl0 (by omega) (by omega) fun e1 h' F' N'=>?_) (args_list_sort _)
  have keep:∀ (g:Heap) (x:Obj),News (Att.noObjs s.heap) X.env.locals g ((l,x) :: nw)->∀ b o,b≠X.env.locals->b≠l->s.heap.get? b=some o->g.get? b=some o:=fun g x N b o hb hl e=>
   (N (b,o) (List.mem_cons_of_mem _ (by rw [<- hN]; exact List.mem_filter.mpr ⟨gP hb (Att.noObjs_get _ _) e,decide_eq_true hl⟩))).1
  have kk:keyKind' its.toArray=pure oneType':=by
   have st:=oO rv
   match its,li,st with
   | v1 :: v2 :: r,_,st=>exact keyKind_strs st
   | [_],li,_=>simp at li; omega
   | [],li,_=>simp at li; omega
  rw [kk]
  refine wpAny_pure ?_
  rw [li]
  have unlike:∀ i j,i < ps.length->j < ps.length->i≠j->ps.getD i default≠ps.getD j default:=fun i j hi hj hij e=>by
   have ei:ps.getD i default=ps[i]:=by simp [List.getD,hi]
   have ej:ps.getD j default=ps[j]:=by simp [List.getD,hj]
   rw [ei,ej] at e
   exact hij ((List.getElem_inj nd).mp e)
  have O:Ord (kas_ask X.prog X.w A.in1 oneType' its) (fun i j=>decide ((ps.getD i default).cps.toList < (ps.getD j default).cps.toList)) ps.length { s with heap:=h' }:=by
   refine ⟨fun i j C hi hj hij hC=>?_,fun i j k h1 h2=>?_,fun i j hi hj hij h1=>?_,fun i j h1=>?_⟩
   ·show wpAny _ _ (keyLt' _ _ _) C _ _
    obtain ⟨t1,e1⟩:=gX rv i hi
    obtain ⟨t2,e2⟩:=gX rv j hj
    rw [e1,e2]
    exact kas_lt_str hC
   ·exact decide_eq_true (List.lt_trans (of_decide_eq_true h1) (of_decide_eq_true h2))
   ·exact decide_eq_true (kQ (of_decide_eq_false h1) fun e=>unlike i j hi hj hij (kA e))
   ·exact decide_eq_false (List.lt_asymm (of_decide_eq_true h1))
  refine pN O (by omega) fun p re up=>?_
  have hl2:p.toList.Perm (List.range ps.length):=by simpa using Array.perm_iff_toList_perm.mp re.perm
  have outs:∀ il:List Nat,(∀ i∈il,i < ps.length)->aP ((il.map fun i=>ps.getD i default).map V.str) (il.map fun i=>its.getD i .none):=by
   intro il
   induction il with
   | nil=>intro _; exact .nil
   | cons i il ih=>
    intro h
    obtain ⟨t1,e1⟩:=gX rv i (h i List.mem_cons_self)
    refine .cons ?_ (ih fun x hx=>h x (List.mem_cons_of_mem _ hx))
    exact ⟨t1,e1⟩
  have rv2:=outs p.toList fun i hi=>List.mem_range.mp ((List.Perm.mem_iff hl2).mp hi)
  refine KasFin.intro (news:=(l,seqObj "list" #[] e1) :: nw) (g:=fun o'=>(l,o') :: nw) F' N' (.head nl0) fun h2 c F2 N2=>?_
  have pq:=ji (d:=default) rfl re
  have I2:=I.setList (D:=l) hm hq rv2 (by rw [List.length_map,pq.length_eq]; simpa using hz) F2.ns (keep h2 _ N2) (N2 (l,_) List.mem_cons_self).1
  exact ⟨_,rfl,q _ h2 pq (fe (R:=sF) (fun i j _ _ h=>(of_decide_eq_true h:(ps.getD i default).cps.toList < (ps.getD j default).cps.toList)) re up) I2⟩
end
section
variable {X:Cx}
def SetO (P:Program) (w:World) (a:Addr) (xs:List Str):HO:=.ext fun h=>dC P w h a xs
theorem qz (hc:X.calm=true):bM X (.type "set") (fun xs H Q=>∃ (l:Addr) (ys:List Str),xs=[.ref l]/\SqL X.K H l (ys.map V.str)/\ys.length<=1000 /\
  ∀ (a:Addr) (zs:List Str),H a=none->zs.Nodup->(∀ x,x∈zs↔x∈ys)->zs.length<=ys.length->Q (.ref a) (upd H a (SetO X.prog X.w a zs))):=by
 intro pins s σ H xs us Q I r h
 obtain ⟨l,ys,rfl,hq,hy,q⟩:=h
 obtain ⟨u,rfl,ru⟩:=cC r
 cases ru
 obtain ⟨its,rv,p,hz⟩:=I.list hq
 have li:its.length=ys.length:=by have:=rv.length; rw [List.length_map] at this; exact this.symm
 have hb:its.toArray.size + 1 < scanBound:=by rw [List.size_toArray,li]; unfold scanBound; omega
 refine iZ (ys:=ys) (I.ok.hd hc) p.isList (fun i v hv=>?_) hb fun h' tk hS k=>?_
 ·have hv':its[i]?=some v:=by simpa using hv
  have hi:i < ys.length:=by rw [<- li]; exact (List.getElem?_eq_some_iff.mp hv').1
  obtain ⟨t,e⟩:=gX rv i hi
  refine ⟨t,?_⟩
  rw [<- e]
  simp [List.getD,hv']
 ·have sz:its.toArray.size=ys.length:=by rw [List.size_toArray,li]
  rw [sz] at hS
  refine ⟨.ref s.heap.objs.size,_,I.laid (a:=s.heap.objs.size) (o:=SetO X.prog X.w s.heap.objs.size (uq (fun i=>ys.getD i default) ys.length)) (t':=tk) (fun b u e=>k b u (Heap.lt_size e) e) (Nat.le_refl _) ?_,rfl,q _ _ I.fresh (gf _ _) (fun x=>?_) (kK _ _)⟩
  ·refine ⟨hS,?_,fun h1 h2 x kk=>dC.at' x kk⟩
   obtain ⟨o,_,_,_,ho,_⟩:=hS
   exact ⟨o,ho⟩
  ·rw [oH]
   constructor
   ·rintro ⟨j,hj,rfl⟩
    have e:ys.getD j default=ys[j]:=by simp [List.getD,hj]
    rw [e]; exact List.getElem_mem hj
   ·intro hx
    obtain ⟨j,hj,rfl⟩:=List.getElem_of_mem hx
    exact ⟨j,hj,by simp [List.getD,hj]⟩
theorem kO (hc:X.calm=true):bM X (.builtin "sorted") (fun xs H Q=>∃ (a:Addr) (zs:List Str),xs=[.ref a]/\H a=some (SetO X.prog X.w a zs)/\zs.Nodup/\zs.length < 64 /\
  ∀ (l:Addr) (qs:List Str),H l=none->qs.Perm zs->qs.Pairwise sF->Q (.ref l) (upd H l (.lst (qs.map V.str)))):=by
 intro pins s σ H xs us Q I r h
 obtain ⟨a,zs,rfl,ha,nd,h64,q⟩:=h
 obtain ⟨u,rfl,ru⟩:=cC r
 cases ru
 obtain ⟨hS,_,_⟩:=(show aU X.prog X.w H s.heap a (SetO X.prog X.w a zs) from I.hok a _ ha)
 refine Calls.call_function_entry kind_sorted plain_sorted entry_sorted (args_sorted1 _) ?_
 unfold Builtin.«sorted»
 refine wpAny_bind (m:=checkCount "sorted" 1 1 _) (wpAny_pure (wpAny_bind (lP (A:=X.A.in1) (I.ok.hd hc) hS (by omega) fun h' d tk vs os k rv hp=>?_)))
 have I1:Inv X pins σ H { s with heap:=h',gens:=s.gens,drawn:=d,toks:=tk }:=I.call (ch:=[]) (Un.kept k) (I.hok.kept k) I.bare fun b hb=>nomatch hb
 have lv:vs.length=zs.length:=by have:=rv.length; rw [List.length_map,hp.length_eq] at this; exact this.symm
 refine wpAny_bind (wpAny_newList ?_ (by rw [lv,sizeLine_eq]; omega))
 have I2:=I1.lnew (t':=tk) rv (by rw [List.length_map,hp.length_eq,sizeLine_eq]; omega)
 refine wpAny_bind (wpAny_holding (qR (A:=X.A.in1) (l:=h'.objs.size) (ps:=os) I2 af (hp.nodup_iff.mpr nd) (by rw [hp.length_eq]; exact h64) fun qs h2 pq pw I3=>?_))
 rw [lg] at I3
 exact wpAny_pure ⟨_,rfl,.ref h'.objs.size,_,I3,rfl,q _ qs I1.fresh (pq.trans hp) pw⟩
end
section
variable {X:Cx}
theorem vk {j:Int} (h0:0 < j) (h1:j < 10 ^ 60):j.natAbs.log2 < 9000:=by
 have hn:j.natAbs < 2 ^ 200:=by omega
 have:=(Nat.log2_lt (n:=j.natAbs) (k:=200) (by omega)).mpr hn
 omega
def xC (i j:Int):Prop:=0 < j/\j < 10 ^ 60
theorem md:OpR X (binaryOp .FloorDiv) (rI xC fun i j=>.int (i / j)):=opI fun i j _ _ _ _ _ hc q=>by
 have h1:(0:Int) < j:=hc.1
 exact floordiv_int (by omega) (by rw [Int.fdiv_eq_ediv_of_nonneg i (by omega)]; exact q) (.inl (PyProof.noPylong_of_log2 (vk hc.1 hc.2)))
end
section
variable {X:Cx}
end
open PySem PySem.Spec PyProof.Rows
section
variable {prog:Program} {w:World} {A:Around} {E:Value->Shared->Prop} {s:Shared}
end
section
variable {X:Cx}
end
open PySem PySem.Spec PyProof.Rows PySem.W
section
variable {X:Cx}
variable {tg:Expr}
end
noncomputable def dD (p:Prop):Bool:=@decide p (Classical.propDecidable p)
theorem dg {p:Prop}:dD p=true↔p:=by unfold dD; exact @decide_eq_true_iff p (Classical.propDecidable p)
theorem bG {p:Prop} {b:Bool} (h:b=true↔p):b=dD p:=by rw [Bool.eq_iff_iff,dg]; exact h
theorem bu {p:Prop} (h:¬ p):false=dD p:=bG ⟨fun z=>(nomatch z),fun z=>absurd z h⟩
mutual
theorem Rep.inj {H:Hp}:∀ (d e:Dv) (v:V),Rep H d v->Rep H e v->d=e
 | .tup ds,e,v,h1,h2=>by
  simp only [Rep] at h1
  obtain ⟨a,vs,rfl,ha,rs⟩:=h1
  cases e with
  | tup es=>simp only [Rep] at h2; obtain ⟨b,ws,eb,hb,rs2⟩:=h2; cases eb; rw [ha] at hb; cases hb; rw [Reps.inj ds es vs rs rs2]
  | lst es=>simp only [Rep] at h2; obtain ⟨b,ws,eb,hb,rs2⟩:=h2; cases eb; rw [ha] at hb; cases hb
  | dct=>simp only [Rep] at h2; obtain ⟨b,eb,hb⟩:=h2; cases eb; rw [ha] at hb; cases hb
  | _=>simp only [Rep] at h2; cases h2
 | .lst ds,e,v,h1,h2=>by
  simp only [Rep] at h1
  obtain ⟨a,vs,rfl,ha,rs⟩:=h1
  cases e with
  | lst es=>simp only [Rep] at h2; obtain ⟨b,ws,eb,hb,rs2⟩:=h2; cases eb; rw [ha] at hb; cases hb; rw [Reps.inj ds es vs rs rs2]
  | tup es=>simp only [Rep] at h2; obtain ⟨b,ws,eb,hb,rs2⟩:=h2; cases eb; rw [ha] at hb; cases hb
  | dct=>simp only [Rep] at h2; obtain ⟨b,eb,hb⟩:=h2; cases eb; rw [ha] at hb; cases hb
  | _=>simp only [Rep] at h2; cases h2
 | .dct,e,v,h1,h2=>by
  simp only [Rep] at h1
  obtain ⟨a,rfl,ha⟩:=h1
  cases e with
  | dct=>rfl
  | tup es=>simp only [Rep] at h2; obtain ⟨b,ws,eb,hb,rs2⟩:=h2; cases eb; rw [ha] at hb; cases hb
  | lst es=>simp only [Rep] at h2; obtain ⟨b,ws,eb,hb,rs2⟩:=h2; cases eb; rw [ha] at hb; cases hb
  | _=>simp only [Rep] at h2; cases h2
 | .non,e,v,h1,h2=>by
  simp only [Rep] at h1; subst h1
  cases e with
  | non=>rfl
  | tup es=>simp only [Rep] at h2; obtain ⟨b,ws,eb,_⟩:=h2; cases eb
  | lst es=>simp only [Rep] at h2; obtain ⟨b,ws,eb,_⟩:=h2; cases eb
  | dct=>simp only [Rep] at h2; obtain ⟨b,eb,_⟩:=h2; cases eb
  | _=>simp only [Rep] at h2; cases h2
 | .bl _,e,v,h1,h2=>by
  simp only [Rep] at h1; subst h1
  cases e with
  | bl b=>simp only [Rep] at h2; cases h2; rfl
  | tup es=>simp only [Rep] at h2; obtain ⟨b,ws,eb,_⟩:=h2; cases eb
  | lst es=>simp only [Rep] at h2; obtain ⟨b,ws,eb,_⟩:=h2; cases eb
  | dct=>simp only [Rep] at h2; obtain ⟨b,eb,_⟩:=h2; cases eb
  | _=>simp only [Rep] at h2; cases h2
 | .int _,e,v,h1,h2=>by
  simp only [Rep] at h1; subst h1
  cases e with
  | int b=>simp only [Rep] at h2; cases h2; rfl
  | tup es=>simp only [Rep] at h2; obtain ⟨b,ws,eb,_⟩:=h2; cases eb
  | lst es=>simp only [Rep] at h2; obtain ⟨b,ws,eb,_⟩:=h2; cases eb
  | dct=>simp only [Rep] at h2; obtain ⟨b,eb,_⟩:=h2; cases eb
  | _=>simp only [Rep] at h2; cases h2
 | .str _,e,v,h1,h2=>by
  simp only [Rep] at h1; subst h1
  cases e with
  | str b=>simp only [Rep] at h2; cases h2; rfl
  | tup es=>simp only [Rep] at h2; obtain ⟨b,ws,eb,_⟩:=h2; cases eb
  | lst es=>simp only [Rep] at h2; obtain ⟨b,ws,eb,_⟩:=h2; cases eb
  | dct=>simp only [Rep] at h2; obtain ⟨b,eb,_⟩:=h2; cases eb
  | _=>simp only [Rep] at h2; cases h2
theorem Reps.inj {H:Hp}:∀ (ds es:List Dv) (vs:List V),Reps H ds vs->Reps H es vs->ds=es
 | [],es,vs,h1,h2=>by
  simp only [Reps] at h1; subst h1
  cases es with
  | nil=>rfl
  | cons e es=>simp only [Reps] at h2; obtain ⟨v,r,e2,_⟩:=h2; cases e2
 | d :: ds,es,vs,h1,h2=>by
  simp only [Reps] at h1
  obtain ⟨v,r,rfl,r1,rs1⟩:=h1
  cases es with
  | nil=>simp only [Reps] at h2; cases h2
  | cons e es=>
   simp only [Reps] at h2
   obtain ⟨v2,r2,e2,r3,rs3⟩:=h2
   cases e2
   rw [Rep.inj d e v r1 r3,Reps.inj ds es r rs1 rs3]
end
inductive Pl:Nat->Dv->Prop
 | int {n:Nat} {i:Int}:Pl n (.int i)
 | str {n:Nat} {x:Str}:Pl n (.str x)
 | non {n:Nat}:Pl n .non
 | tup {n:Nat} {ds:List Dv}:(∀ d∈ds,Pl n d)->Pl (n + 1) (.tup ds)
theorem Pl.up {m n:Nat} {d:Dv} (h:Pl m d):m<=n->Pl n d:=by
 induction h generalizing n with
 | int=>intro _; exact .int
 | str=>intro _; exact .str
 | non=>intro _; exact .non
 | tup _ ih=>
  intro l
  obtain ⟨k,rfl⟩:∃ k,n=k + 1:=⟨n - 1,by omega⟩
  exact .tup fun d hd=>ih d hd (by omega)
theorem ip {ds es:List Dv}:((List.range (min ds.length es.length)).all (fun j=>dD (ds[j]?=es[j]?)) && ds.length == es.length)=dD (Dv.tup ds=.tup es):=by
 refine bG ?_
 rw [Bool.and_eq_true,List.all_eq_true,beq_iff_eq]
 constructor
 ·rintro ⟨h,hl⟩
  congr 1
  refine List.ext_getElem? fun j=>?_
  by_cases hj:j < ds.length
  ·exact dg.mp (h j (List.mem_range.mpr (by omega)))
  ·rw [List.getElem?_eq_none (by omega),List.getElem?_eq_none (by omega)]
 ·intro h
  cases h
  exact ⟨fun j _=>dg.mpr rfl,rfl⟩
section
variable {X:Cx} {pins:List (Addr×Obj)} {σ:St} {H:Hp} {s:Shared}
theorem iF (I:Inv X pins σ H s) {A:Around} {n:Nat} {ds es:List Dv} {vs ws:List V} {its its2:List Value}
  (h:∀ d∈ds,∀ e∈es,∀ (v w:V) (a b:Value),Rep H d v->Rep H e w->aV v a->aV w b->SeqAt.EqAt A s a b (dD (d=e))) (rs1:Reps H ds vs) (rs2:Reps H es ws) (rv1:aP vs its) (rv2:aP ws its2) :
  its.toArray.size=ds.length/\its2.toArray.size=es.length/\∀ j (h1:j < its.toArray.size) (h2:j < its2.toArray.size),SeqAt.EqAt A s its.toArray[j] its2.toArray[j] (dD (ds[j]?=es[j]?)):=by
 have l1:=rs1.length
 have l2:=rs2.length
 have l3:=rv1.length
 have l4:=rv2.length
 refine ⟨by simp; omega,by simp; omega,fun j h1 h2=>?_⟩
 have hj:j < its.length:=by simpa using h1
 have hj2:j < its2.length:=by simpa using h2
 obtain ⟨u,hu1,ru⟩:=aP.get (i:=j) (x:=vs[j]'(by omega)) rv1 (List.getElem?_eq_getElem _)
 obtain ⟨u2,hu2,ru2⟩:=aP.get (i:=j) (x:=ws[j]'(by omega)) rv2 (List.getElem?_eq_getElem _)
 obtain ⟨d,hd,Rd⟩:=rs1.get (i:=j) (v:=vs[j]'(by omega)) (List.getElem?_eq_getElem _)
 obtain ⟨d2,hd2,Rd2⟩:=rs2.get (i:=j) (v:=ws[j]'(by omega)) (List.getElem?_eq_getElem _)
 have e1:its.toArray[j]=u:=by
  rw [List.getElem?_eq_getElem hj] at hu1
  simpa using Option.some.inj hu1
 have e2:its2.toArray[j]=u2:=by
  rw [List.getElem?_eq_getElem hj2] at hu2
  simpa using Option.some.inj hu2
 rw [e1,e2,hd,hd2]
 have e3:dD (some d=some d2)=dD (d=d2):=bG (by rw [dg]; exact ⟨Option.some.inj,fun z=>by rw [z]⟩)
 rw [e3]
 exact h d (List.mem_of_getElem? hd) d2 (List.mem_of_getElem? hd2) _ _ _ _ Rd Rd2 ru ru2
theorem vq (I:Inv X pins σ H s) {n:Nat} {d:Dv} (h:Pl n d):∀ {e:Dv},Pl n e->∀ {A:Around} {v w:V} {a b:Value},A.units + n < cLine->Rep H d v->Rep H e w->aV v a->aV w b->SeqAt.EqAt A s a b (dD (d=e)):=by
 induction h with
 | @int n i=>
  intro e he A v w a b hu r1 r2 q1 q2
  simp only [Rep] at r1
  subst r1
  obtain ⟨t,rfl⟩:=(show ∃ t,a=Value.int i t from q1)
  cases he with
  | @int _ j=>simp only [Rep] at r2; subst r2; obtain ⟨u,rfl⟩:=(show ∃ t,b=Value.int j t from q2); rw [<- bG (b:=(i == j)) (by rw [beq_iff_eq]; exact ⟨fun z=>by rw [z],fun z=>Dv.int.inj z⟩)]; exact SeqAt.EqAt.int_int i t j u
  | @str _ x=>simp only [Rep] at r2; subst r2; obtain ⟨u,rfl⟩:=(show ∃ t,b=Value.str x t from q2); rw [<- bu nofun]; exact SeqAt.EqAt.int_str i t x u
  | non=>simp only [Rep] at r2; subst r2; cases q2; rw [<- bu nofun]; exact SeqAt.EqAt.int_none i t
  | @tup n es _=>simp only [Rep] at r2; obtain ⟨l,ws,rfl,hl,_⟩:=r2; cases q2; obtain ⟨its,_,p,_⟩:=I.tuple (SqT.of hl); rw [<- bu nofun]; exact SeqAt.EqAt.int_tuple i t p (by omega)
 | @str n x=>
  intro e he A v w a b hu r1 r2 q1 q2
  simp only [Rep] at r1
  subst r1
  obtain ⟨t,rfl⟩:=(show ∃ t,a=Value.str x t from q1)
  cases he with
  | @int _ j=>simp only [Rep] at r2; subst r2; obtain ⟨u,rfl⟩:=(show ∃ t,b=Value.int j t from q2); rw [<- bu nofun]; exact SeqAt.EqAt.str_int x t j u
  | @str _ y=>simp only [Rep] at r2; subst r2; obtain ⟨u,rfl⟩:=(show ∃ t,b=Value.str y t from q2); rw [<- bG (b:=(x == y)) (by rw [beq_iff_eq]; exact ⟨fun z=>by rw [z],fun z=>Dv.str.inj z⟩)]; exact SeqAt.EqAt.str_str x t y u
  | non=>simp only [Rep] at r2; subst r2; cases q2; rw [<- bu nofun]; exact SeqAt.EqAt.str_none x t
  | @tup n es _=>simp only [Rep] at r2; obtain ⟨l,ws,rfl,hl,_⟩:=r2; cases q2; obtain ⟨its,_,p,_⟩:=I.tuple (SqT.of hl); rw [<- bu nofun]; exact SeqAt.EqAt.str_tuple x t p (by omega)
 | @non n=>
  intro e he A v w a b hu r1 r2 q1 q2
  simp only [Rep] at r1
  subst r1
  cases q1
  cases he with
  | @int _ j=>simp only [Rep] at r2; subst r2; obtain ⟨u,rfl⟩:=(show ∃ t,b=Value.int j t from q2); rw [<- bu nofun]; exact SeqAt.EqAt.none_int j u
  | @str _ y=>simp only [Rep] at r2; subst r2; obtain ⟨u,rfl⟩:=(show ∃ t,b=Value.str y t from q2); rw [<- bu nofun]; exact SeqAt.EqAt.none_str y u
  | non=>simp only [Rep] at r2; subst r2; cases q2; rw [<- bG (b:=true) ⟨fun _=>rfl,fun _=>rfl⟩]; exact SeqAt.EqAt.same _
  | @tup n es _=>simp only [Rep] at r2; obtain ⟨l,ws,rfl,hl,_⟩:=r2; cases q2; obtain ⟨its,_,p,_⟩:=I.tuple (SqT.of hl); rw [<- bu nofun]; exact SeqAt.EqAt.none_tuple p (by omega)
 | @tup n ds hds ih=>
  intro e he A v w a b hu r1 r2 q1 q2
  have r1':=r1
  simp only [Rep] at r1
  obtain ⟨l,vs,rfl,h1,rs1⟩:=r1
  cases q1
  obtain ⟨its,rv1,p1,_⟩:=I.tuple (SqT.of h1)
  cases he with
  | @int _ j=>simp only [Rep] at r2; subst r2; obtain ⟨u,rfl⟩:=(show ∃ t,b=Value.int j t from q2); rw [<- bu nofun]; exact SeqAt.EqAt.tuple_int j u p1 (by omega)
  | @str _ y=>simp only [Rep] at r2; subst r2; obtain ⟨u,rfl⟩:=(show ∃ t,b=Value.str y t from q2); rw [<- bu nofun]; exact SeqAt.EqAt.tuple_str y u p1 (by omega)
  | non=>simp only [Rep] at r2; subst r2; cases q2; rw [<- bu nofun]; exact SeqAt.EqAt.tuple_none p1 (by omega)
  | @tup _ es hes=>
   have r2':=r2
   simp only [Rep] at r2
   obtain ⟨b',ws,rfl,h2,rs2⟩:=r2
   cases q2
   obtain ⟨its2,rv2,p2,_⟩:=I.tuple (SqT.of h2)
   have hu':A.in1.units + n < cLine:=by show A.units + 1 + n < cLine; omega
   obtain ⟨z1,z2,q⟩:=iF I (A:=A.in1) (n:=n) (fun d hd e he v w a b r1 r2 q1 q2=>ih d hd (hes e he) hu' r1 r2 q1 q2) rs1 rs2 rv1 rv2
   by_cases hlb:l=b'
   ·subst hlb
    rw [<- bG (b:=true) ⟨fun _=>Rep.inj _ _ _ r1' r2',fun _=>rfl⟩]
    exact SeqAt.EqAt.same _
   ·have r:=SeqAt.RcAt.tuples (e:=fun j=>dD (ds[j]?=es[j]?)) p1 p2 (by omega) q
    rw [z1,z2,ip] at r
    exact SeqAt.EqAt.of_refs hlb r
end
section
variable {X:Cx}
end
section
variable {X:Cx} {k:Nat} {f:Addr} {fd:FuncData} {ps:List Str} {sp:Sp} {x:Str} {p pos:Pos} {e:Expr} {es:List Expr} {t:TA}
end
section
variable {prog:Program} {w:World} {A:Around} {E:Value->Shared->Prop} {s:Shared} {r l S:Addr} {items:Array Value}
end
section
variable {X:Cx} {e:Expr} {te:TE} {p p1 pos pos1:Pos}
end
section
variable {X:Cx}
end
section
variable {X:Cx} {pins:List (Addr×Obj)} {s:Shared} {σ:St} {H:Hp}
end
section
variable {X:Cx}
end
section
end
section
variable {prog:Program} {w:World} {A:Around} {E:Value->Shared->Prop} {s:Shared}
end
section
variable {X:Cx} {tg e:Expr} {ta:TA} {p pos:Pos}
end
section
variable {X:Cx}
end
section
variable {X:Cx}
end
open PySem PySem.Spec PyProof.Rows
section
variable {σ:St} {H:Hp} {d e:Dv} {ds es:List Dv} {ta tb:TE} {t:TA} {l:Addr}
variable {i:Nat} {u:TS} {D:gm}
end
open PySem PySem.Spec PyProof.Rows PySem.W
section
variable {X:Cx}
end
section
variable {prog:Program} {w:World} {A:Around} {E:Value->Shared->Prop} {s:Shared}
end
section
variable {X:Cx}
end
section
variable {prog:Program} {w:World} {A:Around} {E:Value->Shared->Prop} {s:Shared}
end
section
variable {X:Cx}
end
section
variable {X:Cx} {pins:List (Addr×Obj)} {s:Shared} {σ:St} {H:Hp} {a:Addr} {kvs:List (Str×Addr)}
end
section
variable {prog:Program} {w:World} {A:Around} {E:Value->Shared->Prop} {s:Shared}
end
section
variable {X:Cx}
end
section
variable {X:Cx}
def xv:R2:=fun x y H Q=>∃ (n:Nat) (ds:List Dv),(∀ d∈ds,Pl n d)/\n<=140/\Rep H (.lst ds) x/\Rep H (.lst ds) y/\Q (.bl false) H
theorem vn (hu:X.A.units + 150 < cLine):OpR X (compareOp .NotEq) xv:=by
 intro pins s σ H x y v u Q I rx ry h
 obtain ⟨n,ds,hd,hn,r1,r2,q⟩:=h
 simp only [Rep] at r1 r2
 obtain ⟨l,vs,rfl,h1,rs1⟩:=r1
 obtain ⟨b',ws,rfl,h2,rs2⟩:=r2
 cases rx
 cases ry
 obtain ⟨its,rv1,p1,_⟩:=I.list (SqL.of h1)
 obtain ⟨its2,rv2,p2,_⟩:=I.list (SqL.of h2)
 have hu':X.A.in1.units + n < cLine:=by show X.A.units + 1 + n < cLine; omega
 obtain ⟨z1,z2,w⟩:=iF I (A:=X.A.in1) (n:=n) (fun d hd1 e he v w a b r1 r2 q1 q2=>vq I (hd d hd1) (hd e he) hu' r1 r2 q1 q2) rs1 rs2 rv1 rv2
 refine SeqAt.RcNeAt.lists (e:=fun j=>dD (ds[j]?=ds[j]?)) p1.isList p2.isList (by omega) (by omega) w X.prog X.w X.xe _ ?_
 have e:(!((List.range its.toArray.size).all fun j=>dD (ds[j]?=ds[j]?)))=false:=by
  rw [Bool.not_eq_false',List.all_eq_true]
  exact fun j _=>dg.mpr rfl
 rw [e]
 exact ⟨.bl false,H,I,rfl,q⟩
end
section
variable {prog:Program} {w:World} {A:Around} {E:Value->Shared->Prop} {s:Shared}
end
section
variable {X:Cx}
end
section
variable {X:Cx}
end
section
variable {X:Cx}
end
section
variable {prog:Program} {w:World} {A:Around} {E:Value->Shared->Prop}
end
section
variable {X:Cx} {pos:Pos}
end
end L2
namespace KB
open PySem L2
abbrev Pr:=Str×Int
def lN (p q:Pr):Prop:=p.1.cps.toList < q.1.cps.toList
def tm:List Pr->Str->Int
 | [],_=>0
 | p :: ps,x=>if p.1=x then p.2 else tm ps x
def cK:List Pr->Str->Int
 | [],_=>0
 | p :: ps,x=>(if p.1=x then p.2 else 0) + cK ps x
structure cX (ps:List Pr):Prop where
 pw:ps.Pairwise lN
 ge:∀ p∈ps,1<=p.2
theorem eD (a:List Nat):¬ a < a:=fun h=>List.lt_irrefl a h
theorem lV {a b:Str} (h:a.cps.toList=b.cps.toList):a=b:=by
 cases a
 cases b
 congr 1
 exact Array.ext' h
theorem iw {a b:List Nat} (h:¬ a < b) (h2:a≠b):b < a:=by
 by_cases h3:b < a
 ·exact h3
 ·exact absurd (List.le_antisymm (List.not_lt.mp h3) (List.not_lt.mp h)) h2
theorem eJ:∀ {ps:List Pr} {x:Str},(∀ p∈ps,p.1≠x)->tm ps x=0
 | [],_,_=>rfl
 | p :: ps,x,h=>by
  show (if p.1=x then p.2 else tm ps x)=0
  rw [if_neg (h p List.mem_cons_self)]
  exact eJ fun q hq=>h q (List.mem_cons_of_mem _ hq)
theorem lD:∀ {ps:List Pr},(ps.map (·.1)).Nodup->∀ {p:Pr},p∈ps->tm ps p.1=p.2
 | [],_,_,h=>nomatch h
 | q :: ps,nd,p,h=>by
  rw [List.map_cons,List.nodup_cons] at nd
  show (if q.1=p.1 then q.2 else tm ps p.1)=p.2
  rcases List.mem_cons.mp h with rfl | h
  ·rw [if_pos rfl]
  ·rw [if_neg (fun e:q.1=p.1=>nd.1 (by rw [e]; exact List.mem_map_of_mem h))]
   exact lD nd.2 h
theorem iT {ps:List Pr} {x:Str}:tm ps x≠0->∃ p∈ps,p.1=x:=fun h=>by
 by_cases hx:∃ p∈ps,p.1=x
 ·exact hx
 ·exact absurd (eJ fun p hp e=>hx ⟨p,hp,e⟩) h
theorem cr {ps:List Pr} (h:ps.Pairwise lN):(ps.map (·.1)).Nodup:=by
 rw [List.Nodup,List.pairwise_map]
 exact h.imp fun {a b} hab e=>by
  have hab':a.1.cps.toList < b.1.cps.toList:=hab
  rw [e] at hab'
  exact eD _ hab'
theorem uD {ps qs:List Pr} (nd:(ps.map (·.1)).Nodup) (h:ps.Perm qs) (x:Str):tm ps x=tm qs x:=by
 have nd':(qs.map (·.1)).Nodup:=(h.map _).nodup_iff.mp nd
 by_cases hx:∃ p∈ps,p.1=x
 ·obtain ⟨p,hp,rfl⟩:=hx
  rw [lD nd hp,lD nd' (h.mem_iff.mp hp)]
 ·rw [eJ fun p hp e=>hx ⟨p,hp,e⟩,eJ fun p hp e=>hx ⟨p,h.mem_iff.mpr hp,e⟩]
theorem gM:∀ {ps qs:List Pr},cX ps->cX qs->(∀ x,tm ps x=tm qs x)->ps=qs
 | [],[],_,_,_=>rfl
 | [],q :: qs,_,hq,h=>by
  have e:=h q.1
  have:tm (q :: qs) q.1=q.2:=by show (if q.1=q.1 then q.2 else _)=q.2; rw [if_pos rfl]
  rw [this] at e
  have:=hq.ge q List.mem_cons_self
  have e':(0:Int)=q.2:=e
  omega
 | p :: ps,[],hp,_,h=>by
  have e:=h p.1
  have:tm (p :: ps) p.1=p.2:=by show (if p.1=p.1 then p.2 else _)=p.2; rw [if_pos rfl]
  rw [this] at e
  have:=hp.ge p List.mem_cons_self
  have e':p.2=(0:Int):=e
  omega
 | p :: ps,q :: qs,hp,hq,h=>by
  have pp:=List.pairwise_cons.mp hp.pw
  have qq:=List.pairwise_cons.mp hq.pw
  have hp':cX ps:=⟨pp.2,fun x hx=>hp.ge x (List.mem_cons_of_mem _ hx)⟩
  have hq':cX qs:=⟨qq.2,fun x hx=>hq.ge x (List.mem_cons_of_mem _ hx)⟩
  have self:∀ (a:Pr) (l:List Pr),tm (a :: l) a.1=a.2:=fun a l=>by show (if a.1=a.1 then a.2 else _)=a.2; rw [if_pos rfl]
  have less:∀ (a b:Pr) (l:List Pr),lN a b->(∀ x∈l,lN b x)->tm (b :: l) a.1=0:=fun a b l hab hl=>eJ fun x hx e=>by
   have:lN a x:=by
    rcases List.mem_cons.mp hx with rfl | hx
    ·exact hab
    ·exact List.lt_trans (show a.1.cps.toList < b.1.cps.toList from hab) (hl x hx)
   have h2:a.1.cps.toList < x.1.cps.toList:=this
   rw [e] at h2
   exact eD _ h2
  have e1:p.1=q.1:=by
   apply lV
   by_cases h1:p.1.cps.toList < q.1.cps.toList
   ·have:=h p.1
    rw [self,less p q qs h1 qq.1] at this
    have h2:=hp.ge p List.mem_cons_self
    omega
   ·by_cases h3:p.1.cps.toList=q.1.cps.toList
    ·exact h3
    ·have h4:lN q p:=iw h1 h3
     have:=h q.1
     rw [self,less q p ps h4 pp.1] at this
     have h2:=hq.ge q List.mem_cons_self
     omega
  have e2:p.2=q.2:=by
   have:=h p.1
   rw [self] at this
   rw [e1,self] at this
   exact this
  have e3:p=q:=by
   cases p; cases q
   simp only at e1 e2
   rw [e1,e2]
  subst e3
  congr 1
  refine gM hp' hq' fun x=>?_
  by_cases hx:p.1=x
  ·subst hx
   have z:∀ (l:List Pr),(∀ y∈l,lN p y)->tm l p.1=0:=fun l hl=>eJ fun y hy e=>by
    have h2:p.1.cps.toList < y.1.cps.toList:=hl y hy
    rw [e] at h2
    exact eD _ h2
   rw [z ps pp.1,z qs qq.1]
  ·have:=h x
   have u:∀ l:List Pr,tm (p :: l) x=tm l x:=fun l=>by show (if p.1=x then p.2 else tm l x)=tm l x; rw [if_neg hx]
   rwa [u,u] at this
theorem gS (ps qs:List Pr) (x:Str):cK (ps ++ qs) x=cK ps x + cK qs x:=by
 induction ps with
 | nil=>show cK qs x=0 + cK qs x; omega
 | cons p ps ih=>
  show (if p.1=x then p.2 else 0) + cK (ps ++ qs) x=(if p.1=x then p.2 else 0) + cK ps x + cK qs x
  rw [ih]; omega
theorem jx:∀ {ps:List Pr} {x:Str},(∀ p∈ps,p.1≠x)->cK ps x=0
 | [],_,_=>rfl
 | p :: ps,x,h=>by
  show (if p.1=x then p.2 else 0) + cK ps x=0
  rw [if_neg (h p List.mem_cons_self),jx fun q hq=>h q (List.mem_cons_of_mem _ hq)]
  rfl
theorem kZ:∀ {ps:List Pr},(ps.map (·.1)).Nodup->∀ x,cK ps x=tm ps x
 | [],_,_=>rfl
 | p :: ps,nd,x=>by
  rw [List.map_cons,List.nodup_cons] at nd
  show (if p.1=x then p.2 else 0) + cK ps x=if p.1=x then p.2 else tm ps x
  by_cases h:p.1=x
  ·rw [if_pos h,if_pos h,jx (x:=x) fun q hq e=>nd.1 (h▸e▸List.mem_map_of_mem hq)]
   omega
  ·rw [if_neg h,if_neg h,kZ nd.2 x]
   omega
def bC (kvs:List Pr) (x:Str) (n:Int):List Pr:=if (kvs.any fun p=>decide (p.1=x))=true then kvs.map (fun p=>if p.1=x then (p.1,n) else p) else kvs ++ [(x,n)]
theorem oh {ps:List Pr} {x y:Str} {n:Int} (h:∀ p∈ps,p.1≠y):tm (ps ++ [(x,n)]) y=if x=y then n else 0:=by
 induction ps with
 | nil=>rfl
 | cons p ps ih=>
  show (if p.1=y then p.2 else tm (ps ++ [(x,n)]) y)=_
  rw [if_neg (h p List.mem_cons_self),ih fun q hq=>h q (List.mem_cons_of_mem _ hq)]
theorem jT {ps:List Pr} {x y:Str} {n:Int} (h:x≠y):tm (ps ++ [(x,n)]) y=tm ps y:=by
 induction ps with
 | nil=>show (if x=y then n else 0)=0; rw [if_neg h]
 | cons p ps ih=>
  show (if p.1=y then p.2 else tm (ps ++ [(x,n)]) y)=if p.1=y then p.2 else tm ps y
  rw [ih]
theorem ki {ps:List Pr} {x y:Str} {n:Int} (h:x≠y):tm (ps.map fun p=>if p.1=x then (p.1,n) else p) y=tm ps y:=by
 induction ps with
 | nil=>rfl
 | cons p ps ih=>
  rw [List.map_cons]
  by_cases hp:p.1=x
  ·rw [if_pos hp]
   show (if p.1=y then n else tm _ y)=if p.1=y then p.2 else tm ps y
   rw [if_neg (fun e=>h (hp.symm.trans e)),if_neg (fun e=>h (hp.symm.trans e)),ih]
  ·rw [if_neg hp]
   show (if p.1=y then p.2 else tm _ y)=if p.1=y then p.2 else tm ps y
   rw [ih]
theorem nE {ps:List Pr} {x:Str} {n:Int} (h:∃ p∈ps,p.1=x):tm (ps.map fun p=>if p.1=x then (p.1,n) else p) x=n:=by
 induction ps with
 | nil=>obtain ⟨p,hp,_⟩:=h; nomatch hp
 | cons p ps ih=>
  rw [List.map_cons]
  by_cases hp:p.1=x
  ·rw [if_pos hp]
   show (if p.1=x then n else _)=n
   rw [if_pos hp]
  ·rw [if_neg hp]
   show (if p.1=x then p.2 else tm _ x)=n
   rw [if_neg hp]
   refine ih ?_
   obtain ⟨q,hq,e⟩:=h
   rcases List.mem_cons.mp hq with rfl | hq
   ·exact absurd e hp
   ·exact ⟨q,hq,e⟩
theorem tR (kvs:List Pr) (x:Str) (n:Int) (y:Str):tm (bC kvs x n) y=if x=y then n else tm kvs y:=by
 unfold bC
 split
 ·rename_i h
  rw [List.any_eq_true] at h
  obtain ⟨p,hp,e⟩:=h
  by_cases hy:x=y
  ·subst hy; rw [if_pos rfl,nE ⟨p,hp,of_decide_eq_true e⟩]
  ·rw [if_neg hy,ki hy]
 ·rename_i h
  have no:∀ p∈kvs,p.1≠x:=fun p hp e=>h (List.any_eq_true.mpr ⟨p,hp,decide_eq_true e⟩)
  by_cases hy:x=y
  ·subst hy; rw [oh no,if_pos rfl,if_pos rfl]
  ·rw [if_neg hy,jT hy]
theorem eZ {ps qs:List Pr} (pw:ps.Pairwise lN) (h:ps.Perm qs) (x:Str):tm ps x=tm qs x:=uD (cr pw) h x
theorem eS {ps:List Pr} (h:∀ p∈ps,0<=p.2) (x:Str):0<=tm ps x:=by
 induction ps with
 | nil=>exact Int.le_refl 0
 | cons p ps ih=>
  show 0<=if p.1=x then p.2 else tm ps x
  split
  ·exact h p List.mem_cons_self
  ·exact ih fun q hq=>h q (List.mem_cons_of_mem _ hq)
def W (num:Str->Int):List Pr->Int
 | []=>0
 | p :: ps=>p.2 * num p.1 + W num ps
theorem xp (num:Str->Int) (ps:List Pr):(ps.map fun p=>p.2 * num p.1).sum=W num ps:=by
 induction ps with
 | nil=>rfl
 | cons p ps ih=>rw [List.map_cons,List.sum_cons,ih]; rfl
theorem pP {num:Str->Int} {B:Int} (hB:0<=B) (h0:∀ x,0<=num x/\num x<=60):∀ {ps:List Pr},(∀ p∈ps,0<=p.2/\p.2<=B)->0<=W num ps/\W num ps<=ps.length * (B * 60)
 | [],_=>⟨Int.le_refl 0,by show (0:Int)<=0 * (B * 60); omega⟩
 | p :: ps,h=>by
  obtain ⟨i0,i1⟩:=pP hB h0 fun q hq=>h q (List.mem_cons_of_mem _ hq)
  obtain ⟨p0,p1⟩:=h p List.mem_cons_self
  obtain ⟨n0,n1⟩:=h0 p.1
  have m0:0<=p.2 * num p.1:=Int.mul_nonneg p0 n0
  have m1:p.2 * num p.1<=B * 60:=Int.mul_le_mul p1 n1 n0 hB
  refine ⟨by show 0<=p.2 * num p.1 + W num ps; omega,?_⟩
  show p.2 * num p.1 + W num ps<=((ps.length + 1:Nat):Int) * (B * 60)
  rw [Int.natCast_add,Int.add_mul]
  omega
def nmB (x:Str):Bool:=decide (1<=x.cps.size) && decide (x.cps.size<=8) && x.cps.toList.all fun c=>decide (97<=c) && decide (c<=122)
def azB (c:Nat):Bool:=decide (97<=c) && decide (c<=122)
theorem Rep.tup_inv {H:Hp} {ds:List Dv} {v:V} (h:Rep H (.tup ds) v):∃ a vs,v=.ref a/\H a=some (.tup vs)/\Reps H ds vs:=by simpa only [Rep] using h
theorem Reps.two {H:Hp} {d e:Dv} {vs:List V} (h:Reps H [d,e] vs):∃ x y,vs=[x,y]/\Rep H d x/\Rep H e y:=by
 simp only [Reps] at h
 obtain ⟨x,r,rfl,h1,y,r2,rfl,h2,rfl⟩:=h
 exact ⟨x,y,rfl,h1,h2⟩
def Az (x:Str) (n:Nat):Prop:=x.cps.toList.length=n/\∀ c∈x.cps.toList,azB c=true
theorem Az.len {x:Str} {n:Nat} (h:Az x n):x.length=n:=by
 have e:x.cps.toList.length=x.length:=Array.length_toList
 rw [<- e]; exact h.1
theorem oe {x y:Str} {n m:Nat} (h:Az x n) (g:Az y m):Az (x ++ y) (n + m):=by
 have e:=PySem.W.KT.app_list x y
 refine ⟨by rw [e,List.length_append,h.1,g.1],fun c hc=>?_⟩
 rw [e] at hc
 rcases List.mem_append.mp hc with hc | hc
 ·exact h.2 c hc
 ·exact g.2 c hc
theorem kW {c:Nat} (h:azB c=true):Az ⟨#[c]⟩ 1:=⟨rfl,fun d hd=>by
 have e:d=c:=by simpa using hd
 rw [e]; exact h⟩
theorem rR:Az Str.empty 0:=⟨rfl,fun d hd=>by cases hd⟩
theorem vj {x:Str} {n:Nat} {i:Int} (h:Az x n) (h0:0<=i) (h1:i<=n):Az (Txt.slice x (some i) none) (n - i.toNat):=by
 have e:=PyProof.Rows.slice_from_eq (x:=x) (i:=i) (b:=(x.length:Int)) h0 (by rw [h.len]; exact h1) rfl
 rw [e]
 refine ⟨?_,fun c hc=>?_⟩
 ·show ((x.cps.toList.drop i.toNat).take ((x.length:Int) - i).toNat).toArray.toList.length=_
  simp only [List.length_take,List.length_drop,h.1,h.len]
  omega
 ·have hc':c∈(x.cps.toList.drop i.toNat).take ((x.length:Int) - i).toNat:=by simpa using hc
  exact h.2 c (List.mem_of_mem_drop (List.mem_of_mem_take hc'))
theorem xJ {x:Str} {n:Nat} {i:Int} (h:Az x n) (h0:0<=i) (h1:i<=n):Az (Txt.slice x none (some i)) i.toNat:=by
 have e:=eq_of_beq (PyProof.Rows.slice_closes_toL (x:=x) (j:=i) h0 (by rw [h.len]; exact h1))
 rw [e]
 refine ⟨?_,fun c hc=>?_⟩
 ·show ((x.cps.toList.drop (0:Int).toNat).take (i - 0).toNat).toArray.toList.length=_
  simp only [List.length_take,List.length_drop,h.1]
  have:(0:Int).toNat=0:=rfl
  omega
 ·have hc':c∈(x.cps.toList.drop (0:Int).toNat).take (i - 0).toNat:=by simpa using hc
  exact h.2 c (List.mem_of_mem_drop (List.mem_of_mem_take hc'))
theorem xZ {x:Str} {n:Nat} (h:Az x n) (h1:1<=n) (h8:n<=8):nmB x=true:=by
 unfold nmB
 have e:x.cps.size=n:=by have:=h.1; simpa using this
 rw [e,decide_eq_true h1,decide_eq_true h8,Bool.and_self,Bool.true_and]
 exact List.all_eq_true.mpr fun c hc=>h.2 c hc
def dk (kvs:List (Str×Int)):List (Key×V):=kvs.map fun p=>(Sum.inr p.1,V.int p.2)
def cO (c:Int) (ps:List (Str×Int)):Dv:=.tup [.int c,.tup (ps.map fun p=>.tup [.str p.1,.int p.2])]
def tkV (r:TK):Str×Int:=(r.2.1,match r.2.2 with | [.int n]=>n | _=>0)
theorem gI {H:Hp}:∀ {rs:List TK},(∀ r∈rs,H r.1=some (.tup [.str (tkV r).1,.int (tkV r).2]))->Reps H ((rs.map tkV).map fun p=>Dv.tup [.str p.1,.int p.2]) (rs.map fun r=>V.ref r.1)
 | [],_=>by simp [Reps]
 | r :: rs,h=>by
  simp only [List.map_cons,Reps]
  refine ⟨_,_,rfl,?_,gI fun x hx=>h x (List.mem_cons_of_mem _ hx)⟩
  simp only [Rep,Reps]
  exact ⟨r.1,_,rfl,h r List.mem_cons_self,_,_,rfl,rfl,_,_,rfl,rfl,rfl⟩
theorem oV {a b:Str}:((Sum.inr a:Key)=Sum.inr b)↔a=b:=⟨fun h=>by injection h,fun h=>by rw [h]⟩
theorem kS (kvs:List (Str×Int)) (x:Str) (n:Int):dk (bC kvs x n)=dP (dk kvs) (Sum.inr x) (.int n):=by
 unfold bC dP dk
 have e:((kvs.map fun p=>((Sum.inr p.1:Key),V.int p.2)).any fun kv=>decide (kv.1=Sum.inr x))=kvs.any fun p=>decide (p.1=x):=by
  rw [List.any_map]
  congr 1
  funext p
  simp [Function.comp]
 rw [e]
 split
 ·rw [List.map_map,List.map_map]
  refine List.map_congr_left fun p _=>?_
  simp only [Function.comp]
  by_cases h:p.1=x
  ·rw [if_pos h,if_pos (oV.mpr h)]
  ·rw [if_neg h,if_neg (fun z=>h (oV.mp z))]
 ·rw [List.map_append]
  rfl
theorem df {kvs:List (Str×Int)} {x:Str} {n:Int} (nd:(kvs.map (·.1)).Nodup):((bC kvs x n).map (·.1)).Nodup:=by
 unfold bC
 split
 ·have e:(kvs.map (fun p=>if p.1=x then (p.1,n) else p)).map (·.1)=kvs.map (·.1):=by
   rw [List.map_map]
   refine List.map_congr_left fun p _=>?_
   simp only [Function.comp]
   split <;> rfl
  rw [e]; exact nd
 ·rename_i h
  rw [List.map_append,List.nodup_append]
  refine ⟨nd,by simp,fun a ha b hb=>?_⟩
  have hb':b=x:=by simpa using hb
  subst hb'
  intro e
  subst e
  obtain ⟨p,hp,e⟩:=List.mem_map.mp ha
  exact h (List.any_eq_true.mpr ⟨p,hp,decide_eq_true e⟩)
theorem dR (kvs:List (Str×Int)) (x:Str) (n:Int):(bC kvs x n).length<=kvs.length + 1:=by
 unfold bC
 split
 ·rw [List.length_map]; omega
 ·rw [List.length_append]; simp
theorem eh {R:Str×Int->Prop} {kvs:List (Str×Int)} {x:Str} {n:Int} (h:∀ p∈kvs,R p) (hx:R (x,n)):∀ p∈bC kvs x n,R p:=by
 intro p hp
 unfold bC at hp
 split at hp
 ·obtain ⟨q,hq,e⟩:=List.mem_map.mp hp
  by_cases z:q.1=x
  ·rw [if_pos z] at e
   rw [<- e,z]; exact hx
  ·rw [if_neg z] at e
   rw [<- e]; exact h q hq
 ·rcases List.mem_append.mp hp with hp | hp
  ·exact h p hp
  ·rw [List.mem_singleton.mp hp]; exact hx
abbrev aB (ps:List Pr):List Dv:=ps.map fun p=>.tup [.str p.1,.int p.2]
theorem dN {H:Hp} {ps:List Pr} {us:List V} (ru:Reps H (aB ps) us) {i:Nat} {x:V} (hx:us[i]?=some x):∃ p b,ps[i]?=some p/\x=.ref b/\H b=some (.tup [.str p.1,.int p.2]):=by
 obtain ⟨d,hd,Rd⟩:=ru.get hx
 rw [List.getElem?_map] at hd
 cases e:ps[i]? with
 | none=>rw [e] at hd; cases hd
 | some p=>
  rw [e] at hd
  obtain rfl:Dv.tup [.str p.1,.int p.2]=d:=Option.some.inj hd
  obtain ⟨b,zs,rfl,hb,rz⟩:=Rep.tup_inv Rd
  obtain ⟨y,z,rfl,Ry,Rz⟩:=Reps.two rz
  simp only [Rep] at Ry Rz
  subst Ry Rz
  exact ⟨p,b,rfl,rfl,hb⟩
theorem ka {H:Hp} {c:Int} {ps:List Pr} {v:V} (R:Rep H (cO c ps) v):∃ a b us,v=.ref a/\H a=some (.tup [.int c,.ref b])/\H b=some (.tup us)/\Reps H (aB ps) us/\us.length=ps.length:=by
 obtain ⟨a,tv,rfl,ha,rt⟩:=Rep.tup_inv R
 obtain ⟨x,y,rfl,R0,R1⟩:=Reps.two rt
 simp only [Rep] at R0
 subst R0
 obtain ⟨b,us,rfl,hb,ru⟩:=Rep.tup_inv R1
 have:=ru.length
 rw [List.length_map] at this
 exact ⟨a,b,us,rfl,ha,hb,ru,this⟩
theorem uP {H:Hp} {c:Int} {ps:List Pr} {a b:Addr} {us:List V} (ha:H a=some (.tup [.int c,.ref b])) (hb:H b=some (.tup us)) (ru:Reps H (aB ps) us):Rep H (cO c ps) (.ref a):=by
 simp only [cO,Rep,Reps]
 exact ⟨a,_,rfl,ha,_,_,rfl,rfl,_,_,rfl,⟨b,us,rfl,hb,ru⟩,rfl⟩
theorem nq:∀ (kvs:List Pr) (x:Str),(fi (dk kvs) (Sum.inr x)).getD (.int 0)=V.int (tm kvs x)
 | [],x=>rfl
 | p :: r,x=>by
  by_cases h:p.1=x
  ·have e1:fi (dk (p :: r)) (Sum.inr x)=some (.int p.2):=fN (p:=(Sum.inr p.1,V.int p.2)) (by rw [h])
   rw [e1]
   show V.int p.2=V.int (if p.1=x then p.2 else tm r x)
   rw [if_pos h]
  ·have e1:fi (dk (p :: r)) (Sum.inr x)=fi (dk r) (Sum.inr x):=fB (p:=(Sum.inr p.1,V.int p.2)) (fun z=>h (by injection z))
   rw [e1,nq r x]
   show _=V.int (if p.1=x then p.2 else tm r x)
   rw [if_neg h]
theorem qJ {ps:List Pr} {i:Nat} {p:Pr} (h:ps[i]?=some p) (x:Str):cK (ps.take (i + 1)) x=cK (ps.take i) x + if p.1=x then p.2 else 0:=by
 rw [List.take_add_one,h,gS]
 show _ + ((if p.1=x then p.2 else 0) + 0)=_
 omega
theorem eqI {i j:Int} (h:decide (V.int i=V.int j)=true):i=j:=by
 have:=of_decide_eq_true h
 injection this
theorem z2:2<=sizeLine:=by rw [sizeLine_eq]; decide
theorem z1:1<=sizeLine:=by rw [sizeLine_eq]; decide
theorem z3:3<=sizeLine:=by rw [sizeLine_eq]; decide
theorem tN {kvs:List Pr} {x:Str} {n:Int} (h:x∉kvs.map (·.1)):bC kvs x n=kvs ++ [(x,n)]:=by
 unfold bC
 rw [if_neg]
 intro e
 rw [List.any_eq_true] at e
 obtain ⟨p,hp,e⟩:=e
 exact h (List.mem_map.mpr ⟨p,hp,of_decide_eq_true e⟩)
theorem ju {kvs:List Pr} {x:Str} {n:Int} (h:x∈kvs.map (·.1)):(bC kvs x n).map (·.1)=kvs.map (·.1):=by
 unfold bC
 obtain ⟨p,hp,rfl⟩:=List.mem_map.mp h
 rw [if_pos (List.any_eq_true.mpr ⟨p,hp,decide_eq_true rfl⟩),List.map_map]
 refine List.map_congr_left fun r _=>?_
 show (if r.1=p.1 then (r.1,n) else r).1=r.1
 split <;> rfl
section
variable {K:PySem.W.Frag}
end
theorem tnx {D:gm} {σ:St} {H:Hp} (h:D.nx σ H):vM D σ H:=h
theorem ku {ns:List Int} {k:Int} (h0:0<=k) (h:k < (ns.length:Int)):∃ v:Int,atI (ns.map V.int) k=some (.int v):=by
 have hk:k.toNat < ns.length:=by omega
 have q:atI (ns.map V.int) ((k.toNat:Nat):Int)=some (.int ns[k.toNat]):=ag (by rw [List.getElem?_map,List.getElem?_eq_getElem hk] <;> rfl)
 have ek:k=((k.toNat:Nat):Int):=by omega
 rw [<- ek] at q
 exact ⟨_,q⟩
theorem mod_lt {a:Int} (n:Int) (h:0 < n):0<=a % n/\a % n < n:=⟨Int.emod_nonneg _ (by omega),Int.emod_lt_of_pos _ h⟩
def aH (a:Addr) (H H':Hp):Prop:=∀ g o,g≠a->H g=some o->H' g=some o
theorem aH.trans {a:Addr} {H H1 H2:Hp} (s:aH a H H1) (t:aH a H1 H2):aH a H H2:=fun g o hg e=>t g o hg (s g o hg e)
theorem aq.b {H H':Hp} (a:Addr) (s:aq H H'):aH a H H':=fun g o _ e=>s g o e
theorem aH.upd (H:Hp) (a:Addr) (o:HO):aH a H (upd H a o):=fun g u hg e=>by rw [aI hg]; exact e
theorem aH.same {a:Addr} {H H1 H2:Hp} (h:H a=none) (s:aq H H1) (t:aH a H1 H2):aq H H2:=fun g o e=>t g o (am e h) (s g o e)
theorem aH.seq {K:PySem.W.Frag} {a l:Addr} {H H':Hp} {xs:List V} (s:aH a H H') (h:SqL K H l xs) (hn:H a=none):SqL K H' l xs:=by
 rcases h with h | h
 ·exact .inl (by
   rcases h with h | ⟨o,h⟩
   ·exact .inl (s l _ (am h hn) h)
   ·exact .inr ⟨o,s l _ (am h hn) h⟩)
 ·exact .inr h
def dc (H H':Hp):Prop:=∀ b zs,H b=some (.tup zs)->H' b=some (.tup zs)
theorem aq.tups {H H':Hp} (s:aq H H'):dc H H':=fun b zs e=>s b _ e
theorem dc.trans {H H1 H2:Hp} (s:dc H H1) (t:dc H1 H2):dc H H2:=fun b zs e=>t b zs (s b zs e)
theorem aH.tups {a:Addr} {H H':Hp} {xs:List V} (s:aH a H H') (h:H a=some (.lst xs)):dc H H':=fun b zs e=>s b _ (fun z=>by rw [z,h] at e; cases e) e
theorem gt {H H':Hp}:∀ {ds:List Dv} {vs:List V},(∀ d∈ds,∀ v,Rep H d v->Rep H' d v)->Reps H ds vs->Reps H' ds vs
 | [],vs,_,h=>by simpa only [Reps] using h
 | d :: ds,vs,f,h=>by
  simp only [Reps] at h ⊢
  obtain ⟨v,r,rfl,h1,h2⟩:=h
  exact ⟨v,r,rfl,f d List.mem_cons_self v h1,gt (fun e he=>f e (List.mem_cons_of_mem _ he)) h2⟩
theorem cJ {H H':Hp} (t:dc H H') {n:Nat} {d:Dv} (h:L2.Pl n d):∀ {v:V},Rep H d v->Rep H' d v:=by
 induction h with
 | int=>intro v r; simpa only [Rep] using r
 | str=>intro v r; simpa only [Rep] using r
 | non=>intro v r; simpa only [Rep] using r
 | tup _ ih=>
  intro v r
  simp only [Rep] at r ⊢
  obtain ⟨a,vs,rfl,ha,rs⟩:=r
  exact ⟨a,vs,rfl,t _ _ ha,gt (fun d hd v r=>ih d hd r) rs⟩
theorem sP (c:Int) (ps:List Pr):L2.Pl 3 (cO c ps):=.tup fun d hd=>by
 rcases List.mem_cons.mp hd with rfl | hd
 ·exact .int
 ·rw [List.mem_singleton.mp hd]
  refine .tup fun e he=>?_
  obtain ⟨p,_,rfl⟩:=List.mem_map.mp he
  refine .tup fun g hg=>?_
  rcases List.mem_cons.mp hg with rfl | hg
  ·exact .str
  ·rw [List.mem_singleton.mp hg]; exact .int
theorem uT {c:TT} {tb:TS} {D:gm} {σ:St} {H:Hp} (Pv:Nat->St->Hp->Prop) (m:Nat) (h0:Pv m σ H)
  (hs:∀ m σ H,Pv m σ H->c σ H fun b H1=>if b=true then tb { D with nx:=fun σ' H'=>∃ m',m' < m/\Pv m' σ' H',ct:=fun σ' H'=>∃ m',m' < m/\Pv m' σ' H',bk:=D.nx } σ H1 else D.nx σ H1)
  (mono:∀ σ H Q Q',(∀ b H1,Q b H1->Q' b H1)->c σ H Q->c σ H Q'):sU c tb D σ H:=by
 refine ⟨Pv,⟨m,h0⟩,fun m σ H p=>mono σ H _ _ (fun b H1 q=>?_) (hs m σ H p)⟩
 cases b with
 | true=>exact ⟨_,fun σ' H' q'=>q',q⟩
 | false=>exact q
inductive Kd where
 | whole
 | place (c:Int) (ps:List Pr)
 | row (c:Int) (ps:List Pr) (k:Kd)
 | pair (k j:Kd)
def Kd.dv:Kd->Dv
 | .whole=>.tup [.str "whole"]
 | .place c ps=>.tup [.str "place",cO c ps]
 | .row c ps k=>.tup [.str "row",cO c ps,k.dv]
 | .pair k j=>.tup [.str "pair",k.dv,j.dv]
def Kd.size:Kd->Nat
 | .whole=>1
 | .place _ _=>1
 | .row _ _ k=>k.size + 1
 | .pair k j=>k.size + j.size + 1
theorem Kd.size_pos:∀ k:Kd,1<=k.size
 | .whole=>Nat.le_refl _
 | .place _ _=>Nat.le_refl _
 | .row _ _ k=>by show 1<=k.size + 1; omega
 | .pair k j=>by show 1<=k.size + j.size + 1; omega
theorem Kd.pl:∀ k:Kd,L2.Pl (k.size + 3) k.dv
 | .whole=>.tup fun d hd=>by rw [List.mem_singleton.mp hd]; exact .str
 | .place c ps=>.tup fun d hd=>by
  rcases List.mem_cons.mp hd with rfl | hd
  ·exact .str
  ·rw [List.mem_singleton.mp hd]; exact sP c ps
 | .row c ps k=>.tup fun d hd=>by
  rcases List.mem_cons.mp hd with rfl | hd
  ·exact .str
  rcases List.mem_cons.mp hd with rfl | hd
  ·exact (sP c ps).up (by show 3<=k.size + 3; omega)
  ·rw [List.mem_singleton.mp hd]; exact k.pl
 | .pair k j=>.tup fun d hd=>by
  rcases List.mem_cons.mp hd with rfl | hd
  ·exact .str
  rcases List.mem_cons.mp hd with rfl | hd
  ·exact k.pl.up (by show k.size + 3<=k.size + j.size + 3; omega)
  ·rw [List.mem_singleton.mp hd]; exact j.pl.up (by show j.size + 3<=k.size + j.size + 3; omega)
def Kd.word:Kd->Str
 | .whole=>"whole"
 | .place _ _=>"place"
 | .row _ _ _=>"row"
 | .pair _ _=>"pair"
def Kd.All (P:Int->List Pr->Prop):Kd->Prop
 | .whole=>True
 | .place c ps=>P c ps
 | .row c ps k=>P c ps/\k.All P
 | .pair k j=>k.All P/\j.All P
theorem Kd.tupS {H H':Hp} (t:dc H H') {k:Kd} {v:V} (r:Rep H k.dv v):Rep H' k.dv v:=cJ t k.pl r
theorem Kd.inv {H:Hp} {k:Kd} {v:V} (r:Rep H k.dv v):∃ a vs,v=.ref a/\H a=some (.tup (.str k.word :: vs)) /\
  (match k with
   | .whole=>vs=[]
   | .place c ps=>∃ l,vs=[l]/\Rep H (cO c ps) l
   | .row c ps j=>∃ l u,vs=[l,u]/\Rep H (cO c ps) l/\Rep H j.dv u
   | .pair i j=>∃ u w,vs=[u,w]/\Rep H i.dv u/\Rep H j.dv w):=by
 cases k with
 | whole=>
  simp only [Kd.dv,Rep,Reps] at r
  obtain ⟨a,vs,rfl,ha,x,r1,rfl,rfl,rfl⟩:=r
  exact ⟨a,[],rfl,ha,rfl⟩
 | place c ps=>
  rw [Kd.dv,Rep] at r
  obtain ⟨a,vs,rfl,ha,rs⟩:=r
  simp only [Reps] at rs
  obtain ⟨x,r1,rfl,hx,y,r2,rfl,hy,rfl⟩:=rs
  simp only [Rep] at hx
  subst hx
  exact ⟨a,_,rfl,ha,y,rfl,hy⟩
 | row c ps j=>
  rw [Kd.dv,Rep] at r
  obtain ⟨a,vs,rfl,ha,rs⟩:=r
  simp only [Reps] at rs
  obtain ⟨x,r1,rfl,hx,y,r2,rfl,hy,z,r3,rfl,hz,rfl⟩:=rs
  simp only [Rep] at hx
  subst hx
  exact ⟨a,_,rfl,ha,y,z,rfl,hy,hz⟩
 | pair i j=>
  rw [Kd.dv,Rep] at r
  obtain ⟨a,vs,rfl,ha,rs⟩:=r
  simp only [Reps] at rs
  obtain ⟨x,r1,rfl,hx,y,r2,rfl,hy,z,r3,rfl,hz,rfl⟩:=rs
  simp only [Rep] at hx
  subst hx
  exact ⟨a,_,rfl,ha,y,z,rfl,hy,hz⟩
theorem jA {H:Hp} {a:Addr} (h:H a=some (.tup [.str "whole"])):Rep H Kd.whole.dv (.ref a):=by
 simp only [Kd.dv,Rep,Reps]
 exact ⟨a,_,rfl,h,_,_,rfl,rfl,rfl⟩
theorem rg {H:Hp} {a:Addr} {l:V} {c:Int} {ps:List Pr} (h:H a=some (.tup [.str "place",l])) (r:Rep H (cO c ps) l):Rep H (Kd.place c ps).dv (.ref a):=by
 rw [Kd.dv,Rep]
 refine ⟨a,_,rfl,h,?_⟩
 simp only [Reps]
 exact ⟨_,_,rfl,by simp only [Rep],_,_,rfl,r,rfl⟩
theorem uN {H:Hp} {a:Addr} {l u:V} {c:Int} {ps:List Pr} {k:Kd} (h:H a=some (.tup [.str "row",l,u])) (r:Rep H (cO c ps) l) (r2:Rep H k.dv u):Rep H (Kd.row c ps k).dv (.ref a):=by
 rw [Kd.dv,Rep]
 refine ⟨a,_,rfl,h,?_⟩
 simp only [Reps]
 exact ⟨_,_,rfl,by simp only [Rep],_,_,rfl,r,_,_,rfl,r2,rfl⟩
theorem sZ {H:Hp} {a:Addr} {l u:V} {j k:Kd} (h:H a=some (.tup [.str "pair",l,u])) (r:Rep H j.dv l) (r2:Rep H k.dv u):Rep H (Kd.pair j k).dv (.ref a):=by
 rw [Kd.dv,Rep]
 refine ⟨a,_,rfl,h,?_⟩
 simp only [Reps]
 exact ⟨_,_,rfl,by simp only [Rep],_,_,rfl,r,_,_,rfl,r2,rfl⟩
theorem nz {G H2:Hp} {kvs:List Pr} {qs:List TK} (hq:∀ r∈qs,H2 r.1=some (.tup (.str r.2.1 :: r.2.2))/\G r.1=none) (pq:(qs.map (·.2)).Perm ((kvs.map fun p=>(p.1,V.int p.2)).map fun p=>(p.1,[p.2]))) (pw:qs.Pairwise tw) (hall:∀ p∈kvs,1<=p.2) :
  (qs.map tkV).Perm kvs/\cX (qs.map tkV)/\∀ t,H2 t=none->Rep (upd H2 t (.tup (qs.map fun r=>V.ref r.1))) (.tup (aB (qs.map tkV))) (.ref t):=by
 have shape:∀ r∈qs,∃ p∈kvs,r.2=(p.1,[V.int p.2]):=fun r hr'=>by
  have:=pq.mem_iff.mp (List.mem_map_of_mem (f:=(·.2)) hr')
  rw [List.map_map] at this
  obtain ⟨p,hp,e⟩:=List.mem_map.mp this
  exact ⟨p,hp,e.symm⟩
 have tk:∀ r∈qs,r.2.1=(tkV r).1/\r.2.2=[V.int (tkV r).2]:=fun r hr'=>by
  obtain ⟨p,_,e⟩:=shape r hr'
  unfold tkV
  rw [e]
  exact ⟨rfl,rfl⟩
 have perm:(qs.map tkV).Perm kvs:=by
  have e1:qs.map tkV=(qs.map (·.2)).map fun z=>(z.1,match z.2 with | [.int n]=>n | _=>0):=by
   rw [List.map_map]; rfl
  have e2:kvs=((kvs.map fun p=>(p.1,V.int p.2)).map fun p=>(p.1,[p.2])).map fun z=>(z.1,match z.2 with | [.int n]=>n | _=>0):=by
   rw [List.map_map,List.map_map]
   exact (List.map_id kvs).symm
  rw [e1]
  rw [e2]
  exact pq.map _
 refine ⟨perm,⟨List.pairwise_map.mpr (pw.imp fun {x y} h=>h),fun p hp=>hall p (perm.mem_iff.mp hp)⟩,fun t ht=>?_⟩
 simp only [Rep]
 refine ⟨t,_,rfl,af,gI fun r hr'=>?_⟩
 have:=(hq r hr').1
 rw [(tk r hr').1,(tk r hr').2] at this
 exact ak ht _ _ _ this
theorem tX {H:Hp} {c:Int} {ps:List Pr} {p:Addr} {w:V} (hp:H p=some (.tup [.int c,w])) (R:Rep H (.tup (aB ps)) w):Rep H (cO c ps) (.ref p):=by
 obtain ⟨b,us,rfl,hb,ru⟩:=Rep.tup_inv R
 exact uP hp hb ru
theorem eU {H:Hp}:∀ {ds:List Dv} {d:Dv} {vs:List V},Reps H (ds ++ [d]) vs->∃ vs0 v,vs=vs0 ++ [v]/\Reps H ds vs0/\Rep H d v
 | [],d,vs,h=>by
  simp only [List.nil_append,Reps] at h
  obtain ⟨v,r,rfl,hv,rfl⟩:=h
  exact ⟨[],v,rfl,by simp only [Reps],hv⟩
 | e :: ds,d,vs,h=>by
  simp only [List.cons_append,Reps] at h
  obtain ⟨v,r,rfl,hv,hr⟩:=h
  obtain ⟨vs0,u,rfl,h1,h2⟩:=eU hr
  exact ⟨v :: vs0,u,rfl,by simp only [Reps]; exact ⟨v,vs0,rfl,hv,h1⟩,h2⟩
theorem cM {H:Hp} {d:Dv} {v:V} (h:Rep H d v):Reps H [d] [v]:=by simp only [Reps]; exact ⟨v,[],rfl,h,rfl⟩
theorem iH (vs:List V) (v:V):(vs ++ [v])[(vs ++ [v]).length - 1]?=some v:=by simp
theorem qV {α:Type} (xs:List α) (u v:α):atI (xs ++ [u] ++ [v]) (-2)=some u:=by
 have hl:(xs ++ [u] ++ [v]).length=xs.length + 2:=by simp
 have e:ixN (xs ++ [u] ++ [v]).length (-2)=some xs.length:=by
  unfold ixN
  rw [hl,if_neg (by decide),if_pos (by omega)]
  congr 1
  omega
 unfold atI
 rw [e]
 show (xs ++ [u] ++ [v])[xs.length]?=some u
 simp
def ent (k:Kd):Dv:=.tup [k.dv,.int k.size]
theorem iE (k:Kd):L2.Pl (k.size + 4) (ent k):=.tup fun d hd=>by
 rcases List.mem_cons.mp hd with rfl | hd
 ·exact k.pl
 ·rw [List.mem_singleton.mp hd]; exact .int
theorem cq {H H':Hp} (t:dc H H') {ks:List Kd} {vs:List V} (h:Reps H (ks.map ent) vs):Reps H' (ks.map ent) vs:=gt (fun d hd v r=>by
 obtain ⟨k,_,rfl⟩:=List.mem_map.mp hd
 exact cJ t (iE k) r) h
theorem hU {H:Hp} {k:Kd} {v:V} (h:Rep H (ent k) v):∃ a u,v=.ref a/\H a=some (.tup [u,.int k.size])/\Rep H k.dv u:=by
 obtain ⟨a,vs,rfl,ha,rs⟩:=Rep.tup_inv h
 obtain ⟨x,y,rfl,r1,r2⟩:=Reps.two rs
 simp only [Rep] at r2
 subst r2
 exact ⟨a,x,rfl,ha,r1⟩
theorem gb {H:Hp} {k:Kd} {a:Addr} {u:V} {n:Int} (ha:H a=some (.tup [u,.int n])) (hn:n=k.size) (r:Rep H k.dv u):Rep H (ent k) (.ref a):=by
 subst hn
 unfold ent
 rw [Rep]
 refine ⟨a,_,rfl,ha,?_⟩
 simp only [Reps]
 exact ⟨_,_,rfl,r,_,_,rfl,by simp only [Rep],rfl⟩
theorem oK {t1 t2:TT} {σ:St} {H:Hp} {Q:Bool->Hp->Prop} (C:Prop) (qT:C->Q true H) (qF:Q false H) (f:(C->Q true H)->Q false H->ww t1 t2 σ H Q):ww t1 t2 σ H Q:=f qT qF
theorem pL {α:Type}:∀ {l:List α},l≠[]->∃ l0 x,l=l0 ++ [x]:=fun {l} h=>by
 rcases List.eq_nil_or_concat l with e | ⟨l0,x,e⟩
 ·exact absurd e h
 ·exact ⟨l0,x,by rw [e]; simp⟩
theorem gnm {i:Nat} {x:V} {σ:St} {H:Hp} {N:St->Hp->Prop} (h:N (σ.set i (some x)) H):dB i x σ H N:=h
theorem ifT {A B:Prop} (h:if true=true then A else B):A:=by rwa [if_pos rfl] at h
theorem ifF {A B:Prop} (h:if false=true then A else B):B:=by rwa [if_neg Bool.false_ne_true] at h
end KB
namespace L2
open PySem PySem.Spec PyProof.Rows PySem.W
section
variable {X:Cx}
end
end L2
namespace KB
open PySem L2
theorem uB {H:Hp} {α:Type} {f:α->Dv} {xs:List α} {us:List V} {i:Nat} {u:V} (R:Reps H (xs.map f) us) (h:us[i]?=some u):∃ x,xs[i]?=some x/\Rep H (f x) u:=by
 obtain ⟨d,hd,Rd⟩:=R.get h
 rw [List.getElem?_map] at hd
 obtain ⟨x,hx,rfl⟩:=Option.map_eq_some_iff.mp hd
 exact ⟨x,hx,Rd⟩
end KB
namespace L2
open PySem PySem.Spec PyProof.Rows PySem.W
section
variable {P:Program} {w:World} {A:Around} {E:Value->Shared->Prop} {s:Shared}
end
section
variable {X:Cx}
end
section
variable {X:Cx}
end
section
variable {X:Cx}
end
section
variable {X:Cx}
end
section
variable {X:Cx}
end
section
variable {prog:Program} {w:World} {A:Around} {E:Value->Shared->Prop} {s:Shared} {r l:Addr} {items:Array Value}
end
section
variable {X:Cx} {e:Expr} {te:TE} {p p1 pos pos1:Pos}
end
section
variable {X:Cx}
end
section
variable {X:Cx}
theorem rT {j:Int} (h0:0 < j) (h1:j < 10 ^ 61):j.natAbs.log2 < 9000:=by
 have hn:j.natAbs < 2 ^ 204:=by omega
 have:=(Nat.log2_lt (n:=j.natAbs) (k:=204) (by omega)).mpr hn
 omega
def xc (i j:Int):Prop:=0 < j/\j < 10 ^ 61
theorem xY:OpR X (binaryOp .FloorDiv) (rI xc fun i j=>.int (i / j)):=opI fun i j _ _ _ _ _ hc q=>by
 have h1:(0:Int) < j:=hc.1
 exact floordiv_int (by omega) (by rw [Int.fdiv_eq_ediv_of_nonneg i (by omega)]; exact q) (.inl (PyProof.noPylong_of_log2 (rT hc.1 hc.2)))
def yy (te:TE):TE:=fun σ H Q=>te σ H fun x H1=>∃ i:Int,x=.int i/\i.natAbs.log2 < 1920/\Q (.str (toString i)) H1
theorem yu {e:Expr} {te:TE} {pos:Pos} (he:PE X e te):PE X (.FormattedValue e (-1) none pos) (yy te):=fun pins s σ H Q I h=>
 wpAny_FormattedValue_plain (thn (he pins s σ H _ I h) fun v s1 ⟨x,H1,I1,r1,i,ex,hd,q⟩=>by
  subst ex
  obtain ⟨k,rfl⟩:=r1
  exact wpAny_formatField_int hd ⟨.str (toString i),H1,I1.tok _,⟨_,rfl⟩,q⟩)
theorem wH:MtR X "str.startswith" (fun x xs H Q=>∃ (a b:Str) (i:Int),x=.str a/\xs=[.str b,.int i]/\Q (.bl (Txt.startswith3 a b i)) H):=by
 intro pins s σ H x xs v us Q I rx r h
 obtain ⟨a,b,i,rfl,rfl,q⟩:=h
 obtain ⟨t,rfl⟩:=rx
 cases r with
 | cons r1 rr=>
  cases rr with
  | cons r2 rr=>
   cases rr
   obtain ⟨t1,rfl⟩:=r1
   obtain ⟨t2,rfl⟩:=r2
   exact SC.startswith3 ⟨.bl _,H,I,rfl,q⟩
theorem ur:bM X (.type "int") (fun xs H Q=>∃ (a:Str) (n:Int),xs=[.str a]/\PySem.intText? a=some n/\a.length<=640/\Q (.int n) H):=by
 intro pins s σ H xs us Q I r h
 obtain ⟨a,n,rfl,hn,hl,q⟩:=h
 obtain ⟨u,rfl,t,rfl⟩:=cC r
 exact KIN.call_text hn hl ⟨.int n,H,I.tok _,⟨_,rfl⟩,q⟩
theorem iU:∀ l:List (Str×Tok),aP ((l.map (·.1)).map V.str) (strValues l)
 | []=>.nil
 | (x,t) :: l=>.cons ⟨t,rfl⟩ (iU l)
theorem xx:MtR X "str.split" (fun x xs H Q=>∃ a b:Str,x=.str a/\xs=[.str b]/\(b.length == 0)=false/\a.length<=sizeLine/\(Txt.split a b).length<=sizeLine/\∀ p,H p=none->Q (.ref p) (upd H p (.lst ((Txt.split a b).map V.str)))):=by
 intro pins s σ H x xs v us Q I rx r h
 obtain ⟨a,b,rfl,rfl,hb,ha,hz,q⟩:=h
 obtain ⟨t,rfl⟩:=rx
 obtain ⟨u,rfl,t1,rfl⟩:=cC r
 have fin:∀ (l:List (Str×Tok)) (tk:Nat),l.map (·.1)=Txt.split a b->EP X pins σ Q (.ref s.heap.objs.size) { s with heap:=s.heap.push { cls:=.type "list",data:=.seq (strValues l).toArray },toks:=tk }:=fun l tk e=>by
  refine ⟨.ref _,_,I.laid (t':=tk) (o:=.lst ((Txt.split a b).map V.str)) (fun b ob q=>Heap.get?_push_of_some _ q) (Nat.le_refl _) ?_,rfl,q _ (I.hok.fresh (Nat.le_refl _))⟩
  refine ⟨by rw [List.length_map]; exact hz,strValues l,0,?_,Heap.get?_push_size _ rfl⟩
  rw [<- e]; exact iU l
 cases h1:(decide (a.length < b.length) || decide (Builtin.Str.strKind a < Builtin.Str.strKind b))
 ·cases hf:(Builtin.Str.occurrences a b 0 a.length (a.length + 1)).isEmpty
  ·have es:Txt.split a b=Builtin.Str.partsBetween a (Builtin.Str.occurrences a b 0 a.length (a.length + 1)) b.length:=(if_neg (ne_true_of_eq_false h1)).trans (if_neg (ne_true_of_eq_false hf))
   refine call_meets F.slot_str_split (typeIs_str _ _ _) F.entry_str_split (F.args_str_split_2 _ _) (meets_str_split_sep a b t t1 h1 hb hf ha (by rw [<- es]; exact hz)) ?_
   show wants (EP X pins σ Q) X.xe _ { s with toks:=_,heap:=s.heap.push { cls:=.type "list",data:=.seq (strsFrom s.toks (Builtin.Str.partsBetween a (Builtin.Str.occurrences a b 0 a.length (a.length + 1)) b.length)).toArray } }
   rw [strsFrom_eq]
   exact fin (numbered s.toks _) _ ((numbered_texts _ _).trans es.symm)
  ·exact call_meets F.slot_str_split (typeIs_str _ _ _) F.entry_str_split (F.args_str_split_2 _ _) (meets_str_split_not_found a b t t1 h1 hb hf) (fin [(a,t)] s.toks ((if_neg (ne_true_of_eq_false h1)).trans (if_pos hf)).symm)
 ·exact call_meets F.slot_str_split (typeIs_str _ _ _) F.entry_str_split (F.args_str_split_2 _ _) (meets_str_split_cannot_occur a b t t1 h1) (fin [(a,t)] s.toks (if_pos h1).symm)
end
end L2
namespace L2.TS
open PySem PySem.Spec PyProof.Rows
def gal:Bool->Keyed->Array Keyed->Nat->Nat->Nat->StateT SortSt Sem (Option Nat):=sortPriv% PySem.Builtin.gallop
def jP:Nat->StateT SortSt Sem Unit:=sortPriv% PySem.Builtin.setMinGallop
def mLo:Array Keyed->Array Keyed->StateT SortSt Sem (Array Keyed):=sortPriv% PySem.Builtin.mergeLo
def mHi:Array Keyed->Array Keyed->StateT SortSt Sem (Array Keyed):=sortPriv% PySem.Builtin.mergeHi
theorem wn (left:Bool) (key:Keyed) (xs:Array Keyed) (b n h:Nat):gal left key xs b n h=(do
  let q (i:Nat):StateT SortSt Sem (Option Bool):=do
   let x <- elem' xs (b + i)
   if left then lt' x key else return (<- lt' key x).map (!·)
  let mut last:=0
  let mut o:=1
  let mut l:=0
  let mut r:=0
  let some up <- q h | return none
  if up then
   let top:=n - h
   for _ in [0:n] do
    if o>=top then break
    let some m <- q (h + o) | return none
    if !m then break
    last:=o
    o:=2 * o + 1
   l:=h + last + 1
   r:=h + min o top
  else
   let top:=h + 1
   for _ in [0:n] do
    if o>=top then break
    let some m <- q (h - o) | return none
    if m then break
    last:=o
    o:=2 * o + 1
   l:=h + 1 - min o top
   r:=h - last
  for _ in [0:n] do
   if l>=r then break
   let m:=l + (r - l) / 2
   let some c <- q m | return none
   if c then l:=m + 1 else r:=m
  return some r):=rfl
def Ask (prog:Program) (w:World) (A:Around) (s:Shared) (kd:SortKind) (M:Keyed->Prop) (rk:Keyed->Nat):Prop:=
 ∀ (x y:Keyed) (C:Bool->Shared->Prop) (E:Value->Shared->Prop),M x->M y->C (decide (rk x < rk y)) s->wpAny (model prog w) A (keyLt' kd x.1 y.1) C E s
section
variable {prog:Program} {w:World} {A:Around} {E:Value->Shared->Prop} {s:Shared} {kd:SortKind} {M:Keyed->Prop} {rk:Keyed->Nat}
theorem nr {x y:Keyed} {Q:Option Bool->SortSt->Prop} {st:SortSt} (O:Ask prog w A s kd M rk) (hk:kindOf st=kd) (hx:M x) (hy:M y) (h:Q (some (decide (rk x < rk y))) st):wpS (model prog w) A E s (lt' x y) Q st:=by
 rw [lt'_eq]
 refine wpS_bind (wpS_get ?_)
 rw [hk]
 refine wpS_bind (wpS_lift (wpAny_attempt (O x y _ _ hx hy ⟨rfl,?_⟩)))
 exact wpS_pure h
theorem bF {xs:Array Keyed} {i:Nat} {x:Keyed} {Q:Keyed->SortSt->Prop} {st:SortSt} (hx:xs[i]?=some x) (h:Q x st):wpS (model prog w) A E s (elem' xs i) Q st:=by
 rw [elem'_eq,hx]
 exact wpS_pure h
def R (rk:Keyed->Nat) (xs:Array Keyed) (i:Nat):Nat:=match xs[i]? with | some x=>rk x | none=>0
theorem cf {xs:Array Keyed} {i:Nat} {x:Keyed} (h:xs[i]?=some x):R rk xs i=rk x:=by unfold R; rw [h]
def Bq (left:Bool) (k r:Nat):Bool:=if left then decide (r < k) else decide (r<=k)
theorem xL {left:Bool} {k r r':Nat} (h:r'<=r) (e:Bq left k r=true):Bq left k r'=true:=by
 unfold Bq at e ⊢
 cases left <;> simp at e ⊢ <;> omega
theorem yB {left:Bool} {key x:Keyed} {xs:Array Keyed} {i:Nat} {Q:Option Bool->SortSt->Prop} {st:SortSt} (O:Ask prog w A s kd M rk) (hk:kindOf st=kd) (hm:M key) (hx:xs[i]?=some x) (hmx:M x) (h:Q (some (Bq left (rk key) (R rk xs i))) st) :
  wpS (model prog w) A E s (do
   let x <- elem' xs i
   if left then lt' x key else return (<- lt' key x).map (!·)) Q st:=by
 refine wpS_bind (bF hx ?_)
 rw [cf hx] at h
 cases left with
 | true=>exact nr O hk hmx hm h
 | false=>
  refine wpS_bind (nr O hk hm hmx (wpS_pure ?_))
  have e:(some (decide (rk key < rk x))).map (!·)=some (Bq false (rk key) (rk x)):=by
   show some (!decide (rk key < rk x))=some (decide (rk x<=rk key))
   congr 1
   by_cases z:rk key < rk x
   ·rw [decide_eq_true z,decide_eq_false (by omega)]; rfl
   ·rw [decide_eq_false z,decide_eq_true (by omega)]; rfl
  rw [e]
  exact h
theorem ie {q:Nat->StateT SortSt Sem (Option Bool)} {P:Nat->Bool} {n l r:Nat} {Q:Option Nat->SortSt->Prop} {st:SortSt} (hq:∀ i,i < n->∀ Q,Q (some (P i)) st->wpS (model prog w) A E s (q i) Q st) (mo:∀ i j,i<=j->j < n->P j=true->P i=true)
  (h1:l<=r) (h2:r<=n) (h3:∀ i,i < l->P i=true) (h4:∀ i,r<=i->i < n->P i=false) (k:∀ k,k<=n->(∀ i,i < k->P i=true)->(∀ i,k<=i->i < n->P i=false)->Q (some k) st) :
  wpS (model prog w) A E s (do
   let mut l:=l
   let mut r:=r
   for _ in [0:n] do
    if l>=r then break
    let m:=l + (r - l) / 2
    let some c <- q m | return none
    if c then l:=m + 1 else r:=m
   return some r) Q st:=by
 refine wpS_bind (wpS_mono (wpS_forRange (I:=fun x c st'=>st'=st/\∃ l r,c=(none,l,r)/\l<=r/\r<=n/\r - l<=n - x/\(∀ i,i < l->P i=true)/\(∀ i,r<=i->i < n->P i=false))
  (Q:=fun c st'=>st'=st/\∃ l r,c=(none,l,r)/\l=r/\r<=n/\(∀ i,i < l->P i=true)/\(∀ i,r<=i->i < n->P i=false)) ?step ?fin ⟨rfl,l,r,rfl,h1,h2,by omega,h3,h4⟩) ?post)
 case fin=>
  rintro c st' ⟨rfl,l,r,rfl,a1,a2,a3,a4,a5⟩
  exact ⟨rfl,l,r,rfl,by omega,a2,a4,a5⟩
 case post=>
  rintro c st' ⟨rfl,l,r,rfl,rfl,a2,a4,a5⟩
  exact wpS_pure (k l a2 a4 a5)
 case step=>
  rintro x c st' _ hx ⟨rfl,l,r,rfl,a1,a2,a3,a4,a5⟩
  dsimp only
  by_cases ge:l>=r
  ·rw [if_pos ge]
   exact wpS_pure ⟨rfl,l,r,rfl,by omega,a2,a4,a5⟩
  ·rw [if_neg ge]
   refine wpS_bind (hq _ (by omega) _ ?_)
   cases e:P (l + (r - l) / 2) with
   | true=>
    dsimp only
    rw [if_pos rfl]
    exact wpS_pure ⟨rfl,_,r,rfl,by omega,a2,by omega,fun i hi=>mo i (l + (r - l) / 2) (by omega) (by omega) e,a5⟩
   | false=>
    dsimp only
    rw [if_neg (by decide)]
    refine wpS_pure ⟨rfl,l,_,rfl,by omega,by omega,by omega,a4,fun i hi hn=>?_⟩
    cases z:P i with
    | false=>rfl
    | true=>rw [mo _ i hi hn z] at e; cases e
theorem gn {left:Bool} {key:Keyed} {xs:Array Keyed} {b n h:Nat} {Q:Option Nat->SortSt->Prop} {st:SortSt} (O:Ask prog w A s kd M rk) (hk:kindOf st=kd) (hm:M key) (hx:∀ i,i < n->∃ x,xs[b + i]?=some x/\M x)
  (so:∀ i j,i<=j->j < n->R rk xs (b + i)<=R rk xs (b + j)) (hh:h < n)
  (k:∀ k,k<=n->(∀ i,i < k->Bq left (rk key) (R rk xs (b + i))=true)->(∀ i,k<=i->i < n->Bq left (rk key) (R rk xs (b + i))=false)->Q (some k) st) :
  wpS (model prog w) A E s (gal left key xs b n h) Q st:=by
 rw [wn]
 dsimp only
 have hq:∀ i,i < n->∀ Q:Option Bool->SortSt->Prop,Q (some (Bq left (rk key) (R rk xs (b + i)))) st->wpS (model prog w) A E s (do
   let x <- elem' xs (b + i)
   if left then lt' x key else return (<- lt' key x).map (!·)) Q st:=fun i hi Q q=>by
  obtain ⟨x,e,mx⟩:=hx i hi
  exact yB O hk hm e mx q
 have mo:∀ i j,i<=j->j < n->Bq left (rk key) (R rk xs (b + j))=true->Bq left (rk key) (R rk xs (b + i))=true:=fun i j hij hj e=>xL (so i j hij hj) e
 obtain ⟨P,hP⟩:∃ P:Nat->Bool,∀ i,Bq left (rk key) (R rk xs (b + i))=P i:=⟨fun i=>Bq left (rk key) (R rk xs (b + i)),fun _=>rfl⟩
 simp only [hP] at hq mo k
 have fl:∀ {i j},P i=false->i<=j->j < n->P j=false:=fun {i j} e hij hj=>by
  cases z:P j with
  | false=>rfl
  | true=>rw [mo i j hij hj z] at e; cases e
 refine wpS_bind (hq h hh _ ?_)
 cases e:P h with
 | true=>
  dsimp only
  rw [if_pos rfl]
  refine wpS_bind (wpS_mono (wpS_forRange (I:=fun x c st'=>st'=st/\∃ la o,c=(none,la,o)/\x + 1<=o/\la < o/\h + la < n/\P (h + la)=true)
   (Q:=fun c st'=>st'=st/\∃ la o,c=(none,la,o)/\la < o/\h + la < n/\P (h + la)=true/\(n - h<=o\/(h + o < n/\P (h + o)=false))) ?step ?fin ⟨rfl,0,1,rfl,by omega,by omega,by omega,e⟩) ?post)
  case fin=>
   rintro c st' ⟨rfl,la,o,rfl,a1,a2,a3,a4⟩
   exact ⟨rfl,la,o,rfl,a2,a3,a4,.inl (by omega)⟩
  case step=>
   rintro x c st' _ hx ⟨rfl,la,o,rfl,a1,a2,a3,a4⟩
   dsimp only
   by_cases ge:o>=n - h
   ·rw [if_pos ge]
    exact wpS_pure ⟨rfl,la,o,rfl,a2,a3,a4,.inl ge⟩
   ·rw [if_neg ge]
    refine wpS_bind (hq _ (by omega) _ ?_)
    cases e2:P (h + o) with
    | true=>
     dsimp only
     rw [if_neg (by decide)]
     exact wpS_pure ⟨rfl,o,_,rfl,by omega,by omega,by omega,e2⟩
    | false=>
     dsimp only
     rw [if_pos (by decide)]
     exact wpS_pure ⟨rfl,la,o,rfl,a2,a3,a4,.inr ⟨by omega,e2⟩⟩
  case post=>
   rintro c st' ⟨rfl,la,o,rfl,a2,a3,a4,a5⟩
   dsimp only
   refine ie hq mo (by omega) (by omega) (fun i hi=>mo i (h + la) (by omega) a3 a4) (fun i hi hn=>?_) k
   rcases a5 with a5 | ⟨a5,a6⟩
   ·omega
   ·exact fl a6 (by omega) hn
 | false=>
  dsimp only
  rw [if_neg (by decide)]
  refine wpS_bind (wpS_mono (wpS_forRange (I:=fun x c st'=>st'=st/\∃ la o,c=(none,la,o)/\x + 1<=o/\la < o/\la<=h/\P (h - la)=false)
   (Q:=fun c st'=>st'=st/\∃ la o,c=(none,la,o)/\la < o/\la<=h/\P (h - la)=false/\(h + 1<=o\/(o<=h/\P (h - o)=true))) ?step ?fin ⟨rfl,0,1,rfl,by omega,by omega,by omega,e⟩) ?post)
  case fin=>
   rintro c st' ⟨rfl,la,o,rfl,a1,a2,a3,a4⟩
   exact ⟨rfl,la,o,rfl,a2,a3,a4,.inl (by omega)⟩
  case step=>
   rintro x c st' _ hx ⟨rfl,la,o,rfl,a1,a2,a3,a4⟩
   dsimp only
   by_cases ge:o>=h + 1
   ·rw [if_pos ge]
    exact wpS_pure ⟨rfl,la,o,rfl,a2,a3,a4,.inl ge⟩
   ·rw [if_neg ge]
    refine wpS_bind (hq _ (by omega) _ ?_)
    cases e2:P (h - o) with
    | true=>
     dsimp only
     rw [if_pos rfl]
     exact wpS_pure ⟨rfl,la,o,rfl,a2,a3,a4,.inr ⟨by omega,e2⟩⟩
    | false=>
     dsimp only
     rw [if_neg (by decide)]
     exact wpS_pure ⟨rfl,o,_,rfl,by omega,by omega,by omega,e2⟩
  case post=>
   rintro c st' ⟨rfl,la,o,rfl,a2,a3,a4,a5⟩
   dsimp only
   refine ie hq mo (by omega) (by omega) (fun i hi=>?_) (fun i hi hn=>fl a4 (by omega) hn) k
   rcases a5 with a5 | ⟨a5,a6⟩
   ·omega
   ·exact mo i (h - o) (by omega) (by omega) a6
end
end L2.TS
namespace L2.TS
open PySem PySem.Spec PyProof.Rows
abbrev Up (rk:Keyed->Nat) (l:List Keyed):Prop:=l.Pairwise fun u v=>rk u<=rk v
structure Two (rk:Keyed->Nat) (M:Keyed->Prop) (xs ys:List Keyed):Prop where
 sx:Up rk xs
 sy:Up rk ys
 mx:∀ u∈xs,M u
 my:∀ u∈ys,M u
 nx:xs≠[]
 ny:ys≠[]
structure MI (rk:Keyed->Nat) (xs ys o:List Keyed) (i j:Nat):Prop where
 pm:o.Perm (xs.take i ++ ys.take j)
 so:Up rk o
 bx:∀ u∈o,∀ v∈xs.drop i,rk u<=rk v
 by_:∀ u∈o,∀ v∈ys.drop j,rk u<=rk v
section
variable {rk:Keyed->Nat} {M:Keyed->Prop} {xs ys o:List Keyed} {i j:Nat}
theorem ce {l:List Keyed} {i:Nat} {u:Keyed} (h:l[i]?=some u):l.drop i=u :: l.drop (i + 1):=by
 obtain ⟨hi,e⟩:=List.getElem?_eq_some_iff.mp h
 rw [List.drop_eq_getElem_cons hi,e]
theorem cc {l:List Keyed} {i:Nat} {u:Keyed} (h:l[i]?=some u):l.take (i + 1)=l.take i ++ [u]:=by
 rw [List.take_add_one,h]; rfl
theorem MI.tx {u:Keyed} (h:MI rk xs ys o i j) (T:Up rk xs) (hu:xs[i]?=some u) (le:∀ v∈ys.drop j,rk u<=rk v):MI rk xs ys (o ++ [u]) (i + 1) j:=by
 have e:=ce hu
 refine ⟨?_,List.pairwise_append.mpr ⟨h.so,List.pairwise_singleton _ _,fun a ha b hb=>?_⟩,fun a ha v hv=>?_,fun a ha v hv=>?_⟩
 ·rw [cc hu]
  refine (h.pm.append_right [u]).trans ?_
  rw [List.append_assoc,List.append_assoc]
  exact List.Perm.append_left _ List.perm_append_comm
 ·rw [List.mem_singleton.mp hb]
  exact h.bx a ha u (by rw [e]; exact List.mem_cons_self)
 ·rcases List.mem_append.mp ha with ha | ha
  ·exact h.bx a ha v (by rw [e]; exact List.mem_cons_of_mem _ hv)
  ·rw [List.mem_singleton.mp ha]
   have p:Up rk (xs.drop i):=T.sublist (List.drop_sublist _ _)
   rw [e] at p
   exact (List.pairwise_cons.mp p).1 v hv
 ·rcases List.mem_append.mp ha with ha | ha
  ·exact h.by_ a ha v hv
  ·rw [List.mem_singleton.mp ha]; exact le v hv
theorem MI.swap (h:MI rk xs ys o i j):MI rk ys xs o j i:=⟨h.pm.trans List.perm_append_comm,h.so,h.by_,h.bx⟩
theorem MI.ty {u:Keyed} (h:MI rk xs ys o i j) (T:Up rk ys) (hu:ys[j]?=some u) (le:∀ v∈xs.drop i,rk u<=rk v):MI rk xs ys (o ++ [u]) i (j + 1):=(h.swap.tx T hu le).swap
theorem MI.gx (T:Up rk xs):∀ (c:Nat),MI rk xs ys o i j->i + c<=xs.length->(∀ k u,k < c->xs[i + k]?=some u->∀ v∈ys.drop j,rk u<=rk v)->MI rk xs ys (o ++ (xs.drop i).take c) (i + c) j
 | 0,h,_,_=>by rw [List.take_zero,List.append_nil]; exact h
 | c + 1,h,hl,le=>by
  have p:=MI.gx T c h (by omega) fun k u hk=>le k u (by omega)
  have hc:xs[i + c]?=some xs[i + c]:=List.getElem?_eq_getElem (by omega)
  have e:(xs.drop i)[c]?=some xs[i + c]:=by rw [List.getElem?_drop]; exact hc
  rw [cc e,<- List.append_assoc]
  exact p.tx T hc (le c _ (by omega) hc)
theorem MI.gy (T:Up rk ys) (c:Nat) (h:MI rk xs ys o i j) (hl:j + c<=ys.length) (le:∀ k u,k < c->ys[j + k]?=some u->∀ v∈xs.drop i,rk u<=rk v):MI rk xs ys (o ++ (ys.drop j).take c) i (j + c):=(MI.gx T c h.swap hl le).swap
def Res (rk:Keyed->Nat) (xs ys r:List Keyed):Prop:=r.Perm (xs ++ ys)/\Up rk r
theorem kU (l:List Keyed) (i:Nat):l.take i ++ l.drop i=l:=List.take_append_drop i l
theorem MI.end2 (h:MI rk xs ys o i j) {r:List Keyed} (hr:r.Perm (xs.drop i ++ ys.drop j)) (up:Up rk r):Res rk xs ys (o ++ r):=by
 refine ⟨?_,List.pairwise_append.mpr ⟨h.so,up,fun a ha b hb=>?_⟩⟩
 ·refine (h.pm.append hr).trans ?_
  conv=>rhs; rw [<- kU xs i,<- kU ys j]
  rw [List.append_assoc,List.append_assoc]
  refine List.Perm.append_left _ ?_
  rw [<- List.append_assoc,<- List.append_assoc]
  exact List.Perm.append_right _ List.perm_append_comm
 ·rcases List.mem_append.mp (hr.mem_iff.mp hb) with hb | hb
  ·exact h.bx a ha b hb
  ·exact h.by_ a ha b hb
theorem MI.fin (h:MI rk xs ys o i j) (sx:Up rk xs) (sy:Up rk ys) (e:j=ys.length\/i=xs.length):Res rk xs ys (o ++ xs.drop i ++ ys.drop j):=by
 rw [List.append_assoc]
 refine h.end2 (List.Perm.refl _) ?_
 rcases e with rfl | rfl
 ·rw [List.drop_length,List.append_nil]; exact sx.sublist (List.drop_sublist _ _)
 ·rw [List.drop_length,List.nil_append]; exact sy.sublist (List.drop_sublist _ _)
theorem MI.end1 (h:MI rk xs ys o i j) (sy:Up rk ys) (e:i + 1=xs.length) (la:∀ u,xs[i]?=some u->∀ v∈ys,rk v<=rk u):Res rk xs ys (o ++ ys.drop j ++ xs.drop i):=by
 rw [List.append_assoc]
 have hi:xs[i]?=some xs[i]:=List.getElem?_eq_getElem (by omega)
 have ed:=ce hi
 rw [e,List.drop_length] at ed
 refine h.end2 List.perm_append_comm (List.pairwise_append.mpr ⟨sy.sublist (List.drop_sublist _ _),?_,fun a ha b hb=>?_⟩)
 ·rw [ed]; exact List.pairwise_singleton _ _
 ·rw [ed] at hb; rw [List.mem_singleton.mp hb]
  exact la _ hi a (List.mem_of_mem_drop ha)
theorem dY {l:List Keyed} (h:Up rk l) {i j:Nat} {u v:Keyed} (hij:i<=j) (hu:l[i]?=some u) (hv:l[j]?=some v):rk u<=rk v:=by
 obtain ⟨h1,e1⟩:=List.getElem?_eq_some_iff.mp hu
 obtain ⟨h2,e2⟩:=List.getElem?_eq_some_iff.mp hv
 rw [<- e1,<- e2]
 by_cases e:i=j
 ·subst e; exact Nat.le_refl _
 ·exact List.pairwise_iff_getElem.mp h i j h1 h2 (by omega)
theorem fX {l:List Keyed} (h:Up rk l) {i:Nat} {u v:Keyed} (hu:l[i]?=some u) (hv:v∈l.drop i):rk u<=rk v:=by
 obtain ⟨k,hk⟩:=List.mem_iff_getElem?.mp hv
 rw [List.getElem?_drop] at hk
 exact dY h (by omega) hu hk
end
theorem gE {a:Array Keyed} {i n:Nat}:(a.extract i n).toList=(a.toList.drop i).take (n - i):=by rw [Array.toList_extract]
theorem lB {a:Array Keyed} {i:Nat}:(a.extract i a.size).toList=a.toList.drop i:=by
 rw [gE,List.take_of_length_le]
 rw [List.length_drop,Array.length_toList]; omega
theorem bX {a:Array Keyed} {i:Nat}:a[i]?=a.toList[i]?:=by rw [Array.getElem?_toList]
end L2.TS
namespace L2.TS
open PySem PySem.Spec PyProof.Rows
abbrev SG:Type:=Option (Array Keyed)×Array Keyed×Nat×Nat×Nat×Nat×Nat
abbrev SI:Type:=Option (Array Keyed)×Array Keyed×Nat×Nat×Nat×Nat
abbrev SO:Type:=Option (Array Keyed)×Array Keyed×Nat×Nat×Nat
def fZ (xs ys o:Array Keyed) (i j:Nat):Array Keyed:=o ++ xs.extract i xs.size ++ ys.extract j ys.size
def jO (xs ys o:Array Keyed) (i j:Nat):Array Keyed:=o ++ ys.extract j ys.size ++ xs.extract i xs.size
def lo3 (xs ys o:Array Keyed) (i j mg ac bc:Nat):StateT SortSt Sem (ForInStep SG):=do
 let x <- elem' xs i
 if (i + 1 + 1 == xs.size)=true then pure (.done (some (jO xs ys (o.push x) (i + 1) j),o.push x,i + 1,j,mg,ac,bc))
 else if (decide (ac < 7) && decide (bc < 7))=true then pure (.done (none,o.push x,i + 1,j,mg,ac,bc))
 else pure (.yield (none,o.push x,i + 1,j,mg,ac,bc))
def lo2 (xs ys o:Array Keyed) (i j mg ac bc:Nat):StateT SortSt Sem (ForInStep SG):=do
 let y <- elem' ys j
 if (j + 1 == ys.size)=true then pure (.done (some (fZ xs ys (o.push y) i (j + 1)),o.push y,i,j + 1,mg,ac,bc))
 else do
  let x <- elem' xs i
  match <- gal true x ys (j + 1) (ys.size - (j + 1)) 0 with
  | some c=>
   if c > 0 then
    if (j + 1 + c == ys.size)=true then pure (.done (some (fZ xs ys (o.push y ++ ys.extract (j + 1) (j + 1 + c)) i (j + 1 + c)),o.push y ++ ys.extract (j + 1) (j + 1 + c),i,j + 1 + c,mg,ac,c))
    else lo3 xs ys (o.push y ++ ys.extract (j + 1) (j + 1 + c)) i (j + 1 + c) mg ac c
   else lo3 xs ys (o.push y) i (j + 1) mg ac c
  | _=>pure (.done (some (fZ xs ys (o.push y) i (j + 1)),o.push y,i,j + 1,mg,ac,bc))
def lo1 (xs ys o:Array Keyed) (i j mg ac bc:Nat):StateT SortSt Sem (ForInStep SG):=do
 jP mg
 let y <- elem' ys j
 match <- gal false y xs i (xs.size - i) 0 with
 | some c=>
  if c > 0 then
   if (i + c + 1 == xs.size)=true then pure (.done (some (jO xs ys (o ++ xs.extract i (i + c)) (i + c) j),o ++ xs.extract i (i + c),i + c,j,mg,c,bc))
   else if (i + c == xs.size)=true then pure (.done (some (fZ xs ys (o ++ xs.extract i (i + c)) (i + c) j),o ++ xs.extract i (i + c),i + c,j,mg,c,bc))
   else lo2 xs ys (o ++ xs.extract i (i + c)) (i + c) j mg c bc
  else lo2 xs ys o i j mg c bc
 | _=>pure (.done (some (fZ xs ys o i j),o,i,j,mg,ac,bc))
def loA (xs ys:Array Keyed) (mg:Nat) (c:SI):StateT SortSt Sem (ForInStep SI):=do
 let y <- elem' ys c.2.2.2.1
 let x <- elem' xs c.2.2.1
 match <- lt' y x with
 | some yw=>
  if yw=true then do
   let y <- elem' ys c.2.2.2.1
   if (c.2.2.2.1 + 1 == ys.size)=true then pure (.done (some (fZ xs ys (c.2.1.push y) c.2.2.1 (c.2.2.2.1 + 1)),c.2.1.push y,c.2.2.1,c.2.2.2.1 + 1,0,c.2.2.2.2.2 + 1))
   else if c.2.2.2.2.2 + 1>=mg then pure (.done (none,c.2.1.push y,c.2.2.1,c.2.2.2.1 + 1,0,c.2.2.2.2.2 + 1))
   else pure (.yield (none,c.2.1.push y,c.2.2.1,c.2.2.2.1 + 1,0,c.2.2.2.2.2 + 1))
  else do
   let x <- elem' xs c.2.2.1
   if (c.2.2.1 + 1 + 1 == xs.size)=true then pure (.done (some (jO xs ys (c.2.1.push x) (c.2.2.1 + 1) c.2.2.2.1),c.2.1.push x,c.2.2.1 + 1,c.2.2.2.1,c.2.2.2.2.1 + 1,0))
   else if c.2.2.2.2.1 + 1>=mg then pure (.done (none,c.2.1.push x,c.2.2.1 + 1,c.2.2.2.1,c.2.2.2.2.1 + 1,0))
   else pure (.yield (none,c.2.1.push x,c.2.2.1 + 1,c.2.2.2.1,c.2.2.2.2.1 + 1,0))
 | _=>pure (.done (some (fZ xs ys c.2.1 c.2.2.1 c.2.2.2.1),c.2.1,c.2.2.1,c.2.2.2.1,c.2.2.2.2.1,c.2.2.2.2.2))
def loB (xs ys:Array Keyed) (d:SO):StateT SortSt Sem (ForInStep SO):=do
 let c <- forIn [0:xs.size + ys.size] ((none,d.2.1,d.2.2.1,d.2.2.2.1,0,0):SI) fun _ c=>loA xs ys d.2.2.2.2 c
 match c.1 with
 | some r=>pure (.done (some r,c.2.1,c.2.2.1,c.2.2.2.1,d.2.2.2.2))
 | none=>do
  rule "list.sort.gallop"
  let e <- forIn [0:xs.size + ys.size] ((none,c.2.1,c.2.2.1,c.2.2.2.1,d.2.2.2.2 + 1,c.2.2.2.2.1,c.2.2.2.2.2):SG) fun _ e=>
   if e.2.2.2.2.1 > 1 then lo1 xs ys e.2.1 e.2.2.1 e.2.2.2.1 (e.2.2.2.2.1 - 1) e.2.2.2.2.2.1 e.2.2.2.2.2.2
   else lo1 xs ys e.2.1 e.2.2.1 e.2.2.2.1 e.2.2.2.2.1 e.2.2.2.2.2.1 e.2.2.2.2.2.2
  match e.1 with
  | some r=>pure (.done (some r,e.2.1,e.2.2.1,e.2.2.2.1,e.2.2.2.2.1))
  | none=>do
   jP (e.2.2.2.2.1 + 1)
   pure (.yield (none,e.2.1,e.2.2.1,e.2.2.2.1,e.2.2.2.2.1 + 1))
theorem bL {β γ:Type} {r:Std.Legacy.Range} {c:β} {f g:Nat->β->StateT SortSt Sem (ForInStep β)} {h k:β->StateT SortSt Sem γ} (h1:∀ x d,f x d=g x d) (h2:∀ d,h d=k d):(forIn r c f >>= h)=(forIn r c g >>= k):=by rw [show f=g from funext fun x=>funext (h1 x),show h=k from funext h2]
theorem uz (xs ys:Array Keyed):mLo xs ys=(do
  rule "list.sort.merge-lo"
  let all:=xs.size + ys.size
  let fin (o:Array Keyed) (i j:Nat):=o ++ xs.extract i xs.size ++ ys.extract j ys.size
  let end1 (o:Array Keyed) (i j:Nat):=o ++ ys.extract j ys.size ++ xs.extract i xs.size
  let mut o:Array Keyed:=#[<- elem' ys 0]
  let mut i:=0
  let mut j:=1
  if j == ys.size then return fin o i j
  if i + 1 == xs.size then return end1 o i j
  let mut mg:=gallopOf (<- get)
  for _ in [0:all] do
   let mut ac:=0
   let mut bc:=0
   for _ in [0:all] do
    let some yw <- lt' (<- elem' ys j) (<- elem' xs i) | return fin o i j
    if yw then
     o:=o.push (<- elem' ys j); j:=j + 1; bc:=bc + 1; ac:=0
     if j == ys.size then return fin o i j
     if bc>=mg then break
    else
     o:=o.push (<- elem' xs i); i:=i + 1; ac:=ac + 1; bc:=0
     if i + 1 == xs.size then return end1 o i j
     if ac>=mg then break
   rule "list.sort.gallop"
   mg:=mg + 1
   for _ in [0:all] do
    if mg > 1 then mg:=mg - 1
    jP mg
    let some c <- gal false (<- elem' ys j) xs i (xs.size - i) 0 | return fin o i j
    ac:=c
    if c > 0 then
     o:=o ++ xs.extract i (i + c); i:=i + c
     if i + 1 == xs.size then return end1 o i j
     if i == xs.size then return fin o i j
    o:=o.push (<- elem' ys j); j:=j + 1
    if j == ys.size then return fin o i j
    let some c <- gal true (<- elem' xs i) ys j (ys.size - j) 0 | return fin o i j
    bc:=c
    if c > 0 then
     o:=o ++ ys.extract j (j + c); j:=j + c
     if j == ys.size then return fin o i j
    o:=o.push (<- elem' xs i); i:=i + 1
    if i + 1 == xs.size then return end1 o i j
    if ac < 7 && bc < 7 then break
   mg:=mg + 1
   jP mg
  unsupported "internal:list.sort.merge-bound"):=rfl
theorem wo (xs ys:Array Keyed):mLo xs ys=(do
  rule "list.sort.merge-lo"
  let y <- elem' ys 0
  if (1 == ys.size)=true then pure (fZ xs ys #[y] 0 1)
  else if (0 + 1 == xs.size)=true then pure (jO xs ys #[y] 0 1)
  else do
   let g <- get
   let d <- forIn [0:xs.size + ys.size] ((none,#[y],0,1,gallopOf g):SO) fun _ d=>loB xs ys d
   match d.1 with
   | some r=>pure r
   | none=>unsupported "internal:list.sort.merge-bound"):=by
 rw [uz]
 refine bind_congr fun _=>?_
 refine bind_congr fun y=>?_
 refine ite_congr rfl (fun _=>rfl) fun _=>?_
 refine ite_congr rfl (fun _=>rfl) fun _=>?_
 refine bind_congr fun g=>?_
 refine bL (fun x d=>?_) (fun d=>by obtain ⟨r,d⟩:=d; cases r <;> rfl)
 unfold loB
 refine bL (fun x c=>rfl) (fun c=>?_)
 obtain ⟨r,o,i,j,ac,bc⟩:=c
 cases r with
 | some r=>rfl
 | none=>
  refine bind_congr fun _=>?_
  refine bL (fun x e=>?_) (fun d=>?_)
  ·refine ite_congr rfl (fun _=>?_) fun _=>?_
   ·unfold lo1
    refine bind_congr fun _=>?_
    refine bind_congr fun y=>?_
    refine bind_congr fun c=>?_
    cases c with
    | none=>rfl
    | some c=>
     refine ite_congr rfl (fun _=>?_) fun _=>?_
     ·refine ite_congr rfl (fun _=>rfl) fun _=>?_
      refine ite_congr rfl (fun _=>rfl) fun _=>?_
      unfold lo2
      rfl
     ·rfl
   ·rfl
  ·obtain ⟨r,d⟩:=d; cases r <;> rfl
theorem gZ (g:Nat):jP g=modify fun st=>SortSt.mk' (kindOf st) (arrOf st) (pendingOf st) g (failedOf st):=rfl
structure Ok (st st':SortSt):Prop where
 kd:kindOf st'=kindOf st
 ar:arrOf st'=arrOf st
 pe:pendingOf st'=pendingOf st
 fa:failedOf st'=failedOf st
theorem Ok.refl (st:SortSt):Ok st st:=⟨rfl,rfl,rfl,rfl⟩
theorem Ok.trans {a b c:SortSt} (h:Ok a b) (k:Ok b c):Ok a c:=⟨k.kd.trans h.kd,k.ar.trans h.ar,k.pe.trans h.pe,k.fa.trans h.fa⟩
def Aft (rk:Keyed->Nat) (xs ys:Array Keyed) (n:Nat) (st:SortSt) {α:Type} (r:Option (Array Keyed)) (o:Array Keyed) (i j:Nat) (st':SortSt):Prop:=
 Ok st st'/\match r with
  | some r=>Res rk xs.toList ys.toList r.toList
  | none=>MI rk xs.toList ys.toList o.toList i j/\i + 1 < xs.size/\j < ys.size/\n < i + j
def qQ (rk:Keyed->Nat) (xs ys:Array Keyed) (n:Nat) (st:SortSt) (r:ForInStep SG) (st':SortSt):Prop:=match r with
 | .done e=>Aft (α:=Unit) rk xs ys n st e.1 e.2.1 e.2.2.1 e.2.2.2.1 st'
 | .yield e=>e.1=none/\Aft (α:=Unit) rk xs ys n st e.1 e.2.1 e.2.2.1 e.2.2.2.1 st'
section
variable {prog:Program} {w:World} {A:Around} {E:Value->Shared->Prop} {s:Shared} {kd:SortKind} {M:Keyed->Prop} {rk:Keyed->Nat} {xs ys o:Array Keyed} {i j mg ac bc n:Nat} {st:SortSt}
theorem dX {u:Keyed}:(o.push u).toList=o.toList ++ [u]:=Array.toList_push
theorem tD {c:Nat}:(o ++ xs.extract i (i + c)).toList=o.toList ++ (xs.toList.drop i).take c:=by rw [Array.toList_append,gE,Nat.add_sub_cancel_left]
theorem fz:(fZ xs ys o i j).toList=o.toList ++ xs.toList.drop i ++ ys.toList.drop j:=by unfold fZ; rw [Array.toList_append,Array.toList_append,lB,lB]
theorem ia:(jO xs ys o i j).toList=o.toList ++ ys.toList.drop j ++ xs.toList.drop i:=by unfold jO; rw [Array.toList_append,Array.toList_append,lB,lB]
theorem aS {a:Array Keyed} {k:Nat} (h:k < a.size):∃ u,a[k]?=some u/\a.toList[k]?=some u:=⟨a[k],getElem?_pos a k h,by rw [<- bX]; exact getElem?_pos a k h⟩
theorem rO (T:Two rk M xs.toList ys.toList) (la:∀ u,xs.toList[xs.size - 1]?=some u->∀ v∈ys.toList,rk v<=rk u) (h:MI rk xs.toList ys.toList o.toList i j) (hi:i + 1 < xs.size) (hj:j < ys.size) (hn:n<=i + j)
  (le:∀ u,xs.toList[i]?=some u->∀ v∈ys.toList.drop j,rk u<=rk v):wpS (model prog w) A E s (lo3 xs ys o i j mg ac bc) (qQ rk xs ys n st) st:=by
 unfold lo3
 obtain ⟨x,e1,e2⟩:=aS (a:=xs) (k:=i) (by omega)
 refine wpS_bind (bF e1 ?_)
 have h1:=h.tx T.sx e2 (le x e2)
 rw [<- dX] at h1
 by_cases c1:(i + 1 + 1 == xs.size)=true
 ·rw [if_pos c1]
  have c1':i + 1 + 1=xs.size:=by simpa using c1
  refine wpS_pure ⟨Ok.refl _,?_⟩
  show Res _ _ _ (jO _ _ _ _ _).toList
  rw [ia]
  exact h1.end1 T.sy (by rw [Array.length_toList]; exact c1') fun u hu=>la u (by rw [<- c1']; exact hu)
 ·rw [if_neg c1]
  have c1':¬ i + 1 + 1=xs.size:=by simpa using c1
  have z:Aft (α:=Unit) rk xs ys n st none (o.push x) (i + 1) j st:=⟨Ok.refl _,h1,by omega,hj,by omega⟩
  by_cases c2:(decide (ac < 7) && decide (bc < 7))=true
  ·rw [if_pos c2]; exact wpS_pure z
  ·rw [if_neg c2]; exact wpS_pure ⟨rfl,z⟩
theorem uo (O:Ask prog w A s kd M rk) (hk:kindOf st=kd) (T:Two rk M xs.toList ys.toList) (la:∀ u,xs.toList[xs.size - 1]?=some u->∀ v∈ys.toList,rk v<=rk u) (h:MI rk xs.toList ys.toList o.toList i j) (hi:i + 1 < xs.size) (hj:j < ys.size) (hn:n<=i + j)
  (le:∀ u,ys.toList[j]?=some u->∀ v∈xs.toList.drop i,rk u<=rk v):wpS (model prog w) A E s (lo2 xs ys o i j mg ac bc) (qQ rk xs ys n st) st:=by
 unfold lo2
 obtain ⟨y,e1,e2⟩:=aS (a:=ys) (k:=j) hj
 refine wpS_bind (bF e1 ?_)
 have h1:=h.ty T.sy e2 (le y e2)
 rw [<- dX] at h1
 by_cases c1:(j + 1 == ys.size)=true
 ·rw [if_pos c1]
  have c1':j + 1=ys.size:=by simpa using c1
  refine wpS_pure ⟨Ok.refl _,?_⟩
  show Res _ _ _ (fZ _ _ _ _ _).toList
  rw [fz]
  exact h1.fin T.sx T.sy (.inl (by rw [Array.length_toList]; exact c1'))
 ·rw [if_neg c1]
  have c1':¬ j + 1=ys.size:=by simpa using c1
  obtain ⟨x,f1,f2⟩:=aS (a:=xs) (k:=i) (by omega)
  refine wpS_bind (bF f1 ?_)
  refine wpS_bind (gn O hk (T.mx x (List.mem_of_getElem? f2)) (fun k hk'=>?_) (fun a b hab hb=>?_) (by omega) fun c hc lo hi'=>?_)
  ·obtain ⟨u,g1,g2⟩:=aS (a:=ys) (k:=j + 1 + k) (by omega)
   exact ⟨u,g1,T.my u (List.mem_of_getElem? g2)⟩
  ·obtain ⟨u,g1,g2⟩:=aS (a:=ys) (k:=j + 1 + a) (by omega)
   obtain ⟨v,k1,k2⟩:=aS (a:=ys) (k:=j + 1 + b) (by omega)
   rw [cf g1,cf k1]
   exact dY T.sy (by omega) g2 k2
  dsimp only
  have bl:∀ k u,k < c->ys.toList[j + 1 + k]?=some u->rk u < rk x:=fun k u hk' hu=>by
   have:=lo k hk'
   rw [cf (by rw [bX]; exact hu)] at this
   exact of_decide_eq_true this
  have ab:∀ v∈ys.toList.drop (j + 1 + c),rk x<=rk v:=fun v hv=>by
   obtain ⟨k,hk'⟩:=List.mem_iff_getElem?.mp hv
   rw [List.getElem?_drop] at hk'
   have hl:=(List.getElem?_eq_some_iff.mp hk').1
   rw [Array.length_toList] at hl
   have:=hi' (c + k) (by omega) (by omega)
   rw [cf (x:=v) (by rw [bX,<- hk']; congr 1; omega)] at this
   have:=of_decide_eq_false this
   omega
  have h2:=MI.gy T.sy c h1 (by rw [Array.length_toList]; omega) fun k u hk' hu v hv=>Nat.le_trans (Nat.le_of_lt (bl k u hk' hu)) (fX T.sx f2 hv)
  rw [<- tD] at h2
  by_cases c2:c > 0
  ·rw [if_pos c2]
   by_cases c3:(j + 1 + c == ys.size)=true
   ·rw [if_pos c3]
    have c3':j + 1 + c=ys.size:=by simpa using c3
    refine wpS_pure ⟨Ok.refl _,?_⟩
    show Res _ _ _ (fZ _ _ _ _ _).toList
    rw [fz]
    exact h2.fin T.sx T.sy (.inl (by rw [Array.length_toList]; exact c3'))
   ·rw [if_neg c3]
    have c3':¬ j + 1 + c=ys.size:=by simpa using c3
    exact rO T la h2 hi (by omega) (by omega) fun u hu v hv=>by rw [f2] at hu; cases hu; exact ab v hv
  ·rw [if_neg c2]
   have c0:c=0:=by omega
   subst c0
   exact rO T la h1 hi (by omega) (by omega) fun u hu v hv=>by rw [f2] at hu; cases hu; exact ab v hv
theorem tq (O:Ask prog w A s kd M rk) (hk:kindOf st=kd) (T:Two rk M xs.toList ys.toList) (la:∀ u,xs.toList[xs.size - 1]?=some u->∀ v∈ys.toList,rk v<=rk u) (h:MI rk xs.toList ys.toList o.toList i j) (hi:i + 1 < xs.size) (hj:j < ys.size) (hn:n<=i + j) :
  wpS (model prog w) A E s (lo1 xs ys o i j mg ac bc) (qQ rk xs ys n st) st:=by
 unfold lo1
 rw [gZ]
 refine wpS_bind (wpS_modify ?_)
 generalize hst:SortSt.mk' (kindOf st) (arrOf st) (pendingOf st) mg (failedOf st)=st1
 have ok1:Ok st st1:=by rw [<- hst]; exact ⟨rfl,rfl,rfl,rfl⟩
 have hk1:kindOf st1=kd:=ok1.kd.trans hk
 obtain ⟨y,e1,e2⟩:=aS (a:=ys) (k:=j) hj
 refine wpS_bind (bF e1 ?_)
 have lift:∀ r st',qQ rk xs ys n st1 r st'->qQ rk xs ys n st r st':=fun r st' z=>by
  cases r with
  | done e=>exact ⟨ok1.trans z.1,z.2⟩
  | yield e=>exact ⟨z.1,ok1.trans z.2.1,z.2.2⟩
 refine wpS_bind (gn O hk1 (T.my y (List.mem_of_getElem? e2)) (fun k hk'=>?_) (fun a b hab hb=>?_) (by omega) fun c hc lo hi'=>?_)
 ·obtain ⟨u,g1,g2⟩:=aS (a:=xs) (k:=i + k) (by omega)
  exact ⟨u,g1,T.mx u (List.mem_of_getElem? g2)⟩
 ·obtain ⟨u,g1,g2⟩:=aS (a:=xs) (k:=i + a) (by omega)
  obtain ⟨v,k1,k2⟩:=aS (a:=xs) (k:=i + b) (by omega)
  rw [cf g1,cf k1]
  exact dY T.sx (by omega) g2 k2
 dsimp only
 have bl:∀ k u,k < c->xs.toList[i + k]?=some u->rk u<=rk y:=fun k u hk' hu=>by
  have:=lo k hk'
  rw [cf (by rw [bX]; exact hu)] at this
  exact of_decide_eq_true this
 have ab:∀ v∈xs.toList.drop (i + c),rk y<=rk v:=fun v hv=>by
  obtain ⟨k,hk'⟩:=List.mem_iff_getElem?.mp hv
  rw [List.getElem?_drop] at hk'
  have hl:=(List.getElem?_eq_some_iff.mp hk').1
  rw [Array.length_toList] at hl
  have:=hi' (c + k) (by omega) (by omega)
  rw [cf (x:=v) (by rw [bX,<- hk']; congr 1; omega)] at this
  have:=of_decide_eq_false this
  omega
 have h2:=MI.gx T.sx c h (by rw [Array.length_toList]; omega) fun k u hk' hu v hv=>Nat.le_trans (bl k u hk' hu) (fX T.sy e2 hv)
 rw [<- tD] at h2
 by_cases c2:c > 0
 ·rw [if_pos c2]
  by_cases c3:(i + c + 1 == xs.size)=true
  ·rw [if_pos c3]
   have c3':i + c + 1=xs.size:=by simpa using c3
   refine wpS_pure ⟨ok1,?_⟩
   show Res _ _ _ (jO _ _ _ _ _).toList
   rw [ia]
   exact h2.end1 T.sy (by rw [Array.length_toList]; exact c3') fun u hu=>la u (by rw [<- c3']; exact hu)
  ·rw [if_neg c3]
   have c3':¬ i + c + 1=xs.size:=by simpa using c3
   by_cases c4:(i + c == xs.size)=true
   ·rw [if_pos c4]
    have c4':i + c=xs.size:=by simpa using c4
    refine wpS_pure ⟨ok1,?_⟩
    show Res _ _ _ (fZ _ _ _ _ _).toList
    rw [fz]
    exact h2.fin T.sx T.sy (.inr (by rw [Array.length_toList]; exact c4'))
   ·rw [if_neg c4]
    have c4':¬ i + c=xs.size:=by simpa using c4
    exact wpS_mono (uo O hk1 T la h2 (by omega) hj (by omega) fun u hu v hv=>by rw [e2] at hu; cases hu; exact ab v hv) lift
 ·rw [if_neg c2]
  have c0:c=0:=by omega
  subst c0
  exact wpS_mono (uo O hk1 T la h hi hj hn fun u hu v hv=>by rw [e2] at hu; cases hu; exact ab v hv) lift
def yp (rk:Keyed->Nat) (xs ys:Array Keyed) (n:Nat) (st:SortSt) (r:ForInStep SI) (st':SortSt):Prop:=match r with
 | .done e=>Aft (α:=Unit) rk xs ys n st e.1 e.2.1 e.2.2.1 e.2.2.2.1 st'
 | .yield e=>e.1=none/\Aft (α:=Unit) rk xs ys n st e.1 e.2.1 e.2.2.1 e.2.2.2.1 st'
theorem wK (O:Ask prog w A s kd M rk) (hk:kindOf st=kd) (T:Two rk M xs.toList ys.toList) (la:∀ u,xs.toList[xs.size - 1]?=some u->∀ v∈ys.toList,rk v<=rk u) (h:MI rk xs.toList ys.toList o.toList i j) (hi:i + 1 < xs.size) (hj:j < ys.size) (hn:n<=i + j) :
  wpS (model prog w) A E s (loA xs ys mg (none,o,i,j,ac,bc)) (yp rk xs ys n st) st:=by
 unfold loA
 dsimp only
 obtain ⟨y,e1,e2⟩:=aS (a:=ys) (k:=j) hj
 obtain ⟨x,f1,f2⟩:=aS (a:=xs) (k:=i) (by omega)
 refine wpS_bind (bF e1 (wpS_bind (bF f1 (wpS_bind (nr O hk (T.my y (List.mem_of_getElem? e2)) (T.mx x (List.mem_of_getElem? f2)) ?_)))))
 dsimp only
 by_cases c0:rk y < rk x
 ·rw [decide_eq_true c0,if_pos rfl]
  refine wpS_bind (bF e1 ?_)
  have h1:=h.ty T.sy e2 fun v hv=>Nat.le_trans (Nat.le_of_lt c0) (fX T.sx f2 hv)
  rw [<- dX] at h1
  by_cases c1:(j + 1 == ys.size)=true
  ·rw [if_pos c1]
   have c1':j + 1=ys.size:=by simpa using c1
   refine wpS_pure ⟨Ok.refl _,?_⟩
   show Res _ _ _ (fZ _ _ _ _ _).toList
   rw [fz]
   exact h1.fin T.sx T.sy (.inl (by rw [Array.length_toList]; exact c1'))
  ·rw [if_neg c1]
   have c1':¬ j + 1=ys.size:=by simpa using c1
   have z:Aft (α:=Unit) rk xs ys n st none (o.push y) i (j + 1) st:=⟨Ok.refl _,h1,hi,by omega,by omega⟩
   by_cases c2:bc + 1>=mg
   ·rw [if_pos c2]; exact wpS_pure z
   ·rw [if_neg c2]; exact wpS_pure ⟨rfl,z⟩
 ·rw [decide_eq_false c0,if_neg (by decide)]
  refine wpS_bind (bF f1 ?_)
  have h1:=h.tx T.sx f2 fun v hv=>Nat.le_trans (Nat.le_of_not_lt c0) (fX T.sy e2 hv)
  rw [<- dX] at h1
  by_cases c1:(i + 1 + 1 == xs.size)=true
  ·rw [if_pos c1]
   have c1':i + 1 + 1=xs.size:=by simpa using c1
   refine wpS_pure ⟨Ok.refl _,?_⟩
   show Res _ _ _ (jO _ _ _ _ _).toList
   rw [ia]
   exact h1.end1 T.sy (by rw [Array.length_toList]; exact c1') fun u hu=>la u (by rw [<- c1']; exact hu)
  ·rw [if_neg c1]
   have c1':¬ i + 1 + 1=xs.size:=by simpa using c1
   have z:Aft (α:=Unit) rk xs ys n st none (o.push x) (i + 1) j st:=⟨Ok.refl _,h1,by omega,hj,by omega⟩
   by_cases c2:ac + 1>=mg
   ·rw [if_pos c2]; exact wpS_pure z
   ·rw [if_neg c2]; exact wpS_pure ⟨rfl,z⟩
def yz (rk:Keyed->Nat) (xs ys:Array Keyed) (n:Nat) (st:SortSt) (r:ForInStep SO) (st':SortSt):Prop:=match r with
 | .done e=>e.1≠none/\Aft (α:=Unit) rk xs ys n st e.1 e.2.1 e.2.2.1 e.2.2.2.1 st'
 | .yield e=>e.1=none/\Aft (α:=Unit) rk xs ys n st e.1 e.2.1 e.2.2.1 e.2.2.2.1 st'
theorem vX (O:Ask prog w A s kd M rk) (hk:kindOf st=kd) (T:Two rk M xs.toList ys.toList) (la:∀ u,xs.toList[xs.size - 1]?=some u->∀ v∈ys.toList,rk v<=rk u) (h:MI rk xs.toList ys.toList o.toList i j) (hi:i + 1 < xs.size) (hj:j < ys.size) (hn:n<=i + j) :
  wpS (model prog w) A E s (loB xs ys (none,o,i,j,mg)) (yz rk xs ys n st) st:=by
 unfold loB
 dsimp only
 refine wpS_bind (wpS_mono (wpS_forRange (I:=fun x c st'=>c.1=none/\Ok st st'/\MI rk xs.toList ys.toList c.2.1.toList c.2.2.1 c.2.2.2.1/\c.2.2.1 + 1 < xs.size/\c.2.2.2.1 < ys.size/\n + x<=c.2.2.1 + c.2.2.2.1)
  (Q:=fun c st'=>Aft (α:=Unit) rk xs ys n st c.1 c.2.1 c.2.2.1 c.2.2.2.1 st') ?s1 ?f1 ⟨rfl,Ok.refl _,h,hi,hj,hn⟩) ?p1)
 case f1=>
  rintro ⟨r,o,i,j,ac,bc⟩ st' ⟨rfl,ok,m,a1,a2,a3⟩
  dsimp only at a1 a2 a3
  omega
 case s1=>
  rintro x ⟨r,o,i,j,ac,bc⟩ st' _ hx ⟨e,ok,m,a1,a2,a3⟩
  obtain rfl:r=none:=e
  refine wpS_mono (wK (n:=n + x) O (ok.kd.trans hk) T la m a1 a2 a3) fun r st2 z=>?_
  cases r with
  | done e=>
   obtain ⟨r,o,i,j,ac,bc⟩:=e
   refine ⟨ok.trans z.1,?_⟩
   cases r with
   | some r=>exact z.2
   | none=>exact ⟨z.2.1,z.2.2.1,z.2.2.2.1,by have:=z.2.2.2.2; dsimp only at this ⊢; omega⟩
  | yield e=>
   obtain ⟨r,o,i,j,ac,bc⟩:=e
   obtain ⟨e,ok2,z⟩:=z
   obtain rfl:r=none:=e
   exact ⟨rfl,ok.trans ok2,z.1,z.2.1,z.2.2.1,by have:=z.2.2.2; dsimp only at this ⊢; omega⟩
 case p1=>
  rintro ⟨r,o,i,j,ac,bc⟩ st1 ⟨ok1,z⟩
  cases r with
  | some r=>exact wpS_pure ⟨by simp,ok1,z⟩
  | none=>
   obtain ⟨m,a1,a2,a3⟩:=z
   dsimp only at m a1 a2 a3 ⊢
   refine wpS_bind (wpS_lift (wpAny_rule ⟨rfl,?_⟩))
   refine wpS_bind (wpS_mono (wpS_forRange (I:=fun x c st'=>c.1=none/\Ok st st'/\MI rk xs.toList ys.toList c.2.1.toList c.2.2.1 c.2.2.2.1/\c.2.2.1 + 1 < xs.size/\c.2.2.2.1 < ys.size/\n + 1 + x<=c.2.2.1 + c.2.2.2.1)
    (Q:=fun c st'=>Aft (α:=Unit) rk xs ys n st c.1 c.2.1 c.2.2.1 c.2.2.2.1 st') ?s2 ?f2 ⟨rfl,ok1,m,a1,a2,by dsimp only; omega⟩) ?p2)
   case f2=>
    rintro ⟨r,o,i,j,mg,ac,bc⟩ st' ⟨rfl,ok,m,a1,a2,a3⟩
    dsimp only at a1 a2 a3
    omega
   case s2=>
    rintro x ⟨r,o,i,j,mg,ac,bc⟩ st' _ hx ⟨e,ok,m,a1,a2,a3⟩
    obtain rfl:r=none:=e
    have fin:∀ r st2,qQ rk xs ys (n + 1 + x) st' r st2->(match r with | .done c'=>Aft (α:=Unit) rk xs ys n st c'.1 c'.2.1 c'.2.2.1 c'.2.2.2.1 st2 | .yield c'=>c'.1=none/\Ok st st2/\MI rk xs.toList ys.toList c'.2.1.toList c'.2.2.1 c'.2.2.2.1/\c'.2.2.1 + 1 < xs.size/\c'.2.2.2.1 < ys.size/\n + 1 + (x + 1)<=c'.2.2.1 + c'.2.2.2.1):=fun r st2 z=>by
     cases r with
     | done e=>
      obtain ⟨r,o,i,j,mg,ac,bc⟩:=e
      refine ⟨ok.trans z.1,?_⟩
      cases r with
      | some r=>exact z.2
      | none=>exact ⟨z.2.1,z.2.2.1,z.2.2.2.1,by have:=z.2.2.2.2; dsimp only at this ⊢; omega⟩
     | yield e=>
      obtain ⟨r,o,i,j,mg,ac,bc⟩:=e
      obtain ⟨e,ok2,z⟩:=z
      obtain rfl:r=none:=e
      exact ⟨rfl,ok.trans ok2,z.1,z.2.1,z.2.2.1,by have:=z.2.2.2; dsimp only at this ⊢; omega⟩
    dsimp only
    by_cases c:mg > 1
    ·rw [if_pos c]; exact wpS_mono (tq (n:=n + 1 + x) O (ok.kd.trans hk) T la m a1 a2 a3) fun r st2 z=>by have:=fin r st2 z; cases r <;> exact this
    ·rw [if_neg c]; exact wpS_mono (tq (n:=n + 1 + x) O (ok.kd.trans hk) T la m a1 a2 a3) fun r st2 z=>by have:=fin r st2 z; cases r <;> exact this
   case p2=>
    rintro ⟨r,o,i,j,mg,ac,bc⟩ st2 ⟨ok2,z⟩
    cases r with
    | some r=>exact wpS_pure ⟨by simp,ok2,z⟩
    | none=>
     dsimp only
     rw [gZ]
     exact wpS_bind (wpS_modify (wpS_pure ⟨rfl,ok2.trans ⟨rfl,rfl,rfl,rfl⟩,z⟩))
theorem wN {Q:Array Keyed->SortSt->Prop} (O:Ask prog w A s kd M rk) (hk:kindOf st=kd) (T:Two rk M xs.toList ys.toList) (la:∀ u,xs.toList[xs.size - 1]?=some u->∀ v∈ys.toList,rk v<=rk u) (h0:∀ u,ys.toList[0]?=some u->∀ v∈xs.toList,rk u<=rk v)
  (q:∀ r st',Ok st st'->Res rk xs.toList ys.toList r.toList->Q r st'):wpS (model prog w) A E s (mLo xs ys) Q st:=by
 rw [wo]
 refine wpS_bind (wpS_lift (wpAny_rule ⟨rfl,?_⟩))
 have lx:0 < xs.size:=by have:=List.length_pos_iff.mpr T.nx; rwa [Array.length_toList] at this
 have ly:0 < ys.size:=by have:=List.length_pos_iff.mpr T.ny; rwa [Array.length_toList] at this
 obtain ⟨y,e1,e2⟩:=aS (a:=ys) (k:=0) ly
 refine wpS_bind (bF e1 ?_)
 have ed:=ce e2
 rw [List.drop_zero] at ed
 have m:MI rk xs.toList ys.toList (#[y]:Array Keyed).toList 0 1:=by
  refine ⟨?_,List.pairwise_singleton _ _,fun u hu v hv=>?_,fun u hu v hv=>?_⟩
  ·rw [cc e2]; simp
  ·rw [List.mem_singleton.mp hu]; exact h0 y e2 v (by simpa using hv)
  ·rw [List.mem_singleton.mp hu]
   have p:=T.sy
   rw [ed] at p
   exact (List.pairwise_cons.mp p).1 v hv
 by_cases c1:(1 == ys.size)=true
 ·rw [if_pos c1]
  have c1':1=ys.size:=by simpa using c1
  refine wpS_pure (q _ _ (Ok.refl _) ?_)
  rw [fz]
  exact m.fin T.sx T.sy (.inl (by rw [Array.length_toList]; exact c1'))
 ·rw [if_neg c1]
  have c1':¬ 1=ys.size:=by simpa using c1
  by_cases c2:(0 + 1 == xs.size)=true
  ·rw [if_pos c2]
   have c2':0 + 1=xs.size:=by simpa using c2
   refine wpS_pure (q _ _ (Ok.refl _) ?_)
   rw [ia]
   exact m.end1 T.sy (by rw [Array.length_toList]; exact c2') fun u hu=>la u (by rw [<- c2']; exact hu)
  ·rw [if_neg c2]
   have c2':¬ 0 + 1=xs.size:=by simpa using c2
   refine wpS_bind (wpS_get ?_)
   refine wpS_bind (wpS_mono (wpS_forRange (I:=fun x c st'=>c.1=none/\Ok st st'/\MI rk xs.toList ys.toList c.2.1.toList c.2.2.1 c.2.2.2.1/\c.2.2.1 + 1 < xs.size/\c.2.2.2.1 < ys.size/\1 + x<=c.2.2.1 + c.2.2.2.1)
    (Q:=fun c st'=>∃ r,c.1=some r/\Ok st st'/\Res rk xs.toList ys.toList r.toList) ?s1 ?f1 ⟨rfl,Ok.refl _,m,by dsimp only; omega,by dsimp only; omega,by dsimp only; omega⟩) ?p1)
   case f1=>
    rintro ⟨r,o,i,j,mg⟩ st' ⟨rfl,ok,m,a1,a2,a3⟩
    dsimp only at a1 a2 a3
    omega
   case s1=>
    rintro x ⟨r,o,i,j,mg⟩ st' _ hx ⟨e,ok,m,a1,a2,a3⟩
    obtain rfl:r=none:=e
    refine wpS_mono (vX (n:=1 + x) O (ok.kd.trans hk) T la m a1 a2 a3) fun r st2 z=>?_
    cases r with
    | done e=>
     obtain ⟨r,o,i,j,mg⟩:=e
     obtain ⟨ne,ok2,z⟩:=z
     cases r with
     | some r=>exact ⟨r,rfl,ok.trans ok2,z⟩
     | none=>exact absurd rfl ne
    | yield e=>
     obtain ⟨r,o,i,j,mg⟩:=e
     obtain ⟨e,ok2,z⟩:=z
     obtain rfl:r=none:=e
     exact ⟨rfl,ok.trans ok2,z.1,z.2.1,z.2.2.1,by have:=z.2.2.2; dsimp only at this ⊢; omega⟩
   case p1=>
    rintro ⟨r,o,i,j,mg⟩ st' ⟨r',e,ok,z⟩
    obtain rfl:r=some r':=e
    exact wpS_pure (q _ _ ok z)
end
end L2.TS
namespace L2.TS
open PySem PySem.Spec PyProof.Rows
structure MH (rk:Keyed->Nat) (xs ys t:List Keyed) (i j:Nat):Prop where
 pm:t.Perm (xs.drop i ++ ys.drop j)
 so:Up rk t
 bx:∀ u∈t,∀ v∈xs.take i,rk v<=rk u
 by_:∀ u∈t,∀ v∈ys.take j,rk v<=rk u
section
variable {rk:Keyed->Nat} {M:Keyed->Prop} {xs ys t:List Keyed} {i j:Nat}
theorem MH.tx {u:Keyed} (h:MH rk xs ys t (i + 1) j) (T:Up rk xs) (hu:xs[i]?=some u) (le:∀ v∈ys.take j,rk v<=rk u):MH rk xs ys (u :: t) i j:=by
 have e:=cc hu
 refine ⟨?_,List.pairwise_cons.mpr ⟨fun a ha=>h.bx a ha u (by rw [e]; exact List.mem_append_right _ (List.mem_singleton.mpr rfl)),h.so⟩,fun a ha v hv=>?_,fun a ha v hv=>?_⟩
 ·rw [ce hu]
  exact List.Perm.cons u h.pm
 ·rcases List.mem_cons.mp ha with rfl | ha
  ·have p:Up rk (xs.take (i + 1)):=T.sublist (List.take_sublist _ _)
   rw [e] at p
   exact (List.pairwise_append.mp p).2.2 v hv a (List.mem_singleton.mpr rfl)
  ·exact h.bx a ha v (by rw [e]; exact List.mem_append_left _ hv)
 ·rcases List.mem_cons.mp ha with rfl | ha
  ·exact le v hv
  ·exact h.by_ a ha v hv
theorem MH.swap (h:MH rk xs ys t i j):MH rk ys xs t j i:=⟨h.pm.trans List.perm_append_comm,h.so,h.by_,h.bx⟩
theorem MH.gx (T:Up rk xs):∀ (k:Nat) (t:List Keyed),MH rk xs ys t (i + k) j->i + k<=xs.length->(∀ m u,i<=m->m < i + k->xs[m]?=some u->∀ v∈ys.take j,rk v<=rk u)->MH rk xs ys ((xs.drop i).take k ++ t) i j
 | 0,t,h,_,_=>by rw [List.take_zero,List.nil_append]; exact h
 | k + 1,t,h,hl,le=>by
  have hc:xs[i + k]?=some xs[i + k]:=List.getElem?_eq_getElem (by omega)
  have e:(xs.drop i)[k]?=some xs[i + k]:=by rw [List.getElem?_drop]; exact hc
  rw [cc e,List.append_assoc]
  exact MH.gx T k _ (h.tx T hc (le _ _ (by omega) (by omega) hc)) (by omega) fun m u h1 h2=>le m u h1 (by omega)
theorem MH.gy (T:Up rk ys) (k:Nat) (h:MH rk xs ys t i (j + k)) (hl:j + k<=ys.length) (le:∀ m u,j<=m->m < j + k->ys[m]?=some u->∀ v∈xs.take i,rk v<=rk u):MH rk xs ys ((ys.drop j).take k ++ t) i j:=(MH.gx T k t h.swap hl le).swap
theorem MH.end2 (h:MH rk xs ys t i j) {r:List Keyed} (hr:r.Perm (xs.take i ++ ys.take j)) (up:Up rk r):Res rk xs ys (r ++ t):=by
 refine ⟨?_,List.pairwise_append.mpr ⟨up,h.so,fun a ha b hb=>?_⟩⟩
 ·refine (hr.append h.pm).trans ?_
  conv=>rhs; rw [<- kU xs i,<- kU ys j]
  rw [List.append_assoc,List.append_assoc]
  refine List.Perm.append_left _ ?_
  rw [<- List.append_assoc,<- List.append_assoc]
  exact List.Perm.append_right _ List.perm_append_comm
 ·rcases List.mem_append.mp (hr.mem_iff.mp ha) with ha | ha
  ·exact h.bx b hb a ha
  ·exact h.by_ b hb a ha
theorem MH.fin (h:MH rk xs ys t i j) (sx:Up rk xs) (sy:Up rk ys) (e:i=0\/j=0):Res rk xs ys (xs.take i ++ ys.take j ++ t):=by
 refine h.end2 (List.Perm.refl _) ?_
 rcases e with rfl | rfl
 ·rw [List.take_zero,List.nil_append]; exact sy.sublist (List.take_sublist _ _)
 ·rw [List.take_zero,List.append_nil]; exact sx.sublist (List.take_sublist _ _)
theorem MH.fst (h:MH rk xs ys t i 1) (sx:Up rk xs) (h0:∀ u,ys[0]?=some u->∀ v∈xs,rk u<=rk v):Res rk xs ys (ys.take 1 ++ xs.take i ++ t):=by
 refine h.end2 List.perm_append_comm (List.pairwise_append.mpr ⟨?_,sx.sublist (List.take_sublist _ _),fun a ha b hb=>?_⟩)
 ·cases ys with
  | nil=>exact List.Pairwise.nil
  | cons y ys=>exact List.pairwise_singleton _ _
 ·cases ys with
  | nil=>cases ha
  | cons y ys=>
   rw [show (y :: ys).take 1=[y] from rfl] at ha
   rw [List.mem_singleton.mp ha]
   exact h0 y rfl b (List.mem_of_mem_take hb)
theorem vD {l:List Keyed} (h:Up rk l) {i:Nat} {u v:Keyed} (hu:l[i]?=some u) (hv:v∈l.take (i + 1)):rk v<=rk u:=by
 obtain ⟨k,hk⟩:=List.mem_iff_getElem?.mp hv
 have hl:=(List.getElem?_eq_some_iff.mp hk).1
 rw [List.length_take] at hl
 rw [List.getElem?_take,if_pos (by omega)] at hk
 exact dY h (by omega) hk hu
end
def fS (xs ys o:Array Keyed) (i j:Nat):Array Keyed:=xs.extract 0 i ++ ys.extract 0 j ++ o.reverse
def kF (xs ys o:Array Keyed) (i j:Nat):Array Keyed:=ys.extract 0 j ++ xs.extract 0 i ++ o.reverse
abbrev HG:Type:=Option (Array Keyed)×Nat×Nat×Array Keyed×Nat×Nat×Nat
abbrev HI:Type:=Option (Array Keyed)×Nat×Nat×Array Keyed×Nat×Nat
abbrev HQ:Type:=Option (Array Keyed)×Nat×Nat×Array Keyed×Nat
def hi3 (xs ys o:Array Keyed) (i j mg ac bc:Nat):StateT SortSt Sem (ForInStep HG):=do
 let x <- elem' xs (i - 1)
 if (i - 1 == 0)=true then pure (.done (some (fS xs ys (o.push x) (i - 1) j),i - 1,j,o.push x,mg,ac,bc))
 else if (decide (ac < 7) && decide (bc < 7))=true then pure (.done (none,i - 1,j,o.push x,mg,ac,bc))
 else pure (.yield (none,i - 1,j,o.push x,mg,ac,bc))
def hi2 (xs ys o:Array Keyed) (i j mg ac bc:Nat):StateT SortSt Sem (ForInStep HG):=do
 let y <- elem' ys (j - 1)
 if (j - 1 == 1)=true then pure (.done (some (kF xs ys (o.push y) i (j - 1)),i,j - 1,o.push y,mg,ac,bc))
 else do
  let x <- elem' xs (i - 1)
  match <- gal true x ys 0 (j - 1) (j - 1 - 1) with
  | some p=>
   if j - 1 - p > 0 then
    if (p == 1)=true then pure (.done (some (kF xs ys (o.push y ++ (ys.extract p (j - 1)).reverse) i p),i,p,o.push y ++ (ys.extract p (j - 1)).reverse,mg,ac,j - 1 - p))
    else if (p == 0)=true then pure (.done (some (fS xs ys (o.push y ++ (ys.extract p (j - 1)).reverse) i p),i,p,o.push y ++ (ys.extract p (j - 1)).reverse,mg,ac,j - 1 - p))
    else hi3 xs ys (o.push y ++ (ys.extract p (j - 1)).reverse) i p mg ac (j - 1 - p)
   else hi3 xs ys (o.push y) i (j - 1) mg ac (j - 1 - p)
  | _=>pure (.done (some (fS xs ys (o.push y) i (j - 1)),i,j - 1,o.push y,mg,ac,bc))
def hi1 (xs ys o:Array Keyed) (i j mg ac bc:Nat):StateT SortSt Sem (ForInStep HG):=do
 jP mg
 let y <- elem' ys (j - 1)
 match <- gal false y xs 0 i (i - 1) with
 | some p=>
  if i - p > 0 then
   if (p == 0)=true then pure (.done (some (fS xs ys (o ++ (xs.extract p i).reverse) p j),p,j,o ++ (xs.extract p i).reverse,mg,i - p,bc))
   else hi2 xs ys (o ++ (xs.extract p i).reverse) p j mg (i - p) bc
  else hi2 xs ys o i j mg (i - p) bc
 | _=>pure (.done (some (fS xs ys o i j),i,j,o,mg,ac,bc))
def hiA (xs ys:Array Keyed) (mg:Nat) (c:HI):StateT SortSt Sem (ForInStep HI):=do
 let y <- elem' ys (c.2.2.1 - 1)
 let x <- elem' xs (c.2.1 - 1)
 match <- lt' y x with
 | some xw=>
  if xw=true then do
   let x <- elem' xs (c.2.1 - 1)
   if (c.2.1 - 1 == 0)=true then pure (.done (some (fS xs ys (c.2.2.2.1.push x) (c.2.1 - 1) c.2.2.1),c.2.1 - 1,c.2.2.1,c.2.2.2.1.push x,c.2.2.2.2.1 + 1,0))
   else if c.2.2.2.2.1 + 1>=mg then pure (.done (none,c.2.1 - 1,c.2.2.1,c.2.2.2.1.push x,c.2.2.2.2.1 + 1,0))
   else pure (.yield (none,c.2.1 - 1,c.2.2.1,c.2.2.2.1.push x,c.2.2.2.2.1 + 1,0))
  else do
   let y <- elem' ys (c.2.2.1 - 1)
   if (c.2.2.1 - 1 == 1)=true then pure (.done (some (kF xs ys (c.2.2.2.1.push y) c.2.1 (c.2.2.1 - 1)),c.2.1,c.2.2.1 - 1,c.2.2.2.1.push y,0,c.2.2.2.2.2 + 1))
   else if c.2.2.2.2.2 + 1>=mg then pure (.done (none,c.2.1,c.2.2.1 - 1,c.2.2.2.1.push y,0,c.2.2.2.2.2 + 1))
   else pure (.yield (none,c.2.1,c.2.2.1 - 1,c.2.2.2.1.push y,0,c.2.2.2.2.2 + 1))
 | _=>pure (.done (some (fS xs ys c.2.2.2.1 c.2.1 c.2.2.1),c.2.1,c.2.2.1,c.2.2.2.1,c.2.2.2.2.1,c.2.2.2.2.2))
def hiB (xs ys:Array Keyed) (d:HQ):StateT SortSt Sem (ForInStep HQ):=do
 let c <- forIn [0:xs.size + ys.size] ((none,d.2.1,d.2.2.1,d.2.2.2.1,0,0):HI) fun _ c=>hiA xs ys d.2.2.2.2 c
 match c.1 with
 | some r=>pure (.done (some r,c.2.1,c.2.2.1,c.2.2.2.1,d.2.2.2.2))
 | none=>do
  rule "list.sort.gallop"
  let e <- forIn [0:xs.size + ys.size] ((none,c.2.1,c.2.2.1,c.2.2.2.1,d.2.2.2.2 + 1,c.2.2.2.2.1,c.2.2.2.2.2):HG) fun _ e=>
   if e.2.2.2.2.1 > 1 then hi1 xs ys e.2.2.2.1 e.2.1 e.2.2.1 (e.2.2.2.2.1 - 1) e.2.2.2.2.2.1 e.2.2.2.2.2.2
   else hi1 xs ys e.2.2.2.1 e.2.1 e.2.2.1 e.2.2.2.2.1 e.2.2.2.2.2.1 e.2.2.2.2.2.2
  match e.1 with
  | some r=>pure (.done (some r,e.2.1,e.2.2.1,e.2.2.2.1,e.2.2.2.2.1))
  | none=>do
   jP (e.2.2.2.2.1 + 1)
   pure (.yield (none,e.2.1,e.2.2.1,e.2.2.2.1,e.2.2.2.2.1 + 1))
theorem vz (xs ys:Array Keyed):mHi xs ys=(do
  rule "list.sort.merge-hi"
  let all:=xs.size + ys.size
  let fin (o:Array Keyed) (i j:Nat):=xs.extract 0 i ++ ys.extract 0 j ++ o.reverse
  let fst (o:Array Keyed) (i j:Nat):=ys.extract 0 j ++ xs.extract 0 i ++ o.reverse
  let mut i:=xs.size - 1
  let mut j:=ys.size
  let mut o:Array Keyed:=#[<- elem' xs i]
  if i == 0 then return fin o i j
  if j == 1 then return fst o i j
  let mut mg:=gallopOf (<- get)
  for _ in [0:all] do
   let mut ac:=0
   let mut bc:=0
   for _ in [0:all] do
    let some xw <- lt' (<- elem' ys (j - 1)) (<- elem' xs (i - 1)) | return fin o i j
    if xw then
     i:=i - 1; o:=o.push (<- elem' xs i); ac:=ac + 1; bc:=0
     if i == 0 then return fin o i j
     if ac>=mg then break
    else
     j:=j - 1; o:=o.push (<- elem' ys j); bc:=bc + 1; ac:=0
     if j == 1 then return fst o i j
     if bc>=mg then break
   rule "list.sort.gallop"
   mg:=mg + 1
   for _ in [0:all] do
    if mg > 1 then mg:=mg - 1
    jP mg
    let some p <- gal false (<- elem' ys (j - 1)) xs 0 i (i - 1) | return fin o i j
    let k:=i - p
    ac:=k
    if k > 0 then
     o:=o ++ (xs.extract p i).reverse; i:=p
     if i == 0 then return fin o i j
    j:=j - 1; o:=o.push (<- elem' ys j)
    if j == 1 then return fst o i j
    let some p <- gal true (<- elem' xs (i - 1)) ys 0 j (j - 1) | return fin o i j
    let k:=j - p
    bc:=k
    if k > 0 then
     o:=o ++ (ys.extract p j).reverse; j:=p
     if j == 1 then return fst o i j
     if j == 0 then return fin o i j
    i:=i - 1; o:=o.push (<- elem' xs i)
    if i == 0 then return fin o i j
    if ac < 7 && bc < 7 then break
   mg:=mg + 1
   jP mg
  unsupported "internal:list.sort.merge-bound"):=rfl
theorem vZ (xs ys:Array Keyed):mHi xs ys=(do
  rule "list.sort.merge-hi"
  let x <- elem' xs (xs.size - 1)
  if (xs.size - 1 == 0)=true then pure (fS xs ys #[x] (xs.size - 1) ys.size)
  else if (ys.size == 1)=true then pure (kF xs ys #[x] (xs.size - 1) ys.size)
  else do
   let g <- get
   let d <- forIn [0:xs.size + ys.size] ((none,xs.size - 1,ys.size,#[x],gallopOf g):HQ) fun _ d=>hiB xs ys d
   match d.1 with
   | some r=>pure r
   | none=>unsupported "internal:list.sort.merge-bound"):=by
 rw [vz]
 refine bind_congr fun _=>?_
 refine bind_congr fun y=>?_
 refine ite_congr rfl (fun _=>rfl) fun _=>?_
 refine ite_congr rfl (fun _=>rfl) fun _=>?_
 refine bind_congr fun g=>?_
 refine bL (fun x d=>?_) (fun d=>by obtain ⟨r,d⟩:=d; cases r <;> rfl)
 unfold hiB
 refine bL (fun x c=>rfl) (fun c=>?_)
 obtain ⟨r,i,j,o,ac,bc⟩:=c
 cases r with
 | some r=>rfl
 | none=>
  refine bind_congr fun _=>?_
  refine bL (fun x e=>?_) (fun d=>?_)
  ·refine ite_congr rfl (fun _=>?_) fun _=>?_
   ·unfold hi1
    refine bind_congr fun _=>?_
    refine bind_congr fun y=>?_
    refine bind_congr fun c=>?_
    cases c with
    | none=>rfl
    | some c=>
     refine ite_congr rfl (fun _=>?_) fun _=>?_
     ·refine ite_congr rfl (fun _=>rfl) fun _=>?_
      unfold hi2
      rfl
     ·rfl
   ·rfl
  ·obtain ⟨r,d⟩:=d; cases r <;> rfl
def AfH (rk:Keyed->Nat) (xs ys:Array Keyed) (n:Nat) (st:SortSt) (r:Option (Array Keyed)) (o:Array Keyed) (i j:Nat) (st':SortSt):Prop:=
 Ok st st'/\match r with
  | some r=>Res rk xs.toList ys.toList r.toList
  | none=>MH rk xs.toList ys.toList o.toList.reverse i j/\1<=i/\2<=j/\i<=xs.size/\j<=ys.size/\i + j < n
def qK (rk:Keyed->Nat) (xs ys:Array Keyed) (n:Nat) (st:SortSt) (r:ForInStep HG) (st':SortSt):Prop:=match r with
 | .done e=>AfH rk xs ys n st e.1 e.2.2.2.1 e.2.1 e.2.2.1 st'
 | .yield e=>e.1=none/\AfH rk xs ys n st e.1 e.2.2.2.1 e.2.1 e.2.2.1 st'
section
variable {prog:Program} {w:World} {A:Around} {E:Value->Shared->Prop} {s:Shared} {kd:SortKind} {M:Keyed->Prop} {rk:Keyed->Nat} {xs ys o:Array Keyed} {i j mg ac bc n:Nat} {st:SortSt}
theorem fE {u:Keyed}:(o.push u).toList.reverse=u :: o.toList.reverse:=by rw [dX,List.reverse_append]; rfl
theorem tT {k:Nat}:(o ++ (xs.extract i k).reverse).toList.reverse=(xs.toList.drop i).take (k - i) ++ o.toList.reverse:=by rw [Array.toList_append,List.reverse_append,Array.toList_reverse,List.reverse_reverse,gE]
theorem ex0 {k:Nat}:(xs.extract 0 k).toList=xs.toList.take k:=by rw [gE,List.drop_zero,Nat.sub_zero]
theorem dQ:(fS xs ys o i j).toList=xs.toList.take i ++ ys.toList.take j ++ o.toList.reverse:=by unfold fS; rw [Array.toList_append,Array.toList_append,ex0,ex0,Array.toList_reverse]
theorem gc:(kF xs ys o i j).toList=ys.toList.take j ++ xs.toList.take i ++ o.toList.reverse:=by unfold kF; rw [Array.toList_append,Array.toList_append,ex0,ex0,Array.toList_reverse]
theorem MH.pred_x {t:List Keyed} {xs ys:List Keyed} {u:Keyed} (h:MH rk xs ys t i j) (h1:1<=i) (T:Up rk xs) (hu:xs[i - 1]?=some u) (le:∀ v∈ys.take j,rk v<=rk u):MH rk xs ys (u :: t) (i - 1) j:=by
 obtain ⟨k,rfl⟩:∃ k,i=k + 1:=⟨i - 1,by omega⟩
 exact h.tx T hu le
theorem MH.pred_y {t:List Keyed} {xs ys:List Keyed} {u:Keyed} (h:MH rk xs ys t i j) (h1:1<=j) (T:Up rk ys) (hu:ys[j - 1]?=some u) (le:∀ v∈xs.take i,rk v<=rk u):MH rk xs ys (u :: t) i (j - 1):=(h.swap.pred_x h1 T hu le).swap
theorem fA {l:List Keyed} {k:Nat} (h:Up rk l) {u v:Keyed} (h1:1<=k) (hu:l[k - 1]?=some u) (hv:v∈l.take k):rk v<=rk u:=by
 obtain ⟨m,rfl⟩:∃ m,k=m + 1:=⟨k - 1,by omega⟩
 exact vD h hu hv
theorem tF (T:Two rk M xs.toList ys.toList) (h:MH rk xs.toList ys.toList o.toList.reverse i j) (h1:1<=i) (h2:2<=j) (hi:i<=xs.size) (hj:j<=ys.size) (hn:i + j<=n)
  (le:∀ u,xs.toList[i - 1]?=some u->∀ v∈ys.toList.take j,rk v<=rk u):wpS (model prog w) A E s (hi3 xs ys o i j mg ac bc) (qK rk xs ys n st) st:=by
 unfold hi3
 obtain ⟨x,e1,e2⟩:=aS (a:=xs) (k:=i - 1) (by omega)
 refine wpS_bind (bF e1 ?_)
 have m:=h.pred_x h1 T.sx e2 (le x e2)
 rw [<- fE] at m
 by_cases c1:(i - 1 == 0)=true
 ·rw [if_pos c1]
  have c1':i - 1=0:=by simpa using c1
  refine wpS_pure ⟨Ok.refl _,?_⟩
  show Res _ _ _ (fS _ _ _ _ _).toList
  rw [dQ]
  exact m.fin T.sx T.sy (.inl c1')
 ·rw [if_neg c1]
  have c1':¬ i - 1=0:=by simpa using c1
  have z:AfH rk xs ys n st none (o.push x) (i - 1) j st:=⟨Ok.refl _,m,by omega,h2,by omega,hj,by omega⟩
  by_cases c2:(decide (ac < 7) && decide (bc < 7))=true
  ·rw [if_pos c2]; exact wpS_pure z
  ·rw [if_neg c2]; exact wpS_pure ⟨rfl,z⟩
theorem sM (O:Ask prog w A s kd M rk) (hk:kindOf st=kd) (T:Two rk M xs.toList ys.toList) (h0:∀ u,ys.toList[0]?=some u->∀ v∈xs.toList,rk u<=rk v) (h:MH rk xs.toList ys.toList o.toList.reverse i j) (h1:1<=i) (h2:2<=j) (hi:i<=xs.size) (hj:j<=ys.size) (hn:i + j<=n)
  (le:∀ u,ys.toList[j - 1]?=some u->∀ v∈xs.toList.take i,rk v<=rk u):wpS (model prog w) A E s (hi2 xs ys o i j mg ac bc) (qK rk xs ys n st) st:=by
 unfold hi2
 obtain ⟨y,e1,e2⟩:=aS (a:=ys) (k:=j - 1) (by omega)
 refine wpS_bind (bF e1 ?_)
 have m:=h.pred_y (by omega) T.sy e2 (le y e2)
 rw [<- fE] at m
 by_cases c1:(j - 1 == 1)=true
 ·rw [if_pos c1]
  have c1':j - 1=1:=by simpa using c1
  refine wpS_pure ⟨Ok.refl _,?_⟩
  show Res _ _ _ (kF _ _ _ _ _).toList
  rw [gc,c1']
  rw [c1'] at m
  exact m.fst T.sx h0
 ·rw [if_neg c1]
  have c1':¬ j - 1=1:=by simpa using c1
  obtain ⟨x,f1,f2⟩:=aS (a:=xs) (k:=i - 1) (by omega)
  refine wpS_bind (bF f1 ?_)
  refine wpS_bind (gn O hk (T.mx x (List.mem_of_getElem? f2)) (fun k hk'=>?_) (fun a b hab hb=>?_) (by omega) fun p hp lo hi'=>?_)
  ·obtain ⟨u,g1,g2⟩:=aS (a:=ys) (k:=0 + k) (by omega)
   exact ⟨u,g1,T.my u (List.mem_of_getElem? g2)⟩
  ·obtain ⟨u,g1,g2⟩:=aS (a:=ys) (k:=0 + a) (by omega)
   obtain ⟨v,k1,k2⟩:=aS (a:=ys) (k:=0 + b) (by omega)
   rw [cf g1,cf k1]
   exact dY T.sy (by omega) g2 k2
  dsimp only
  have bl:∀ v∈ys.toList.take p,rk v<=rk x:=fun v hv=>by
   obtain ⟨k,hk'⟩:=List.mem_iff_getElem?.mp hv
   have hl:=(List.getElem?_eq_some_iff.mp hk').1
   rw [List.length_take] at hl
   rw [List.getElem?_take,if_pos (by omega)] at hk'
   have:=lo k (by omega)
   rw [cf (x:=v) (by rw [bX,Nat.zero_add]; exact hk')] at this
   exact Nat.le_of_lt (of_decide_eq_true this)
  have ab:∀ m u,p<=m->m < j - 1->ys.toList[m]?=some u->rk x<=rk u:=fun m u a1 a2 hu=>by
   have:=hi' m a1 a2
   rw [cf (x:=u) (by rw [bX,Nat.zero_add]; exact hu)] at this
   have:=of_decide_eq_false this
   omega
  have ej:p + (j - 1 - p)=j - 1:=by omega
  have m2:MH rk xs.toList ys.toList (o.push y ++ (ys.extract p (j - 1)).reverse).toList.reverse i p:=by
   rw [tT]
   exact MH.gy T.sy (j - 1 - p) (by rw [ej]; exact m) (by rw [Array.length_toList]; omega) fun m' u a1 a2 hu v hv=>Nat.le_trans (fA T.sx h1 f2 hv) (ab m' u a1 (by omega) hu)
  by_cases c2:j - 1 - p > 0
  ·rw [if_pos c2]
   by_cases c3:(p == 1)=true
   ·rw [if_pos c3]
    have c3':p=1:=by simpa using c3
    subst c3'
    refine wpS_pure ⟨Ok.refl _,?_⟩
    show Res _ _ _ (kF _ _ _ _ _).toList
    rw [gc]
    exact m2.fst T.sx h0
   ·rw [if_neg c3]
    have c3':¬ p=1:=by simpa using c3
    by_cases c4:(p == 0)=true
    ·rw [if_pos c4]
     have c4':p=0:=by simpa using c4
     refine wpS_pure ⟨Ok.refl _,?_⟩
     show Res _ _ _ (fS _ _ _ _ _).toList
     rw [dQ]
     exact m2.fin T.sx T.sy (.inr c4')
    ·rw [if_neg c4]
     have c4':¬ p=0:=by simpa using c4
     exact tF T m2 h1 (by omega) hi (by omega) (by omega) fun u hu v hv=>by rw [f2] at hu; cases hu; exact bl v hv
  ·rw [if_neg c2]
   have c0:p=j - 1:=by omega
   subst c0
   exact tF T m h1 (by omega) hi (by omega) (by omega) fun u hu v hv=>by rw [f2] at hu; cases hu; exact bl v hv
theorem tU (O:Ask prog w A s kd M rk) (hk:kindOf st=kd) (T:Two rk M xs.toList ys.toList) (h0:∀ u,ys.toList[0]?=some u->∀ v∈xs.toList,rk u<=rk v) (h:MH rk xs.toList ys.toList o.toList.reverse i j) (h1:1<=i) (h2:2<=j) (hi:i<=xs.size) (hj:j<=ys.size) (hn:i + j<=n) :
  wpS (model prog w) A E s (hi1 xs ys o i j mg ac bc) (qK rk xs ys n st) st:=by
 unfold hi1
 rw [gZ]
 refine wpS_bind (wpS_modify ?_)
 generalize hst:SortSt.mk' (kindOf st) (arrOf st) (pendingOf st) mg (failedOf st)=st1
 have ok1:Ok st st1:=by rw [<- hst]; exact ⟨rfl,rfl,rfl,rfl⟩
 have hk1:kindOf st1=kd:=ok1.kd.trans hk
 obtain ⟨y,e1,e2⟩:=aS (a:=ys) (k:=j - 1) (by omega)
 refine wpS_bind (bF e1 ?_)
 have lift:∀ r st',qK rk xs ys n st1 r st'->qK rk xs ys n st r st':=fun r st' z=>by
  cases r with
  | done e=>exact ⟨ok1.trans z.1,z.2⟩
  | yield e=>exact ⟨z.1,ok1.trans z.2.1,z.2.2⟩
 refine wpS_bind (gn O hk1 (T.my y (List.mem_of_getElem? e2)) (fun k hk'=>?_) (fun a b hab hb=>?_) (by omega) fun p hp lo hi'=>?_)
 ·obtain ⟨u,g1,g2⟩:=aS (a:=xs) (k:=0 + k) (by omega)
  exact ⟨u,g1,T.mx u (List.mem_of_getElem? g2)⟩
 ·obtain ⟨u,g1,g2⟩:=aS (a:=xs) (k:=0 + a) (by omega)
  obtain ⟨v,k1,k2⟩:=aS (a:=xs) (k:=0 + b) (by omega)
  rw [cf g1,cf k1]
  exact dY T.sx (by omega) g2 k2
 dsimp only
 have bl:∀ v∈xs.toList.take p,rk v<=rk y:=fun v hv=>by
  obtain ⟨k,hk'⟩:=List.mem_iff_getElem?.mp hv
  have hl:=(List.getElem?_eq_some_iff.mp hk').1
  rw [List.length_take] at hl
  rw [List.getElem?_take,if_pos (by omega)] at hk'
  have:=lo k (by omega)
  rw [cf (x:=v) (by rw [bX,Nat.zero_add]; exact hk')] at this
  exact of_decide_eq_true this
 have ab:∀ m u,p<=m->m < i->xs.toList[m]?=some u->rk y<=rk u:=fun m u a1 a2 hu=>by
  have:=hi' m a1 a2
  rw [cf (x:=u) (by rw [bX,Nat.zero_add]; exact hu)] at this
  have:=of_decide_eq_false this
  omega
 have ei:p + (i - p)=i:=by omega
 have m2:MH rk xs.toList ys.toList (o ++ (xs.extract p i).reverse).toList.reverse p j:=by
  rw [tT]
  exact MH.gx T.sx (i - p) _ (by rw [ei]; exact h) (by rw [Array.length_toList]; omega) fun m' u a1 a2 hu v hv=>Nat.le_trans (fA T.sy (by omega) e2 hv) (ab m' u a1 (by omega) hu)
 by_cases c2:i - p > 0
 ·rw [if_pos c2]
  by_cases c3:(p == 0)=true
  ·rw [if_pos c3]
   have c3':p=0:=by simpa using c3
   refine wpS_pure ⟨ok1,?_⟩
   show Res _ _ _ (fS _ _ _ _ _).toList
   rw [dQ]
   exact m2.fin T.sx T.sy (.inl c3')
  ·rw [if_neg c3]
   have c3':¬ p=0:=by simpa using c3
   exact wpS_mono (sM O hk1 T h0 m2 (by omega) h2 (by omega) hj (by omega) fun u hu v hv=>by rw [e2] at hu; cases hu; exact bl v hv) lift
 ·rw [if_neg c2]
  have c0:p=i:=by omega
  subst c0
  exact wpS_mono (sM O hk1 T h0 h h1 h2 hi hj hn fun u hu v hv=>by rw [e2] at hu; cases hu; exact bl v hv) lift
def yC (rk:Keyed->Nat) (xs ys:Array Keyed) (n:Nat) (st:SortSt) (r:ForInStep HI) (st':SortSt):Prop:=match r with
 | .done e=>AfH rk xs ys n st e.1 e.2.2.2.1 e.2.1 e.2.2.1 st'
 | .yield e=>e.1=none/\AfH rk xs ys n st e.1 e.2.2.2.1 e.2.1 e.2.2.1 st'
theorem wp (O:Ask prog w A s kd M rk) (hk:kindOf st=kd) (T:Two rk M xs.toList ys.toList) (h0:∀ u,ys.toList[0]?=some u->∀ v∈xs.toList,rk u<=rk v) (h:MH rk xs.toList ys.toList o.toList.reverse i j) (h1:1<=i) (h2:2<=j) (hi:i<=xs.size) (hj:j<=ys.size) (hn:i + j<=n) :
  wpS (model prog w) A E s (hiA xs ys mg (none,i,j,o,ac,bc)) (yC rk xs ys n st) st:=by
 unfold hiA
 dsimp only
 obtain ⟨y,e1,e2⟩:=aS (a:=ys) (k:=j - 1) (by omega)
 obtain ⟨x,f1,f2⟩:=aS (a:=xs) (k:=i - 1) (by omega)
 refine wpS_bind (bF e1 (wpS_bind (bF f1 (wpS_bind (nr O hk (T.my y (List.mem_of_getElem? e2)) (T.mx x (List.mem_of_getElem? f2)) ?_)))))
 dsimp only
 by_cases c0:rk y < rk x
 ·rw [decide_eq_true c0,if_pos rfl]
  refine wpS_bind (bF f1 ?_)
  have m:=h.pred_x h1 T.sx f2 fun v hv=>Nat.le_trans (fA T.sy (by omega) e2 hv) (Nat.le_of_lt c0)
  rw [<- fE] at m
  by_cases c1:(i - 1 == 0)=true
  ·rw [if_pos c1]
   have c1':i - 1=0:=by simpa using c1
   refine wpS_pure ⟨Ok.refl _,?_⟩
   show Res _ _ _ (fS _ _ _ _ _).toList
   rw [dQ]
   exact m.fin T.sx T.sy (.inl c1')
  ·rw [if_neg c1]
   have c1':¬ i - 1=0:=by simpa using c1
   have z:AfH rk xs ys n st none (o.push x) (i - 1) j st:=⟨Ok.refl _,m,by omega,h2,by omega,hj,by omega⟩
   by_cases c2:ac + 1>=mg
   ·rw [if_pos c2]; exact wpS_pure z
   ·rw [if_neg c2]; exact wpS_pure ⟨rfl,z⟩
 ·rw [decide_eq_false c0,if_neg (by decide)]
  refine wpS_bind (bF e1 ?_)
  have m:=h.pred_y (by omega) T.sy e2 fun v hv=>Nat.le_trans (fA T.sx h1 f2 hv) (Nat.le_of_not_lt c0)
  rw [<- fE] at m
  by_cases c1:(j - 1 == 1)=true
  ·rw [if_pos c1]
   have c1':j - 1=1:=by simpa using c1
   refine wpS_pure ⟨Ok.refl _,?_⟩
   show Res _ _ _ (kF _ _ _ _ _).toList
   rw [gc,c1']
   rw [c1'] at m
   exact m.fst T.sx h0
  ·rw [if_neg c1]
   have c1':¬ j - 1=1:=by simpa using c1
   have z:AfH rk xs ys n st none (o.push y) i (j - 1) st:=⟨Ok.refl _,m,h1,by omega,hi,by omega,by omega⟩
   by_cases c2:bc + 1>=mg
   ·rw [if_pos c2]; exact wpS_pure z
   ·rw [if_neg c2]; exact wpS_pure ⟨rfl,z⟩
def yE (rk:Keyed->Nat) (xs ys:Array Keyed) (n:Nat) (st:SortSt) (r:ForInStep HQ) (st':SortSt):Prop:=match r with
 | .done e=>e.1≠none/\AfH rk xs ys n st e.1 e.2.2.2.1 e.2.1 e.2.2.1 st'
 | .yield e=>e.1=none/\AfH rk xs ys n st e.1 e.2.2.2.1 e.2.1 e.2.2.1 st'
structure HeH (rk:Keyed->Nat) (xs ys o:Array Keyed) (i j n:Nat) (st st':SortSt):Prop where
 ok:Ok st st'
 m:MH rk xs.toList ys.toList o.toList.reverse i j
 h1:1<=i
 h2:2<=j
 hi:i<=xs.size
 hj:j<=ys.size
 hn:i + j<=n
theorem wC (O:Ask prog w A s kd M rk) (hk:kindOf st=kd) (T:Two rk M xs.toList ys.toList) (h0:∀ u,ys.toList[0]?=some u->∀ v∈xs.toList,rk u<=rk v) (h:HeH rk xs ys o i j n st st) (nn:n<=xs.size + ys.size) :
  wpS (model prog w) A E s (hiB xs ys (none,i,j,o,mg)) (yE rk xs ys n st) st:=by
 unfold hiB
 dsimp only
 refine wpS_bind (wpS_mono (wpS_forRange (I:=fun x c st'=>c.1=none/\HeH rk xs ys c.2.2.2.1 c.2.1 c.2.2.1 (n - x) st st'/\x<=n)
  (Q:=fun c st'=>AfH rk xs ys n st c.1 c.2.2.2.1 c.2.1 c.2.2.1 st') ?s1 ?f1 ⟨rfl,h,Nat.zero_le _⟩) ?p1)
 case f1=>
  rintro ⟨r,i,j,o,ac,bc⟩ st' ⟨rfl,z,_⟩
  have:=z.hn; have:=z.h1
  dsimp only at *
  omega
 case s1=>
  rintro x ⟨r,i,j,o,ac,bc⟩ st' _ hx ⟨e,z,hx2⟩
  obtain rfl:r=none:=e
  refine wpS_mono (wp (n:=n - x) O (z.ok.kd.trans hk) T h0 z.m z.h1 z.h2 z.hi z.hj z.hn) fun r st2 y=>?_
  cases r with
  | done e=>
   obtain ⟨r,i,j,o,ac,bc⟩:=e
   refine ⟨z.ok.trans y.1,?_⟩
   cases r with
   | some r=>exact y.2
   | none=>
    obtain ⟨_,b0,b1,b2,b3,b4,b5⟩:=y
    exact ⟨b0,b1,b2,b3,b4,by dsimp only at b5 ⊢; omega⟩
  | yield e=>
   obtain ⟨r,i,j,o,ac,bc⟩:=e
   obtain ⟨e,ok2,y⟩:=y
   obtain rfl:r=none:=e
   obtain ⟨b0,b1,b2,b3,b4,b5⟩:=y
   exact ⟨rfl,⟨z.ok.trans ok2,b0,b1,b2,b3,b4,by dsimp only at b5 ⊢; omega⟩,by dsimp only at b1 b2 b5; omega⟩
 case p1=>
  rintro ⟨r,i,j,o,ac,bc⟩ st1 ⟨ok1,z⟩
  cases r with
  | some r=>exact wpS_pure ⟨by simp,ok1,z⟩
  | none=>
   obtain ⟨b0,b1,b2,b3,b4,b5⟩:=z
   dsimp only at b0 b1 b2 b3 b4 b5 ⊢
   refine wpS_bind (wpS_lift (wpAny_rule ⟨rfl,?_⟩))
   refine wpS_bind (wpS_mono (wpS_forRange (I:=fun x c st'=>c.1=none/\HeH rk xs ys c.2.2.2.1 c.2.1 c.2.2.1 (n - 1 - x) st st'/\x + 1<=n)
    (Q:=fun c st'=>AfH rk xs ys n st c.1 c.2.2.2.1 c.2.1 c.2.2.1 st') ?s2 ?f2 ⟨rfl,⟨ok1,b0,b1,b2,b3,b4,by dsimp only; omega⟩,by omega⟩) ?p2)
   case f2=>
    rintro ⟨r,i,j,o,mg,ac,bc⟩ st' ⟨rfl,z,_⟩
    have:=z.hn; have:=z.h1
    dsimp only at *
    omega
   case s2=>
    rintro x ⟨r,i,j,o,mg,ac,bc⟩ st' _ hx ⟨e,z,hx2⟩
    obtain rfl:r=none:=e
    have fin:∀ r st2,qK rk xs ys (n - 1 - x) st' r st2->(match r with | .done c'=>AfH rk xs ys n st c'.1 c'.2.2.2.1 c'.2.1 c'.2.2.1 st2 | .yield c'=>c'.1=none/\HeH rk xs ys c'.2.2.2.1 c'.2.1 c'.2.2.1 (n - 1 - (x + 1)) st st2/\x + 1 + 1<=n):=fun r st2 y=>by
     cases r with
     | done e=>
      obtain ⟨r,i,j,o,mg,ac,bc⟩:=e
      refine ⟨z.ok.trans y.1,?_⟩
      cases r with
      | some r=>exact y.2
      | none=>
       obtain ⟨_,b0,b1,b2,b3,b4,b5⟩:=y
       exact ⟨b0,b1,b2,b3,b4,by dsimp only at b5 ⊢; omega⟩
     | yield e=>
      obtain ⟨r,i,j,o,mg,ac,bc⟩:=e
      obtain ⟨e,ok2,y⟩:=y
      obtain rfl:r=none:=e
      obtain ⟨b0,b1,b2,b3,b4,b5⟩:=y
      exact ⟨rfl,⟨z.ok.trans ok2,b0,b1,b2,b3,b4,by dsimp only at b5 ⊢; omega⟩,by dsimp only at b1 b2 b5; omega⟩
    dsimp only
    by_cases c:mg > 1
    ·rw [if_pos c]; exact wpS_mono (tU (n:=n - 1 - x) O (z.ok.kd.trans hk) T h0 z.m z.h1 z.h2 z.hi z.hj z.hn) fun r st2 y=>by have:=fin r st2 y; cases r <;> exact this
    ·rw [if_neg c]; exact wpS_mono (tU (n:=n - 1 - x) O (z.ok.kd.trans hk) T h0 z.m z.h1 z.h2 z.hi z.hj z.hn) fun r st2 y=>by have:=fin r st2 y; cases r <;> exact this
   case p2=>
    rintro ⟨r,i,j,o,mg,ac,bc⟩ st2 ⟨ok2,z⟩
    cases r with
    | some r=>exact wpS_pure ⟨by simp,ok2,z⟩
    | none=>
     dsimp only
     rw [gZ]
     exact wpS_bind (wpS_modify (wpS_pure ⟨rfl,ok2.trans ⟨rfl,rfl,rfl,rfl⟩,z⟩))
theorem wa {Q:Array Keyed->SortSt->Prop} (O:Ask prog w A s kd M rk) (hk:kindOf st=kd) (T:Two rk M xs.toList ys.toList) (la:∀ u,xs.toList[xs.size - 1]?=some u->∀ v∈ys.toList,rk v<=rk u) (h0:∀ u,ys.toList[0]?=some u->∀ v∈xs.toList,rk u<=rk v)
  (q:∀ r st',Ok st st'->Res rk xs.toList ys.toList r.toList->Q r st'):wpS (model prog w) A E s (mHi xs ys) Q st:=by
 rw [vZ]
 refine wpS_bind (wpS_lift (wpAny_rule ⟨rfl,?_⟩))
 have lx:0 < xs.size:=by have:=List.length_pos_iff.mpr T.nx; rwa [Array.length_toList] at this
 have ly:0 < ys.size:=by have:=List.length_pos_iff.mpr T.ny; rwa [Array.length_toList] at this
 obtain ⟨x,e1,e2⟩:=aS (a:=xs) (k:=xs.size - 1) (by omega)
 refine wpS_bind (bF e1 ?_)
 have m:MH rk xs.toList ys.toList (#[x]:Array Keyed).toList.reverse (xs.size - 1) ys.size:=by
  refine ⟨?_,List.pairwise_singleton _ _,fun u hu v hv=>?_,fun u hu v hv=>?_⟩
  ·rw [ce e2,List.drop_eq_nil_of_le (by rw [Array.length_toList]; omega),List.drop_eq_nil_of_le (by rw [Array.length_toList]; omega)]
   exact List.Perm.refl _
  ·rw [show u=x from List.mem_singleton.mp hu]
   obtain ⟨k,hk'⟩:=List.mem_iff_getElem?.mp hv
   have hl:=(List.getElem?_eq_some_iff.mp hk').1
   rw [List.length_take] at hl
   rw [List.getElem?_take,if_pos (by omega)] at hk'
   exact dY T.sx (by omega) hk' e2
  ·rw [show u=x from List.mem_singleton.mp hu]
   exact la x e2 v (List.mem_of_mem_take hv)
 by_cases c1:(xs.size - 1 == 0)=true
 ·rw [if_pos c1]
  have c1':xs.size - 1=0:=by simpa using c1
  refine wpS_pure (q _ _ (Ok.refl _) ?_)
  rw [dQ]
  exact m.fin T.sx T.sy (.inl c1')
 ·rw [if_neg c1]
  have c1':¬ xs.size - 1=0:=by simpa using c1
  by_cases c2:(ys.size == 1)=true
  ·rw [if_pos c2]
   have c2':ys.size=1:=by simpa using c2
   refine wpS_pure (q _ _ (Ok.refl _) ?_)
   rw [gc,c2']
   rw [c2'] at m
   exact m.fst T.sx h0
  ·rw [if_neg c2]
   have c2':¬ ys.size=1:=by simpa using c2
   refine wpS_bind (wpS_get ?_)
   refine wpS_bind (wpS_mono (wpS_forRange (I:=fun x c st'=>c.1=none/\HeH rk xs ys c.2.2.2.1 c.2.1 c.2.2.1 (xs.size + ys.size - 1 - x) st st')
    (Q:=fun c st'=>∃ r,c.1=some r/\Ok st st'/\Res rk xs.toList ys.toList r.toList) ?s1 ?f1 ⟨rfl,Ok.refl _,m,by dsimp only; omega,by dsimp only; omega,by dsimp only; omega,by dsimp only; omega,by dsimp only; omega⟩) ?p1)
   case f1=>
    rintro ⟨r,i,j,o,mg⟩ st' ⟨rfl,z⟩
    have:=z.hn; have:=z.h1
    dsimp only at *
    omega
   case s1=>
    rintro x ⟨r,i,j,o,mg⟩ st' _ hx ⟨e,z⟩
    obtain rfl:r=none:=e
    refine wpS_mono (wC (n:=xs.size + ys.size - 1 - x) O (z.ok.kd.trans hk) T h0 ⟨Ok.refl _,z.m,z.h1,z.h2,z.hi,z.hj,z.hn⟩ (by omega)) fun r st2 y=>?_
    cases r with
    | done e=>
     obtain ⟨r,i,j,o,mg⟩:=e
     obtain ⟨ne,ok2,y⟩:=y
     cases r with
     | some r=>exact ⟨r,rfl,z.ok.trans ok2,y⟩
     | none=>exact absurd rfl ne
    | yield e=>
     obtain ⟨r,i,j,o,mg⟩:=e
     obtain ⟨e,ok2,y⟩:=y
     obtain rfl:r=none:=e
     obtain ⟨b0,b1,b2,b3,b4,b5⟩:=y
     exact ⟨rfl,z.ok.trans ok2,b0,b1,b2,b3,b4,by dsimp only at b5 ⊢; omega⟩
   case p1=>
    rintro ⟨r,i,j,o,mg⟩ st' ⟨r',e,ok,z⟩
    obtain rfl:r=some r':=e
    exact wpS_pure (q _ _ ok z)
end
end L2.TS
namespace L2.TS
open PySem PySem.Spec PyProof.Rows
theorem pc (b:Nat):∀ (l:List Keyed) (n:Nat) (a:Array Keyed),b + n + l.length<=a.size->((l.zipIdx n).foldl (fun a p=>a.setIfInBounds (b + p.2) p.1) a).toList=a.toList.take (b + n) ++ l ++ a.toList.drop (b + n + l.length)
 | [],n,a,_=>by simp
 | x :: l,n,a,h=>by
  rw [List.length_cons] at h
  rw [List.zipIdx_cons,List.foldl_cons,pc b l (n + 1) _ (by rw [Array.size_setIfInBounds]; omega)]
  have hl:b + n < a.toList.length:=by rw [Array.length_toList]; omega
  rw [Array.toList_setIfInBounds,List.length_cons]
  have e1:(a.toList.set (b + n) x).take (b + (n + 1))=a.toList.take (b + n) ++ [x]:=by
   rw [show b + (n + 1)=b + n + 1 by omega,List.take_add_one,List.take_set_of_le (Nat.le_refl _),List.getElem?_set_self hl]; rfl
  have e2:(a.toList.set (b + n) x).drop (b + (n + 1) + l.length)=a.toList.drop (b + n + (l.length + 1)):=by
   rw [List.drop_set_of_lt (by omega)]; congr 1; omega
  rw [e1,e2]
  simp
theorem wL (i:Nat):mergeAt' i=(do
  let z <- get
  let (some (sa,na,pw),some (sb,nb,_)):=((pendingOf z)[i]?,(pendingOf z)[i + 1]?) | unsupported "internal:list.sort.pending"
  set (setPending z (((pendingOf z).setIfInBounds i (sa,na + nb,pw)).eraseIdxIfInBounds (i + 1)))
  let some k <- gal false (<- elem' (arrOf z) sb) (arrOf z) sa na 0 | return false
  if na - k == 0 then return true
  let some m <- gal true (<- elem' (arrOf z) (sa + k + (na - k) - 1)) (arrOf z) sb nb (nb - 1) | return false
  if m == 0 then return true
  let l <- if na - k<=m then mLo ((arrOf z).extract (sa + k) sb) ((arrOf z).extract sb (sb + m)) else mHi ((arrOf z).extract (sa + k) sb) ((arrOf z).extract sb (sb + m))
  modify fun y=>setArr y (l.toList.zipIdx.foldl (fun a (p,j)=>a.setIfInBounds (sa + k + j) p) (arrOf y))
  return (failedOf (<- get)).isNone):=rfl
section
variable {prog:Program} {w:World} {A:Around} {E:Value->Shared->Prop} {s:Shared} {kd:SortKind} {M:Keyed->Prop} {rk:Keyed->Nat} {st:SortSt} {i:Nat}
theorem vh {σ:Type} {Mo:Model} {x:σ} {Q:PUnit->σ->Prop} {st:σ} (h:Q ⟨⟩ x):wpS Mo A E s (set x:StateT σ Sem PUnit) Q st:=by
 unfold wpS; rw [StateT.run_set]; exact wpAny_pure ⟨rfl,h⟩
theorem lC {a b:List Keyed} (ha:Up rk a) (hb:Up rk b) (h:∀ u∈a,∀ v∈b,rk u<=rk v):Up rk (a ++ b):=List.pairwise_append.mpr ⟨ha,hb,h⟩
theorem ng (a b:List Keyed) (n:Nat):(a ++ b).drop (a.length + n)=b.drop n:=by rw [<- List.drop_drop,List.drop_left' rfl]
theorem eu {l:List Keyed} {u:Keyed} (h:u∈l):∃ t,t < l.length/\l[t]?=some u:=by
 obtain ⟨t,ht⟩:=List.mem_iff_getElem?.mp h
 exact ⟨t,(List.getElem?_eq_some_iff.mp ht).1,ht⟩
theorem wq {Q:Bool->SortSt->Prop} {P X Y S:List Keyed} {pw pv:Nat} (O:Ask prog w A s kd M rk) (hk:kindOf st=kd) (hf:failedOf st=none) (ha:(arrOf st).toList=P ++ (X ++ (Y ++ S))) (hm:∀ u∈(arrOf st).toList,M u)
  (sx:Up rk X) (sy:Up rk Y) (nx:X≠[]) (ny:Y≠[]) (p1:(pendingOf st)[i]?=some (P.length,X.length,pw)) (p2:(pendingOf st)[i + 1]?=some (P.length + X.length,Y.length,pv))
  (q:∀ Z st',kindOf st'=kd->failedOf st'=none->pendingOf st'=((pendingOf st).setIfInBounds i (P.length,X.length + Y.length,pw)).eraseIdxIfInBounds (i + 1)->(arrOf st').toList=P ++ (Z ++ S)->Z.Perm (X ++ Y)->Up rk Z->Q true st') :
  wpS (model prog w) A E s (mergeAt' i) Q st:=by
 rw [wL]
 refine wpS_bind (wpS_get ?_)
 rw [p1,p2]
 dsimp only
 refine wpS_bind (vh ?_)
 generalize hst:setPending st (((pendingOf st).setIfInBounds i (P.length,X.length + Y.length,pw)).eraseIdxIfInBounds (i + 1))=st1
 have ar1:arrOf st1=arrOf st:=by rw [<- hst]
 have kd1:kindOf st1=kd:=by rw [<- hst]; exact hk
 have fa1:failedOf st1=none:=by rw [<- hst]; exact hf
 have pe1:pendingOf st1=((pendingOf st).setIfInBounds i (P.length,X.length + Y.length,pw)).eraseIdxIfInBounds (i + 1):=by rw [<- hst]
 have lX:0 < X.length:=List.length_pos_iff.mpr nx
 have lY:0 < Y.length:=List.length_pos_iff.mpr ny
 have aX:∀ t,t < X.length->(arrOf st)[P.length + t]?=X[t]?:=fun t ht=>by
  rw [bX,ha,List.getElem?_append_right (by omega),Nat.add_sub_cancel_left,List.getElem?_append_left ht]
 have aY:∀ t,t < Y.length->(arrOf st)[P.length + X.length + t]?=Y[t]?:=fun t ht=>by
  rw [bX,ha,Nat.add_assoc,List.getElem?_append_right (by omega),Nat.add_sub_cancel_left,List.getElem?_append_right (by omega),Nat.add_sub_cancel_left,List.getElem?_append_left ht]
 have mX:∀ u∈X,M u:=fun u hu=>hm u (by rw [ha]; exact List.mem_append_right _ (List.mem_append_left _ hu))
 have mY:∀ u∈Y,M u:=fun u hu=>hm u (by rw [ha]; exact List.mem_append_right _ (List.mem_append_right _ (List.mem_append_left _ hu)))
 obtain ⟨y0,hy0⟩:∃ y0,Y[0]?=some y0:=⟨Y[0],List.getElem?_eq_getElem lY⟩
 refine wpS_bind (bF (x:=y0) (by rw [<- Nat.add_zero (P.length + X.length),aY 0 lY]; exact hy0) ?_)
 refine wpS_bind (gn O kd1 (mY y0 (List.mem_of_getElem? hy0)) (fun t ht=>?_) (fun a b hab hb=>?_) lX fun k hkX lo hi=>?_)
 ·rw [aX t ht]; exact ⟨X[t],List.getElem?_eq_getElem ht,mX _ (List.getElem_mem ht)⟩
 ·have e1:X[a]?=some X[a]:=List.getElem?_eq_getElem (by omega)
  have e2:X[b]?=some X[b]:=List.getElem?_eq_getElem hb
  rw [cf ((aX a (by omega)).trans e1),cf ((aX b hb).trans e2)]
  exact dY sx hab e1 e2
 dsimp only
 have lo':∀ t u,t < k->X[t]?=some u->rk u<=rk y0:=fun t u ht hu=>by
  have:=lo t ht
  rw [cf ((aX t (by omega)).trans hu)] at this
  exact of_decide_eq_true this
 have hi':∀ t u,k<=t->X[t]?=some u->rk y0 < rk u:=fun t u ht hu=>by
  have hl:=(List.getElem?_eq_some_iff.mp hu).1
  have:=hi t ht hl
  rw [cf ((aX t hl).trans hu)] at this
  have:=of_decide_eq_false this
  omega
 have y0le:∀ v∈Y,rk y0<=rk v:=fun v hv=>fX sy hy0 (by rw [List.drop_zero]; exact hv)
 by_cases c1:(X.length - k == 0)=true
 ·rw [if_pos c1]
  have c1':X.length - k=0:=by simpa using c1
  refine wpS_pure (q (X ++ Y) st1 kd1 fa1 pe1 (by rw [ar1,ha,List.append_assoc]) (List.Perm.refl _) (lC sx sy fun u hu v hv=>?_))
  obtain ⟨t,ht,hu⟩:=eu hu
  exact Nat.le_trans (lo' t u (by omega) hu) (y0le v hv)
 rw [if_neg c1]
 have c1':¬ X.length - k=0:=by simpa using c1
 obtain ⟨xl,hxl⟩:∃ xl,X[X.length - 1]?=some xl:=⟨X[X.length - 1],List.getElem?_eq_getElem (by omega)⟩
 have leX:∀ u∈X,rk u<=rk xl:=fun u hu=>by
  obtain ⟨t,ht,hu⟩:=eu hu
  exact dY sx (by omega) hu hxl
 refine wpS_bind (bF (x:=xl) (by rw [show P.length + k + (X.length - k) - 1=P.length + (X.length - 1) by omega,aX _ (by omega)]; exact hxl) ?_)
 refine wpS_bind (gn O kd1 (mX xl (List.mem_of_getElem? hxl)) (fun t ht=>?_) (fun a b hab hb=>?_) (by omega) fun m hmY lo2 hi2=>?_)
 ·rw [aY t ht]; exact ⟨Y[t],List.getElem?_eq_getElem ht,mY _ (List.getElem_mem ht)⟩
 ·have e1:Y[a]?=some Y[a]:=List.getElem?_eq_getElem (by omega)
  have e2:Y[b]?=some Y[b]:=List.getElem?_eq_getElem hb
  rw [cf ((aY a (by omega)).trans e1),cf ((aY b hb).trans e2)]
  exact dY sy hab e1 e2
 dsimp only
 have lo2':∀ t u,t < m->Y[t]?=some u->rk u < rk xl:=fun t u ht hu=>by
  have:=lo2 t ht
  rw [cf ((aY t (by omega)).trans hu)] at this
  exact of_decide_eq_true this
 have hi2':∀ t u,m<=t->Y[t]?=some u->rk xl<=rk u:=fun t u ht hu=>by
  have hl:=(List.getElem?_eq_some_iff.mp hu).1
  have:=hi2 t ht hl
  rw [cf ((aY t hl).trans hu)] at this
  have:=of_decide_eq_false this
  omega
 by_cases c2:(m == 0)=true
 ·rw [if_pos c2]
  have c2':m=0:=by simpa using c2
  refine wpS_pure (q (X ++ Y) st1 kd1 fa1 pe1 (by rw [ar1,ha,List.append_assoc]) (List.Perm.refl _) (lC sx sy fun u hu v hv=>?_))
  obtain ⟨t,ht,hv⟩:=eu hv
  exact Nat.le_trans (leX u hu) (hi2' t v (by omega) hv)
 rw [if_neg c2]
 have c2':¬ m=0:=by simpa using c2
 have eX:((arrOf st).extract (P.length + k) (P.length + X.length)).toList=X.drop k:=by
  rw [gE,ha,List.drop_append,List.drop_eq_nil_of_le (by omega),List.nil_append,Nat.add_sub_cancel_left,List.drop_append_of_le_length (by omega),List.take_append_of_le_length (by rw [List.length_drop]; omega),List.take_of_length_le (by rw [List.length_drop]; omega)]
 have eY:((arrOf st).extract (P.length + X.length) (P.length + X.length + m)).toList=Y.take m:=by
  rw [gE,ha,Nat.add_sub_cancel_left,<- List.drop_drop,List.drop_left' rfl,List.drop_left' rfl,List.take_append_of_le_length hmY]
 have zX:((arrOf st).extract (P.length + k) (P.length + X.length)).size=X.length - k:=by rw [<- Array.length_toList,eX,List.length_drop]
 generalize (arrOf st).extract (P.length + k) (P.length + X.length)=ax at eX zX
 generalize (arrOf st).extract (P.length + X.length) (P.length + X.length + m)=ay at eY
 have T:Two rk M ax.toList ay.toList:=by
  rw [eX,eY]
  refine ⟨sx.sublist (List.drop_sublist _ _),sy.sublist (List.take_sublist _ _),fun u hu=>mX u (List.mem_of_mem_drop hu),fun u hu=>mY u (List.mem_of_mem_take hu),fun z=>?_,fun z=>?_⟩
  ·have:=congrArg List.length z; rw [List.length_drop,List.length_nil] at this; omega
  ·have:=congrArg List.length z; rw [List.length_take,List.length_nil] at this; omega
 have la:∀ u,ax.toList[ax.size - 1]?=some u->∀ v∈ay.toList,rk v<=rk u:=fun u hu v hv=>by
  rw [eX,zX,List.getElem?_drop,show k + (X.length - k - 1)=X.length - 1 by omega,hxl] at hu
  cases hu
  rw [eY] at hv
  obtain ⟨t,ht,hv⟩:=eu hv
  rw [List.length_take] at ht
  rw [List.getElem?_take,if_pos (by omega)] at hv
  exact Nat.le_of_lt (lo2' t v (by omega) hv)
 have h0:∀ u,ay.toList[0]?=some u->∀ v∈ax.toList,rk u<=rk v:=fun u hu v hv=>by
  rw [eY,List.getElem?_take,if_pos (by omega),hy0] at hu
  cases hu
  rw [eX] at hv
  obtain ⟨t,ht,hv⟩:=eu hv
  rw [List.getElem?_drop] at hv
  exact Nat.le_of_lt (hi' _ v (by omega) hv)
 have fin:∀ (l:Array Keyed) (st2:SortSt),Ok st1 st2->Res rk ax.toList ay.toList l.toList->wpS (model prog w) A E s (do
   modify fun y=>setArr y (l.toList.zipIdx.foldl (fun a (p,j)=>a.setIfInBounds (P.length + k + j) p) (arrOf y))
   return (failedOf (<- get)).isNone) Q st2:=fun l st2 ok ⟨pm,up⟩=>by
  refine wpS_bind (wpS_modify (wpS_bind (wpS_get ?_)))
  have hfa:failedOf st2=none:=ok.fa.trans fa1
  have e0:(failedOf (setArr st2 (l.toList.zipIdx.foldl (fun a (p,j)=>a.setIfInBounds (P.length + k + j) p) (arrOf st2)))).isNone=true:=by
   show (failedOf st2).isNone=true
   rw [hfa]; rfl
  rw [e0]
  rw [eX,eY] at pm
  have ll:l.toList.length=X.length - k + m:=by rw [pm.length_eq,List.length_append,List.length_drop,List.length_take]; omega
  have es:=pc (P.length + k) l.toList 0 (arrOf st2) (by
   rw [ll,ok.ar,ar1,<- Array.length_toList,ha]
   simp only [List.length_append]
   omega)
  have hml:∀ u∈l.toList,u∈X.drop k\/u∈Y.take m:=fun u hu=>List.mem_append.mp (pm.mem_iff.mp hu)
  refine wpS_pure (q (X.take k ++ (l.toList ++ Y.drop m)) _ (ok.kd.trans kd1) hfa (ok.pe.trans pe1) ?_ ?_ ?_)
  ·refine Eq.trans es ?_
   rw [ok.ar,ar1,ha,ll,Nat.add_zero,show P.length + k + (X.length - k + m)=P.length + (X.length + m) by omega,ng,ng,List.drop_append_of_le_length hmY,List.take_append,List.take_of_length_le (by omega),Nat.add_sub_cancel_left,List.take_append_of_le_length hkX]
   simp
  ·refine ((List.Perm.append_left _ (pm.append_right _))).trans ?_
   rw [List.append_assoc,List.take_append_drop,<- List.append_assoc,List.take_append_drop]
  ·refine lC (sx.sublist (List.take_sublist _ _)) (lC up (sy.sublist (List.drop_sublist _ _)) fun u hu v hv=>?_) fun u hu v hv=>?_
   ·rcases hml u hu with hu | hu
    ·obtain ⟨t,ht,hv⟩:=eu hv
     rw [List.getElem?_drop] at hv
     exact Nat.le_trans (leX u (List.mem_of_mem_drop hu)) (hi2' _ v (by omega) hv)
    ·have p:=sy
     rw [<- List.take_append_drop m Y] at p
     exact (List.pairwise_append.mp p).2.2 u hu v hv
   ·obtain ⟨t,ht,hu⟩:=eu hu
    rw [List.length_take] at ht
    rw [List.getElem?_take,if_pos (by omega)] at hu
    have huy:=lo' t u (by omega) hu
    have toY:∀ v∈Y,rk u<=rk v:=fun v hv=>Nat.le_trans huy (y0le v hv)
    rcases List.mem_append.mp hv with hv | hv
    ·rcases hml v hv with hv | hv
     ·obtain ⟨t2,ht2,hv⟩:=eu hv
      rw [List.getElem?_drop] at hv
      exact dY sx (by omega) hu hv
     ·exact toY v (List.mem_of_mem_take hv)
    ·exact toY v (List.mem_of_mem_drop hv)
 by_cases c3:X.length - k<=m
 ·rw [if_pos c3]
  exact wpS_bind (wN O kd1 T la h0 fin)
 ·rw [if_neg c3]
  exact wpS_bind (wa O kd1 T la h0 fin)
end
end L2.TS
namespace L2.TS
open PySem PySem.Spec PyProof.Rows
structure SB (kd:SortKind) (a0:List Keyed) (pe:Array (Nat×Nat×Nat)) (st:SortSt):Prop where
 pm:(arrOf st).toList.Perm a0
 kd:kindOf st=kd
 fa:failedOf st=none
 pe:pendingOf st=pe
structure Set0 (M:Keyed->Prop) (rk:Keyed->Nat) (a0:List Keyed):Prop where
 m:∀ u∈a0,M u
theorem rA {α:Type} {a b:Array α} (h:a.Perm b):a.toList.Perm b.toList:=Array.perm_iff_toList_perm.mp h
def SU (rk:Keyed->Nat) (a:Array Keyed) (lo k:Nat):Prop:=∀ i j,i<=j->j < k->R rk a (lo + i)<=R rk a (lo + j)
def Pre (lo:Nat) (a b:Array Keyed):Prop:=∀ k,k < lo->b[k]?=a[k]?
theorem fU {rk:Keyed->Nat} {a b:Array Keyed} {i j:Nat} (h:a[i]?=b[j]?):R rk a i=R rk b j:=by unfold R; rw [h]
theorem iK {rk:Keyed->Nat} {a:Array Keyed} {i j:Nat} (hj:j<=a.size) (k:Nat):R rk (mirror a i j ((j - i) / 2)) k=if i<=k/\k < j then R rk a (i + j - 1 - k) else R rk a k:=by
 have e:=getElem?_mirror_all (i:=i) hj k
 by_cases h1:i<=k/\k < j
 ·rw [if_pos h1] at e ⊢; exact fU e
 ·rw [if_neg h1] at e ⊢; exact fU e
theorem mW {rk:Keyed->Nat} {a:Array Keyed} {src d:Nat} (hs:src < a.size) (hd:d<=src) (k:Nat):R rk (bubble a src d) k=if k=src - d then R rk a src else if src - d < k/\k<=src then R rk a (k - 1) else R rk a k:=by
 have e:=getElem?_bubble hs d hd k
 by_cases h1:k=src - d
 ·rw [if_pos h1] at e ⊢; exact fU e
 ·rw [if_neg h1] at e ⊢
  by_cases h2:src - d < k/\k<=src
  ·rw [if_pos h2] at e ⊢; exact fU e
  ·rw [if_neg h2] at e ⊢; exact fU e
section
variable {prog:Program} {w:World} {A:Around} {E:Value->Shared->Prop} {s:Shared} {kd:SortKind} {M:Keyed->Prop} {rk:Keyed->Nat} {st:SortSt} {a0:List Keyed} {pe:Array (Nat×Nat×Nat)} {lo n:Nat}
theorem SB.size (B:SB kd a0 pe st):(arrOf st).size=a0.length:=by rw [<- Array.length_toList]; exact B.pm.length_eq
theorem SB.at (B:SB kd a0 pe st) (Z:Set0 M rk a0) {i:Nat} (h:i < a0.length):∃ u,(arrOf st)[i]?=some u/\M u:=by
 obtain ⟨u,e1,e2⟩:=aS (a:=arrOf st) (k:=i) (by rw [B.size]; exact h)
 exact ⟨u,e1,Z.m u (B.pm.mem_iff.mp (List.mem_of_getElem? e2))⟩
theorem SB.arr {a:Array Keyed} (B:SB kd a0 pe st) (h:a.Perm (arrOf st)):SB kd a0 pe (setArr st a):=⟨(rA h).trans B.pm,B.kd,B.fa,B.pe⟩
theorem gg {i j:Nat} {Q:Option Bool->SortSt->Prop} (O:Ask prog w A s kd M rk) (Z:Set0 M rk a0) (B:SB kd a0 pe st) (hi:i < a0.length) (hj:j < a0.length) (h:Q (some (decide (R rk (arrOf st) i < R rk (arrOf st) j))) st):wpS (model prog w) A E s (ltAt' i j) Q st:=by
 obtain ⟨u,e1,mu⟩:=B.at Z hi
 obtain ⟨v,e2,mv⟩:=B.at Z hj
 rw [cf e1,cf e2] at h
 rw [ltAt'_eq]
 exact wpS_bind (wpS_get (wpS_bind (bF e1 (wpS_bind (bF e2 (nr O B.kd mu mv h))))))
theorem gG {a:Nat} {Q:Option (Option Nat)×Nat->SortSt->Prop} (O:Ask prog w A s kd M rk) (Z:Set0 M rk a0) (B:SB kd a0 pe st) (hn:lo + n<=a0.length) (h1:1<=a) (han:a<=n) (su:SU rk (arrOf st) lo a)
  (q:∀ m,a<=m->m<=n->SU rk (arrOf st) lo m->(m=n\/R rk (arrOf st) (lo + m) < R rk (arrOf st) (lo + m - 1))->Q (none,m) st) :
  wpS (model prog w) A E s (forIn [a:n] ((none,a):Option (Option Nat)×Nat) fun _ c=>do
   match <- ltAt' (lo + c.2) (lo + c.2 - 1) with
   | some sm=>if sm=true then pure (.done (none,c.2)) else pure (.yield (none,c.2 + 1))
   | _=>pure (.done (some none,c.2))) Q st:=by
 refine wpS_forRange (I:=fun x c st'=>st'=st/\c=(none,x)/\SU rk (arrOf st) lo x) ?step ?fin ⟨rfl,rfl,su⟩
 case fin=>
  rintro c st' ⟨rfl,rfl,su'⟩
  rw [show max a n=n by omega] at su' ⊢
  exact q n han (Nat.le_refl _) su' (.inl rfl)
 case step=>
  rintro x c st' hax hxn ⟨rfl,rfl,su'⟩
  dsimp only
  refine wpS_bind (gg O Z B (by omega) (by omega) ?_)
  dsimp only
  by_cases c0:R rk (arrOf st') (lo + x) < R rk (arrOf st') (lo + x - 1)
  ·rw [decide_eq_true c0,if_pos rfl]
   exact wpS_pure (q x hax (by omega) su' (.inr c0))
  ·rw [decide_eq_false c0,if_neg (by decide)]
   refine wpS_pure ⟨rfl,rfl,fun i j hij hj=>?_⟩
   by_cases hjx:j < x
   ·exact su' i j hij hjx
   ·obtain rfl:j=x:=by omega
    by_cases hi':i=j
    ·subst hi'; exact Nat.le_refl _
    ·have h1:=su' i (j - 1) (by omega) (by omega)
     rw [show lo + (j - 1)=lo + j - 1 by omega] at h1
     omega
theorem tP {a:Array Keyed} {i j:Nat} (hj:j<=a.size) (h:∀ k,i<=k->k < j->R rk a k=R rk a (j - 1)) (k:Nat):R rk (mirror a i j ((j - i) / 2)) k=R rk a k:=by
 rw [iK hj]
 by_cases c:i<=k/\k < j
 ·rw [if_pos c,h (i + j - 1 - k) (by omega) (by omega),h k c.1 c.2]
 ·rw [if_neg c]
theorem fo {a:Array Keyed} {i j:Nat} (hj:j<=a.size) (h:lo<=i):Pre lo a (mirror a i j ((j - i) / 2)):=fun k hk=>by rw [getElem?_mirror_all hj,if_neg (by omega)]
theorem Pre.trans {a b c:Array Keyed} (h1:Pre lo a b) (h2:Pre lo b c):Pre lo a c:=fun k hk=>(h2 k hk).trans (h1 k hk)
theorem ic {Q:Option Nat->SortSt->Prop} (O:Ask prog w A s kd M rk) (Z:Set0 M rk a0) (B:SB kd a0 pe st) (hn:lo + n<=a0.length) (h1:1<=n)
  (q:∀ m st',SB kd a0 pe st'->1<=m->m<=n->Pre lo (arrOf st) (arrOf st')->SU rk (arrOf st') lo m->Q (some m) st'):wpS (model prog w) A E s (countRun' lo n) Q st:=by
 rw [countRun'_eq]
 dsimp only
 refine wpS_bind (gG O Z B hn (Nat.le_refl _) h1 (fun i j _ _=>by rw [show i=j by omega]; exact Nat.le_refl _) fun m hm1 hm2 su e=>?_)
 dsimp only
 by_cases c1:(m == n)=true
 ·rw [if_pos c1]
  exact wpS_pure (q m st B hm1 hm2 (fun _ _=>rfl) su)
 rw [if_neg c1]
 have c1':¬ m=n:=by simpa using c1
 have hd:R rk (arrOf st) (lo + m) < R rk (arrOf st) (lo + m - 1):=by
  rcases e with e | e
  ·omega
  ·exact e
 refine (fun (tail:∀ st1,SB kd a0 pe st1->Pre lo (arrOf st) (arrOf st1)->(∀ i j,i<=j->j < m + 1->R rk (arrOf st1) (lo + j)<=R rk (arrOf st1) (lo + i))->wpS (model prog w) A E s ?T Q st1)=>?main) ?tail
 case main=>
  by_cases c2:m > 1
  ·rw [if_pos c2]
   refine wpS_bind (gg O Z B (by omega) (by omega) ?_)
   dsimp only
   by_cases c3:R rk (arrOf st) lo < R rk (arrOf st) (lo + m - 1)
   ·rw [decide_eq_true c3,if_pos rfl]
    exact wpS_pure (q m st B hm1 hm2 (fun _ _=>rfl) su)
   ·rw [decide_eq_false c3,if_neg (by decide)]
    refine wpS_bind (wpS_reverse ?_)
    have sz:lo + m<=(arrOf st).size:=by rw [B.size]; omega
    have eqs:∀ k,lo<=k->k < lo + m->R rk (arrOf st) k=R rk (arrOf st) (lo + m - 1):=fun k h1 h2=>by
     have a1:=su 0 (k - lo) (by omega) (by omega)
     have a2:=su (k - lo) (m - 1) (by omega) (by omega)
     rw [Nat.add_zero,show lo + (k - lo)=k by omega] at a1
     rw [show lo + (k - lo)=k by omega,show lo + (m - 1)=lo + m - 1 by omega] at a2
     omega
    have rs:=tP (rk:=rk) sz eqs
    refine tail _ (B.arr (mirror_perm _ _ _ _)) (fo sz (Nat.le_refl _)) fun i j hij hj=>?_
    show R rk (mirror (arrOf st) lo (lo + m) ((lo + m - lo) / 2)) (lo + j)<=R rk (mirror (arrOf st) lo (lo + m) ((lo + m - lo) / 2)) (lo + i)
    rw [rs,rs]
    by_cases hj':j=m
    ·by_cases hi':i=m
     ·rw [hi',hj']; exact Nat.le_refl _
     ·rw [hj',eqs (lo + i) (by omega) (by omega)]; exact Nat.le_of_lt hd
    ·rw [eqs (lo + i) (by omega) (by omega),eqs (lo + j) (by omega) (by omega)]; exact Nat.le_refl _
  ·rw [if_neg c2]
   refine tail st B (fun _ _=>rfl) fun i j hij hj=>?_
   obtain rfl:m=1:=by omega
   by_cases e:i=j
   ·subst e; exact Nat.le_refl _
   ·have:i=0:=by omega
    have:j=1:=by omega
    subst_vars
    rw [Nat.add_sub_cancel] at hd
    exact Nat.le_of_lt hd
 case tail=>
  intro st1 B1 P1 dn1
  refine wpS_bind (wpS_lift (wpAny_rule ⟨rfl,?_⟩))
  have segs:∀ (st':SortSt) (x ne:Nat),SB kd a0 pe st'->x<=n->ne + 1<=x->(∀ k,x - (ne + 1)<=k->k < x->R rk (arrOf st') (lo + k)=R rk (arrOf st') (lo + x - 1))->(∀ k,R rk (mirror (arrOf st') (lo + x - (ne + 1)) (lo + x) ((lo + x - (lo + x - (ne + 1))) / 2)) k=R rk (arrOf st') k)/\Pre lo (arrOf st') (mirror (arrOf st') (lo + x - (ne + 1)) (lo + x) ((lo + x - (lo + x - (ne + 1))) / 2)):=fun st' x ne B' hx hne eq=>by
   have sz:lo + x<=(arrOf st').size:=by rw [B'.size]; omega
   refine ⟨tP sz fun k h1 h2=>?_,fo sz (by omega)⟩
   have:=eq (k - lo) (by omega) (by omega)
   rwa [show lo + (k - lo)=k by omega] at this
  refine wpS_bind (wpS_mono (wpS_forRange (I:=fun x c st'=>∃ ne,c=(none,x,ne)/\SB kd a0 pe st'/\Pre lo (arrOf st) (arrOf st')/\(∀ i j,i<=j->j < x->R rk (arrOf st') (lo + j)<=R rk (arrOf st') (lo + i))/\ne + 1<=x/\∀ k,x - (ne + 1)<=k->k < x->R rk (arrOf st') (lo + k)=R rk (arrOf st') (lo + x - 1))
   (Q:=fun c st'=>∃ x ne,c=(none,x,ne)/\2<=x/\x<=n/\SB kd a0 pe st'/\Pre lo (arrOf st) (arrOf st')/\(∀ i j,i<=j->j < x->R rk (arrOf st') (lo + j)<=R rk (arrOf st') (lo + i))/\ne + 1<=x/\∀ k,x - (ne + 1)<=k->k < x->R rk (arrOf st') (lo + k)=R rk (arrOf st') (lo + x - 1)) ?step ?fin ⟨0,rfl,B1,P1,dn1,by omega,fun k h1 h2=>by rw [show k=m by omega]; rfl⟩) ?post)
  case fin=>
   rintro c st' ⟨ne,rfl,B',P',dn,hne,eq⟩
   have mx:max (m + 1) n=n:=by omega
   rw [mx] at dn hne eq ⊢
   exact ⟨n,ne,rfl,by omega,Nat.le_refl _,B',P',dn,hne,eq⟩
  case step=>
   rintro x c st' hax hxn ⟨ne,rfl,B',P',dn,hne,eq⟩
   dsimp only
   refine wpS_bind (gg O Z B' (by omega) (by omega) ?_)
   dsimp only
   by_cases c0:R rk (arrOf st') (lo + x) < R rk (arrOf st') (lo + x - 1)
   ·rw [decide_eq_true c0,if_pos rfl]
    have go:∀ st2,SB kd a0 pe st2->Pre lo (arrOf st') (arrOf st2)->(∀ k,R rk (arrOf st2) k=R rk (arrOf st') k)->∃ ne',((none,x + 1,0):Option (Option Nat)×Nat×Nat)=(none,x + 1,ne')/\SB kd a0 pe st2/\Pre lo (arrOf st) (arrOf st2)/\(∀ i j,i<=j->j < x + 1->R rk (arrOf st2) (lo + j)<=R rk (arrOf st2) (lo + i))/\ne' + 1<=x + 1/\∀ k,x + 1 - (ne' + 1)<=k->k < x + 1->R rk (arrOf st2) (lo + k)=R rk (arrOf st2) (lo + (x + 1) - 1):=fun st2 B2 P2 rs=>by
     refine ⟨0,rfl,B2,P'.trans P2,fun i j hij hj=>?_,by omega,fun k h1 h2=>by rw [show k=x by omega]; rfl⟩
     rw [rs,rs]
     by_cases hjx:j < x
     ·exact dn i j hij hjx
     ·obtain rfl:j=x:=by omega
      by_cases hi':i=j
      ·subst hi'; exact Nat.le_refl _
      ·have h1:=dn i (j - 1) (by omega) (by omega)
       rw [show lo + (j - 1)=lo + j - 1 by omega] at h1
       omega
    by_cases c4:ne > 0
    ·rw [if_pos c4]
     obtain ⟨rs,p2⟩:=segs st' x ne B' (by omega) hne eq
     refine wpS_bind (wpS_reverse ?_)
     exact wpS_pure (go _ (B'.arr (mirror_perm _ _ _ _)) p2 rs)
    ·rw [if_neg c4]
     exact wpS_pure (go st' B' (fun _ _=>rfl) fun _=>rfl)
   ·rw [decide_eq_false c0,if_neg (by decide)]
    refine wpS_bind (gg O Z B' (by omega) (by omega) ?_)
    dsimp only
    by_cases c5:R rk (arrOf st') (lo + x - 1) < R rk (arrOf st') (lo + x)
    ·rw [decide_eq_true c5,if_pos rfl]
     exact wpS_pure ⟨x,ne,rfl,by omega,by omega,B',P',dn,hne,eq⟩
    ·rw [decide_eq_false c5,if_neg (by decide)]
     have e1:R rk (arrOf st') (lo + x)=R rk (arrOf st') (lo + x - 1):=by omega
     refine wpS_pure ⟨ne + 1,rfl,B',P',fun i j hij hj=>?_,by omega,fun k h1 h2=>?_⟩
     ·by_cases hjx:j < x
      ·exact dn i j hij hjx
      ·obtain rfl:j=x:=by omega
       by_cases hi':i=j
       ·subst hi'; exact Nat.le_refl _
       ·have h1:=dn i (j - 1) (by omega) (by omega)
        rw [show lo + (j - 1)=lo + j - 1 by omega] at h1
        omega
     ·show _=R rk (arrOf st') (lo + x)
      by_cases hk:k=x
      ·rw [hk]
      ·rw [e1,eq k (by omega) (by omega)]
  case post=>
   rintro c st' ⟨x,ne,rfl,x2,xn,B',P',dn,hne,eq⟩
   dsimp only
   refine (fun (t2:∀ st2,SB kd a0 pe st2->Pre lo (arrOf st) (arrOf st2)->(∀ i j,i<=j->j < x->R rk (arrOf st2) (lo + j)<=R rk (arrOf st2) (lo + i))->wpS (model prog w) A E s ?T2 Q st2)=>?main2) ?t2
   case main2=>
    by_cases c4:ne > 0
    ·rw [if_pos c4]
     obtain ⟨rs,p2⟩:=segs st' x ne B' xn hne eq
     refine wpS_bind (wpS_reverse ?_)
     refine t2 _ (B'.arr (mirror_perm _ _ _ _)) (P'.trans p2) fun i j hij hj=>?_
     have r1:=rs (lo + j)
     have r2:=rs (lo + i)
     have:=dn i j hij hj
     exact Nat.le_trans (Nat.le_of_eq r1) (Nat.le_trans this (Nat.le_of_eq r2.symm))
    ·rw [if_neg c4]
     exact t2 st' B' P' dn
   case t2=>
    intro st2 B2 P2 dn2
    refine wpS_bind (wpS_reverse ?_)
    have sz:lo + x<=(arrOf st2).size:=by rw [B2.size]; omega
    have B3:SB kd a0 pe (setArr st2 (mirror (arrOf st2) lo (lo + x) ((lo + x - lo) / 2))):=B2.arr (mirror_perm _ _ _ _)
    refine wpS_bind (gG O Z B3 hn (by omega) xn (fun i j hij hj=>?_) fun m' hm1' hm2' su' _=>?_)
    ·show R rk (mirror (arrOf st2) lo (lo + x) ((lo + x - lo) / 2)) (lo + i)<=R rk (mirror (arrOf st2) lo (lo + x) ((lo + x - lo) / 2)) (lo + j)
     rw [iK sz,iK sz,if_pos (by omega),if_pos (by omega),show lo + (lo + x) - 1 - (lo + i)=lo + (x - 1 - i) by omega,show lo + (lo + x) - 1 - (lo + j)=lo + (x - 1 - j) by omega]
     exact dn2 _ _ (by omega) (by omega)
    ·exact wpS_pure (q m' _ B3 (by omega) hm2' (P2.trans (fo sz (Nat.le_refl _))) su')
theorem uv {ok:Nat} {Q:Bool->SortSt->Prop} (O:Ask prog w A s kd M rk) (Z:Set0 M rk a0) (B:SB kd a0 pe st) (hn:lo + n<=a0.length) (hok:ok<=n) (su:SU rk (arrOf st) lo ok)
  (q:∀ st',SB kd a0 pe st'->Pre lo (arrOf st) (arrOf st')->SU rk (arrOf st') lo n->Q true st'):wpS (model prog w) A E s (binarySort' lo n ok) Q st:=by
 rw [binarySort'_eq]
 dsimp only
 refine wpS_bind (wpS_mono (wpS_forRange (I:=fun k c st'=>c=(none,())/\SB kd a0 pe st'/\Pre lo (arrOf st) (arrOf st')/\SU rk (arrOf st') lo (min k n))
  (Q:=fun c st'=>c=(none,())/\SB kd a0 pe st'/\Pre lo (arrOf st) (arrOf st')/\SU rk (arrOf st') lo n) ?step ?fin ?init) ?post)
 case post=>
  rintro c st' ⟨rfl,B',p,su'⟩
  exact wpS_pure (q st' B' p su')
 case init=>
  refine ⟨rfl,B,fun _ _=>rfl,fun i j hij hj=>?_⟩
  by_cases h1:ok=0
  ·rw [show i=j by omega]; exact Nat.le_refl _
  ·exact su i j hij (by omega)
 case fin=>
  rintro c st' ⟨hc,B',p,su'⟩
  refine ⟨hc,B',p,?_⟩
  rwa [show min (max (max ok 1) n) n=n by omega] at su'
 case step=>
  rintro k c st' hak hkn ⟨rfl,B',p,su'⟩
  rw [show min k n=k by omega] at su'
  refine wpS_bind (wpS_mono (wpS_forRange (I:=fun x c st''=>st''=st'/\∃ l r,c=(none,l,r)/\l<=r/\r<=k/\r - l<=k - x /\
    (∀ i,i < l->R rk (arrOf st') (lo + i)<=R rk (arrOf st') (lo + k))/\(∀ i,r<=i->i < k->R rk (arrOf st') (lo + k)<=R rk (arrOf st') (lo + i)))
   (Q:=fun c st''=>st''=st'/\∃ l r,c=(none,l,r)/\l<=k /\
    (∀ i,i < l->R rk (arrOf st') (lo + i)<=R rk (arrOf st') (lo + k))/\(∀ i,l<=i->i < k->R rk (arrOf st') (lo + k)<=R rk (arrOf st') (lo + i))) ?istep ?ifin ⟨rfl,0,k,rfl,by omega,by omega,by omega,fun i hi=>by omega,fun i h1 h2=>by omega⟩) ?ipost)
  case ifin=>
   rintro c st'' ⟨rfl,l,r,rfl,a1,a2,a3,a4,a5⟩
   obtain rfl:l=r:=by omega
   exact ⟨rfl,l,l,rfl,a2,a4,a5⟩
  case istep=>
   rintro x c st'' _ hxk ⟨rfl,l,r,rfl,a1,a2,a3,a4,a5⟩
   dsimp only
   by_cases ge:l>=r
   ·rw [if_pos ge]
    obtain rfl:l=r:=by omega
    exact wpS_pure ⟨rfl,l,l,rfl,a2,a4,a5⟩
   ·rw [if_neg ge]
    refine wpS_bind (gg O Z B' (by omega) (by omega) ?_)
    dsimp only
    by_cases c0:R rk (arrOf st'') (lo + k) < R rk (arrOf st'') (lo + (l + r) / 2)
    ·rw [decide_eq_true c0,if_pos rfl]
     exact wpS_pure ⟨rfl,l,(l + r) / 2,rfl,by omega,by omega,by omega,a4,fun i h1 h2=>Nat.le_trans (Nat.le_of_lt c0) (su' _ _ h1 h2)⟩
    ·rw [decide_eq_false c0,if_neg (by decide)]
     exact wpS_pure ⟨rfl,(l + r) / 2 + 1,r,rfl,by omega,by omega,by omega,fun i h1=>Nat.le_trans (su' i ((l + r) / 2) (by omega) (by omega)) (Nat.le_of_not_lt c0),a5⟩
  case ipost=>
   rintro c st'' ⟨rfl,l,r,rfl,a1,a4,a5⟩
   dsimp only
   rw [moveDown'_eq]
   have hks:lo + k < (arrOf st'').size:=by rw [B'.size]; omega
   refine wpS_bind (wpS_modify (wpS_pure ⟨rfl,B'.arr (bubble_perm _ _ _),fun i hi=>?_,?_⟩))
   ·show (bubble (arrOf st'') (lo + k) (lo + k - (lo + l)))[i]?=_
    rw [getElem?_bubble hks _ (by omega),if_neg (by omega),if_neg (by omega)]
    exact p i hi
   ·rw [show min (k + 1) n=k + 1 by omega]
    intro i j hij hj
    show R rk (bubble (arrOf st'') (lo + k) (lo + k - (lo + l))) (lo + i)<=R rk (bubble (arrOf st'') (lo + k) (lo + k - (lo + l))) (lo + j)
    rw [mW hks (by omega),mW hks (by omega),show lo + k - (lo + k - (lo + l))=lo + l by omega]
    by_cases i1:i < l
    ·rw [if_neg (by omega),if_neg (by omega)]
     by_cases j1:j < l
     ·rw [if_neg (by omega),if_neg (by omega)]; exact su' i j hij (by omega)
     ·by_cases j2:j=l
      ·rw [if_pos (by omega)]; exact a4 i i1
      ·rw [if_neg (by omega),if_pos (by omega),show lo + j - 1=lo + (j - 1) by omega]; exact su' _ _ (by omega) (by omega)
    ·by_cases i2:i=l
     ·rw [if_pos (by omega)]
      by_cases j2:j=l
      ·rw [if_pos (by omega)]; exact Nat.le_refl _
      ·rw [if_neg (by omega),if_pos (by omega),show lo + j - 1=lo + (j - 1) by omega]; exact a5 _ (by omega) (by omega)
     ·rw [if_neg (by omega),if_pos (by omega),if_neg (by omega),if_pos (by omega),show lo + i - 1=lo + (i - 1) by omega,show lo + j - 1=lo + (j - 1) by omega]
      exact su' _ _ (by omega) (by omega)
end
end L2.TS
namespace L2.TS
open PySem PySem.Spec PyProof.Rows
def PM:Nat->List (Nat×Nat×Nat)->List (List Keyed)->Prop
 | _,[],[]=>True
 | b,p :: ps,r :: rs=>p.1=b/\p.2.1=r.length/\PM (b + r.length) ps rs
 | _,_,_=>False
theorem PM.len:∀ {b:Nat} {ps:List (Nat×Nat×Nat)} {rs:List (List Keyed)},PM b ps rs->ps.length=rs.length
 | _,[],[],_=>rfl
 | _,p :: ps,r :: rs,h=>by rw [List.length_cons,List.length_cons,PM.len h.2.2]
 | _,[],_ :: _,h=>h.elim
 | _,_ :: _,[],h=>h.elim
theorem PM.split:∀ {b:Nat} {ps:List (Nat×Nat×Nat)} {r1 r2:List (List Keyed)},PM b ps (r1 ++ r2)->∃ p1 p2,ps=p1 ++ p2/\PM b p1 r1/\PM (b + r1.flatten.length) p2 r2
 | b,ps,[],r2,h=>⟨[],ps,rfl,trivial,h⟩
 | b,p :: ps,r :: r1,r2,h=>by
  obtain ⟨p1,p2,rfl,h1,h2⟩:=PM.split (r1:=r1) h.2.2
  refine ⟨p :: p1,p2,rfl,⟨h.1,h.2.1,h1⟩,?_⟩
  rw [List.flatten_cons,List.length_append,<- Nat.add_assoc]; exact h2
 | b,[],r :: r1,r2,h=>h.elim
theorem PM.app:∀ {b:Nat} {p1 p2:List (Nat×Nat×Nat)} {r1 r2:List (List Keyed)},PM b p1 r1->PM (b + r1.flatten.length) p2 r2->PM b (p1 ++ p2) (r1 ++ r2)
 | b,[],p2,[],r2,_,h2=>h2
 | b,p :: p1,p2,r :: r1,r2,h1,h2=>by
  refine ⟨h1.1,h1.2.1,PM.app h1.2.2 ?_⟩
  rw [List.flatten_cons,List.length_append,<- Nat.add_assoc] at h2; exact h2
 | _,[],_,_ :: _,_,h,_=>h.elim
 | _,_ :: _,_,[],_,h,_=>h.elim
theorem PM.pows {f:Nat×Nat×Nat->Nat×Nat×Nat} (hf:∀ p,(f p).1=p.1/\(f p).2.1=p.2.1):∀ {b:Nat} {ps:List (Nat×Nat×Nat)} {rs:List (List Keyed)} (i:Nat),PM b ps rs->PM b (ps.modify i f) rs
 | _,[],[],i,_=>by cases i <;> exact trivial
 | b,p :: ps,r :: rs,0,h=>by
  show PM b (f p :: ps) (r :: rs)
  exact ⟨(hf p).1.trans h.1,(hf p).2.trans h.2.1,h.2.2⟩
 | b,p :: ps,r :: rs,i + 1,h=>by
  show PM b (p :: ps.modify i f) (r :: rs)
  exact ⟨h.1,h.2.1,PM.pows hf i h.2.2⟩
 | _,[],_ :: _,_,h=>h.elim
 | _,_ :: _,[],_,h=>h.elim
structure RS (kd:SortKind) (rk:Keyed->Nat) (a0:List Keyed) (st:SortSt) (rs:List (List Keyed)) (rest:List Keyed):Prop where
 pm:(arrOf st).toList.Perm a0
 kd:kindOf st=kd
 fa:failedOf st=none
 ar:(arrOf st).toList=rs.flatten ++ rest
 pe:PM 0 (pendingOf st).toList rs
 up:∀ r∈rs,Up rk r/\r≠[]
section
variable {prog:Program} {w:World} {A:Around} {E:Value->Shared->Prop} {s:Shared} {kd:SortKind} {M:Keyed->Prop} {rk:Keyed->Nat} {st:SortSt} {a0 rest:List Keyed} {rs:List (List Keyed)} {lo n:Nat}
theorem RS.sb (I:RS kd rk a0 st rs rest):SB kd a0 (pendingOf st) st:=⟨I.pm,I.kd,I.fa,rfl⟩
theorem RS.psz (I:RS kd rk a0 st rs rest):(pendingOf st).size=rs.length:=by rw [<- Array.length_toList]; exact I.pe.len
theorem RS.len (I:RS kd rk a0 st rs rest):rs.flatten.length + rest.length=a0.length:=by rw [<- I.pm.length_eq,I.ar,List.length_append]
theorem rF:∀ (i:Nat) (rs:List (List Keyed)),i + 1 < rs.length->∃ r0 X Y r1,rs=r0 ++ X :: Y :: r1/\r0.length=i
 | 0,[],h=>by simp at h
 | 0,[_],h=>by simp at h
 | 0,X :: Y :: r1,_=>⟨[],X,Y,r1,rfl,rfl⟩
 | i + 1,[],h=>by simp at h
 | i + 1,r :: rs,h=>by
  obtain ⟨r0,X,Y,r1,rfl,e⟩:=rF i rs (by simpa using h)
  exact ⟨r :: r0,X,Y,r1,rfl,by simp [e]⟩
theorem mw {i:Nat} {Q:Bool->SortSt->Prop} (O:Ask prog w A s kd M rk) (Z:Set0 M rk a0) (I:RS kd rk a0 st rs rest) (hi:i + 1 < rs.length) (q:∀ st' rs',RS kd rk a0 st' rs' rest->rs'.length + 1=rs.length->Q true st'):wpS (model prog w) A E s (mergeAt' i) Q st:=by
 obtain ⟨r0,X,Y,r1,rfl,e⟩:=rF i rs hi
 obtain ⟨p0,p',ep,h0,h'⟩:=I.pe.split
 match p',h' with
 | a :: b :: p1,h'=>
  obtain ⟨a1,a2,b1,b2,h1⟩:=h'
  have l0:p0.length=i:=h0.len.trans e
  obtain ⟨ux,nx⟩:=I.up X (by simp)
  obtain ⟨uy,ny⟩:=I.up Y (by simp)
  obtain ⟨as,al,aw⟩:=a
  obtain ⟨bs,bl,bw⟩:=b
  dsimp only at a1 a2 b1 b2
  rw [Nat.zero_add] at a1 b1 h1
  subst a1 a2 b1 b2
  refine wq (P:=r0.flatten) (X:=X) (Y:=Y) (S:=r1.flatten ++ rest) (pw:=aw) (pv:=bw) O I.kd I.fa (by rw [I.ar]; simp) (fun u hu=>Z.m u (I.pm.mem_iff.mp hu)) ux uy nx ny ?_ ?_ fun W st' k1 k2 k3 k4 k5 k6=>?_
  ·rw [<- Array.getElem?_toList,ep,<- l0,List.getElem?_append_right (Nat.le_refl _),Nat.sub_self]; rfl
  ·rw [<- Array.getElem?_toList,ep,<- l0,List.getElem?_append_right (Nat.le_succ _),show p0.length.succ - p0.length=1 by omega]; rfl
  ·refine q st' (r0 ++ W :: r1) ⟨?_,k1,k2,by rw [k4]; simp,?_,fun r hr=>?_⟩ (by simp; omega)
   ·rw [k4]
    refine List.Perm.trans ?_ I.pm
    rw [I.ar]
    simp only [List.flatten_append,List.flatten_cons,List.append_assoc]
    refine List.Perm.append_left _ ?_
    rw [<- List.append_assoc X Y]
    exact k5.append_right _
   ·rw [k3,Array.toList_eraseIdxIfInBounds,Array.toList_setIfInBounds,ep,<- l0]
    have e1:((p0 ++ (r0.flatten.length,X.length,aw) :: (r0.flatten.length + X.length,Y.length,bw) :: p1).set p0.length (r0.flatten.length,X.length + Y.length,aw)).eraseIdx (p0.length + 1)=p0 ++ (r0.flatten.length,X.length + Y.length,aw) :: p1:=by
     rw [List.set_append_right _ _ (Nat.le_refl _),Nat.sub_self,List.eraseIdx_append_of_length_le (Nat.le_succ _),show p0.length.succ - p0.length=1 by omega]; rfl
    rw [e1]
    refine h0.app ?_
    rw [Nat.zero_add]
    have lw:W.length=X.length + Y.length:=by rw [k5.length_eq,List.length_append]
    refine ⟨rfl,lw.symm,?_⟩
    rw [lw,<- Nat.add_assoc]; exact h1
   ·rcases List.mem_append.mp hr with hr | hr
    ·exact I.up r (List.mem_append_left _ hr)
    ·rcases List.mem_cons.mp hr with rfl | hr
     ·refine ⟨k6,fun z=>?_⟩
      have:=k5.length_eq
      rw [z,List.length_nil,List.length_append] at this
      have:=List.length_pos_iff.mpr nx
      omega
     ·exact I.up r (by simp [hr])
def jp1 (size lo n:Nat):StateT SortSt Sem (ForInStep (Option Unit×Nat)):=do
 let z <- get
 match (pendingOf z).back? with
 | some (s1,n1,_)=>do
  let c <- forIn [0:size] ((none,()):Option Unit×Unit) fun _ _=>do
   let z <- get
   match if (pendingOf z).size > 1 then (pendingOf z)[(pendingOf z).size - 2]? else none with
   | some (_,_,old)=>
    if old<=power' size (2 * s1 + n1) (2 * s1 + n1 + n1 + n) size then pure (.done (none,()))
    else do
     let b <- mergeAt' ((pendingOf z).size - 2)
     if (!b)=true then pure (.done (some (),())) else pure (.yield (none,()))
   | _=>pure (.done (none,()))
  match c.1 with
  | some r=>pure (.done (some r,lo))
  | none=>do
   modify fun y=>setPending y ((pendingOf y).modify ((pendingOf y).size - 1) fun x=>match x with | (t,l,_)=>(t,l,power' size (2 * s1 + n1) (2 * s1 + n1 + n1 + n) size))
   modify fun y=>setPending y ((pendingOf y).push (lo,n,0))
   pure (.yield (none,lo + n))
 | _=>do
  modify fun y=>setPending y ((pendingOf y).push (lo,n,0))
  pure (.yield (none,lo + n))
theorem RS.push {r:List Keyed} (I:RS kd rk a0 st rs (r ++ rest)) (u:Up rk r) (ne:r≠[]) (hl:lo=rs.flatten.length) (hn:n=r.length):RS kd rk a0 (setPending st ((pendingOf st).push (lo,n,0))) (rs ++ [r]) rest:=by
 refine ⟨I.pm,I.kd,I.fa,by show (arrOf st).toList=_; rw [I.ar]; simp,?_,fun x hx=>?_⟩
 ·show PM 0 ((pendingOf st).push (lo,n,0)).toList (rs ++ [r])
  rw [Array.toList_push]
  exact I.pe.app ⟨by rw [Nat.zero_add]; exact hl,hn,trivial⟩
 ·rcases List.mem_append.mp hx with hx | hx
  ·exact I.up x hx
  ·rw [List.mem_singleton.mp hx]; exact ⟨u,ne⟩
theorem xV {size:Nat} {Q:ForInStep (Option Unit×Nat)->SortSt->Prop} {r:List Keyed} (O:Ask prog w A s kd M rk) (Z:Set0 M rk a0) (I:RS kd rk a0 st rs (r ++ rest)) (u:Up rk r) (ne:r≠[]) (hl:lo=rs.flatten.length) (hn:n=r.length)
  (q:∀ st' rs',RS kd rk a0 st' rs' rest->lo + n=rs'.flatten.length->Q (.yield (none,lo + n)) st'):wpS (model prog w) A E s (jp1 size lo n) Q st:=by
 have fl:∀ {st' rs'},RS kd rk a0 st' rs' (r ++ rest)->lo=rs'.flatten.length:=fun {st' rs'} J=>by have:=J.len; have:=I.len; omega
 have last:∀ {st' rs'},RS kd rk a0 st' rs' (r ++ rest)->RS kd rk a0 (setPending st' ((pendingOf st').push (lo,n,0))) (rs' ++ [r]) rest:=fun {st' rs'} J=>J.push u ne (fl J) hn
 have lf:∀ {st' rs'},RS kd rk a0 st' rs' (r ++ rest)->lo + n=(rs' ++ [r]).flatten.length:=fun {st' rs'} J=>by have:=fl J; rw [List.flatten_append,List.length_append,List.flatten_cons,List.flatten_nil,List.append_nil]; omega
 unfold jp1
 refine wpS_bind (wpS_get ?_)
 cases hb:(pendingOf st).back? with
 | none=>exact wpS_bind (wpS_modify (wpS_pure (q _ _ (last I) (lf I))))
 | some b=>
  obtain ⟨s1,n1,b3⟩:=b
  dsimp only
  generalize power' size (2 * s1 + n1) (2 * s1 + n1 + n1 + n) size=pw
  refine wpS_bind (wpS_mono (wpS_forRange (I:=fun _ c st'=>c=(none,())/\∃ rs',RS kd rk a0 st' rs' (r ++ rest)) (Q:=fun c st'=>c=(none,())/\∃ rs',RS kd rk a0 st' rs' (r ++ rest)) ?step (fun c st' h=>h) ⟨rfl,rs,I⟩) ?post)
  case step=>
   rintro x c st' _ _ ⟨rfl,rs',J⟩
   refine wpS_bind (wpS_get ?_)
   by_cases c1:(pendingOf st').size > 1
   ·rw [if_pos c1]
    have sz:=J.psz
    cases hp:(pendingOf st')[(pendingOf st').size - 2]? with
    | none=>exact wpS_pure ⟨rfl,rs',J⟩
    | some p=>
     obtain ⟨p1,p2,old⟩:=p
     dsimp only
     by_cases c2:old<=pw
     ·rw [if_pos c2]; exact wpS_pure ⟨rfl,rs',J⟩
     ·rw [if_neg c2]
      refine wpS_bind (mw O Z J (by omega) fun st2 rs2 J2 _=>?_)
      rw [if_neg (by decide)]
      exact wpS_pure ⟨rfl,rs2,J2⟩
   ·rw [if_neg c1]
    exact wpS_pure ⟨rfl,rs',J⟩
  case post=>
   rintro c st' ⟨rfl,rs',J⟩
   dsimp only
   refine wpS_bind (wpS_modify ?_)
   have J2:RS kd rk a0 (setPending st' ((pendingOf st').modify ((pendingOf st').size - 1) fun x=>match x with | (t,l,_)=>(t,l,pw))) rs' (r ++ rest):=by
    refine ⟨J.pm,J.kd,J.fa,J.ar,?_,J.up⟩
    show PM 0 ((pendingOf st').modify ((pendingOf st').size - 1) fun x=>match x with | (t,l,_)=>(t,l,pw)).toList rs'
    rw [Array.toList_modify]
    exact PM.pows (f:=fun x=>match x with | (t,l,_)=>(t,l,pw)) (fun p=>⟨rfl,rfl⟩) _ J.pe
   exact wpS_bind (wpS_modify (wpS_pure (q _ _ (last J2) (lf J2))))
theorem xj:sortRuns'=(do
  let z <- get
  let c <- forIn [0:(arrOf z).size] ((none,0):Option Unit×Nat) fun _ c=>
   if c.2>=(arrOf z).size then pure (.done (none,c.2))
   else do
    match <- countRun' c.2 ((arrOf z).size - c.2) with
    | some n=>
     if n < minRun' (arrOf z).size (arrOf z).size 0 then do
      rule "list.sort.binary-insertion"
      let b <- binarySort' c.2 (min ((arrOf z).size - c.2) (minRun' (arrOf z).size (arrOf z).size 0)) n
      if (!b)=true then pure (.done (some (),c.2)) else jp1 (arrOf z).size c.2 (min ((arrOf z).size - c.2) (minRun' (arrOf z).size (arrOf z).size 0))
     else jp1 (arrOf z).size c.2 n
    | _=>pure (.done (some (),c.2))
  match c.1 with
  | some r=>pure r
  | none=>do
   let d <- forIn [0:(arrOf z).size] ((none,()):Option Unit×Unit) fun _ _=>do
    let y <- get
    if (pendingOf y).size<=1 then pure (.done (none,()))
    else do
     let b <- mergeAt' (if Option.any (fun x=>decide (x < (pendingOf y)[(pendingOf y).size - 2 + 1]?.elim 0 fun x=>x.snd.fst)) (if (pendingOf y).size - 2 > 0 then Option.map (fun x=>x.snd.fst) (pendingOf y)[(pendingOf y).size - 2 - 1]? else none)=true then (pendingOf y).size - 2 - 1 else (pendingOf y).size - 2)
     if (!b)=true then pure (.done (some (),())) else pure (.yield (none,()))
   match d.1 with
   | some r=>pure r
   | none=>pure ()):=by
 rw [sortRuns'_eq]
 refine bind_congr fun z=>?_
 refine bL (fun x c=>?_) (fun c=>?_)
 ·refine ite_congr rfl (fun _=>rfl) fun _=>?_
  refine bind_congr fun f=>?_
  cases f with
  | none=>rfl
  | some f=>
   refine ite_congr rfl (fun _=>?_) fun _=>?_
   ·refine bind_congr fun _=>?_
    refine bind_congr fun b=>?_
    refine ite_congr rfl (fun _=>rfl) fun _=>?_
    unfold jp1
    refine bind_congr fun g=>?_
    cases (pendingOf g).back? with
    | none=>rfl
    | some p=>
     obtain ⟨s1,n1,p3⟩:=p
     refine bL (fun x c=>?_) (fun c=>?_)
     ·rfl
     ·obtain ⟨r,c⟩:=c
      cases r <;> rfl
   ·unfold jp1
    refine bind_congr fun g=>?_
    cases (pendingOf g).back? with
    | none=>rfl
    | some p=>
     obtain ⟨s1,n1,p3⟩:=p
     refine bL (fun x c=>?_) (fun c=>?_)
     ·rfl
     ·obtain ⟨r,c⟩:=c
      cases r <;> rfl
 ·obtain ⟨r,lo⟩:=c
  cases r with
  | some r=>rfl
  | none=>
   refine bL (fun x c=>rfl) (fun c=>?_)
   obtain ⟨r,c⟩:=c
   cases r <;> rfl
theorem pR:∀ (rs:List (List Keyed)),(∀ r∈rs,r≠[])->rs.length<=rs.flatten.length
 | [],_=>Nat.zero_le _
 | r :: rs,h=>by
  have:=pR rs fun x hx=>h x (List.mem_cons_of_mem _ hx)
  have:=List.length_pos_iff.mpr (h r List.mem_cons_self)
  rw [List.length_cons,List.flatten_cons,List.length_append]; omega
theorem sY {a:Array Keyed} {lo n:Nat} (h:SU rk a lo n) (hn:lo + n<=a.size):Up rk ((a.toList.drop lo).take n):=by
 rw [Up,List.pairwise_iff_getElem]
 intro i j hi hj hij
 rw [List.length_take] at hi hj
 have g:∀ k (hk:k < ((a.toList.drop lo).take n).length),rk ((a.toList.drop lo).take n)[k]=R rk a (lo + k):=fun k hk=>by
  have hk2:=hk
  rw [List.length_take] at hk2
  rw [cf (x:=((a.toList.drop lo).take n)[k])]
  rw [bX,<- List.getElem?_drop,<- List.getElem?_eq_getElem hk,List.getElem?_take,if_pos (by omega)]
 rw [g,g]
 exact h i j (by omega) (by omega)
theorem runs_ok {Q:Unit->SortSt->Prop} (O:Ask prog w A s kd M rk) (Z:Set0 M rk a0) (B:SB kd a0 #[] st) (q:∀ st',(arrOf st').toList.Perm a0->failedOf st'=none->Up rk (arrOf st').toList->Q () st'):wpS (model prog w) A E s sortRuns' Q st:=by
 rw [xj]
 refine wpS_bind (wpS_get ?_)
 have sz:=B.size
 rw [sz]
 generalize minRun' a0.length a0.length 0=mr
 refine wpS_bind (wpS_mono (wpS_forRange (I:=fun x c st'=>∃ rs rest,c.1=none/\RS kd rk a0 st' rs rest/\c.2=rs.flatten.length/\x<=c.2)
  (Q:=fun c st'=>c.1=none/\∃ rs,RS kd rk a0 st' rs []) ?step ?fin ⟨[],(arrOf st).toList,rfl,⟨B.pm,B.kd,B.fa,rfl,by rw [B.pe]; trivial,by simp⟩,rfl,Nat.zero_le _⟩) ?post)
 case fin=>
  rintro ⟨c,lo⟩ st' ⟨rs,rest,e,I,hl,hx⟩
  have:=I.len
  dsimp only at hl hx
  obtain rfl:rest=[]:=List.length_eq_zero_iff.mp (by omega)
  exact ⟨e,rs,I⟩
 case step=>
  rintro x ⟨c,lo⟩ st' _ hx ⟨rs,rest,e,I,hl,hxl⟩
  obtain rfl:c=none:=e
  dsimp only at hl hxl ⊢
  have il:=I.len
  by_cases c1:lo>=a0.length
  ·rw [if_pos c1]
   obtain rfl:rest=[]:=List.length_eq_zero_iff.mp (by omega)
   exact wpS_pure ⟨rfl,rs,I⟩
  rw [if_neg c1]
  have nxt:∀ (n:Nat) (st2:SortSt),SB kd a0 (pendingOf st') st2->1<=n->n<=a0.length - lo->Pre lo (arrOf st') (arrOf st2)->SU rk (arrOf st2) lo n->wpS (model prog w) A E s (jp1 a0.length lo n) (fun r st''=>match r with | .done c'=>c'.1=none/\∃ rs,RS kd rk a0 st'' rs [] | .yield c'=>∃ rs rest,c'.1=none/\RS kd rk a0 st'' rs rest/\c'.2=rs.flatten.length/\x + 1<=c'.2) st2:=fun n st2 B2 n1 n2 pre su=>by
   have z2:(arrOf st2).toList.length=a0.length:=B2.pm.length_eq
   have et:(arrOf st2).toList.take lo=rs.flatten:=by
    have e1:(arrOf st').toList.take lo=rs.flatten:=by rw [I.ar,hl,List.take_left' rfl]
    rw [<- e1]
    apply List.ext_getElem?
    intro k
    rw [List.getElem?_take,List.getElem?_take]
    by_cases hk:k < lo
    ·rw [if_pos hk,if_pos hk,<- bX,<- bX]; exact pre k hk
    ·rw [if_neg hk,if_neg hk]
   have ea:(arrOf st2).toList=rs.flatten ++ ((((arrOf st2).toList.drop lo).take n) ++ (arrOf st2).toList.drop (lo + n)):=by
    rw [<- et,<- List.drop_drop,List.take_append_drop,List.take_append_drop]
   have lr:(((arrOf st2).toList.drop lo).take n).length=n:=by rw [List.length_take,List.length_drop,z2]; omega
   have J:RS kd rk a0 st2 rs ((((arrOf st2).toList.drop lo).take n) ++ (arrOf st2).toList.drop (lo + n)):=⟨B2.pm,B2.kd,B2.fa,ea,by rw [B2.pe]; exact I.pe,I.up⟩
   refine xV O Z J (sY su (by rw [<- Array.length_toList,z2]; omega)) (fun z=>by rw [z,List.length_nil] at lr; omega) hl lr.symm fun st3 rs3 J3 h3=>?_
   exact ⟨rs3,_,rfl,J3,h3,by dsimp only; omega⟩
  refine wpS_bind (ic O Z I.sb (by omega) (by omega) fun m st2 B2 m1 m2 pre su=>?_)
  dsimp only
  by_cases c2:m < mr
  ·rw [if_pos c2]
   refine wpS_bind (wpS_lift (wpAny_rule ⟨rfl,?_⟩))
   refine wpS_bind (uv (n:=min (a0.length - lo) mr) O Z B2 (by omega) (by omega) su fun st3 B3 pre3 su3=>?_)
   rw [if_neg (by decide)]
   exact wpS_mono (nxt _ st3 B3 (by omega) (by omega) (fun k hk=>(pre3 k hk).trans (pre k hk)) su3) fun r st4 y=>by cases r <;> exact y
  ·rw [if_neg c2]
   exact wpS_mono (nxt m st2 B2 m1 m2 pre su) fun r st4 y=>by cases r <;> exact y
 case post=>
  rintro ⟨c,lo⟩ st' ⟨e,rs,I⟩
  obtain rfl:c=none:=e
  dsimp only
  have il:=I.len
  have rl:=pR rs fun r hr=>(I.up r hr).2
  rw [List.length_nil] at il
  refine wpS_bind (wpS_mono (wpS_forRange (I:=fun x c st'=>c=(none,())/\∃ rs,RS kd rk a0 st' rs []/\(rs.length<=1\/rs.length + x<=a0.length)) (Q:=fun c st'=>c=(none,())/\∃ rs,RS kd rk a0 st' rs []/\rs.length<=1) ?s2 ?f2 ⟨rfl,rs,I,.inr (by omega)⟩) ?p2)
  case f2=>
   rintro c st' ⟨rfl,rs,I,h⟩
   exact ⟨rfl,rs,I,by omega⟩
  case s2=>
   rintro x c st' _ hx ⟨rfl,rs,I,h⟩
   refine wpS_bind (wpS_get ?_)
   have psz:=I.psz
   by_cases c1:(pendingOf st').size<=1
   ·rw [if_pos c1]; exact wpS_pure ⟨rfl,rs,I,by omega⟩
   ·rw [if_neg c1]
    have go:∀ i,i + 1 < rs.length->wpS (model prog w) A E s (mergeAt' i) (fun b st2=>b=true/\∃ rs2,RS kd rk a0 st2 rs2 []/\rs2.length + 1=rs.length) st':=fun i hi=>mw O Z I hi fun st2 rs2 J2 l2=>⟨rfl,rs2,J2,l2⟩
    refine wpS_bind (wpS_mono (go _ ?_) fun b st2 ⟨eb,rs2,J2,l2⟩=>?_)
    ·have key:∀ (b:Bool),(if b=true then (pendingOf st').size - 2 - 1 else (pendingOf st').size - 2) + 1 < rs.length:=fun b=>by cases b <;> simp <;> omega
     exact key _
    ·subst eb
     rw [if_neg (by decide)]
     exact wpS_pure ⟨rfl,rs2,J2,by omega⟩
  case p2=>
   rintro c st' ⟨rfl,rs,I,h⟩
   refine wpS_pure (q st' I.pm I.fa ?_)
   rw [I.ar,List.append_nil]
   match rs,h,I with
   | [],_,_=>exact List.Pairwise.nil
   | [r],_,I=>rw [List.flatten_cons,List.flatten_nil,List.append_nil]; exact (I.up r List.mem_cons_self).1
end
end L2.TS
namespace L2
open PySem PySem.Spec PyProof.Rows PySem.W KB
def prK (p:Pr):List Key:=[Sum.inr p.1,Sum.inl p.2]
theorem lq {p q:Pr} (h:prK p=prK q):p=q:=by
 unfold prK at h
 injection h with h1 h2
 injection h2 with h2 _
 injection h1 with h1
 injection h2 with h2
 exact Prod.ext h1 h2
section
variable (prog:Program) (w:World)
inductive bz (h:Heap):List Pr->List Value->Prop
 | nil:bz h [] []
 | cons {p:Pr} {b:Addr} {ps:List Pr} {vs:List Value}:IsTupleKey (aF prog w) h (prK p) b->bz h ps vs->bz h (p :: ps) (.ref b :: vs)
def cx (h:Heap) (ps:List Pr) (a:Addr):Prop:=∃ o items n,h.get? a=some o/\o.cls=.type "tuple"/\o.data=.seq items n/\bz prog w h ps items.toList
def oF (ps:List Pr):Int:=reduceHash (Builtin.Tuple.tupleHashOf (ps.map fun p=>tupleKeyHash (aF prog w) (prK p)))
end
section
variable {prog:Program} {w:World} {A:Around} {E:Value->Shared->Prop} {s:Shared} {ps qs:List Pr} {a b:Addr} {h h':Heap}
theorem bz.inj:∀ {ps qs:List Pr} {vs:List Value},bz prog w h ps vs->bz prog w h qs vs->ps=qs
 | _,_,_,.nil,.nil=>rfl
 | _,_,_,.cons x y,.cons z t=>by rw [lq (x.inj z),bz.inj y t]
theorem cx.typeIs (x:cx prog w s.heap ps a):s.TypeIs (.ref a) "tuple":=let ⟨o,_,_,e,c,_⟩:=x; ⟨o,e,c⟩
theorem cx.inj (x:cx prog w h ps a) (y:cx prog w h qs a):ps=qs:=by
 obtain ⟨o,its,n,e,_,d,i⟩:=x
 obtain ⟨o',its',n',e',_,d',i'⟩:=y
 cases e.symm.trans e'
 rw [d] at d'
 cases d'
 exact i.inj i'
theorem bz.keeps {d:Addr} {o:Obj} {es:Array DictEntry} {ep:Nat} (ho:h.get? d=some o) (hd:o.data=.dict es ep) (hs:Heap.SameBut d h h'):∀ {ps:List Pr} {vs:List Value},bz prog w h ps vs->bz prog w h' ps vs
 | _,_,.nil=>.nil
 | _,_,.cons x y=>.cons (x.keeps ho hd hs) (bz.keeps ho hd hs y)
theorem cx.keeps {d:Addr} {o:Obj} {es:Array DictEntry} {ep:Nat} (x:cx prog w h ps a) (ho:h.get? d=some o) (hd:o.data=.dict es ep) (hs:Heap.SameBut d h h'):cx prog w h' ps a:=by
 obtain ⟨o',its,n,e,c,d',i⟩:=x
 refine ⟨o',its,n,(hs.2 a fun z=>?_).trans e,c,d',i.keeps ho hd hs⟩
 subst z
 cases e.symm.trans ho
 rw [hd] at d'; cases d'
theorem bz.tup:∀ {ps:List Pr} {vs:List Value},bz prog w s.heap ps vs->ps.length=vs.length
 | _,_,.nil=>rfl
 | _,_,.cons _ y=>by rw [List.length_cons,List.length_cons,bz.tup y]
theorem uG {Q:Int->Shared->Prop} (hu:A.units + 1 < cLine) (hk:cx prog w s.heap ps a) (q:Q (oF prog w ps) { s with toks:=s.toks + (ps.length * 3 + 1) }):wpAny (model prog w) A (pyHash (.ref a)) Q E s:=by
 have T:=hk.typeIs
 obtain ⟨o,items,n,ho,_,hd,hi⟩:=hk
 unfold pyHash
 first | unfold pyHashByItsType | skip
 first | refine wpAny_bind (wpAny_cRoomFor_or (.inr (Nat.lt_of_succ_lt hu)) ?_) | skip
 refine wpAny_bind (wpAny_specialOf T F.slot_tuple_hash.lookup ?_)
 show wpAny _ _ (if (some (Value.builtin "tuple.__hash__") == some Value.none)=true then _ else _) Q E s
 rw [if_neg (by rw [beq_builtin_none]; decide)]
 refine wpAny_bind (wpAny_specialOf T F.slot_tuple_hash.lookup ?_)
 show wpAny _ _ (callSpecialIfBoundUnlessNone? (.ref a) "__hash__" _ >>= _) Q E s
 refine wpAny_bind (wpAny_callSpecialIfBoundUnlessNone?_slot T F.slot_tuple_hash (wpAny_call_entry F.slot_tuple_hash T F.entry_tuple_hash ?_ (F.args_tuple_hash_1 _)))
 show wpAny _ _ (Builtin.Tuple.tupleItemsOf (.ref a) >>= _) _ _ s
 refine wpAny_bind (wpAny_tupleItemsOf ho hd (wpAny_bind ?_)); rw [<- Array.forIn_toList]
 refine wpAny_forIn_list _ (fun rest (b:Array Int) s'=>∃ dn left,ps=dn ++ left/\bz prog w s.heap left rest/\b.toList=dn.map (fun p=>tupleKeyHash (aF prog w) (prK p))/\s'={ s with toks:=s.toks + dn.length * 3 }) _ ?_ ?_ _ _ ⟨[],ps,rfl,hi,rfl,rfl⟩
 ·rintro x rest b s' ⟨dn,left,rfl,hl,hb,rfl⟩
  cases hl with
  | @cons p c ps' _ h1 hl'=>
   refine wpAny_bind (wpAny_pyHash_tuple (knd:=aF prog w) (s:={ s with toks:=s.toks + dn.length * 3 }) hu h1 ?_)
   have nx:∃ dn' left',dn ++ p :: ps'=dn' ++ left'/\bz prog w s.heap left' rest/\(b.push (tupleKeyHash (aF prog w) (prK p))).toList=dn'.map (fun p=>tupleKeyHash (aF prog w) (prK p))/\({ s with toks:=s.toks + dn.length * 3 + ((prK p).length + 1) }:Shared)={ s with toks:=s.toks + dn'.length * 3 }:=
    ⟨dn ++ [p],ps',by simp,hl',by simp [hb],by rw [List.length_append,List.length_singleton,show (prK p).length=2 from rfl]; congr 1; omega⟩
   first
    | exact wpAny_pure nx
    | exact wpAny_bind (wpAny_pure (wpAny_pure nx))
 ·rintro b s' ⟨dn,left,rfl,hl,hb,rfl⟩
  cases hl
  rw [List.append_nil] at q
  show wpAny _ _ (retInt (Builtin.Tuple.tupleHashOf b.toList)) _ _ _
  rw [hb]
  refine wpAny_ret_mkInt ?_
  show wpAny _ _ (if (decide (-(2:Int) ^ 63<=Builtin.Tuple.tupleHashOf (dn.map fun p=>tupleKeyHash (aF prog w) (prK p))) && decide (Builtin.Tuple.tupleHashOf (dn.map fun p=>tupleKeyHash (aF prog w) (prK p)) < 2 ^ 63))=true then _ else _) Q E _
  unfold oF reduceHash at q
  by_cases c:(decide (-(2:Int) ^ 63<=Builtin.Tuple.tupleHashOf (dn.map fun p=>tupleKeyHash (aF prog w) (prK p))) && decide (Builtin.Tuple.tupleHashOf (dn.map fun p=>tupleKeyHash (aF prog w) (prK p)) < 2 ^ 63))=true
  ·rw [if_pos c] at q ⊢
   exact wpAny_pure (by simpa [Nat.add_assoc] using q)
  ·rw [if_neg c] at q ⊢
   exact wpAny_bind (wpAny_rule (wpAny_pure (by simpa [Nat.add_assoc] using q)))
theorem nX {P:PySem.Fin->Shared->Prop} (hu:A.units < cLine) (hx:cx prog w s.heap ps a) (hy:cx prog w s.heap qs b) (q:P (.done (.ret (.bool (decide (ps=qs))))) s):wpAny (model prog w) A (Builtin.«tuple.__eq__» ⟨[.ref a,.ref b],[]⟩) P E s:=by
 have Tb:=hy.typeIs
 obtain ⟨oa,xs,na,hoa,_,hda,hia⟩:=hx
 obtain ⟨ob,ys,nb,hob,_,hdb,hib⟩:=hy
 show wpAny _ _ (isInstance (.ref b) (.type "tuple") >>= _) _ _ s
 refine wpAny_bind (wpAny_isInstance Tb isSubtype_tuple_tuple ?_); simp only [Bool.not_true,Bool.false_eq_true,if_false]
 refine wpAny_bind (wpAny_tupleItemsOf hoa hda (wpAny_bind (wpAny_tupleItemsOf hob hdb (wpAny_bind ?_))))
 refine wpAny_forIn_list _ (fun rest r s'=>r.1=none/\s'=s/\∃ x' y' xs' ys',rest=List.zip xs' ys'/\bz prog w s.heap x' xs'/\bz prog w s.heap y' ys'/\decide (x'=y')=decide (ps=qs)/\(xs'.length == ys'.length)=(xs.size == ys.size)) _ ?_ ?_ _ _ ⟨rfl,rfl,ps,qs,xs.toList,ys.toList,rfl,hia,hib,rfl,by simp⟩
 ·rintro ⟨u,v⟩ rest r s' ⟨hr,rfl,x',y',xs',ys',hz,hx',hy',hdec,hlen⟩
  cases hx' with
  | nil=>simp at hz
  | @cons p1 c1 x'' xs'' h1 hx''=>
   cases hy' with
   | nil=>simp at hz
   | @cons p2 c2 y'' ys'' h2 hy''=>
    simp only [List.zip_cons_cons,List.cons.injEq,Prod.mk.injEq] at hz
    obtain ⟨⟨rfl,rfl⟩,rfl⟩:=hz
    refine wpAny_bind (wpAny_eqBool_tuple (knd:=aF prog w) hu h1 h2 ?_)
    by_cases hk:p1=p2
    ·subst hk
     rw [decide_eq_true rfl]
     simp only [Bool.not_true,Bool.false_eq_true,if_false]
     refine wpAny_pure ⟨rfl,rfl,x'',y'',xs'',ys'',rfl,hx'',hy'',?_,by simpa using hlen⟩
     rw [<- hdec]
     by_cases hxy:x''=y'' <;> simp [hxy]
    ·rw [decide_eq_false (fun z=>hk (lq z))]
     simp only [Bool.not_false,if_true]
     have hf:decide (ps=qs)=false:=by rw [<- hdec]; simp [hk]
     rw [hf] at q
     exact wpAny_bind (wpAny_pure (wpAny_pure (wpAny_pure q)))
 ·rintro ⟨r1,r2⟩ s' ⟨hr,rfl,x',y',xs',ys',hz,hx',hy',hdec,hlen⟩
  obtain rfl:r1=none:=hr
  refine wpAny_pure ?_
  have hfin:(xs.size == ys.size)=decide (ps=qs):=by
   rw [<- hdec,<- hlen]
   cases hx' with
   | nil=>cases hy' <;> simp
   | cons _ _=>
    cases hy' with
    | nil=>simp
    | cons _ _=>simp at hz
  show P (.done (.ret (.bool (xs.size == ys.size)))) s'
  rw [hfin]; exact q
theorem vH {Q:Bool->Shared->Prop} (hu:A.units + 1 < cLine) (hx:cx prog w s.heap ps a) (hy:cx prog w s.heap qs b) (q:Q (decide (ps=qs)) s):wpAny (model prog w) A (eqBool (.ref a) (.ref b)) Q E s:=by
 unfold eqBool
 try with_reducible refine wpAny_holding ?_
 show wpAny _ _ (if (Value.ref a == Value.ref b)=true then _ else _) Q E s
 by_cases hab:(Value.ref a == Value.ref b)=true
 ·rw [if_pos hab]
  have e:a=b:=by have:=eq_of_beq hab; injection this
  subst e
  cases hx.inj hy
  exact wpAny_bind (wpAny_rule (wpAny_pure (by simpa using q)))
 ·rw [if_neg hab]
  exact wpAny_bind (wpAny_richCompare_same_room (op:=.Eq) hx.typeIs hy.typeIs F.slot_tuple_eq (wpAny_call_entry F.slot_tuple_eq hx.typeIs F.entry_tuple_eq (nX hu hx hy ⟨_,rfl,nofun,wpAny_truthy_bool q⟩) (F.args_tuple_eq_2 _ _)) (Nat.lt_of_succ_lt hu))
theorem oq {ks:List Key} {n:Nat} {Q:Bool->Shared->Prop} (hk:IsTupleKey (aF prog w) s.heap ks a) (q:Q true s):wpAny (model prog w) A (eqIsQuiet (n + 1) (.ref a)) Q E s:=by
 have T:=hk.typeIs
 obtain ⟨o,items,m,ho,_,hd,hi⟩:=hk
 unfold eqIsQuiet
 refine wpAny_bind (wpAny_specialOf T F.slot_tuple_eq.lookup ?_)
 show wpAny _ _ (isInstance (.ref a) (.type "tuple") >>= _) _ _ s
 refine wpAny_bind (wpAny_isInstance T isSubtype_tuple_tuple ?_); simp only [Bool.not_true,Bool.false_eq_true,if_false]
 refine wpAny_bind (wpAny_seqItems ho hd (wpAny_bind ?_)); show wpAny _ _ (forIn items _ _) _ _ s
 rw [<- Array.forIn_toList]
 refine wpAny_forIn_list _ (fun rest r s'=>r.1=none/\s'=s/\∀ v∈rest,carriedByValue v=true) _ ?_ ?_ _ _ ⟨rfl,rfl,hi.byValue⟩
 ·rintro v rest r s' ⟨hr,rfl,all⟩
  rw [eqIsQuiet_byValue _ (all v List.mem_cons_self)]
  refine wpAny_bind (wpAny_pure ?_); simp only [Bool.not_true,Bool.false_eq_true,if_false]
  exact wpAny_pure ⟨rfl,rfl,fun u hu=>all u (List.mem_cons_of_mem _ hu)⟩
 ·rintro ⟨r1,r2⟩ s' ⟨hr,rfl,_⟩
  obtain rfl:r1=none:=hr
  exact wpAny_pure q
theorem tK {Q:Bool->Shared->Prop} (hk:cx prog w s.heap ps a) (q:Q true s):wpAny (model prog w) A (eqIsQuiet 8 (.ref a)) Q E s:=by
 have T:=hk.typeIs
 obtain ⟨o,items,m,ho,_,hd,hi⟩:=hk
 unfold eqIsQuiet
 refine wpAny_bind (wpAny_specialOf T F.slot_tuple_eq.lookup ?_)
 show wpAny _ _ (isInstance (.ref a) (.type "tuple") >>= _) _ _ s
 refine wpAny_bind (wpAny_isInstance T isSubtype_tuple_tuple ?_); simp only [Bool.not_true,Bool.false_eq_true,if_false]
 refine wpAny_bind (wpAny_seqItems ho hd (wpAny_bind ?_)); show wpAny _ _ (forIn items _ _) _ _ s
 rw [<- Array.forIn_toList]
 refine wpAny_forIn_list _ (fun rest r s'=>r.1=none/\s'=s/\∃ x',bz prog w s.heap x' rest) _ ?_ ?_ _ _ ⟨rfl,rfl,ps,hi⟩
 ·rintro v rest r s' ⟨hr,rfl,x',all⟩
  cases all with
  | @cons p c x'' _ h1 all'=>
   refine wpAny_bind (oq (n:=6) h1 ?_); simp only [Bool.not_true,Bool.false_eq_true,if_false]
   exact wpAny_pure ⟨rfl,rfl,x'',all'⟩
 ·rintro ⟨r1,r2⟩ s' ⟨hr,rfl,_⟩
  obtain rfl:r1=none:=hr
  exact wpAny_pure q
end
def fm (prog:Program) (w:World):HeapKind prog w (List Pr) where
 is:=cx prog w
 hash:=oF prog w
 draws:=fun ps=>ps.length * 3 + 1
 room:=fun A=>A.units + 1 < cLine
 inj:=fun x y=>x.inj y
 keeps:=fun x a b c=>x.keeps a b c
 pyHash:=fun a b c=>uG a b c
 eqBool:=fun a b c d=>vH a b c d
 quiet:=fun a b=>tK a b
open PySem PySem.Spec PyProof.Rows PySem.W PySem.Calls
def DE (h:Heap) (d:Addr) (es:Array DictEntry) (ep:Nat):Prop:=∃ o,h.get? d=some o/\o.ExactDict/\o.data=.dict es ep
theorem DE.at {h h':Heap} {d:Addr} {es:Array DictEntry} {ep:Nat} (x:DE h d es ep) (k:∀ o,h.get? d=some o->h'.get? d=some o):DE h' d es ep:=let ⟨o,e,r⟩:=x; ⟨o,k o e,r⟩
theorem DE.lt {h:Heap} {d:Addr} {es:Array DictEntry} {ep:Nat} (x:DE h d es ep):d < h.objs.size:=let ⟨_,e,_⟩:=x; Heap.lt_size e
abbrev IR (h:Heap) (t d:Addr) (i n ep:Nat) (f0 f1 ok ov:Value):Prop:=
 h.get? t=some { cls:=.type "dict_itemiterator",dict:=none,data:=.fields #[f0,f1,.ref d,.int i 0,.int n 0,.int ep 0,ok,ov],slots:=#[] }
def ItS (h:Heap) (t d:Addr) (i n ep:Nat):Prop:=∃ f0 f1 ok ov,IR h t d i n ep f0 f1 ok ov/\((f0=.none/\f1=.bool false)\/∃ (a:Addr) (oa:Obj) (f:Bool),f0=rawInt a/\f1=.bool f/\h.get? a=some oa/\a≠t)
section
variable {prog:Program} {w:World} {A:Around} {E:Value->Shared->Prop} {s:Shared} {t d v:Addr} {es:Array DictEntry} {i ep:Nat}
theorem nR {Q:Value->Shared->Prop} (hv:s.heap.IsItemsView v d) (hm:DE s.heap d es ep) (q:Q (.ref s.heap.objs.size) { s with heap:=s.heap.push { cls:=.type "dict_itemiterator",data:=.fields #[.none,.bool false,.ref d,.int 0 0,.int es.size 0,.int ep 0,.none,.none] } }) :
  wpAny (model prog w) A (pyIter (.ref v)) Q E s:=by
 obtain ⟨o1,e1,_,d1⟩:=id hv
 obtain ⟨o2,e2,_,d2⟩:=hm
 refine wpAny_pyIter_slot hv.typeIs F.slot_dict_items_iter (wpAny_call_entry F.slot_dict_items_iter hv.typeIs F.entry_dict_items_iter ?_ (F.args_dict_items_iter_1 _))
 unfold Builtin.«dict_items.__iter__»; refine wpAny_bind (wpAny_pure (wpAny_bind ?_)); unfold Builtin.Dict_items.dictOf
 refine wpAny_bind (wpAny_field e1 d1 (x:=.ref d) rfl (wpAny_pure (wpAny_bind ?_))); unfold Builtin.Dict_items.newIterator
 refine wpAny_bind (wpAny_dictEntries e2 d2 (wpAny_bind (wpAny_dictEpoch e2 d2 ?_)))
 simp only [show Builtin.Dict_items.ownsTuple "dict_itemiterator"=true by decide,if_true]
 refine wpAny_newObj_type (wpAny_pure ⟨_,rfl,"dict_itemiterator",_,⟨_,Heap.get?_push_size _ rfl,rfl⟩,F.slot_dict_itemiterator_next.lookup,?_⟩) (by simp only [sizeOk,Builtin.Dict_items.ownedTupleFields,List.size_toArray,List.length_append,List.length_cons,List.length_nil,sizeLine_eq]; omega)
 simpa [rawInt,Builtin.Dict_items.ownedTupleFields] using q
theorem oE {e:DictEntry} {Q:Option Value->Shared->Prop} (st:ItS s.heap t d i es.size ep) (hm:DE s.heap d es ep) (hx:es[i]?=some e)
  (q:∀ h',ItS h' t d (i + 1) es.size ep->h'.get? s.heap.objs.size=some { cls:=.type "tuple",data:=.seq #[e.key,e.val] }->h'.objs.size=s.heap.objs.size + 1->(∀ b o,b≠t->s.heap.get? b=some o->h'.get? b=some o)->Q (some (.ref s.heap.objs.size)) { s with heap:=h' }) :
  wpAny (model prog w) A (pyNext (.ref t)) Q E s:=by
 obtain ⟨f0,f1,ok,ov,hit,al⟩:=st
 obtain ⟨hp,g,dr,tk,os⟩:=s
 obtain ⟨od,e2,_,d2⟩:=hm
 have T:Shared.TypeIs ⟨hp,g,dr,tk,os⟩ (.ref t) "dict_itemiterator":=⟨_,hit,rfl⟩
 obtain ⟨hi,ei⟩:=Array.getElem?_eq_some_iff.mp hx
 unfold pyNext
 refine wpAny_bind (wpAny_attempt (wpAny_callSpecial?_slot (name:=Str.ofString "__next__") T F.slot_dict_itemiterator_next (wpAny_call_entry F.slot_dict_itemiterator_next T F.entry_dict_itemiterator_next ?_ (F.args_dict_itemiterator_next_1 _))))
 refine wpAny_bind (wpAny_pure (wpAny_bind (wpAny_bind ?_)))
 first | refine wpAny_bind (wpAny_typeNameOfWhole_itemiter T (wpAny_pure ?_)) | refine wpAny_bind (wpAny_typeNameOf_itemiter T (wpAny_pure ?_))
 refine wpAny_bind (wpAny_fieldsOf hit rfl ?_); simp only [show Builtin.Dict_items.ownsTuple "dict_itemiterator"=true by decide,if_true]
 show wpAny _ _ (if (Value.ref d == Value.none)=true then _ else _) _ _ _; rw [if_neg (show ¬ ((Value.ref d == Value.none)=true) by intro z; cases z)]
 refine wpAny_bind (wpAny_pure (wpAny_bind (wpAny_dictEntries e2 d2 ?_))); rw [if_neg (by simp)]
 refine wpAny_bind (wpAny_pure (wpAny_bind (wpAny_dictEpoch e2 d2 ?_))); rw [if_neg (by simp)]; refine wpAny_pure ?_
 simp only [show ¬ ((i:Int) < 0) by omega,if_false,Int.toNat_natCast,hx]; refine wpAny_bind ?_
 first | refine wpAny_bind (wpAny_typeNameOfWhole_itemiter T (wpAny_pure ?_)) | refine wpAny_bind (wpAny_typeNameOf_itemiter T (wpAny_pure ?_))
 refine wpAny_bind (wpAny_isOneOf_itemiter T ?_); show wpAny _ _ (setField (.ref t) 3 (rawInt ((i:Int) + 1)) >>= _) _ _ ⟨hp,g,dr,tk,os⟩
 refine wpAny_bind (wpAny_setField_rec hit (by simp) fun h1 i1 s1=>?_)
 replace s1:Heap.SameBut t hp h1:=s1
 replace i1:IR h1 t d (i + 1) es.size ep f0 f1 ok ov:=by
  have c:((i + 1:Nat):Int)=(i:Int) + 1:=by omega
  unfold IR; rw [c]; simpa [rawInt] using i1
 have T1:Shared.TypeIs ⟨h1,g,dr,tk,os⟩ (.ref t) "dict_itemiterator":=⟨_,i1,rfl⟩
 refine wpAny_bind (wpAny_holding (wpAny_bind (wpAny_isOneOf_itemiter T1 (wpAny_bind (wpAny_isOneOf_itemiter T1 ?_)))))
 show wpAny _ _ (Builtin.Dict_items.pairFromOwner (.ref t) 6 e.key e.val) _ _ ⟨h1,g,dr,tk,os⟩
 unfold Builtin.Dict_items.pairFromOwner; refine wpAny_bind (wpAny_newTuple ?_)
 have i2:IR (h1.push { cls:=.type "tuple",data:=.seq #[e.key,e.val] }) t d (i + 1) es.size ep f0 f1 ok ov:=Heap.get?_push_of_some _ i1
 generalize e2':h1.push { cls:=.type "tuple",data:=.seq #[e.key,e.val] }=h2 at i2
 have z1:h1.objs.size=hp.objs.size:=s1.1
 have tl:t < hp.objs.size:=Heap.lt_size hit
 have t2:h2.get? hp.objs.size=some { cls:=.type "tuple",data:=.seq #[e.key,e.val] }:=by rw [<- e2',<- z1]; exact Heap.get?_push_size _ rfl
 have z2:h2.objs.size=hp.objs.size + 1:=by rw [<- e2',Heap.size_push,z1]
 have k2:∀ b o,b≠t->hp.get? b=some o->h2.get? b=some o:=fun b o hb x=>by rw [<- e2']; exact Heap.get?_push_of_some _ (s1.extBut b o hb x)
 show wpAny _ _ (Builtin.Dict_items.ownedTupleIsFree (.ref t) >>= _) _ _ ⟨h2,g,dr,tk,os⟩; rw [z1]
 clear e2' i1 s1 T1 z1 h1
 have fin:∀ h3:Heap,ItS h3 t d (i + 1) es.size ep->Heap.SameBut t h2 h3->Q (some (.ref hp.objs.size)) ⟨h3,g,dr,tk,os⟩:=fun h3 st3 s3=>
  q h3 st3 (s3.extBut _ _ (Nat.ne_of_gt tl) t2) (by show h3.objs.size=hp.objs.size + 1; rw [s3.1,z2]) fun b o hb x=>s3.extBut b o hb (k2 b o hb x)
 refine wpAny_bind ?_; unfold Builtin.Dict_items.ownedTupleIsFree
 rcases al with ⟨rfl,rfl⟩ | ⟨a,oa,f,rfl,rfl,ha,hat⟩
 ·refine wpAny_bind (wpAny_field i2 rfl (x:=.none) rfl (wpAny_pure ?_)); simp only [if_true]
  refine wpAny_bind (wpAny_field i2 rfl (x:=ok) rfl (wpAny_bind (wpAny_field i2 rfl (x:=ov) rfl ?_)))
  refine wpAny_bind (wpAny_setField_rec i2 (by simp) fun h3 i3 s3=>?_)
  replace s3:Heap.SameBut t h2 h3:=s3
  replace i3:IR h3 t d (i + 1) es.size ep .none (.bool false) e.key ov:=i3
  refine wpAny_bind (wpAny_setField_rec i3 (by simp) fun h4 i4 s4=>?_)
  replace s4:Heap.SameBut t h3 h4:=s4
  replace i4:IR h4 t d (i + 1) es.size ep .none (.bool false) e.key e.val:=i4
  refine wpAny_bind (wpAny_setField_rec i4 (by simp) fun h5 i5 s5=>?_)
  replace s5:Heap.SameBut t h4 h5:=s5
  replace i5:IR h5 t d (i + 1) es.size ep (rawInt hp.objs.size) (.bool false) e.key e.val:=i5
  refine wpAny_bind (wpAny_setField_rec i5 (by simp) fun h6 i6 s6=>?_)
  replace s6:Heap.SameBut t h5 h6:=s6
  replace i6:IR h6 t d (i + 1) es.size ep (rawInt hp.objs.size) (.bool false) e.key e.val:=i6
  have sa:Heap.SameBut t h2 h6:=⟨by rw [s6.1,s5.1,s4.1,s3.1],fun b hb=>by rw [s6.2 b hb,s5.2 b hb,s4.2 b hb,s3.2 b hb]⟩
  exact wpAny_bind (wpAny_letGo (wpAny_pure (wpAny_pure ⟨_,rfl,wpAny_pure (fin h6 ⟨_,_,_,_,i6,.inr ⟨_,_,_,rfl,rfl,sa.extBut _ _ (Nat.ne_of_gt tl) t2,Nat.ne_of_gt tl⟩⟩ sa)⟩)))
 ·have a2:h2.get? a=some oa:=k2 a oa hat ha
  refine wpAny_bind (wpAny_field i2 rfl (x:=rawInt a) rfl ?_); show wpAny _ _ (loadIfAlive ((a:Int).toNat) >>= _) _ _ _
  rw [Int.toNat_natCast]; refine wpAny_bind (kdx_alive a2 ?_); simp only [Option.isNone_some,Bool.false_eq_true,if_false]
  refine wpAny_bind (wpAny_field i2 rfl (x:=.bool f) rfl ?_)
  cases f with
  | true=>
   rw [if_neg (show ¬ ((Value.bool true != Value.bool true)=true) by decide)]; refine wpAny_pure ?_; simp only [Bool.false_eq_true,if_false]
   exact wpAny_pure (wpAny_pure ⟨_,rfl,wpAny_pure (fin h2 ⟨_,_,_,_,i2,.inr ⟨a,oa,_,rfl,rfl,a2,hat⟩⟩ (Heap.SameBut.refl _ _))⟩)
  | false=>
   rw [if_pos (show (Value.bool false != Value.bool true)=true from rfl)]
   refine wpAny_bind (wpAny_setField_rec i2 (by simp) fun h3 i3 s3=>?_)
   replace s3:Heap.SameBut t h2 h3:=s3
   replace i3:IR h3 t d (i + 1) es.size ep (rawInt a) (.bool true) ok ov:=i3
   refine wpAny_pure ?_; simp only [Bool.false_eq_true,if_false]
   exact wpAny_pure (wpAny_pure ⟨_,rfl,wpAny_pure (fin h3 ⟨_,_,_,_,i3,.inr ⟨a,oa,_,rfl,rfl,s3.extBut _ _ hat a2,hat⟩⟩ s3)⟩)
theorem qN {Q:Option Value->Shared->Prop} (hh:A.handled=none) (st:ItS s.heap t d i es.size ep) (hm:DE s.heap d es ep) (hx:es[i]?=none) (q:∀ h',Heap.ExtBut t s.heap h'->Q none { s with heap:=h' }):wpAny (model prog w) A (pyNext (.ref t)) Q E s:=by
 obtain ⟨f0,f1,ok,ov,hit,_⟩:=st
 obtain ⟨od,e2,_,d2⟩:=hm
 have T:s.TypeIs (.ref t) "dict_itemiterator":=⟨_,hit,rfl⟩
 unfold pyNext
 refine wpAny_bind (wpAny_attempt (wpAny_callSpecial?_slot (name:=Str.ofString "__next__") T F.slot_dict_itemiterator_next (wpAny_call_entry F.slot_dict_itemiterator_next T F.entry_dict_itemiterator_next ?_ (F.args_dict_itemiterator_next_1 _))))
 refine wpAny_bind (wpAny_pure (wpAny_bind (wpAny_bind ?_)))
 first | refine wpAny_bind (wpAny_typeNameOfWhole_itemiter T (wpAny_pure ?_)) | refine wpAny_bind (wpAny_typeNameOf_itemiter T (wpAny_pure ?_))
 refine wpAny_bind (wpAny_fieldsOf hit rfl ?_); simp only [show Builtin.Dict_items.ownsTuple "dict_itemiterator"=true by decide,if_true]
 show wpAny _ _ (if (Value.ref d == Value.none)=true then _ else _) _ _ s; rw [if_neg (show ¬ ((Value.ref d == Value.none)=true) by intro z; cases z)]
 refine wpAny_bind (wpAny_pure (wpAny_bind (wpAny_dictEntries e2 d2 ?_))); rw [if_neg (by simp)]
 refine wpAny_bind (wpAny_pure (wpAny_bind (wpAny_dictEpoch e2 d2 ?_))); rw [if_neg (by simp)]; refine wpAny_pure ?_
 simp only [show ¬ ((i:Int) < 0) by omega,if_false,Int.toNat_natCast,hx]; refine wpAny_bind ?_
 first | refine wpAny_bind (wpAny_typeNameOfWhole_itemiter T (wpAny_pure ?_)) | refine wpAny_bind (wpAny_typeNameOf_itemiter T (wpAny_pure ?_))
 show wpAny _ _ (setField (.ref t) 2 .none >>= _) _ _ s; refine wpAny_bind (wpAny_setField hit rfl (by simp) ?_)
 show wpAny _ _ (newExc (.type "StopIteration") [] >>= _) _ _ _; refine wpAny_bind ?_; simp only [newExc,newTuple]
 refine wpAny_bind (wpAny_newObj_type ?_ (by size_fits)); refine wpAny_bind (m:=firstArgMember _ _) (wpAny_of_eq (a:=Value.none) (by first | rfl | (simp only [firstArgMember]; rfl)) ?_)
 refine wpAny_newObj_type ?_ (by size_fits); simp only [raiseNew]
 refine wpAny_bind (wpAny_handled ?_); rw [show A.in1.handled=none from hh]; refine wpAny_bind (wpAny_pure (wpAny_throw ?_))
 exact wpAny_bind (wpAny_isInstance (T:="StopIteration") (b:=true) ⟨_,Heap.get?_push_size _ rfl,rfl⟩ isSubtype_stop (wpAny_pure (q _ (((Heap.SameBut.update ..).extBut.push _).push _))))
end
theorem ItS.keep {h h':Heap} {t d S:Addr} {i n ep:Nat} (x:ItS h t d i n ep) (k:∀ b o,b≠S->h.get? b=some o->h'.get? b=some o) (hs:∃ o,h'.get? S=some o) (ht:t≠S):ItS h' t d i n ep:=by
 obtain ⟨f0,f1,ok,ov,ir,al⟩:=x
 refine ⟨f0,f1,ok,ov,k _ _ ht ir,?_⟩
 rcases al with al | ⟨a,oa,f,e1,e2,ha,hat⟩
 ·exact .inl al
 ·by_cases z:a=S
  ·obtain ⟨o,ho⟩:=hs
   exact .inr ⟨a,o,f,e1,e2,by rw [z]; exact ho,hat⟩
  ·exact .inr ⟨a,oa,f,e1,e2,k _ _ z ha,hat⟩
structure ItG (es:Array DictEntry) (lo:Addr) (h:Heap) (as:List Addr):Prop where
 rise:as.Pairwise (· < ·)
 above:∀ a∈as,lo < a
 pairs:∀ (j:Nat) (a:Addr),as[j]?=some a->∃ e,es[j]?=some e/\h.get? a=some { cls:=.type "tuple",data:=.seq #[e.key,e.val] }
theorem ItG.lt {es:Array DictEntry} {lo:Addr} {h:Heap} {as:List Addr} (g:ItG es lo h as) {a:Addr} (ha:a∈as):a < h.objs.size:=by
 obtain ⟨j,hj⟩:=List.mem_iff_getElem?.mp ha
 obtain ⟨_,_,e⟩:=g.pairs j a hj
 exact Heap.lt_size e
section
variable {prog:Program} {w:World} {A:Around} {s:Shared} {R:Result->Shared->Prop} {es:Array DictEntry} {ep:Nat}
theorem iO {S I d:Addr} (hh:A.handled=none) (hSI:S < I) (hSd:d≠S) (hId:d≠I) (hn:es.size<=sizeLine) (res:Value) {h1:Heap}
  (q:∀ h' tk acc c as,(∀ b o,b≠S->b≠I->h1.get? b=some o->h'.get? b=some o)->h'.get? S=some { cls:=.type "list",dict:=none,data:=.seq acc c,slots:=#[] }->as.length=es.size->ItG es I h' as->acc.toList=as.map Value.ref->R (.ok (.ret res)) { s with heap:=h',toks:=tk }) :
  ∀ (k i:Nat) (h:Heap) (tk c:Nat) (acc:Array Value) (as:List Addr),es.size - i=k->i<=es.size->ItS h I d i es.size ep->DE h d es ep->(∀ b o,b≠S->b≠I->h1.get? b=some o->h.get? b=some o) ->
   h.get? S=some { cls:=.type "list",dict:=none,data:=.seq acc c,slots:=#[] }->acc.toList=as.map Value.ref->as.length=i->ItG es I h as->I < h.objs.size ->
   codeAny (model prog w) A (.builtin "list.extend.loop" ⟨[.ref S,.ref I,res],[]⟩) R { s with heap:=h,toks:=tk }
 | 0,i,h,tk,c,acc,as,hk,hi,st,D,kp,hS,ea,la,G,lI=>by
  have ne:S≠I:=Nat.ne_of_lt hSI
  refine codeAny_builtin PySem.F.entry_extend_loop ?_; rw [Around.under_plainId PySem.F.plain_extend_loop _]
  show wpAny _ A.in1 (pyNext (.ref I) >>= _) _ _ _; refine wpAny_bind (qN (s:={ s with heap:=h,toks:=tk }) (A:=A.in1) hh st D (Array.getElem?_eq_none (by omega)) fun h' x=>?_)
  refine wpAny_pure (q h' tk acc c as (fun b o a1 a2 e=>x b o a2 (kp b o a1 a2 e)) (x S _ ne hS) (by omega) ⟨G.rise,G.above,fun j a hj=>?_⟩ ea)
  obtain ⟨e,e1,e2⟩:=G.pairs j a hj
  exact ⟨e,e1,x a _ (Nat.ne_of_gt (G.above a (List.mem_of_getElem? hj))) e2⟩
 | k + 1,i,h,tk,c,acc,as,hk,hi,st,D,kp,hS,ea,la,G,lI=>by
  have ne:S≠I:=Nat.ne_of_lt hSI
  have lt:i < es.size:=by omega
  have sz:acc.size=i:=by rw [<- Array.length_toList,ea,List.length_map,la]
  have lS:S < h.objs.size:=Heap.lt_size hS
  refine codeAny_builtin PySem.F.entry_extend_loop ?_; rw [Around.under_plainId PySem.F.plain_extend_loop _]
  show wpAny _ A.in1 (pyNext (.ref I) >>= _) _ _ _; refine wpAny_bind (oE (s:={ s with heap:=h,toks:=tk }) (e:=es[i]) st D (Array.getElem?_eq_getElem lt) fun h' st' ht hz hkp=>?_)
  dsimp only at ht hz hkp ⊢
  have hS':=hkp S _ ne hS
  have up:∀ b o,b≠S->h'.get? b=some o->(h'.update S (Obj.mapSeq (·.push (Value.ref h.objs.size)))).get? b=some o:=fun b o hb e=>(Heap.get?_update_other _ _ (Ne.symm hb)).trans e
  have us:=Heap.get?_update_self (Obj.mapSeq (·.push (Value.ref h.objs.size))) hS' rfl
  show wpAny _ A.in1 (updateSeq S (·.push (Value.ref h.objs.size)) >>= _) _ _ _; refine wpAny_bind ?_
  refine wpAny_updateSeq hS' rfl (wpAny_pure ⟨plainId_quiet PySem.F.plain_extend_loop _,iO hh hSI hSd hId hn res q k (i + 1) _ tk _ (acc.push (Value.ref h.objs.size)) (as ++ [h.objs.size]) (by omega) lt (st'.keep up ⟨_,us⟩ (Ne.symm ne)) (D.at fun o e=>up d o hSd (hkp d o hId e))
   (fun b o a1 a2 e=>up b o a1 (hkp b o a2 (kp b o a1 a2 e))) us (by rw [Array.toList_push,ea,List.map_append]; rfl) (by rw [List.length_append,la]; rfl) ⟨?_,?_,?_⟩ ?_⟩) (by rw [sz]; omega) (by show (acc.push (Value.ref h.objs.size)).size<=sizeLine + 1; rw [Array.size_push,sz]; omega)
  ·refine List.pairwise_append.mpr ⟨G.rise,List.pairwise_singleton _ _,fun a ha b hb=>?_⟩
   rw [List.mem_singleton.mp hb]; exact G.lt ha
  ·intro a ha
   rcases List.mem_append.mp ha with ha | ha
   ·exact G.above a ha
   ·rw [List.mem_singleton.mp ha]; exact lI
  ·intro j b hj
   by_cases h1:j < as.length
   ·rw [List.getElem?_append_left h1] at hj
    obtain ⟨e,e1,e2⟩:=G.pairs j b hj
    have hb:=G.above b (List.mem_of_getElem? hj)
    exact ⟨e,e1,up b _ (Nat.ne_of_gt (Nat.lt_trans hSI hb)) (hkp b _ (Nat.ne_of_gt hb) e2)⟩
   ·have h2:=(List.getElem?_eq_some_iff.mp hj).1
    rw [List.length_append,List.length_singleton] at h2
    obtain rfl:j=as.length:=by omega
    obtain rfl:h.objs.size=b:=by simpa using hj
    exact ⟨es[i],by rw [la]; exact Array.getElem?_eq_getElem lt,up _ _ (Nat.ne_of_gt lS) ht⟩
  ·have e:(h'.update S (Obj.mapSeq (·.push (Value.ref h.objs.size)))).get? h.objs.size=_:=up _ _ (Nat.ne_of_gt lS) ht
   exact Nat.lt_trans lI (Heap.lt_size e)
end
section
variable {prog:Program} {w:World} {A:Around} {E:Value->Shared->Prop} {s:Shared} {r d:Addr} {es:Array DictEntry} {ep:Nat}
theorem jX {R:Result->Shared->Prop} (hh:A.handled=none) (hv:s.heap.IsItemsView r d) (hm:DE s.heap d es ep) (S:Addr) (hSr:S≠r) (hSd:d≠S) (res:Value) (c0:Nat) (hS:s.heap.get? S=some { cls:=.type "list",data:=.seq #[] c0 })
  (q:∀ h' tk acc c as,(∀ b o,b≠S->s.heap.get? b=some o->h'.get? b=some o)->h'.get? S=some { cls:=.type "list",dict:=none,data:=.seq acc c,slots:=#[] }->as.length=es.size->ItG es s.heap.objs.size h' as->acc.toList=as.map Value.ref->R (.ok (.ret res)) { s with heap:=h',toks:=tk }) (hn:es.size<=sizeLine) :
  wpAny (model prog w) A.in1 (Builtin.List.listExtendWith (.ref S) (.ref r) res) (fun fin s'=>match fin with | .done f=>R (.ok f) s' | .again c'=>c'.quiet=true/\codeAny (model prog w) A c' R s') (fun e s'=>R (.error e) s') s:=by
 have lS:S < s.heap.objs.size:=Heap.lt_size hS
 have go:∀ (h:Heap) (c1 tk:Nat),(∀ b o,b≠S->(s.heap.push { cls:=.type "dict_itemiterator",data:=.fields #[.none,.bool false,.ref d,.int 0 0,.int es.size 0,.int ep 0,.none,.none] }).get? b=some o->h.get? b=some o)->h.get? S=some { cls:=.type "list",data:=.seq #[] c1 } ->
   codeAny (model prog w) A (.builtin "list.extend.loop" ⟨[.ref S,.ref s.heap.objs.size,res],[]⟩) R { s with heap:=h,toks:=tk }:=fun h c1 tk hk hS1=>by
  have hI:=hk s.heap.objs.size _ (Nat.ne_of_gt lS) (Heap.get?_push_size _ rfl)
  exact iO (ep:=ep) (s:=s) (h1:=s.heap) hh lS hSd (Nat.ne_of_lt hm.lt) hn res (fun h' tk' acc c as k' a1 a2 a3 a4=>q h' tk' acc c as (fun b o hb e=>k' b o hb (Nat.ne_of_lt (Heap.lt_size e)) e) a1 a2 a3 a4)
   es.size 0 h tk c1 #[] [] (Nat.sub_zero _) (Nat.zero_le _) ⟨_,_,_,_,hI,.inl ⟨rfl,rfl⟩⟩ (hm.at fun o e=>hk d o hSd (Heap.get?_push_of_some _ e)) (fun b o hb _ e=>hk b o hb (Heap.get?_push_of_some _ e)) hS1 rfl rfl ⟨List.Pairwise.nil,(fun _ z=>nomatch z),(fun j a hj=>by simp at hj)⟩ (Heap.lt_size hI)
 unfold Builtin.List.listExtendWith; refine wpAny_bind (wpAny_typeOf (T:="dict_items") hv.typeIs ?_)
 simp only [show Builtin.List.listSameRef (.ref S) (.ref r)=false by simp [Builtin.List.listSameRef,hSr],show (Value.type "dict_items" == Value.type "list")=false by decide,show (Value.type "dict_items" == Value.type "tuple")=false by decide,Bool.or_false,Bool.false_eq_true,if_false]
 refine wpAny_bind (nR hv hm ?_)
 have hS1:=Heap.get?_push_of_some { cls:=.type "dict_itemiterator",data:=.fields #[.none,.bool false,.ref d,.int 0 0,.int es.size 0,.int ep 0,.none,.none] } hS
 refine wpAny_bind (wpAny_holding (kdx_hint (let ⟨o,x,y,_⟩:=hv; ⟨o,Heap.get?_push_of_some _ x,y⟩) ?_))
 refine wpAny_ite_split (fun _=>?_) (fun _=>wpAny_pure ⟨plainId_quiet PySem.F.plain_extend_loop _,go _ c0 _ (fun b o _ e=>e) hS1⟩)
 refine wpAny_bind (wpAny_rule (wpAny_bind ?_)); show wpAny _ _ (updateSeq S (·.push .none) >>= fun _=>updateSeq S (·.pop)) _ _ _
 refine wpAny_bind (wpAny_updateSeq hS1 rfl ?_)
 have hS2:=Heap.get?_update_self (Obj.mapSeq (·.push Value.none)) hS1 rfl
 refine wpAny_updateSeq (hz:=by seq_fits) hS2 rfl (wpAny_pure ⟨plainId_quiet PySem.F.plain_extend_loop _,go _ _ _ (fun b o hb e=>?_) (Heap.get?_update_self (Obj.mapSeq (·.pop)) hS2 rfl)⟩)
 exact (Heap.get?_update_other _ _ (Ne.symm hb)).trans ((Heap.get?_update_other _ _ (Ne.symm hb)).trans e)
theorem jf {R:List Value->Shared->Prop} (hh:A.handled=none) (hv:s.heap.IsItemsView r d) (hm:DE s.heap d es ep) (hn:es.size<=sizeLine)
  (q:∀ (h':Heap) (tk:Nat) (as:List Addr),(∀ b o,s.heap.get? b=some o->h'.get? b=some o)->as.length=es.size->ItG es s.heap.objs.size h' as->R (as.map Value.ref) { s with heap:=h',toks:=tk }):wpAny (model prog w) A (collect (.ref r)) R E s:=by
 have lr:r < s.heap.objs.size:=let ⟨_,ho,_⟩:=hv; Heap.lt_size ho
 unfold collect; refine wpAny_bind (wpAny_runValue (codeAny_builtin entry_proto_collect' ?_)); rw [Around.under_plainId PySem.F.plain_proto_collect _]
 show wpAny _ A.in1 (newList [] >>= fun l=>again (.builtin "list.__iadd__" ⟨[l,.ref r],[]⟩)) _ _ s; refine wpAny_bind (wpAny_newObj_type ?_)
 refine wpAny_pure ⟨plainId_quiet PySem.F.plain_list_iadd _,codeAny_builtin entry_list_iadd' ?_⟩; rw [Around.under_plainId PySem.F.plain_list_iadd _]
 have hS1:(s.heap.push { cls:=.type "list",data:=.seq ([]:List Value).toArray }).get? s.heap.objs.size=some { cls:=.type "list",data:=.seq #[] }:=Heap.get?_push_size _ rfl
 show wpAny _ A.in1 (Builtin.List.listExtendWith (.ref s.heap.objs.size) (.ref r) (.ref s.heap.objs.size)) _ _ _
 have key:=jX (A:=A) (s:={ s with heap:=s.heap.push { cls:=.type "list",data:=.seq ([]:List Value).toArray } }) (es:=es) (ep:=ep) (prog:=prog) (w:=w)
  (R:=fun (c:Result) (s':Shared)=>∃ (h':Heap) (tk:Nat) (acc':Array Value) (c':Nat) (as:List Addr),c=.ok (.ret (.ref s.heap.objs.size))/\s'={ s with heap:=h',toks:=tk }/\(∀ b o,s.heap.get? b=some o->h'.get? b=some o)/\h'.get? s.heap.objs.size=some { cls:=.type "list",dict:=none,data:=.seq acc' c',slots:=#[] }/\as.length=es.size/\ItG es s.heap.objs.size h' as/\acc'.toList=as.map Value.ref)
  hh (let ⟨o,x,y⟩:=hv; ⟨o,Heap.get?_push_of_some _ x,y⟩) (hm.at fun o e=>Heap.get?_push_of_some _ e) s.heap.objs.size (Nat.ne_of_gt lr) (Nat.ne_of_lt hm.lt) (.ref s.heap.objs.size) 0 hS1
  (fun h' tk acc' c' as k' a1 a2 a3 a4=>⟨h',tk,acc',c',as,rfl,rfl,fun b o e=>k' b o (Nat.ne_of_lt (Heap.lt_size e)) (Heap.get?_push_of_some _ e),a1,a2,⟨a3.rise,fun a ha=>Nat.lt_trans (Nat.lt_succ_self _) (by have:=a3.above a ha; rw [show ({ s with heap:=s.heap.push { cls:=.type "list",data:=.seq ([]:List Value).toArray } }:Shared).heap.objs.size=s.heap.objs.size + 1 from Heap.size_push _ _] at this; exact this),a3.pairs⟩,a4⟩) hn
 have fin:∀ (h':Heap) (tk:Nat) (acc':Array Value) (c':Nat) (as:List Addr),(∀ b o,s.heap.get? b=some o->h'.get? b=some o)->h'.get? s.heap.objs.size=some { cls:=.type "list",dict:=none,data:=.seq acc' c',slots:=#[] }->as.length=es.size->ItG es s.heap.objs.size h' as->acc'.toList=as.map Value.ref->R acc'.toList { s with heap:=h',toks:=tk }:=fun h' tk acc' c' as a1 _ a2 a3 a4=>by rw [a4]; exact q h' tk as a1 a2 a3
 refine wpAny_mono key (fun f s' x=>?_) fun e s' x=>by obtain ⟨_,_,_,_,_,z,_⟩:=x; cases z
 cases f with
 | done f=>
  obtain ⟨h',tk,acc',c',as,e,rfl,a1,a2,a3,a4,a5⟩:=x
  cases e
  exact wpAny_bind (wpAny_load a2 (wpAny_pure (fin h' tk acc' c' as a1 a2 a3 a4 a5)))
 | again c1=>
  refine ⟨x.1,codeAny_mono x.2 fun c s2 y=>?_⟩
  obtain ⟨h',tk,acc',c',as,rfl,rfl,a1,a2,a3,a4,a5⟩:=y
  exact wpAny_bind (wpAny_load a2 (wpAny_pure (fin h' tk acc' c' as a1 a2 a3 a4 a5)))
end
open PySem PySem.Spec PyProof.Rows PySem.W KB
abbrev PM:=List Pr×Int
abbrev PX:=List Pr×Addr×Value
def DpP (P:Program) (w:World) (a:Addr) (xs:List PX) (h:Heap):Prop:=∃ o es ep,h.get? a=some o/\o.ExactDict/\o.data=.dict es ep/\es.toList=xs.map (entryOfKey (fm P w))
def DpO (P:Program) (w:World) (a:Addr) (xs:List PX):HO:=.ext (DpP P w a xs)
def Tp (K:PySem.W.Frag) (H:Hp) (a:Addr) (xs:List V):Prop:=H a=some (.tup xs)\/∃ (o:Obj) (its:Array Value) (n:Nat),K.lookup a=some o/\o.cls=.type "tuple"/\o.data=.seq its n/\its.size<=sizeLine/\aP xs its.toList
def bZ (K:PySem.W.Frag) (H:Hp) (ps:List Pr) (b:Addr):Prop:=Rep H (.tup (aB ps)) (.ref b)\/(ps=[]/\Tp K H b [])
def TmR (K:PySem.W.Frag) (H:Hp) (p:PM) (v:V):Prop:=∃ a b,v=.ref a/\Tp K H a [.ref b,.int p.2]/\bZ K H p.1 b
def SmR (K:PySem.W.Frag) (H:Hp) (m:List PM) (v:V):Prop:=∃ a us,v=.ref a/\Tp K H a us/\Paired (TmR K H) m us
section
variable {K:PySem.W.Frag} {H H':Hp} {a b:Addr} {xs:List V} {ps:List Pr} {p:PM} {m:List PM} {v:V}
theorem Tp.sq (h:Tp K H a xs):SqT K H a xs:=by
 rcases h with h | h
 ·exact SqT.of h
 ·exact .inr h
theorem Tp.of (h:H a=some (.tup xs)):Tp K H a xs:=.inl h
theorem Tp.tups (t:∀ c zs,H c=some (.tup zs)->H' c=some (.tup zs)) (h:Tp K H a xs):Tp K H' a xs:=h.imp (t _ _) id
theorem ue (ps:List Pr):L2.Pl 3 (.tup (aB ps)):=.tup fun d hd=>by
 obtain ⟨p,_,rfl⟩:=List.mem_map.mp hd
 exact .tup fun e he=>by
  rcases List.mem_cons.mp he with rfl | he
  ·exact .str
  ·rw [List.mem_singleton.mp he]; exact .int
theorem bZ.tups (t:∀ c zs,H c=some (.tup zs)->H' c=some (.tup zs)) (h:bZ K H ps b):bZ K H' ps b:=h.imp (cJ t (ue ps)) fun ⟨e,h⟩=>⟨e,h.tups t⟩
theorem bZ.mono (t:aq H H') (h:bZ K H ps b):bZ K H' ps b:=h.tups fun _ _ e=>t _ _ e
theorem TmR.tups (t:∀ c zs,H c=some (.tup zs)->H' c=some (.tup zs)):TmR K H p v->TmR K H' p v:=fun ⟨a,b,e,h,k⟩=>⟨a,b,e,h.tups t,k.tups t⟩
theorem cP (t:∀ c zs,H c=some (.tup zs)->H' c=some (.tup zs)):∀ {m:List PM} {us:List V},Paired (TmR K H) m us->Paired (TmR K H') m us
 | _,_,.nil=>.nil
 | _,_,.cons r q=>.cons (r.tups t) (cP t q)
theorem SmR.tups (t:∀ c zs,H c=some (.tup zs)->H' c=some (.tup zs)):SmR K H m v->SmR K H' m v:=fun ⟨a,us,e,h,k⟩=>⟨a,us,e,h.tups t,cP t k⟩
theorem SmR.mono (t:aq H H'):SmR K H m v->SmR K H' m v:=SmR.tups fun _ _ e=>t _ _ e
end
def pvR (K:PySem.W.Frag) (H:Hp) (p:PM) (x:PX):Prop:=p.1=x.1/\bZ K H p.1 x.2.1/\∃ t,x.2.2=.int p.2 t
def Dp (K:PySem.W.Frag) (P:Program) (w:World) (H:Hp) (a:Addr) (m:List PM):Prop:=∃ xs:List PX,H a=some (DpO P w a xs)/\(a == sysModules)=false/\m.length<=100000/\(m.map (·.1)).Nodup/\Paired (pvR K H) m xs
def dE (m:List PM) (k:List Pr):Option Int:=(m.find? fun p=>decide (p.1=k)).map (·.2)
def dO (m:List PM) (k:List Pr) (n:Int):List PM:=if (dE m k).isSome then m.map (fun p=>if p.1=k then (p.1,n) else p) else m ++ [(k,n)]
theorem xf {P:Program} {w:World} {H:Hp} {h:Heap} {ps:List Pr} {b:Addr} (ok:HOk P w H h) (r:Rep H (.tup (aB ps)) (.ref b)):cx P w h ps b:=by
 obtain ⟨a,vs,e,ha,rv⟩:=Rep.tup_inv r
 cases e
 obtain ⟨zz,its,vr,⟨o,h1,h2,n,h3⟩,_⟩:=(show aU P w H h b (.tup vs) from ok b _ ha)
 refine ⟨o,its.toArray,n,h1,h2,h3,?_⟩
 show bz P w h ps its
 clear h3 h2 h1 ha r zz
 induction ps generalizing vs its with
 | nil=>
  obtain rfl:vs=[]:=by simpa only [aB,List.map_nil,Reps] using rv
  cases vr
  exact .nil
 | cons p ps ih=>
  rw [show aB (p :: ps)=.tup [.str p.1,.int p.2] :: aB ps from rfl] at rv
  simp only [Reps] at rv
  obtain ⟨v,vs',rfl,r1,r2⟩:=rv
  obtain ⟨c,us,rfl,hc,ru⟩:=Rep.tup_inv r1
  obtain ⟨x,y,rfl,rx,ry⟩:=Reps.two ru
  obtain rfl:x=.str p.1:=by simpa only [Rep] using rx
  obtain rfl:y=.int p.2:=by simpa only [Rep] using ry
  cases vr with
  | cons r1 r2'=>
   cases r1
   exact .cons (jW (ks:=prK p) ok hc) (ih _ r2 _ r2')
theorem lc {X:Cx} {pins:List (Addr×Obj)} {σ:St} {H:Hp} {s:Shared} {ps:List Pr} {b:Addr} (I:Inv X pins σ H s) (r:bZ X.K H ps b):cx X.prog X.w s.heap ps b:=by
 rcases r with r | ⟨rfl,r⟩
 ·exact xf I.hok r
 ·obtain ⟨its,vr,⟨o,h1,h2,n,h3⟩,_⟩:=I.tuple r.sq
  cases vr
  exact ⟨o,#[],n,h1,h2,h3,.nil⟩
section
variable {K:PySem.W.Frag} {P:Program} {w:World} {H H':Hp} {h:Heap} {a b:Addr} {m:List PM} {xs:List PX} {k:List Pr} {n:Int}
theorem jV:∀ {m:List PM} {xs:List PX},Paired (pvR K H) m xs->m.map (·.1)=xs.map (·.1)
 | _,_,.nil=>rfl
 | _,_,.cons r t=>by rw [List.map_cons,List.map_cons,r.1,jV t]
theorem rP (r:Paired (pvR K H) m xs):m.length=xs.length:=by have:=congrArg List.length (jV r); simpa using this
theorem nY (k:List Pr):∀ {m:List PM} {xs:List PX},Paired (pvR K H) m xs->(dE m k=none/\atKey xs k=none)\/∃ n c t,dE m k=some n/\atKey xs k=some (c,.int n t)
 | _,_,.nil=>.inl ⟨rfl,rfl⟩
 | p :: m,x :: xs,.cons r t=>by
  unfold dE atKey
  rw [List.find?_cons,List.find?_cons]
  obtain ⟨e,_,tk,ev⟩:=r
  rw [<- e]
  by_cases z:p.1=k
  ·rw [decide_eq_true z]
   refine .inr ⟨p.2,x.2.1,tk,rfl,?_⟩
   rw [<- ev]; rfl
  ·rw [decide_eq_false z]
   exact nY k t
theorem tY (k:List Pr) (n:Int) (tk:Tok):∀ {m:List PM} {xs:List PX},Paired (pvR K H) m xs->Paired (pvR K H) (m.map fun p=>if p.1=k then (p.1,n) else p) (xs.map (putAt k (.int n tk)))
 | _,_,.nil=>.nil
 | p :: m,x :: xs,.cons r t=>by
  rw [List.map_cons,List.map_cons]
  refine .cons ?_ (tY k n tk t)
  unfold putAt
  obtain ⟨e,rr,ev⟩:=r
  rw [<- e]
  by_cases z:p.1=k
  ·rw [if_pos z,if_pos z]; exact ⟨rfl,rr,tk,rfl⟩
  ·rw [if_neg z,if_neg z]; exact ⟨e,rr,ev⟩
theorem oX {p:PM} {x:PX}:∀ {m:List PM} {xs:List PX},Paired (pvR K H) m xs->pvR K H p x->Paired (pvR K H) (m ++ [p]) (xs ++ [x])
 | _,_,.nil,h=>.cons h .nil
 | _,_,.cons r t,h=>.cons r (oX t h)
theorem wy (r:Paired (pvR K H) m xs) (rk:bZ K H k b) (tk:Tok):Paired (pvR K H) (dO m k n) (storedH xs k b (.int n tk)):=by
 unfold dO storedH
 rcases nY k r with ⟨e1,e2⟩ | ⟨n',c,t,e1,e2⟩
 ·rw [e1,e2,if_neg (by decide),if_neg (by decide)]
  exact oX r ⟨rfl,rk,tk,rfl⟩
 ·rw [e1,e2,if_pos (show (some n').isSome=true from rfl),if_pos (show (some (c,Value.int n' t)).isSome=true from rfl)]
  exact tY k n tk r
theorem lE (k:∀ c zs,H c=some (.tup zs)->H' c=some (.tup zs)):∀ {m:List PM} {xs:List PX},Paired (pvR K H) m xs->Paired (pvR K H') m xs
 | _,_,.nil=>.nil
 | _,_,.cons r t=>.cons ⟨r.1,r.2.1.tups k,r.2.2⟩ (lE k t)
theorem vF {X:Cx} {pins:List (Addr×Obj)} {σ:St} {H:Hp} {s:Shared} (I:Inv X pins σ H s):∀ {m:List PM} {xs:List PX},Paired (pvR X.K H) m xs->∀ x∈xs,(fm X.prog X.w).is s.heap x.1 x.2.1
 | _,_,.nil,x,hx=>by cases hx
 | _,_,.cons r t,x,hx=>by
  rcases List.mem_cons.mp hx with rfl | hx
  ·have q:=lc I r.2.1
   rw [r.1] at q; exact q
  ·exact vF I t x hx
theorem jj {X:Cx} {pins:List (Addr×Obj)} {σ:St} {H:Hp} {s:Shared} (I:Inv X pins σ H s) (x:Dp X.K X.prog X.w H a m):∃ xs,H a=some (DpO X.prog X.w a xs)/\(a == sysModules)=false/\m.length<=100000/\Paired (pvR X.K H) m xs/\s.heap.DictOfH (fm X.prog X.w) a xs/\(xs.map (·.1)).Nodup:=by
 obtain ⟨xs,e,sm,l,nd,r⟩:=x
 obtain ⟨⟨o,es,ep,h1,h2,h3,h4⟩,_,_⟩:=(show aU X.prog X.w H s.heap a (DpO X.prog X.w a xs) from I.hok a _ e)
 have nd':(xs.map (·.1)).Nodup:=by rw [<- jV r]; exact nd
 refine ⟨xs,e,sm,l,r,⟨o,es,ep,h1,h2,h3,h4,fun x hx=>?_,nd'⟩,nd'⟩
 exact vF I r x hx
theorem qC (nd:(m.map (·.1)).Nodup):((dO m k n).map (·.1)).Nodup:=by
 unfold dO
 split
 ·have e:(m.map fun p=>if p.1=k then (p.1,n) else p).map (·.1)=m.map (·.1):=by
   rw [List.map_map]
   refine List.map_congr_left fun p _=>?_
   show (if p.1=k then (p.1,n) else p).1=p.1
   split <;> rfl
  rw [e]; exact nd
 ·next h=>
  rw [List.map_append]
  refine List.nodup_append.mpr ⟨nd,List.pairwise_singleton _ _,fun x hx y hy=>?_⟩
  obtain ⟨p,hp,rfl⟩:=List.mem_map.mp hx
  rw [List.map_singleton,List.mem_singleton] at hy
  rw [hy]
  intro z
  apply h
  unfold dE
  rw [Option.isSome_map,List.find?_isSome]
  exact ⟨p,hp,decide_eq_true z⟩
theorem io:(dO m k n).length<=m.length + 1:=by
 unfold dO
 split
 ·rw [List.length_map]; omega
 ·rw [List.length_append]; exact Nat.le_refl _
end
section
variable {X:Cx} {o e f i value:Expr} {apos cpos pos pos':Pos} {td ty tx tv:TE}
def vW (K:PySem.W.Frag) (P:Program) (w:World):TE:=fun _ H Q=>∀ (p:Addr) (H':Hp),H p=none->aH p H H'->Dp K P w H' p []->Q (.ref p) H'
theorem mf:PE X (.Dict [] [] pos) (vW X.K X.prog X.w):=fun pins s σ H Q I h=>by
 have hn:=I.hok.fresh (Nat.le_refl s.heap.objs.size)
 refine wpAny_Dict_empty ⟨.ref s.heap.objs.size,_,I.laid (a:=s.heap.objs.size) (o:=DpO X.prog X.w s.heap.objs.size []) (t':=s.toks) (fun _ _ q=>Heap.get?_push_of_some _ q) (Nat.le_refl _) ?_,rfl,h _ _ hn (aH.upd _ _ _) ?_⟩
 ·exact ⟨⟨_,#[],0,Heap.get?_push_size _ rfl,⟨rfl,rfl,rfl⟩,rfl,rfl⟩,⟨_,Heap.get?_push_size _ rfl⟩,fun h1 h2 ⟨o,es,ep,q,r⟩ k=>⟨o,es,ep,k o q,r⟩⟩
 ·refine ⟨[],af,?_,Nat.zero_le _,List.nodup_nil,.nil⟩
  have:=I.big
  cases z:(s.heap.objs.size == sysModules) with
  | false=>rfl
  | true=>rw [eq_of_beq z] at this; exact absurd this (Nat.lt_irrefl _)
def vB (K:PySem.W.Frag) (P:Program) (w:World) (td ty tx:TE):TE:=fun σ H Q=>td σ H fun x H1=>∃ a m0,x=.ref a/\Dp K P w H1 a m0/\ty σ H1 fun y H2=>tx σ H2 fun z H3=>∃ m ps b n,Dp K P w H3 a m/\y=.ref b/\bZ K H3 ps b/\z=.int n/\Q (.int ((dE m ps).getD n)) H3
theorem jl (hu:X.A.units + 2 < cLine) (ho:PE X o td) (he:PE X e ty) (hf:PE X f tx) (mm:M2 X o "get" apos e f cpos):PE X (.Call (.Attribute o "get" apos) [e,f] [] cpos) (vB X.K X.prog X.w td ty tx):=by
 intro pins s σ H Q I h
 refine wpAny_Call_method mm.base mm.few mm.line PySem.F.plainAttrs_dict PySem.F.slot_dict_get PySem.F.type_dict_get (thn (ho pins s σ H _ I h) fun u s1 ⟨x,H1,I1,rx,a,m0,ex,d0,q1⟩=>?_)
 subst ex
 obtain rfl:u=Value.ref a:=rx
 obtain ⟨xs0,_,_,_,_,dd0,_⟩:=jj I1 d0
 refine ⟨dd0.typeIs,fun b q=>by cases q; obtain ⟨ob,_,_,h1,h2,_⟩:=dd0; exact ⟨ob,h1,h2.2.1⟩,?_⟩
 rw [mm.trees]
 refine Calls.callWith_builtin rfl (Calls.evalArgs_plain (Calls.spliced_cons (thn (he pins s1 σ H1 _ I1 q1) fun iv s2 ⟨y,H2,I2,ry,q2⟩=>
  Calls.spliced_cons (thn (hf pins s2 σ H2 _ I2 q2) fun fv s3 ⟨z,H3,I3,rz,m,ps,b,n,d3,ey,rk,ez,q3⟩=>Calls.spliced_nil ?_))))
 subst ey ez
 cases (show iv=Value.ref b from ry)
 obtain ⟨xs,_,sm,_,r,dd,_⟩:=jj I3 d3
 refine call_meetsIn PySem.F.slot_dict_get dd.typeIs PySem.F.entry_dict_get (PySem.F.args_dict_get_3 _ _ _) (meetsH_dict_get_default (fm X.prog X.w) a b sm fv) ⟨hu,ps,xs,lc I3 rk,dd,.int ((dE m ps).getD n),H3,I3.tok _,?_,q3⟩
 rcases nY ps r with ⟨e1,e2⟩ | ⟨n',c,t,e1,e2⟩
 ·rw [e1,e2]; exact rz
 ·rw [e1,e2]; exact ⟨t,rfl⟩
def wE (K:PySem.W.Frag) (P:Program) (w:World) (td ty tv:TE):TS:=fun D σ H=>tv σ H fun v H1=>td σ H1 fun x H2=>ty σ H2 fun y H3=>∃ a m ps b n,x=.ref a/\Dp K P w H3 a m/\y=.ref b/\bZ K H3 ps b/\v=.int n/\m.length < 100000/\∀ H4,aH a H3 H4->Dp K P w H4 a (dO m ps n)->D.nx σ H4
theorem mF (hu:X.A.units + 2 < cLine) (ho:PE X o td) (hi:PE X i ty) (hv:PE X value tv) (hs:swapsWith value (some (.Subscript o i pos')) pos.line X.env=pure false):PS X (.Assign [.Subscript o i pos'] value pos) (wE X.K X.prog X.w td ty tv):=by
 intro pins s σ H D I h
 refine wpAny_Assign_Subscript (thn (hv pins s σ H _ I h) fun r s1 ⟨v,H1,I1,rv,q1⟩=>thn (ho pins s1 σ H1 _ I1 q1) fun u s2 ⟨x,H2,I2,rx,q2⟩=>thn (hi pins s2 σ H2 _ I2 q2) fun iv s3 ⟨y,H3,I3,ry,a,m,ps,b,n,ex,d3,ey,rk,ev,lm,q3⟩=>?_) hs
 subst ex ey ev
 obtain rfl:u=Value.ref a:=rx
 cases (show iv=Value.ref b from ry)
 obtain ⟨t,rfl⟩:=rv
 obtain ⟨xs,ea,sm,_,pr,dd,nd⟩:=jj I3 d3
 have lx:xs.length<=sizeLine:=by rw [<- rP pr,sizeLine_eq]; omega
 refine wpAny_setItem_heap (hsz:=lx) (knd:=fm X.prog X.w) hu (lc I3 rk) dd fun h' dd' hs'=>?_
 obtain ⟨ob,es,ep,h1,h2,h3,h4,_,h5⟩:=dd'
 have I4:=kY (t':=s3.toks + (fm X.prog X.w).draws ps) (ob:=DpO X.prog X.w a (storedH xs ps b (.int n t))) I3 (by rw [ea]; exact True.intro) hs' ⟨ob,h1⟩ ⟨⟨ob,es,ep,h1,h2,h3,h4⟩,⟨ob,h1⟩,fun g1 g2 ⟨o,es,ep,q,r⟩ k=>⟨o,es,ep,k o q,r⟩⟩
 have tt:∀ c zs,H3 c=some (.tup zs)->upd H3 a (DpO X.prog X.w a (storedH xs ps b (.int n t))) c=some (.tup zs):=fun c zs ec=>by rw [aI (vP ec ea (fun z=>nomatch z))]; exact ec
 refine ⟨σ,_,I4,q3 _ (aH.upd _ _ _) ⟨_,af,sm,Nat.le_trans io lm,?_,lE tt (wy pr rk t)⟩⟩
 obtain ⟨_,_,_,_,nm,_⟩:=d3
 exact qC nm
end
section
variable {X:Cx}
theorem qH:MtR X "dict.items" (fun x xs H Q=>∃ d m,x=.ref d/\xs=[]/\Dp X.K X.prog X.w H d m/\∀ v,H v=none->Q (.ref v) (upd H v (cS v d))):=by
 intro pins s σ H x xs u us Q I rx rv h
 obtain ⟨d,m,rfl,rfl,hd,q⟩:=h
 cases rx
 cases rv
 obtain ⟨ys,_,sm,_,_,dd,_⟩:=jj I hd
 refine wpAny_call_entry PySem.F.slot_dict_items dd.typeIs PySem.F.entry_dict_items ?_ (PySem.F.args_dict_items_1 _)
 unfold Builtin.«dict.items»; refine wpAny_bind ?_; unfold Builtin.Dict.noArgs
 refine wpAny_bind (wpAny_notOrdered_dict dd.typeIs ?_); show wpAny _ _ (pure d) _ _ s; refine wpAny_pure ?_
 show wpAny _ _ (Builtin.Dict.showsAll d >>= _) _ _ s; unfold Builtin.Dict.showsAll; rw [if_neg (by rw [sm]; decide)]
 refine wpAny_bind (wpAny_pure (wpAny_bind (wpAny_newObj_type (wpAny_pure ⟨_,rfl,.ref s.heap.objs.size,_,I.laid (t':=s.toks) (a:=s.heap.objs.size) (o:=cS s.heap.objs.size d) (fun b u q=>Heap.get?_push_of_some _ q) (Nat.le_refl _) ?_,rfl,q _ I.fresh⟩))))
 exact ⟨⟨_,Heap.get?_push_size _ rfl,rfl,rfl⟩,⟨_,Heap.get?_push_size _ rfl⟩,fun h1 h2 ⟨o,e,r⟩ k=>⟨o,k o e,r⟩⟩
end
def ltP (p q:Pr):Bool:=if p.1=q.1 then decide (p.2 < q.2) else decide (p.1.cps.toList < q.1.cps.toList)
def ltK:List Pr->List Pr->Bool
 | [],[]=>false
 | [],_ :: _=>true
 | _ :: _,[]=>false
 | p :: ps,q :: qs=>if p=q then ltK ps qs else ltP p q
theorem vi (p:Pr):ltP p p=false:=by unfold ltP; rw [if_pos rfl]; exact decide_eq_false (Int.lt_irrefl _)
theorem wk {p q r:Pr} (h1:ltP p q=true) (h2:ltP q r=true):ltP p r=true:=by
 unfold ltP at h1 h2 ⊢
 by_cases a:p.1=q.1
 ·rw [if_pos a] at h1
  by_cases b:q.1=r.1
  ·rw [if_pos b] at h2
   rw [if_pos (a.trans b)]
   exact decide_eq_true (Int.lt_trans (of_decide_eq_true h1) (of_decide_eq_true h2))
  ·rw [if_neg b] at h2
   rw [a,if_neg b]; exact h2
 ·rw [if_neg a] at h1
  by_cases b:q.1=r.1
  ·rw [<- b,if_neg a]; exact h1
  ·rw [if_neg b] at h2
   have l:=List.lt_trans (of_decide_eq_true h1) (of_decide_eq_true h2)
   rw [if_neg (fun z=>by rw [z] at l; exact absurd l (List.lt_irrefl _))]
   exact decide_eq_true l
theorem uu {p q:Pr} (ne:p≠q) (h:ltP p q=false):ltP q p=true:=by
 unfold ltP at h ⊢
 by_cases a:p.1=q.1
 ·rw [if_pos a] at h
  rw [if_pos a.symm]
  have:=of_decide_eq_false h
  have n2:p.2≠q.2:=fun z=>ne (Prod.ext a z)
  exact decide_eq_true (by omega)
 ·rw [if_neg a] at h
  rw [if_neg (Ne.symm a)]
  exact decide_eq_true (kQ (of_decide_eq_false h) fun z=>a (kA z))
theorem wx {p q:Pr} (h:ltP p q=true):p≠q:=fun z=>by rw [z,vi] at h; cases h
theorem dM:∀ a:List Pr,ltK a a=false
 | []=>rfl
 | p :: a=>by rw [ltK,if_pos rfl]; exact dM a
theorem kG:∀ {a b c:List Pr},ltK a b=true->ltK b c=true->ltK a c=true
 | [],[],_,h,_=>by cases h
 | [],_ :: _,[],_,h=>by cases h
 | [],_ :: _,_ :: _,_,_=>rfl
 | _ :: _,[],_,h,_=>by cases h
 | _ :: _,_ :: _,[],_,h=>by cases h
 | p :: a,q :: b,r :: c,h1,h2=>by
  rw [ltK] at h1 h2 ⊢
  by_cases e1:p=q
  ·subst e1
   rw [if_pos rfl] at h1
   by_cases e2:p=r
   ·rw [if_pos e2] at h2 ⊢; exact kG h1 h2
   ·rw [if_neg e2] at h2 ⊢; exact h2
  ·rw [if_neg e1] at h1
   by_cases e2:q=r
   ·subst e2
    rw [if_neg e1]; exact h1
   ·rw [if_neg e2] at h2
    have l:=wk h1 h2
    rw [if_neg (wx l)]; exact l
theorem hX:∀ {a b:List Pr},a≠b->ltK a b=false->ltK b a=true
 | [],[],h,_=>absurd rfl h
 | [],_ :: _,_,h=>by cases h
 | _ :: _,[],_,_=>rfl
 | p :: a,q :: b,ne,h=>by
  rw [ltK] at h ⊢
  by_cases e:p=q
  ·subst e
   rw [if_pos rfl] at h ⊢
   exact hX (fun z=>ne (by rw [z])) h
  ·rw [if_neg e] at h
   rw [if_neg (Ne.symm e)]
   exact uu e h
theorem oB {α:Type} {p q:α->Bool}:∀ {l:List α} {a:α},(∀ z∈l,p z=true->q z=true)->a∈l->q a=true->p a=false->l.countP p < l.countP q
 | x :: l,a,h,ha,qa,pa=>by
  have m:=List.countP_mono_left (p:=p) (q:=q) (l:=l) fun z hz=>h z (List.mem_cons_of_mem _ hz)
  rw [List.countP_cons,List.countP_cons]
  rcases List.mem_cons.mp ha with rfl | ha
  ·rw [qa,pa]; simp; omega
  ·have ih:=oB (fun z hz=>h z (List.mem_cons_of_mem _ hz)) ha qa pa
   have:=h x List.mem_cons_self
   cases hp:p x with
   | false=>simp; omega
   | true=>rw [this hp]; simp; omega
theorem vg {l:List (List Pr)} {a b:List Pr} (ha:a∈l) (hb:b∈l):decide (l.countP (fun z=>ltK z a) < l.countP (fun z=>ltK z b))=ltK a b:=by
 cases h:ltK a b with
 | true=>exact decide_eq_true (oB (fun z _ hz=>kG hz h) ha h (dM a))
 | false=>
  refine decide_eq_false (Nat.not_lt.mpr ?_)
  by_cases e:a=b
  ·subst e; exact Nat.le_refl _
  ·exact Nat.le_of_lt (oB (fun z _ hz=>kG hz (hX e h)) hb (hX e h) (dM b))
section
variable {prog:Program} {w:World} {A:Around} {E:Value->Shared->Prop} {s:Shared}
def rK (prog:Program) (w:World) (A:Around) (fin:Bool) (Q:Value->Shared->Prop):List (Value×Value)->Shared->Prop
 | [],s=>Q (.bool fin) s
 | (x,y) :: r,s=>wpAny (model prog w) A (eqBool x y) (fun e s'=>if e=true then rK prog w A fin Q r s' else wpAny (model prog w) A (richCompare .Lt x y) (fun v s2=>v≠.notImplemented/\Q v s2) (fun _ _=>False) s') (fun _ _=>False) s
theorem pE {a b:Addr} {oa ob:Obj} {xs ys:Array Value} {n k:Nat} {Q:Value->Shared->Prop} (hu:A.units < cLine) (ha:s.heap.get? a=some oa) (ca:oa.cls=.type "tuple") (da:oa.data=.seq xs n) (hb:s.heap.get? b=some ob) (cb:ob.cls=.type "tuple") (db:ob.data=.seq ys k)
  (h:rK prog w A.in1 (decide (xs.size < ys.size)) Q (xs.toList.zip ys.toList) s):wpAny (model prog w) A (richCompare .Lt (.ref a) (.ref b)) Q E s:=by
 have Ta:s.TypeIs (.ref a) "tuple":=⟨oa,ha,ca⟩
 have Tb:s.TypeIs (.ref b) "tuple":=⟨ob,hb,cb⟩
 refine wpAny_richCompare_same_room (op:=.Lt) Ta Tb PySem.F.slot_tuple_lt (wpAny_call_entry PySem.F.slot_tuple_lt Ta PySem.F.entry_tuple_lt ?_ (PySem.F.args_tuple_lt_2 _ _)) hu
 show wpAny _ _ (isInstance (.ref b) (.type "tuple") >>= _) _ _ s; refine wpAny_bind (wpAny_isInstance Tb isSubtype_tuple_tuple ?_)
 simp only [Bool.not_true,Bool.false_eq_true,if_false]
 refine wpAny_bind (wpAny_tupleItemsOf ha da (wpAny_bind (wpAny_tupleItemsOf hb db (wpAny_bind ?_))))
 refine wpAny_forIn_list _ (fun rest r s'=>r.1=none/\rK prog w A.in1 (decide (xs.size < ys.size)) Q rest s') _ ?_ ?_ _ _ ⟨rfl,h⟩
 ·rintro ⟨x,y⟩ rest r s' ⟨hr,hl⟩
  refine wpAny_bind (wpAny_mono hl (fun e s2 he=>?_) fun _ _ z=>z.elim)
  cases e with
  | true=>
   simp only [Bool.not_true,Bool.false_eq_true,if_false,if_true] at he ⊢
   exact wpAny_pure ⟨rfl,he⟩
  | false=>
   simp only [Bool.not_false,if_true,Bool.false_eq_true,if_false] at he ⊢
   refine wpAny_bind (wpAny_rule (wpAny_bind (wpAny_mono he (fun v s3 hv=>?_) fun _ _ z=>z.elim)))
   exact wpAny_bind (wpAny_pure (wpAny_pure (wpAny_pure ⟨v,rfl,hv⟩)))
 ·rintro ⟨r1,r2⟩ s' ⟨hr,hl⟩
  obtain rfl:r1=none:=hr
  exact wpAny_pure ⟨_,rfl,nofun,hl⟩
theorem xB {p q:Pr} {a b:Addr} {Q:Value->Shared->Prop} (hu:A.units + 1 < cLine) (ha:IsTupleKey (aF prog w) s.heap (prK p) a) (hb:IsTupleKey (aF prog w) s.heap (prK q) b) (h:Q (.bool (ltP p q)) s):wpAny (model prog w) A (richCompare .Lt (.ref a) (.ref b)) Q E s:=by
 obtain ⟨oa,xs,n,h1,h2,h3,h4⟩:=ha
 obtain ⟨ob,ys,k,g1,g2,g3,g4⟩:=hb
 have shape:∀ {p:Pr} {us:List Value},ItemsAre (aF prog w) (prK p) us->∃ t t',us=[.str p.1 t,.int p.2 t']:=fun {p us} hi=>by
  unfold prK at hi
  cases hi with
  | cons i1 r1=>
   cases r1 with
   | cons i2 r2=>
    cases r2
    obtain ⟨t,rfl⟩:=rL i1
    obtain ⟨t',rfl⟩:=rL i2
    exact ⟨t,t',rfl⟩
 obtain ⟨t1,t2,e1⟩:=shape h4
 obtain ⟨t3,t4,e2⟩:=shape g4
 have sx:xs.size=2:=by rw [<- Array.length_toList,e1]; rfl
 have sy:ys.size=2:=by rw [<- Array.length_toList,e2]; rfl
 refine pE (Nat.lt_of_succ_lt hu) h1 h2 h3 g1 g2 g3 ?_
 rw [e1,e2]
 show rK prog w A.in1 _ Q [(.str p.1 t1,.str q.1 t3),(.int p.2 t2,.int q.2 t4)] s
 refine wpAny_eqBool_str ?_
 unfold ltP at h
 by_cases c:p.1=q.1
 ·rw [if_pos c] at h
  rw [decide_eq_true c,if_pos rfl]
  refine wpAny_eqBool_int ?_
  by_cases d:p.2=q.2
  ·rw [d,decide_eq_false (Int.lt_irrefl _)] at h
   rw [show (p.2 == q.2)=true by rw [d]; exact beq_self_eq_true _,if_pos rfl]
   show Q (.bool (decide (xs.size < ys.size))) s
   rw [sx,sy]; exact h
  ·rw [show (p.2 == q.2)=false from beq_eq_false_iff_ne.mpr d,if_neg (by decide)]
   exact wpAny_lt_int ⟨nofun,h⟩
 ·rw [if_neg c] at h
  rw [decide_eq_false c,if_neg (by decide)]
  exact wpAny_richCompare_same (op:=.Lt) (T:="str") (typeIs_str s _ _) (typeIs_str s _ _) PyProof.Rows.slot_str_lt (call_str_lt ⟨nofun,nofun,h⟩)
theorem xg {ps qs:List Pr} {a b:Addr} {Q:Value->Shared->Prop} (hu:A.units + 2 < cLine) (ha:cx prog w s.heap ps a) (hb:cx prog w s.heap qs b) (h:Q (.bool (ltK ps qs)) s):wpAny (model prog w) A (richCompare .Lt (.ref a) (.ref b)) Q E s:=by
 obtain ⟨oa,xs,n,h1,h2,h3,h4⟩:=ha
 obtain ⟨ob,ys,k,g1,g2,g3,g4⟩:=hb
 refine pE (by omega) h1 h2 h3 g1 g2 g3 ?_
 have lx:=h4.tup
 have ly:=g4.tup
 have ef:decide (xs.size < ys.size)=decide (ps.length < qs.length):=by rw [lx,ly,Array.length_toList,Array.length_toList]
 rw [ef]
 have key:∀ {ps qs:List Pr} {us vs:List Value} {f:Bool},bz prog w s.heap ps us->bz prog w s.heap qs vs->f=decide (ps.length < qs.length)->Q (.bool (ltK ps qs)) s->rK prog w A.in1 f Q (us.zip vs) s:=by
  intro ps
  induction ps with
  | nil=>
   intro qs us vs f i1 i2 e q
   cases i1
   cases i2 with
   | nil=>rw [e]; exact q
   | cons _ _=>rw [e]; exact q
  | cons p ps ih=>
   intro qs us vs f i1 i2 e q
   cases i1 with
   | @cons _ c _ us' x1 y1=>
    cases i2 with
    | nil=>rw [e]; exact q
    | @cons p2 c2 qs' vs' x2 y2=>
     rw [List.zip_cons_cons]
     refine wpAny_eqBool_tuple (knd:=aF prog w) (by show A.units + 1 < cLine; omega) x1 x2 ?_
     rw [ltK] at q
     by_cases z:p=p2
     ·rw [if_pos z] at q
      rw [decide_eq_true (by rw [z]),if_pos rfl]
      exact ih y1 y2 (by rw [e,List.length_cons,List.length_cons]; simp) q
     ·rw [if_neg z] at q
      rw [decide_eq_false (fun y=>z (lq y)),if_neg (by decide)]
      exact xB (by show A.units + 1 + 1 < cLine; omega) x1 x2 ⟨nofun,q⟩
 exact key h4 g4 rfl h
theorem xy {x y a b:Addr} {ox oy:Obj} {n k:Nat} {ps qs:List Pr} {i j:Int} {t u:Tok} {Q:Bool->Shared->Prop} (hu:A.units + 2 < cLine) (hx:s.heap.get? x=some ox) (dx:ox.data=.seq #[.ref a,.int i t] n) (hy:s.heap.get? y=some oy) (dy:oy.data=.seq #[.ref b,.int j u] k) (ha:cx prog w s.heap ps a) (hb:cx prog w s.heap qs b)
  (same:ps=qs->i=j) (h:Q (ltK ps qs) s):wpAny (model prog w) A (keyLt' (tuples' false) (.ref x) (.ref y)) Q E s:=by
 refine kat_lt hx dx hy dy ?_
 show KatLex _ _ _ _ _ _ [(Value.ref a,Value.ref b),(Value.int i t,Value.int j u)] 0 s
 refine kat_cons (vH (by omega) ha hb ?_)
 by_cases e:ps=qs
 ·rw [decide_eq_true e]
  refine kat_yes (kat_cons (wpAny_eqBool_int ?_))
  rw [show (i == j)=true by rw [same e]; exact beq_self_eq_true _]
  refine kat_yes (kat_nil ?_)
  rw [e,dM] at h
  exact h
 ·rw [decide_eq_false e]
  refine kat_no ?_
  rw [show (false && (0 == 0))=false from rfl,oneLt'_eq]
  simp only [Bool.false_eq_true,if_false]
  exact wpAny_bind (xg hu ha hb (wpAny_truthy_bool h))
end
theorem kM {prog:Program} {w:World} {A:Around} {E:Value->Shared->Prop} {st:Shared} {l:Addr} {us:List Value} {ep:Nat} {R:PySem.Fin->Shared->Prop} {kd:SortKind} {M:Keyed->Prop} {rk:Keyed->Nat} (at0:st.heap.get? l=some (seqObj "list" us.toArray ep)) (h2:2<=us.length) (line:us.length<=sizeLine)
  (hk:∀ hp:Heap,(∀ b o,b≠l->st.heap.get? b=some o->hp.get? b=some o)->wpAny (model prog w) A (keyKind' us.toArray) (fun k s'=>k=kd/\s'={ st with heap:=hp }) E { st with heap:=hp }/\TS.Ask prog w A { st with heap:=hp } kd M rk) (Z:TS.Set0 M rk (us.zip us))
  (fin:∀ hp ep' (ks:List Keyed),(∀ b o,b≠l->st.heap.get? b=some o->hp.get? b=some o)->ks.Perm (us.zip us)->TS.Up rk ks->hp.get? l=some (seqObj "list" (ks.map (·.2)).toArray ep')->R (.done (.ret .none)) { st with heap:=hp }) :
  wpAny (model prog w) A (Builtin.«list.sort» ⟨[.ref l],[]⟩) R E st:=by
 have sz:us.toArray.size=us.length:=by simp
 have lt0:l < st.heap.objs.size:=Heap.lt_size at0
 rw [list_sort_plain]
 refine wpAny_bind (listItems_at at0 rfl (wpAny_bind (listUpdate_at at0 rfl ?_ (by rw [sz]; exact line) (Nat.zero_le _))))
 have at1:=get?_update_seq at0 (fun _=>(#[]:Array Value))
 refine wpAny_bind (seqEpoch_at at1 rfl (wpAny_bind (wpAny_newTuple ?_ (by show us.length<=_; exact line))))
 refine wpAny_bind (wpAny_newList ?_ (Nat.zero_le _))
 refine wpAny_holding ?_
 rw [if_neg (by rw [sz]; omega),if_neg (by rw [sz]; omega)]
 show wpAny (model prog w) A _ R E { st with heap:=((st.heap.update l (Obj.mapSeq fun _=>(#[]:Array Value))).push (seqObj "tuple" us.toArray 0)).push (seqObj "list" #[] 0) }
 have at2:(((st.heap.update l (Obj.mapSeq fun _=>(#[]:Array Value))).push (seqObj "tuple" us.toArray 0)).push (seqObj "list" #[] 0)).get? l=some (seqObj "list" #[] (if ((#[]:Array Value).size == us.toArray.size)=true then ep else ep + 1)):=by
  rw [Heap.get?_push_ne _ _ _ (by rw [size_push',Heap.size_update]; exact jZ lt0),Heap.get?_push_ne _ _ _ (by rw [Heap.size_update]; exact nlt lt0)]
  exact at1
 have kp:∀ b o,b≠l->st.heap.get? b=some o->(((st.heap.update l (Obj.mapSeq fun _=>(#[]:Array Value))).push (seqObj "tuple" us.toArray 0)).push (seqObj "list" #[] 0)).get? b=some o:=fun b o hb e=>by
  rw [Heap.get?_push_ne _ _ _ (by rw [size_push',Heap.size_update]; exact jZ (Heap.lt_size e)),Heap.get?_push_ne _ _ _ (by rw [Heap.size_update]; exact nlt (Heap.lt_size e)),Heap.get?_update_ne _ _ _ _ hb]
  exact e
 generalize ((st.heap.update l (Obj.mapSeq fun _=>(#[]:Array Value))).push (seqObj "tuple" us.toArray 0)).push (seqObj "list" #[] 0)=hp at at2 kp
 obtain ⟨k1,O⟩:=hk hp kp
 refine wpAny_bind (wpAny_mono k1 (fun k s' hks=>?_) fun _ _ e=>e)
 obtain ⟨rfl,rfl⟩:=hks
 have B:TS.SB k (us.zip us) #[] (SortSt.mk' k (us.toArray.zip us.toArray) #[] 7 none):=⟨by show (us.toArray.zip us.toArray).toList.Perm (us.zip us); rw [show (us.toArray.zip us.toArray).toList=us.zip us from pairsOf_toList us],rfl,rfl,rfl⟩
 refine wpAny_bind (wpAny_mono (TS.runs_ok (Q:=fun _ st'=>(arrOf st').toList.Perm (us.zip us)/\failedOf st'=none/\TS.Up rk (arrOf st').toList) O Z B fun st' a1 a2 a3=>⟨a1,a2,a3⟩) ?_ fun _ _ e=>e)
 rintro ⟨⟨⟩,st'⟩ s' ⟨rfl,pm,hf,up⟩
 dsimp only
 refine wpAny_bind (seqEpoch_at at2 rfl ?_)
 have lo:((arrOf st').map (·.2)).size=us.length:=by rw [Array.size_map,<- Array.length_toList,pm.length_eq,List.length_zip,Nat.min_self]
 have at3:=get?_update_seq at2 (fun _=>(arrOf st').map (·.2))
 refine wpAny_bind (listUpdate_at at2 rfl ?_ (Nat.zero_le _) (by rw [lo]; omega))
 rw [hf]
 simp only [bne_self_eq_false,Bool.false_eq_true,if_false]
 have e3:(arrOf st').map (·.2)=((arrOf st').toList.map (·.2)).toArray:=by apply Array.ext'; simp
 rw [e3] at at3 ⊢
 refine wpAny_pure (fin _ _ (arrOf st').toList (fun b o hb e=>?_) pm up at3)
 rw [Heap.get?_update_ne _ _ _ _ hb]
 exact kp b o hb e
section
variable {X:Cx} {pins:List (Addr×Obj)} {σ:St} {H:Hp} {s:Shared}
abbrev TV:=Addr×List V
def laysV (H:Hp) (rs:List TV):Hp:=fun b=>match rs.find? (fun r=>decide (r.1=b)) with | some r=>some (.tup r.2) | none=>H b
theorem gh {rs:List TV} {b:Addr} (h:∀ r∈rs,r.1≠b):laysV H rs b=H b:=by
 unfold laysV
 rw [List.find?_eq_none.mpr (fun r hr e=>h r hr (of_decide_eq_true e))]
theorem mV {rs:List TV} (nd:(rs.map (·.1)).Nodup) {r:TV} (hr:r∈rs):laysV H rs r.1=some (.tup r.2):=by
 unfold laysV
 cases e:rs.find? (fun x=>decide (x.1=r.1)) with
 | none=>exact absurd (decide_eq_true rfl) (List.find?_eq_none.mp e r hr)
 | some x=>
  have hx:=List.mem_of_find?_eq_some e
  have e1:x.1=r.1:=of_decide_eq_true (List.find?_some (p:=fun x:TV=>decide (x.1=r.1)) e)
  obtain ⟨i,hi,rfl⟩:=List.getElem_of_mem hx
  obtain ⟨j,hj,rfl⟩:=List.getElem_of_mem hr
  have:i=j:=(List.getElem_inj (h₀:=by simpa using hi) (h₁:=by simpa using hj) nd).mp (by simpa using e1)
  subst this
  rfl
theorem Inv.laysV {h':Heap} {tk:Nat} {rs:List TV} (I:Inv X pins σ H s) (k:∀ b u,s.heap.get? b=some u->h'.get? b=some u) (nd:(rs.map (·.1)).Nodup) (hp:∀ r∈rs,s.heap.objs.size<=r.1)
  (new:∀ r∈rs,aU X.prog X.w (L2.laysV H rs) h' r.1 (.tup r.2)):Inv X pins σ (L2.laysV H rs) { s with heap:=h',toks:=tk }:=by
 have out:∀ b,b < s.heap.objs.size->L2.laysV H rs b=H b:=fun b hb=>gh fun r hr e=>absurd hb (Nat.not_lt.mpr (e▸hp r hr))
 refine I.un (t':=tk) ⟨fun b u q _ _ _=>k b u q,fun b u q _ _ _=>⟨u.slots,k b u q⟩,fun b u q n _=>by rw [out b (Heap.lt_size q)]; exact n,fun b u q _=>⟨u,k b u q⟩,fun b xs q=>by rw [out b (I.hok.lt q)]; exact q,fun b u xs q=>by rw [out b (I.hok.lt q)]; exact q,
  fun b ps q=>⟨#[],by rw [out b (I.hok.lt q),q]; simp⟩⟩ fun b u e=>?_
 by_cases hb:∃ r∈rs,r.1=b
 ·obtain ⟨r,hr,rfl⟩:=hb
  rw [mV nd hr] at e
  cases e
  exact new r hr
 ·rw [gh fun r hr z=>hb ⟨r,hr,z⟩] at e
  exact (I.hok b u e).stay (fun c v _ q=>k c v q) (fun c q=>by rw [out c (I.hok.lt q)]; exact q) fun c xs q=>by rw [out c (I.hok.lt q)]; exact q
theorem nU (rs:List TV):aP (rs.map fun p=>V.ref p.1) (rs.map fun p=>Value.ref p.1):=by
 induction rs with
 | nil=>exact .nil
 | cons p ps ih=>exact .cons rfl ih
end
theorem bz.mv {P:Program} {w:World} {h h':Heap} (k:∀ b o,h.get? b=some o->o.cls=.type "tuple"->h'.get? b=some o):∀ {ps:List Pr} {vs:List Value},bz P w h ps vs->bz P w h' ps vs
 | _,_,.nil=>.nil
 | _,_,.cons x y=>.cons (let ⟨o,its,n,e,c,d⟩:=x; ⟨o,its,n,k _ _ e c,c,d⟩) (bz.mv k y)
theorem cx.mv {P:Program} {w:World} {h h':Heap} {ps:List Pr} {a:Addr} (x:cx P w h ps a) (k:∀ b o,h.get? b=some o->o.cls=.type "tuple"->h'.get? b=some o):cx P w h' ps a:=by
 obtain ⟨o,its,n,e,c,d,i⟩:=x
 exact ⟨o,its,n,k _ _ e c,c,d,i.mv k⟩
theorem sG {α β:Type} (f:α->β) {l k:List β} (h:l.Perm k):∀ {m:List α},k=m.map f->∃ m':List α,m'.Perm m/\l=m'.map f:=by
 induction h with
 | nil=>intro m e; exact ⟨[],by rw [List.map_eq_nil_iff.mp e.symm],rfl⟩
 | cons x _ ih=>
  intro m e
  cases m with
  | nil=>cases e
  | cons a m=>
   injection e with e1 e2
   obtain ⟨m',p,rfl⟩:=ih e2
   exact ⟨a :: m',p.cons a,by rw [List.map_cons,e1]⟩
 | swap x y l=>
  intro m e
  match m,e with
  | a :: b :: m,e=>
   injection e with e1 e2
   injection e2 with e2 e3
   exact ⟨b :: a :: m,List.Perm.swap a b m,by rw [List.map_cons,List.map_cons,e1,e2,e3]⟩
 | trans _ _ ih1 ih2=>
  intro m e
  obtain ⟨m2,p2,e2⟩:=ih2 e
  obtain ⟨m1,p1,e1⟩:=ih1 e2
  exact ⟨m1,p1.trans p2,e1⟩
abbrev IT:=Addr×Addr×PM
structure si (K:PySem.W.Frag) (H:Hp) (t:IT):Prop where
 at_:H t.1=some (.tup [.ref t.2.1,.int t.2.2.2])
 key:bZ K H t.2.2.1 t.2.1
structure ItW (K:PySem.W.Frag) (H:Hp) (t:IT):Prop where
 at_:Tp K H t.1 [.ref t.2.1,.int t.2.2.2]
 key:bZ K H t.2.2.1 t.2.1
theorem si.weak {K:PySem.W.Frag} {H:Hp} {t:IT} (h:si K H t):ItW K H t:=⟨.of h.at_,h.key⟩
section
variable {X:Cx} {pins:List (Addr×Obj)} {σ:St} {H:Hp} {s:Shared}
theorem lW {A:Around} {E:Value->Shared->Prop} {l:Addr} {ts:List IT} {Q:Value->Shared->Prop} (hu:A.units + 3 < cLine) (I:Inv X pins σ H s) (hq:H l=some (.lst (ts.map fun t=>V.ref t.1))) (hT:∀ t∈ts,ItW X.K H t) (nd:(ts.map fun t=>t.2.2.1).Nodup) (hl:ts.length<=100000)
  (q:∀ (ts':List IT) (h':Heap),ts'.Perm ts->ts'.Pairwise (fun a b=>ltK a.2.2.1 b.2.2.1=true)->Inv X pins σ (upd H l (.lst (ts'.map fun t=>V.ref t.1))) { s with heap:=h' }->Q .none { s with heap:=h' }) :
  wpAny (model X.prog X.w) A (call (.builtin "list.sort") [.ref l]) Q E s:=by
 obtain ⟨hz,its,n,rv,at0⟩:=(show aU X.prog X.w H s.heap l (.lst (ts.map fun t=>V.ref t.1)) from I.hok l _ hq)
 have ei:its=ts.map fun t=>Value.ref t.1:=by
  have:∀ (ts:List IT) (us:List Value),aP (ts.map fun p=>V.ref p.1) us->us=ts.map fun p=>Value.ref p.1:=by
   intro ts
   induction ts with
   | nil=>intro us r; cases r; rfl
   | cons p ps ih=>
    intro us r
    rw [List.map_cons] at r ⊢
    cases r with
    | cons r t=>rw [ih _ t,show _=Value.ref p.1 from r]
  exact this ts its rv
 subst ei
 have vr:∀ ts:List IT,aP (ts.map fun p=>V.ref p.1) (ts.map fun p=>Value.ref p.1):=by
  intro ts
  induction ts with
  | nil=>exact .nil
  | cons p ps ih=>exact .cons rfl ih
 obtain ⟨m,hm,_⟩:=I.loc
 have nL:l≠X.env.locals:=fun z=>by rw [z,I.free] at hq; cases hq
 have ll:(ts.map fun t=>Value.ref t.1).length=ts.length:=List.length_map _
 by_cases few:ts.length < 2
 ·refine wpAny_call_entry slot_list_sort ⟨_,at0,rfl⟩ entry_list_sort (cZ at0 (by simpa using few) fun hp ep k2 e2=>⟨_,rfl,?_⟩) (args_list_sort _)
  refine q ts hp (List.Perm.refl _) ?_ (I.setList hm hq (vr ts) hz (hm.at' fun o e=>k2 _ o (Ne.symm nL) e) (fun b o _ hb z=>k2 b o hb z) e2)
  match ts,few with
  | [],_=>exact .nil
  | [p],_=>exact List.pairwise_singleton _ _
 have obj:∀ t∈ts,∃ (o:Obj) (k:Nat) (tk:Tok),s.heap.get? t.1=some o/\o.cls=.type "tuple"/\o.data=.seq #[.ref t.2.1,.int t.2.2.2 tk] k/\t.1≠l:=fun t ht=>by
  have x:=hT t ht
  obtain ⟨us,ru,⟨o,e,c,k,d⟩,_⟩:=I.tuple x.at_.sq
  cases ru with
  | cons r1 r2=>
   cases r2 with
   | cons r2 r3=>
    cases r3
    cases r1
    obtain ⟨tk,rfl⟩:=r2
    exact ⟨o,k,tk,e,c,d,fun z=>by rw [z,at0] at e; injection e with e; rw [<- e] at c; exact absurd (show Value.type "list"=Value.type "tuple" from c) (by decide)⟩
 have pk:∀ t∈ts,cx X.prog X.w s.heap t.2.2.1 t.2.1:=fun t ht=>lc I (hT t ht).key
 have uniq:∀ t∈ts,∀ t'∈ts,t.1=t'.1->t.2.2=t'.2.2:=fun t ht t' ht' e=>by
  have a1:=(hT t ht).at_
  have a2:=(hT t' ht').at_
  rw [e] at a1
  have a1:=I.tuple_inj a2.sq a1.sq
  injection a1 with a1 a3
  injection a1 with a1
  injection a3 with a3 _
  injection a3 with a3
  have p1:=pk t ht
  rw [<- a1] at p1
  exact Prod.ext (p1.inj (pk t' ht')) a3.symm
 have kuniq:∀ t∈ts,∀ t'∈ts,t.2.2.1=t'.2.2.1->t=t':=fun t ht t' ht' e=>by
  obtain ⟨i,hi,rfl⟩:=List.getElem_of_mem ht
  obtain ⟨j,hj,rfl⟩:=List.getElem_of_mem ht'
  have:i=j:=(List.getElem_inj (h₀:=by simpa using hi) (h₁:=by simpa using hj) nd).mp (by simpa using e)
  subst this; rfl
 obtain ⟨key,hkey⟩:∃ key:Keyed->List Pr,∀ t∈ts,key (Value.ref t.1,Value.ref t.1)=t.2.2.1:=by
  refine ⟨fun x=>open Classical in if h:∃ t∈ts,x.1=Value.ref t.1 then (Classical.choose h).2.2.1 else [],fun t ht=>?_⟩
  have h:∃ t'∈ts,(Value.ref t.1,Value.ref t.1).1=Value.ref t'.1:=⟨t,ht,rfl⟩
  dsimp only
  rw [dif_pos h]
  obtain ⟨h1,h2⟩:=Classical.choose_spec h
  injection h2 with h2
  rw [uniq t ht _ h1 h2]
 generalize hks:ts.map (fun t=>t.2.2.1)=ks at nd
 have mk:∀ t∈ts,t.2.2.1∈ks:=fun t ht=>by rw [<- hks]; exact List.mem_map_of_mem (f:=fun t:IT=>t.2.2.1) ht
 let rk:Keyed->Nat:=fun x=>ks.countP fun z=>ltK z (key x)
 have hrk:∀ t∈ts,∀ t'∈ts,decide (rk (Value.ref t.1,Value.ref t.1) < rk (Value.ref t'.1,Value.ref t'.1))=ltK t.2.2.1 t'.2.2.1:=fun t ht t' ht'=>by
  show decide (ks.countP (fun z=>ltK z (key _)) < ks.countP fun z=>ltK z (key _))=_
  rw [hkey t ht,hkey t' ht']
  exact vg (mk t ht) (mk t' ht')
 have ez:(ts.map fun t=>Value.ref t.1).zip (ts.map fun t=>Value.ref t.1)=ts.map fun t=>(Value.ref t.1,Value.ref t.1):=by
  rw [List.zip_map',]
 refine wpAny_call_entry slot_list_sort ⟨_,at0,rfl⟩ entry_list_sort (kM (kd:=tuples' false) (M:=fun x=>∃ t∈ts,x=(Value.ref t.1,Value.ref t.1)) (rk:=rk) at0 (by rw [ll]; omega) (by rw [ll,sizeLine_eq]; omega) (fun hp kp=>⟨?K,?O⟩) ?Z fun hp ep ks' k2 pm up e2=>⟨_,rfl,?F⟩) (args_list_sort _)
 case K=>
  have firsts:∀ (qs:List IT),(∀ t∈qs,t∈ts)->KatTups hp (qs.map fun t=>Value.ref t.1) (qs.map fun t=>Value.ref t.2.1):=by
   intro qs
   induction qs with
   | nil=>intro _; exact KatTups.nil
   | cons t qs ih=>
    intro hs
    obtain ⟨o,k,tk,e,c,d,ne⟩:=obj t (hs t List.mem_cons_self)
    exact KatTups.cons (kp _ o ne e) c d rfl (ih fun x hx=>hs x (List.mem_cons_of_mem _ hx))
  refine kat_kind (T:=.type "tuple") (s:={ s with heap:=hp }) (firsts ts fun _ h=>h) (by rw [List.length_map]; omega) (fun v hv=>?_) (by decide) ⟨rfl,rfl⟩
  obtain ⟨t,ht,rfl⟩:=List.mem_map.mp hv
  obtain ⟨o,_,_,e,c,_⟩:=pk t ht
  have nl:t.2.1≠l:=fun z=>by rw [z,at0] at e; injection e with e; rw [<- e] at c; exact absurd (show Value.type "list"=Value.type "tuple" from c) (by decide)
  exact fun A Q E s' kk q=>wpAny_typeOf (T:="tuple") ⟨o,kk _ _ (kp _ o nl e),c⟩ q
 case O=>
  rintro x y C E' ⟨t,ht,rfl⟩ ⟨t',ht',rfl⟩ hC
  obtain ⟨o,k,tk,e,c,d,ne⟩:=obj t ht
  obtain ⟨o',k',tk',e',c',d',ne'⟩:=obj t' ht'
  have mv:∀ b o,s.heap.get? b=some o->o.cls=.type "tuple"->hp.get? b=some o:=fun b o e c=>kp b o (fun z=>by rw [z,at0] at e; injection e with e; rw [<- e] at c; exact absurd (show Value.type "list"=Value.type "tuple" from c) (by decide)) e
  refine xy (s:={ s with heap:=hp }) (by show A.units + 1 + 2 < cLine; omega) (kp _ o ne e) d (kp _ o' ne' e') d' ((pk t ht).mv mv) ((pk t' ht').mv mv) (fun z=>by rw [kuniq t ht t' ht' z]) ?_
  rw [hrk t ht t' ht'] at hC
  exact hC
 case Z=>
  rw [ez]
  refine ⟨fun u hu=>?_⟩
  obtain ⟨t,ht,rfl⟩:=List.mem_map.mp hu
  exact ⟨t,ht,rfl⟩
 case F=>
  rw [ez] at pm
  obtain ⟨ts',p',rfl⟩:=sG (fun t:IT=>(Value.ref t.1,Value.ref t.1)) pm rfl
  have e3:(ts'.map fun t=>(Value.ref t.1,Value.ref t.1)).map (·.2)=ts'.map fun t=>Value.ref t.1:=by rw [List.map_map]; rfl
  rw [e3] at e2
  refine q ts' hp p' ?_ (I.setList hm hq (vr ts') (by rw [List.length_map,p'.length_eq,sizeLine_eq]; omega) (hm.at' fun o e=>k2 _ o (Ne.symm nL) e) (fun b o _ hb z=>k2 b o hb z) e2)
  rw [TS.Up,List.pairwise_map] at up
  have nd':(ts'.map fun t=>t.2.2.1).Nodup:=(p'.map fun t:IT=>t.2.2.1).nodup_iff.mpr (by rw [hks]; exact nd)
  rw [List.pairwise_iff_getElem] at up ⊢
  intro i j hi hj hij
  have m1:ts'[i]∈ts:=p'.mem_iff.mp (List.getElem_mem hi)
  have m2:ts'[j]∈ts:=p'.mem_iff.mp (List.getElem_mem hj)
  have u:=up i j hi hj hij
  cases h:ltK ts'[i].2.2.1 ts'[j].2.2.1 with
  | true=>rfl
  | false=>
   have ne:ts'[i].2.2.1≠ts'[j].2.2.1:=fun z=>by
    have:i=j:=(List.getElem_inj (h₀:=by simpa using hi) (h₁:=by simpa using hj) nd').mp (by simpa using z)
    omega
   have a:=hrk _ m2 _ m1
   rw [hX ne h] at a
   exact absurd (of_decide_eq_true a) (Nat.not_lt.mpr u)
end
section
variable {X:Cx}
theorem oN {K:PySem.W.Frag} {H:Hp}:∀ {ts:List IT},(∀ t∈ts,si K H t)->Paired (TmR K H) (ts.map fun t=>t.2.2) (ts.map fun t=>V.ref t.1)
 | [],_=>.nil
 | t :: ts,h=>by
  have x:=h t List.mem_cons_self
  exact .cons ⟨t.1,t.2.1,rfl,.of x.at_,x.key⟩ (oN fun x hx=>h x (List.mem_cons_of_mem _ hx))
theorem fy (hc:X.calm=true) (hu:X.A.units + 10 < cLine):bM X (.builtin "sorted") (fun xs H Q=>∃ (v d:Addr) (m:List PM),xs=[.ref v]/\H v=some (cS v d)/\Dp X.K X.prog X.w H d m /\
  ∀ (H':Hp) (l:Addr) (us:List V) (m':List PM),aq H H'->H l=none->H' l=some (.lst us)->Paired (TmR X.K H') m' us->m'.Perm m->m'.Pairwise (fun p q=>ltK p.1 q.1=true)->Q (.ref l) H'):=by
 intro pins s σ H xs us Q I r h
 obtain ⟨v,d,m,rfl,hv,hd,q⟩:=h
 obtain ⟨u,rfl,ru⟩:=cC r
 cases ru
 obtain ⟨vw,_,_⟩:=(show aU X.prog X.w H s.heap v (cS v d) from I.hok v _ hv)
 obtain ⟨ys,_,sm,lm,pv,⟨od,es,ep,o1,o2,o3,o4,_,_⟩,ndy⟩:=jj I hd
 obtain ⟨_,_,_,_,ndm,_⟩:=id hd
 have ly:=rP pv
 have le:es.size=m.length:=by rw [<- Array.length_toList,o4,List.length_map,ly]
 refine Calls.call_function_entry kind_sorted plain_sorted entry_sorted (args_sorted1 _) ?_
 unfold Builtin.«sorted»
 refine wpAny_bind (m:=checkCount "sorted" 1 1 _) (wpAny_pure (wpAny_bind (jf (A:=X.A.in1) (es:=es) (ep:=ep) (I.ok.hd hc) vw ⟨od,o1,o2,o3⟩ (by rw [le,sizeLine_eq]; omega) fun h' tk as hk hl hG=>?_)))
 have la:as.length=m.length:=by rw [hl,le]
 generalize hts:(as.zip (m.zip ys)).map (fun z=>((z.1,z.2.2.2.1,z.2.1):IT))=ts
 have lts:ts.length=m.length:=by rw [<- hts,List.length_map,List.length_zip,List.length_zip]; omega
 have e1:ts.map (·.1)=as:=by
  rw [<- hts,List.map_map]
  have:((fun x:IT=>x.1) ∘ fun z:Addr×PM×PX=>((z.1,z.2.2.2.1,z.2.1):IT))=Prod.fst:=rfl
  rw [this,List.map_fst_zip (by rw [List.length_zip]; omega)]
 have e2:ts.map (·.2.2)=m:=by
  rw [<- hts,List.map_map]
  have:((fun x:IT=>x.2.2) ∘ fun z:Addr×PM×PX=>((z.1,z.2.2.2.1,z.2.1):IT))=(fun z:PM×PX=>z.1) ∘ Prod.snd:=rfl
  rw [this,<- List.map_map,List.map_snd_zip (by rw [List.length_zip]; omega)]
  exact List.map_fst_zip (by omega)
 have pairs:∀ t∈ts,∃ tk':Tok,h'.get? t.1=some { cls:=.type "tuple",data:=.seq #[.ref t.2.1,.int t.2.2.2 tk'] }/\bZ X.K H t.2.2.1 t.2.1:=fun t ht=>by
  rw [<- hts] at ht
  obtain ⟨⟨a,p,y⟩,hz,rfl⟩:=List.mem_map.mp ht
  obtain ⟨j,hj⟩:=List.getElem?_of_mem hz
  obtain ⟨ha,hz2⟩:=List.getElem?_zip_eq_some.mp hj
  obtain ⟨hm,hy⟩:=List.getElem?_zip_eq_some.mp hz2
  obtain ⟨e,g1,g2⟩:=hG.pairs j a ha
  have ge:es[j]?=some (entryOfKey (fm X.prog X.w) y):=by rw [<- Array.getElem?_toList,o4,List.getElem?_map,hy]; rfl
  rw [ge] at g1
  cases g1
  have at_:∀ {m:List PM} {ys:List PX},Paired (pvR X.K H) m ys->∀ {j:Nat} {p:PM} {y:PX},m[j]?=some p->ys[j]?=some y->pvR X.K H p y:=by
   intro m ys pv
   induction pv with
   | nil=>intro j p y h _; simp at h
   | cons r t ih=>
    intro j p y h1 h2
    cases j with
    | zero=>cases h1; cases h2; exact r
    | succ j=>exact ih h1 h2
  obtain ⟨_,rr,tk',ev⟩:=at_ pv hm hy
  refine ⟨tk',?_,rr⟩
  show h'.get? a=some { cls:=.type "tuple",data:=.seq #[.ref y.2.1,.int p.2 tk'] }
  rw [g2,<- ev]; rfl
 have nda:(ts.map (·.1)).Nodup:=by rw [e1]; exact hG.rise.imp fun h=>Nat.ne_of_lt h
 have above:∀ t∈ts,s.heap.objs.size<=t.1:=fun t ht=>Nat.le_of_lt (hG.above t.1 (by rw [<- e1]; exact List.mem_map_of_mem (f:=fun t:IT=>t.1) ht))
 generalize hrs:ts.map (fun t=>((t.1,[V.ref t.2.1,V.int t.2.2.2]):TV))=rs
 have er:rs.map (·.1)=ts.map (·.1):=by rw [<- hrs,List.map_map]; rfl
 have inr:∀ r∈rs,∃ t∈ts,r=(t.1,[V.ref t.2.1,V.int t.2.2.2]):=fun r hr=>by rw [<- hrs] at hr; obtain ⟨t,ht,rfl⟩:=List.mem_map.mp hr; exact ⟨t,ht,rfl⟩
 have I1:Inv X pins σ (laysV H rs) { s with heap:=h',toks:=tk }:=I.laysV hk (by rw [er]; exact nda) (fun r hr=>by obtain ⟨t,ht,rfl⟩:=inr r hr; exact above t ht) fun r hr=>by
  obtain ⟨t,ht,rfl⟩:=inr r hr
  obtain ⟨tk',g,_⟩:=pairs t ht
  exact ⟨by show 2<=sizeLine; rw [sizeLine_eq]; decide,[.ref t.2.1,.int t.2.2.2 tk'],.cons rfl (.cons ⟨tk',rfl⟩ .nil),⟨_,g,rfl,0,rfl⟩,⟨_,g,rfl⟩⟩
 have s1:aq H (laysV H rs):=fun b o e=>by
  rw [gh fun r hr z'=>by
   obtain ⟨t,ht,rfl⟩:=inr r hr
   have h1:=above t ht
   rw [show t.1=b from z'] at h1
   exact absurd (I.hok.lt e) (Nat.not_lt.mpr h1)]
  exact e
 refine wpAny_bind (wpAny_newList ?_ (by rw [List.length_map,la,sizeLine_eq]; omega))
 have ev:as.map Value.ref=rs.map fun p=>Value.ref p.1:=by rw [<- e1,<- er,List.map_map]; rfl
 rw [ev]
 have I2:=I1.lnew (t':=tk) (its:=rs.map fun p=>Value.ref p.1) (nU rs) (by rw [List.length_map,<- List.length_map (f:=(·.1)) (as:=rs),er,List.length_map,lts,sizeLine_eq]; omega)
 have fr:laysV H rs h'.objs.size=none:=I1.fresh
 have hnone:H h'.objs.size=none:=by
  cases e:H h'.objs.size with
  | none=>rfl
  | some o=>have:=s1 _ _ e; rw [fr] at this; cases this
 have ev2:(rs.map fun p=>V.ref p.1)=ts.map fun t=>V.ref t.1:=by rw [<- hrs,List.map_map]; rfl
 rw [ev2] at I2
 have okT:∀ t∈ts,si X.K (laysV H rs) t:=fun t ht=>by
  obtain ⟨_,_,rr⟩:=pairs t ht
  refine ⟨?_,rr.mono s1⟩
  have:=mV (H:=H) (by rw [er]; exact nda) (r:=(t.1,[V.ref t.2.1,V.int t.2.2.2])) (by rw [<- hrs]; exact List.mem_map_of_mem (f:=fun t:IT=>((t.1,[V.ref t.2.1,V.int t.2.2.2]):TV)) ht)
  exact this
 have s2:∀ o,aq (laysV H rs) (upd (laysV H rs) h'.objs.size o):=fun o=>ak fr _
 have okS:∀ o,∀ t∈ts,si X.K (upd (laysV H rs) h'.objs.size o) t:=fun o t ht=>⟨s2 o _ _ (okT t ht).at_,(okT t ht).key.mono (s2 o)⟩
 have ndk:(ts.map fun t=>t.2.2.1).Nodup:=by
  have:ts.map (fun t=>t.2.2.1)=m.map (·.1):=by rw [<- e2,List.map_map]; rfl
  rw [this]; exact ndm
 refine wpAny_bind (wpAny_holding (lW (A:=X.A.in1) (l:=h'.objs.size) (ts:=ts) (by show X.A.units + 1 + 3 < cLine; omega) I2 af (fun t ht=>(okS _ t ht).weak) ndk (by omega) fun ts' h2 pq pw I3=>?_))
 rw [lg] at I3
 refine wpAny_pure ⟨_,rfl,.ref h'.objs.size,_,I3,rfl,q _ _ _ (ts'.map (·.2.2)) (s1.trans (s2 _)) hnone af ?_ (by rw [<- e2]; exact pq.map _) (by rw [List.pairwise_map]; exact pw)⟩
 exact oN fun t ht=>okS _ t (pq.mem_iff.mp ht)
end
open PySem PySem.Spec PyProof.Rows PySem.W
section
variable {prog:Program} {w:World} {A:Around} {E:Value->Shared->Prop} {s:Shared} {r l S:Addr} {items:Array Value}
end
section
variable {X:Cx} {e:Expr} {te:TE} {p p1 pos pos1:Pos}
def vx (K:PySem.W.Frag) (P:Program) (w:World) (to:TE):TE:=fun σ H Q=>to σ H fun x H1=>∃ d m,x=.ref d/\Dp K P w H1 d m/\∀ v,H1 v=none->Q (.ref v) (upd H1 v (cS v d))
theorem js {o:Expr} {to:TE} {apos cpos:Pos} (ho:PE X o to) (hbase:attributeBase o "items" X.env (eval o X.env)=eval o X.env:=by rfl) (hline:(apos.endLine == cpos.line)=true:=by rfl):PE X (.Call (.Attribute o "items" apos) [] [] cpos) (vx X.K X.prog X.w to):=by
 intro pins s σ H Q I h
 refine wpAny_Call_method0_late hbase hline (thn (ho pins s σ H _ I h) fun v s1 ⟨x,H1,I1,r1,d,m,ex,hd,q1⟩=>?_)
 subst ex
 obtain rfl:v=Value.ref d:=r1
 obtain ⟨ys,_,_,_,_,dd,_⟩:=jj I1 hd
 have h2:∀ a,Value.ref d=.ref a->∃ ob,s1.heap.get? a=some ob/\ob.dict=none:=fun b q=>by cases q; obtain ⟨ob,_,_,h1,h2,_⟩:=dd; exact ⟨ob,h1,h2.2.1⟩
 exact ⟨"dict","dict.items",PySem.F.plainAttrs_dict,PySem.F.slot_dict_items,PySem.F.type_dict_items,dd.typeIs,h2,Calls.callWith_builtin rfl (PySem.evalArgs_none (qH pins s1 σ H1 (.ref d) [] (.ref d) [] Q I1 rfl .nil ⟨d,m,rfl,rfl,hd,q1⟩))⟩
end
section
variable {X:Cx} {pins:List (Addr×Obj)} {σ:St} {H:Hp} {s:Shared}
end
section
variable {X:Cx}
end
section
variable {X:Cx} {o e:Expr} {apos cpos:Pos} {to te:TE}
end
open PySem PySem.Spec PyProof.Rows PySem.W KB
section
variable {P:Program} {w:World} {H H':Hp} {h:Heap} {a b:Addr} {m:List TM} {xs:List TX} {k:List Str} {n:Int}
end
section
variable {X:Cx} {o e f i value:Expr} {apos cpos pos pos':Pos} {td ty tx tv:TE}
end
section
variable {X:Cx}
end
section
variable {prog:Program} {w:World} {A:Around} {E:Value->Shared->Prop} {s:Shared} {t d v:Addr} {es:Array DictEntry} {i ep:Nat}
end
section
variable {X:Cx} {tg:Expr}
end
section
variable {X:Cx} {o e i:Expr} {td ty to:TE} {apos cpos pos:Pos}
end
section
variable {X:Cx} {pins:List (Addr×Obj)} {σ:St} {H:Hp} {s:Shared}
end
section
variable {prog:Program} {w:World} {A:Around} {E:Value->Shared->Prop} {s:Shared} {d r S:Addr} {es:Array DictEntry} {ep:Nat}
end
section
variable {X:Cx}
end
theorem bZ.tup {K:PySem.W.Frag} {H:Hp} {ps:List Pr} {a:Addr} (h:bZ K H ps a):∃ us,Tp K H a us/\Reps H (aB ps) us:=by
 rcases h with R | ⟨rfl,R⟩
 ·obtain ⟨a',us,e,ha,ru⟩:=Rep.tup_inv R
  cases e
  exact ⟨us,.of ha,ru⟩
 ·exact ⟨[],R,by simp only [aB,List.map_nil,Reps]⟩
section
variable {X:Cx} {pins:List (Addr×Obj)} {σ:St} {H:Hp} {s:Shared}
end
end L2
namespace L2.ST
open PySem
def an:Nat->Nat
 | 0=>0
 | n + 1=>5 * an n + 1
theorem tz (n:Nat):4 * an n + 1=5 ^ n:=by
 induction n with
 | zero=>rfl
 | succ n ih=>rw [Nat.pow_succ,<- ih]; show 4 * (5 * an n + 1) + 1=_; omega
theorem wS (n:Nat):an n % 2=n % 2:=by
 induction n with
 | zero=>rfl
 | succ n ih=>show (5 * an n + 1) % 2=_; omega
theorem wc (k:Nat):an (2 * k)=2 * (an k * (2 * an k + 1)):=by
 have h1:=tz (2 * k)
 have h2:=tz k
 rw [Nat.mul_comm 2 k,Nat.pow_mul,<- h2] at h1
 have h3:(4 * an k + 1) ^ 2=4 * (2 * (an k * (2 * an k + 1))) + 1:=by
  rw [Nat.pow_succ,Nat.pow_one]
  have:(4 * an k + 1) * (4 * an k + 1)=16 * (an k * an k) + 8 * an k + 1:=by
   rw [Nat.add_mul,Nat.mul_add,Nat.one_mul,Nat.mul_one,Nat.mul_mul_mul_comm]; omega
  rw [this,Nat.mul_add,Nat.mul_one,show an k * (2 * an k)=2 * (an k * an k) by rw [Nat.mul_left_comm]]; omega
 rw [h3,Nat.mul_comm k 2] at h1
 omega
theorem pD {m x:Nat} (h:x % 2=1):Nat.Coprime (2 ^ m) x:=by
 refine Nat.Coprime.pow_left m ?_
 rw [Nat.coprime_iff_gcd_eq_one,Nat.gcd_rec,h]
 rfl
theorem sD:∀ {m d:Nat},2 ^ m ∣ an d->2 ^ m ∣ d
 | 0,d,_=>by rw [Nat.pow_zero]; exact Nat.one_dvd _
 | m + 1,d,h=>by
  have h2:2 ∣ an d:=Nat.dvd_trans (by rw [Nat.pow_succ]; exact Nat.dvd_mul_left _ _) h
  have e:=wS d
  obtain ⟨k,rfl⟩:∃ k,d=2 * k:=⟨d / 2,by omega⟩
  rw [wc,Nat.pow_succ,Nat.mul_comm (2 ^ m)] at h
  have h3:=Nat.dvd_of_mul_dvd_mul_left (by decide) h
  have h4:=(pD (m:=m) (x:=2 * an k + 1) (by omega)).dvd_of_dvd_mul_right h3
  rw [Nat.pow_succ,Nat.mul_comm (2 ^ m)]
  exact Nat.mul_dvd_mul_left 2 (sD h4)
def it (n x:Nat):Nat:=an n * (4 * x + 1) + x
theorem jY (n x:Nat):it (n + 1) x=5 * it n x + 1:=by
 unfold it
 show (5 * an n + 1) * (4 * x + 1) + x=_
 rw [Nat.add_mul,Nat.one_mul,Nat.mul_assoc]; omega
theorem wV (a b x:Nat):it (a + b) x=it a (it b x):=by
 induction a with
 | zero=>rw [Nat.zero_add]; unfold it; show _=0 * _ + _; omega
 | succ a ih=>rw [Nat.succ_add,jY,jY,ih]
theorem xA {m x i j:Nat} (h:i < j) (hj:j < 2 ^ m):it i x % 2 ^ m≠it j x % 2 ^ m:=fun e=>by
 obtain ⟨d,rfl⟩:∃ d,j=d + i:=⟨j - i,by omega⟩
 rw [wV] at e
 generalize it i x=y at e
 have h1:2 ^ m ∣ an d * (4 * y + 1):=by
  have:=Nat.sub_mod_eq_zero_of_mod_eq (show (an d * (4 * y + 1) + y) % 2 ^ m=y % 2 ^ m from e.symm)
  rw [Nat.add_sub_cancel] at this
  exact Nat.dvd_of_mod_eq_zero this
 have h2:=sD ((pD (m:=m) (x:=4 * y + 1) (by omega)).dvd_of_dvd_mul_right h1)
 have:=Nat.le_of_dvd (by omega) h2
 omega
def cy (mask:Nat):Nat->Nat×Nat->Nat×Nat
 | 0,q=>q
 | n + 1,q=>cy mask n (SetTable.leap mask q.1 q.2)
theorem gC (mask:Nat):∀ (a b:Nat) (q:Nat×Nat),cy mask (a + b) q=cy mask a (cy mask b q)
 | a,0,q=>rfl
 | a,b + 1,q=>by show cy mask (a + b) _=_; rw [gC mask a b]; rfl
theorem pO (mask:Nat):∀ (n:Nat) (q:Nat×Nat),(cy mask n q).2=q.2 / 32 ^ n
 | 0,q=>by show q.2=q.2 / 1; rw [Nat.div_one]
 | n + 1,q=>by show (cy mask n _).2=_; rw [pO mask n]; show q.2 / 32 / 32 ^ n=_; rw [Nat.div_div_eq_div_mul,Nat.pow_succ,Nat.mul_comm]
theorem rW {m:Nat} (n i:Nat) (hi:i < 2 ^ m):cy (2 ^ m - 1) n (i,0)=(it n i % 2 ^ m,0):=by
 have p:2 ^ m - 1 + 1=2 ^ m:=Nat.sub_add_cancel (Nat.one_le_two_pow)
 induction n with
 | zero=>show (i,0)=_; unfold it; show _=((0 * _ + i) % 2 ^ m,0); rw [Nat.zero_mul,Nat.zero_add,Nat.mod_eq_of_lt hi]
 | succ n ih=>
  rw [Nat.add_comm n 1,gC,ih]
  show SetTable.leap _ _ _=_
  unfold SetTable.leap
  rw [p,Nat.add_comm 1 n,jY]
  show (((it n i % 2 ^ m) * 5 + 1 + 0 / 32) % 2 ^ m,0 / 32)=_
  rw [show 0 / 32=0 from rfl,Nat.add_zero]
  congr 1
  rw [Nat.mul_comm,Nat.add_mod,Nat.mul_mod,Nat.mod_mod,<- Nat.mul_mod,<- Nat.add_mod]
theorem oP {m:Nat} (q:Nat×Nat):(SetTable.leap (2 ^ m - 1) q.1 q.2).1 < 2 ^ m:=by
 unfold SetTable.leap
 have p:2 ^ m - 1 + 1=2 ^ m:=Nat.sub_add_cancel (Nat.one_le_two_pow)
 rw [p]
 exact Nat.mod_lt _ (Nat.two_pow_pos m)
theorem iy {m:Nat}:∀ (n:Nat) (q:Nat×Nat),q.1 < 2 ^ m->(cy (2 ^ m - 1) n q).1 < 2 ^ m
 | 0,q,h=>h
 | n + 1,q,h=>iy n _ (oP q)
theorem nd_le {α:Type} [DecidableEq α]:∀ {l B:List α},l.Nodup->l ⊆ B->l.length<=B.length
 | [],_,_,_=>Nat.zero_le _
 | x :: l,B,nd,sub=>by
  obtain ⟨h1,h2⟩:=List.nodup_cons.mp nd
  have hx:x∈B:=sub List.mem_cons_self
  have:=nd_le (l:=l) (B:=B.erase x) h2 fun y hy=>(List.mem_erase_of_ne (fun e=>h1 (by rw [<- e]; exact hy))).mpr (sub (List.mem_cons_of_mem _ hy))
  rw [List.length_erase_of_mem hx] at this
  have:=List.length_pos_of_mem hx
  rw [List.length_cons]; omega
theorem jo {m:Nat} {B:List Nat} (hB:B.length < 2 ^ m) (q:Nat×Nat) (h1:q.1 < 2 ^ m) (h2:q.2 < 2 ^ 64):∃ n,n<=2 ^ m + 12/\(cy (2 ^ m - 1) n q).1∉B:=by
 have p0:(cy (2 ^ m - 1) 13 q).2=0:=by
  rw [pO]
  exact Nat.div_eq_of_lt (Nat.lt_trans h2 (by decide))
 have l0:=iy 13 q h1
 generalize hq:cy (2 ^ m - 1) 13 q=r at p0 l0
 obtain ⟨i,pt⟩:=r
 obtain rfl:pt=0:=p0
 by_cases h:∃ k,k < 2 ^ m/\it k i % 2 ^ m∉B
 ·obtain ⟨k,hk,hn⟩:=h
  refine ⟨k + 13,by omega,?_⟩
  rw [gC,hq,rW k i l0]
  exact hn
 ·exfalso
  have all:∀ k,k < 2 ^ m->it k i % 2 ^ m∈B:=fun k hk=>Classical.byContradiction fun z=>h ⟨k,hk,z⟩
  have nd:((List.range (2 ^ m)).map fun k=>it k i % 2 ^ m).Nodup:=by
   refine List.pairwise_map.mpr (List.pairwise_iff_getElem.mpr fun a b ha hb hab=>?_)
   rw [List.getElem_range,List.getElem_range]
   exact xA hab (by simpa using hb)
  have sub:((List.range (2 ^ m)).map fun k=>it k i % 2 ^ m) ⊆ B:=fun x hx=>by
   obtain ⟨k,hk,rfl⟩:=List.mem_map.mp hx
   exact all k (List.mem_range.mp hk)
  have:=nd_le nd sub
  rw [List.length_map,List.length_range] at this
  omega
def kL (t:SetTable):Nat->SetTable.Probe->SetTable.Probe
 | 0,p=>p
 | n + 1,p=>kL t n (t.advance p)
theorem iu (t:SetTable):∀ (a b:Nat) (p:SetTable.Probe),kL t (a + b) p=kL t a (kL t b p)
 | a,0,p=>rfl
 | a,b + 1,p=>by show kL t (a + b) _=_; rw [iu t a b]; rfl
def lst (t:SetTable) (q:Nat×Nat) (d:Option Nat):SetTable.Probe:={ j:=q.1,more:=SetTable.runEnd t.mask q.1 - q.1,i:=q.1,perturb:=q.2,dummy:=d }
theorem nS (mask i:Nat):SetTable.runEnd mask i - i<=9:=by unfold SetTable.runEnd; split <;> omega
theorem jN (t:SetTable):∀ (n:Nat) (p:SetTable.Probe),p.more=n->kL t (n + 1) p=lst t (SetTable.leap t.mask p.i p.perturb) p.dummy
 | 0,p,h=>by
  show t.advance p=_
  unfold SetTable.advance
  rw [if_neg (by omega)]
  rfl
 | n + 1,p,h=>by
  show kL t (n + 1) (t.advance p)=_
  have e:t.advance p={ p with j:=p.j + 1,more:=p.more - 1 }:=by unfold SetTable.advance; rw [if_pos (by omega)]
  rw [e,jN t n _ (by show p.more - 1=n; omega)]
theorem jg (t:SetTable) (d:Option Nat):∀ (k:Nat) (q:Nat×Nat),∃ n,n<=10 * k/\kL t n (lst t q d)=lst t (cy t.mask k q) d
 | 0,q=>⟨0,Nat.le_refl _,rfl⟩
 | k + 1,q=>by
  obtain ⟨n,hn,e⟩:=jg t d k (SetTable.leap t.mask q.1 q.2)
  have h:=jN t _ (lst t q d) rfl
  have:=nS t.mask q.1
  refine ⟨n + ((lst t q d).more + 1),?_,?_⟩
  ·show n + (SetTable.runEnd t.mask q.1 - q.1 + 1)<=_
   omega
  ·rw [iu,h]; exact e
structure Tb (t:SetTable) (m:Nat):Prop where
 mask:t.mask=2 ^ m - 1
 few:t.place.size < 2 ^ m
 nod:t.dummies=#[]
theorem qG {t:SetTable} {m:Nat} (h:Tb t m) {j:Nat} (hj:j∉t.place.toList):t.slot j=.empty:=by
 unfold SetTable.slot
 have e1:(t.place[SetTable.below t.place j]? == some j)=false:=by
  cases e:t.place[SetTable.below t.place j]? with
  | none=>rfl
  | some x=>
   have hx:x∈t.place.toList:=by
    rw [<- Array.getElem?_toList] at e
    exact List.mem_of_getElem? e
   by_cases z:x=j
   ·subst z; exact absurd hx hj
   ·simpa using z
 simp only [e1,Bool.false_eq_true,if_false]
 rw [h.nod]
 rfl
theorem rG {t:SetTable} {m:Nat} (h:Tb t m) (j:Nat):t.slot j≠.dummy:=by
 unfold SetTable.slot
 rw [h.nod]
 simp only
 split
 ·exact nofun
 ·rw [if_neg (by simp [SetTable.has])]
  exact nofun
def qM (t:SetTable) (p:SetTable.Probe) (n:Nat):Prop:=t.slot (kL t n p).j=.empty
theorem qE {t:SetTable} {m:Nat} (h:Tb t m) {p:SetTable.Probe} (hm:p.more<=9) (hp:p.perturb < 2 ^ 64):∃ n,n < 10 * (2 ^ m + 14)/\qM t p n:=by
 have l1:=oP (m:=m) (p.i,p.perturb)
 have l2:(SetTable.leap (2 ^ m - 1) p.i p.perturb).2 < 2 ^ 64:=by
  show p.perturb / 32 < _
  exact Nat.lt_of_le_of_lt (Nat.div_le_self _ _) hp
 obtain ⟨k,hk,hn⟩:=jo (m:=m) (B:=t.place.toList) (by simpa using h.few) _ l1 l2
 obtain ⟨n,hn2,e⟩:=jg t p.dummy k (SetTable.leap t.mask p.i p.perturb)
 refine ⟨n + (p.more + 1),by omega,?_⟩
 unfold qM
 rw [iu,jN t _ p rfl,e]
 refine qG h ?_
 show (cy t.mask k (SetTable.leap t.mask p.i p.perturb)).1∉_
 rw [h.mask]
 exact hn
theorem xW {t:SetTable} {m:Nat} (h:Tb t m) (hashAt:Nat->Int) (hh:Int):∀ (n fuel:Nat) (p:SetTable.Probe),qM t p n->n < fuel->p.dummy=none->p.more<=9->p.perturb < 2 ^ 64 ->
  (∃ j,SetTable.probe.go t hashAt hh fuel p=some (.empty j none)/\t.slot j=.empty)\/∃ j i next n',SetTable.probe.go t hashAt hh fuel p=some (.candidate j i next)/\t.slot j=.live i/\qM t next n'/\n' < n/\next.dummy=none/\next.more<=9/\next.perturb < 2 ^ 64:=by
 have adv:∀ p:SetTable.Probe,p.dummy=none->p.more<=9->p.perturb < 2 ^ 64->(t.advance p).dummy=none/\(t.advance p).more<=9/\(t.advance p).perturb < 2 ^ 64:=fun p h1 h2 h3=>by
  unfold SetTable.advance
  split
  ·exact ⟨h1,by show p.more - 1<=9; omega,h3⟩
  ·exact ⟨h1,nS _ _,Nat.lt_of_le_of_lt (Nat.div_le_self _ _) h3⟩
 intro n
 induction n with
 | zero=>
  intro fuel p hd hf hdm _ _
  obtain ⟨fuel,rfl⟩:∃ k,fuel=k + 1:=⟨fuel - 1,by omega⟩
  have hd:t.slot p.j=.empty:=hd
  refine .inl ⟨p.j,?_,hd⟩
  unfold SetTable.probe.go
  rw [hd,hdm]
 | succ n ih=>
  intro fuel p hd hf hdm hm hp
  obtain ⟨fuel,rfl⟩:∃ k,fuel=k + 1:=⟨fuel - 1,by omega⟩
  have hd:qM t (t.advance p) n:=hd
  obtain ⟨a1,a2,a3⟩:=adv p hdm hm hp
  cases e:t.slot p.j with
  | empty=>
   refine .inl ⟨p.j,?_,e⟩
   unfold SetTable.probe.go
   rw [e,hdm]
  | dummy=>exact absurd e (rG h _)
  | live i=>
   by_cases z:(hashAt i == hh)=true
   ·refine .inr ⟨p.j,i,t.advance p,n,?_,e,hd,Nat.lt_succ_self _,a1,a2,a3⟩
    unfold SetTable.probe.go
    simp only [e,z,if_true]
   ·have ge:SetTable.probe.go t hashAt hh (fuel + 1) p=SetTable.probe.go t hashAt hh fuel (t.advance p):=by
     rw [SetTable.probe.go]
     simp only [e,if_neg z]
    rw [ge]
    rcases ih fuel _ hd (by omega) a1 a2 a3 with r | ⟨j,i',nx,n',r1,r2,r3,r4,r5⟩
    ·exact .inl r
    ·exact .inr ⟨j,i',nx,n',r1,r2,r3,by omega,r5⟩
end L2.ST
namespace L2.ST
open PySem
theorem uH {mask:Nat} {owner:Array (Option Nat)}:∀ (n fuel i pt:Nat),n < fuel->(owner.getD (cy mask n (i,pt)).1 (some 0)).isNone=true->∃ j,SetTable.layClean.free mask owner fuel i pt=some j/\(owner.getD j (some 0)).isNone=true:=by
 intro n
 induction n with
 | zero=>
  intro fuel i pt hf h
  obtain ⟨fuel,rfl⟩:∃ k,fuel=k + 1:=⟨fuel - 1,by omega⟩
  unfold SetTable.layClean.free
  cases e:(List.range (SetTable.runEnd mask i + 1 - i)).find? fun k=>(owner.getD (i + k) (some 0)).isNone with
  | some k=>exact ⟨i + k,rfl,by have:=List.find?_some e; exact this⟩
  | none=>
   have hm:0∈List.range (SetTable.runEnd mask i + 1 - i):=List.mem_range.mpr (by unfold SetTable.runEnd; split <;> omega)
   exact absurd h (List.find?_eq_none.mp e 0 hm)
 | succ n ih=>
  intro fuel i pt hf h
  obtain ⟨fuel,rfl⟩:∃ k,fuel=k + 1:=⟨fuel - 1,by omega⟩
  unfold SetTable.layClean.free
  cases e:(List.range (SetTable.runEnd mask i + 1 - i)).find? fun k=>(owner.getD (i + k) (some 0)).isNone with
  | some k=>exact ⟨i + k,rfl,by have:=List.find?_some e; exact this⟩
  | none=>exact ih fuel _ _ (by omega) h
def live (owner:Array (Option Nat)) (n:Nat):List Nat:=(List.range n).filterMap fun j=>owner.getD j none
theorem iN {α β:Type} {f g:α->Option β}:∀ {l:List α},(∀ x∈l,f x=g x)->l.filterMap f=l.filterMap g
 | [],_=>rfl
 | x :: l,h=>by
  have ih:=iN (l:=l) fun y hy=>h y (List.mem_cons_of_mem _ hy)
  rw [List.filterMap_cons,List.filterMap_cons,h x List.mem_cons_self,ih]
theorem rQ {f g:Nat->Option Nat} {j k:Nat} (hf:f j=none) (hg:g j=some k) (h:∀ x,x≠j->g x=f x):∀ {l:List Nat},l.Nodup->j∈l->(l.filterMap g).Perm (k :: l.filterMap f)
 | x :: l,nd,hj=>by
  obtain ⟨h1,h2⟩:=List.nodup_cons.mp nd
  by_cases e:x=j
  ·subst e
   rw [List.filterMap_cons_some hg,List.filterMap_cons_none hf]
   have:l.filterMap g=l.filterMap f:=iN fun y hy=>h y fun z=>h1 (by rw [<- z]; exact hy)
   rw [this]
  ·have hj':j∈l:=by rcases List.mem_cons.mp hj with z | z; exact absurd z.symm e; exact z
   have ih:=rQ hf hg h h2 hj'
   cases hx:f x with
   | none=>rw [List.filterMap_cons_none (by rw [h x e]; exact hx),List.filterMap_cons_none hx]; exact ih
   | some y=>rw [List.filterMap_cons_some (by rw [h x e]; exact hx),List.filterMap_cons_some hx]; exact (ih.cons y).trans (.swap _ _ _)
theorem rN (f:Nat->Option Nat):∀ l:List Nat,(l.filter fun j=>(f j).isSome).length=(l.filterMap f).length
 | []=>rfl
 | x :: l=>by
  have ih:=rN f l
  cases e:f x with
  | none=>rw [List.filterMap_cons_none e,List.filter_cons,e,if_neg (by simp)]; exact ih
  | some y=>rw [List.filterMap_cons_some e,List.filter_cons,e,if_pos (by simp),List.length_cons,List.length_cons,ih]
theorem qi (h:Int):SetTable.bits h < 2 ^ 64:=by
 unfold SetTable.bits
 have h1:=Int.emod_lt_of_pos h (show (0:Int) < 2 ^ 64 by decide)
 have h2:=Int.emod_nonneg h (show (2 ^ 64:Int)≠0 by decide)
 omega
theorem ma {m:Nat}:∀ (hs:List Int) (owner:Array (Option Nat)) (k:Nat),owner.size=2 ^ m->(live owner (2 ^ m)).Perm (List.range k)->k + hs.length < 2 ^ m ->
  ∃ owner',hs.foldl (fun (acc:Option (Array (Option Nat)×Nat)) h=>do
   let (owner,k) <- acc
   let j <- SetTable.layClean.free (2 ^ m - 1) owner (SetTable.turns (2 ^ m - 1)) (SetTable.bits h % (2 ^ m - 1 + 1)) (SetTable.bits h)
   pure (owner.setIfInBounds j (some k),k + 1)) (some (owner,k))=some (owner',k + hs.length)/\owner'.size=2 ^ m/\(live owner' (2 ^ m)).Perm (List.range (k + hs.length))
 | [],owner,k,hz,hp,_=>⟨owner,rfl,hz,hp⟩
 | h :: hs,owner,k,hz,hp,hl=>by
  have p:2 ^ m - 1 + 1=2 ^ m:=Nat.sub_add_cancel (Nat.one_le_two_pow)
  have lb:((List.range (2 ^ m)).filter fun j=>((fun j=>owner.getD j none) j).isSome).length=k:=by
   rw [rN]
   have:=hp.length_eq
   rw [List.length_range] at this
   exact this
  rw [List.length_cons] at hl
  have li:SetTable.bits h % (2 ^ m - 1 + 1) < 2 ^ m:=by rw [p]; exact Nat.mod_lt _ (Nat.two_pow_pos m)
  obtain ⟨n,hn,hf⟩:=jo (m:=m) (B:=(List.range (2 ^ m)).filter fun j=>((fun j=>owner.getD j none) j).isSome) (by omega) (SetTable.bits h % (2 ^ m - 1 + 1),SetTable.bits h) li (qi h)
  have lj:=iy (m:=m) n (SetTable.bits h % (2 ^ m - 1 + 1),SetTable.bits h) li
  generalize hj:(cy (2 ^ m - 1) n (SetTable.bits h % (2 ^ m - 1 + 1),SetTable.bits h)).1=j0 at hf lj
  have free0:(owner.getD j0 (some 0)).isNone=true:=by
   have hn2:¬ ((owner.getD j0 none).isSome=true):=fun z=>hf (List.mem_filter.mpr ⟨List.mem_range.mpr lj,z⟩)
   have lt:j0 < owner.size:=by omega
   simp only [Array.getD,lt,dite_true] at hn2 ⊢
   generalize owner.getInternal j0 _=x at hn2 ⊢
   cases x with
   | none=>rfl
   | some x=>exact absurd rfl hn2
  obtain ⟨j,ej,hj2⟩:=uH (mask:=2 ^ m - 1) (owner:=owner) n (SetTable.turns (2 ^ m - 1)) _ _ (by unfold SetTable.turns; omega) (by rw [hj]; exact free0)
  have ltj:j < owner.size:=by
   by_cases z:j < owner.size
   ·exact z
   ·simp [Array.getD,z] at hj2
  have nj:owner.getD j none=none:=by
   simp only [Array.getD,ltj,dite_true] at hj2 ⊢
   exact Option.isNone_iff_eq_none.mp hj2
  have hp':(live (owner.setIfInBounds j (some k)) (2 ^ m)).Perm (List.range (k + 1)):=by
   refine (rQ (f:=fun j=>owner.getD j none) (j:=j) (k:=k) nj ?_ ?_ List.nodup_range (List.mem_range.mpr (by omega))).trans ?_
   ·simp [Array.getD,ltj]
   ·intro x hx
    by_cases z:x < owner.size
    ·simp [Array.getD,z,Array.getElem_setIfInBounds,Ne.symm hx]
    ·simp [Array.getD,z]
   ·rw [List.range_succ]
    exact (hp.cons k).trans (List.perm_append_comm (l₁:=[k]))
  obtain ⟨o',e1,e2,e3⟩:=ma hs (owner.setIfInBounds j (some k)) (k + 1) (by rw [Array.size_setIfInBounds]; exact hz) hp' (by omega)
  refine ⟨o',?_,e2,by rw [List.length_cons,show k + (hs.length + 1)=k + 1 + hs.length by omega]; exact e3⟩
  rw [List.foldl_cons]
  show List.foldl _ ((SetTable.layClean.free (2 ^ m - 1) owner (SetTable.turns (2 ^ m - 1)) (SetTable.bits h % (2 ^ m - 1 + 1)) (SetTable.bits h)) >>= fun j=>pure (owner.setIfInBounds j (some k),k + 1)) hs=_
  rw [ej]
  show List.foldl _ (some (owner.setIfInBounds j (some k),k + 1)) hs=_
  rw [e1,List.length_cons,show k + (hs.length + 1)=k + 1 + hs.length by omega]
theorem uO {m finger moves:Nat} {led plain:Bool} {hs:Array Int} (h:hs.size < 2 ^ m):∃ t order,SetTable.laid (2 ^ m - 1) finger moves led plain hs=some (t,order)/\order.toList.Perm (List.range hs.size)/\t.mask=2 ^ m - 1/\t.place.size=hs.size/\t.dummies=#[]/\t.led=led/\t.plain=plain:=by
 have p:2 ^ m - 1 + 1=2 ^ m:=Nat.sub_add_cancel (Nat.one_le_two_pow)
 have lv0:(live (Array.replicate (2 ^ m) none) (2 ^ m)).Perm (List.range 0):=by
  have:live (Array.replicate (2 ^ m) none) (2 ^ m)=[]:=by
   unfold live
   refine List.filterMap_eq_nil_iff.mpr fun j hj=>?_
   have:=List.mem_range.mp hj
   simp [Array.getD,this]
  rw [this]; exact .refl _
 obtain ⟨o',e1,e2,e3⟩:=ma (m:=m) hs.toList (Array.replicate (2 ^ m) none) 0 (by simp) lv0 (by simpa using h)
 rw [Nat.zero_add,Array.length_toList] at e1 e3
 have el:SetTable.layClean (2 ^ m - 1) hs=some o':=by
  unfold SetTable.layClean
  rw [<- Array.foldl_toList,p]
  rw [p] at e1
  rw [e1]; rfl
 unfold SetTable.laid
 rw [el,p]
 have eo:(((List.range (2 ^ m)).filterMap fun j=>(o'.getD j none).map (j,·)).map (·.2))=live o' (2 ^ m):=by
  unfold live
  rw [List.map_filterMap]
  refine iN fun j _=>?_
  rw [Option.map_map]
  cases o'.getD j none <;> rfl
 refine ⟨_,_,rfl,?_,rfl,?_,rfl,rfl,rfl⟩
 ·show ((((List.range (2 ^ m)).filterMap fun j=>(o'.getD j none).map (j,·)).map (·.2)).toArray.toList).Perm _
  rw [eo]; exact e3
 ·show (((List.range (2 ^ m)).filterMap fun j=>(o'.getD j none).map (j,·)).map (·.1)).toArray.size=_
  have:=congrArg List.length eo
  rw [List.length_map,e3.length_eq,List.length_range] at this
  rw [List.size_toArray,List.length_map,this]
theorem nc (n:Nat):∀ (fuel m:Nat),3<=m->n < 2 ^ (m + fuel)->(m=3\/2 ^ m<=2 * n)->∃ m',SetTable.sizeAbove.go n fuel (2 ^ m)=2 ^ m'/\n < 2 ^ m'/\3<=m'/\(m'=3\/2 ^ m'<=2 * n)
 | 0,m,h3,hn,hb=>⟨m,rfl,hn,h3,hb⟩
 | fuel + 1,m,h3,hn,hb=>by
  unfold SetTable.sizeAbove.go
  split
  ·next h=>
   rw [<- Nat.pow_succ]
   exact nc n fuel (m + 1) (by omega) (by rw [Nat.add_right_comm]; exact hn) (.inr (by rw [Nat.pow_succ]; omega))
  ·exact ⟨m,rfl,by omega,h3,hb⟩
theorem tZ {n:Nat} (h:n < 2 ^ 60):∃ m,SetTable.sizeAbove n=2 ^ m/\n < 2 ^ m/\3<=m/\(m=3\/2 ^ m<=2 * n):=by
 unfold SetTable.sizeAbove
 exact nc n 64 3 (Nat.le_refl _) (Nat.lt_trans h (by decide)) (.inl rfl)
end L2.ST
namespace L2.ST
open PySem PySem.Spec PyProof.Rows PySem.W
def IsN (h:Heap):Nat->Dv->Value->Prop
 | _,.int i,v=>∃ t,v=.int i t
 | _,.str x,v=>∃ t,v=.str x t
 | n + 1,.tup ds,v=>∃ a o items k,v=.ref a/\h.get? a=some o/\o.cls=.type "tuple"/\o.data=.seq items k/\Paired (IsN h n) ds items.toList
 | _,_,_=>False
noncomputable def hN (w:World):Nat->Dv->Int
 | _,.int i=>vt w (.inl i)
 | _,.str x=>vt w (.inr x)
 | n + 1,.tup ds=>reduceHash (Builtin.Tuple.tupleHashOf (ds.map (hN w n)))
 | _,_=>0
def hB:Nat->Dv->Bool
 | _,.int _=>true
 | n + 1,.tup ds=>ds.all (hB n)
 | _,_=>false
theorem aJ {h:Heap} {n:Nat} {d:Dv} {v:Value} (x:IsN h n d v):(∃ i t,d=.int i/\v=.int i t)\/(∃ y t,d=.str y/\v=.str y t)\/∃ m ds a o items k,n=m + 1/\d=.tup ds/\v=.ref a/\h.get? a=some o/\o.cls=.type "tuple"/\o.data=.seq items k/\Paired (IsN h m) ds items.toList:=by
 cases d with
 | int i=>
  have:∃ t,v=Value.int i t:=by cases n <;> exact x
  obtain ⟨t,e⟩:=this
  exact .inl ⟨i,t,rfl,e⟩
 | str y=>
  have:∃ t,v=Value.str y t:=by cases n <;> exact x
  obtain ⟨t,e⟩:=this
  exact .inr (.inl ⟨y,t,rfl,e⟩)
 | tup ds=>
  cases n with
  | zero=>exact absurd x (by unfold IsN; exact id)
  | succ m=>
   obtain ⟨a,o,items,k,e,r⟩:=(show ∃ a o items k,v=.ref a/\h.get? a=some o/\o.cls=.type "tuple"/\o.data=.seq items k/\Paired (IsN h m) ds items.toList from x)
   exact .inr (.inr ⟨m,ds,a,o,items,k,rfl,rfl,e,r⟩)
 | _=>exact absurd x (by cases n <;> (unfold IsN; exact id))
theorem ib {h h':Heap} (k:∀ b o,h.get? b=some o->o.cls=.type "tuple"->h'.get? b=some o):∀ {n:Nat} {d:Dv} {v:Value},IsN h n d v->IsN h' n d v:=by
 intro n
 induction n with
 | zero=>
  intro d v x
  rcases aJ x with ⟨i,t,rfl,rfl⟩ | ⟨y,t,rfl,rfl⟩ | ⟨m,_,_,_,_,_,e,_⟩
  ·exact ⟨t,rfl⟩
  ·exact ⟨t,rfl⟩
  ·cases e
 | succ n ih=>
  intro d v x
  rcases aJ x with ⟨i,t,rfl,rfl⟩ | ⟨y,t,rfl,rfl⟩ | ⟨m,ds,a,o,items,q,e,rfl,rfl,e1,e2,e3,e4⟩
  ·exact ⟨t,rfl⟩
  ·exact ⟨t,rfl⟩
  ·cases e
   refine ⟨a,o,items,q,rfl,k _ _ e1 e2,e2,e3,?_⟩
   clear e3 x
   generalize items.toList=l at e4
   induction e4 with
   | nil=>exact .nil
   | cons r _ ih2=>exact .cons (ih r) ih2
section
variable {P:Program} {w:World} {A:Around} {E:Value->Shared->Prop} {s:Shared}
theorem uQ (n:Nat):∀ {A:Around} {E:Value->Shared->Prop} {s:Shared} {d:Dv} {v:Value} {Q:Int->Shared->Prop},A.units + n < cLine->IsN s.heap n d v->(∀ tk,s.toks<=tk->Q (hN w n d) { s with toks:=tk })->wpAny (model P w) A (pyHash v) Q E s:=by
 have flat:∀ {A:Around} {E:Value->Shared->Prop} {s:Shared} {k:Key} {v:Value} {Q:Int->Shared->Prop},(aF P w).is k v=true->(∀ tk,s.toks<=tk->Q (vt w k) { s with toks:=tk })->wpAny (model P w) A (pyHash v) Q E s:=fun hk q=>(aF P w).pyHash hk (q _ (by first | exact Nat.le_refl _ | exact Nat.le_succ _))
 induction n with
 | zero=>
  intro A E s d v Q hu x q
  rcases aJ x with ⟨i,t,rfl,rfl⟩ | ⟨y,t,rfl,rfl⟩ | ⟨m,_,_,_,_,_,e,_⟩
  ·exact flat (k:=.inl i) (gv i t) q
  ·exact flat (k:=.inr y) (gK y t) q
  ·cases e
 | succ n ih=>
  intro A E s d v Q hu x q
  rcases aJ x with ⟨i,t,rfl,rfl⟩ | ⟨y,t,rfl,rfl⟩ | ⟨m,ds,a,o,items,k,e,rfl,rfl,ho,hc,hd,hi⟩
  ·exact flat (k:=.inl i) (gv i t) q
  ·exact flat (k:=.inr y) (gK y t) q
  cases e
  have T:s.TypeIs (.ref a) "tuple":=⟨o,ho,hc⟩
  unfold pyHash
  first | unfold pyHashByItsType | skip
  first | refine wpAny_bind (wpAny_cRoomFor_or (.inr (by omega)) ?_) | skip
  refine wpAny_bind (wpAny_specialOf T F.slot_tuple_hash.lookup ?_)
  show wpAny _ _ (if (some (Value.builtin "tuple.__hash__") == some Value.none)=true then _ else _) Q E s
  rw [if_neg (by rw [beq_builtin_none]; decide)]
  refine wpAny_bind (wpAny_specialOf T F.slot_tuple_hash.lookup ?_)
  show wpAny _ _ (callSpecialIfBoundUnlessNone? (.ref a) "__hash__" _ >>= _) Q E s
  refine wpAny_bind (wpAny_callSpecialIfBoundUnlessNone?_slot T F.slot_tuple_hash (wpAny_call_entry F.slot_tuple_hash T F.entry_tuple_hash ?_ (F.args_tuple_hash_1 _)))
  show wpAny _ _ (Builtin.Tuple.tupleItemsOf (.ref a) >>= _) _ _ s
  refine wpAny_bind (wpAny_tupleItemsOf ho hd (wpAny_bind ?_)); rw [<- Array.forIn_toList]
  refine wpAny_forIn_list _ (fun rest (b:Array Int) s'=>∃ dn left tk,s.toks<=tk/\ds=dn ++ left/\Paired (IsN s.heap n) left rest/\b.toList=dn.map (hN w n)/\s'={ s with toks:=tk }) _ ?_ ?_ _ _ ⟨[],ds,s.toks,Nat.le_refl _,rfl,hi,rfl,by cases s; rfl⟩
  ·rintro x rest b s' ⟨dn,left,tk,htk,rfl,hl,hb,rfl⟩
   cases hl with
   | @cons p _ ps' _ h1 hl'=>
    refine wpAny_bind (ih (s:={ s with toks:=tk }) (by show A.units + 1 + n < cLine; omega) h1 fun tk' htk'=>?_)
    have nx:∃ dn' left' tk'',s.toks<=tk''/\dn ++ p :: ps'=dn' ++ left'/\Paired (IsN s.heap n) left' rest/\(b.push (hN w n p)).toList=dn'.map (hN w n)/\({ s with toks:=tk' }:Shared)={ s with toks:=tk'' }:=
     ⟨dn ++ [p],ps',tk',Nat.le_trans htk htk',by simp,hl',by simp [hb],rfl⟩
    first
     | exact wpAny_pure nx
     | exact wpAny_bind (wpAny_pure (wpAny_pure nx))
  ·rintro b s' ⟨dn,left,tk,htk,rfl,hl,hb,rfl⟩
   cases hl
   rw [List.append_nil] at q
   show wpAny _ _ (retInt (Builtin.Tuple.tupleHashOf b.toList)) _ _ _
   rw [hb]
   refine wpAny_ret_mkInt ?_
   show wpAny _ _ (if (decide (-(2:Int) ^ 63<=Builtin.Tuple.tupleHashOf (dn.map (hN w n))) && decide (Builtin.Tuple.tupleHashOf (dn.map (hN w n)) < 2 ^ 63))=true then _ else _) Q E _
   have q':∀ tk,s.toks<=tk->Q (reduceHash (Builtin.Tuple.tupleHashOf (dn.map (hN w n)))) { s with toks:=tk }:=q
   unfold reduceHash at q'
   by_cases c:(decide (-(2:Int) ^ 63<=Builtin.Tuple.tupleHashOf (dn.map (hN w n))) && decide (Builtin.Tuple.tupleHashOf (dn.map (hN w n)) < 2 ^ 63))=true
   ·rw [if_pos c] at q' ⊢
    exact wpAny_pure (q' _ (by first | exact htk | exact Nat.le_succ_of_le htk))
   ·rw [if_neg c] at q' ⊢
    exact wpAny_bind (wpAny_rule (wpAny_pure (q' _ (by first | exact htk | exact Nat.le_succ_of_le htk))))
theorem xR (n:Nat):∀ {A:Around} {d e:Dv} {v u:Value},A.units + n < cLine->IsN s.heap n d v->IsN s.heap n e u->SeqAt.EqAt A s v u (dD (d=e)):=by
 induction n with
 | zero=>
  intro A d e v u hu x y
  rcases aJ x with ⟨i,t,rfl,rfl⟩ | ⟨a,t,rfl,rfl⟩ | ⟨m,_,_,_,_,_,z,_⟩
  ·rcases aJ y with ⟨j,t',rfl,rfl⟩ | ⟨b,t',rfl,rfl⟩ | ⟨m,_,_,_,_,_,z,_⟩
   ·rw [<- bG (b:=(i == j)) (by rw [beq_iff_eq]; exact ⟨fun z=>by rw [z],fun z=>Dv.int.inj z⟩)]; exact SeqAt.EqAt.int_int i t j t'
   ·rw [<- bu nofun]; exact SeqAt.EqAt.int_str i t b t'
   ·cases z
  ·rcases aJ y with ⟨j,t',rfl,rfl⟩ | ⟨b,t',rfl,rfl⟩ | ⟨m,_,_,_,_,_,z,_⟩
   ·rw [<- bu nofun]; exact SeqAt.EqAt.str_int a t j t'
   ·rw [<- bG (b:=(a == b)) (by rw [beq_iff_eq]; exact ⟨fun z=>by rw [z],fun z=>Dv.str.inj z⟩)]; exact SeqAt.EqAt.str_str a t b t'
   ·cases z
  ·cases z
 | succ n ih=>
  intro A d e v u hu x y
  rcases aJ x with ⟨i,t,rfl,rfl⟩ | ⟨a,t,rfl,rfl⟩ | ⟨m,ds,a,o,its,k,z,rfl,rfl,ho,hc,hd,hi⟩
  ·rcases aJ y with ⟨j,t',rfl,rfl⟩ | ⟨b,t',rfl,rfl⟩ | ⟨m,es,b,o',its',k',z,rfl,rfl,ho',hc',hd',hi'⟩
   ·rw [<- bG (b:=(i == j)) (by rw [beq_iff_eq]; exact ⟨fun z=>by rw [z],fun z=>Dv.int.inj z⟩)]; exact SeqAt.EqAt.int_int i t j t'
   ·rw [<- bu nofun]; exact SeqAt.EqAt.int_str i t b t'
   ·rw [<- bu nofun]; exact SeqAt.EqAt.int_tuple i t (show s.heap.IsTuple b its' from ⟨o',ho',hc',k',hd'⟩) (by omega)
  ·rcases aJ y with ⟨j,t',rfl,rfl⟩ | ⟨b,t',rfl,rfl⟩ | ⟨m,es,b,o',its',k',z,rfl,rfl,ho',hc',hd',hi'⟩
   ·rw [<- bu nofun]; exact SeqAt.EqAt.str_int a t j t'
   ·rw [<- bG (b:=(a == b)) (by rw [beq_iff_eq]; exact ⟨fun z=>by rw [z],fun z=>Dv.str.inj z⟩)]; exact SeqAt.EqAt.str_str a t b t'
   ·rw [<- bu nofun]; exact SeqAt.EqAt.str_tuple a t (show s.heap.IsTuple b its' from ⟨o',ho',hc',k',hd'⟩) (by omega)
  ·cases z
   have p1:s.heap.IsTuple a its:=⟨o,ho,hc,k,hd⟩
   rcases aJ y with ⟨j,t',rfl,rfl⟩ | ⟨b,t',rfl,rfl⟩ | ⟨m,es,b,o',its',k',z,rfl,rfl,ho',hc',hd',hi'⟩
   ·rw [<- bu nofun]; exact SeqAt.EqAt.tuple_int j t' p1 (by omega)
   ·rw [<- bu nofun]; exact SeqAt.EqAt.tuple_str b t' p1 (by omega)
   ·cases z
    have inj:∀ {n:Nat} {ds es:List Dv} {l:List Value},(∀ {d e:Dv} {v:Value},IsN s.heap n d v->IsN s.heap n e v->d=e)->Paired (IsN s.heap n) ds l->Paired (IsN s.heap n) es l->ds=es:=by
     intro n ds es l h p
     induction p generalizing es with
     | nil=>intro q; cases q; rfl
     | cons r _ ih2=>intro q; cases q with | cons r' q'=>rw [h r r',ih2 q']
    have injN:∀ (n:Nat) {d e:Dv} {v:Value},IsN s.heap n d v->IsN s.heap n e v->d=e:=by
     intro n
     induction n with
     | zero=>
      intro d e v x y
      rcases aJ x with ⟨i,t,rfl,rfl⟩ | ⟨a,t,rfl,rfl⟩ | ⟨m,_,_,_,_,_,z,_⟩
      ·rcases aJ y with ⟨j,t',rfl,q⟩ | ⟨b,t',rfl,q⟩ | ⟨m,_,_,_,_,_,z,_⟩
       ·cases q; rfl
       ·cases q
       ·cases z
      ·rcases aJ y with ⟨j,t',rfl,q⟩ | ⟨b,t',rfl,q⟩ | ⟨m,_,_,_,_,_,z,_⟩
       ·cases q
       ·cases q; rfl
       ·cases z
      ·cases z
     | succ n ihn=>
      intro d e v x y
      rcases aJ x with ⟨i,t,rfl,rfl⟩ | ⟨a,t,rfl,rfl⟩ | ⟨m,ds,a,o,its,k,z,rfl,rfl,ho,hc,hd,hi⟩
      ·rcases aJ y with ⟨j,t',rfl,q⟩ | ⟨b,t',rfl,q⟩ | ⟨m,_,_,_,_,_,z,_,q,_⟩ <;> cases q <;> rfl
      ·rcases aJ y with ⟨j,t',rfl,q⟩ | ⟨b,t',rfl,q⟩ | ⟨m,_,_,_,_,_,z,_,q,_⟩ <;> cases q <;> rfl
      ·cases z
       rcases aJ y with ⟨j,t',rfl,q⟩ | ⟨b,t',rfl,q⟩ | ⟨m,es,b,o',its',k',z,rfl,q,ho',hc',hd',hi'⟩
       ·cases q
       ·cases q
       ·cases z
        cases q
        cases ho.symm.trans ho'
        rw [hd] at hd'
        cases hd'
        rw [inj ihn hi hi']
    by_cases hab:a=b
    ·subst hab
     rw [<- bG (b:=true) ⟨fun _=>injN _ x y,fun _=>rfl⟩]
     exact SeqAt.EqAt.same _
    ·have p2:s.heap.IsTuple b its':=⟨o',ho',hc',k',hd'⟩
     have at_:∀ {ds:List Dv} {l:List Value},Paired (IsN s.heap n) ds l->ds.length=l.length/\∀ j (h:j < l.length),∃ d,ds[j]?=some d/\IsN s.heap n d l[j]:=by
      intro ds l p
      induction p with
      | nil=>exact ⟨rfl,fun j h=>absurd h (Nat.not_lt_zero _)⟩
      | cons r _ ih2=>
       refine ⟨by rw [List.length_cons,List.length_cons,ih2.1],fun j h=>?_⟩
       cases j with
       | zero=>exact ⟨_,rfl,r⟩
       | succ j=>exact ih2.2 j (Nat.lt_of_succ_lt_succ h)
     obtain ⟨l1,q1⟩:=at_ hi
     obtain ⟨l2,q2⟩:=at_ hi'
     have l1':its.size=ds.length:=by rw [<- Array.length_toList]; exact l1.symm
     have l2':its'.size=es.length:=by rw [<- Array.length_toList]; exact l2.symm
     have r:=SeqAt.RcAt.tuples (A:=A) (e:=fun j=>dD (ds[j]?=es[j]?)) p1 p2 (by omega) fun j h1 h2=>by
      obtain ⟨d,e1,i1⟩:=q1 j (by simpa using h1)
      obtain ⟨e,e2,i2⟩:=q2 j (by simpa using h2)
      show SeqAt.EqAt A.in1 s its[j] its'[j] (dD (ds[j]?=es[j]?))
      rw [e1,e2]
      have e3:dD (some d=some e)=dD (d=e):=bG (by rw [dg]; exact ⟨Option.some.inj,fun z=>by rw [z]⟩)
      rw [e3]
      have:=ih (A:=A.in1) (by show A.units + 1 + n < cLine; omega) i1 i2
      simpa using this
     rw [l1',l2',ip] at r
     exact SeqAt.EqAt.of_refs hab r
theorem mU (n:Nat):∀ {A:Around} {E:Value->Shared->Prop} {d:Dv} {v:Value} {m:Nat} {Q:Bool->Shared->Prop},n<=m->IsN s.heap n d v->Q true s->wpAny (model P w) A (eqIsQuiet m v) Q E s:=by
 induction n with
 | zero=>
  intro A E d v m Q hm x q
  rcases aJ x with ⟨i,t,rfl,rfl⟩ | ⟨y,t,rfl,rfl⟩ | ⟨_,_,_,_,_,_,e,_⟩
  ·rw [eqIsQuiet_byValue _ rfl]; exact wpAny_pure q
  ·rw [eqIsQuiet_byValue _ rfl]; exact wpAny_pure q
  ·cases e
 | succ n ih=>
  intro A E d v m Q hm x q
  rcases aJ x with ⟨i,t,rfl,rfl⟩ | ⟨y,t,rfl,rfl⟩ | ⟨m',ds,a,o,items,k,e,rfl,rfl,ho,hc,hd,hi⟩
  ·rw [eqIsQuiet_byValue _ rfl]; exact wpAny_pure q
  ·rw [eqIsQuiet_byValue _ rfl]; exact wpAny_pure q
  cases e
  obtain ⟨m,rfl⟩:∃ j,m=j + 1:=⟨m - 1,by omega⟩
  have T:s.TypeIs (.ref a) "tuple":=⟨o,ho,hc⟩
  unfold eqIsQuiet
  refine wpAny_bind (wpAny_specialOf T F.slot_tuple_eq.lookup ?_)
  show wpAny _ _ (isInstance (.ref a) (.type "tuple") >>= _) _ _ s
  refine wpAny_bind (wpAny_isInstance T isSubtype_tuple_tuple ?_); simp only [Bool.not_true,Bool.false_eq_true,if_false]
  refine wpAny_bind (wpAny_seqItems ho hd (wpAny_bind ?_)); show wpAny _ _ (forIn items _ _) _ _ s
  rw [<- Array.forIn_toList]
  refine wpAny_forIn_list _ (fun rest r s'=>r.1=none/\s'=s/\∃ x',Paired (IsN s.heap n) x' rest) _ ?_ ?_ _ _ ⟨rfl,rfl,ds,hi⟩
  ·rintro v rest r s' ⟨hr,rfl,x',all⟩
   cases all with
   | cons h1 all'=>
    refine wpAny_bind (ih (by omega) h1 ?_); simp only [Bool.not_true,Bool.false_eq_true,if_false]
    exact wpAny_pure ⟨rfl,rfl,_,all'⟩
  ·rintro ⟨r1,r2⟩ s' ⟨hr,rfl,_⟩
   obtain rfl:r1=none:=hr
   exact wpAny_pure q
end
end L2.ST
namespace L2.ST
open PySem PySem.Spec PyProof.Rows PySem.W
section
variable {P:Program} {w:World} {A:Around} {E:Value->Shared->Prop} {s:Shared}
theorem mN (n:Nat):∀ {A:Around} {E:Value->Shared->Prop} {d:Dv} {v:Value} {m:Nat} {Q:Bool->Shared->Prop},n<=m->IsN s.heap n d v->Q false s->wpAny (model P w) A (ofAClassStatement m v) Q E s:=by
 induction n with
 | zero=>
  intro A E d v m Q hm x q
  rcases aJ x with ⟨i,t,rfl,rfl⟩ | ⟨y,t,rfl,rfl⟩ | ⟨_,_,_,_,_,_,e,_⟩
  ·cases m <;> exact wpAny_pure q
  ·cases m <;> exact wpAny_pure q
  ·cases e
 | succ n ih=>
  intro A E d v m Q hm x q
  rcases aJ x with ⟨i,t,rfl,rfl⟩ | ⟨y,t,rfl,rfl⟩ | ⟨m',ds,a,o,items,k,e,rfl,rfl,ho,hc,hd,hi⟩
  ·cases m <;> exact wpAny_pure q
  ·cases m <;> exact wpAny_pure q
  cases e
  obtain ⟨m,rfl⟩:∃ j,m=j + 1:=⟨m - 1,by omega⟩
  have T:s.TypeIs (.ref a) "tuple":=⟨o,ho,hc⟩
  unfold ofAClassStatement
  refine wpAny_bind (wpAny_typeOf T ?_)
  dsimp only
  refine wpAny_bind ?_
  refine wpAny_pure ?_
  simp only [Bool.not_true,Bool.false_eq_true,if_false]
  refine wpAny_bind (wpAny_seqItems ho hd (wpAny_bind ?_)); show wpAny _ _ (forIn items _ _) _ _ s
  rw [<- Array.forIn_toList]
  refine wpAny_forIn_list _ (fun rest r s'=>r.1=none/\s'=s/\∃ x',Paired (IsN s.heap n) x' rest) _ ?_ ?_ _ _ ⟨rfl,rfl,ds,hi⟩
  ·rintro v rest r s' ⟨hr,rfl,x',all⟩
   cases all with
   | cons h1 all'=>
    refine wpAny_bind (ih (by omega) h1 ?_); simp only [Bool.not_true,Bool.false_eq_true,if_false]
    exact wpAny_pure ⟨rfl,rfl,_,all'⟩
  ·rintro ⟨r1,r2⟩ s' ⟨hr,rfl,_⟩
   obtain rfl:r1=none:=hr
   exact wpAny_pure q
theorem rq (n:Nat):∀ {A:Around} {E:Value->Shared->Prop} {d:Dv} {v:Value} {m:Nat} {Q:Bool->Shared->Prop},n<=m->IsN s.heap n d v->Q (hB n d) s->wpAny (model P w) A (hashByValue m v) Q E s:=by
 induction n with
 | zero=>
  intro A E d v m Q hm x q
  rcases aJ x with ⟨i,t,rfl,rfl⟩ | ⟨y,t,rfl,rfl⟩ | ⟨_,_,_,_,_,_,e,_⟩
  ·cases m <;> exact wpAny_pure q
  ·cases m <;> exact wpAny_pure q
  ·cases e
 | succ n ih=>
  intro A E d v m Q hm x q
  rcases aJ x with ⟨i,t,rfl,rfl⟩ | ⟨y,t,rfl,rfl⟩ | ⟨m',ds,a,o,items,k,e,rfl,rfl,ho,hc,hd,hi⟩
  ·cases m <;> exact wpAny_pure q
  ·cases m <;> exact wpAny_pure q
  cases e
  obtain ⟨m,rfl⟩:∃ j,m=j + 1:=⟨m - 1,by omega⟩
  have T:s.TypeIs (.ref a) "tuple":=⟨o,ho,hc⟩
  unfold hashByValue
  refine wpAny_bind (wpAny_specialOf T F.slot_tuple_hash.lookup ?_)
  dsimp only
  refine wpAny_bind (wpAny_seqItems ho hd (wpAny_bind ?_)); show wpAny _ _ (forIn items _ _) _ _ s
  rw [<- Array.forIn_toList]
  have q:Q (ds.all (hB n)) s:=q
  refine wpAny_forIn_list _ (fun rest r s'=>s'=s/\r.1=none/\∃ x',Paired (IsN s.heap n) x' rest/\ds.all (hB n)=x'.all (hB n)) _ ?_ ?_ _ _ ⟨rfl,rfl,ds,hi,rfl⟩
  ·rintro v rest r s' ⟨rfl,hr,x',all,e⟩
   ·cases all with
    | @cons d' _ _ _ h1 all'=>
     refine wpAny_bind (ih (by omega) h1 ?_)
     cases hb:hB n d' with
     | true=>
      simp only [Bool.not_true,Bool.false_eq_true,if_false]
      refine wpAny_pure ⟨rfl,rfl,_,all',?_⟩
      rw [e,List.all_cons,hb,Bool.true_and]
     | false=>
      simp only [Bool.not_false,if_true]
      have q:Q false s':=by rw [e,List.all_cons,hb,Bool.false_and] at q; exact q
      exact wpAny_pure (wpAny_pure q)
  ·rintro ⟨r1,r2⟩ s' ⟨rfl,hr,x',all,e⟩
   ·obtain rfl:r1=none:=hr
    cases all
    rw [e] at q
    exact wpAny_pure q
theorem wA {α:Type} {c:Prop} [Decidable c] {x y:Sem α} {Q:α->Shared->Prop} (h1:c->wpAny (model P w) A x Q E s) (h2:¬ c->wpAny (model P w) A y Q E s):wpAny (model P w) A (if c then x else y) Q E s:=by
 split
 ·next h=>exact h1 h
 ·next h=>exact h2 h
theorem vm {n:Nat} {d:Dv} {b:Addr} {Q:Bool->Shared->Prop} (hn:n<=8) (hx:IsN s.heap n d (.ref b)) (q:Q false s):∀ (l:List Value),(∀ y∈l,∃ d',IsN s.heap n d' y)->wpAny (model P w) A (searchCouldBeSeen (.ref b) l) Q E s:=by
 intro l hl
 unfold searchCouldBeSeen
 refine wpAny_bind ?_
 refine wpAny_forIn_list _ (fun rest r s'=>s'=s/\r.1=none/\∀ y∈rest,∃ d',IsN s.heap n d' y) _ ?_ ?_ _ _ ⟨rfl,rfl,hl⟩
 ·rintro y rest r s' ⟨rfl,hr,hl⟩
  obtain ⟨d',hy⟩:=hl y List.mem_cons_self
  have hl':=fun y h=>hl y (List.mem_cons_of_mem _ h)
  dsimp only
  refine wA (fun _=>wpAny_pure ⟨rfl,rfl,hl'⟩) fun _=>?_
  ·
   refine wpAny_bind (mU n hn hx ?_)
   simp only [Bool.not_true,Bool.false_eq_true,if_false]
   refine wpAny_bind (mU n hn hy ?_)
   simp only [Bool.not_true,Bool.false_eq_true,if_false]
   refine wpAny_bind (mN n hn hx ?_)
   simp only [Bool.false_eq_true,if_false]
   refine wpAny_bind (mN n hn hy ?_)
   simp only [Bool.false_eq_true,if_false]
   exact wpAny_pure ⟨rfl,rfl,hl'⟩
 ·rintro ⟨r1,r2⟩ s' ⟨rfl,hr,_⟩
  obtain rfl:r1=none:=hr
  exact wpAny_pure q
theorem qt {a:Addr} {o:Obj} {es:Array (Int×Value)} {ep:Nat} {t:SetTable} {m n:Nat} {d:Dv} {b:Addr} {h:Int} {Q:SetFound->Shared->Prop} (ho:s.heap.get? a=some o) (hd:o.data=.set es ep t) (hf:t.fits es.size=true) (T:Tb t m) (h3:3<=m)
  (hn:n<=8) (hu:A.units + n < cLine) (hx:IsN s.heap n d (.ref b)) (hes:∀ e∈es.toList,∃ c d',e.2=.ref c/\IsN s.heap n d' e.2/\d'≠d) (q:∀ j,Q (.free j false) s) :
  ∀ (k fuel:Nat) (stand:Option SetTable.Probe),qM t (stand.getD (t.probeStart h)) k->k < fuel->k < 10 * SetTable.turns t.mask->(stand.getD (t.probeStart h)).dummy=none->(stand.getD (t.probeStart h)).more<=9->(stand.getD (t.probeStart h)).perturb < 2 ^ 64 ->
   wpAny (model P w) A (setSearchFrom a (.ref b) h true fuel stand) Q E s:=by
 have gw:t.gaveWay=false:=by
  unfold SetTable.gaveWay
  rw [T.mask]
  have e:2 ^ m=2 * 2 ^ (m - 1):=by rw [<- Nat.pow_succ']; congr 1; omega
  have:=Nat.one_le_two_pow (n:=m - 1)
  have:(2 ^ m - 1) % 2=1:=by omega
  rw [this]; rfl
 have sz:t.place.size=es.size:=by
  simp only [SetTable.fits,Bool.and_eq_true,beq_iff_eq,decide_eq_true_eq] at hf
  exact hf.1
 intro k
 induction k using Nat.strongRecOn with
 | _ k ih=>
  intro fuel stand hD hk ht h1 h2 h4
  obtain ⟨fuel,rfl⟩:∃ j,fuel=j + 1:=⟨fuel - 1,by omega⟩
  unfold setSearchFrom
  refine wpAny_bind (wpAny_setState_of ho hd hf ?_)
  dsimp only
  rw [gw]
  simp only [Bool.false_eq_true,if_false]
  unfold SetTable.probe
  rcases xW T _ h k (10 * SetTable.turns t.mask) _ hD ht h1 h2 h4 with ⟨j,e,_⟩ | ⟨j,i,next,k',e,hs,hD',hk',h1',h2',h4'⟩
  ·rw [e]
   exact wpAny_pure (q j)
  ·rw [e]
   dsimp only
   have hi:i < es.size:=by
    unfold SetTable.slot at hs
    dsimp only at hs
    split at hs
    ·next z=>
     cases hs
     have:=Array.getElem?_eq_some_iff.mp (eq_of_beq z)
     rw [<- sz]; exact this.1
    ·split at hs <;> cases hs
   obtain ⟨c,d',ec,hy,ne⟩:=hes es[i] (by simp)
   refine (fun (step:wpAny (model P w) A ?T Q E s)=>?main) ?tail
   case main=>
    split
    ·refine wpAny_bind ?_
     refine vm hn hx ?_ _ ?_
     ·simp only [Bool.false_eq_true,if_false]
      exact step
     ·intro y hy
      obtain ⟨e',he,rfl⟩:=List.mem_map.mp hy
      rw [Array.toList_filter] at he
      obtain ⟨c,d',_,hy,_⟩:=hes e' (List.mem_filter.mp he).1
      exact ⟨d',hy⟩
    ·exact step
   case tail=>
    rw [Array.getElem?_eq_getElem hi]
    dsimp only
    have eq:=xR n (A:=A) hu hy hx P w E
    rw [<- bu ne] at eq
    refine wpAny_bind (wpAny_holding (eq _ ?_))
    refine wpAny_bind (wpAny_setState_of ho hd hf ?_)
    dsimp only
    simp only [Bool.and_false,Bool.false_eq_true,if_false]
    rw [show t.sameMemory t.moves t.mask=some true by unfold SetTable.sameMemory; rw [if_pos (beq_self_eq_true _)]]
    dsimp only
    rw [if_pos rfl,hs]
    dsimp only
    rw [Array.getElem?_eq_getElem hi]
    dsimp only
    refine wpAny_bind ?_
    rw [ec]
    refine wpAny_isSame_ref_self (wpAny_bind (wpAny_pure ?_))
    simp only [if_true]
    exact ih k' hk' fuel (some next) hD' (by omega) (by omega) h1' h2' h4'
def StA (w:World) (h:Heap) (a:Addr) (n:Nat) (ds:List Dv) (us:List Value):Prop:=
 ∃ o es ep t m,h.get? a=some o/\o.ExactSet/\o.data=.set es ep t/\t.fits es.size=true/\Tb t m/\3<=m/\m<=13/\t.place.size * 5 < t.mask * 3/\t.led=(!w.params.followText "set-order")/\(t.plain=true->∀ d∈ds,hB n d=true)/\(es.toList.map (·.2)).Perm us/\us.length=ds.length
theorem pM {t:SetTable} {n:Nat} (hd:t.dummies=#[]) (h1:t.place.size=n) (h2:n<=t.mask):t.fits n=true:=by
 have e:t.fill=n:=by unfold SetTable.fill; rw [hd,h1]; rfl
 unfold SetTable.fits
 rw [e,h1,decide_eq_true h2,beq_self_eq_true]; rfl
theorem sT {es:Array (Int×Value)}:(List.range es.size).filterMap (fun i=>es[i]?)=es.toList:=by
 apply List.ext_getElem?
 intro i
 have:∀ (k:Nat),k<=es.size->(List.range k).filterMap (fun i=>es[i]?)=es.toList.take k:=by
  intro k
  induction k with
  | zero=>intro _; rfl
  | succ k ih=>
   intro h
   rw [List.range_succ,List.filterMap_append,ih (by omega),List.take_add_one]
   congr 1
   have e:es[k]?=some es[k]:=Array.getElem?_eq_getElem h
   simp [e]
 rw [this _ (Nat.le_refl _),<- Array.length_toList,List.take_length]
theorem vT {a:Addr} {n:Nat} {ds:List Dv} {us:List Value} {d:Dv} {b:Addr} {h:Int} {Q:Bool->Shared->Prop} (hS:StA w s.heap a n ds us) (hus:∀ u∈us,∃ c d',u=.ref c/\IsN s.heap n d' u/\d'≠d) (hn:n<=8) (hu:A.units + n < cLine) (hx:IsN s.heap n d (.ref b)) (hl:ds.length < 2000)
  (q:∀ h',Heap.SameBut a s.heap h'->StA w h' a n (ds ++ [d]) (us ++ [.ref b])->Q true { s with heap:=h' }):wpAny (model P w) A (setAddHashed a (.ref b) h) Q E s:=by
 obtain ⟨o,es,ep,t,m,ho,hex,hd,hf,T,h3,h13,few,led,pl,hp,hlen⟩:=hS
 have sz:t.place.size=es.size:=by
  have hf:=hf
  simp only [SetTable.fits,Bool.and_eq_true,beq_iff_eq,decide_eq_true_eq] at hf
  exact hf.1
 have szu:es.size=ds.length:=by rw [<- Array.length_toList,<- hlen,<- hp.length_eq,List.length_map]
 have pw:8<=2 ^ m:=show 2 ^ 3<=_ from Nat.pow_le_pow_right (by decide) h3
 have pw2:2 ^ m<=8192:=show _<=2 ^ 13 from Nat.pow_le_pow_right (by decide) h13
 have hm:=T.mask
 have tr:SetTable.turns t.mask=2 ^ m + 14:=by unfold SetTable.turns; omega
 unfold setAddHashed setAddHashedIn
 refine wpAny_holding (wpAny_bind (wpAny_setState_of ho hd hf ?_))
 dsimp only
 rw [show byScan (.ref b) es=false from rfl]
 simp only [Bool.false_eq_true,if_false]
 have st:(t.probeStart h).more<=9/\(t.probeStart h).perturb < 2 ^ 64/\(t.probeStart h).dummy=none:=⟨nS _ _,qi h,rfl⟩
 obtain ⟨k,hk,hD⟩:=qE T st.1 st.2.1
 unfold setSearch
 refine wpAny_bind (qt ho hd hf T h3 hn hu hx (fun e he=>hus _ (hp.mem_iff.mp (List.mem_map.mpr ⟨e,he,rfl⟩))) (fun j=>?_) k 100000 none hD (by omega) (by omega) st.2.2 st.1 st.2.1)
 dsimp only
 refine wpAny_bind (wpAny_setState_of ho hd hf ?_)
 dsimp only
 have pe:(t.put j).1={ t with place:=SetTable.insertAt t.place (SetTable.below t.place j) j }:=by
  unfold SetTable.put
  rw [T.nod]
  have:=T.nod
  obtain ⟨a1,a2,a3,a4,a5,a6,a7⟩:=t
  simp only at this
  subst this
  rfl
 have ps:(t.put j).1.place.size=es.size + 1:=by
  rw [pe]
  show (SetTable.insertAt t.place _ j).size=_
  rw [<- Array.length_toList,(SetTable.insertAt_perm _ _ _).length_eq,Array.toList_push,List.length_append,Array.length_toList,sz]; rfl
 have pn:(t.put j).1.dummies=#[]:=by rw [pe]; exact T.nod
 have pk:(t.put j).1.mask=t.mask:=by rw [pe]
 have pg:(t.put j).1.led=t.led:=by rw [pe]
 have pp:(t.put j).1.plain=t.plain:=by rw [pe]
 have es1:(SetTable.insertAt es (t.put j).2 (h,Value.ref b)).toList.Perm (es.toList ++ [(h,.ref b)]):=by
  have:=SetTable.insertAt_perm es (t.put j).2 (h,Value.ref b)
  rwa [Array.toList_push] at this
 generalize (t.put j).1=t1 at ps pn pk pg pp ⊢
 generalize SetTable.insertAt es (t.put j).2 (h,Value.ref b)=e1 at es1 ⊢
 have z1:e1.size=es.size + 1:=by rw [<- Array.length_toList,es1.length_eq,List.length_append,Array.length_toList]; rfl
 have per:(e1.toList.map (·.2)).Perm (us ++ [.ref b]):=by
  refine (es1.map _).trans ?_
  rw [List.map_append]
  exact hp.append (.refl _)
 have tail:∀ t2:SetTable,t2.place.size=es.size + 1->t2.dummies=#[]->t2.mask=t.mask->t2.led=t.led->(t2.plain=true->∀ e∈ds ++ [d],hB n e=true)->wpAny (model P w) A (do
   storeSet a e1 t2
   if !false && t2.tooFull then setRelay a (SetTable.grown (es.size + 1))
   return true) Q E s:=fun t2 p1 p2 p3 p4 p5=>by
  have f2:t2.fits e1.size=true:=pM p2 (by omega) (by omega)
  refine wpAny_bind (wpAny_storeSet_of ho hd ?_ (by rw [z1,szu,sizeLine_eq]; omega))
  have hg:(s.heap.update a (Obj.putSet e1 t2)).get? a=some { o with data:=.set e1 (ep + 1) t2 }:=by
   have:=Heap.get?_update_self (Obj.putSet e1 t2) ho (by rw [putSet_of e1 t2 hd]; rfl)
   rw [putSet_of e1 t2 hd] at this; exact this
  have sb1:=Heap.SameBut.update s.heap a (Obj.putSet e1 t2)
  refine wA (fun _=>wpAny_bind ?_) fun hno=>?_
  ·unfold setRelay
   refine wpAny_bind (wpAny_setState_of hg rfl f2 ?_)
   dsimp only
   have gr:SetTable.grown (es.size + 1)=(es.size + 1) * 4:=by unfold SetTable.grown; rw [if_neg (by omega)]
   obtain ⟨m',e',l1,l2,l3⟩:=tZ (n:=(es.size + 1) * 4) (by omega)
   have m13:m'<=13:=by
    rcases l3 with rfl | l3
    ·omega
    ·refine Nat.le_of_lt_succ (Nat.pow_lt_pow_iff_right (a:=2) (by decide) |>.mp ?_)
     show _ < 16384
     omega
   have pw3:2 ^ m'<=8192:=show _<=2 ^ 13 from Nat.pow_le_pow_right (by decide) m13
   rw [gr,e',if_neg (by rw [sizeLine_eq]; omega)]
   obtain ⟨t3,ord,q1,q2,q3,q4,q5,q6,q7⟩:=uO (m:=m') (finger:=t2.finger) (moves:=t2.movedTo (2 ^ m' - 1)) (led:=t2.led) (plain:=t2.plain) (hs:=e1.map (·.1)) (by rw [Array.size_map,z1]; omega)
   rw [Array.size_map] at q2 q4
   have rl:t2.relaid (e1.map (·.1)) ((es.size + 1) * 4)=some (t3,ord):=by unfold SetTable.relaid; rw [e']; exact q1
   rw [rl]
   refine wpAny_bind ?_
   have pf:(ord.filterMap (fun i=>e1[i]?)).toList.Perm e1.toList:=by
    rw [Array.toList_filterMap]
    refine (q2.filterMap _).trans ?_
    rw [sT]
   have zf:(ord.filterMap (fun i=>e1[i]?)).size=e1.size:=by rw [<- Array.length_toList,pf.length_eq,Array.length_toList]
   refine wA (fun z=>?_) fun _=>wpAny_pure ?_
   ·have z:=(bne_iff_ne.mp z)
    exact absurd zf z
   dsimp only
   refine wpAny_storeSet_of hg rfl (wpAny_pure ?_) (by rw [zf,z1,szu,sizeLine_eq]; omega)
   refine q _ (sb1.trans (Heap.SameBut.update _ a _)) ?_
   have hg2:=Heap.get?_update_self (Obj.putSet (ord.filterMap (fun i=>e1[i]?)) t3) hg (by rw [putSet_of _ t3 rfl]; rfl)
   rw [putSet_of _ t3 rfl] at hg2
   exact ⟨_,_,_,t3,m',hg2,hex,rfl,pM q5 (by omega) (by omega),⟨q3,by omega,q5⟩,l2,m13,by omega,by rw [q6,p4]; exact led,fun z=>p5 (by rw [<- q7]; exact z),(pf.map _).trans per,by rw [List.length_append,List.length_append,hlen]; rfl⟩
  ·refine wpAny_pure (q _ sb1 ?_)
   have hno:¬ (t2.place.size * 5>=t2.mask * 3):=fun z=>hno (by
    have e:t2.fill=t2.place.size:=by unfold SetTable.fill; rw [p2]; rfl
    unfold SetTable.tooFull
    rw [e,decide_eq_true z]; rfl)
   exact ⟨_,_,_,t2,m,hg,hex,rfl,f2,⟨by omega,by omega,p2⟩,h3,h13,by omega,by rw [p4]; exact led,p5,per,by rw [List.length_append,List.length_append,hlen]; rfl⟩
 rw [pp]
 cases hpl:t.plain with
 | true=>
  simp only [if_true]
  refine wpAny_bind (rq n hn hx ?_)
  cases hb:hB n d with
  | true=>
   simp only [if_true]
   exact tail t1 ps pn pk pg fun _ e he=>by
    rcases List.mem_append.mp he with he | he
    ·exact pl hpl e he
    ·rw [List.mem_singleton.mp he]; exact hb
  | false=>
   simp only [Bool.false_eq_true,if_false]
   exact tail { t1 with plain:=false } ps pn pk pg fun z=>by cases z
 | false=>
  simp only [Bool.false_eq_true,if_false]
  refine wpAny_bind (wpAny_pure ?_)
  simp only [if_true]
  exact tail t1 ps pn pk pg fun z=>by rw [pp,hpl] at z; cases z
end
end L2.ST
namespace L2.ST
open PySem PySem.Spec PyProof.Rows PySem.W
theorem StA.at' {w:World} {h h':Heap} {a:Addr} {n:Nat} {ds:List Dv} {us:List Value} (x:StA w h a n ds us) (k:∀ o,h.get? a=some o->h'.get? a=some o):StA w h' a n ds us:=let ⟨o,es,ep,t,m,ho,r⟩:=x; ⟨o,es,ep,t,m,k o ho,r⟩
theorem StA.toV {w:World} {h:Heap} {a:Addr} {n:Nat} {ds:List Dv} {us:List Value} (x:StA w h a n ds us) (nd:ds.Nodup) (u:∀ d∈ds,∀ e∈ds,hB n d=true->hB n e=true->d=e):kX w h a us:=by
 obtain ⟨o,es,ep,t,m,ho,hex,hd,hf,T,h3,h13,few,led,pl,hp,hlen⟩:=x
 refine ⟨o,es,ep,t,ho,hex,hd,hf,led,fun z=>?_,hp⟩
 have e:es.size=ds.length:=by rw [<- hlen,<- hp.length_eq,List.length_map,Array.length_toList]
 rw [e]
 match ds,nd,u,pl z with
 | [],_,_,_=>exact Nat.zero_le _
 | [_],_,_,_=>exact Nat.le_refl _
 | a :: b :: r,nd,u,pl=>
  have:=u a List.mem_cons_self b (List.mem_cons_of_mem _ List.mem_cons_self) (pl a List.mem_cons_self) (pl b (List.mem_cons_of_mem _ List.mem_cons_self))
  subst this
  exact absurd List.mem_cons_self (List.nodup_cons.mp nd).1
section
variable {P:Program} {w:World} {A:Around} {R:Result->Shared->Prop} {E:Value->Shared->Prop} {I:Addr} {fp wr:List Addr} {G:Array GenState->Array GenState->Prop} {n:Nat} {Pv:Nat->Value->Prop} {St:Nat->Shared->Prop}
def RfN (h:Heap) (dp:Nat) (d:Dv) (v:Value):Prop:=(∃ c,v=.ref c)/\IsN h dp d v
theorem jD (W:WalksS P w A.in1 I fp wr G n Pv St) (S:Addr) (hSf:S∉fp) (h0:Heap) (hfr:∀ b∈S :: wr,h0.get? b=none) {dp:Nat} (hdp:dp<=8) {ds:List Dv} {us:List Value} (hus:Paired (RfN h0 dp) ds us) (nd:ds.Nodup) (hval:∀ (i:Nat) (v:Value),Pv i v->us[i]?=some v) (hn:us.length=n) (hl:n < 2000) (hu:A.units + 1 + dp < cLine) :
  ∀ (k i:Nat) (s:Shared),n - i=k->i<=n->St i s->(∀ b o,h0.get? b=some o->s.heap.get? b=some o)->StA w s.heap S dp (ds.take i) (us.take i)->(∀ s',Moved (S :: wr) G s s'->StA w s'.heap S dp ds us->R (.ok (.ret .none)) s') ->
   codeAny (model P w) A (.builtin "set.update.loop" ⟨[.ref S,.ref I],[]⟩) R s:=by
 have hSw:S∉wr:=fun h=>hSf (W.sub _ h)
 have more:∀ b∈wr,b∈S :: wr:=fun b hb=>List.mem_cons_of_mem _ hb
 have hlen:ds.length=n:=by rw [<- hn]; exact hus.length
 have at_:∀ {ds:List Dv} {us:List Value},Paired (RfN h0 dp) ds us->∀ (i:Nat) (v:Value),us[i]?=some v->∃ d,ds[i]?=some d/\RfN h0 dp d v:=by
  intro ds us p
  induction p with
  | nil=>intro i v h; cases h
  | cons r _ ih=>
   intro i v h
   cases i with
   | zero=>cases h; exact ⟨_,rfl,r⟩
   | succ i=>exact ih i v h
 have old:∀ {ds:List Dv} {us:List Value},Paired (RfN h0 dp) ds us->∀ u∈us,∃ d∈ds,RfN h0 dp d u:=by
  intro ds us p
  induction p with
  | nil=>intro u h; cases h
  | cons r _ ih=>
   intro u h
   rcases List.mem_cons.mp h with rfl | h
   ·exact ⟨_,List.mem_cons_self,r⟩
   ·obtain ⟨d,h1,h2⟩:=ih u h
    exact ⟨d,List.mem_cons_of_mem _ h1,h2⟩
 have tk:∀ {ds:List Dv} {us:List Value},Paired (RfN h0 dp) ds us->∀ i,Paired (RfN h0 dp) (ds.take i) (us.take i):=by
  intro ds us p
  induction p with
  | nil=>intro i; rw [List.take_nil,List.take_nil]; exact .nil
  | cons r _ ih=>
   intro i
   cases i with
   | zero=>exact .nil
   | succ i=>exact .cons r (ih i)
 intro k
 induction k with
 | zero=>
  intro i s hk hi st kp hS fin
  obtain rfl:i=n:=by omega
  rw [List.take_of_length_le (by omega),List.take_of_length_le (by omega)] at hS
  refine codeAny_builtin F.entry_set_update_loop ?_
  rw [Around.under_plainId F.plain_set_update_loop _]
  show wpAny _ A.in1 (pyNext (.ref I) >>= _) _ _ s
  refine wpAny_bind (W.done s _ _ st fun s' hm=>?_)
  show wpAny _ A.in1 (ret Value.none) _ _ s'
  exact wpAny_pure (fin s' (hm.mono more) (hS.at' fun o e=>hm.heap S _ hSw e))
 | succ k ih=>
  intro i s hk hi st kp hS fin
  have hlt:i < n:=by omega
  refine codeAny_builtin F.entry_set_update_loop ?_
  rw [Around.under_plainId F.plain_set_update_loop _]
  show wpAny _ A.in1 (pyNext (.ref I) >>= _) _ _ s
  refine wpAny_bind (W.item i s _ _ hlt st fun v s' hP st' hm=>?_)
  have ev:=hval i v hP
  obtain ⟨d,ed,⟨c,rfl⟩,hd⟩:=at_ hus i v ev
  have hS':StA w s'.heap S dp (ds.take i) (us.take i):=hS.at' fun o e=>hm.heap S _ hSw e
  have kp':∀ b o,h0.get? b=some o->s'.heap.get? b=some o:=fun b o e=>hm.heap b _ (fun z=>by rw [hfr b (more b z)] at e; cases e) (kp b o e)
  show wpAny _ A.in1 (holding [Value.ref c] (setAdd S (.ref c)) >>= _) _ _ s'
  refine wpAny_bind (wpAny_holding ?_)
  unfold setAdd
  refine wpAny_holding (wpAny_bind (uQ dp (by exact hu) (ib (fun b o e _=>kp' b o e) hd) fun tk' htk=>?_))
  have dt:ds.take (i + 1)=ds.take i ++ [d]:=by rw [List.take_add_one,ed]; rfl
  have ut:us.take (i + 1)=us.take i ++ [.ref c]:=by rw [List.take_add_one,ev]; rfl
  refine vT (s:={ s' with toks:=tk' }) hS' (fun u hu'=>?_) hdp (by exact hu) (ib (fun b o e _=>kp' b o e) hd) (by rw [List.length_take]; omega) fun h' sb hS2=>?_
  ·obtain ⟨d',m1,⟨c',e'⟩,m2⟩:=old (tk hus i) u hu'
   refine ⟨c',d',e',ib (fun b o e _=>kp' b o e) m2,fun z=>?_⟩
   subst z
   have:=nd.sublist (List.take_sublist (i + 1) ds)
   rw [dt] at this
   exact (List.nodup_append.mp this).2.2 _ m1 _ (List.mem_singleton.mpr rfl) rfl
  rw [<- dt,<- ut] at hS2
  refine wpAny_pure ⟨plainId_quiet F.plain_set_update_loop _,ih (i + 1) _ (by omega) hlt (W.frame _ s' _ _ st' htk fun b hb o e=>?_) (fun b o e=>?_) hS2 fun s'' hm'' hS''=>?_⟩
  ·rw [sb.2 b (fun h:b=S=>hSf (by rw [<- h]; exact hb))]; exact e
  ·show h'.get? b=_
   rw [sb.2 b (fun h:b=S=>by rw [hfr b (by rw [h]; exact List.mem_cons_self)] at e; cases e)]; exact kp' b o e
  ·refine fin s'' (Moved.trans W.gtrans ((hm.mono more).then_heap htk fun b o hb e=>?_) hm'') hS''
   rw [sb.2 b (fun h:b=S=>hb (by rw [h]; exact List.mem_cons_self))]; exact e
end
end L2.ST
namespace L2.ST
open PySem PySem.Spec PyProof.Rows PySem.W
section
variable {P:Program} {w:World} {A:Around} {E:Value->Shared->Prop} {s:Shared}
theorem jq {c:String} {l:Addr} {o oi:Obj} {Fin:Heap->Prop} {Q:Value->Shared->Prop} (hh:A.handled=none) (hol:s.heap.get? l=some o) (hcl:o.cls=.type c)
  (hsls:isSubtype (.type c) (.type "set")=pure false) (hslf:isSubtype (.type c) (.type "frozenset")=pure false) (hne:(Value.type c == Value.type "dict")=false)
  (hit:∀ {A:Around} {E:Value->Shared->Prop} {Q:Value->Shared->Prop} {s1:Shared},s1.heap.get? l=some o->Q (.ref s1.heap.objs.size) { s1 with heap:=s1.heap.push oi }->wpAny (model P w) A (pyIter (.ref l)) Q E s1)
  (loop:∀ {A':Around} {R:Result->Shared->Prop},A'.handled=none->A'.units<=A.units + 3->(∀ s',Moved [s.heap.objs.size,s.heap.objs.size + 1] (fun a b=>b=a) { s with heap:=(s.heap.push (bd w)).push oi } s'->Fin s'.heap->R (.ok (.ret .none)) s') ->
   codeAny (model P w) A' (.builtin "set.update.loop" ⟨[.ref s.heap.objs.size,.ref (s.heap.objs.size + 1)],[]⟩) R { s with heap:=(s.heap.push (bd w)).push oi })
  (h:∀ (h':Heap) (tk:Nat),Fin h'->(∀ b o,b < s.heap.objs.size->s.heap.get? b=some o->h'.get? b=some o)->Q (.ref s.heap.objs.size) { s with heap:=h',toks:=tk }) :
  wpAny (model P w) A (call (.type "set") [.ref l]) Q E s:=by
 obtain ⟨c',tl,hmro⟩:=PySem.F.called_set.mro
 have hmade:=PySem.F.called_set.made
 have hsub:=PySem.F.called_set.sub
 refine wpAny_call (codeAny_of_tree ?_)
 show wpAny _ _ (callAny (.type "set") _) _ _ _
 refine wpAny_pure ⟨Code.quiet_builtin _ (by decide +kernel),codeAny_builtin PySem.F.entry_type_call ?_⟩
 rw [Around.under_plain (weight_type_call_type "set" [.ref l] []) rfl]
 have h1:=PySem.F.called_set.notType
 have h2:=PySem.F.called_set.canCreate
 have hct:=PySem.F.typeCall_set_1 (.ref l)
 repeat (any_goals (first | assumption | wp_step))
 refine codeAny_mono (ff (.ref l) (E:=E) (Q₁:=fun obj s₁=>obj=.ref s.heap.objs.size/\s₁={ s with heap:=s.heap.push (bd w) }) ⟨rfl,rfl⟩) fun r s₁ hr=>?_
 cases r with
 | error e=>exact hr
 | ok fl=>
  cases fl with
  | ret obj=>
   obtain ⟨rfl,rfl⟩:=hr
   have hS:(s.heap.push (bd w)).get? s.heap.objs.size=some (bd w):=Heap.get?_push_size _ rfl
   have hT:Shared.TypeIs { s with heap:=s.heap.push (bd w) } (.ref s.heap.objs.size) "set":=⟨_,hS,rfl⟩
   have hli:=PySem.F.called_set.init.lookup
   have hbi:=PySem.F.called_set.init.bind (.ref s.heap.objs.size)
   repeat (any_goals (first | assumption | wp_step))
   refine codeAny_mono (codeAny_call_builtin (R:=wants (fun r s₂=>r=.none/\∃ h' tk,s₂={ s with heap:=h',toks:=tk }/\Fin h'/\(∀ b o,b < s.heap.objs.size->s.heap.get? b=some o->h'.get? b=some o)) E)
    PySem.F.called_set.init.plain PySem.F.entry_set_init (check_set_init_1 hT ?_)) fun r₂ s₂ hr₂=>?_
   ·obtain ⟨ocls,odict,odata,oslots⟩:=o
    simp only at hcl
    subst hcl
    have hol':(s.heap.push (bd w)).get? l=some { cls:=.type c,dict:=odict,data:=odata,slots:=oslots }:=Heap.get?_push_of_some _ hol
    have hol2:=hol'
    unfold bd at hS hT hol' ⊢
    unfold Builtin.«set.__init__» noKeywords Builtin.Frozenset.updateFrom
    generalize hPI:pyIter=PI
    wp_walk
    subst hPI
    refine hit hol2 ?_
    refine wpAny_bind (wpAny_runValue ?_)
    have ez:(s.heap.push (bd w)).objs.size=s.heap.objs.size + 1:=Heap.size_push ..
    show codeAny _ _ (.builtin _ ⟨[.ref s.heap.objs.size,.ref (s.heap.push (bd w)).objs.size],[]⟩) _ { s with heap:=(s.heap.push (bd w)).push oi }
    rw [ez]
    refine loop (by simp [hh]) (by show A.units + 1 + 1<=_; omega) fun s' hm hS'=>?_
    obtain ⟨h',g',d',tk',os'⟩:=s'
    have eg:g'=s.gens:=hm.gens
    have ed:d'=s.drawn:=hm.drawn
    have eo:os'=s.os:=hm.os
    subst eg; subst ed; subst eo
    show wpAny _ _ _ _ _ _
    refine wpAny_pure ?_
    show wpAny _ _ (ret Value.none) _ _ _
    refine wpAny_pure ⟨rfl,h',tk',rfl,hS',fun b o hb e=>?_⟩
    exact hm.heap b o (by simp only [List.mem_cons,List.mem_singleton,List.not_mem_nil,or_false,not_or]; exact ⟨Nat.ne_of_lt hb,Nat.ne_of_lt (Nat.lt_succ_of_lt hb)⟩) (Heap.get?_push_of_some _ (Heap.get?_push_of_some _ e))
   ·cases r₂ with
    | error e=>exact hr₂
    | ok fl₂=>
     cases fl₂ with
     | ret r=>
      obtain ⟨rfl,h',tk,rfl,hS',hk'⟩:=hr₂
      repeat (any_goals (first | assumption | wp_step))
      exact h _ _ hS' hk'
     | _=>exact hr₂.elim
  | _=>exact hr.elim
theorem jk (h:Heap) (n:Nat):StA w (h.push (bd w)) h.objs.size n [] []:=
 ⟨_,#[],0,_,3,Heap.get?_push_size _ rfl,⟨rfl,rfl,rfl⟩,rfl,rfl,⟨rfl,(show 0 < 8 by decide),rfl⟩,Nat.le_refl _,by decide,(show 0 * 5 < 7 * 3 by decide),rfl,fun _ _ h=>(nomatch h),.refl _,rfl⟩
theorem qp {l:Addr} {us:List Value} {dp:Nat} {ds:List Dv} {Q:Value->Shared->Prop} (hh:A.handled=none) (hl:s.heap.IsTuple l us.toArray\/s.heap.IsList l us.toArray) (hdp:dp<=8) (hus:Paired (RfN s.heap dp) ds us) (nd:ds.Nodup) (hb:us.length < 2000) (hu:A.units + 20 < cLine)
  (h:∀ (h':Heap) (tk:Nat),StA w h' s.heap.objs.size dp ds us->(∀ b o,b < s.heap.objs.size->s.heap.get? b=some o->h'.get? b=some o)->Q (.ref s.heap.objs.size) { s with heap:=h',toks:=tk }) :
  wpAny (model P w) A (call (.type "set") [.ref l]) Q E s:=by
 have ez:∀ o,(s.heap.push o).objs.size=s.heap.objs.size + 1:=fun o=>Heap.size_push ..
 have nn:∀ b,s.heap.objs.size<=b->s.heap.get? b=none:=fun b hb=>by
  cases e:s.heap.get? b with
  | none=>rfl
  | some o=>exact absurd (Heap.lt_size e) (Nat.not_lt.mpr hb)
 have hfr:∀ b∈s.heap.objs.size :: [s.heap.objs.size + 1],s.heap.get? b=none:=fun b hb=>by
  rcases List.mem_cons.mp hb with rfl | hb
  ·exact nn _ (Nat.le_refl _)
  ·rw [List.mem_singleton.mp hb]; exact nn _ (Nat.le_succ _)
 have hsz:us.toArray.size=us.length:=List.size_toArray ..
 rcases hl with ht | ht
 ·obtain ⟨ol,hol,hcl,nl,hdl⟩:=ht
  have hlS:l < s.heap.objs.size:=Heap.lt_size hol
  refine jq (oi:={ cls:=.type "tuple_iterator",data:=.fields #[.ref l,.int 0 0] }) (Fin:=fun h'=>StA w h' s.heap.objs.size dp ds us) hh hol hcl F.sub_tuple_set F.sub_tuple_frozenset (by decide) (fun ho q=>wpAny_pyIter_tuple ⟨_,ho,hcl,nl,hdl⟩ q) (fun {A' R} hh' hu' fin=>?_) h
  have p1:Heap.IsTuple ((s.heap.push (bd w)).push { cls:=.type "tuple_iterator",data:=.fields #[.ref l,.int 0 0] }) l us.toArray:=⟨ol,Heap.get?_push_of_some _ (Heap.get?_push_of_some _ hol),hcl,nl,hdl⟩
  refine jD ((Walks.tuple (A:=A'.in1) (by simp [hh']) (s.heap.objs.size + 1) l (Nat.ne_of_lt (Nat.lt_succ_of_lt hlS)) us.toArray).toS) s.heap.objs.size (by simp only [List.mem_cons,List.mem_singleton,List.not_mem_nil,or_false,not_or]; exact ⟨Nat.ne_of_lt (Nat.lt_succ_self _),Nat.ne_of_gt hlS⟩) s.heap hfr hdp hus nd (fun i v e=>by simpa using e) hsz.symm (by omega) (by omega) (us.toArray.size - 0) 0 _ (by omega) (Nat.zero_le _)
   ⟨⟨_,by rw [<- ez (bd w)]; exact Heap.get?_push_size _ rfl,rfl,rfl⟩,p1⟩ (fun b o e=>Heap.get?_push_of_some _ (Heap.get?_push_of_some _ e)) ((jk s.heap dp).at' fun o e=>Heap.get?_push_of_some _ e) fin
 ·obtain ⟨ol,hol,hcl,nl,hdl⟩:=ht
  have hlS:l < s.heap.objs.size:=Heap.lt_size hol
  refine jq (oi:={ cls:=.type "list_iterator",data:=.fields #[.ref l,.int 0 0] }) (Fin:=fun h'=>StA w h' s.heap.objs.size dp ds us) hh hol hcl F.sub_list_set F.sub_list_frozenset (by decide) (fun ho q=>wpAny_pyIter_list ⟨_,ho,hcl,nl,hdl⟩ q) (fun {A' R} hh' hu' fin=>?_) h
  have p1:Heap.IsList ((s.heap.push (bd w)).push { cls:=.type "list_iterator",data:=.fields #[.ref l,.int 0 0] }) l us.toArray:=⟨ol,Heap.get?_push_of_some _ (Heap.get?_push_of_some _ hol),hcl,nl,hdl⟩
  refine jD ((Walks.list (A:=A'.in1) (by simp [hh']) (s.heap.objs.size + 1) l (Nat.ne_of_lt (Nat.lt_succ_of_lt hlS)) us.toArray).toS) s.heap.objs.size (by simp only [List.mem_cons,List.mem_singleton,List.not_mem_nil,or_false,not_or]; exact ⟨Nat.ne_of_lt (Nat.lt_succ_self _),Nat.ne_of_gt hlS⟩) s.heap hfr hdp hus nd (fun i v e=>by simpa using e) hsz.symm (by omega) (by omega) (us.toArray.size - 0) 0 _ (by omega) (Nat.zero_le _)
   ⟨⟨_,by rw [<- ez (bd w)]; exact Heap.get?_push_size _ rfl,rfl,rfl⟩,p1⟩ (fun b o e=>Heap.get?_push_of_some _ (Heap.get?_push_of_some _ e)) ((jk s.heap dp).at' fun o e=>Heap.get?_push_of_some _ e) fin
end
end L2.ST
namespace L2
open PySem PySem.Spec PyProof.Rows PySem.W KB L2.ST
def gq (w:World) (a:Addr) (bs:List Addr):HO:=.ext fun h=>kX w h a (bs.map Value.ref)
def tmD (p:PM):Dv:=.tup [.tup (aB p.1),.int p.2]
theorem ii:∀ ps:List Pr,hB 2 (.tup (aB ps))=true->ps=[]
 | [],_=>rfl
 | p :: ps,h=>by
  rw [show hB 2 (.tup (aB (p :: ps)))=(false && (aB ps).all (hB 1)) from rfl,Bool.false_and] at h
  cases h
theorem dZ:∀ {ps qs:List Pr},aB ps=aB qs->ps=qs
 | [],[],_=>rfl
 | [],_ :: _,h=>by cases h
 | _ :: _,[],h=>by cases h
 | p :: ps,q :: qs,h=>by
  have h:(Dv.tup [.str p.1,.int p.2]) :: aB ps=.tup [.str q.1,.int q.2] :: aB qs:=h
  injection h with h1 h2
  injection h1 with h1
  injection h1 with h1 h3
  injection h1 with h1
  injection h3 with h3 _
  injection h3 with h3
  rw [dZ h2,Prod.ext h1 h3]
theorem uU {p q:PM} (h:tmD p=tmD q):p=q:=by
 unfold tmD at h
 injection h with h
 injection h with h h2
 injection h with h
 injection h2 with h2 _
 injection h2 with h2
 exact Prod.ext (dZ h) h2
section
variable {X:Cx} {pins:List (Addr×Obj)} {σ:St} {H:Hp} {s:Shared}
theorem qb (I:Inv X pins σ H s) {ps:List Pr} {b:Addr} (r:bZ X.K H ps b):IsN s.heap 2 (.tup (aB ps)) (.ref b):=by
 obtain ⟨us,ta,ru⟩:=r.tup
 obtain ⟨its,rv,⟨o,e,c,n,d⟩,hzz⟩:=I.tuple ta.sq
 refine ⟨b,o,its.toArray,n,rfl,e,c,d,?_⟩
 show Paired (IsN s.heap 1) (aB ps) its
 clear d e r ta hzz
 induction ps generalizing us its with
 | nil=>
  obtain rfl:us=[]:=by simpa only [aB,List.map_nil,Reps] using ru
  cases rv
  exact .nil
 | cons p ps ih=>
  rw [show aB (p :: ps)=.tup [.str p.1,.int p.2] :: aB ps from rfl] at ru ⊢
  simp only [Reps] at ru
  obtain ⟨v,vs',rfl,r1,r2⟩:=ru
  obtain ⟨c,us,rfl,hc,ru⟩:=Rep.tup_inv r1
  obtain ⟨x,y,rfl,rx,ry⟩:=Reps.two ru
  obtain rfl:x=.str p.1:=by simpa only [Rep] using rx
  obtain rfl:y=.int p.2:=by simpa only [Rep] using ry
  cases rv with
  | cons q1 q2=>
   cases q1
   refine .cons ?_ (ih _ r2 _ q2)
   obtain ⟨its',rv',⟨o',e',c',n',d'⟩,_⟩:=I.tuple (SqT.of hc)
   refine ⟨c,o',its'.toArray,n',rfl,e',c',d',?_⟩
   show Paired (IsN s.heap 0) _ its'
   cases rv' with
   | cons g1 g2=>
    cases g2 with
    | cons g2 g3=>
     cases g3
     exact .cons g1 (.cons g2 .nil)
theorem wg (I:Inv X pins σ H s) {p:PM} {v:V} (r:TmR X.K H p v):∃ a,v=.ref a/\RfN s.heap 3 (tmD p) (.ref a):=by
 obtain ⟨a,b,rfl,ta,kb⟩:=r
 obtain ⟨its,rv,⟨o,e,c,n,d⟩,_⟩:=I.tuple ta.sq
 refine ⟨a,rfl,⟨a,rfl⟩,a,o,its.toArray,n,rfl,e,c,d,?_⟩
 show Paired (IsN s.heap 2) _ its
 cases rv with
 | cons g1 g2=>
  cases g2 with
  | cons g2 g3=>
   cases g3
   cases g1
   exact .cons (qb I kb) (.cons g2 .nil)
theorem rB {l:Addr} {bs:List Addr} {dp:Nat} {ds:List Dv} {Q:VK} (hc:X.calm=true) (hu:X.A.units + 20 < cLine) (I:Inv X pins σ H s) (hl:SqT X.K H l (bs.map V.ref)\/SqL X.K H l (bs.map V.ref)) (hdp:dp<=8) (hus:Paired (RfN s.heap dp) ds (bs.map Value.ref)) (nd:ds.Nodup) (hb:bs.length < 2000)
  (hB:∀ d∈ds,∀ e∈ds,ST.hB dp d=true->ST.hB dp e=true->d=e) (q:∀ a,H a=none->Q (.ref a) (upd H a (gq X.w a bs))) :
  wpAny (model X.prog X.w) X.A (call (.type "set") [.ref l]) (EP X pins σ Q) X.xe s:=by
 have ei:∀ {bs:List Addr} {its:List Value},aP (bs.map V.ref) its->its=bs.map Value.ref:=by
  intro bs
  induction bs with
  | nil=>intro its r; cases r; rfl
  | cons b bs ih=>
   intro its r
   cases r with
   | cons r t=>rw [List.map_cons,ih t,show _=Value.ref b from r]
 have hl':s.heap.IsTuple l (bs.map Value.ref).toArray\/s.heap.IsList l (bs.map Value.ref).toArray:=by
  rcases hl with h | h
  ·obtain ⟨its,rv,p,_⟩:=I.tuple h
   rw [<- ei rv]; exact .inl p
  ·obtain ⟨its,rv,p,_⟩:=I.list h
   rw [<- ei rv]; exact .inr p.isList
 refine qp (I.ok.hd hc) hl' hdp hus nd (by rw [List.length_map]; exact hb) hu fun h' tk hS k=>?_
 have hV:=hS.toV nd hB
 refine ⟨.ref s.heap.objs.size,_,I.laid (a:=s.heap.objs.size) (o:=gq X.w s.heap.objs.size bs) (t':=tk) (fun b u e=>k b u (Heap.lt_size e) e) (Nat.le_refl _) ?_,rfl,q _ I.fresh⟩
 refine ⟨hV,?_,fun h1 h2 x kk=>kX.at' x kk⟩
 obtain ⟨o,_,_,_,ho,_⟩:=hV
 exact ⟨o,ho⟩
theorem qU (hc:X.calm=true) (hu:X.A.units + 20 < cLine):bM X (.type "set") (fun xs H Q=>∃ (l:Addr) (bs:List Addr) (m:List PM),xs=[.ref l]/\SqT X.K H l (bs.map V.ref)/\Paired (TmR X.K H) m (bs.map V.ref)/\(m.map (·.1)).Nodup/\m.length < 2000 /\
  ∀ a:Addr,H a=none->Q (.ref a) (upd H a (gq X.w a bs))):=by
 intro pins s σ H xs us Q I r h
 obtain ⟨l,bs,m,rfl,hl,pm,nd,hb,q⟩:=h
 obtain ⟨u,rfl,ru⟩:=cC r
 cases ru
 have conv:∀ {m:List PM} {bs:List Addr},Paired (TmR X.K H) m (bs.map V.ref)->Paired (RfN s.heap 3) (m.map tmD) (bs.map Value.ref):=by
  intro m
  induction m with
  | nil=>intro bs p; cases bs with
   | nil=>exact .nil
   | cons b bs=>cases p
  | cons p m ih=>intro bs p; cases bs with
   | nil=>cases p
   | cons b bs=>
    cases p with
    | cons r t=>
     obtain ⟨a,e,r⟩:=wg I r
     cases e
     exact .cons r (ih t)
 have lm:bs.length=m.length:=by have:=pm.length; rw [List.length_map] at this; exact this.symm
 have inj:∀ p∈m,∀ p'∈m,p.1=p'.1->p=p':=fun p hp p' hp' e=>by
  obtain ⟨i,hi,rfl⟩:=List.getElem_of_mem hp
  obtain ⟨j,hj,rfl⟩:=List.getElem_of_mem hp'
  have:i=j:=(List.getElem_inj (h₀:=by simpa using hi) (h₁:=by simpa using hj) nd).mp (by simpa using e)
  subst this; rfl
 have nd2:(m.map tmD).Nodup:=by
  refine List.pairwise_map.mpr ((List.pairwise_map.mp nd).imp fun {p p'} h z=>h (by rw [uU z]))
 refine rB hc hu I (.inl hl) (dp:=3) (by omega) (conv pm) nd2 (by omega) (fun d hd e he h1 h2=>?_) q
 obtain ⟨p,hp,rfl⟩:=List.mem_map.mp hd
 obtain ⟨p',hp',rfl⟩:=List.mem_map.mp he
 have nil:∀ p:PM,ST.hB 3 (tmD p)=true->p.1=[]:=fun p h=>by
  refine ii _ ?_
  have:(ST.hB 2 (.tup (aB p.1)) && (true && true))=true:=h
  rw [Bool.and_eq_true] at this
  exact this.1
 rw [inj p hp p' hp' (by rw [nil _ h1,nil _ h2])]
theorem qw (hc:X.calm=true) (hu:X.A.units + 20 < cLine):bM X (.type "set") (fun xs H Q=>∃ (l:Addr) (bs:List Addr) (ks:List (List Pr)),xs=[.ref l]/\SqL X.K H l (bs.map V.ref)/\Paired (fun k b=>bZ X.K H k b) ks bs/\ks.Nodup/\ks.length < 2000 /\
  ∀ a:Addr,H a=none->Q (.ref a) (upd H a (gq X.w a bs))):=by
 intro pins s σ H xs us Q I r h
 obtain ⟨l,bs,ks,rfl,hl,pm,nd,hb,q⟩:=h
 obtain ⟨u,rfl,ru⟩:=cC r
 cases ru
 have conv:∀ {ks:List (List Pr)} {bs:List Addr},Paired (fun k b=>bZ X.K H k b) ks bs->Paired (RfN s.heap 2) (ks.map fun k=>Dv.tup (aB k)) (bs.map Value.ref):=by
  intro ks bs p
  induction p with
  | nil=>exact .nil
  | cons r _ ih=>exact .cons ⟨⟨_,rfl⟩,qb I r⟩ ih
 have lm:ks.length=bs.length:=pm.length
 have nd2:(ks.map fun k=>Dv.tup (aB k)).Nodup:=by
  refine List.pairwise_map.mpr (nd.imp fun {p p'} h z=>h ?_)
  injection z with z
  exact dZ z
 refine rB hc hu I (.inr hl) (dp:=2) (by omega) (conv pm) nd2 (by omega) (fun d hd e he h1 h2=>?_) q
 obtain ⟨p,hp,rfl⟩:=List.mem_map.mp hd
 obtain ⟨p',hp',rfl⟩:=List.mem_map.mp he
 rw [ii _ h1,ii _ h2]
theorem kC (hc:X.calm=true) (hu:X.A.units + 10 < cLine):bM X (.builtin "sorted") (fun xs H Q=>∃ (a:Addr) (ts:List IT),xs=[.ref a]/\H a=some (gq X.w a (ts.map (·.1)))/\(∀ t∈ts,ItW X.K H t)/\ts.Pairwise (fun a b=>ltK a.2.2.1 b.2.2.1=true)/\ts.length < 2000 /\
  ∀ l:Addr,H l=none->Q (.ref l) (upd H l (.lst (ts.map fun t=>V.ref t.1)))):=by
 intro pins s σ H xs us Q I r h
 obtain ⟨a,ts,rfl,ha,hT,pw,hl,q⟩:=h
 obtain ⟨u,rfl,ru⟩:=cC r
 cases ru
 obtain ⟨hS,_,_⟩:=(show aU X.prog X.w H s.heap a (gq X.w a (ts.map (·.1))) from I.hok a _ ha)
 refine Calls.call_function_entry kind_sorted plain_sorted entry_sorted (args_sorted1 _) ?_
 unfold Builtin.«sorted»
 refine wpAny_bind (m:=checkCount "sorted" 1 1 _) (wpAny_pure (wpAny_bind (fw (A:=X.A.in1) (I.ok.hd hc) hS (by rw [List.length_map,List.length_map]; omega) fun h' d tk vs k hp=>?_)))
 rw [List.map_map] at hp
 obtain ⟨ts1,p1,rfl⟩:=fT _ hp rfl
 have I1:Inv X pins σ H { s with heap:=h',gens:=s.gens,drawn:=d,toks:=tk }:=I.call (ch:=[]) (Un.kept k) (I.hok.kept k) I.bare fun b hb=>nomatch hb
 have lv:=p1.length_eq
 refine wpAny_bind (wpAny_newList ?_ (by rw [List.length_map,lv,sizeLine_eq]; omega))
 have vr:∀ ts:List IT,aP (ts.map fun p=>V.ref p.1) (ts.map (Value.ref ∘ fun x=>x.1)):=by
  intro ts
  induction ts with
  | nil=>exact .nil
  | cons p ps ih=>exact .cons rfl ih
 have I2:=I1.lnew (t':=tk) (vr ts1) (by rw [List.length_map,lv,sizeLine_eq]; omega)
 have asym:∀ {a b:List Pr},ltK a b=true->ltK b a=true->False:=fun h1 h2=>by
  have:=kG h1 h2
  rw [dM] at this
  cases this
 have ndk:(ts1.map fun t=>t.2.2.1).Nodup:=by
  refine (p1.map _).nodup_iff.mpr (List.pairwise_map.mpr (pw.imp fun {x y} h z=>?_))
  rw [z,dM] at h
  cases h
 have okS:∀ t∈ts1,ItW X.K (upd H h'.objs.size (.lst (ts1.map fun t=>V.ref t.1))) t:=fun t ht=>by
  have:=hT t (p1.mem_iff.mp ht)
  exact ⟨this.at_.tups fun _ _ e=>ak I1.fresh _ _ _ e,this.key.mono (ak I1.fresh _)⟩
 refine wpAny_bind (wpAny_holding (lW (A:=X.A.in1) (l:=h'.objs.size) (ts:=ts1) (by show X.A.units + 1 + 3 < cLine; omega) I2 af okS ndk (by omega) fun ts' h2 pq pw' I3=>?_))
 obtain rfl:ts'=ts:=List.Perm.eq_of_pairwise (le:=fun (a b:IT)=>ltK a.2.2.1 b.2.2.1=true) (fun a b _ _ x y=>(asym x y).elim) pw' pw (pq.trans p1)
 rw [lg] at I3
 exact wpAny_pure ⟨_,rfl,.ref h'.objs.size,_,I3,rfl,q _ I1.fresh⟩
theorem qB:bM X (.builtin "len") (fun xs H Q=>∃ (a:Addr) (bs:List Addr),xs=[.ref a]/\H a=some (gq X.w a bs)/\bs.length < 2000/\Q (.int (bs.length:Nat)) H):=by
 intro pins s σ H xs us Q I r h
 obtain ⟨a,bs,rfl,ha,hb,q⟩:=h
 obtain ⟨u,rfl,ru⟩:=cC r
 cases ru
 obtain ⟨hS,_,_⟩:=(show aU X.prog X.w H s.heap a (gq X.w a bs) from I.hok a _ ha)
 obtain ⟨o,es,ep,t,ho,hex,hd,hf,_,_,hp⟩:=hS
 have e:es.size=bs.length:=by have:=hp.length_eq; rw [List.length_map,Array.length_toList,List.length_map] at this; exact this
 refine call_len_set ho hex hd hf (by omega) ⟨.int (bs.length:Nat),H,I.tok _,⟨_,by rw [e]⟩,q⟩
def yi:R2:=fun x y H Q=>∃ (l k:Addr) (bs:List Addr),x=.ref l/\y=.ref k/\H l=some (.lst (bs.map V.ref))/\H k=some (.lst (bs.map V.ref))/\Q (.bl false) H
theorem wj (hu:X.A.units + 150 < cLine):OpR X (compareOp .NotEq) yi:=by
 intro pins s σ H x y v u Q I rx ry h
 obtain ⟨l,k,bs,rfl,rfl,h1,h2,q⟩:=h
 cases rx
 cases ry
 obtain ⟨its,rv1,p1,_⟩:=I.list (SqL.of h1)
 obtain ⟨its2,rv2,p2,_⟩:=I.list (SqL.of h2)
 have ei:∀ {bs:List Addr} {its:List Value},aP (bs.map V.ref) its->its=bs.map Value.ref:=by
  intro bs
  induction bs with
  | nil=>intro its r; cases r; rfl
  | cons b bs ih=>
   intro its r
   cases r with
   | cons r t=>rw [List.map_cons,ih t,show _=Value.ref b from r]
 cases ei rv1
 cases ei rv2
 refine SeqAt.RcNeAt.lists (e:=fun _=>true) p1.isList p2.isList rfl (by omega) (fun j h1 h2=>?_) X.prog X.w X.xe _ ?_
 ·exact SeqAt.EqAt.same _
 ·have e:∀ n:Nat,(!((List.range n).all fun _=>true))=false:=fun n=>by simp
  rw [e]
  exact ⟨.bl false,H,I,rfl,q⟩
end
open PySem PySem.Spec PyProof.Rows PySem.W KB
theorem jM {X:Cx}:bM X (.builtin "isinstance") (fun xs H Q=>∃ (a:Addr) (us:List V),xs=[.ref a,.ty "tuple"]/\SqT X.K H a us/\Q (.bl true) H):=by
 intro pins s σ H xs us Q I r h
 obtain ⟨a,vs,rfl,ta,q⟩:=h
 obtain ⟨u,w',rfl,rx,rn⟩:=pA r
 cases rn
 cases rx
 obtain ⟨its,_,⟨o,h1,h2,_⟩,_⟩:=I.tuple ta
 exact PySem.W.kia_one PySem.W.kitx_tuple I.kIn ⟨o,h1,h2⟩ (eO X.K (.tup [])) (fun z=>nomatch z) fun tk=>⟨.bl true,H,I.tok tk,rfl,q⟩
theorem wY {K:PySem.W.Frag} {H:Hp} {m:List PM} {us:List V} (h:Paired (TmR K H) m us):∃ ts:List IT,us=ts.map (fun t=>V.ref t.1)/\ts.map (·.2.2)=m/\∀ t∈ts,ItW K H t:=by
 induction h with
 | nil=>exact ⟨[],rfl,rfl,fun _ h=>nomatch h⟩
 | @cons p v _ _ r _ ih=>
  obtain ⟨a,b,rfl,ta,kb⟩:=r
  obtain ⟨ts,rfl,rfl,h⟩:=ih
  refine ⟨(a,b,p) :: ts,rfl,rfl,fun t ht=>?_⟩
  rcases List.mem_cons.mp ht with rfl | ht
  ·exact ⟨ta,kb⟩
  ·exact h t ht
end L2
namespace K16
open PySem L2 KB
def top (i : Nat) : Stmt := PySem.Challenge.pw_indexwise_k16_whole_weights_count.main.body.getD i (.Pass ⟨0, 0, 0, 0⟩)
structure Txt (K:PySem.W.Frag) (mg:Str->Option Value):Prop where
 len:mg "len"=none
 isinstance:mg "isinstance"=none
 int:mg "int"=none
 bool:mg "bool"=none
 tuple:mg "tuple"=none
 list:mg "list"=none
 range:mg "range"=none
 sorted:mg "sorted"=none
 set:mg "set"=none
 min:mg "min"=none
 max:mg "max"=none
 sum:mg "sum"=none
 all:mg "all"=none
 lWHOLE_BOUND:∃ t,mg "WHOLE_BOUND"=some (.int 1000000000000 t)
theorem Txt.g_WHOLE_BOUND {X:Cx} {pos:Pos} (T:Txt X.K X.mg) (hg:Gl X "WHOLE_BOUND"):PE X (.Name "WHOLE_BOUND" pos) (tC (.int 1000000000000)):=by
 obtain ⟨t,e⟩:=T.lWHOLE_BOUND
 exact pQ hg e ⟨t,rfl⟩
abbrev gN:Stmt:=top 19
abbrev eQ:Stmt:=top 20
abbrev eI:Stmt:=top 21
def St2 (H:Hp) (a:Addr):Prop:=∃ (n:Int) (b:Bool),H a=some (.lst [.int n,.bl b])
theorem St2.b {H H':Hp} {a b:Addr} (h:St2 H a) (s:aH b H H') (n:a≠b):St2 H' a:=let ⟨i,c,e⟩:=h; ⟨i,c,s _ _ n e⟩
theorem St2.m {H H':Hp} {a:Addr} (h:St2 H a) (s:aq H H'):St2 H' a:=let ⟨i,c,e⟩:=h; ⟨i,c,s _ _ e⟩
theorem St2.tups {H H':Hp} {a:Addr} (h:St2 H a) (s:aH a H H'):dc H H':=let ⟨_,_,e⟩:=h; s.tups e
def gF:Sp:=fun vs H Q _=>∃ (a:Addr) (m:Int),vs=[.ref a,.int m]/\St2 H a/\0 < m/\m < 10 ^ 40/\∀ (H':Hp) (x:Int),aH a H H'->St2 H' a->0<=x->x < m->Q (.int x) H'
def gW (K:PySem.W.Frag):Sp:=fun vs H Q _=>∃ (s:Addr) (ns:List Int) (k:Int),vs=[.ref s,.int k]/\SqL K H s (ns.map V.int)/\0<=k/\∀ (H':Hp) (a:Addr),aq H H'->H a=none->St2 H' a->Q (.ref a) H'
def lG:Sp:=fun vs H Q _=>∃ (a:Addr) (m:Nat),vs=[.ref a,.int m]/\St2 H a/\m<=10/\∀ (H':Hp) (r:Addr) (xs:List Str),aH a H H'->St2 H' a->H r=none->H' r=some (.lst (xs.map V.str))->xs.length=m->(∀ x∈xs,nmB x=true)->Q (.ref r) H'
theorem sI:∀ j,j < 21->∃ c,(Str.ofString "bcdfghjklmnpqrstvwxyz").cps.toList[j]?=some c/\azB c=true:=by
 have h:∀ j,j < 21->(((Str.ofString "bcdfghjklmnpqrstvwxyz").cps.toList[j]?).map azB)=some true:=by decide +kernel
 intro j hj
 obtain ⟨c,e1,e2⟩:=Option.map_eq_some_iff.mp (h j hj)
 exact ⟨c,e1,e2⟩
theorem pY {i:Int} (h0:0<=i) (h1:i < 21):∃ c,atI (Str.ofString "bcdfghjklmnpqrstvwxyz").cps.toList i=some c/\azB c=true:=by
 obtain ⟨c,e,h⟩:=sI i.toNat (by omega)
 have q:=ag e
 rw [show ((i.toNat:Nat):Int)=i by omega] at q
 exact ⟨c,q,h⟩
section
variable {P:Program} {w:World} {K:PySem.W.Frag} {mg:Str->Option Value} {base:Heap}
theorem pB:aR ["_law_state_here","_law_many","_law_found"] ["_law_state_here","_law_many"] (ai gN):=⟨rfl,rfl,rfl,by decide +kernel,rfl,by decide +kernel,by decide +kernel⟩
theorem vc {f:Addr} {fd:FuncData} (F:Fun K "_law_draw" "_law_draw" gN f fd) (T:Txt K mg):bj P w K mg base CX0 1 f fd ["_law_state_here","_law_many"] gF:=by
 have nd:(["_law_state_here","_law_many","_law_found"]:List Str).Nodup:=pB.nd
 refine F.ok pB (fun vs H Q E h=>?_) (fun cdv A outer s H vs Q E hr h=>?_)
 ·obtain ⟨a,m,rfl,_⟩:=h
  rfl
 obtain ⟨a,m,rfl,⟨n,b,ha⟩,m0,mB,q⟩:=h
 refine ⟨_,(@ah _ _ _ _ _ (@bi _ _ _ _ _ _ _ _ (@dL _ _ _ (@aE _ _ _ _ _ _ _ cp (@pv _ 0 _ _ (by rfl) (by trivial) (by decide) (by decide)) (@ad _ _ _ _) (fun _ _=>rfl)) (by intro _; rfl)) (@ah _ _ _ _ _ (@aT _ _ (2) _ _ _ _ nd rfl (Or.inl rfl) (@aQ _ _ _ _ _ _ _ _ fq (@aE _ _ _ _ _ _ _ cp (@pv _ 0 _ _ (by rfl) (by trivial) (by decide) (by decide)) (@ad _ _ _ _) (fun _ _=>rfl)) (@pv _ 1 _ _ (by rfl) (by trivial) (by decide) (by decide))) (by rfl) (by trivial)) (@ah _ _ _ _ _ (@iq _ _ _ _ _ _ (@aQ _ _ _ _ _ _ _ _ md (@aE _ _ _ _ _ _ _ cp (@pv _ 0 _ _ (by rfl) (by trivial) (by decide) (by decide)) (@ad _ _ _ _) (fun _ _=>rfl)) (@pv _ 1 _ _ (by rfl) (by trivial) (by decide) (by decide))) (@sK _ _ _ _ _ _ _ (@pv _ 0 _ _ (by rfl) (by trivial) (by decide) (by decide)) (@ad _ _ _ _) nI (by intro _; rfl)) (by rfl) (by rfl) (by rfl)) (@aj _ _ _ (@aA _ _ _ _ (@pv _ 2 _ _ (by rfl) (by trivial) (by decide) (by decide)))))) (@aN _)) (@ah _ _ _ _ _ (@iq _ _ _ _ _ _ (@aQ _ _ _ _ _ _ _ _ fq (@aQ _ _ _ _ _ _ _ _ bt (@aQ _ _ _ _ _ _ _ _ ck (@aE _ _ _ _ _ _ _ cp (@pv _ 0 _ _ (by rfl) (by trivial) (by decide) (by decide)) (@ad _ _ _ _) (fun _ _=>rfl)) (@ad _ _ _ _)) (@ad _ _ _ _)) (@ad _ _ _ _)) (@sK _ _ _ _ _ _ _ (@pv _ 0 _ _ (by rfl) (by trivial) (by decide) (by decide)) (@ad _ _ _ _) nI (by intro _; rfl)) (by rfl) (by rfl) (by rfl)) (@aj _ _ _ (@aA _ _ _ _ (@aQ _ _ _ _ _ _ _ _ fq (@aQ _ _ _ _ _ _ _ _ fq (@aQ _ _ _ _ _ _ _ _ ck (@aQ _ _ _ _ _ _ _ _ md (@aQ _ _ _ _ _ _ _ _ fq (@aQ _ _ _ _ _ _ _ _ ck (@aE _ _ _ _ _ _ _ cp (@pv _ 0 _ _ (by rfl) (by trivial) (by decide) (by decide)) (@ad _ _ _ _) (fun _ _=>rfl)) (@ad _ _ _ _)) (@ad _ _ _ _)) (@ad _ _ _ _)) (@ad _ _ _ _)) (@ad _ _ _ _)) (@pv _ 1 _ _ (by rfl) (by trivial) (by decide) (by decide))))))),?_⟩
 refine ⟨_,rfl,a,_,1,.bl b,rfl,rfl,SqL.of ha,ag (j:=1) rfl,_,rfl,?_⟩
 cases b with
 | true=>
  refine cQ ?_
  refine ⟨_,rfl,a,_,0,.int n,rfl,rfl,SqL.of ha,ag (j:=0) rfl,_,rfl,_,_,rfl,rfl,m0,?_⟩
  refine ⟨_,rfl,a,_,0,.int n,rfl,rfl,SqL.of ha,ag (j:=0) rfl,_,rfl,_,_,rfl,rfl,⟨m0,by omega⟩,_,rfl,a,_,0,0,rfl,rfl,ha,rfl,?_⟩
  exact ⟨_,rfl,q _ _ (aH.upd _ _ _) ⟨_,_,af⟩ (mod_lt m m0).1 (mod_lt m m0).2⟩
 | false=>
  refine cF ?_
  refine ⟨_,rfl,a,_,0,.int n,rfl,rfl,SqL.of ha,ag (j:=0) rfl,_,_,rfl,rfl,.inr ⟨by decide,by decide⟩,_,_,rfl,rfl,_,_,rfl,rfl,(by show (0:Int) < 2147483647; decide),_,rfl,a,_,0,0,rfl,rfl,ha,rfl,?_⟩
  refine ⟨_,rfl,a,_,0,_,rfl,rfl,SqL.of af,ag (j:=0) rfl,_,_,rfl,rfl,.inr ⟨by decide,by decide⟩,_,_,rfl,rfl,(by show (0:Int) < 2147483629; decide),_,_,rfl,rfl,⟨by decide,by decide⟩,_,_,rfl,rfl,.inr ⟨by decide,by decide⟩,_,_,rfl,rfl,(by show (0:Int) < 2147483587; decide),_,rfl,_,_,rfl,rfl,m0,?_⟩
  exact q _ _ (aH.upd _ _ _) ⟨_,_,af⟩ (mod_lt m m0).1 (mod_lt m m0).2
theorem mq:aR ["_law_script","_law_k","_law_cell"] ["_law_script","_law_k"] (ai eQ):=⟨rfl,rfl,rfl,by decide +kernel,rfl,by decide +kernel,by decide +kernel⟩
theorem sW {f:Addr} {fd:FuncData} (F:Fun K "_law_state" "_law_state" eQ f fd) (T:Txt K mg):bj P w K mg base CX0 1 f fd ["_law_script","_law_k"] (gW K):=by
 have nd:(["_law_script","_law_k","_law_cell"]:List Str).Nodup:=mq.nd
 refine F.ok mq (fun vs H Q E h=>?_) (fun cdv A outer s H vs Q E hr h=>?_)
 ·obtain ⟨a,ns,k,rfl,_⟩:=h
  rfl
 obtain ⟨a,ns,k,rfl,hS,k0,q⟩:=h
 have p15:xo 10 15:=⟨by decide,by decide,by decide⟩
 refine ⟨_,(@ah _ _ _ _ _ (@aT _ _ (2) _ _ _ _ nd rfl (Or.inl rfl) (@ad _ _ _ _) (by rfl) (by trivial)) (@ah _ _ _ _ _ (@bi _ _ _ _ _ _ _ _ (@aG _ _ _ _ _ _ _ _ iW (@pv _ 1 _ _ (by rfl) (by trivial) (by decide) (by decide)) (@aK _ _ _ _ _ _ _ _ _ bJ rfl T.len (by decide +kernel) (@aa _ _ _ _ _ (@pv _ 0 _ _ (by rfl) (by trivial) (by decide) (by decide)) (@ae _) (by rfl)) (by decide) (by decide) (by rfl) (by rfl)) (aM _)) (@aj _ _ _ (@aT _ _ (2) _ _ _ _ nd rfl (Or.inl rfl) (@aE _ _ _ _ _ _ _ cp (@pv _ 0 _ _ (by rfl) (by trivial) (by decide) (by decide)) (@pv _ 1 _ _ (by rfl) (by trivial) (by decide) (by decide)) (fun _ _=>rfl)) (by rfl) (by trivial))) (@aN _)) (@ah _ _ _ _ _ (@bi _ _ _ _ _ _ _ _ (@aG _ _ _ _ _ _ _ _ iW (@pv _ 2 _ _ (by rfl) (by trivial) (by decide) (by decide)) (@aQ _ _ _ _ _ _ _ _ wW (@ad _ _ _ _) (@ad _ _ _ _)) (aM _)) (@aj _ _ _ (@aA _ _ _ _ (@iD _ _ _ _ (@aa _ _ _ _ _ (@aQ _ _ _ _ _ _ _ _ bt (@aQ _ _ _ _ _ _ _ _ bt (@pv _ 2 _ _ (by rfl) (by trivial) (by decide) (by decide)) (@aQ _ _ _ _ _ _ _ _ ck (@ad _ _ _ _) (@pv _ 1 _ _ (by rfl) (by trivial) (by decide) (by decide)))) (@ad _ _ _ _)) (@aa _ _ _ _ _ (@dq _ _ _ _) (@ae _) (by rfl)) (by rfl))))) (@aN _)) (@aj _ _ _ (@aA _ _ _ _ (@iD _ _ _ _ (@aa _ _ _ _ _ (@pv _ 2 _ _ (by rfl) (by trivial) (by decide) (by decide)) (@aa _ _ _ _ _ (@dq _ _ _ _) (@ae _) (by rfl)) (by rfl)))))))),?_⟩
 refine ⟨_,rfl,_,rfl,a,_,rfl,.inl hS,_,_,rfl,rfl,_,rfl,aW (fun c=>?_) (fun c=>?_)⟩
 ·have c':=of_decide_eq_true c
  rw [List.length_map] at c'
  obtain ⟨v,hv⟩:=ku k0 c'
  refine ⟨_,rfl,_,rfl,a,_,_,_,rfl,rfl,hS,hv,?_⟩
  refine ⟨_,rfl,_,_,rfl,rfl,p15,_,_,rfl,rfl,_,rfl,aW (fun d=>?_) (fun d=>?_)⟩
  ·exact ⟨_,rfl,_,rfl,_,_,rfl,rfl,.inl ⟨by decide,by decide⟩,_,_,rfl,rfl,_,_,rfl,rfl,z2,fun l hl=>q _ l (ak hl _) hl ⟨_,_,af⟩⟩
  ·exact ⟨_,rfl,z2,fun l hl=>q _ l (ak hl _) hl ⟨_,_,af⟩⟩
 ·refine ⟨_,rfl,_,_,rfl,rfl,p15,_,_,rfl,rfl,_,rfl,aW (fun d=>?_) (fun d=>?_)⟩
  ·exact ⟨_,rfl,_,rfl,_,_,rfl,rfl,.inl ⟨by decide,by decide⟩,_,_,rfl,rfl,_,_,rfl,rfl,z2,fun l hl=>q _ l (ak hl _) hl ⟨_,_,af⟩⟩
  ·exact ⟨_,rfl,z2,fun l hl=>q _ l (ak hl _) hl ⟨_,_,af⟩⟩
theorem nK:aR ["_law_state_here","_law_many","_law_letters","_law_stem","_law_k","_law_at","_law_turn"] ["_law_state_here","_law_many"] (ai eI):=⟨rfl,rfl,rfl,by decide +kernel,rfl,by decide +kernel,by decide +kernel⟩
theorem sn {f:Addr} {fd:FuncData} {k:Nat} (F:Fun K "_law_names" "_law_names" eI f fd) (T:Txt K mg) (D_law_draw:Def P w K mg base k "_law_draw" ["_law_state_here","_law_many"] gF):bj P w K mg base CX0 (k + 1) f fd ["_law_state_here","_law_many"] lG:=by
 have nd:(["_law_state_here","_law_many","_law_letters","_law_stem","_law_k","_law_at","_law_turn"]:List Str).Nodup:=nK.nd
 refine F.ok nK (fun vs H Q E h=>?_) (fun cdv A outer s H vs Q E hr h=>?_)
 ·obtain ⟨a,m,rfl,_⟩:=h
  rfl
 obtain ⟨a,m,rfl,h2,m10,q⟩:=h
 refine ⟨_,(@ah _ _ _ _ _ (@aT _ _ (2) _ _ _ _ nd rfl (Or.inr rfl) (@bq _ _ _ _) (by rfl) (by trivial)) (@ah _ _ _ _ _ (@aT _ _ (3) _ _ _ _ nd rfl (Or.inr rfl) (@bq _ _ _ _) (by rfl) (by trivial)) (@ah _ _ _ _ _ (@bW _ _ _ _ _ _ _ _ PassesOwn.never rfl (@gj _ _ _ _ _ _ rfl T.range (@aa _ _ _ _ _ (@ao _ _ _ _ _ _ _ _ _ _ D_law_draw hr rfl (@aa _ _ _ _ _ (@pv _ 0 _ _ (by rfl) (by trivial) (by decide) (by decide)) (@aa _ _ _ _ _ (@ad _ _ _ _) (@ae _) (by rfl)) (by rfl)) (by decide) (by rfl) (by rfl)) (@ae _) (by rfl)) (by rfl)) (@au _ _ (4) _ nd rfl (Or.inl rfl) (by trivial)) (@aj _ _ _ (@aT _ _ (3) _ _ _ _ nd rfl (Or.inr rfl) (@aQ _ _ _ _ _ _ _ _ fj (@pv _ 3 _ _ (by rfl) (by trivial) (by decide) (by decide)) (@aE _ _ _ _ _ _ _ se (@pv _ 2 _ _ (by rfl) (by trivial) (by decide) (by decide)) (@ao _ _ _ _ _ _ _ _ _ _ D_law_draw hr rfl (@aa _ _ _ _ _ (@pv _ 0 _ _ (by rfl) (by trivial) (by decide) (by decide)) (@aa _ _ _ _ _ (@ad _ _ _ _) (@ae _) (by rfl)) (by rfl)) (by decide) (by rfl) (by rfl)) (fun _ _=>rfl))) (by rfl) (by trivial))) (by intro _; rfl)) (@ah _ _ _ _ _ (@aT _ _ (5) _ _ _ _ nd rfl (Or.inr rfl) (@ao _ _ _ _ _ _ _ _ _ _ D_law_draw hr rfl (@aa _ _ _ _ _ (@pv _ 0 _ _ (by rfl) (by trivial) (by decide) (by decide)) (@aa _ _ _ _ _ (@aQ _ _ _ _ _ _ _ _ bt (@aK _ _ _ _ _ _ _ _ _ kB rfl T.len (by decide +kernel) (@aa _ _ _ _ _ (@pv _ 3 _ _ (by rfl) (by trivial) (by decide) (by decide)) (@ae _) (by rfl)) (by decide) (by decide) (by rfl) (by rfl)) (@ad _ _ _ _)) (@ae _) (by rfl)) (by rfl)) (by decide) (by rfl) (by rfl)) (by rfl) (by trivial)) (@ah _ _ _ _ _ (@aT _ _ (6) _ _ _ _ nd rfl (Or.inr rfl) (@ao _ _ _ _ _ _ _ _ _ _ D_law_draw hr rfl (@aa _ _ _ _ _ (@pv _ 0 _ _ (by rfl) (by trivial) (by decide) (by decide)) (@aa _ _ _ _ _ (@ad _ _ _ _) (@ae _) (by rfl)) (by rfl)) (by decide) (by rfl) (by rfl)) (by rfl) (by trivial)) (@aj _ _ _ (@aA _ _ _ _ (@iM _ _ (["_law_k"]) ([2,3,5,6]) _ _ _ _ _ _ _ _ _ (@gj _ _ _ _ _ _ rfl T.range (@aa _ _ _ _ _ (@pv _ 1 _ _ (by rfl) (by trivial) (by decide) (by decide)) (@ae _) (by rfl)) (by rfl)) (.of rfl) rfl (fun _ _ _=>au (i:=0) (cN (l:=["_law_k","_law_letters","_law_stem","_law_at","_law_turn"]) ((by decide +kernel)) rfl) rfl (Or.inl rfl)) (fY (by decide)) (fun _ _ _=>(@cG _)) (fun _ _ _=>(@aQ _ _ _ _ _ _ _ _ fj (@aQ _ _ _ _ _ _ _ _ fj (@nh _ _ _ _ _ _ _ _ _ _ tQ (@pv _ 2 _ _ (by rfl) (by trivial) (by decide) (by decide)) (@qe _) (@qg _ _ _ (@pv _ 3 _ _ (by rfl) (by trivial) (by decide) (by decide)))) (@aE _ _ _ _ _ _ _ se (@pv _ 1 _ _ (by rfl) (by trivial) (by decide) (by decide)) (@aQ _ _ _ _ _ _ _ _ fq (@aQ _ _ _ _ _ _ _ _ bt (@pv _ 4 _ _ (by rfl) (by trivial) (by decide) (by decide)) (@aQ _ _ _ _ _ _ _ _ ck (@ad _ _ _ _) (@pv _ 0 _ _ (by rfl) (by trivial) (by decide) (by decide)))) (@ad _ _ _ _)) (fun _ _=>rfl))) (@nh _ _ _ _ _ _ _ _ _ _ tQ (@pv _ 2 _ _ (by rfl) (by trivial) (by decide) (by decide)) (@qg _ _ _ (@pv _ 3 _ _ (by rfl) (by trivial) (by decide) (by decide))) (@qe _)))) (by intro _; rfl))))))))),?_⟩
 have abc:(Str.ofString "bcdfghjklmnpqrstvwxyz").length<=sizeLine:=by rw [sizeLine_eq]; decide +kernel
 refine ⟨_,rfl,a,8,rfl,h2,by decide,by decide,fun H1 x s1 st1 x0 x8=>?_⟩
 refine ⟨x,rfl,by omega,by omega,jt (n:=x.toNat) (fun i σ H'=>∃ (stem:Str) (o1:Option V),σ=[some (.ref a),some (.int m),some (.str "bcdfghjklmnpqrstvwxyz"),some (.str stem),o1,none,none]/\aH a H H'/\St2 H' a/\Az stem i) ⟨_,_,rfl,s1,st1,rR⟩ ?T1 ?_⟩
 case T1=>
  rintro i σ H2 hi ⟨stem,o1,rfl,s2,st2,az⟩
  refine ⟨_,rfl,_,rfl,_,rfl,a,21,rfl,st2,by decide,by decide,fun H3 y s3 st3 y0 y1=>?_⟩
  obtain ⟨ch,hc,hz⟩:=pY y0 y1
  refine ⟨_,_,ch,rfl,rfl,abc,hc,_,_,rfl,rfl,?_,?_⟩
  ·rw [az.len,(kW hz).len,sizeLine_eq]; omega
  ·exact ⟨_,_,rfl,s2.trans s3,st3,oe az (kW hz)⟩
 rintro σ H2 ⟨stem,o1,rfl,s2,st2,az⟩
 have ln:=az.len
 have stl:stem.length<=sizeLine:=by rw [ln,sizeLine_eq]; omega
 refine ⟨_,rfl,_,rfl,_,rfl,stl,_,_,rfl,rfl,a,_,rfl,st2,by omega,by rw [ln]; omega,fun H3 y s3 st3 y0 y1=>?_⟩
 refine ⟨_,rfl,a,21,rfl,st3,by decide,by decide,fun H4 z s4 st4 z0 z1=>?_⟩
 have at1:y<=x.toNat:=by rw [ln] at y1; omega
 have zf:=vj az y0 at1
 have zt:=xJ az y0 at1
 refine ⟨_,rfl,_,rfl,by omega,by omega,mS (n:=((m:Int)).toNat) (fun i ys H'=>H'=H4/\∃ ws:List Str,ys=ws.map V.str/\ws.length=i/\∀ z∈ws,nmB z=true) ⟨rfl,[],rfl,rfl,by simp⟩ ?_ ?_⟩
 ·rintro i ys H5 hi ⟨rfl,ws,rfl,hw,hw1⟩
  obtain ⟨b0,b1⟩:=mod_lt (a:=z + 5 * ((0:Int) + (i:Int))) 21 (by decide)
  obtain ⟨ch,hc,hz2⟩:=pY b0 b1
  have e1:=oe zt (kW hz2)
  have e2:=oe e1 zf
  refine gs ⟨_,rfl,_,rfl,_,rfl,_,rfl,stl,_,rfl,_,rfl,_,rfl,_,_,rfl,rfl,.inl ⟨by decide,by decide⟩,_,_,rfl,rfl,_,_,rfl,rfl,(by show (0:Int) < 21; decide),_,_,ch,rfl,rfl,abc,hc,_,_,rfl,rfl,?_,_,rfl,_,rfl,_,rfl,_,rfl,stl,_,_,rfl,rfl,?_,?_,rfl,ws ++ [Txt.slice stem none (some y) ++ ⟨#[ch]⟩ ++ Txt.slice stem (some y) none],by simp,by simp [hw],fun w hw'=>?_⟩
  ·rw [zt.len,(kW hz2).len,sizeLine_eq]; omega
  ·rw [e1.len,zf.len,sizeLine_eq]; omega
  ·rw [List.length_map,sizeLine_eq]; omega
  ·rcases List.mem_append.mp hw' with h | h
   ·exact hw1 w h
   ·rw [List.mem_singleton.mp h]; exact xZ e2 (by omega) (by omega)
 rintro ys H5 ⟨rfl,ws,rfl,hw,hw1⟩ r hr'
 have s05:aH a H H5:=s2.trans (s3.trans s4)
 have hra:r≠a:=fun e=>by obtain ⟨n,b,e2⟩:=st4; rw [e,e2] at hr'; cases hr'
 have hrn:H r=none:=by
  cases e:H r with
  | none=>rfl
  | some o=>have:=s05 r o hra e; rw [hr'] at this; cases this
 exact q _ r ws (s05.trans (aq.b a (ak hr' _))) (st4.m (ak hr' _)) hrn af (by rw [hw]; omega) hw1
end
abbrev dw:Stmt:=top 22
structure Ln (xs:List Str) (most:Int) (c:Int) (ps:List Pr):Prop where
 c0:0<=c
 cB:c<=most
 can:cX ps
 nm:∀ p∈ps,p.1∈xs/\p.2<=most
 len:ps.length<=10
def iP:Sp:=fun vs H Q _=>∃ (a b:Addr) (m:Int) (xs:List Str),vs=[.ref a,.ref b,.int m]/\St2 H a/\H b=some (.lst (xs.map V.str))/\b≠a/\xs.length<=10/\2<=m/\m < 10 ^ 39 /\
 ∀ (H':Hp) (v:V) (c:Int) (ps:List Pr),aH a H H'->St2 H' a->Rep H' (cO c ps) v->Ln xs m c ps->Q v H'
theorem yb {i:Int} (h0:0<=i) (h1:i < 4):∃ n:Int,atI ([V.int 0,V.int 0,V.int 1,V.int 2]:List V) i=some (.int n)/\0<=n/\n<=2:=by
 have e:i=0\/i=1\/i=2\/i=3:=by omega
 rcases e with rfl | rfl | rfl | rfl
 ·exact ⟨0,ag (j:=0) rfl,by decide⟩
 ·exact ⟨0,ag (j:=1) rfl,by decide⟩
 ·exact ⟨1,ag (j:=2) rfl,by decide⟩
 ·exact ⟨2,ag (j:=3) rfl,by decide⟩
theorem z4:4<=sizeLine:=by rw [sizeLine_eq]; decide
section
variable {P:Program} {w:World} {K:PySem.W.Frag} {mg:Str->Option Value} {base:Heap}
theorem jF:aR ["_law_state_here","_law_names_here","_law_most","_law_counts","_law_name","_law_way","_law_count_here"] ["_law_state_here","_law_names_here","_law_most"] (ai dw):=⟨rfl,rfl,rfl,by decide +kernel,rfl,by decide +kernel,by decide +kernel⟩
theorem rf {f:Addr} {fd:FuncData} {k:Nat} (F:Fun K "_law_length" "_law_length" dw f fd) (T:Txt K mg) (D_law_draw:Def P w K mg base k "_law_draw" ["_law_state_here","_law_many"] gF):bj P w K mg base CX0 (k + 1) f fd ["_law_state_here","_law_names_here","_law_most"] iP:=by
 have nd:(["_law_state_here","_law_names_here","_law_most","_law_counts","_law_name","_law_way","_law_count_here"]:List Str).Nodup:=jF.nd
 refine F.ok jF (fun vs H Q E h=>?_) (fun cdv A outer s H vs Q E hr h=>?_)
 ·obtain ⟨a,b,m,xs,rfl,_⟩:=h
  rfl
 obtain ⟨a,b,m,xs,rfl,st,hb,hba,lx,m2,mB,q⟩:=h
 have hu:=iS hr
 refine ⟨_,(@ah _ _ _ _ _ (@aT _ _ (3) _ _ _ _ nd rfl (Or.inl rfl) (@fV _ _) (by rfl) (by trivial)) (@ah _ _ _ _ _ (@bW _ _ _ _ _ _ _ _ PassesOwn.never rfl (@hE _ _ _ _ (@pv _ 1 _ _ (by rfl) (by trivial) (by decide) (by decide))) (@au _ _ (4) _ nd rfl (Or.inl rfl) (by trivial)) (@ah _ _ _ _ _ (@aT _ _ (5) _ _ _ _ nd rfl (Or.inl rfl) (@ao _ _ _ _ _ _ _ _ _ _ D_law_draw hr rfl (@aa _ _ _ _ _ (@pv _ 0 _ _ (by rfl) (by trivial) (by decide) (by decide)) (@aa _ _ _ _ _ (@ad _ _ _ _) (@ae _) (by rfl)) (by rfl)) (by decide) (by rfl) (by rfl)) (by rfl) (by trivial)) (@ah _ _ _ _ _ (@bi _ _ _ _ _ _ _ _ (@aG _ _ _ _ _ _ _ _ mK (@pv _ 5 _ _ (by rfl) (by trivial) (by decide) (by decide)) (@ad _ _ _ _) (aM _)) (@aj _ _ _ (@fx _ _ _ _ _ _ _ _ _ hu (@pv _ 3 _ _ (by rfl) (by trivial) (by decide) (by decide)) (@pv _ 4 _ _ (by rfl) (by trivial) (by decide) (by decide)) (@ad _ _ _ _) rfl)) (@aN _)) (@aj _ _ _ (@bi _ _ _ _ _ _ _ _ (@aG _ _ _ _ _ _ _ _ bK (@pv _ 5 _ _ (by rfl) (by trivial) (by decide) (by decide)) (@ad _ _ _ _) (aM _)) (@aj _ _ _ (@fx _ _ _ _ _ _ _ _ _ hu (@pv _ 3 _ _ (by rfl) (by trivial) (by decide) (by decide)) (@pv _ 4 _ _ (by rfl) (by trivial) (by decide) (by decide)) (@aQ _ _ _ _ _ _ _ _ bt (@ad _ _ _ _) (@ao _ _ _ _ _ _ _ _ _ _ D_law_draw hr rfl (@aa _ _ _ _ _ (@pv _ 0 _ _ (by rfl) (by trivial) (by decide) (by decide)) (@aa _ _ _ _ _ (@pv _ 2 _ _ (by rfl) (by trivial) (by decide) (by decide)) (@ae _) (by rfl)) (by rfl)) (by decide) (by rfl) (by rfl))) rfl)) (@aN _))))) (by intro _; rfl)) (@ah _ _ _ _ _ (@aT _ _ (6) _ _ _ _ nd rfl (Or.inl rfl) (@aE _ _ _ _ _ _ _ cp (@iD _ _ _ _ (@aa _ _ _ _ _ (@ad _ _ _ _) (@aa _ _ _ _ _ (@ad _ _ _ _) (@aa _ _ _ _ _ (@ad _ _ _ _) (@aa _ _ _ _ _ (@ad _ _ _ _) (@ae _) (by rfl)) (by rfl)) (by rfl)) (by rfl))) (@ao _ _ _ _ _ _ _ _ _ _ D_law_draw hr rfl (@aa _ _ _ _ _ (@pv _ 0 _ _ (by rfl) (by trivial) (by decide) (by decide)) (@aa _ _ _ _ _ (@ad _ _ _ _) (@ae _) (by rfl)) (by rfl)) (by decide) (by rfl) (by rfl)) (fun _ _=>rfl)) (by rfl) (by trivial)) (@ah _ _ _ _ _ (@bi _ _ _ _ _ _ _ _ (@aG _ _ _ _ _ _ _ _ bK (@pv _ 6 _ _ (by rfl) (by trivial) (by decide) (by decide)) (@ad _ _ _ _) (aM _)) (@aj _ _ _ (@aT _ _ (6) _ _ _ _ nd rfl (Or.inl rfl) (@ao _ _ _ _ _ _ _ _ _ _ D_law_draw hr rfl (@aa _ _ _ _ _ (@pv _ 0 _ _ (by rfl) (by trivial) (by decide) (by decide)) (@aa _ _ _ _ _ (@aQ _ _ _ _ _ _ _ _ bt (@pv _ 2 _ _ (by rfl) (by trivial) (by decide) (by decide)) (@ad _ _ _ _)) (@ae _) (by rfl)) (by rfl)) (by decide) (by rfl) (by rfl)) (by rfl) (by trivial))) (@aN _)) (@aj _ _ _ (@aA _ _ _ _ (@bE _ _ _ _ _ (@aa _ _ _ _ _ (@pv _ 6 _ _ (by rfl) (by trivial) (by decide) (by decide)) (@aa _ _ _ _ _ (@bH _ _ _ _ _ _ _ _ _ bO rfl T.tuple (by decide +kernel) (@aa _ _ _ _ _ (@aK _ _ _ _ _ _ _ _ _ (fG rfl) rfl T.sorted (by decide +kernel) (@aa _ _ _ _ _ (@iB _ _ _ _ _ _ _ _ _ PySem.F.plainAttrs_dict PySem.F.slot_dict_items PySem.F.type_dict_items nA (@pv _ 3 _ _ (by rfl) (by trivial) (by decide) (by decide)) (by rfl) (by rfl)) (@ae _) (by rfl)) (by decide) (by decide) (by rfl) (by rfl)) (@ae _) (by rfl)) (by decide) (by decide) (by rfl) (by rfl)) (@ae _) (by rfl)) (by rfl))))))))),?_⟩
 intro d hd
 have s0:aH a H (upd H d (.dK [])):=aq.b a (ak hd _)
 have da:d≠a:=fun e=>by obtain ⟨n,c,e2⟩:=st; rw [e,e2] at hd; cases hd
 have db:b≠d:=am hb hd
 refine ⟨_,rfl,b,rfl,⟨_,SqL.of (s0 _ _ hba hb)⟩,fF (xs:=xs.map V.str) (fun i σ H'=>∃ (kvs:List Pr) (o1 o2:Option V),σ=[some (.ref a),some (.ref b),some (.int m),some (.ref d),o1,o2,none]/\aH a H H'/\St2 H' a/\H' d=some (.dK (dk kvs))/\(kvs.map (·.1)).Nodup/\kvs.length<=i/\∀ p∈kvs,p.1∈xs/\1<=p.2/\p.2<=m)
  ⟨[],_,_,rfl,s0,st.m (ak hd _),af,by simp,by simp,by simp⟩ (fun i σ H' _ ⟨_,_,_,_,s1,_⟩=>SqL.of (s1 _ _ hba hb)) ?T1 ?_⟩
 case T1=>
  rintro i x σ H1 hx ⟨kvs,o1,o2,rfl,s1,st1,d1,ndk,lk,hall⟩
  rw [List.getElem?_map] at hx
  obtain ⟨y,hy,rfl⟩:=Option.map_eq_some_iff.mp hx
  have hi:i < xs.length:=(List.getElem?_eq_some_iff.mp hy).1
  have hyx:=List.mem_of_getElem? hy
  refine ⟨_,rfl,a,4,rfl,st1,by decide,by decide,fun H2 z s2 st2 z0 z4=>?_⟩
  have d2:=s2 _ _ da d1
  have put:∀ (H3:Hp) (kv:List Pr) (n:Int),(kv.map (·.1)).Nodup->kv.length<=i + 1->(kv.length<=i\/y∈kv.map (·.1))->(∀ p∈kv,p.1∈xs/\1<=p.2/\p.2<=m)->aH a H H3->St2 H3 a->H3 d=some (.dK (dk kv))->1<=n->n<=m ->
    (aH a H (upd H3 d (.dK (dP (dk kv) (Sum.inr y) (.int n))))/\St2 (upd H3 d (.dK (dP (dk kv) (Sum.inr y) (.int n)))) a/\upd H3 d (.dK (dP (dk kv) (Sum.inr y) (.int n))) d=some (.dK (dk (bC kv y n)))/\((bC kv y n).map (·.1)).Nodup/\(bC kv y n).length<=i + 1/\y∈(bC kv y n).map (·.1)/\∀ p∈bC kv y n,p.1∈xs/\1<=p.2/\p.2<=m):=fun H3 kv n ndv lv or hv s3 st3 d3 n1 nm=>by
   refine ⟨fun g o hg e=>?_,st3.b (aH.upd _ _ _) (Ne.symm da),by rw [af,kS],df ndv,?_,?_,eh (R:=fun p=>p.1∈xs/\1<=p.2/\p.2<=m) hv ⟨hyx,n1,nm⟩⟩
   ·rw [aI (am e hd)]; exact s3 g o hg e
   ·rcases or with h | h
    ·exact Nat.le_trans (dR _ _ _) (by omega)
    ·have:=congrArg List.length (ju (n:=n) h); rw [List.length_map,List.length_map] at this; omega
   ·by_cases h:y∈kv.map (·.1)
    ·rw [ju h]; exact h
    ·rw [tN h,List.map_append]; exact List.mem_append.mpr (.inr (by simp))
  have szd:∀ kv:List Pr,kv.length<=i + 1->(dk kv).length < sizeLine:=fun kv h=>by rw [show (dk kv).length=kv.length from List.length_map _,sizeLine_eq]; omega
  refine ⟨_,rfl,_,_,rfl,rfl,_,rfl,aW (fun h1=>?_) (fun h1=>?_)⟩
  ·refine ⟨_,rfl,_,rfl,d,_,rfl,lA.k (k:=Sum.inr y) d2 (szd _ (by omega)),?_⟩
   obtain ⟨s3,st3,d3,nd3,l3,i3,a3⟩:=put H2 kvs 1 ndk (by omega) (.inl lk) hall (s1.trans s2) st2 d2 (by decide) (by omega)
   generalize upd H2 d (.dK (dP (dk kvs) (Sum.inr y) (.int 1)))=H3 at s3 st3 d3 ⊢
   generalize bC kvs y 1=kv at d3 nd3 l3 i3 a3
   refine ⟨_,rfl,rfl,_,rfl,aW (fun h3=>?_) (fun h3=>⟨kv,_,_,rfl,s3,st3,d3,nd3,l3,a3⟩)⟩
   refine ⟨_,rfl,_,rfl,a,m,rfl,st3,by omega,by omega,fun H4 n s4 st4 n0 n1=>?_⟩
   refine ⟨_,_,rfl,rfl,_,rfl,_,rfl,d,_,rfl,lA.k (k:=Sum.inr y) (s4 _ _ da d3) (szd _ l3),?_⟩
   obtain ⟨s5,st5,d5,nd5,l5,i5,a5⟩:=put H4 kv (1 + n) nd3 l3 (.inr i3) a3 (s3.trans s4) st4 (s4 _ _ da d3) (by omega) (by omega)
   exact ⟨_,_,_,rfl,s5,st5,d5,nd5,l5,a5⟩
  ·refine ⟨_,rfl,rfl,_,rfl,aW (fun h3=>?_) (fun h3=>⟨kvs,_,_,rfl,s1.trans s2,st2,d2,ndk,by omega,hall⟩)⟩
   exact absurd (eqI h3) (fun e=>h1 (decide_eq_true (by omega)))
 rintro σ H1 ⟨kvs,o1,o2,rfl,s1,st1,d1,ndk,lk,hall⟩
 rw [List.length_map] at lk
 refine ⟨z4,fun l hl=>?_⟩
 have q1:=ak hl (.lst [V.int 0,.int 0,.int 1,.int 2])
 refine ⟨_,rfl,a,4,rfl,st1.m q1,by decide,by decide,fun H2 z s2 st2 z0 z4'=>?_⟩
 have la:l≠a:=fun e=>by obtain ⟨n,c,e2⟩:=st1; rw [e,e2] at hl; cases hl
 obtain ⟨n,hn,n0,n2⟩:=yb z0 z4'
 refine ⟨l,_,_,.int n,rfl,rfl,SqL.of (s2 _ _ la af),hn,?_⟩
 have d2:=s2 _ _ da (q1 _ _ d1)
 have s02:aH a H H2:=s1.trans ((aq.b a q1).trans s2)
 have fin:∀ (H3:Hp) (c:Int),aH a H H3->St2 H3 a->H3 d=some (.dK (dk kvs))->0<=c->c<=m->∀ (H4:Hp) (w:V) (ps:List Pr),aq H3 H4->Rep H4 (.tup (aB ps)) w->ps.Perm kvs->cX ps->2<=sizeLine/\∀ p,H4 p=none->Q (.ref p) (upd H4 p (.tup [.int c,w])):=fun H3 c s3 st3 _ c0 cB H4 w ps s4 R pq can=>⟨z2,fun p hp=>by
  have s5:=ak hp (.tup [.int c,w])
  exact q _ _ c ps (s3.trans (aq.b a (s4.trans s5))) (st3.m (s4.trans s5)) (tX af (R.mono s5)) ⟨c0,cB,can,fun x hx=>⟨(hall x (pq.mem_iff.mp hx)).1,(hall x (pq.mem_iff.mp hx)).2.2⟩,by rw [pq.length_eq]; omega⟩⟩
 have items:∀ (H3:Hp) (c:Int),aH a H H3->St2 H3 a->H3 d=some (.dK (dk kvs))->0<=c->c<=m->∀ v,H3 v=none->∀ (H4:Hp) (l:Addr) (qs:List TK),aq (upd H3 v (cS v d)) H4->(∀ r∈qs,H4 r.1=some (.tup (.str r.2.1 :: r.2.2))/\upd H3 v (cS v d) r.1=none)->H4 l=some (.lst (qs.map fun r=>V.ref r.1))->(qs.map (·.2)).Perm ((kvs.map fun p=>(p.1,V.int p.2)).map fun p=>(p.1,[p.2]))->qs.Pairwise tw ->
   ∀ t,H4 t=none->2<=sizeLine/\∀ p,upd H4 t (.tup (qs.map fun r=>V.ref r.1)) p=none->Q (.ref p) (upd (upd H4 t (.tup (qs.map fun r=>V.ref r.1))) p (.tup [.int c,.ref t])):=fun H3 c s3 st3 d3 c0 cB v hv H4 l qs s4 hq hl pq pw t ht=>by
  obtain ⟨perm,can,rep⟩:=nz hq pq pw fun p hp=>(hall p hp).2.1
  exact fin H3 c s3 st3 d3 c0 cB _ _ _ ((ak hv _).trans (s4.trans (ak ht _))) (rep t ht) perm can
 have two:∀ (H3:Hp) (v:Addr),H3 d=some (.dK (dk kvs))->H3 v=none->upd H3 v (cS v d) d=some (.dK ((kvs.map fun p=>(p.1,V.int p.2)).map fun p=>((Sum.inr p.1:Key),p.2))):=fun H3 v d3 hv=>by rw [aI (am d3 hv),d3,List.map_map]; rfl
 have l64:(kvs.map fun p=>(p.1,V.int p.2)).length < 64:=by rw [List.length_map]; omega
 refine ⟨_,rfl,rfl,_,rfl,aW (fun h2=>?_) (fun h2=>?_)⟩
 ·refine ⟨_,rfl,_,rfl,_,_,rfl,rfl,a,_,rfl,st2,by omega,by omega,fun H3 x s3 st3 x0 x1=>?_⟩
  have d3:=s3 _ _ da d2
  refine ⟨_,rfl,_,rfl,.inr (.inr (.inl ⟨rfl,.inl ⟨_,d3⟩⟩)),d,_,rfl,rfl,d3,fun v hv=>?_⟩
  refine ⟨v,d,kvs.map fun p=>(p.1,V.int p.2),rfl,af,two H3 v d3 hv,l64,fun H4 l4 qs s4 _ hq hl4 pq pw=>⟨l4,_,rfl,.inl ⟨SqL.of hl4,fun t ht=>?_⟩⟩⟩
  exact items H3 x (s02.trans s3) st3 d3 x0 (by omega) v hv H4 l4 qs s4 hq hl4 pq pw t ht
 ·refine ⟨_,rfl,_,rfl,.inr (.inr (.inl ⟨rfl,.inl ⟨_,d2⟩⟩)),d,_,rfl,rfl,d2,fun v hv=>?_⟩
  refine ⟨v,d,kvs.map fun p=>(p.1,V.int p.2),rfl,af,two H2 v d2 hv,l64,fun H4 l4 qs s4 _ hq hl4 pq pw=>⟨l4,_,rfl,.inl ⟨SqL.of hl4,fun t ht=>?_⟩⟩⟩
  exact items H2 n s02 st2 d2 n0 (by omega) v hv H4 l4 qs s4 hq hl4 pq pw t ht
end
abbrev eE:Stmt:=top 23
def Gk (xs:List Str) (m:Int) (k:Kd):Prop:=k.size<=12/\k.All (Ln xs m)
def kJ (K:PySem.W.Frag):Sp:=fun vs H Q _=>∃ (s b:Addr) (ns:List Int) (i j m:Int) (xs:List Str),vs=[.ref s,.int i,.int j,.ref b,.int m]/\SqL K H s (ns.map V.int)/\ns.length<=63/\0<=i/\i<=60/\H b=some (.lst (xs.map V.str))/\xs.length<=10/\2<=m/\m < 10 ^ 39 /\
 ∀ (H':Hp) (r:Addr) (ks:List Kd) (us:List V),aq H H'->H r=none->H' r=some (.lst us)->Reps H' (ks.map ent) us->ks≠[]->ks.length<=64->(∀ k∈ks,Gk xs m k)->Q (.ref r) H'
section
variable {P:Program} {w:World} {K:PySem.W.Frag} {mg:Str->Option Value} {base:Heap}
theorem lR:aR ["_law_script","_law_start","_law_end","_law_names_here","_law_most","_law_pile","_law_k","_law_state_here","_law_way","_law_kind","_law_size","_law_last","_law_first","_law_other"] ["_law_script","_law_start","_law_end","_law_names_here","_law_most"] (ai eE):=⟨rfl,rfl,rfl,by decide +kernel,rfl,by decide +kernel,by decide +kernel⟩
theorem um {f:Addr} {fd:FuncData} {k:Nat} (F:Fun K "_law_grown" "_law_grown" eE f fd) (T:Txt K mg) (D_law_state:Def P w K mg base k "_law_state" ["_law_script","_law_k"] (gW K)) (D_law_draw:Def P w K mg base k "_law_draw" ["_law_state_here","_law_many"] gF) (D_law_length:Def P w K mg base k "_law_length" ["_law_state_here","_law_names_here","_law_most"] iP) :
  bj P w K mg base CX0 (k + 1) f fd ["_law_script","_law_start","_law_end","_law_names_here","_law_most"] (kJ K):=by
 have nd:(["_law_script","_law_start","_law_end","_law_names_here","_law_most","_law_pile","_law_k","_law_state_here","_law_way","_law_kind","_law_size","_law_last","_law_first","_law_other"]:List Str).Nodup:=lR.nd
 refine F.ok lR (fun vs H Q E h=>?_) (fun cdv A outer s H vs Q E hr h=>?_)
 ·obtain ⟨s,b,ns,i,j,m,xs,rfl,_⟩:=h
  rfl
 obtain ⟨sc,b,ns,i,j,m,xs,rfl,hS,h63,i0,i60,hb,lx,m2,mB,q⟩:=h
 have hu:=iS hr
 refine ⟨_,(@ah _ _ _ _ _ (@aT _ _ (5) _ _ _ _ nd rfl (Or.inl rfl) (@iD _ _ _ _ (@aa _ _ _ _ _ (@bE _ _ _ _ _ (@aa _ _ _ _ _ (@bE _ _ _ _ _ (@aa _ _ _ _ _ (@bq _ _ _ _) (@ae _) (by rfl))) (@aa _ _ _ _ _ (@ad _ _ _ _) (@ae _) (by rfl)) (by rfl))) (@ae _) (by rfl))) (by rfl) (by trivial)) (@ah _ _ _ _ _ (@bW _ _ _ _ _ _ _ _ PassesOwn.never rfl (@qZ _ _ _ _ _ _ _ rfl T.range (@aa _ _ _ _ _ (@pv _ 1 _ _ (by rfl) (by trivial) (by decide) (by decide)) (@aa _ _ _ _ _ (@aK _ _ _ _ _ _ _ _ _ (qA rfl) rfl T.max (by decide +kernel) (@aa _ _ _ _ _ (@aQ _ _ _ _ _ _ _ _ bt (@pv _ 1 _ _ (by rfl) (by trivial) (by decide) (by decide)) (@ad _ _ _ _)) (@aa _ _ _ _ _ (@aK _ _ _ _ _ _ _ _ _ (qm rfl) rfl T.min (by decide +kernel) (@aa _ _ _ _ _ (@pv _ 2 _ _ (by rfl) (by trivial) (by decide) (by decide)) (@aa _ _ _ _ _ (@aK _ _ _ _ _ _ _ _ _ bJ rfl T.len (by decide +kernel) (@aa _ _ _ _ _ (@pv _ 0 _ _ (by rfl) (by trivial) (by decide) (by decide)) (@ae _) (by rfl)) (by decide) (by decide) (by rfl) (by rfl)) (@ae _) (by rfl)) (by rfl)) (by decide) (by decide) (by rfl) (by rfl)) (@ae _) (by rfl)) (by rfl)) (by decide) (by decide) (by rfl) (by rfl)) (@ae _) (by rfl)) (by rfl)) (by rfl) (by rfl)) (@au _ _ (6) _ nd rfl (Or.inl rfl) (by trivial)) (@ah _ _ _ _ _ (@aT _ _ (7) _ _ _ _ nd rfl (Or.inl rfl) (@ao _ _ _ _ _ _ _ _ _ _ D_law_state hr rfl (@aa _ _ _ _ _ (@pv _ 0 _ _ (by rfl) (by trivial) (by decide) (by decide)) (@aa _ _ _ _ _ (@pv _ 6 _ _ (by rfl) (by trivial) (by decide) (by decide)) (@ae _) (by rfl)) (by rfl)) (by decide) (by rfl) (by rfl)) (by rfl) (by trivial)) (@ah _ _ _ _ _ (@aT _ _ (8) _ _ _ _ nd rfl (Or.inl rfl) (@ao _ _ _ _ _ _ _ _ _ _ D_law_draw hr rfl (@aa _ _ _ _ _ (@pv _ 7 _ _ (by rfl) (by trivial) (by decide) (by decide)) (@aa _ _ _ _ _ (@ad _ _ _ _) (@ae _) (by rfl)) (by rfl)) (by decide) (by rfl) (by rfl)) (by rfl) (by trivial)) (@aj _ _ _ (@bi _ _ _ _ _ _ _ _ (@PW.pt _ _ _ (@oz _ _ _ _ _ _ _ (@aG _ _ _ _ _ _ _ _ iW (@pv _ 8 _ _ (by rfl) (by trivial) (by decide) (by decide)) (@ad _ _ _ _) (aM _)) (@oQ _ _ _ _ (@aG _ _ _ _ _ _ _ _ iW (@aE _ _ _ _ _ _ _ aD (@aE _ _ _ _ _ _ _ cp (@pv _ 5 _ _ (by rfl) (by trivial) (by decide) (by decide)) (@sv _ _ _ _ _ _ nP (@ad _ _ _ _)) (fun _ _=>rfl)) (@ad _ _ _ _) (fun _ _=>rfl)) (@ad _ _ _ _) (aM _))))) (@ah _ _ _ _ _ (@iq _ _ _ _ _ _ (@iB _ _ _ _ _ _ _ _ _ PySem.F.plainAttrs_list PySem.F.slot_list_pop PySem.F.type_list_pop nQ (@pv _ 5 _ _ (by rfl) (by trivial) (by decide) (by decide)) (by rfl) (by rfl)) (@bD _ _ _ _ _ _ rfl (@av _ _ _ _ _ (@au _ _ (9) _ nd rfl (Or.inl rfl) (by trivial)) (@av _ _ _ _ _ (@au _ _ (10) _ nd rfl (Or.inl rfl) (by trivial)) (@bo _) (by rfl)) (by rfl)) (by rfl) (by rfl)) (by rfl) (by rfl) (by rfl)) (@aj _ _ _ (@eC _ _ _ _ (@jh _ _ _ _ _ _ _ _ _ _ _ _ PySem.F.plainAttrs_list PySem.F.slot_list_append PySem.F.type_list_append cI (@pv _ 5 _ _ (by rfl) (by trivial) (by decide) (by decide)) (@aa _ _ _ _ _ (@bE _ _ _ _ _ (@aa _ _ _ _ _ (@bE _ _ _ _ _ (@aa _ _ _ _ _ (@bq _ _ _ _) (@aa _ _ _ _ _ (@ao _ _ _ _ _ _ _ _ _ _ D_law_length hr rfl (@aa _ _ _ _ _ (@pv _ 7 _ _ (by rfl) (by trivial) (by decide) (by decide)) (@aa _ _ _ _ _ (@pv _ 3 _ _ (by rfl) (by trivial) (by decide) (by decide)) (@aa _ _ _ _ _ (@pv _ 4 _ _ (by rfl) (by trivial) (by decide) (by decide)) (@ae _) (by rfl)) (by rfl)) (by rfl)) (by decide) (by rfl) (by rfl)) (@aa _ _ _ _ _ (@pv _ 9 _ _ (by rfl) (by trivial) (by decide) (by decide)) (@ae _) (by rfl)) (by rfl)) (by rfl))) (@aa _ _ _ _ _ (@aQ _ _ _ _ _ _ _ _ bt (@pv _ 10 _ _ (by rfl) (by trivial) (by decide) (by decide)) (@ad _ _ _ _)) (@ae _) (by rfl)) (by rfl))) (@ae _) (by rfl)) (by rfl) (by rfl) (by rfl) (by rfl) (by rfl)) (by rfl)))) (@aj _ _ _ (@bi _ _ _ _ _ _ _ _ (@PW.pt _ _ _ (@oz _ _ _ _ _ _ _ (@aG _ _ _ _ _ _ _ _ iW (@pv _ 8 _ _ (by rfl) (by trivial) (by decide) (by decide)) (@ad _ _ _ _) (aM _)) (@oz _ _ _ _ _ _ _ (@aG _ _ _ _ _ _ _ _ mK (@aK _ _ _ _ _ _ _ _ _ bJ rfl T.len (by decide +kernel) (@aa _ _ _ _ _ (@pv _ 5 _ _ (by rfl) (by trivial) (by decide) (by decide)) (@ae _) (by rfl)) (by decide) (by decide) (by rfl) (by rfl)) (@ad _ _ _ _) (aM _)) (@oQ _ _ _ _ (@aG _ _ _ _ _ _ _ _ iW (@aQ _ _ _ _ _ _ _ _ bt (@aE _ _ _ _ _ _ _ aD (@aE _ _ _ _ _ _ _ cp (@pv _ 5 _ _ (by rfl) (by trivial) (by decide) (by decide)) (@sv _ _ _ _ _ _ nP (@ad _ _ _ _)) (fun _ _=>rfl)) (@ad _ _ _ _) (fun _ _=>rfl)) (@aE _ _ _ _ _ _ _ aD (@aE _ _ _ _ _ _ _ cp (@pv _ 5 _ _ (by rfl) (by trivial) (by decide) (by decide)) (@sv _ _ _ _ _ _ nP (@ad _ _ _ _)) (fun _ _=>rfl)) (@ad _ _ _ _) (fun _ _=>rfl))) (@ad _ _ _ _) (aM _)))))) (@ah _ _ _ _ _ (@iq _ _ _ _ _ _ (@iB _ _ _ _ _ _ _ _ _ PySem.F.plainAttrs_list PySem.F.slot_list_pop PySem.F.type_list_pop nQ (@pv _ 5 _ _ (by rfl) (by trivial) (by decide) (by decide)) (by rfl) (by rfl)) (@bD _ _ _ _ _ _ rfl (@av _ _ _ _ _ (@au _ _ (11) _ nd rfl (Or.inl rfl) (by trivial)) (@av _ _ _ _ _ (@au _ _ (10) _ nd rfl (Or.inl rfl) (by trivial)) (@bo _) (by rfl)) (by rfl)) (by rfl) (by rfl)) (by rfl) (by rfl) (by rfl)) (@ah _ _ _ _ _ (@iq _ _ _ _ _ _ (@iB _ _ _ _ _ _ _ _ _ PySem.F.plainAttrs_list PySem.F.slot_list_pop PySem.F.type_list_pop nQ (@pv _ 5 _ _ (by rfl) (by trivial) (by decide) (by decide)) (by rfl) (by rfl)) (@bD _ _ _ _ _ _ rfl (@av _ _ _ _ _ (@au _ _ (12) _ nd rfl (Or.inl rfl) (by trivial)) (@av _ _ _ _ _ (@au _ _ (13) _ nd rfl (Or.inl rfl) (by trivial)) (@bo _) (by rfl)) (by rfl)) (by rfl) (by rfl)) (by rfl) (by rfl) (by rfl)) (@aj _ _ _ (@eC _ _ _ _ (@jh _ _ _ _ _ _ _ _ _ _ _ _ PySem.F.plainAttrs_list PySem.F.slot_list_append PySem.F.type_list_append cI (@pv _ 5 _ _ (by rfl) (by trivial) (by decide) (by decide)) (@aa _ _ _ _ _ (@bE _ _ _ _ _ (@aa _ _ _ _ _ (@bE _ _ _ _ _ (@aa _ _ _ _ _ (@bq _ _ _ _) (@aa _ _ _ _ _ (@pv _ 12 _ _ (by rfl) (by trivial) (by decide) (by decide)) (@aa _ _ _ _ _ (@pv _ 11 _ _ (by rfl) (by trivial) (by decide) (by decide)) (@ae _) (by rfl)) (by rfl)) (by rfl))) (@aa _ _ _ _ _ (@aQ _ _ _ _ _ _ _ _ bt (@aQ _ _ _ _ _ _ _ _ bt (@pv _ 10 _ _ (by rfl) (by trivial) (by decide) (by decide)) (@pv _ 13 _ _ (by rfl) (by trivial) (by decide) (by decide))) (@ad _ _ _ _)) (@ae _) (by rfl)) (by rfl))) (@ae _) (by rfl)) (by rfl) (by rfl) (by rfl) (by rfl) (by rfl)) (by rfl))))) (@aj _ _ _ (@bi _ _ _ _ _ _ _ _ (@aG _ _ _ _ _ _ _ _ bK (@pv _ 8 _ _ (by rfl) (by trivial) (by decide) (by decide)) (@ad _ _ _ _) (aM _)) (@aj _ _ _ (@eC _ _ _ _ (@jh _ _ _ _ _ _ _ _ _ _ _ _ PySem.F.plainAttrs_list PySem.F.slot_list_append PySem.F.type_list_append cI (@pv _ 5 _ _ (by rfl) (by trivial) (by decide) (by decide)) (@aa _ _ _ _ _ (@bE _ _ _ _ _ (@aa _ _ _ _ _ (@bE _ _ _ _ _ (@aa _ _ _ _ _ (@bq _ _ _ _) (@aa _ _ _ _ _ (@ao _ _ _ _ _ _ _ _ _ _ D_law_length hr rfl (@aa _ _ _ _ _ (@pv _ 7 _ _ (by rfl) (by trivial) (by decide) (by decide)) (@aa _ _ _ _ _ (@pv _ 3 _ _ (by rfl) (by trivial) (by decide) (by decide)) (@aa _ _ _ _ _ (@pv _ 4 _ _ (by rfl) (by trivial) (by decide) (by decide)) (@ae _) (by rfl)) (by rfl)) (by rfl)) (by decide) (by rfl) (by rfl)) (@ae _) (by rfl)) (by rfl))) (@aa _ _ _ _ _ (@ad _ _ _ _) (@ae _) (by rfl)) (by rfl))) (@ae _) (by rfl)) (by rfl) (by rfl) (by rfl) (by rfl) (by rfl)) (by rfl))) (@aj _ _ _ (@eC _ _ _ _ (@jh _ _ _ _ _ _ _ _ _ _ _ _ PySem.F.plainAttrs_list PySem.F.slot_list_append PySem.F.type_list_append cI (@pv _ 5 _ _ (by rfl) (by trivial) (by decide) (by decide)) (@aa _ _ _ _ _ (@bE _ _ _ _ _ (@aa _ _ _ _ _ (@bE _ _ _ _ _ (@aa _ _ _ _ _ (@bq _ _ _ _) (@ae _) (by rfl))) (@aa _ _ _ _ _ (@ad _ _ _ _) (@ae _) (by rfl)) (by rfl))) (@ae _) (by rfl)) (by rfl) (by rfl) (by rfl) (by rfl) (by rfl)) (by rfl))))))))))) (by intro _; rfl)) (@aj _ _ _ (@aA _ _ _ _ (@pv _ 5 _ _ (by rfl) (by trivial) (by decide) (by decide)))))),?_⟩
 refine ⟨z1,fun p1 hp1=>⟨z2,fun p2 hp2=>⟨z1,fun r hr'=>?_⟩⟩⟩
 have q1:=ak hp1 (.tup [.str "whole"])
 have q2:=ak hp2 (.tup [.ref p1,.int 1])
 have q3:=ak hr' (.lst [.ref p2])
 have hrn:H r=none:=(q1.trans q2).free hr'
 generalize e0:upd _ r (.lst [.ref p2])=H0
 have s0:aq H H0:=by rw [<- e0]; exact q1.trans (q2.trans q3)
 have r0:H0 r=some (.lst [.ref p2]):=by rw [<- e0]; exact af
 have E0':Reps H0 ([Kd.whole].map ent) [.ref p2]:=by
  rw [<- e0]
  exact cM ((gb (k:=.whole) af rfl (Rep.mono q2 (jA af))).mono q3)
 clear e0 q3 hr'
 refine ⟨_,rfl,_,rfl,_,_,rfl,rfl,_,rfl,_,rfl,sc,_,rfl,.inl (s0.seq hS),_,_,rfl,_,_,rfl,i,_,rfl,⟨by omega,by omega,?B1,?B2⟩,jt (lo:=i) (fun t σ H'=>∃ (o1 o2 o3 o4 o5 o6 o7 o8:Option V) (ks:List Kd) (us:List V),σ=[some (.ref sc),some (.int i),some (.int j),some (.ref b),some (.int m),some (.ref r),o1,o2,o3,o4,o5,o6,o7,o8]/\aH r H H'/\H' r=some (.lst us)/\Reps H' (ks.map ent) us/\ks≠[]/\ks.length<=t + 1/\∀ k∈ks,Gk xs m k)
  ⟨_,_,_,_,_,_,_,_,[.whole],[.ref p2],rfl,aq.b r s0,r0,E0',by simp,by simp,fun k hk=>by rw [List.mem_singleton.mp hk]; exact ⟨by decide,trivial⟩⟩ ?T1 ?_⟩
 case B1=>show -(2 ^ 62)<=(if _ > i + 1 then _ else i + 1); split <;> (try split) <;> omega
 case B2=>
  rw [List.length_map]
  show (if _ > i + 1 then _ else i + 1) < 2 ^ 62
  split <;> (try split) <;> omega
 case T1=>
  rintro t σ H1 ht ⟨o1,o2,o3,o4,o5,o6,o7,o8,ks,us,rfl,s1,r1,R1,ne,lk,gk⟩
  have ht63:t<=63:=by
   rw [List.length_map] at ht
   split at ht <;> (try split at ht) <;> omega
  have scr:∀ {H2:Hp},aH r H H2->SqL K H2 sc (ns.map V.int):=fun s=>s.seq hS hrn
  have br:b≠r:=am hb hrn
  refine ⟨_,rfl,_,rfl,sc,ns,_,rfl,scr s1,by omega,fun H2 a s2 ha st2=>?_⟩
  have ra:r≠a:=am r1 ha
  refine ⟨_,rfl,a,7,rfl,st2,by decide,by decide,fun H3 x s3 st3 x0 x7=>?_⟩
  have s13:∀ g o,H1 g=some o->H3 g=some o:=fun g o e=>s3 g o (am e ha) (s2 g o e)
  have s03:aH r H H3:=fun g o hg e=>s13 g o (s1 g o hg e)
  have r3:=s13 _ _ r1
  have R3:=cq (aq.tups s13) R1
  have b3:=s03 _ _ br hb
  have ba:b≠a:=fun e=>by rw [<- e,s1 _ _ br hb] at ha; cases ha
  obtain ⟨k0,kl,rfl⟩:=pL ne
  rw [List.map_append] at R3
  obtain ⟨u0,ul,rfl,Ra,Rl⟩:=eU R3
  obtain ⟨al,vl,rfl,hal,rkl⟩:=hU Rl
  have gl:=gk kl (by simp)
  have g0:∀ k∈k0,Gk xs m k:=fun k hk=>gk k (by simp [hk])
  have l0:k0.length<=t:=by simp only [List.length_append,List.length_cons,List.length_nil] at lk; omega
  have lu0:u0.length=k0.length:=by have:=Ra.length; rwa [List.length_map] at this
  refine gnm ?_
  dsimp only
  refine oK (x < 2/\(kl.size:Int) < 12) ?A1 ?A0 (fun qT qF=>⟨_,rfl,_,_,rfl,rfl,_,rfl,aW (fun w2=>⟨_,rfl,1,rfl,r,_,_,_,rfl,rfl,SqL.of r3,np _ _,al,_,1,.int kl.size,rfl,rfl,SqT.of hal,ag (j:=1) rfl,_,_,rfl,rfl,_,rfl,aW (fun h=>ifT (qT ⟨of_decide_eq_true w2,of_decide_eq_true h⟩)) fun _=>ifF qF⟩) (fun _=>qF)⟩)
  case A1=>
   rintro ⟨x2,k12⟩
   refine cQ ?_
   refine ⟨_,rfl,.inl ⟨rfl,_,SqL.of r3⟩,r,_,_,rfl,rfl,r3,iH _ _,?_⟩
   rw [List.dropLast_concat]
   have s4:=aH.upd H3 r (.lst u0)
   have r4:upd H3 r (.lst u0) r=some (.lst u0):=af
   generalize upd H3 r (.lst u0)=H4 at s4 r4 ⊢
   have t34:dc H3 H4:=s4.tups r3
   refine ⟨al,_,rfl,SqT.of (t34 _ _ hal),rfl,_,_,rfl,_,_,rfl,rfl,?_⟩
   refine ⟨_,rfl,.inl ⟨rfl,_,SqL.of r4⟩,_,rfl,_,rfl,_,rfl,a,b,m,xs,rfl,st3.b s4 (Ne.symm ra),s4 _ _ br b3,ba,lx,m2,mB,fun H5 v c ps s5 st5 R5 ln5=>?_⟩
   have t45:dc H4 H5:=(st3.b s4 (Ne.symm ra)).tups s5
   refine ⟨_,rfl,z3,fun p hp=>⟨_,rfl,_,_,rfl,rfl,z2,fun p' hp'=>?_⟩⟩
   have q5:=ak hp (.tup [.str "row",v,vl])
   have q6:=ak hp' (.tup [.ref p,.int ((kl.size:Int) + 1)])
   have q56:=q5.trans q6
   have r6:=q56 _ _ (s5 _ _ ra r4)
   have rk:Rep _ (Kd.row c ps kl).dv (.ref p):=uN af (R5.mono q5) ((Kd.tupS (t34.trans t45) rkl).mono q5)
   have rp':Rep _ (ent (.row c ps kl)) (.ref p'):=gb af (by show (kl.size:Int) + 1=((kl.size + 1:Nat):Int); omega) (rk.mono q6)
   have Ra6:=(cq (t34.trans t45) Ra).mono q56
   have s06:aH r H _:=fun g o hg e=>q56 g o (s5 g o (fun z=>by rw [z] at e; exact absurd (s1 g o hg (by rw [z]; exact e)) (by rw [z,ha]; exact nofun)) (s4 g o hg (s03 g o hg e)))
   generalize upd (upd H5 p (.tup [.str "row",v,vl])) p' (.tup [.ref p,.int ((kl.size:Int) + 1)])=H6 at r6 rp' Ra6 s06 ⊢
   refine ⟨r,_,_,rfl,rfl,r6,by rw [lu0,sizeLine_eq]; omega,?_⟩
   have t6:dc H6 (upd H6 r (.lst (u0 ++ [.ref p']))):=(aH.upd _ _ _).tups r6
   refine ⟨_,_,_,_,_,_,_,_,k0 ++ [.row c ps kl],u0 ++ [.ref p'],rfl,s06.trans (aH.upd _ _ _),af,?_,by simp,by simp; omega,fun k hk=>?_⟩
   ·rw [List.map_append]
    exact Reps.append (cq t6 Ra6) (cM (cJ t6 (iE _) rp'))
   ·rcases List.mem_append.mp hk with h | h
    ·exact g0 k h
    ·rw [List.mem_singleton.mp h]
     exact ⟨by show kl.size + 1<=12; omega,ln5,gl.2⟩
  case A0=>
   refine cF ?_
   refine oK (∃ k00 kp,k0=k00 ++ [kp]/\(kl.size:Int) + kp.size < 12) ?A2 ?A3 (fun qT qF=>?A4)
   case A4=>
    refine ⟨_,rfl,_,_,rfl,rfl,_,rfl,aW (fun w5=>?_) (fun _=>qF)⟩
    refine ⟨_,rfl,r,_,rfl,.inl (SqL.of r3),_,_,rfl,rfl,_,rfl,aW (fun hl=>?_) (fun _=>qF)⟩
    have hl':=of_decide_eq_true hl
    have ne0:k0≠[]:=fun e=>by
     have e0:u0=[]:=List.eq_nil_of_length_eq_zero (by rw [lu0,e]; rfl)
     rw [e0] at hl'
     simp at hl'
    obtain ⟨k00,kp,rfl⟩:=pL ne0
    rw [List.map_append] at Ra
    obtain ⟨u00,up,rfl,Rb,Rp⟩:=eU Ra
    obtain ⟨ap,vp,rfl,hap,rkp⟩:=hU Rp
    refine ⟨_,rfl,1,rfl,r,_,_,_,rfl,rfl,SqL.of r3,np _ _,al,_,1,.int kl.size,rfl,rfl,SqT.of hal,ag (j:=1) rfl,_,rfl,2,rfl,r,_,_,_,rfl,rfl,SqL.of r3,qV _ _ _,ap,_,1,.int kp.size,rfl,rfl,SqT.of hap,ag (j:=1) rfl,_,_,rfl,rfl,_,_,rfl,rfl,_,rfl,aW (fun h=>ifT (qT ⟨k00,kp,rfl,of_decide_eq_true h⟩)) fun _=>ifF qF⟩
   case A2=>
    rintro ⟨k00,kp,rfl,k12⟩
    rw [List.map_append] at Ra
    obtain ⟨u00,up,rfl,Rb,Rp⟩:=eU Ra
    obtain ⟨ap,vp,rfl,hap,rkp⟩:=hU Rp
    have gp:=g0 kp (by simp)
    have g00:∀ k∈k00,Gk xs m k:=fun k hk=>g0 k (by simp [hk])
    have lu00:u00.length=k00.length:=by have:=Rb.length; rwa [List.length_map] at this
    have l00:k00.length + 1<=t:=by simpa using l0
    refine cQ ?_
    refine ⟨_,rfl,.inl ⟨rfl,_,SqL.of r3⟩,r,_,_,rfl,rfl,r3,iH _ _,?_⟩
    rw [List.dropLast_concat]
    have s4:=aH.upd H3 r (.lst (u00 ++ [.ref ap]))
    have r4:upd H3 r (.lst (u00 ++ [.ref ap])) r=some (.lst (u00 ++ [.ref ap])):=af
    generalize upd H3 r (.lst (u00 ++ [.ref ap]))=H4 at s4 r4 ⊢
    have t34:dc H3 H4:=s4.tups r3
    refine ⟨al,_,rfl,SqT.of (t34 _ _ hal),rfl,_,_,rfl,_,_,rfl,rfl,?_⟩
    refine ⟨_,rfl,.inl ⟨rfl,_,SqL.of r4⟩,r,_,_,rfl,rfl,r4,iH _ _,?_⟩
    rw [List.dropLast_concat]
    have s5:=aH.upd H4 r (.lst u00)
    have r5:upd H4 r (.lst u00) r=some (.lst u00):=af
    generalize upd H4 r (.lst u00)=H5 at s5 r5 ⊢
    have t35:dc H3 H5:=t34.trans (s5.tups r4)
    refine ⟨ap,_,rfl,SqT.of (t35 _ _ hap),rfl,_,_,rfl,_,_,rfl,rfl,?_⟩
    refine ⟨_,rfl,.inl ⟨rfl,_,SqL.of r5⟩,_,rfl,_,rfl,z3,fun p hp=>⟨_,rfl,_,rfl,_,_,rfl,rfl,_,_,rfl,rfl,z2,fun p' hp'=>?_⟩⟩
    have q5:=ak hp (.tup [.str "pair",vp,vl])
    have q6:=ak hp' (.tup [.ref p,.int ((kl.size:Int) + kp.size + 1)])
    have q56:=q5.trans q6
    have r6:=q56 _ _ r5
    have rk:Rep _ (Kd.pair kp kl).dv (.ref p):=sZ af ((Kd.tupS t35 rkp).mono q5) ((Kd.tupS t35 rkl).mono q5)
    have rp':Rep _ (ent (.pair kp kl)) (.ref p'):=gb af (by show (kl.size:Int) + kp.size + 1=((kp.size + kl.size + 1:Nat):Int); omega) (rk.mono q6)
    have Rb6:=(cq t35 Rb).mono q56
    have s06:aH r H _:=fun g o hg e=>q56 g o (s5 g o hg (s4 g o hg (s03 g o hg e)))
    generalize upd (upd H5 p (.tup [.str "pair",vp,vl])) p' (.tup [.ref p,.int ((kl.size:Int) + kp.size + 1)])=H6 at r6 rp' Rb6 s06 ⊢
    refine ⟨r,_,_,rfl,rfl,r6,by rw [lu00,sizeLine_eq]; omega,?_⟩
    have t6:dc H6 (upd H6 r (.lst (u00 ++ [.ref p']))):=(aH.upd _ _ _).tups r6
    refine ⟨_,_,_,_,_,_,_,_,k00 ++ [.pair kp kl],u00 ++ [.ref p'],rfl,s06.trans (aH.upd _ _ _),af,?_,by simp,by simp; omega,fun k hk=>?_⟩
    ·rw [List.map_append]
     exact Reps.append (cq t6 Rb6) (cM (cJ t6 (iE _) rp'))
    ·rcases List.mem_append.mp hk with h | h
     ·exact g00 k h
     ·rw [List.mem_singleton.mp h]
      exact ⟨by show kp.size + kl.size + 1<=12; omega,gp.2,gl.2⟩
   case A3=>
    refine cF ?_
    have Rall:Reps H3 ((k0 ++ [kl]).map ent) (u0 ++ [.ref al]):=by rw [List.map_append]; exact Reps.append Ra (cM Rl)
    have lall:(u0 ++ [V.ref al]).length<=t + 1:=by simp [lu0]; omega
    refine ⟨_,rfl,rfl,_,rfl,aW (fun w6=>?_) (fun w6=>?_)⟩
    ·refine ⟨_,rfl,.inl ⟨rfl,_,SqL.of r3⟩,_,rfl,_,rfl,_,rfl,a,b,m,xs,rfl,st3,b3,ba,lx,m2,mB,fun H5 v c ps s5 st5 R5 ln5=>?_⟩
     have t35:dc H3 H5:=st3.tups s5
     refine ⟨z2,fun p hp=>⟨z2,fun p' hp'=>?_⟩⟩
     have q5:=ak hp (.tup [.str "place",v])
     have q6:=ak hp' (.tup [.ref p,.int 1])
     have q56:=q5.trans q6
     have r6:=q56 _ _ (s5 _ _ ra r3)
     have rk:Rep _ (Kd.place c ps).dv (.ref p):=rg af (R5.mono q5)
     have rp':Rep _ (ent (.place c ps)) (.ref p'):=gb (n:=1) af rfl (rk.mono q6)
     have Ra6:=(cq t35 Rall).mono q56
     have s06:aH r H _:=fun g o hg e=>q56 g o (s5 g o (fun z=>by rw [z] at e; exact absurd (s1 g o hg (by rw [z]; exact e)) (by rw [z,ha]; exact nofun)) (s03 g o hg e))
     generalize upd (upd H5 p (.tup [.str "place",v])) p' (.tup [.ref p,.int 1])=H6 at r6 rp' Ra6 s06 ⊢
     refine ⟨r,_,_,rfl,rfl,r6,by rw [sizeLine_eq]; omega,?_⟩
     have t6:dc H6 (upd H6 r (.lst (u0 ++ [.ref al] ++ [.ref p']))):=(aH.upd _ _ _).tups r6
     refine ⟨_,_,_,_,_,_,_,_,(k0 ++ [kl]) ++ [.place c ps],u0 ++ [.ref al] ++ [.ref p'],rfl,s06.trans (aH.upd _ _ _),af,?_,by simp,by simp; omega,fun k hk=>?_⟩
     ·rw [List.map_append]
      exact Reps.append (cq t6 Ra6) (cM (cJ t6 (iE _) rp'))
     ·rcases List.mem_append.mp hk with h | h
      ·exact gk k h
      ·rw [List.mem_singleton.mp h]
       exact ⟨by show 1<=12; decide,ln5⟩
    ·refine ⟨_,rfl,.inl ⟨rfl,_,SqL.of r3⟩,z1,fun p hp=>⟨z2,fun p' hp'=>?_⟩⟩
     have q5:=ak hp (.tup [.str "whole"])
     have q6:=ak hp' (.tup [.ref p,.int 1])
     have q56:=q5.trans q6
     have r6:=q56 _ _ r3
     have rp':Rep _ (ent .whole) (.ref p'):=gb (n:=1) af rfl ((jA af).mono q6)
     have Ra6:=Rall.mono q56
     have s06:aH r H _:=fun g o hg e=>q56 g o (s03 g o hg e)
     generalize upd (upd H3 p (.tup [.str "whole"])) p' (.tup [.ref p,.int 1])=H6 at r6 rp' Ra6 s06 ⊢
     refine ⟨r,_,_,rfl,rfl,r6,by rw [sizeLine_eq]; omega,?_⟩
     have t6:dc H6 (upd H6 r (.lst (u0 ++ [.ref al] ++ [.ref p']))):=(aH.upd _ _ _).tups r6
     refine ⟨_,_,_,_,_,_,_,_,(k0 ++ [kl]) ++ [.whole],u0 ++ [.ref al] ++ [.ref p'],rfl,s06.trans (aH.upd _ _ _),af,?_,by simp,by simp; omega,fun k hk=>?_⟩
     ·rw [List.map_append]
      exact Reps.append (cq t6 Ra6) (cM (cJ t6 (iE _) rp'))
     ·rcases List.mem_append.mp hk with h | h
      ·exact gk k h
      ·rw [List.mem_singleton.mp h]
       exact ⟨by decide,trivial⟩
 rintro σ H1 ⟨o1,o2,o3,o4,o5,o6,o7,o8,ks,us,rfl,s1,r1,R1,ne,lk,gk⟩
 refine ⟨_,rfl,q H1 r ks us (aH.same hrn (aq.refl _) s1) hrn r1 R1 ne ?_ gk⟩
 rw [List.length_map] at lk
 refine Nat.le_trans lk ?_
 split <;> (try split) <;> omega
end
def pw (g:Str->Int):List Pr->Int
 | []=>1
 | p :: ps=>g p.1 ^ p.2.toNat * pw g ps
def bv:List Pr->Int
 | []=>0
 | p :: ps=>p.2 + bv ps
def sw (g:List Pr->Int):List PM->Int
 | []=>0
 | p :: ms=>p.2 * g p.1 + sw g ms
theorem gL (g:Str->Int):∀ ps qs,pw g (ps ++ qs)=pw g ps * pw g qs
 | [],qs=>by show pw g qs=1 * pw g qs; rw [Int.one_mul]
 | p :: ps,qs=>by show g p.1 ^ p.2.toNat * pw g (ps ++ qs)=g p.1 ^ p.2.toNat * pw g ps * pw g qs; rw [gL g ps qs,Int.mul_assoc]
theorem vy (g:Str->Int) {ps qs:List Pr} (h:ps.Perm qs):pw g ps=pw g qs:=by
 induction h with
 | nil=>rfl
 | cons x _ ih=>show _ * _=_ * _; rw [ih]
 | swap x y l=>show _ * (_ * _)=_ * (_ * _); rw [<- Int.mul_assoc,<- Int.mul_assoc,Int.mul_comm (g y.1 ^ _)]
 | trans _ _ h1 h2=>rw [h1,h2]
theorem cW:∀ ps qs,bv (ps ++ qs)=bv ps + bv qs
 | [],qs=>by show bv qs=0 + bv qs; omega
 | p :: ps,qs=>by show p.2 + bv (ps ++ qs)=p.2 + bv ps + bv qs; rw [cW ps qs]; omega
theorem qW {ps qs:List Pr} (h:ps.Perm qs):bv ps=bv qs:=by
 induction h with
 | nil=>rfl
 | cons x _ ih=>show x.2 + _=x.2 + _; rw [ih]
 | swap x y l=>show y.2 + (x.2 + bv l)=x.2 + (y.2 + bv l); omega
 | trans _ _ h1 h2=>rw [h1,h2]
theorem dm (g:List Pr->Int):∀ ms ns,sw g (ms ++ ns)=sw g ms + sw g ns
 | [],ns=>by show sw g ns=0 + sw g ns; omega
 | p :: ms,ns=>by show p.2 * g p.1 + sw g (ms ++ ns)=p.2 * g p.1 + sw g ms + sw g ns; rw [dm g ms ns]; omega
theorem qd (g:List Pr->Int) {ms ns:List PM} (h:ms.Perm ns):sw g ms=sw g ns:=by
 induction h with
 | nil=>rfl
 | cons x _ ih=>show x.2 * g x.1 + _=x.2 * g x.1 + _; rw [ih]
 | swap x y l=>show y.2 * g y.1 + (x.2 * g x.1 + sw g l)=x.2 * g x.1 + (y.2 * g y.1 + sw g l); omega
 | trans _ _ h1 h2=>rw [h1,h2]
theorem va {p:Pr} {kvs:List Pr} {x:Str} {n:Int} (e:p.1≠x):bC (p :: kvs) x n=p :: bC kvs x n:=by
 unfold bC
 rw [List.any_cons,decide_eq_false e,Bool.false_or]
 split
 ·rw [List.map_cons,if_neg e]
 ·rfl
theorem vf {p:Pr} {kvs:List Pr} {n:Int} (h:p.1∉kvs.map (·.1)):bC (p :: kvs) p.1 n=(p.1,n) :: kvs:=by
 unfold bC
 rw [List.any_cons,decide_eq_true rfl,Bool.true_or,if_pos rfl,List.map_cons,if_pos rfl]
 congr 1
 refine (List.map_congr_left (g:=id) fun q hq=>?_).trans (List.map_id _)
 exact if_neg fun e=>h (by rw [<- e]; exact List.mem_map_of_mem (f:=fun q:Pr=>q.1) hq)
theorem tj (g:Str->Int) {x:Str} {n:Int} (h0:0<=n):∀ {kvs:List Pr},(kvs.map (·.1)).Nodup->(∀ p∈kvs,0<=p.2)->pw g (bC kvs x (tm kvs x + n))=pw g kvs * g x ^ n.toNat/\bv (bC kvs x (tm kvs x + n))=bv kvs + n
 | [],_,_=>by
  show pw g [(x,0 + n)]=1 * _/\bv [(x,0 + n)]=0 + n
  rw [Int.zero_add]
  exact ⟨by show g x ^ n.toNat * 1=_; rw [Int.mul_one,Int.one_mul],by show n + 0=n; omega⟩
 | p :: kvs,nd,h=>by
  have hp:=h p List.mem_cons_self
  have hk:=fun q hq=>h q (List.mem_cons_of_mem _ hq)
  rw [List.map_cons,List.nodup_cons] at nd
  by_cases e:p.1=x
  ·subst e
   have t1:tm (p :: kvs) p.1=p.2:=if_pos rfl
   rw [t1,vf nd.1]
   refine ⟨?_,by show p.2 + n + bv kvs=p.2 + bv kvs + n; omega⟩
   show g p.1 ^ (p.2 + n).toNat * pw g kvs=g p.1 ^ p.2.toNat * pw g kvs * g p.1 ^ n.toNat
   rw [Int.toNat_add hp h0,Int.pow_add,Int.mul_assoc,Int.mul_assoc,Int.mul_comm (g p.1 ^ n.toNat)]
  ·have t1:tm (p :: kvs) x=tm kvs x:=if_neg e
   obtain ⟨h1,h2⟩:=tj g h0 (x:=x) nd.2 hk
   rw [t1,va e]
   refine ⟨?_,by show p.2 + bv (bC kvs x (tm kvs x + n))=p.2 + bv kvs + n; rw [h2]; omega⟩
   show _ * pw g (bC kvs x (tm kvs x + n))=_ * _ * _
   rw [h1,Int.mul_assoc]
theorem pZ {p:PM} {m:List PM} {k:List Pr} (e:p.1≠k):dE (p :: m) k=dE m k:=by unfold dE; rw [List.find?_cons,decide_eq_false e]
theorem pd {p:PM} {m:List PM}:dE (p :: m) p.1=some p.2:=by unfold dE; rw [List.find?_cons,decide_eq_true rfl]; rfl
theorem vC {p:PM} {m:List PM} {k:List Pr} {n:Int} (e:p.1≠k):dO (p :: m) k n=p :: dO m k n:=by
 unfold dO
 rw [pZ e]
 split
 ·rw [List.map_cons,if_neg e]
 ·rfl
theorem uA {p:PM} {m:List PM} {n:Int} (h:p.1∉m.map (·.1)):dO (p :: m) p.1 n=(p.1,n) :: m:=by
 unfold dO
 rw [pd,if_pos (show (some p.2).isSome=true from rfl),List.map_cons,if_pos rfl]
 congr 1
 refine (List.map_congr_left (g:=id) fun q hq=>?_).trans (List.map_id _)
 exact if_neg fun e=>h (by rw [<- e]; exact List.mem_map_of_mem (f:=fun q:PM=>q.1) hq)
theorem oC (g:List Pr->Int) {k:List Pr} {n:Int}:∀ {m:List PM},(m.map (·.1)).Nodup->sw g (dO m k ((dE m k).getD 0 + n))=sw g m + n * g k
 | [],_=>by
  show (0 + n) * g k + 0=0 + n * g k
  rw [Int.zero_add]; omega
 | p :: m,nd=>by
  rw [List.map_cons,List.nodup_cons] at nd
  by_cases e:p.1=k
  ·subst e
   rw [pd,uA nd.1]
   show (p.2 + n) * g p.1 + sw g m=p.2 * g p.1 + sw g m + n * g p.1
   rw [Int.add_mul]; omega
  ·have h1:=oC g (k:=k) (n:=n) nd.2
   rw [pZ e,vC e]
   show p.2 * g p.1 + sw g (dO m k _)=p.2 * g p.1 + sw g m + n * g k
   rw [h1]; omega
theorem nG {R:PM->Prop} {m:List PM} {k:List Pr} {n:Int} (h:∀ p∈m,R p) (hk:R (k,n)):∀ p∈dO m k n,R p:=by
 unfold dO
 split
 ·intro p hp
  obtain ⟨q,hq,rfl⟩:=List.mem_map.mp hp
  split
  ·next e=>rw [e]; exact hk
  ·exact h q hq
 ·intro p hp
  rcases List.mem_append.mp hp with hp | hp
  ·exact h p hp
  ·rw [List.mem_singleton.mp hp]; exact hk
theorem lH {m:List PM} (h:∀ p∈m,0<=p.2) (k:List Pr):0<=(dE m k).getD 0:=by
 unfold dE
 cases e:m.find? fun p=>decide (p.1=k) with
 | none=>exact Int.le_refl 0
 | some p=>exact h p (List.mem_of_find?_eq_some e)
theorem sh {ks:List Pr} (nd:(ks.map (·.1)).Nodup) (h:∀ p∈ks,1<=p.2):∃ qs,cX qs/\qs.Perm ks:=by
 let le:Pr->Pr->Bool:=fun p q=>decide (¬ q.1.cps.toList < p.1.cps.toList)
 have pm:=List.mergeSort_perm ks le
 have pw:=List.pairwise_mergeSort (le:=le) (fun a b c h1 h2=>by
  have h1:=of_decide_eq_true h1
  have h2:=of_decide_eq_true h2
  refine decide_eq_true fun z=>?_
  by_cases e:b.1.cps.toList=c.1.cps.toList
  ·rw [<- e] at z; exact h1 z
  ·exact h1 (List.lt_trans (iw h2 (fun q=>e q.symm)) z)) (fun a b=>by
  show (decide _ || decide _)=true
  by_cases z:b.1.cps.toList < a.1.cps.toList
  ·rw [decide_eq_false (fun q=>q z),Bool.false_or]
   exact decide_eq_true fun y=>eD _ (List.lt_trans y z)
  ·rw [decide_eq_true z]; rfl) ks
 refine ⟨ks.mergeSort le,⟨?_,fun p hp=>h p (pm.mem_iff.mp hp)⟩,pm⟩
 have nd2:((ks.mergeSort le).map (·.1)).Nodup:=(pm.map _).nodup_iff.mpr nd
 refine List.Pairwise.imp₂ (fun a b h1 h2=>?_) pw (List.pairwise_map.mp nd2)
 have h1:=of_decide_eq_true h1
 exact Classical.byContradiction fun z=>h1 (iw z fun e=>h2 (lV e))
def dF:List Pr->List Pr
 | []=>[]
 | p :: ps=>bC (dF ps) p.1 (tm (dF ps) p.1 + p.2)
theorem oJ (g:Str->Int):∀ {ps:List Pr},(∀ p∈ps,1<=p.2)->((dF ps).map (·.1)).Nodup/\(∀ p∈dF ps,1<=p.2)/\(∀ x,tm (dF ps) x=cK ps x)/\pw g (dF ps)=pw g ps/\bv (dF ps)=bv ps/\(dF ps).length<=ps.length
 | [],_=>⟨List.nodup_nil,(fun _ h=>nomatch h),fun _=>rfl,rfl,rfl,Nat.le_refl _⟩
 | p :: ps,h=>by
  obtain ⟨h1,h2,h3,h4,h5,h6⟩:=oJ g (ps:=ps) fun q hq=>h q (List.mem_cons_of_mem _ hq)
  have hp:=h p List.mem_cons_self
  have h0:=eS (fun q hq=>Int.le_trans (by decide) (h2 q hq)) p.1
  obtain ⟨w1,w2⟩:=tj g (x:=p.1) (n:=p.2) (by omega) h1 (fun q hq=>Int.le_trans (by decide) (h2 q hq))
  refine ⟨df h1,eh (R:=fun r=>1<=r.2) h2 (by show 1<=tm (dF ps) p.1 + p.2; omega),fun x=>?_,?_,?_,?_⟩
  ·show tm (bC (dF ps) p.1 (tm (dF ps) p.1 + p.2)) x=(if p.1=x then p.2 else 0) + cK ps x
   rw [tR]
   by_cases e:p.1=x
   ·subst e; rw [if_pos rfl,if_pos rfl,h3]; omega
   ·rw [if_neg e,if_neg e,h3]; omega
  ·show pw g (bC (dF ps) p.1 (tm (dF ps) p.1 + p.2))=g p.1 ^ p.2.toNat * pw g ps
   rw [w1,h4,Int.mul_comm]
  ·show bv (bC (dF ps) p.1 (tm (dF ps) p.1 + p.2))=p.2 + bv ps
   rw [w2,h5]; omega
  ·have:=dR (dF ps) p.1 (tm (dF ps) p.1 + p.2)
   show (bC (dF ps) p.1 (tm (dF ps) p.1 + p.2)).length<=ps.length + 1
   omega
noncomputable def nf (ps:List Pr):List Pr:=open Classical in if h:∃ qs,cX qs/\∀ x,tm qs x=cK ps x then Classical.choose h else []
theorem vN {ps qs:List Pr} (c:cX qs) (h:∀ x,tm qs x=cK ps x):nf ps=qs:=by
 have e:∃ qs,cX qs/\∀ x,tm qs x=cK ps x:=⟨qs,c,h⟩
 unfold nf
 rw [dif_pos e]
 exact gM (Classical.choose_spec e).1 c fun x=>((Classical.choose_spec e).2 x).trans (h x).symm
theorem vL (g:Str->Int) {ps:List Pr} (h:∀ p∈ps,1<=p.2):cX (nf ps)/\(∀ x,tm (nf ps) x=cK ps x)/\pw g (nf ps)=pw g ps/\bv (nf ps)=bv ps/\(nf ps).length<=ps.length:=by
 obtain ⟨h1,h2,h3,h4,h5,h6⟩:=oJ g h
 obtain ⟨qs,c,pm⟩:=sh h1 h2
 have t:∀ x,tm qs x=cK ps x:=fun x=>(eZ c.pw pm x).trans (h3 x)
 rw [vN c t]
 exact ⟨c,t,by rw [vy g pm,h4],by rw [qW pm,h5],by rw [pm.length_eq]; exact h6⟩
theorem fh {g h:List Pr->Int}:∀ {m:List PM},(∀ p∈m,g p.1=h p.1)->sw g m=sw h m
 | [],_=>rfl
 | p :: m,e=>by
  show p.2 * g p.1 + sw g m=p.2 * h p.1 + sw h m
  rw [e p List.mem_cons_self,fh fun q hq=>e q (List.mem_cons_of_mem _ hq)]
theorem iJ (n:Int) (g:List Pr->Int):∀ m:List PM,sw (fun k=>n * g k) m=n * sw g m
 | []=>by show (0:Int)=n * 0; omega
 | p :: m=>by
  show p.2 * (n * g p.1) + sw _ m=n * (p.2 * g p.1 + sw g m)
  rw [iJ n g m,Int.mul_add,Int.mul_left_comm]
theorem fQ:∀ m:List PM,sw (fun _=>0) m=0
 | []=>rfl
 | p :: m=>by show p.2 * 0 + sw _ m=0; rw [fQ m]; omega
def Up (m:List PM):Prop:=m.Pairwise fun p q=>ltK p.1 q.1=true
abbrev bg:Stmt:=top 2
def SmT (K:PySem.W.Frag) (H:Hp) (m:List PM) (v:V):Prop:=∃ a us,v=.ref a/\H a=some (.tup us)/\Paired (TmR K H) m us
theorem SmT.sm {K:PySem.W.Frag} {H:Hp} {m:List PM} {v:V} (h:SmT K H m v):SmR K H m v:=let ⟨a,us,e,ha,r⟩:=h; ⟨a,us,e,.of ha,r⟩
def ua (K:PySem.W.Frag):Sp:=fun vs H Q _=>∃ (a:Addr) (ps:List Pr),vs=[.ref a]/\bZ K H ps a/\(∀ p∈ps,1<=p.2)/\ps.length<=60 /\
 ∀ (H':Hp) (b:Addr),aq H H'->bZ K H' (nf ps) b->Q (.ref b) H'
def oM (K:PySem.W.Frag) (sq:Hp->Addr->List V->Prop):Sp:=fun vs H Q _=>∃ (a:Addr) (us:List V) (m:List PM),vs=[.ref a]/\sq H a us/\Paired (TmR K H) m us/\(∀ p∈m,1<=p.2)/\m.length<=80000 /\
 ∀ (H':Hp) (v:V) (m':List PM),aq H H'->SmT K H' m' v->Up m'->(∀ p∈m',1<=p.2)->(∀ g,sw g m'=sw g m)->Q v H'
def isL (H:Hp) (a:Addr) (us:List V):Prop:=H a=some (.lst us)
theorem bP {α β:Type} {R:α->β->Prop}:∀ {xs:List α} {ys:List β},Paired R xs ys->∀ {i:Nat} {y:β},ys[i]?=some y->∃ x,xs[i]?=some x/\R x y
 | _,_,.nil,i,y,h=>by simp at h
 | _,_,.cons r t,0,y,h=>by cases h; exact ⟨_,rfl,r⟩
 | _,_,.cons r t,i + 1,y,h=>bP t h
theorem bn {α β:Type} {R:α->β->Prop}:∀ {xs:List α} {ys:List β},Paired R xs ys->xs.length=ys.length
 | _,_,.nil=>rfl
 | _,_,.cons _ t=>by rw [List.length_cons,List.length_cons,bn t]
theorem hZ (g:List Pr->Int) {m:List PM} {i:Nat} {p:PM} (h:m[i]?=some p):sw g (m.take (i + 1))=sw g (m.take i) + p.2 * g p.1:=by
 rw [List.take_add_one,h,dm]
 show _ + (p.2 * g p.1 + 0)=_
 omega
theorem pV {K:PySem.W.Frag} {P:Program} {w:World} {H H':Hp} {d:Addr} {m:List PM} (s:aq H H') (h:Dp K P w H d m):Dp K P w H' d m:=let ⟨xs,e,a,b,c,r⟩:=h; ⟨xs,s _ _ e,a,b,c,lE (fun _ _ e=>s _ _ e) r⟩
section
variable {P:Program} {w:World} {K:PySem.W.Frag} {mg:Str->Option Value} {base:Heap}
theorem bR:aR ["parts","total","key","times"] ["parts"] (ai bg):=⟨rfl,rfl,rfl,by decide +kernel,rfl,by decide +kernel,by decide +kernel⟩
theorem wO {f:Addr} {fd:FuncData} (F:Fun K "gathered" "gathered" bg f fd) (T:Txt K mg):bj P w K mg base CX0 1 f fd ["parts"] (ua K):=by
 have nd:(["parts","total","key","times"]:List Str).Nodup:=bR.nd
 refine F.ok bR (fun vs H Q E h=>?_) (fun cdv A outer s H vs Q E hr h=>?_)
 ·obtain ⟨a,ps,rfl,_⟩:=h
  rfl
 obtain ⟨a,ps,rfl,R,hge,h40,q⟩:=h
 have hu:=iS hr
 obtain ⟨us,ta,ru⟩:∃ us,Tp K H a us/\Reps H (aB ps) us:=by
  rcases R with R | ⟨rfl,R⟩
  ·obtain ⟨a',us,e,ha,ru⟩:=Rep.tup_inv R
   cases e
   exact ⟨us,.of ha,ru⟩
  ·exact ⟨[],R,by simp only [aB,List.map_nil,Reps]⟩
 have tm':∀ {H'},aq H H'->SqT K H' a us:=fun s=>(ta.tups fun _ _ e=>s _ _ e).sq
 have lus:us.length=ps.length:=by have:=ru.length; rwa [aB,List.length_map] at this
 refine ⟨_,(@ah _ _ _ _ _ (@aT _ _ (1) _ _ _ _ nd rfl (Or.inl rfl) (@fV _ _) (by rfl) (by trivial)) (@ah _ _ _ _ _ (@bW _ _ _ _ _ _ _ _ PassesOwn.never rfl (@bQ _ _ _ _ (@pv _ 0 _ _ (by rfl) (by trivial) (by decide) (by decide))) (@bD _ _ _ _ _ _ rfl (@av _ _ _ _ _ (@au _ _ (2) _ nd rfl (Or.inl rfl) (by trivial)) (@av _ _ _ _ _ (@au _ _ (3) _ nd rfl (Or.inl rfl) (by trivial)) (@bo _) (by rfl)) (by rfl)) (by rfl) (by rfl)) (@aj _ _ _ (@fx _ _ _ _ _ _ _ _ _ hu (@pv _ 1 _ _ (by rfl) (by trivial) (by decide) (by decide)) (@pv _ 2 _ _ (by rfl) (by trivial) (by decide) (by decide)) (@aQ _ _ _ _ _ _ _ _ bt (@fD _ _ _ _ _ _ _ _ _ hu (@pv _ 1 _ _ (by rfl) (by trivial) (by decide) (by decide)) (@pv _ 2 _ _ (by rfl) (by trivial) (by decide) (by decide)) (@ad _ _ _ _) ⟨rfl,rfl,rfl,rfl⟩) (@pv _ 3 _ _ (by rfl) (by trivial) (by decide) (by decide))) rfl)) (by intro _; rfl)) (@aj _ _ _ (@aA _ _ _ _ (@bH _ _ _ _ _ _ _ _ _ bO rfl T.tuple (by decide +kernel) (@aa _ _ _ _ _ (@aK _ _ _ _ _ _ _ _ _ (fG rfl) rfl T.sorted (by decide +kernel) (@aa _ _ _ _ _ (@iB _ _ _ _ _ _ _ _ _ PySem.F.plainAttrs_dict PySem.F.slot_dict_items PySem.F.type_dict_items nA (@pv _ 1 _ _ (by rfl) (by trivial) (by decide) (by decide)) (by rfl) (by rfl)) (@ae _) (by rfl)) (by decide) (by decide) (by rfl) (by rfl)) (@ae _) (by rfl)) (by decide) (by decide) (by rfl) (by rfl)))))),?_⟩
 intro d hd
 have s0:aq H (upd H d (.dK [])):=ak hd _
 refine ⟨_,rfl,a,rfl,⟨us,tm' s0⟩,cV (xs:=us) (fun i σ H'=>∃ (kvs:List Pr) (o1 o2:Option V),σ=[some (.ref a),some (.ref d),o1,o2]/\aq H H'/\H' d=some (.dK (dk kvs))/\(kvs.map (·.1)).Nodup/\kvs.length<=i/\(∀ p∈kvs,1<=p.2)/\∀ x,tm kvs x=cK (ps.take i) x)
  ⟨[],_,_,rfl,s0,af,by simp,by simp,by simp,fun x=>rfl⟩ (fun i σ H' _ ⟨_,_,_,_,s1,_⟩=>tm' s1) ?T1 ?_⟩
 case T1=>
  rintro i x σ H1 hx ⟨kvs,o1,o2,rfl,s1,d1,ndk,hl,hall,ht⟩
  obtain ⟨p,b,hp,rfl,hb⟩:=dN ru hx
  have hi:i < us.length:=(List.getElem?_eq_some_iff.mp hx).1
  refine ⟨b,_,rfl,SqT.of (s1 _ _ hb),rfl,_,_,rfl,_,_,rfl,rfl,?_⟩
  refine ⟨_,rfl,d,rfl,.inl ⟨_,.inl d1⟩,_,rfl,_,nu.k (k:=Sum.inr p.1) d1,_,rfl,tm kvs p.1,p.2,nq _ _,rfl,_,rfl,_,rfl,d,_,rfl,lA.k (k:=Sum.inr p.1) d1 ?_,?_⟩
  ·rw [show (dk kvs).length=kvs.length from List.length_map _,sizeLine_eq]; omega
  have hp1:=hge p (List.mem_of_getElem? hp)
  have h0:=eS (fun r hr'=>Int.le_trans (by decide) (hall r hr')) p.1
  refine ⟨bC kvs p.1 (tm kvs p.1 + p.2),_,_,rfl,fun e o he=>?_,?_,df ndk,Nat.le_trans (dR _ _ _) (by omega),eh (R:=fun r=>1<=r.2) hall (by show 1<=tm kvs p.1 + p.2; omega),fun x=>?_⟩
  ·rw [aI (am he hd)]
   exact s1 _ _ he
  ·rw [af,kS]
  ·rw [tR,qJ hp,ht x]
   by_cases e:p.1=x
   ·subst e; rw [if_pos rfl,if_pos rfl,ht p.1]
   ·rw [if_neg e,if_neg e]; omega
 rintro σ H1 ⟨kvs,o1,o2,rfl,s1,d1,ndk,hl,hall,ht⟩
 refine ⟨_,rfl,.inr (.inr (.inl ⟨rfl,.inl ⟨_,d1⟩⟩)),d,_,rfl,rfl,d1,fun v hv=>?_⟩
 refine ⟨v,d,kvs.map fun p=>(p.1,V.int p.2),rfl,af,?_,?_,fun H2 l qs s2 hl' hq hlst pq pw'=>?_⟩
 ·rw [aI (am d1 hv),d1,List.map_map]; rfl
 ·rw [List.length_map]; omega
 refine ⟨l,_,rfl,.inl ⟨SqL.of hlst,fun t ht'=>?_⟩⟩
 have s12:aq H1 H2:=(ak hv _).trans s2
 have s3:aq H2 (upd H2 t (.tup (qs.map fun r=>V.ref r.1))):=ak ht' _
 have shape:∀ r∈qs,∃ p∈kvs,r.2=(p.1,[V.int p.2]):=fun r hr'=>by
  have:=pq.mem_iff.mp (List.mem_map_of_mem (f:=(·.2)) hr')
  rw [List.map_map] at this
  obtain ⟨p,hp,e⟩:=List.mem_map.mp this
  exact ⟨p,hp,e.symm⟩
 have tk:∀ r∈qs,r.2.1=(tkV r).1/\r.2.2=[V.int (tkV r).2]:=fun r hr'=>by
  obtain ⟨p,_,e⟩:=shape r hr'
  unfold tkV
  rw [e]
  exact ⟨rfl,rfl⟩
 have perm:(qs.map tkV).Perm kvs:=by
  have e1:qs.map tkV=(qs.map (·.2)).map fun z=>(z.1,match z.2 with | [.int n]=>n | _=>0):=by
   rw [List.map_map]; rfl
  have e2:kvs=((kvs.map fun p=>(p.1,V.int p.2)).map fun p=>(p.1,[p.2])).map fun z=>(z.1,match z.2 with | [.int n]=>n | _=>0):=by
   rw [List.map_map,List.map_map]
   exact (List.map_id kvs).symm
  rw [e1]
  rw [e2]
  exact pq.map _
 have can:cX (qs.map tkV):=⟨List.pairwise_map.mpr (pw'.imp fun {x y} h=>h),fun p hp=>hall p (perm.mem_iff.mp hp)⟩
 have en:nf ps=qs.map tkV:=vN can fun x=>by rw [eZ can.pw perm x,ht x,lus,List.take_length]
 refine q _ t (s1.trans (s12.trans s3)) (.inl ?_)
 rw [en]
 simp only [Rep]
 refine ⟨t,_,rfl,af,gI fun r hr'=>?_⟩
 have:=(hq r hr').1
 rw [(tk r hr').1,(tk r hr').2] at this
 exact s3 _ _ this
theorem wI {f:Addr} {fd:FuncData} (F:Fun K "gathered" "gathered" bg f fd) (T:Txt K mg):bj P w K mg base CX0 1 f fd ["parts"] (oM K (Tp K)):=by
 have nd:(["parts","total","key","times"]:List Str).Nodup:=bR.nd
 refine F.ok bR (fun vs H Q E h=>?_) (fun cdv A outer s H vs Q E hr h=>?_)
 ·obtain ⟨a,us,m,rfl,_⟩:=h
  rfl
 obtain ⟨a,us,m,rfl,ta,R,hge,h40,q⟩:=h
 have hu64:=hr.units
 have hu2:(A.deeper (PyProof.Rows.envOfC "gathered" (ai bg) s.heap.objs.size f cdv)).units + 2 < cLine:=by omega
 have hu10:(A.deeper (PyProof.Rows.envOfC "gathered" (ai bg) s.heap.objs.size f cdv)).units + 10 < cLine:=by omega
 have tm':∀ {H'},aq H H'->SqT K H' a us:=fun s=>(ta.tups fun _ _ e=>s _ _ e).sq
 have lus:us.length=m.length:=(bn R).symm
 refine ⟨_,(@ah _ _ _ _ _ (@aT _ _ (1) _ _ _ _ nd rfl (Or.inl rfl) (@mf _ _) (by rfl) (by trivial)) (@ah _ _ _ _ _ (@bW _ _ _ _ _ _ _ _ PassesOwn.never rfl (@bQ _ _ _ _ (@pv _ 0 _ _ (by rfl) (by trivial) (by decide) (by decide))) (@bD _ _ _ _ _ _ rfl (@av _ _ _ _ _ (@au _ _ (2) _ nd rfl (Or.inl rfl) (by trivial)) (@av _ _ _ _ _ (@au _ _ (3) _ nd rfl (Or.inl rfl) (by trivial)) (@bo _) (by rfl)) (by rfl)) (by rfl) (by rfl)) (@aj _ _ _ (@mF _ _ _ _ _ _ _ _ _ hu2 (@pv _ 1 _ _ (by rfl) (by trivial) (by decide) (by decide)) (@pv _ 2 _ _ (by rfl) (by trivial) (by decide) (by decide)) (@aQ _ _ _ _ _ _ _ _ bt (@jl _ _ _ _ _ _ _ _ _ hu2 (@pv _ 1 _ _ (by rfl) (by trivial) (by decide) (by decide)) (@pv _ 2 _ _ (by rfl) (by trivial) (by decide) (by decide)) (@ad _ _ _ _) ⟨rfl,rfl,rfl,rfl⟩) (@pv _ 3 _ _ (by rfl) (by trivial) (by decide) (by decide))) rfl)) (by intro _; rfl)) (@aj _ _ _ (@aA _ _ _ _ (@bH _ _ _ _ _ _ _ _ _ bO rfl T.tuple (by decide +kernel) (@aa _ _ _ _ _ (@aK _ _ _ _ _ _ _ _ _ (fy rfl hu10) rfl T.sorted (by decide +kernel) (@aa _ _ _ _ _ (@js _ _ _ _ _ (@pv _ 1 _ _ (by rfl) (by trivial) (by decide) (by decide)) (by rfl) (by rfl)) (@ae _) (by rfl)) (by decide) (by decide) (by rfl) (by rfl)) (@ae _) (by rfl)) (by decide) (by decide) (by rfl) (by rfl)))))),?_⟩
 intro d H0 hd sd D0
 have s0:aq H H0:=fun e o he=>sd e o (am he hd) he
 refine ⟨_,rfl,a,rfl,⟨us,tm' s0⟩,cV (xs:=us) (fun i σ H'=>∃ (mm:List PM) (o1 o2:Option V),σ=[some (.ref a),some (.ref d),o1,o2]/\aq H H'/\Dp K P w H' d mm/\mm.length<=i/\(∀ p∈mm,1<=p.2)/\∀ g,sw g mm=sw g (m.take i))
  ⟨[],_,_,rfl,s0,D0,by simp,by simp,fun g=>rfl⟩ (fun i σ H' _ ⟨_,_,_,_,s1,_⟩=>tm' s1) ?T1 ?_⟩
 case T1=>
  rintro i x σ H1 hx ⟨mm,o1,o2,rfl,s1,d1,hl,hall,ht⟩
  obtain ⟨p,hp,c,b,rfl,tc,kb⟩:=bP R hx
  have hi:i < us.length:=(List.getElem?_eq_some_iff.mp hx).1
  have kb1:=kb.mono s1
  have ndm:(mm.map (·.1)).Nodup:=by obtain ⟨_,_,_,_,h,_⟩:=d1; exact h
  refine ⟨c,_,rfl,(tc.tups fun _ _ e=>s1 _ _ e).sq,rfl,_,_,rfl,_,_,rfl,rfl,?_⟩
  refine ⟨_,rfl,d,_,rfl,d1,_,rfl,mm,p.1,b,0,d1,rfl,kb1,rfl,_,rfl,_,p.2,rfl,rfl,_,rfl,_,rfl,d,mm,p.1,b,_,rfl,d1,rfl,kb1,rfl,by omega,fun H4 s4 D4=>?_⟩
  have hp1:=hge p (List.mem_of_getElem? hp)
  have h0:=lH (fun r hr'=>Int.le_trans (by decide) (hall r hr')) p.1
  refine ⟨dO mm p.1 ((dE mm p.1).getD 0 + p.2),_,_,rfl,fun e o he=>s4 e o (am he hd) (s1 e o he),D4,Nat.le_trans io (by omega),nG (R:=fun r=>1<=r.2) hall (by show 1<=(dE mm p.1).getD 0 + p.2; omega),fun g=>?_⟩
  rw [oC g ndm,ht g,hZ g hp]
 rintro σ H1 ⟨mm,o1,o2,rfl,s1,d1,hl,hall,ht⟩
 refine ⟨_,rfl,d,mm,rfl,d1,fun v hv=>?_⟩
 have s2:=ak hv (cS v d)
 refine ⟨v,d,mm,rfl,af,pV s2 d1,fun H3 l ws m' s3 hl' hlst R3 pq pw'=>?_⟩
 refine ⟨l,_,rfl,.inl ⟨SqL.of hlst,fun t ht'=>?_⟩⟩
 have s4:aq H3 (upd H3 t (.tup ws)):=ak ht' _
 rw [lus,List.take_length] at ht
 exact q _ (.ref t) m' (s1.trans (s2.trans (s3.trans s4))) ⟨t,ws,rfl,af,cP (fun _ _ e=>s4 _ _ e) R3⟩ pw' (fun p hp=>hall p (pq.mem_iff.mp hp)) (fun g=>by rw [qd g pq,ht g])
theorem wX {f:Addr} {fd:FuncData} (F:Fun K "gathered" "gathered" bg f fd) (T:Txt K mg):bj P w K mg base CX0 1 f fd ["parts"] (oM K isL):=by
 have nd:(["parts","total","key","times"]:List Str).Nodup:=bR.nd
 refine F.ok bR (fun vs H Q E h=>?_) (fun cdv A outer s H vs Q E hr h=>?_)
 ·obtain ⟨a,us,m,rfl,_⟩:=h
  rfl
 obtain ⟨a,us,m,rfl,ta,R,hge,h40,q⟩:=h
 have hu64:=hr.units
 have hu2:(A.deeper (PyProof.Rows.envOfC "gathered" (ai bg) s.heap.objs.size f cdv)).units + 2 < cLine:=by omega
 have hu10:(A.deeper (PyProof.Rows.envOfC "gathered" (ai bg) s.heap.objs.size f cdv)).units + 10 < cLine:=by omega
 have tm':∀ {H'},aq H H'->SqL K H' a us:=fun s=>SqL.of (s _ _ ta)
 have lus:us.length=m.length:=(bn R).symm
 refine ⟨_,(@ah _ _ _ _ _ (@aT _ _ (1) _ _ _ _ nd rfl (Or.inl rfl) (@mf _ _) (by rfl) (by trivial)) (@ah _ _ _ _ _ (@bW _ _ _ _ _ _ _ _ PassesOwn.never rfl (@hE _ _ _ _ (@pv _ 0 _ _ (by rfl) (by trivial) (by decide) (by decide))) (@bD _ _ _ _ _ _ rfl (@av _ _ _ _ _ (@au _ _ (2) _ nd rfl (Or.inl rfl) (by trivial)) (@av _ _ _ _ _ (@au _ _ (3) _ nd rfl (Or.inl rfl) (by trivial)) (@bo _) (by rfl)) (by rfl)) (by rfl) (by rfl)) (@aj _ _ _ (@mF _ _ _ _ _ _ _ _ _ hu2 (@pv _ 1 _ _ (by rfl) (by trivial) (by decide) (by decide)) (@pv _ 2 _ _ (by rfl) (by trivial) (by decide) (by decide)) (@aQ _ _ _ _ _ _ _ _ bt (@jl _ _ _ _ _ _ _ _ _ hu2 (@pv _ 1 _ _ (by rfl) (by trivial) (by decide) (by decide)) (@pv _ 2 _ _ (by rfl) (by trivial) (by decide) (by decide)) (@ad _ _ _ _) ⟨rfl,rfl,rfl,rfl⟩) (@pv _ 3 _ _ (by rfl) (by trivial) (by decide) (by decide))) rfl)) (by intro _; rfl)) (@aj _ _ _ (@aA _ _ _ _ (@bH _ _ _ _ _ _ _ _ _ bO rfl T.tuple (by decide +kernel) (@aa _ _ _ _ _ (@aK _ _ _ _ _ _ _ _ _ (fy rfl hu10) rfl T.sorted (by decide +kernel) (@aa _ _ _ _ _ (@js _ _ _ _ _ (@pv _ 1 _ _ (by rfl) (by trivial) (by decide) (by decide)) (by rfl) (by rfl)) (@ae _) (by rfl)) (by decide) (by decide) (by rfl) (by rfl)) (@ae _) (by rfl)) (by decide) (by decide) (by rfl) (by rfl)))))),?_⟩
 intro d H0 hd sd D0
 have s0:aq H H0:=fun e o he=>sd e o (am he hd) he
 refine ⟨_,rfl,a,rfl,⟨us,tm' s0⟩,fF (xs:=us) (fun i σ H'=>∃ (mm:List PM) (o1 o2:Option V),σ=[some (.ref a),some (.ref d),o1,o2]/\aq H H'/\Dp K P w H' d mm/\mm.length<=i/\(∀ p∈mm,1<=p.2)/\∀ g,sw g mm=sw g (m.take i))
  ⟨[],_,_,rfl,s0,D0,by simp,by simp,fun g=>rfl⟩ (fun i σ H' _ ⟨_,_,_,_,s1,_⟩=>tm' s1) ?T1 ?_⟩
 case T1=>
  rintro i x σ H1 hx ⟨mm,o1,o2,rfl,s1,d1,hl,hall,ht⟩
  obtain ⟨p,hp,c,b,rfl,tc,kb⟩:=bP R hx
  have hi:i < us.length:=(List.getElem?_eq_some_iff.mp hx).1
  have kb1:=kb.mono s1
  have ndm:(mm.map (·.1)).Nodup:=by obtain ⟨_,_,_,_,h,_⟩:=d1; exact h
  refine ⟨c,_,rfl,(tc.tups fun _ _ e=>s1 _ _ e).sq,rfl,_,_,rfl,_,_,rfl,rfl,?_⟩
  refine ⟨_,rfl,d,_,rfl,d1,_,rfl,mm,p.1,b,0,d1,rfl,kb1,rfl,_,rfl,_,p.2,rfl,rfl,_,rfl,_,rfl,d,mm,p.1,b,_,rfl,d1,rfl,kb1,rfl,by omega,fun H4 s4 D4=>?_⟩
  have hp1:=hge p (List.mem_of_getElem? hp)
  have h0:=lH (fun r hr'=>Int.le_trans (by decide) (hall r hr')) p.1
  refine ⟨dO mm p.1 ((dE mm p.1).getD 0 + p.2),_,_,rfl,fun e o he=>s4 e o (am he hd) (s1 e o he),D4,Nat.le_trans io (by omega),nG (R:=fun r=>1<=r.2) hall (by show 1<=(dE mm p.1).getD 0 + p.2; omega),fun g=>?_⟩
  rw [oC g ndm,ht g,hZ g hp]
 rintro σ H1 ⟨mm,o1,o2,rfl,s1,d1,hl,hall,ht⟩
 refine ⟨_,rfl,d,mm,rfl,d1,fun v hv=>?_⟩
 have s2:=ak hv (cS v d)
 refine ⟨v,d,mm,rfl,af,pV s2 d1,fun H3 l ws m' s3 hl' hlst R3 pq pw'=>?_⟩
 refine ⟨l,_,rfl,.inl ⟨SqL.of hlst,fun t ht'=>?_⟩⟩
 have s4:aq H3 (upd H3 t (.tup ws)):=ak ht' _
 rw [lus,List.take_length] at ht
 exact q _ (.ref t) m' (s1.trans (s2.trans (s3.trans s4))) ⟨t,ws,rfl,af,cP (fun _ _ e=>s4 _ _ e) R3⟩ pw' (fun p hp=>hall p (pq.mem_iff.mp hp)) (fun g=>by rw [qd g pq,ht g])
end
abbrev bV:Stmt:=top 6
abbrev cg:Stmt:=top 7
abbrev cH:Stmt:=top 8
def qP (K:PySem.W.Frag):Sp:=fun vs H Q E=>ua K vs H Q E\/oM K isL vs H Q E\/oM K (Tp K) vs H Q E
theorem cY {α β:Type} {R:α->β->Prop} {x:α} {y:β} (r:R x y):∀ {xs:List α} {ys:List β},Paired R xs ys->Paired R (xs ++ [x]) (ys ++ [y])
 | _,_,.nil=>.cons r .nil
 | _,_,.cons q t=>.cons q (cY r t)
theorem eW {α β:Type} {R:α->β->Prop} {xs':List α} {ys':List β} (r:Paired R xs' ys'):∀ {xs:List α} {ys:List β},Paired R xs ys->Paired R (xs ++ xs') (ys ++ ys')
 | _,_,.nil=>r
 | _,_,.cons q t=>.cons q (eW r t)
theorem dW {K:PySem.W.Frag} {H H':Hp} (s:aq H H') {m:List PM} {us:List V} (h:Paired (TmR K H) m us):Paired (TmR K H') m us:=cP (fun _ _ e=>s _ _ e) h
def je (g:List Pr->Int) (c:Int):List Pr->Int
 | []=>c * g []
 | p :: ps=>p.2 * g [(p.1,1)] + je g c ps
def iR (ps:List Pr):List PM:=ps.map fun p=>([(p.1,1)],p.2)
theorem kw (g:List Pr->Int) (c:Int):∀ ps,sw g (iR ps) + c * g []=je g c ps
 | []=>by show 0 + _=_; rw [Int.zero_add]; rfl
 | p :: ps=>by
  have:=kw g c ps
  show p.2 * g [(p.1,1)] + sw g (iR ps) + c * g []=p.2 * g [(p.1,1)] + je g c ps
  omega
theorem pK {t1 t2:TS} {D:gm} {σ:St} {H:Hp} (M:St->Hp->Prop) (h2:∀ σ' H',M σ' H'->t2 D σ' H') (f:∀ N:St->Hp->Prop,(∀ σ' H',M σ' H'->N σ' H')->t1 { D with nx:=N } σ H):xO t1 t2 D σ H:=f (t2 D) h2
def kP (K:PySem.W.Frag):Sp:=fun vs H Q _=>∃ (v:V) (c:Int) (ps:List Pr),vs=[v]/\Rep H (cO c ps) v/\0<=c/\(∀ p∈ps,1<=p.2)/\ps.length<=10 /\
 ∀ (H':Hp) (u:V) (m:List PM),aq H H'->SmT K H' m u->Up m->(∀ p∈m,1<=p.2)->(∀ g,sw g m=je g c ps)->Q u H'
def rZ (K:PySem.W.Frag):Sp:=fun vs H Q _=>∃ (u v:V) (m1 m2:List PM),vs=[u,v]/\SmR K H m1 u/\SmR K H m2 v/\(∀ p∈m1,1<=p.2)/\(∀ p∈m2,1<=p.2)/\m1.length + m2.length<=80000 /\
 ∀ (H':Hp) (x:V) (m:List PM),aq H H'->SmT K H' m x->Up m->(∀ p∈m,1<=p.2)->(∀ g,sw g m=sw g m1 + sw g m2)->Q x H'
structure POk (p:PM):Prop where
 lo:1<=p.2
 hi:p.2<=10 ^ 40
 len:p.1.length<=20
 pos:∀ r∈p.1,1<=r.2
def og (K:PySem.W.Frag):Sp:=fun vs H Q _=>∃ (u v:V) (m1 m2:List PM),vs=[u,v]/\SmR K H m1 u/\SmR K H m2 v/\(∀ p∈m1,POk p)/\(∀ p∈m2,POk p)/\m1.length * m2.length<=80000 /\
 ∀ (H':Hp) (x:V) (m:List PM),aq H H'->SmT K H' m x->Up m->(∀ p∈m,1<=p.2)->(∀ g,sw g m=sw (fun a=>sw (fun b=>g (nf (a ++ b))) m2) m1)->Q x H'
section
variable {P:Program} {w:World} {K:PySem.W.Frag} {mg:Str->Option Value} {base:Heap}
theorem xT {f:Addr} {fd:FuncData} (F:Fun K "gathered" "gathered" bg f fd) (T:Txt K mg):bj P w K mg base CX0 1 f fd ["parts"] (qP K):=by
 have o1:=wO (P:=P) (w:=w) (base:=base) F T
 have o2:=wX (P:=P) (w:=w) (base:=base) F T
 have o3:=wI (P:=P) (w:=w) (base:=base) F T
 refine ⟨fun vs H Q E h=>?_,fun A outer s H args us vs Q E hr he hb hv h=>?_⟩
 ·rcases h with h | h | h
  ·exact o1.1 vs H Q E h
  ·exact o2.1 vs H Q E h
  ·exact o3.1 vs H Q E h
 ·rcases h with h | h | h
  ·exact o1.2 A outer s H args us vs Q E hr he hb hv h
  ·exact o2.2 A outer s H args us vs Q E hr he hb hv h
  ·exact o3.2 A outer s H args us vs Q E hr he hb hv h
theorem fR:aR ["a","terms"] ["a"] (ai bV):=⟨rfl,rfl,rfl,by decide +kernel,rfl,by decide +kernel,by decide +kernel⟩
theorem kt {f:Addr} {fd:FuncData} {k0:Nat} (F:Fun K "of_length" "of_length" bV f fd) (T:Txt K mg) (Dgathered:Def P w K mg base k0 "gathered" ["parts"] (qP K)):bj P w K mg base CX0 (k0 + 1) f fd ["a"] (kP K):=by
 have nd:(["a","terms"]:List Str).Nodup:=fR.nd
 refine F.ok fR (fun vs H Q E h=>?_) (fun cdv A outer s H vs Q E hr h=>?_)
 ·obtain ⟨v,c,ps,rfl,_⟩:=h
  rfl
 obtain ⟨v,c,ps,rfl,R,c0,hge,l3,q⟩:=h
 obtain ⟨a,a1,us,rfl,ha,ha1,ru,lu⟩:=ka R
 refine ⟨_,(@ah _ _ _ _ _ (@vE _ _ (["name","times"]) ([]) _ _ _ _ _ _ _ _ _ _ _ (1) _ nd rfl rfl (@bQ _ _ _ _ (@aE _ _ _ _ _ _ _ aD (@pv _ 0 _ _ (by rfl) (by trivial) (by decide) (by decide)) (@ad _ _ _ _) (fun _ _=>rfl))) (.of rfl) rfl (fun _ _ _=>bD rfl (@av _ _ _ _ _ (@au _ _ (0) _ (cN (l:=["name","times"]) ((by decide +kernel)) rfl) rfl (Or.inl rfl) (by trivial)) (@av _ _ _ _ _ (@au _ _ (1) _ (cN (l:=["name","times"]) ((by decide +kernel)) rfl) rfl (Or.inl rfl) (by trivial)) (@bo _) (by rfl)) (by rfl))) (gA (by decide) (by decide)) (fun _ _ _=>(@cG _)) (fun _ _ _=>(@bE _ _ _ _ _ (@aa _ _ _ _ _ (@bE _ _ _ _ _ (@aa _ _ _ _ _ (@bE _ _ _ _ _ (@aa _ _ _ _ _ (@pv _ 0 _ _ (by rfl) (by trivial) (by decide) (by decide)) (@aa _ _ _ _ _ (@ad _ _ _ _) (@ae _) (by rfl)) (by rfl))) (@ae _) (by rfl))) (@aa _ _ _ _ _ (@pv _ 1 _ _ (by rfl) (by trivial) (by decide) (by decide)) (@ae _) (by rfl)) (by rfl)))) (by rfl) (by intro _; rfl)) (@ah _ _ _ _ _ (@bi _ _ _ _ _ _ _ _ (@aG _ _ _ _ _ _ _ _ mK (@aE _ _ _ _ _ _ _ aD (@pv _ 0 _ _ (by rfl) (by trivial) (by decide) (by decide)) (@ad _ _ _ _) (fun _ _=>rfl)) (@ad _ _ _ _) (aM _)) (@aj _ _ _ (@eC _ _ _ _ (@jh _ _ _ _ _ _ _ _ _ _ _ _ PySem.F.plainAttrs_list PySem.F.slot_list_append PySem.F.type_list_append cI (@pv _ 1 _ _ (by rfl) (by trivial) (by decide) (by decide)) (@aa _ _ _ _ _ (@bE _ _ _ _ _ (@aa _ _ _ _ _ (@bE _ _ _ _ _ (@ae _)) (@aa _ _ _ _ _ (@aE _ _ _ _ _ _ _ aD (@pv _ 0 _ _ (by rfl) (by trivial) (by decide) (by decide)) (@ad _ _ _ _) (fun _ _=>rfl)) (@ae _) (by rfl)) (by rfl))) (@ae _) (by rfl)) (by rfl) (by rfl) (by rfl) (by rfl) (by rfl)) (by rfl))) (@aN _)) (@aj _ _ _ (@aA _ _ _ _ (@ao _ _ _ _ _ _ _ _ _ _ Dgathered hr rfl (@aa _ _ _ _ _ (@pv _ 1 _ _ (by rfl) (by trivial) (by decide) (by decide)) (@ae _) (by rfl)) (by decide) (by rfl) (by rfl)))))),?_⟩
 refine ⟨_,rfl,a,_,1,.ref a1,rfl,rfl,SqT.of ha,ag (j:=1) rfl,a1,rfl,⟨us,SqT.of ha1⟩,?_⟩
 refine fg (xs:=us) (fun i ys H'=>aq H H'/\Paired (TmR K H') (iR (ps.take i)) ys) ⟨aq.refl _,.nil⟩ (fun i ys H' _ p=>SqT.of (p.1 _ _ ha1)) ?_ ?_
 ·rintro i ys H1 x hx ⟨s1,R1⟩
  obtain ⟨p,b,hp,rfl,hb⟩:=dN ru hx
  have hi:i < us.length:=(List.getElem?_eq_some_iff.mp hx).1
  have ly:ys.length=i:=by rw [<- bn R1,iR,List.length_map,List.length_take]; omega
  refine mT (s1 _ _ hb) ⟨_,rfl,z2,fun p1 hp1=>⟨z1,fun p2 hp2=>⟨_,rfl,z2,fun p3 hp3=>⟨by rw [ly,sizeLine_eq]; omega,?_,?_⟩⟩⟩⟩
  all_goals have s2:=ak hp1 (.tup [.str p.1,.int 1])
  all_goals have s3:=ak hp2 (.tup [.ref p1])
  all_goals have s4:=ak hp3 (.tup [.ref p2,.int p.2])
  ·exact s1.trans (s2.trans (s3.trans s4))
  ·rw [List.take_add_one,hp,iR,List.map_append]
   refine cY ⟨p3,p2,rfl,.of af,.inl ?_⟩ (dW (s2.trans (s3.trans s4)) R1)
   simp only [aB,List.map_cons,List.map_nil,Rep,Reps]
   exact ⟨p2,_,rfl,s4 _ _ af,_,_,rfl,⟨p1,_,rfl,s4 _ _ (s3 _ _ af),_,_,rfl,rfl,_,_,rfl,rfl,rfl⟩,rfl⟩
 ·rintro ys H1 ⟨s1,R1⟩ l hl
  rw [lu,List.take_length] at R1
  have s2:=ak hl (.lst ys)
  have ly:ys.length=ps.length:=by rw [<- bn R1,iR,List.length_map]
  have kl:∀ p∈iR ps,1<=p.2:=fun p hp=>by
   obtain ⟨r,hr,rfl⟩:=List.mem_map.mp hp
   exact hge r hr
  refine gnm ?_
  dsimp only
  refine pK (fun σ H'=>∃ (ws:List V) (m:List PM),σ=[some (.ref a),some (.ref l)]/\aq H H'/\H' l=some (.lst ws)/\Paired (TmR K H') m ws/\(∀ p∈m,1<=p.2)/\m.length<=11/\∀ g,sw g m=je g c ps) ?_ (fun N hN=>?_)
  ·rintro σ H2 ⟨ws,m,rfl,s3,h3,R3,k3,l4,e3⟩
   exact ⟨_,rfl,.inr (.inl ⟨l,ws,m,rfl,h3,R3,k3,by omega,fun H3 u m' s4 R4 u4 k4 e4=>q H3 u m' (s3.trans s4) R4 u4 k4 (fun g=>by rw [e4,e3])⟩)⟩
  ·refine ⟨_,rfl,a,_,0,.int c,rfl,rfl,SqT.of (s2 _ _ (s1 _ _ ha)),ag (j:=0) rfl,_,_,rfl,rfl,_,rfl,aW (fun h0=>?_) (fun h=>?_)⟩
   ·refine ⟨_,rfl,.inl ⟨rfl,_,SqL.of af⟩,Nat.zero_le _,fun p1 hp1=>⟨_,rfl,a,_,0,.int c,rfl,rfl,SqT.of (ak hp1 _ _ _ (s2 _ _ (s1 _ _ ha))),ag (j:=0) rfl,z2,fun p2 hp2=>?_⟩⟩
    have s3:=ak hp1 (.tup [])
    have s4:=ak hp2 (.tup [.ref p1,.int c])
    refine ⟨l,_,_,rfl,rfl,s4 _ _ (s3 _ _ af),by rw [sizeLine_eq]; omega,?_⟩
    have s5:=aH.upd (upd (upd (upd H1 l (.lst ys)) p1 (.tup [])) p2 (.tup [.ref p1,.int c])) l (.lst (ys ++ [.ref p2]))
    have t5:=s5.tups (s4 _ _ (s3 _ _ af))
    have t6:dc H1 _:=(aq.tups (s2.trans (s3.trans s4))).trans t5
    have rk:bZ K (upd (upd (upd (upd H1 l (.lst ys)) p1 (.tup [])) p2 (.tup [.ref p1,.int c])) l (.lst (ys ++ [.ref p2]))) ([]:List Pr) p1:=.inl (by
     simp only [aB,List.map_nil,Rep,Reps]
     exact ⟨p1,_,rfl,t5 _ _ (s4 _ _ af),rfl⟩)
    refine hN _ _ ⟨_,iR ps ++ [([],c)],rfl,fun e o he=>s5 e o (am (s1 _ _ he) hl) (s4 _ _ (s3 _ _ (s2 _ _ (s1 _ _ he)))),af,cY ⟨p2,p1,rfl,.of (t5 _ _ af),rk⟩ (cP t6 R1),fun p hp=>?_,by rw [List.length_append,iR,List.length_map]; simp; omega,fun g=>?_⟩
    ·rcases List.mem_append.mp hp with h | h
     ·exact kl p h
     ·rw [List.mem_singleton.mp h]
      have:c > 0:=of_decide_eq_true h0
      show 1<=c
      omega
    ·rw [dm,<- kw]
     show _ + (c * g [] + 0)=_
     omega
   ·have cz:c=0:=by have:¬ c > 0:=fun z=>h (decide_eq_true z); omega
    refine tnx (hN _ _ ⟨ys,iR ps,rfl,s1.trans s2,af,dW s2 R1,kl,by rw [iR,List.length_map]; omega,fun g=>?_⟩)
    have:=kw g c ps
    rw [<- this,cz]
    omega
theorem mP:aR ["s","t"] ["s","t"] (ai cg):=⟨rfl,rfl,rfl,by decide +kernel,rfl,by decide +kernel,by decide +kernel⟩
theorem mG {f:Addr} {fd:FuncData} {k0:Nat} (F:Fun K "together" "together" cg f fd) (T:Txt K mg) (Dgathered:Def P w K mg base k0 "gathered" ["parts"] (qP K)):bj P w K mg base CX0 (k0 + 1) f fd ["s","t"] (rZ K):=by
 refine F.ok mP (fun vs H Q E h=>?_) (fun cdv A outer s H vs Q E hr h=>?_)
 ·obtain ⟨u,v,m1,m2,rfl,_⟩:=h
  rfl
 obtain ⟨u,v,m1,m2,rfl,⟨a,us,rfl,ta,R1⟩,⟨b,ws,rfl,tb,R2⟩,k1,k2,l12,q⟩:=h
 refine ⟨_,(@aj _ _ _ (@aA _ _ _ _ (@ao _ _ _ _ _ _ _ _ _ _ Dgathered hr rfl (@aa _ _ _ _ _ (@aQ _ _ _ _ _ _ _ _ oR (@pv _ 0 _ _ (by rfl) (by trivial) (by decide) (by decide)) (@pv _ 1 _ _ (by rfl) (by trivial) (by decide) (by decide))) (@ae _) (by rfl)) (by decide) (by rfl) (by rfl)))),?_⟩
 have lu:=bn R1
 have lw:=bn R2
 have fin:∀ (H1:Hp) (c:Addr) (zs:List V) (m:List PM),aq H H1->Tp K H1 c zs->Paired (TmR K H1) m zs->m=m1 ++ m2->qP K [.ref c] H1 Q E0:=fun H1 c zs m s1 tc Rc e=>by
  subst e
  refine .inr (.inr ⟨c,zs,m1 ++ m2,rfl,tc,Rc,fun p hp=>?_,by rw [List.length_append]; exact l12,fun H2 x m s2 Rx ux kx ex=>q H2 x m (s1.trans s2) Rx ux kx (fun g=>by rw [ex,dm])⟩)
  rcases List.mem_append.mp hp with h | h
  ·exact k1 p h
  ·exact k2 p h
 refine ⟨_,rfl,_,rfl,a,b,us,ws,rfl,rfl,ta.sq,tb.sq,by rw [<- lu,<- lw,sizeLine_eq]; omega,fun e=>?_,fun e=>?_,fun p hp=>?_⟩
 ·have e1:m1=[]:=List.eq_nil_of_length_eq_zero (by rw [lu,e]; rfl)
  exact fin H b ws m2 (aq.refl _) tb R2 (by rw [e1]; rfl)
 ·have e1:m2=[]:=List.eq_nil_of_length_eq_zero (by rw [lw,e]; rfl)
  exact fin H a us m1 (aq.refl _) ta R1 (by rw [e1,List.append_nil])
 ·have s1:=ak hp (.tup (us ++ ws))
  exact fin _ p _ (m1 ++ m2) s1 (.of af) (eW (dW s1 R2) (dW s1 R1)) rfl
end
theorem xS {p r:PM} (h1:POk p) (h2:POk r):IntMulOk p.2 r.2:=by
 obtain ⟨a1,a2,_,_⟩:=h1
 obtain ⟨b1,b2,_,_⟩:=h2
 exact uE (by omega) (by omega) (by omega) (by omega)
theorem vY (g:List Pr->Int) {m1 m2:List PM} {i:Nat} {p:PM} (h:m1[i]?=some p):sw (fun a=>sw (fun b=>g (nf (a ++ b))) m2) (m1.take (i + 1))=sw (fun a=>sw (fun b=>g (nf (a ++ b))) m2) (m1.take i) + p.2 * sw (fun b=>g (nf (p.1 ++ b))) m2:=hZ _ h
section
variable {P:Program} {w:World} {K:PySem.W.Frag} {mg:Str->Option Value} {base:Heap}
theorem iL:aR ["s","t","terms","powers","times","others","more"] ["s","t"] (ai cH):=⟨rfl,rfl,rfl,by decide +kernel,rfl,by decide +kernel,by decide +kernel⟩
theorem oD {f:Addr} {fd:FuncData} {k0:Nat} (F:Fun K "product" "product" cH f fd) (T:Txt K mg) (Dgathered:Def P w K mg base k0 "gathered" ["parts"] (qP K)):bj P w K mg base CX0 (k0 + 1) f fd ["s","t"] (og K):=by
 have nd:(["s","t","terms","powers","times","others","more"]:List Str).Nodup:=iL.nd
 refine F.ok iL (fun vs H Q E h=>?_) (fun cdv A outer s H vs Q E hr h=>?_)
 ·obtain ⟨u,v,m1,m2,rfl,_⟩:=h
  rfl
 obtain ⟨u,v,m1,m2,rfl,⟨a,us,rfl,ta,R1⟩,⟨b,ws,rfl,tb,R2⟩,k1,k2,l12,q⟩:=h
 have lu:=bn R1
 have lw:=bn R2
 refine ⟨_,(@ah _ _ _ _ _ (@aT _ _ (2) _ _ _ _ nd rfl (Or.inl rfl) (@iD _ _ _ _ (@ae _)) (by rfl) (by trivial)) (@ah _ _ _ _ _ (@bW _ _ _ _ _ _ _ _ PassesOwn.never rfl (@bQ _ _ _ _ (@pv _ 0 _ _ (by rfl) (by trivial) (by decide) (by decide))) (@bD _ _ _ _ _ _ rfl (@av _ _ _ _ _ (@au _ _ (3) _ nd rfl (Or.inl rfl) (by trivial)) (@av _ _ _ _ _ (@au _ _ (4) _ nd rfl (Or.inl rfl) (by trivial)) (@bo _) (by rfl)) (by rfl)) (by rfl) (by rfl)) (@aj _ _ _ (@bW _ _ _ _ _ _ _ _ PassesOwn.never rfl (@bQ _ _ _ _ (@pv _ 1 _ _ (by rfl) (by trivial) (by decide) (by decide))) (@bD _ _ _ _ _ _ rfl (@av _ _ _ _ _ (@au _ _ (5) _ nd rfl (Or.inl rfl) (by trivial)) (@av _ _ _ _ _ (@au _ _ (6) _ nd rfl (Or.inl rfl) (by trivial)) (@bo _) (by rfl)) (by rfl)) (by rfl) (by rfl)) (@aj _ _ _ (@eC _ _ _ _ (@jh _ _ _ _ _ _ _ _ _ _ _ _ PySem.F.plainAttrs_list PySem.F.slot_list_append PySem.F.type_list_append cI (@pv _ 2 _ _ (by rfl) (by trivial) (by decide) (by decide)) (@aa _ _ _ _ _ (@bE _ _ _ _ _ (@aa _ _ _ _ _ (@ao _ _ _ _ _ _ _ _ _ _ Dgathered hr rfl (@aa _ _ _ _ _ (@aQ _ _ _ _ _ _ _ _ oR (@pv _ 3 _ _ (by rfl) (by trivial) (by decide) (by decide)) (@pv _ 5 _ _ (by rfl) (by trivial) (by decide) (by decide))) (@ae _) (by rfl)) (by decide) (by rfl) (by rfl)) (@aa _ _ _ _ _ (@aQ _ _ _ _ _ _ _ _ uV (@pv _ 4 _ _ (by rfl) (by trivial) (by decide) (by decide)) (@pv _ 6 _ _ (by rfl) (by trivial) (by decide) (by decide))) (@ae _) (by rfl)) (by rfl))) (@ae _) (by rfl)) (by rfl) (by rfl) (by rfl) (by rfl) (by rfl)) (by rfl))) (by intro _; rfl))) (by intro _; rfl)) (@aj _ _ _ (@aA _ _ _ _ (@ao _ _ _ _ _ _ _ _ _ _ Dgathered hr rfl (@aa _ _ _ _ _ (@pv _ 2 _ _ (by rfl) (by trivial) (by decide) (by decide)) (@ae _) (by rfl)) (by decide) (by rfl) (by rfl)))))),?_⟩
 refine ⟨Nat.zero_le _,fun L hL=>?_⟩
 have q0:=ak hL (.lst [])
 have up:∀ {H'},aq H H'->dc H H':=fun s=>aq.tups s
 have Inv0:(fun (i:Nat) (S:(List Pr->Int)->Int) (H':Hp)=>∃ (zs:List V) (m:List PM),aq H H'/\H' L=some (.lst zs)/\Paired (TmR K H') m zs/\(∀ p∈m,1<=p.2)/\m.length=i/\∀ g,sw g m=S g) 0 (fun _=>0) (upd H L (.lst [])):=⟨[],[],q0,af,.nil,by simp,rfl,fun g=>rfl⟩
 generalize hI:(fun (i:Nat) (S:(List Pr->Int)->Int) (H':Hp)=>∃ (zs:List V) (m:List PM),aq H H'/\H' L=some (.lst zs)/\Paired (TmR K H') m zs/\(∀ p∈m,1<=p.2)/\m.length=i/\∀ g,sw g m=S g)=Iv at Inv0
 have Is:∀ {i S H'},Iv i S H'->aq H H':=fun h=>by rw [<- hI] at h; obtain ⟨_,_,s,_⟩:=h; exact s
 refine ⟨_,rfl,a,rfl,⟨us,(ta.tups (up q0)).sq⟩,cV (xs:=us) (fun i σ H'=>∃ (o3 o4 o5 o6:Option V),σ=[some (.ref a),some (.ref b),some (.ref L),o3,o4,o5,o6]/\Iv (i * m2.length) (fun g=>sw (fun a=>sw (fun b=>g (nf (a ++ b))) m2) (m1.take i)) H') ⟨_,_,_,_,rfl,?_⟩ (fun i σ H' _ ⟨_,_,_,_,_,h⟩=>(ta.tups (up (Is h))).sq) ?_ ?_⟩
 ·rw [Nat.zero_mul]
  rw [<- hI]
  exact Inv0
 ·rintro i x σ H1 hx ⟨o3,o4,o5,o6,rfl,v1⟩
  obtain ⟨p,hp,c,kp,rfl,tc,kr⟩:=bP R1 hx
  have hi:i < m1.length:=by rw [lu]; exact (List.getElem?_eq_some_iff.mp hx).1
  have s1:=Is v1
  refine ⟨c,_,rfl,(tc.tups (up s1)).sq,rfl,_,_,rfl,_,_,rfl,rfl,?_⟩
  refine ⟨_,rfl,b,rfl,⟨ws,(tb.tups (up s1)).sq⟩,cV (xs:=ws) (fun j σ H'=>∃ (o5 o6:Option V),σ=[some (.ref a),some (.ref b),some (.ref L),some (.ref kp),some (.int p.2),o5,o6]/\Iv (i * m2.length + j) (fun g=>sw (fun a=>sw (fun b=>g (nf (a ++ b))) m2) (m1.take i) + p.2 * sw (fun b=>g (nf (p.1 ++ b))) (m2.take j)) H') ⟨_,_,rfl,?_⟩ (fun j σ H' _ ⟨_,_,_,h⟩=>(tb.tups (up (Is h))).sq) ?_ ?_⟩
  ·have:(fun (g:List Pr->Int)=>sw (fun a=>sw (fun b=>g (nf (a ++ b))) m2) (m1.take i) + p.2 * sw (fun b=>g (nf (p.1 ++ b))) (m2.take 0))=fun (g:List Pr->Int)=>sw (fun a=>sw (fun b=>g (nf (a ++ b))) m2) (m1.take i):=funext fun g=>by
    rw [List.take_zero]
    show _ + _ * 0=_
    rw [Int.mul_zero,Int.add_zero]
   rw [this]; exact v1
  ·rintro j y σ H2 hy ⟨o5,o6,rfl,v2⟩
   obtain ⟨r,hr',c2,kq,rfl,tc2,kr2⟩:=bP R2 hy
   have hj:j < m2.length:=by rw [lw]; exact (List.getElem?_eq_some_iff.mp hy).1
   have s2:=Is v2
   have kp1:=k1 p (List.mem_of_getElem? hp)
   have kr1:=k2 r (List.mem_of_getElem? hr')
   obtain ⟨xs,tx,rx⟩:=bZ.tup (kr.mono s2)
   obtain ⟨ys,ty,ry⟩:=bZ.tup (kr2.mono s2)
   have lx:xs.length=p.1.length:=by have:=rx.length; rwa [aB,List.length_map] at this
   have lys:ys.length=r.1.length:=by have:=ry.length; rwa [aB,List.length_map] at this
   have b1:=kp1.len
   have b2:=kr1.len
   have ij:i * m2.length + j < 80000:=by
    have:i * m2.length + m2.length<=m1.length * m2.length:=by
     rw [<- Nat.succ_mul]; exact Nat.mul_le_mul_right _ hi
    omega
   refine ⟨c2,_,rfl,(tc2.tups (up s2)).sq,rfl,_,_,rfl,_,_,rfl,rfl,?_⟩
   rw [<- hI] at v2
   obtain ⟨zs,m,s2',hLz,Rz,kz,lz,ez⟩:=v2
   have lzs:=bn Rz
   refine ⟨_,rfl,.inl ⟨rfl,_,SqL.of hLz⟩,_,rfl,_,rfl,kp,kq,xs,ys,rfl,rfl,tx.sq,ty.sq,by rw [lx,lys,sizeLine_eq]; omega,?_⟩
   have fin:∀ (H3:Hp) (d:Addr),aq H2 H3->bZ K H3 (p.1 ++ r.1) d->ua K [.ref d] H3 (fun x H4=>∃ y,some (some (V.int p.2))=some (some y)/\∃ z,some (some (V.int r.2))=some (some z)/\rI IntMulOk (fun i j=>V.int (i * j)) y z H4 fun zz H5=>2<=sizeLine/\∀ e,H5 e=none->pW (.ref L) [.ref e] (upd H5 e (.tup [x,zz])) fun _ H6=>∃ (o5 o6:Option V),[some (V.ref a),some (.ref b),some (.ref L),some (.ref kp),some (.int p.2),some (.ref kq),some (.int r.2)]=[some (V.ref a),some (.ref b),some (.ref L),some (.ref kp),some (.int p.2),o5,o6]/\Iv (i * m2.length + (j + 1)) (fun g=>sw (fun a=>sw (fun b=>g (nf (a ++ b))) m2) (m1.take i) + p.2 * sw (fun b=>g (nf (p.1 ++ b))) (m2.take (j + 1))) H6) E0:=fun H3 d s3 kd=>by
    refine ⟨d,p.1 ++ r.1,rfl,kd,fun z hz=>?_,by rw [List.length_append]; omega,fun H4 e s4 ke=>?_⟩
    ·rcases List.mem_append.mp hz with h | h
     ·exact kp1.pos z h
     ·exact kr1.pos z h
    ·refine ⟨_,rfl,_,rfl,_,_,rfl,rfl,xS kp1 kr1,z2,fun g hg=>?_⟩
     have s5:=ak hg (.tup [.ref e,.int (p.2 * r.2)])
     refine ⟨L,_,_,rfl,rfl,s5 _ _ (s4 _ _ (s3 _ _ hLz)),by rw [<- lzs,lz,sizeLine_eq]; omega,?_⟩
     have s6:=aH.upd (upd H4 g (.tup [.ref e,.int (p.2 * r.2)])) L (.lst (zs ++ [.ref g]))
     have t6:=s6.tups (s5 _ _ (s4 _ _ (s3 _ _ hLz)))
     refine ⟨_,_,rfl,?_⟩
     rw [<- hI]
     refine ⟨zs ++ [.ref g],m ++ [(nf (p.1 ++ r.1),p.2 * r.2)],fun z o hz=>s6 z o (am hz hL) (s5 _ _ (s4 _ _ (s3 _ _ (s2 _ _ hz)))),af,cY ⟨g,e,rfl,.of (t6 _ _ af),(ke.mono s5).tups t6⟩ (cP ((aq.tups (s3.trans (s4.trans s5))).trans t6) Rz),fun z hz=>?_,by rw [List.length_append,lz]; rfl,fun g'=>?_⟩
     ·rcases List.mem_append.mp hz with h | h
      ·exact kz z h
      ·rw [List.mem_singleton.mp h]
       exact Int.mul_le_mul kp1.lo kr1.lo (by decide) (by have:=kp1.lo; omega)
     ·have ez':sw g' m=sw (fun a=>sw (fun b=>g' (nf (a ++ b))) m2) (m1.take i) + p.2 * sw (fun b=>g' (nf (p.1 ++ b))) (m2.take j):=ez g'
      show _=sw (fun a=>sw (fun b=>g' (nf (a ++ b))) m2) (m1.take i) + p.2 * sw (fun b=>g' (nf (p.1 ++ b))) (m2.take (j + 1))
      rw [dm,ez',hZ (fun b=>g' (nf (p.1 ++ b))) hr']
      show _ + (p.2 * r.2 * g' (nf (p.1 ++ r.1)) + 0)=_
      rw [Int.add_zero,Int.mul_add,<- Int.add_assoc]
      congr 1
      rw [Int.mul_assoc]
   refine ⟨fun e=>.inl (fin H2 kq (aq.refl _) ?_),fun e=>.inl (fin H2 kp (aq.refl _) ?_),fun d hd=>.inl (fin _ d (ak hd _) (.inl ?_))⟩
   ·have e1:p.1=[]:=List.eq_nil_of_length_eq_zero (by rw [<- lx,e]; rfl)
    rw [e1]; exact kr2.mono s2
   ·have e1:r.1=[]:=List.eq_nil_of_length_eq_zero (by rw [<- lys,e]; rfl)
    rw [e1,List.append_nil]; exact kr.mono s2
   ·simp only [Rep]
    refine ⟨d,_,rfl,af,?_⟩
    have e:aB (p.1 ++ r.1)=aB p.1 ++ aB r.1:=List.map_append
    rw [e]
    exact Reps.append (rx.mono (ak hd _)) (ry.mono (ak hd _))
  ·rintro σ H2 ⟨o5,o6,rfl,v2⟩
   refine ⟨_,_,_,_,rfl,?_⟩
   rw [<- lw,List.take_length] at v2
   rw [Nat.succ_mul]
   have:(fun (g:List Pr->Int)=>sw (fun a=>sw (fun b=>g (nf (a ++ b))) m2) (m1.take (i + 1)))=fun (g:List Pr->Int)=>sw (fun a=>sw (fun b=>g (nf (a ++ b))) m2) (m1.take i) + p.2 * sw (fun b=>g (nf (p.1 ++ b))) m2:=funext fun g=>vY g hp
   rw [this]
   exact v2
 ·rintro σ H1 ⟨o3,o4,o5,o6,rfl,v1⟩
  rw [<- lu,List.take_length,<- hI] at v1
  obtain ⟨zs,m,s1,hLz,Rz,kz,lz,ez⟩:=v1
  exact ⟨_,rfl,.inr (.inl ⟨L,zs,m,rfl,hLz,Rz,kz,by omega,fun H2 x m' s2 Rx ux kx ex=>q H2 x m' (s1.trans s2) Rx ux kx (fun g=>by rw [ex,ez])⟩)⟩
end
abbrev dl:Stmt:=top 10
abbrev bp:Stmt:=top 11
abbrev bS:Stmt:=top 12
theorem mp {j:Int} (h:0 < j):0 < j:=h
structure KOk (n:Nat) (ps:List Pr):Prop where
 len:ps.length<=n
 pos:∀ p∈ps,0<=p.2
 sum:bv ps<=n
theorem cR:∀ {ps:List Pr},(∀ p∈ps,0<=p.2)->0<=bv ps
 | [],_=>Int.le_refl 0
 | p :: ps,h=>by
  have h1:=h p List.mem_cons_self
  have h2:=cR (ps:=ps) fun q hq=>h q (List.mem_cons_of_mem _ hq)
  show 0<=p.2 + bv ps
  omega
structure NB (nums:List Pr):Prop where
 lo:∀ x,0<=tm nums x
 hi:∀ x,tm nums x<=60
 can:(nums.map (·.1)).Nodup
def kj:Sp:=fun vs H Q _=>∃ (b p:Int),vs=[.int b,.int p]/\0<=b/\b<=60/\0<=p/\p<=12/\Q (.int (b ^ p.toNat)) H
def im (K:PySem.W.Frag):Sp:=fun vs H Q _=>∃ (a d:Addr) (ps nums:List Pr),vs=[.ref a,.ref d]/\bZ K H ps a/\KOk 12 ps/\NB nums/\H d=some (.dK (dk nums))/\Q (.int (pw (tm nums) ps)) H
def iI (K:PySem.W.Frag):Sp:=fun vs H Q _=>∃ (v:V) (d:Addr) (m:List PM) (nums:List Pr),vs=[v,.ref d]/\SmR K H m v/\(∀ p∈m,KOk 12 p.1/\0<=p.2/\p.2 < 2 ^ 64)/\m.length<=80000/\NB nums/\H d=some (.dK (dk nums))/\∀ H',aq H H'->Q (.int (sw (pw (tm nums)) m)) H'
theorem p60 {b:Int} (h0:0<=b) (h1:b<=60):∀ n:Nat,0<=b ^ n/\b ^ n<=60 ^ n
 | 0=>by rw [Int.pow_zero,Int.pow_zero]; decide
 | n + 1=>by
  obtain ⟨a1,a2⟩:=p60 h0 h1 n
  rw [Int.pow_succ,Int.pow_succ]
  exact ⟨Int.mul_nonneg a1 h0,Int.mul_le_mul a2 h1 h0 (by omega)⟩
theorem q60:∀ {n m:Nat},n<=m->(60:Int) ^ n<=60 ^ m/\(1:Int)<=60 ^ m
 | n,0,h=>by rw [Nat.le_zero.mp h]; exact ⟨Int.le_refl _,by decide⟩
 | n,m + 1,h=>by
  by_cases e:n=m + 1
  ·subst e
   obtain ⟨_,h2⟩:=q60 (n:=m) (m:=m) (Nat.le_refl _)
   rw [Int.pow_succ]
   exact ⟨Int.le_refl _,by omega⟩
  ·obtain ⟨h1,h2⟩:=q60 (n:=n) (m:=m) (by omega)
   rw [Int.pow_succ]
   omega
theorem lK {g:Str->Int} (h0:∀ x,0<=g x) (h1:∀ x,g x<=60):∀ {ps:List Pr},(∀ p∈ps,0<=p.2)->0<=pw g ps/\pw g ps<=60 ^ (bv ps).toNat
 | [],_=>⟨by show (0:Int)<=1; decide,by show (1:Int)<=60 ^ 0; decide⟩
 | p :: ps,h=>by
  obtain ⟨a1,a2⟩:=lK h0 h1 (ps:=ps) fun q hq=>h q (List.mem_cons_of_mem _ hq)
  obtain ⟨b1,b2⟩:=p60 (h0 p.1) (h1 p.1) p.2.toNat
  have c1:=cR (ps:=ps) fun q hq=>h q (List.mem_cons_of_mem _ hq)
  have c2:=h p List.mem_cons_self
  refine ⟨Int.mul_nonneg b1 a1,?_⟩
  show g p.1 ^ p.2.toNat * pw g ps<=60 ^ (p.2 + bv ps).toNat
  rw [Int.toNat_add c2 c1,Int.pow_add]
  exact Int.mul_le_mul b2 a2 a1 (by have:=(q60 (n:=0) (m:=p.2.toNat) (Nat.zero_le _)).2; omega)
section
variable {k:Nat} {ix:List Nat} {te:TE} {σ:St}
theorem eN {i j:Nat} {K:PySem.W.Frag} {a:Addr} {x y:V} {ys:List V} {H:Hp} {N:List V->Hp->Prop} (ha:SqT K H a [x,y]) (h:te (((dA k ix σ).set i (some x)).set j (some y)) H fun y H4=>ys.length < sizeLine/\N (ys ++ [y]) H4) :
  gu k ix (uk K 2 (eV (dB i) (eV (dB j) oj))) uC te σ (.ref a) ys H N:=by
 refine ⟨a,_,rfl,ha,rfl,_,_,rfl,_,_,rfl,rfl,?_⟩
 exact cQ (B:=N ys H) h
end
section
variable {P:Program} {w:World} {K:PySem.W.Frag} {mg:Str->Option Value} {base:Heap}
theorem jB:aR ["base","power","total"] ["base","power"] (ai dl):=⟨rfl,rfl,rfl,by decide +kernel,rfl,by decide +kernel,by decide +kernel⟩
theorem rc {f:Addr} {fd:FuncData} (F:Fun K "to_the" "to_the" dl f fd) (T:Txt K mg):bj P w K mg base CX0 1 f fd ["base","power"] kj:=by
 have nd:(["base","power","total"]:List Str).Nodup:=jB.nd
 refine F.ok jB (fun vs H Q E h=>?_) (fun cdv A outer s H vs Q E hr h=>?_)
 ·obtain ⟨b,p,rfl,_⟩:=h
  rfl
 obtain ⟨b,p,rfl,b0,b1,p0,p1,q⟩:=h
 refine ⟨_,(@ah _ _ _ _ _ (@aT _ _ (2) _ _ _ _ nd rfl (Or.inl rfl) (@ad _ _ _ _) (by rfl) (by trivial)) (@ah _ _ _ _ _ (@rC _ _ _ _ _ _ PassesOwn.never (@aG _ _ _ _ _ _ _ _ mK (@pv _ 1 _ _ (by rfl) (by trivial) (by decide) (by decide)) (@ad _ _ _ _) (aM _)) (@ah _ _ _ _ _ (@bi _ _ _ _ _ _ _ _ (@aG _ _ _ _ _ _ _ _ bK (@aQ _ _ _ _ _ _ _ _ fq (@pv _ 1 _ _ (by rfl) (by trivial) (by decide) (by decide)) (@ad _ _ _ _)) (@ad _ _ _ _) (aM _)) (@aj _ _ _ (@aT _ _ (2) _ _ _ _ nd rfl (Or.inl rfl) (@aQ _ _ _ _ _ _ _ _ ck (@pv _ 2 _ _ (by rfl) (by trivial) (by decide) (by decide)) (@pv _ 0 _ _ (by rfl) (by trivial) (by decide) (by decide))) (by rfl) (by trivial))) (@aN _)) (@ah _ _ _ _ _ (@aT _ _ (0) _ _ _ _ nd rfl (Or.inl rfl) (@aQ _ _ _ _ _ _ _ _ ck (@pv _ 0 _ _ (by rfl) (by trivial) (by decide) (by decide)) (@pv _ 0 _ _ (by rfl) (by trivial) (by decide) (by decide))) (by rfl) (by trivial)) (@aj _ _ _ (@aT _ _ (1) _ _ _ _ nd rfl (Or.inl rfl) (@aQ _ _ _ _ _ _ _ _ uI (@pv _ 1 _ _ (by rfl) (by trivial) (by decide) (by decide)) (@ad _ _ _ _)) (by rfl) (by trivial)))))) (@aj _ _ _ (@aA _ _ _ _ (@pv _ 2 _ _ (by rfl) (by trivial) (by decide) (by decide)))))),?_⟩
 refine uT (fun m σ H'=>H'=H/\∃ (e t u:Nat),σ=[some (.int (b ^ e)),some (.int u),some (.int (b ^ t))]/\t + e * u=p.toNat/\m=u/\(e=1\/e=2\/e=4\/e=8\/e=16)) p.toNat
  ⟨rfl,1,0,p.toNat,by rw [Int.toNat_of_nonneg p0,Int.pow_succ,Int.pow_zero,Int.one_mul]; rfl,by omega,rfl,.inl rfl⟩ ?_ ?_
 ·rintro m σ H1 ⟨rfl,e,t,u,rfl,ht,hm,e1⟩
  refine ⟨_,rfl,_,_,rfl,rfl,_,rfl,?_⟩
  by_cases h:0 < u
  ·rw [show decide ((0:Int) < (u:Int))=true from decide_eq_true (by omega)]
   refine cQ ?_
   have ee:e * 1<=e * u:=Nat.mul_le_mul_left _ h
   have e8:e<=8:=by omega
   have be:0<=b ^ e/\b ^ e < 2 ^ 64:=by
    obtain ⟨h0,h1⟩:=p60 b0 b1 e
    have h2:=(q60 e8).1
    have h3:(60:Int) ^ 8 < 2 ^ 64:=by decide
    exact ⟨h0,by omega⟩
   have mu:=Nat.mod_two_eq_zero_or_one u
   have du:=Nat.div_add_mod u 2
   have m2:e * u=e * 2 * (u / 2) + e * (u % 2):=by rw [Nat.mul_assoc,<- Nat.mul_add,du]
   have cu:((u:Int) % 2)=((u % 2:Nat):Int):=by omega
   have cd:((u:Int) / 2)=((u / 2:Nat):Int):=by omega
   have bb:b ^ e * b ^ e=b ^ (e * 2):=by rw [<- Int.pow_add]; congr 1; omega
   refine pK (fun σ H'=>H'=H1/\∃ t',σ=[some (.int (b ^ e)),some (.int u),some (.int (b ^ t'))]/\t' + e * 2 * (u / 2)=p.toNat) ?_ (fun N hN=>?_)
   ·rintro σ H2 ⟨rfl,t',rfl,ht'⟩
    refine ⟨_,rfl,_,rfl,_,_,rfl,rfl,.inl ⟨by omega,be.2⟩,?_⟩
    refine ⟨_,rfl,_,_,rfl,rfl,⟨by decide,by decide⟩,?_⟩
    refine ⟨u / 2,by omega,rfl,e * 2,t',u / 2,?_,ht',rfl,by omega⟩
    rw [<- bb,<- cd]; rfl
   ·refine ⟨_,rfl,_,_,rfl,rfl,mp (by decide),rfl,_,rfl,aW (fun h1=>?_) (fun h1=>?_)⟩
    ·have h1':=eqI h1
     rw [cu] at h1'
     have u1:u % 2=1:=by omega
     refine ⟨_,rfl,_,rfl,_,_,rfl,rfl,.inr ⟨by omega,be.2⟩,hN _ _ ⟨rfl,t + e,?_,by rw [u1] at m2; omega⟩⟩
     rw [Int.pow_add]; rfl
    ·have u0:u % 2=0:=by
      rcases mu with h | h
      ·exact h
      ·exact absurd (decide_eq_true (by show V.int ((u:Int) % 2)=V.int 1; rw [cu,h]; rfl)) h1
     exact tnx (hN _ _ ⟨rfl,t,rfl,by rw [u0] at m2; omega⟩)
  ·rw [show decide ((0:Int) < (u:Int))=false from decide_eq_false (by omega)]
   refine cF ⟨_,rfl,?_⟩
   have:u=0:=by omega
   subst this
   rw [show t=p.toNat by omega]
   exact q
 ·rintro σ H1 Q1 Q2 h ⟨x,hx,y,z,e1,e2,b',eb,h'⟩
  exact ⟨x,hx,y,z,e1,e2,b',eb,h _ _ h'⟩
theorem dh:aR ["powers","numbers","total","name","power"] ["powers","numbers"] (ai bp):=⟨rfl,rfl,rfl,by decide +kernel,rfl,by decide +kernel,by decide +kernel⟩
theorem gD {f:Addr} {fd:FuncData} {k0:Nat} (F:Fun K "product_worth" "product_worth" bp f fd) (T:Txt K mg) (Dto_the:Def P w K mg base k0 "to_the" ["base","power"] kj):bj P w K mg base CX0 (k0 + 1) f fd ["powers","numbers"] (im K):=by
 have nd:(["powers","numbers","total","name","power"]:List Str).Nodup:=dh.nd
 refine F.ok dh (fun vs H Q E h=>?_) (fun cdv A outer s H vs Q E hr h=>?_)
 ·obtain ⟨a,d,ps,nums,rfl,_⟩:=h
  rfl
 obtain ⟨a,d,ps,nums,rfl,kr,ko,hn,hd,q⟩:=h
 have hu:=iS hr
 obtain ⟨us,ta,ru⟩:=bZ.tup kr
 have lus:us.length=ps.length:=by have:=ru.length; rwa [aB,List.length_map] at this
 refine ⟨_,(@ah _ _ _ _ _ (@aT _ _ (2) _ _ _ _ nd rfl (Or.inl rfl) (@ad _ _ _ _) (by rfl) (by trivial)) (@ah _ _ _ _ _ (@bW _ _ _ _ _ _ _ _ PassesOwn.never rfl (@bQ _ _ _ _ (@pv _ 0 _ _ (by rfl) (by trivial) (by decide) (by decide))) (@bD _ _ _ _ _ _ rfl (@av _ _ _ _ _ (@au _ _ (3) _ nd rfl (Or.inl rfl) (by trivial)) (@av _ _ _ _ _ (@au _ _ (4) _ nd rfl (Or.inl rfl) (by trivial)) (@bo _) (by rfl)) (by rfl)) (by rfl) (by rfl)) (@aj _ _ _ (@aT _ _ (2) _ _ _ _ nd rfl (Or.inl rfl) (@aQ _ _ _ _ _ _ _ _ ck (@pv _ 2 _ _ (by rfl) (by trivial) (by decide) (by decide)) (@ao _ _ _ _ _ _ _ _ _ _ Dto_the hr rfl (@aa _ _ _ _ _ (@fD _ _ _ _ _ _ _ _ _ hu (@pv _ 1 _ _ (by rfl) (by trivial) (by decide) (by decide)) (@pv _ 3 _ _ (by rfl) (by trivial) (by decide) (by decide)) (@ad _ _ _ _) ⟨rfl,rfl,rfl,rfl⟩) (@aa _ _ _ _ _ (@pv _ 4 _ _ (by rfl) (by trivial) (by decide) (by decide)) (@ae _) (by rfl)) (by rfl)) (by decide) (by rfl) (by rfl))) (by rfl) (by trivial))) (by intro _; rfl)) (@aj _ _ _ (@aA _ _ _ _ (@pv _ 2 _ _ (by rfl) (by trivial) (by decide) (by decide)))))),?_⟩
 refine ⟨_,rfl,a,rfl,⟨us,ta.sq⟩,cV (xs:=us) (fun i σ H'=>H'=H/\∃ (o3 o4:Option V),σ=[some (.ref a),some (.ref d),some (.int (pw (tm nums) (ps.take i))),o3,o4]) ⟨rfl,_,_,rfl⟩ (fun i σ H' _ p=>by rw [p.1]; exact ta.sq) ?_ ?_⟩
 ·rintro i x σ H1 hx ⟨rfl,o3,o4,rfl⟩
  obtain ⟨p,b,hp,rfl,hb⟩:=dN ru hx
  have tk:ps.take (i + 1)=ps.take i ++ [p]:=by rw [List.take_add_one,hp]; rfl
  have pp:=ko.pos p (List.mem_of_getElem? hp)
  have pt:∀ x∈ps.take i,0<=x.2:=fun x hx=>ko.pos x (List.mem_of_mem_take hx)
  have sp:bv (ps.take i) + p.2<=12:=by
   have h1:bv ps=bv (ps.take (i + 1)) + bv (ps.drop (i + 1)):=by rw [<- cW,List.take_append_drop]
   have h2:=cR (ps:=ps.drop (i + 1)) fun x hx=>ko.pos x (List.mem_of_mem_drop hx)
   rw [tk,cW] at h1
   have h3:=ko.sum
   have h4:bv [p]=p.2 + 0:=rfl
   omega
  have s0:=cR pt
  obtain ⟨b1,b2⟩:=lK hn.lo hn.hi pt
  obtain ⟨c1,c2⟩:=p60 (hn.lo p.1) (hn.hi p.1) p.2.toNat
  have big:(60:Int) ^ 6 < 2 ^ 64:=by decide
  refine ⟨b,_,rfl,SqT.of hb,rfl,_,_,rfl,_,_,rfl,rfl,?_⟩
  refine ⟨_,rfl,_,rfl,d,rfl,.inl ⟨_,.inl hd⟩,_,rfl,_,nu.k (k:=Sum.inr p.1) hd,_,rfl,tm nums p.1,p.2,by rw [nq]; rfl,hn.lo _,hn.hi _,pp,by omega,_,_,rfl,rfl,?_,rfl,some (.str p.1),some (.int p.2),?_⟩
  ·by_cases c:(bv (ps.take i)).toNat<=6
   ·have:=(q60 c).1; exact .inl ⟨by omega,by omega⟩
   ·have:=(q60 (n:=p.2.toNat) (m:=6) (by omega)).1; exact .inr ⟨by omega,by omega⟩
  ·rw [tk,gL]
   show _=[_,_,some (V.int (pw (tm nums) (ps.take i) * (tm nums p.1 ^ p.2.toNat * 1))),_,_]
   rw [Int.mul_one]; rfl
 ·rintro σ H1 ⟨rfl,o3,o4,rfl⟩
  rw [lus,List.take_length]
  exact ⟨_,rfl,q⟩
theorem lh:aR ["s","numbers"] ["s","numbers"] (ai bS):=⟨rfl,rfl,rfl,by decide +kernel,rfl,by decide +kernel,by decide +kernel⟩
theorem lF {f:Addr} {fd:FuncData} {k0:Nat} (F:Fun K "sum_worth" "sum_worth" bS f fd) (T:Txt K mg) (Dproduct_worth:Def P w K mg base k0 "product_worth" ["powers","numbers"] (im K)):bj P w K mg base CX0 (k0 + 1) f fd ["s","numbers"] (iI K):=by
 refine F.ok lh (fun vs H Q E h=>?_) (fun cdv A outer s H vs Q E hr h=>?_)
 ·obtain ⟨v,d,m,nums,rfl,_⟩:=h
  rfl
 obtain ⟨v,d,m,nums,rfl,⟨a,us,rfl,ta,R⟩,km,lm,hn,hd,q⟩:=h
 have lu:=bn R
 refine ⟨_,(@aj _ _ _ (@aA _ _ _ _ (@aK _ _ _ _ _ _ _ _ _ (gz rfl) rfl T.sum (by decide +kernel) (@aa _ _ _ _ _ (@iM _ _ (["powers","times"]) ([1]) _ _ _ _ _ _ _ _ _ (@bQ _ _ _ _ (@pv _ 0 _ _ (by rfl) (by trivial) (by decide) (by decide))) (.of rfl) rfl (fun _ _ _=>bD rfl (@av _ _ _ _ _ (@au _ _ (0) _ (cN (l:=["powers","times","numbers"]) ((by decide +kernel)) rfl) rfl (Or.inl rfl) (by trivial)) (@av _ _ _ _ _ (@au _ _ (1) _ (cN (l:=["powers","times","numbers"]) ((by decide +kernel)) rfl) rfl (Or.inl rfl) (by trivial)) (@bo _) (by rfl)) (by rfl))) (gA (by decide) (by decide)) (fun _ _ _=>(@cG _)) (fun _ _ _=>(@aQ _ _ _ _ _ _ _ _ ck (@pv _ 1 _ _ (by rfl) (by trivial) (by decide) (by decide)) (@ao _ _ _ _ _ _ _ _ _ _ Dproduct_worth hr rfl (@aa _ _ _ _ _ (@pv _ 0 _ _ (by rfl) (by trivial) (by decide) (by decide)) (@aa _ _ _ _ _ (@pv _ 2 _ _ (by rfl) (by trivial) (by decide) (by decide)) (@ae _) (by rfl)) (by rfl)) (by decide) (by rfl) (by rfl)))) (by intro _; rfl)) (@ae _) (by rfl)) (by decide) (by decide) (by rfl) (by rfl)))),?_⟩
 refine ⟨_,rfl,a,rfl,⟨us,ta.sq⟩,?_⟩
 refine fg (xs:=us) (fun i ys H'=>H'=H/\ys=((m.take i).map fun p=>p.2 * pw (tm nums) p.1).map V.int) ⟨rfl,rfl⟩ (fun i ys H' _ p=>by rw [p.1]; exact ta.sq) ?_ ?_
 ·rintro i ys H1 x hx ⟨rfl,rfl⟩
  obtain ⟨p,hp,c,b,rfl,tc,kr⟩:=bP R hx
  have hi:i < us.length:=(List.getElem?_eq_some_iff.mp hx).1
  obtain ⟨k12,k13,k14⟩:=km p (List.mem_of_getElem? hp)
  refine eN tc.sq ⟨_,rfl,_,rfl,_,rfl,b,d,p.1,nums,rfl,kr,k12,hn,hd,_,_,rfl,rfl,.inl ⟨by omega,k14⟩,?_,rfl,?_⟩
  ·simp only [List.length_map,List.length_take,sizeLine_eq]; omega
  ·rw [List.take_add_one,hp,List.map_append,List.map_append]; rfl
 ·rintro ys H1 ⟨rfl,rfl⟩ l hl
  rw [<- lu,List.take_length]
  refine ⟨l,_,rfl,SqL.of af,?_⟩
  have e:∀ m:List PM,(m.map fun p=>p.2 * pw (tm nums) p.1).sum=sw (pw (tm nums)) m:=fun m=>by
   induction m with
   | nil=>rfl
   | cons p m ih=>rw [List.map_cons,List.sum_cons,ih]; rfl
  rw [e]
  exact q _ (ak hl _)
end
structure KY (xs:List Str) (n:Nat) (k:List Pr):Prop where
 can:cX k
 nm:∀ p∈k,p.1∈xs
 sum:bv k<=n
theorem KY.up {xs:List Str} {m n:Nat} {k:List Pr} (h:KY xs m k) (l:m<=n):KY xs n k:=⟨h.can,h.nm,by have:=h.sum; omega⟩
theorem KY.mul {xs:List Str} {m n:Nat} {k l:List Pr} (a:KY xs m k) (b:KY xs n l):KY xs (m + n) (nf (k ++ l)):=by
 have ge:∀ p∈k ++ l,1<=p.2:=fun p hp=>(List.mem_append.mp hp).elim (a.can.ge p) (b.can.ge p)
 obtain ⟨c,t,_,s,_⟩:=vL (fun _=>0) ge
 refine ⟨c,fun p hp=>?_,by rw [s,cW]; have:=a.sum; have:=b.sum; omega⟩
 have e:=lD (cr c.pw) hp
 have g:=c.ge p hp
 rw [t,gS,kZ (cr a.can.pw),kZ (cr b.can.pw)] at e
 by_cases z:tm k p.1=0
 ·obtain ⟨q,hq,e2⟩:=iT (ps:=l) (x:=p.1) (by omega)
  rw [<- e2]; exact b.nm q hq
 ·obtain ⟨q,hq,e2⟩:=iT z
  rw [<- e2]; exact a.nm q hq
theorem iY:∀ {k:List Pr},(∀ p∈k,1<=p.2)->(k.length:Int)<=bv k
 | [],_=>Int.le_refl 0
 | p :: k,h=>by
  have h1:=iY (k:=k) fun q hq=>h q (List.mem_cons_of_mem _ hq)
  have h2:=h p List.mem_cons_self
  show ((k.length + 1:Nat):Int)<=p.2 + bv k
  omega
theorem KY.len {xs:List Str} {n:Nat} {k:List Pr} (h:KY xs n k):k.length<=n:=by
 have h1:=iY h.can.ge
 have h2:=h.sum
 omega
noncomputable def ind (R:List Pr->Prop) (k:List Pr):Int:=open Classical in if R k then 0 else 1
theorem qS {R:List Pr->Prop} {k:List Pr} (h:R k):ind R k=0:=if_pos h
theorem hJ {R:List Pr->Prop}:∀ {m:List PM},(∀ p∈m,1<=p.2)->0<=sw (ind R) m/\(sw (ind R) m=0->∀ p∈m,R p.1)
 | [],_=>⟨Int.le_refl 0,fun _ _ h=>nomatch h⟩
 | q :: m,h=>by
  obtain ⟨h1,h2⟩:=hJ (R:=R) (m:=m) fun p hp=>h p (List.mem_cons_of_mem _ hp)
  have h0:=h q List.mem_cons_self
  show 0<=q.2 * ind R q.1 + sw (ind R) m/\(q.2 * ind R q.1 + sw (ind R) m=0->_)
  by_cases z:R q.1
  ·rw [qS z,Int.mul_zero]
   refine ⟨by omega,fun e p hp=>?_⟩
   rcases List.mem_cons.mp hp with rfl | hp
   ·exact z
   ·exact h2 (by omega) p hp
  ·rw [show ind R q.1=1 from if_neg z,Int.mul_one]
   exact ⟨by omega,fun e=>by omega⟩
theorem qx {xs:List Str} {i j:Nat} {m m1 m2:List PM} (h:∀ p∈m,1<=p.2) (e:∀ g,sw g m=sw (fun a=>sw (fun b=>g (nf (a ++ b))) m2) m1) (h1:∀ p∈m1,KY xs i p.1) (h2:∀ p∈m2,KY xs j p.1):∀ p∈m,KY xs (i + j) p.1:=by
 refine (hJ (R:=KY xs (i + j)) h).2 ?_
 rw [e,fh (h:=fun _=>0) fun p hp=>?_,fQ]
 rw [fh (g:=fun b=>ind (KY xs (i + j)) (nf (p.1 ++ b))) (h:=fun _=>0) fun r hr=>qS ((h1 p hp).mul (h2 r hr)),fQ]
theorem sC {xs:List Str} {n:Nat} {m m1 m2:List PM} (h:∀ p∈m,1<=p.2) (e:∀ g,sw g m=sw g m1 + sw g m2) (h1:∀ p∈m1,KY xs n p.1) (h2:∀ p∈m2,KY xs n p.1):∀ p∈m,KY xs n p.1:=by
 refine (hJ (R:=KY xs n) h).2 ?_
 rw [e,fh (h:=fun _=>0) fun p hp=>qS (h1 p hp),fQ,fh (h:=fun _=>0) fun p hp=>qS (h2 p hp),fQ]; rfl
theorem jv {g:List Pr->Int} {c:Int} (h0:g []=0):∀ {ps:List Pr},(∀ p∈ps,g [(p.1,1)]=0)->je g c ps=0
 | [],_=>by show c * g []=0; rw [h0,Int.mul_zero]
 | p :: ps,h=>by
  show p.2 * g [(p.1,1)] + je g c ps=0
  rw [h p List.mem_cons_self,jv h0 fun q hq=>h q (List.mem_cons_of_mem _ hq),Int.mul_zero]; rfl
theorem sj {xs:List Str} {m:List PM} {c:Int} {ps:List Pr} (h:∀ p∈m,1<=p.2) (e:∀ g,sw g m=je g c ps) (hp:∀ p∈ps,p.1∈xs):∀ p∈m,KY xs 1 p.1:=by
 refine (hJ (R:=KY xs 1) h).2 ?_
 rw [e]
 refine jv (qS ⟨⟨.nil,by simp⟩,by simp,by show (0:Int)<=1; decide⟩) fun p hq=>qS ⟨⟨List.pairwise_singleton _ _,fun r hr=>by rw [List.mem_singleton.mp hr]; exact Int.le_refl 1⟩,fun r hr=>by rw [List.mem_singleton.mp hr]; exact hp p hq,by show (1:Int) + 0<=1; decide⟩
def vec:Nat->Nat->List (List Nat)
 | 0,_=>[[]]
 | n + 1,B=>(List.range (B + 1)).flatMap fun i=>(vec n (B - i)).map (i :: ·)
theorem pG:∀ (l:List Nat) (B:Nat),l.sum<=B->l∈vec l.length B
 | [],_,_=>List.mem_singleton.mpr rfl
 | x :: l,B,h=>by
  rw [List.sum_cons] at h
  exact List.mem_flatMap.mpr ⟨x,List.mem_range.mpr (by omega),List.mem_map.mpr ⟨l,pG l (B - x) (by omega),rfl⟩⟩
theorem vv:∀ n,n<=4->(vec n 12).length<=1820:=by
 intro n h
 have:n=0\/n=1\/n=2\/n=3\/n=4:=by omega
 rcases this with rfl | rfl | rfl | rfl | rfl <;> decide +kernel
theorem nC {f:Str->Nat} {x:Str} {c:Nat}:∀ {ys:List Str},ys.Nodup->(ys.map fun y=>if x=y then c else f y).sum<=c + (ys.map f).sum
 | [],_=>Nat.zero_le _
 | y :: ys,nd=>by
  obtain ⟨h1,h2⟩:=List.nodup_cons.mp nd
  rw [List.map_cons,List.map_cons,List.sum_cons,List.sum_cons]
  by_cases e:x=y
  ·subst e
   have:ys.map (fun y=>if x=y then c else f y)=ys.map f:=List.map_congr_left fun z hz=>if_neg fun e=>h1 (by rw [e]; exact hz)
   rw [if_pos rfl,this]; omega
  ·rw [if_neg e]
   have:=nC (f:=f) (x:=x) (c:=c) h2
   omega
def toV (ys:List Str) (k:List Pr):List Nat:=ys.map fun x=>(tm k x).toNat
theorem pX {ys:List Str} (nd:ys.Nodup):∀ {k:List Pr},(∀ p∈k,1<=p.2)->(toV ys k).sum<=(bv k).toNat
 | [],_=>by
  have:∀ ys:List Str,(toV ys []).sum=0:=fun ys=>by
   induction ys with
   | nil=>rfl
   | cons y ys ih=>show 0 + (toV ys []).sum=0; rw [ih]
  rw [this]; exact Nat.zero_le _
 | p :: k,h=>by
  have hk:∀ q∈k,1<=q.2:=fun q hq=>h q (List.mem_cons_of_mem _ hq)
  have ih:=pX nd hk
  have h1:=h p List.mem_cons_self
  have h2:=iY hk
  have e:toV ys (p :: k)=ys.map fun y=>if p.1=y then p.2.toNat else (tm k y).toNat:=List.map_congr_left fun y _=>by
   show (if p.1=y then p.2 else tm k y).toNat=_
   split <;> rfl
  have:=nC (f:=fun y=>(tm k y).toNat) (x:=p.1) (c:=p.2.toNat) nd
  rw [e]
  show _<=(p.2 + bv k).toNat
  unfold toV at ih
  omega
theorem sQ {xs:List Str} (hx:xs.length<=4) {ks:List (List Pr)} (nd:ks.Nodup) (h:∀ k∈ks,KY xs 12 k):ks.length<=1820:=by
 have hm:=oH (fun i=>xs.getD i default)
 have ndy:=gf (fun i=>xs.getD i default) xs.length
 have ly:=kK (fun i=>xs.getD i default) xs.length
 have sub:∀ x∈xs,x∈uq (fun i=>xs.getD i default) xs.length:=fun x hx=>by
  obtain ⟨j,hj,rfl⟩:=List.getElem_of_mem hx
  exact (hm _ _).mpr ⟨j,hj,by simp [List.getD,hj]⟩
 generalize uq (fun i=>xs.getD i default) xs.length=ys at ndy ly sub
 have inj:∀ k∈ks,∀ l∈ks,toV ys k=toV ys l->k=l:=fun k hk l hl e=>by
  refine gM (h k hk).can (h l hl).can fun x=>?_
  have z:∀ {k:List Pr},KY xs 12 k->x∉ys->tm k x=0:=fun hk hx=>Classical.byContradiction fun n=>by
   obtain ⟨q,hq,e⟩:=iT n
   exact hx (by rw [<- e]; exact sub _ (hk.nm q hq))
  by_cases hx:x∈ys
  ·have e2:(tm k x).toNat=(tm l x).toNat:=List.map_inj_left.mp e x hx
   have a1:=eS (fun q hq=>Int.le_trans (by decide) ((h k hk).can.ge q hq)) x
   have a2:=eS (fun q hq=>Int.le_trans (by decide) ((h l hl).can.ge q hq)) x
   omega
  ·rw [z (h k hk) hx,z (h l hl) hx]
 have ndv:(ks.map (toV ys)).Nodup:=by
  refine List.pairwise_map.mpr (List.Pairwise.imp_of_mem (fun {k l} hk hl ne e=>ne (inj k hk l hl e)) nd)
 have:=ST.nd_le (B:=vec ys.length 12) ndv fun v hv=>by
  obtain ⟨k,hk,rfl⟩:=List.mem_map.mp hv
  have e:ys.length=(toV ys k).length:=(List.length_map _).symm
  rw [e]
  have h1:=pX ndy (h k hk).can.ge
  have h2:=(h k hk).sum
  exact pG _ _ (by omega)
 rw [List.length_map] at this
 exact Nat.le_trans this (vv _ (by omega))
theorem mD {m:List PM} (u:Up m):(m.map (·.1)).Nodup:=List.pairwise_map.mpr (u.imp fun h e=>by rw [e,dM] at h; cases h)
theorem oT (g:Str->Int) (c:Int):∀ ps,je (pw g) c ps=c + W g ps
 | []=>by show c * 1=c + 0; omega
 | p :: ps=>by
  have:=oT g c ps
  show p.2 * (g p.1 ^ (1:Int).toNat * 1) + je (pw g) c ps=c + (p.2 * g p.1 + W g ps)
  rw [this,show (1:Int).toNat=1 from rfl,Int.pow_succ,Int.pow_zero,Int.one_mul,Int.mul_one]
  omega
theorem wB (g:Str->Int) {xs:List Str} {i j:Nat} {m1 m2:List PM} (h1:∀ p∈m1,KY xs i p.1) (h2:∀ p∈m2,KY xs j p.1):sw (fun a=>sw (fun b=>pw g (nf (a ++ b))) m2) m1=sw (pw g) m1 * sw (pw g) m2:=by
 rw [fh (h:=fun a=>sw (pw g) m2 * pw g a) fun p hp=>?_,iJ,Int.mul_comm]
 rw [fh (h:=fun b=>pw g p.1 * pw g b) fun r hr=>?_,iJ,Int.mul_comm]
 rw [(vL g fun q hq=>(List.mem_append.mp hq).elim ((h1 p hp).can.ge q) ((h2 r hr).can.ge q)).2.2.1,gL]
def ev (g:Str->Int):Kd->Int
 | .whole=>1
 | .place _ _=>1
 | .row c ps k=>(c + W g ps) * ev g k
 | .pair i j=>ev g i + ev g j
theorem tG:∀ ps,pw (fun _=>1) ps=1
 | []=>rfl
 | p :: ps=>by show 1 ^ p.2.toNat * pw (fun _=>1) ps=1; rw [tG ps,Int.one_pow]; rfl
theorem jR:∀ {m:List PM},(∀ p∈m,1<=p.2)->(m.length:Int)<=sw (pw fun _=>1) m/\∀ p∈m,p.2<=sw (pw fun _=>1) m
 | [],_=>⟨Int.le_refl 0,by simp⟩
 | q :: m,h=>by
  obtain ⟨h1,h2⟩:=jR (m:=m) fun p hp=>h p (List.mem_cons_of_mem _ hp)
  have h0:=h q List.mem_cons_self
  have e:sw (pw fun _=>1) (q :: m)=q.2 + sw (pw fun _=>1) m:=by show q.2 * pw (fun _=>1) q.1 + _=_; rw [tG,Int.mul_one]
  rw [e,List.length_cons]
  refine ⟨by omega,fun p hp=>?_⟩
  rcases List.mem_cons.mp hp with rfl | hp
  ·omega
  ·have:=h2 p hp; omega
theorem vR:∀ {ps:List Pr},(∀ p∈ps,1<=p.2/\p.2<=3)->0<=W (fun _=>1) ps/\W (fun _=>1) ps<=3 * (ps.length:Int)
 | [],_=>⟨Int.le_refl 0,Int.le_refl 0⟩
 | p :: ps,h=>by
  obtain ⟨h1,h2⟩:=vR (ps:=ps) fun q hq=>h q (List.mem_cons_of_mem _ hq)
  have h0:=h p List.mem_cons_self
  show 0<=p.2 * 1 + W (fun _=>1) ps/\p.2 * 1 + W (fun _=>1) ps<=3 * ((ps.length + 1:Nat):Int)
  omega
theorem sf {xs:List Str} {m c:Int} {ps:List Pr} (h:Ln xs m c ps):ps.length<=xs.length:=by
 have:=ST.nd_le (l:=ps.map (·.1)) (B:=xs) (cr h.can.pw) fun x hx=>by
  obtain ⟨p,hp,rfl⟩:=List.mem_map.mp hx
  exact (h.nm p hp).1
 rwa [List.length_map] at this
theorem oY {xs:List Str} (hx:xs.length<=4) {c:Int} {ps:List Pr} (h:Ln xs 3 c ps):0<=c + W (fun _=>1) ps/\c + W (fun _=>1) ps<=15:=by
 obtain ⟨w1,w2⟩:=vR fun p hp=>⟨h.can.ge p hp,(h.nm p hp).2⟩
 have c0:=h.c0
 have c1:=h.cB
 have l3:=sf h
 omega
theorem p15 {a:Nat}:∀ {b:Nat},a<=b->(15:Int) ^ a<=15 ^ b/\(0:Int)<=15 ^ b
 | 0,h=>by rw [Nat.le_zero.mp h]; exact ⟨Int.le_refl _,by decide⟩
 | b + 1,h=>by
  by_cases e:a=b + 1
  ·subst e
   have:∀ n:Nat,(0:Int)<=15 ^ n:=fun n=>by induction n with
    | zero=>decide
    | succ n ih=>rw [Int.pow_succ]; omega
   exact ⟨Int.le_refl _,this _⟩
  ·obtain ⟨h1,h2⟩:=p15 (a:=a) (b:=b) (by omega)
   rw [Int.pow_succ]
   omega
theorem jU {xs:List Str} (hx:xs.length<=4):∀ {k:Kd},k.All (Ln xs 3)->0<=ev (fun _=>1) k/\ev (fun _=>1) k<=15 ^ k.size
 | .whole,_=>⟨by show (0:Int)<=1; decide,by show (1:Int)<=15 ^ 1; decide⟩
 | .place _ _,_=>⟨by show (0:Int)<=1; decide,by show (1:Int)<=15 ^ 1; decide⟩
 | .row c ps k,h=>by
  obtain ⟨h1,h2⟩:=jU hx h.2
  obtain ⟨w1,w2⟩:=oY hx h.1
  refine ⟨Int.mul_nonneg (by omega) h1,?_⟩
  show (c + W (fun _=>1) ps) * ev (fun _=>1) k<=15 ^ (k.size + 1)
  rw [Int.pow_succ,Int.mul_comm]
  exact Int.mul_le_mul h2 (by omega) (by omega) (by omega)
 | .pair i j,h=>by
  obtain ⟨h1,h2⟩:=jU hx h.1
  obtain ⟨h3,h4⟩:=jU hx h.2
  refine ⟨by show 0<=ev (fun _=>1) i + ev (fun _=>1) j; omega,?_⟩
  show ev (fun _=>1) i + ev (fun _=>1) j<=15 ^ (i.size + j.size + 1)
  have a1:(15:Int) ^ i.size<=15 ^ (i.size + j.size):=(p15 (by omega)).1
  have a2:(15:Int) ^ j.size<=15 ^ (i.size + j.size):=(p15 (by omega)).1
  have a3:(15:Int) ^ (i.size + j.size + 1)=15 ^ (i.size + j.size) * 15:=Int.pow_succ ..
  omega
structure Wg (xs:List Str) (k:Kd) (m:List PM):Prop where
 up:Up m
 ge:∀ p∈m,1<=p.2
 lt:∀ p∈m,p.2 < 2 ^ 64
 ky:∀ p∈m,KY xs k.size p.1
 few:m.length<=1820
 ev:∀ g,sw (pw g) m=ev g k
theorem rM {xs:List Str} (hx:xs.length<=4) {k:Kd} {m:List PM} (hk:k.All (Ln xs 3)) (k12:k.size<=12) (u:Up m) (ge:∀ p∈m,1<=p.2) (ky:∀ p∈m,KY xs k.size p.1) (e:∀ g,sw (pw g) m=K16.ev g k):Wg xs k m:=by
 refine ⟨u,ge,fun p hp=>?_,ky,?_,e⟩
 ·have h1:=(jR ge).2 p hp
  rw [e] at h1
  have h2:=(jU hx hk).2
  have h3:=(p15 (a:=k.size) (b:=12) k12).1
  have h4:(15:Int) ^ 12 < 2 ^ 64:=by decide
  omega
 ·have:=sQ hx (mD u) fun k' hk'=>by
   obtain ⟨p,hp,rfl⟩:=List.mem_map.mp hk'
   exact (ky p hp).up k12
  rwa [List.length_map] at this
theorem Wg.pok {xs:List Str} {k:Kd} {m:List PM} (h:Wg xs k m) (k12:k.size<=12):∀ p∈m,POk p:=fun p hp=>⟨h.ge p hp,by have:=h.lt p hp; omega,by have:=(h.ky p hp).len; omega,(h.ky p hp).can.ge⟩
abbrev dz:Stmt:=top 9
def eB (K:PySem.W.Frag) (n:Nat):Sp:=fun vs H Q _=>∃ (v:V) (k:Kd) (xs:List Str),vs=[v]/\Rep H k.dv v/\k.size<=n/\k.size<=12/\k.All (Ln xs 3)/\xs.length<=4 /\
 ∀ (H':Hp) (u:V) (m:List PM),aq H H'->SmR K H' m u->Wg xs k m->Q u H'
section
variable {P:Program} {w:World} {K:PySem.W.Frag} {mg:Str->Option Value} {base:Heap}
theorem qX:aR ["kind"] ["kind"] (ai dz):=⟨rfl,rfl,rfl,by decide +kernel,rfl,by decide +kernel,by decide +kernel⟩
theorem qL {f aONE:Addr} {fd:FuncData} {k0 n:Nat} (F:Fun K "weight" "weight" dz f fd) (T:Txt K mg) (GONE:mg "ONE"=some (.ref aONE)) (hONE:∀ H,SmR K H [([],1)] (.ref aONE)) (Dof_length:Def P w K mg base k0 "of_length" ["a"] (kP K)) (Dtogether:Def P w K mg base k0 "together" ["s","t"] (rZ K)) (Dproduct:Def P w K mg base k0 "product" ["s","t"] (og K)) (Dweight:Def P w K mg base k0 "weight" ["kind"] (eB K n)):bj P w K mg base CX0 (k0 + 1) f fd ["kind"] (eB K (n + 1)):=by
 refine F.ok qX (fun vs H Q E h=>?_) (fun cdv A outer s H vs Q E hr h=>?_)
 ·obtain ⟨v,k,xs,rfl,_⟩:=h
  rfl
 obtain ⟨v,k,xs,rfl,R,kn,k12,kg,hx,q⟩:=h
 obtain ⟨b,vs,rfl,hb,hv⟩:=Kd.inv R
 refine ⟨_,(@ah _ _ _ _ _ (@bi _ _ _ _ _ _ _ _ (@aG _ _ _ _ _ _ _ _ bK (@aE _ _ _ _ _ _ _ aD (@pv _ 0 _ _ (by rfl) (by trivial) (by decide) (by decide)) (@ad _ _ _ _) (fun _ _=>rfl)) (@bq _ _ _ _) (aM _)) (@aj _ _ _ (@aA _ _ _ _ (@ao _ _ _ _ _ _ _ _ _ _ Dproduct hr rfl (@aa _ _ _ _ _ (@ao _ _ _ _ _ _ _ _ _ _ Dof_length hr rfl (@aa _ _ _ _ _ (@aE _ _ _ _ _ _ _ aD (@pv _ 0 _ _ (by rfl) (by trivial) (by decide) (by decide)) (@ad _ _ _ _) (fun _ _=>rfl)) (@ae _) (by rfl)) (by decide) (by rfl) (by rfl)) (@aa _ _ _ _ _ (@ao _ _ _ _ _ _ _ _ _ _ Dweight hr rfl (@aa _ _ _ _ _ (@aE _ _ _ _ _ _ _ aD (@pv _ 0 _ _ (by rfl) (by trivial) (by decide) (by decide)) (@ad _ _ _ _) (fun _ _=>rfl)) (@ae _) (by rfl)) (by decide) (by rfl) (by rfl)) (@ae _) (by rfl)) (by rfl)) (by decide) (by rfl) (by rfl)))) (@aN _)) (@ah _ _ _ _ _ (@bi _ _ _ _ _ _ _ _ (@aG _ _ _ _ _ _ _ _ bK (@aE _ _ _ _ _ _ _ aD (@pv _ 0 _ _ (by rfl) (by trivial) (by decide) (by decide)) (@ad _ _ _ _) (fun _ _=>rfl)) (@bq _ _ _ _) (aM _)) (@aj _ _ _ (@aA _ _ _ _ (@ao _ _ _ _ _ _ _ _ _ _ Dtogether hr rfl (@aa _ _ _ _ _ (@ao _ _ _ _ _ _ _ _ _ _ Dweight hr rfl (@aa _ _ _ _ _ (@aE _ _ _ _ _ _ _ aD (@pv _ 0 _ _ (by rfl) (by trivial) (by decide) (by decide)) (@ad _ _ _ _) (fun _ _=>rfl)) (@ae _) (by rfl)) (by decide) (by rfl) (by rfl)) (@aa _ _ _ _ _ (@ao _ _ _ _ _ _ _ _ _ _ Dweight hr rfl (@aa _ _ _ _ _ (@aE _ _ _ _ _ _ _ aD (@pv _ 0 _ _ (by rfl) (by trivial) (by decide) (by decide)) (@ad _ _ _ _) (fun _ _=>rfl)) (@ae _) (by rfl)) (by decide) (by rfl) (by rfl)) (@ae _) (by rfl)) (by rfl)) (by decide) (by rfl) (by rfl)))) (@aN _)) (@aj _ _ _ (@aA _ _ _ _ (@pQ _ _ (.ref aONE) _ _ rfl GONE rfl (by decide)))))),?_⟩
 have leaf:(∀ g,ev g k=1)->Q (.ref aONE) H:=fun e3=>q H _ [([],1)] (aq.refl _) (hONE H) (rM hx kg k12 (List.pairwise_singleton _ _) (fun p hp=>by rw [List.mem_singleton.mp hp]; exact Int.le_refl 1) (fun p hp=>by rw [List.mem_singleton.mp hp]; exact ⟨⟨.nil,by simp⟩,by simp,by show (0:Int)<=_; omega⟩) (fun g=>by rw [e3]; show (1:Int) * 1 + 0=1; decide))
 cases k with
 | whole=>
  subst hv
  refine ⟨_,rfl,b,_,0,.str "whole",rfl,rfl,SqT.of hb,ag (j:=0) rfl,rfl,_,rfl,aW (fun h=>absurd h (by decide +kernel)) (fun _=>?_)⟩
  refine ⟨_,rfl,b,_,0,.str "whole",rfl,rfl,SqT.of hb,ag (j:=0) rfl,rfl,_,rfl,aW (fun h=>absurd h (by decide +kernel)) (fun _=>?_)⟩
  exact leaf (fun _=>rfl)
 | place c ps=>
  obtain ⟨l,rfl,Rl⟩:=hv
  refine ⟨_,rfl,b,_,0,.str "place",rfl,rfl,SqT.of hb,ag (j:=0) rfl,rfl,_,rfl,aW (fun h=>absurd h (by decide +kernel)) (fun _=>?_)⟩
  refine ⟨_,rfl,b,_,0,.str "place",rfl,rfl,SqT.of hb,ag (j:=0) rfl,rfl,_,rfl,aW (fun h=>absurd h (by decide +kernel)) (fun _=>?_)⟩
  exact leaf (fun _=>rfl)
 | row c ps j=>
  obtain ⟨l,u,rfl,Rl,Ru⟩:=hv
  have jn:j.size<=n:=by have:j.size + 1<=n + 1:=kn; omega
  have j12:j.size + 1<=12:=k12
  have ll:=sf kg.1
  refine ⟨_,rfl,b,_,0,.str "row",rfl,rfl,SqT.of hb,ag (j:=0) rfl,rfl,_,rfl,aW (fun _=>?_) (fun h=>absurd (by decide +kernel) h)⟩
  refine ⟨_,rfl,b,_,1,l,rfl,rfl,SqT.of hb,ag (j:=1) rfl,l,c,ps,rfl,Rl,kg.1.c0,kg.1.can.ge,by omega,fun H1 u1 m1 s1 R1 up1 k1 e1=>?_⟩
  have ky1:=sj k1 e1 fun p hp=>(kg.1.nm p hp).1
  have ev1:∀ g,sw (pw g) m1=c + W g ps:=fun g=>by rw [e1,oT]
  have c15:=oY hx kg.1
  have cl:=jR k1
  rw [ev1] at cl
  refine ⟨_,rfl,b,_,2,u,rfl,rfl,SqT.of (s1 _ _ hb),ag (j:=2) rfl,u,j,xs,rfl,Ru.mono s1,jn,by omega,kg.2,hx,fun H2 u2 m2 s2 R2 w2=>?_⟩
  have l1:m1.length<=15:=by omega
  have ml:m1.length * m2.length<=15 * 1820:=Nat.mul_le_mul l1 w2.few
  refine ⟨u1,u2,m1,m2,rfl,R1.sm.mono s2,R2,fun p hp=>⟨k1 p hp,by have:=cl.2 p hp; omega,by have:=(ky1 p hp).len; omega,(ky1 p hp).can.ge⟩,w2.pok (by omega),by omega,fun H3 x m s3 R3 up3 k3 e3=>?_⟩
  refine q H3 x m (s1.trans (s2.trans s3)) R3.sm (rM hx kg k12 up3 k3 (fun p hp=>(qx k3 e3 ky1 w2.ky p hp).up (by show 1 + j.size<=j.size + 1; omega)) (fun g=>?_))
  rw [e3,wB g ky1 w2.ky,ev1,w2.ev]; rfl
 | pair i j=>
  obtain ⟨l,u,rfl,Rl,Ru⟩:=hv
  have ks:i.size + j.size + 1<=n + 1:=kn
  have k12':i.size + j.size + 1<=12:=k12
  refine ⟨_,rfl,b,_,0,.str "pair",rfl,rfl,SqT.of hb,ag (j:=0) rfl,rfl,_,rfl,aW (fun h=>absurd h (by decide +kernel)) (fun _=>?_)⟩
  refine ⟨_,rfl,b,_,0,.str "pair",rfl,rfl,SqT.of hb,ag (j:=0) rfl,rfl,_,rfl,aW (fun _=>?_) (fun h=>absurd (by decide +kernel) h)⟩
  refine ⟨_,rfl,b,_,1,l,rfl,rfl,SqT.of hb,ag (j:=1) rfl,l,i,xs,rfl,Rl,by omega,by omega,kg.1,hx,fun H1 u1 m1 s1 R1 w1=>?_⟩
  refine ⟨_,rfl,b,_,2,u,rfl,rfl,SqT.of (s1 _ _ hb),ag (j:=2) rfl,u,j,xs,rfl,Ru.mono s1,by omega,by omega,kg.2,hx,fun H2 u2 m2 s2 R2 w2=>?_⟩
  refine ⟨u1,u2,m1,m2,rfl,R1.mono s2,R2,w1.ge,w2.ge,by have:=w1.few; have:=w2.few; omega,fun H3 x m s3 R3 up3 k3 e3=>?_⟩
  refine q H3 x m (s1.trans (s2.trans s3)) R3.sm (rM hx kg k12 up3 k3 (fun p hp=>?_) (fun g=>by rw [e3,w1.ev,w2.ev]; rfl))
  exact sC k3 e3 (fun p hp=>(w1.ky p hp).up (by show i.size<=i.size + j.size + 1; omega)) (fun p hp=>(w2.ky p hp).up (by show j.size<=i.size + j.size + 1; omega)) p hp
end
abbrev bU:Stmt:=top 24
def amt (nums:List Pr) (c:Int) (ps:List Pr):Int:=c + W (tm nums) ps
theorem wQ (num:Str->Int) (ps:List Pr) (p:Pr):W num (ps ++ [p])=W num ps + p.2 * num p.1:=by
 induction ps with
 | nil=>show p.2 * num p.1 + 0=0 + p.2 * num p.1; omega
 | cons q ps ih=>show q.2 * num q.1 + W num (ps ++ [p])=q.2 * num q.1 + W num ps + p.2 * num p.1; rw [ih]; omega
def cn:Sp:=fun vs H Q _=>∃ (v:V) (d:Addr) (c:Int) (ps nums:List Pr) (xs:List Str),vs=[v,.ref d]/\Rep H (cO c ps) v/\Ln xs 3 c ps/\NB nums/\H d=some (.dK (dk nums))/\Q (.int (amt nums c ps)) H
section
variable {P:Program} {w:World} {K:PySem.W.Frag} {mg:Str->Option Value} {base:Heap}
theorem jC:aR ["_law_length_here","_law_numbers","_law_found","_law_name","_law_times"] ["_law_length_here","_law_numbers"] (ai bU):=⟨rfl,rfl,rfl,by decide +kernel,rfl,by decide +kernel,by decide +kernel⟩
theorem qO {f:Addr} {fd:FuncData} (F:Fun K "_law_worth" "_law_worth" bU f fd) (T:Txt K mg):bj P w K mg base CX0 1 f fd ["_law_length_here","_law_numbers"] cn:=by
 have nd:(["_law_length_here","_law_numbers","_law_found","_law_name","_law_times"]:List Str).Nodup:=jC.nd
 refine F.ok jC (fun vs H Q E h=>?_) (fun cdv A outer s H vs Q E hr h=>?_)
 ·obtain ⟨v,d,c,ps,nums,xs,rfl,_⟩:=h
  rfl
 obtain ⟨v,d,c,ps,nums,xs,rfl,R,hL,hn,hd,q⟩:=h
 have hu:=iS hr
 obtain ⟨a,a1,us,rfl,ha,ha1,ru,lu⟩:=ka R
 refine ⟨_,(@ah _ _ _ _ _ (@aT _ _ (2) _ _ _ _ nd rfl (Or.inl rfl) (@aE _ _ _ _ _ _ _ aD (@pv _ 0 _ _ (by rfl) (by trivial) (by decide) (by decide)) (@ad _ _ _ _) (fun _ _=>rfl)) (by rfl) (by trivial)) (@ah _ _ _ _ _ (@bW _ _ _ _ _ _ _ _ PassesOwn.never rfl (@bQ _ _ _ _ (@aE _ _ _ _ _ _ _ aD (@pv _ 0 _ _ (by rfl) (by trivial) (by decide) (by decide)) (@ad _ _ _ _) (fun _ _=>rfl))) (@bD _ _ _ _ _ _ rfl (@av _ _ _ _ _ (@au _ _ (3) _ nd rfl (Or.inl rfl) (by trivial)) (@av _ _ _ _ _ (@au _ _ (4) _ nd rfl (Or.inl rfl) (by trivial)) (@bo _) (by rfl)) (by rfl)) (by rfl) (by rfl)) (@aj _ _ _ (@aT _ _ (2) _ _ _ _ nd rfl (Or.inl rfl) (@aQ _ _ _ _ _ _ _ _ bt (@pv _ 2 _ _ (by rfl) (by trivial) (by decide) (by decide)) (@aQ _ _ _ _ _ _ _ _ ck (@pv _ 4 _ _ (by rfl) (by trivial) (by decide) (by decide)) (@fD _ _ _ _ _ _ _ _ _ hu (@pv _ 1 _ _ (by rfl) (by trivial) (by decide) (by decide)) (@pv _ 3 _ _ (by rfl) (by trivial) (by decide) (by decide)) (@ad _ _ _ _) ⟨rfl,rfl,rfl,rfl⟩))) (by rfl) (by trivial))) (by intro _; rfl)) (@aj _ _ _ (@aA _ _ _ _ (@pv _ 2 _ _ (by rfl) (by trivial) (by decide) (by decide)))))),?_⟩
 refine ⟨_,rfl,a,_,0,.int c,rfl,rfl,SqT.of ha,ag (j:=0) rfl,?_⟩
 refine ⟨_,rfl,a,_,1,.ref a1,rfl,rfl,SqT.of ha,ag (j:=1) rfl,a1,rfl,⟨us,SqT.of ha1⟩,cV (xs:=us) (fun i σ H'=>H'=H/\∃ (o3 o4:Option V),σ=[some (.ref a),some (.ref d),some (.int (c + W (tm nums) (ps.take i))),o3,o4]) ⟨rfl,_,_,by rw [List.take_zero]; show _=[_,_,some (V.int (c + 0)),_,_]; rw [Int.add_zero]; rfl⟩ (fun i σ H' _ p=>by rw [p.1]; exact SqT.of ha1) ?_ ?_⟩
 ·rintro i x σ H1 hx ⟨rfl,o3,o4,rfl⟩
  obtain ⟨p,b,hp,rfl,hb⟩:=dN ru hx
  have p0:=hL.can.ge p (List.mem_of_getElem? hp)
  have p1:=(hL.nm p (List.mem_of_getElem? hp)).2
  refine ⟨b,_,rfl,SqT.of hb,rfl,_,_,rfl,_,_,rfl,rfl,?_⟩
  refine ⟨_,rfl,_,rfl,_,rfl,d,rfl,.inl ⟨_,.inl hd⟩,_,rfl,_,nu.k (k:=Sum.inr p.1) hd,p.2,tm nums p.1,rfl,nq _ _,?_,_,_,rfl,rfl,rfl,some (.str p.1),some (.int p.2),?_⟩
  ·exact .inl ⟨by omega,by omega⟩
  ·rw [List.take_add_one,hp]
   show _=[_,_,some (V.int (c + W (tm nums) (ps.take i ++ [p]))),_,_]
   rw [wQ,<- Int.add_assoc]
   rfl
 ·rintro σ H1 ⟨rfl,o3,o4,rfl⟩
  rw [lu,List.take_length]
  exact ⟨_,rfl,q⟩
end
abbrev ci:Stmt:=top 1
abbrev eF:Stmt:=top 3
abbrev cm:Stmt:=top 15
abbrev bI:Stmt:=top 16
abbrev cj:Stmt:=top 17
def nW:Dv->Bool
 | .int _=>true
 | _=>false
def on (b:Int):Dv->Bool
 | .int i=>decide (0<=i) && decide (i < b)
 | _=>false
def bB (nums:List Pr):Kd->Dv->Bool
 | .whole,d=>on 1000000000000 d
 | .place c ps,d=>on (amt nums c ps) d
 | .row c ps k,.tup ds=>decide ((ds.length:Int)=amt nums c ps) && ds.all (bB nums k)
 | .pair i j,.tup [x,y]=>bB nums i x && bB nums j y
 | _,_=>false
def spD (f:Dv->Bool):Sp:=fun vs H Q _=>∃ v d,vs=[v]/\Rep H d v/\∀ H',aq H H'->Q (.bl (f d)) H'
def kE:Sp:=fun vs H Q _=>∃ (v:V) (d:Dv) (b:Int),vs=[v,.int b]/\Rep H d v/\∀ H',aq H H'->Q (.bl (on b d)) H'
def jS:Sp:=fun vs H Q _=>∃ (v:V) (d:Addr) (c:Int) (ps nums:List Pr) (xs:List Str),vs=[v,.ref d]/\Rep H (cO c ps) v/\Ln xs 3 c ps/\NB nums/\H d=some (.dK (dk nums))/\∀ H',aq H H'->Q (.int (amt nums c ps)) H'
def dI (n:Nat):Sp:=fun vs H Q _=>∃ (v u:V) (d:Addr) (k:Kd) (x:Dv) (nums:List Pr) (xs:List Str),vs=[v,.ref d,u]/\Rep H k.dv v/\Rep H x u/\H d=some (.dK (dk nums))/\NB nums/\k.size<=n/\k.All (Ln xs 3)/\x.small=true/\∀ H',aq H H'->Q (.bl (bB nums k x)) H'
def gH (n:Nat):Sp:=fun vs H Q _=>∃ (v u:V) (d:Addr) (k:Kd) (ds:List Dv) (nums:List Pr) (xs:List Str),vs=[v,.ref d,u]/\Rep H k.dv v/\Rep H (.tup ds) u/\H d=some (.dK (dk nums))/\NB nums/\k.size<=n/\k.All (Ln xs 3)/\smalls ds=true/\∀ H',aq H H'->Q (.bl (ds.all (bB nums k))) H'
theorem vO {nums:List Pr} {c:Int} {ps:List Pr} {k:Kd} {ds:List Dv}:bB nums (.row c ps k) (.tup ds)=(decide ((ds.length:Int)=amt nums c ps) && ds.all (bB nums k)):=by rw [bB]
theorem wM {nums:List Pr} {c:Int} {ps:List Pr} {k:Kd} {d:Dv} (h:∀ ds,d≠.tup ds):bB nums (.row c ps k) d=false:=by
 cases d with
 | tup ds=>exact absurd rfl (h ds)
 | _=>rw [bB] <;> simp
theorem ss {nums:List Pr} {i j:Kd} {x y:Dv}:bB nums (.pair i j) (.tup [x,y])=(bB nums i x && bB nums j y):=by rw [bB]
theorem oU {nums:List Pr} {i j:Kd} {d:Dv} (h:∀ x y,d≠.tup [x,y]):bB nums (.pair i j) d=false:=by
 match d with
 | .tup [x,y]=>exact absurd rfl (h x y)
 | .tup []=>rw [bB] <;> simp
 | .tup [_]=>rw [bB] <;> simp
 | .tup (_ :: _ :: _ :: _)=>rw [bB] <;> simp
 | .non=>rw [bB] <;> simp
 | .bl _=>rw [bB] <;> simp
 | .int _=>rw [bB] <;> simp
 | .str _=>rw [bB] <;> simp
 | .lst _=>rw [bB] <;> simp
 | .dct=>rw [bB] <;> simp
section
variable {P:Program} {w:World} {K:PySem.W.Frag} {mg:Str->Option Value} {base:Heap}
theorem me:aR ["thing"] ["thing"] (ai ci):=⟨rfl,rfl,rfl,by decide +kernel,rfl,by decide +kernel,by decide +kernel⟩
theorem lJ {f:Addr} {fd:FuncData} (F:Fun K "is_whole" "is_whole" ci f fd) (T:Txt K mg):bj P w K mg base CX0 1 f fd ["thing"] (spD nW):=by
 refine F.ok me (fun vs H Q E h=>?_) (fun cdv A outer s H vs Q E hr h=>?_)
 ·obtain ⟨v,d,rfl,_⟩:=h
  rfl
 obtain ⟨v,d,rfl,R,q⟩:=h
 refine ⟨_,(@aj _ _ _ (@aA _ _ _ _ (@dU _ _ _ _ _ _ _ (@aK _ _ _ _ _ _ _ _ _ di rfl T.isinstance (by decide +kernel) (@aa _ _ _ _ _ (@pv _ 0 _ _ (by rfl) (by trivial) (by decide) (by decide)) (@aa _ _ _ _ _ (@cT _ _ (.ty "int") _ _ rfl T.int (by decide +kernel) rfl (by decide) (by decide)) (@ae _) (by rfl)) (by rfl)) (by decide) (by decide) (by rfl) (by rfl)) (@eA _ _ _ _ _ (@sL _ _ _ _ (@aK _ _ _ _ _ _ _ _ _ di rfl T.isinstance (by decide +kernel) (@aa _ _ _ _ _ (@pv _ 0 _ _ (by rfl) (by trivial) (by decide) (by decide)) (@aa _ _ _ _ _ (@cT _ _ (.ty "bool") _ _ rfl T.bool (by decide +kernel) rfl (by decide) (by decide)) (@ae _) (by rfl)) (by rfl)) (by decide) (by decide) (by rfl) (by rfl))))))),?_⟩
 refine ⟨_,rfl,v,_,_,_,rfl,R.ty,pC K d,_,rfl,?_⟩
 cases d with
 | int i=>exact cQ ⟨_,rfl,v,_,_,_,rfl,R.ty,iC K _,_,rfl,q H (aq.refl H)⟩
 | bl b=>exact cQ ⟨_,rfl,v,_,_,_,rfl,R.ty,iC K _,_,rfl,q H (aq.refl H)⟩
 | _=>exact cF (q H (aq.refl H))
theorem mO:aR ["thing","bound"] ["thing","bound"] (ai cm):=⟨rfl,rfl,rfl,by decide +kernel,rfl,by decide +kernel,by decide +kernel⟩
theorem mE {f:Addr} {fd:FuncData} {k:Nat} (F:Fun K "is_below" "is_below" cm f fd) (T:Txt K mg) (Dis_whole:Def P w K mg base k "is_whole" ["thing"] (spD nW)):bj P w K mg base CX0 (k + 1) f fd ["thing","bound"] kE:=by
 refine F.ok mO (fun vs H Q E h=>?_) (fun cdv A outer s H vs Q E hr h=>?_)
 ·obtain ⟨v,d,b,rfl,_⟩:=h
  rfl
 obtain ⟨v,d,b,rfl,R,q⟩:=h
 refine ⟨_,(@aj _ _ _ (@aA _ _ _ _ (@dU _ _ _ _ _ _ _ (@ao _ _ _ _ _ _ _ _ _ _ Dis_whole hr rfl (@aa _ _ _ _ _ (@pv _ 0 _ _ (by rfl) (by trivial) (by decide) (by decide)) (@ae _) (by rfl)) (by decide) (by rfl) (by rfl)) (@eA _ _ _ _ _ (@tu _ _ _ _ _ _ _ _ _ _ _ _ vK iW (@ad _ _ _ _) (@pv _ 0 _ _ (by rfl) (by trivial) (by decide) (by decide)) (@pv _ 1 _ _ (by rfl) (by trivial) (by decide) (by decide)) (by with_unfolding_all rfl)))))),?_⟩
 refine ⟨_,rfl,v,d,rfl,R,fun H1 s1=>⟨_,rfl,?_⟩⟩
 have qq:=q H1 s1
 cases d with
 | int i=>
  obtain rfl:v=.int i:=R
  refine cQ ⟨_,rfl,_,_,rfl,rfl,_,rfl,?_⟩
  have qq':Q (.bl (decide (0<=i) && decide (i < b))) H1:=qq
  by_cases h:0<=i
  ·rw [decide_eq_true h] at qq' ⊢
   exact cQ ⟨_,rfl,_,_,rfl,rfl,qq'⟩
  ·rw [decide_eq_false h] at qq' ⊢
   exact cF qq'
 | _=>exact cF qq
theorem sX:aR ["a","numbers"] ["a","numbers"] (ai eF):=⟨rfl,rfl,rfl,by decide +kernel,rfl,by decide +kernel,by decide +kernel⟩
theorem rD {f:Addr} {fd:FuncData} (F:Fun K "worth" "worth" eF f fd) (T:Txt K mg):bj P w K mg base CX0 1 f fd ["a","numbers"] jS:=by
 refine F.ok sX (fun vs H Q E h=>?_) (fun cdv A outer s H vs Q E hr h=>?_)
 ·obtain ⟨v,d,c,ps,nums,xs,rfl,_⟩:=h
  rfl
 obtain ⟨v,d,c,ps,nums,xs,rfl,R,hL,hn,hd,q⟩:=h
 have hu:=iS hr
 obtain ⟨a,a1,us,rfl,ha,ha1,ru,lu⟩:=ka R
 have l10:=hL.len
 refine ⟨_,(@aj _ _ _ (@aA _ _ _ _ (@aQ _ _ _ _ _ _ _ _ bt (@aE _ _ _ _ _ _ _ aD (@pv _ 0 _ _ (by rfl) (by trivial) (by decide) (by decide)) (@ad _ _ _ _) (fun _ _=>rfl)) (@aK _ _ _ _ _ _ _ _ _ (gz rfl) rfl T.sum (by decide +kernel) (@aa _ _ _ _ _ (@iM _ _ (["name","times"]) ([1]) _ _ _ _ _ _ _ _ _ (@bQ _ _ _ _ (@aE _ _ _ _ _ _ _ aD (@pv _ 0 _ _ (by rfl) (by trivial) (by decide) (by decide)) (@ad _ _ _ _) (fun _ _=>rfl))) (.of rfl) rfl (fun _ _ _=>bD rfl (@av _ _ _ _ _ (@au _ _ (0) _ (cN (l:=["name","times","numbers"]) ((by decide +kernel)) rfl) rfl (Or.inl rfl) (by trivial)) (@av _ _ _ _ _ (@au _ _ (1) _ (cN (l:=["name","times","numbers"]) ((by decide +kernel)) rfl) rfl (Or.inl rfl) (by trivial)) (@bo _) (by rfl)) (by rfl))) (gA (by decide) (by decide)) (fun _ _ _=>(@cG _)) (fun _ _ _=>(@aQ _ _ _ _ _ _ _ _ ck (@pv _ 1 _ _ (by rfl) (by trivial) (by decide) (by decide)) (@fD _ _ _ _ _ _ _ _ _ hu (@pv _ 2 _ _ (by rfl) (by trivial) (by decide) (by decide)) (@pv _ 0 _ _ (by rfl) (by trivial) (by decide) (by decide)) (@ad _ _ _ _) ⟨rfl,rfl,rfl,rfl⟩))) (by intro _; rfl)) (@ae _) (by rfl)) (by decide) (by decide) (by rfl) (by rfl))))),?_⟩
 refine ⟨_,rfl,a,_,0,.int c,rfl,rfl,SqT.of ha,ag (j:=0) rfl,_,rfl,a,_,1,.ref a1,rfl,rfl,SqT.of ha,ag (j:=1) rfl,a1,rfl,⟨us,SqT.of ha1⟩,?_⟩
 refine fg (xs:=us) (fun i ys H'=>H'=H/\ys=((ps.take i).map fun p=>p.2 * tm nums p.1).map V.int) ⟨rfl,rfl⟩ (fun i ys H' _ p=>by rw [p.1]; exact SqT.of ha1) ?_ ?_
 ·rintro i ys H1 x hx ⟨rfl,rfl⟩
  obtain ⟨p,b,hp,rfl,hb⟩:=dN ru hx
  have hi:i < us.length:=(List.getElem?_eq_some_iff.mp hx).1
  have p0:=hL.can.ge p (List.mem_of_getElem? hp)
  have p1:=(hL.nm p (List.mem_of_getElem? hp)).2
  refine mT hb ⟨_,rfl,_,rfl,d,rfl,.inl ⟨_,.inl hd⟩,_,rfl,_,nu.k (k:=Sum.inr p.1) hd,p.2,tm nums p.1,rfl,nq _ _,.inl ⟨by omega,by omega⟩,?_,rfl,?_⟩
  ·simp only [List.length_map,List.length_take,sizeLine_eq]; omega
  ·rw [List.take_add_one,hp,List.map_append,List.map_append]; rfl
 ·rintro ys H1 ⟨rfl,rfl⟩ l hl
  rw [lu,List.take_length]
  refine ⟨l,_,rfl,SqL.of af,_,_,rfl,rfl,?_⟩
  rw [xp]
  exact q _ (ak hl _)
theorem fc:aR ["kind","numbers","things","thing"] ["kind","numbers","things"] (ai bI):=⟨rfl,rfl,rfl,by decide +kernel,rfl,by decide +kernel,by decide +kernel⟩
theorem jc {f:Addr} {fd:FuncData} {k0 n:Nat} (F:Fun K "are_values" "are_values" bI f fd) (T:Txt K mg) (Dis_value:Def P w K mg base k0 "is_value" ["kind","numbers","thing"] (dI n)):bj P w K mg base CX0 (k0 + 1) f fd ["kind","numbers","things"] (gH n):=by
 have nd:(["kind","numbers","things","thing"]:List Str).Nodup:=fc.nd
 refine F.ok fc (fun vs H Q E h=>?_) (fun cdv A outer s H vs Q E hr h=>?_)
 ·obtain ⟨v,u,d,k,ds,nums,xs,rfl,_⟩:=h
  rfl
 obtain ⟨v,u,d,k,ds,nums,xs,rfl,R,Rx,hd,hn,kn,kf,sm,q⟩:=h
 obtain ⟨g,us,rfl,hg,rs⟩:=Rep.tup_inv Rx
 have lus:=rs.length
 refine ⟨_,(@ah _ _ _ _ _ (@bW _ _ _ _ _ _ _ _ PassesOwn.never rfl (@bQ _ _ _ _ (@pv _ 2 _ _ (by rfl) (by trivial) (by decide) (by decide))) (@au _ _ (3) _ nd rfl (Or.inl rfl) (by trivial)) (@aj _ _ _ (@bi _ _ _ _ _ _ _ _ (@fk _ _ _ _ (@dL _ _ _ (@ao _ _ _ _ _ _ _ _ _ _ Dis_value hr rfl (@aa _ _ _ _ _ (@pv _ 0 _ _ (by rfl) (by trivial) (by decide) (by decide)) (@aa _ _ _ _ _ (@pv _ 1 _ _ (by rfl) (by trivial) (by decide) (by decide)) (@aa _ _ _ _ _ (@pv _ 3 _ _ (by rfl) (by trivial) (by decide) (by decide)) (@ae _) (by rfl)) (by rfl)) (by rfl)) (by decide) (by rfl) (by rfl)) (by intro _; rfl))) (@aj _ _ _ (@aA _ _ _ _ (@dq _ _ _ _))) (@aN _))) (by intro _; rfl)) (@aj _ _ _ (@aA _ _ _ _ (@dq _ _ _ _)))),?_⟩
 refine ⟨_,rfl,g,rfl,⟨us,SqT.of hg⟩,cV (xs:=us) (fun i σ H'=>∃ (o3:Option V),σ=[some v,some (.ref d),some (.ref g),o3]/\aq H H'/\(ds.take i).all (bB nums k)=true) ⟨_,rfl,aq.refl _,rfl⟩ (fun i σ H' _ ⟨_,_,s1,_⟩=>SqT.of (s1 _ _ hg)) ?_ ?_⟩
 ·rintro i x σ H1 hx ⟨o3,rfl,s1,ha⟩
  obtain ⟨y,hy,Ry⟩:=rs.get hx
  refine ⟨_,rfl,_,rfl,_,rfl,v,x,d,k,y,nums,xs,rfl,R.mono s1,Ry.mono s1,s1 _ _ hd,hn,kn,kf,cL sm hy,fun H2 s2=>⟨_,rfl,?_⟩⟩
  have s02:=s1.trans s2
  cases c:bB nums k y with
  | false=>
   refine cQ ?_
   have:=q H2 s02
   rwa [show ds.all (bB nums k)=false by
    cases z:ds.all (bB nums k) with
    | false=>rfl
    | true=>rw [List.all_eq_true] at z; rw [z y (List.mem_of_getElem? hy)] at c; cases c] at this
  | true=>
   refine cF ⟨_,rfl,s02,?_⟩
   rw [List.take_add_one,hy,List.all_append,ha]
   show (true && (bB nums k y && true))=true
   rw [c]; rfl
 ·rintro σ H1 ⟨o3,rfl,s1,ha⟩
  rw [lus,List.take_length] at ha
  have:=q H1 s1
  rw [ha] at this
  exact this
theorem gQ:aR ["kind","numbers","thing"] ["kind","numbers","thing"] (ai cj):=⟨rfl,rfl,rfl,by decide +kernel,rfl,by decide +kernel,by decide +kernel⟩
theorem mI {f:Addr} {fd:FuncData} {k0 n:Nat} (F:Fun K "is_value" "is_value" cj f fd) (T:Txt K mg) (Dis_below:Def P w K mg base k0 "is_below" ["thing","bound"] kE) (Dworth:Def P w K mg base k0 "worth" ["a","numbers"] jS) (Dare_values:Def P w K mg base k0 "are_values" ["kind","numbers","things"] (gH n)) (Dis_value:Def P w K mg base k0 "is_value" ["kind","numbers","thing"] (dI n)) :
  bj P w K mg base CX0 (k0 + 1) f fd ["kind","numbers","thing"] (dI (n + 1)):=by
 have nd:(["kind","numbers","thing"]:List Str).Nodup:=gQ.nd
 refine F.ok gQ (fun vs H Q E h=>?_) (fun cdv A outer s H vs Q E hr h=>?_)
 ·obtain ⟨v,u,d,k,x,nums,xs,rfl,_⟩:=h
  rfl
 obtain ⟨v,u,d,k,x,nums,xs,rfl,R,Rx,hd,hn,kn,kf,sm,q⟩:=h
 obtain ⟨b,vs,rfl,hb,hv⟩:=Kd.inv R
 refine ⟨_,(@ah _ _ _ _ _ (@bi _ _ _ _ _ _ _ _ (@aG _ _ _ _ _ _ _ _ bK (@aE _ _ _ _ _ _ _ aD (@pv _ 0 _ _ (by rfl) (by trivial) (by decide) (by decide)) (@ad _ _ _ _) (fun _ _=>rfl)) (@bq _ _ _ _) (aM _)) (@aj _ _ _ (@aA _ _ _ _ (@ao _ _ _ _ _ _ _ _ _ _ Dis_below hr rfl (@aa _ _ _ _ _ (@pv _ 2 _ _ (by rfl) (by trivial) (by decide) (by decide)) (@aa _ _ _ _ _ (T.g_WHOLE_BOUND rfl) (@ae _) (by rfl)) (by rfl)) (by decide) (by rfl) (by rfl)))) (@aN _)) (@ah _ _ _ _ _ (@bi _ _ _ _ _ _ _ _ (@aG _ _ _ _ _ _ _ _ bK (@aE _ _ _ _ _ _ _ aD (@pv _ 0 _ _ (by rfl) (by trivial) (by decide) (by decide)) (@ad _ _ _ _) (fun _ _=>rfl)) (@bq _ _ _ _) (aM _)) (@aj _ _ _ (@aA _ _ _ _ (@ao _ _ _ _ _ _ _ _ _ _ Dis_below hr rfl (@aa _ _ _ _ _ (@pv _ 2 _ _ (by rfl) (by trivial) (by decide) (by decide)) (@aa _ _ _ _ _ (@ao _ _ _ _ _ _ _ _ _ _ Dworth hr rfl (@aa _ _ _ _ _ (@aE _ _ _ _ _ _ _ aD (@pv _ 0 _ _ (by rfl) (by trivial) (by decide) (by decide)) (@ad _ _ _ _) (fun _ _=>rfl)) (@aa _ _ _ _ _ (@pv _ 1 _ _ (by rfl) (by trivial) (by decide) (by decide)) (@ae _) (by rfl)) (by rfl)) (by decide) (by rfl) (by rfl)) (@ae _) (by rfl)) (by rfl)) (by decide) (by rfl) (by rfl)))) (@aN _)) (@ah _ _ _ _ _ (@bi _ _ _ _ _ _ _ _ (@fk _ _ _ _ (@dL _ _ _ (@aK _ _ _ _ _ _ _ _ _ di rfl T.isinstance (by decide +kernel) (@aa _ _ _ _ _ (@pv _ 2 _ _ (by rfl) (by trivial) (by decide) (by decide)) (@aa _ _ _ _ _ (@cT _ _ (.ty "tuple") _ _ rfl T.tuple (by decide +kernel) rfl (by decide) (by decide)) (@ae _) (by rfl)) (by rfl)) (by decide) (by decide) (by rfl) (by rfl)) (by intro _; rfl))) (@aj _ _ _ (@aA _ _ _ _ (@dq _ _ _ _))) (@aN _)) (@ah _ _ _ _ _ (@bi _ _ _ _ _ _ _ _ (@aG _ _ _ _ _ _ _ _ bK (@aE _ _ _ _ _ _ _ aD (@pv _ 0 _ _ (by rfl) (by trivial) (by decide) (by decide)) (@ad _ _ _ _) (fun _ _=>rfl)) (@bq _ _ _ _) (aM _)) (@aj _ _ _ (@aA _ _ _ _ (@dU _ _ _ _ _ _ _ (@eK _ _ _ _ _ _ _ _ bK (@aK _ _ _ _ _ _ _ _ _ bJ rfl T.len (by decide +kernel) (@aa _ _ _ _ _ (@pv _ 2 _ _ (by rfl) (by trivial) (by decide) (by decide)) (@ae _) (by rfl)) (by decide) (by decide) (by rfl) (by rfl)) (@ao _ _ _ _ _ _ _ _ _ _ Dworth hr rfl (@aa _ _ _ _ _ (@aE _ _ _ _ _ _ _ aD (@pv _ 0 _ _ (by rfl) (by trivial) (by decide) (by decide)) (@ad _ _ _ _) (fun _ _=>rfl)) (@aa _ _ _ _ _ (@pv _ 1 _ _ (by rfl) (by trivial) (by decide) (by decide)) (@ae _) (by rfl)) (by rfl)) (by decide) (by rfl) (by rfl)) (aM _)) (@eA _ _ _ _ _ (@ao _ _ _ _ _ _ _ _ _ _ Dare_values hr rfl (@aa _ _ _ _ _ (@aE _ _ _ _ _ _ _ aD (@pv _ 0 _ _ (by rfl) (by trivial) (by decide) (by decide)) (@ad _ _ _ _) (fun _ _=>rfl)) (@aa _ _ _ _ _ (@pv _ 1 _ _ (by rfl) (by trivial) (by decide) (by decide)) (@aa _ _ _ _ _ (@pv _ 2 _ _ (by rfl) (by trivial) (by decide) (by decide)) (@ae _) (by rfl)) (by rfl)) (by rfl)) (by decide) (by rfl) (by rfl)))))) (@aN _)) (@ah _ _ _ _ _ (@bi _ _ _ _ _ _ _ _ (@aG _ _ _ _ _ _ _ _ oZ (@aK _ _ _ _ _ _ _ _ _ bJ rfl T.len (by decide +kernel) (@aa _ _ _ _ _ (@pv _ 2 _ _ (by rfl) (by trivial) (by decide) (by decide)) (@ae _) (by rfl)) (by decide) (by decide) (by rfl) (by rfl)) (@ad _ _ _ _) (aM _)) (@aj _ _ _ (@aA _ _ _ _ (@dq _ _ _ _))) (@aN _)) (@aj _ _ _ (@aA _ _ _ _ (@dU _ _ _ _ _ _ _ (@ao _ _ _ _ _ _ _ _ _ _ Dis_value hr rfl (@aa _ _ _ _ _ (@aE _ _ _ _ _ _ _ aD (@pv _ 0 _ _ (by rfl) (by trivial) (by decide) (by decide)) (@ad _ _ _ _) (fun _ _=>rfl)) (@aa _ _ _ _ _ (@pv _ 1 _ _ (by rfl) (by trivial) (by decide) (by decide)) (@aa _ _ _ _ _ (@aE _ _ _ _ _ _ _ aD (@pv _ 2 _ _ (by rfl) (by trivial) (by decide) (by decide)) (@ad _ _ _ _) (fun _ _=>rfl)) (@ae _) (by rfl)) (by rfl)) (by rfl)) (by decide) (by rfl) (by rfl)) (@eA _ _ _ _ _ (@ao _ _ _ _ _ _ _ _ _ _ Dis_value hr rfl (@aa _ _ _ _ _ (@aE _ _ _ _ _ _ _ aD (@pv _ 0 _ _ (by rfl) (by trivial) (by decide) (by decide)) (@ad _ _ _ _) (fun _ _=>rfl)) (@aa _ _ _ _ _ (@pv _ 1 _ _ (by rfl) (by trivial) (by decide) (by decide)) (@aa _ _ _ _ _ (@aE _ _ _ _ _ _ _ aD (@pv _ 2 _ _ (by rfl) (by trivial) (by decide) (by decide)) (@ad _ _ _ _) (fun _ _=>rfl)) (@ae _) (by rfl)) (by rfl)) (by rfl)) (by decide) (by rfl) (by rfl))))))))))),?_⟩
 cases k with
 | whole=>
  subst hv
  refine ⟨_,rfl,b,_,0,.str "whole",rfl,rfl,SqT.of hb,ag (j:=0) rfl,rfl,_,rfl,aW (fun _=>?_) (fun h=>absurd (by decide +kernel) h)⟩
  refine ⟨_,rfl,u,x,_,rfl,Rx,fun H1 s1=>?_⟩
  have:=q H1 s1
  rw [bB] at this
  exact this
 | place c ps=>
  obtain ⟨l,rfl,Rl⟩:=hv
  refine ⟨_,rfl,b,_,0,.str "place",rfl,rfl,SqT.of hb,ag (j:=0) rfl,rfl,_,rfl,aW (fun h=>absurd h (by decide +kernel)) (fun _=>?_)⟩
  refine ⟨_,rfl,b,_,0,.str "place",rfl,rfl,SqT.of hb,ag (j:=0) rfl,rfl,_,rfl,aW (fun _=>?_) (fun h=>absurd (by decide +kernel) h)⟩
  refine ⟨_,rfl,_,rfl,b,_,1,l,rfl,rfl,SqT.of hb,ag (j:=1) rfl,_,rfl,l,d,c,ps,nums,xs,rfl,Rl,kf,hn,hd,fun H1 s1=>?_⟩
  refine ⟨u,x,_,rfl,Rx.mono s1,fun H2 s2=>?_⟩
  have:=q H2 (s1.trans s2)
  rw [bB] at this
  exact this
 | row c ps j=>
  obtain ⟨l,u1,rfl,Rl,Ru⟩:=hv
  have jn:j.size<=n:=by have:j.size + 1<=n + 1:=kn; omega
  refine ⟨_,rfl,b,_,0,.str "row",rfl,rfl,SqT.of hb,ag (j:=0) rfl,rfl,_,rfl,aW (fun h=>absurd h (by decide +kernel)) (fun _=>?_)⟩
  refine ⟨_,rfl,b,_,0,.str "row",rfl,rfl,SqT.of hb,ag (j:=0) rfl,rfl,_,rfl,aW (fun h=>absurd h (by decide +kernel)) (fun _=>?_)⟩
  refine ⟨_,rfl,u,_,_,_,rfl,Rx.ty,eO K x,_,rfl,?_⟩
  cases x with
  | tup ds=>
   obtain ⟨g,us,rfl,hg,rs⟩:=Rep.tup_inv Rx
   have lus:=rs.length
   simp only [Dv.small,Bool.and_eq_true] at sm
   refine cF ?_
   refine ⟨_,rfl,b,_,0,.str "row",rfl,rfl,SqT.of hb,ag (j:=0) rfl,rfl,_,rfl,aW (fun _=>?_) (fun h=>absurd (by decide +kernel) h)⟩
   refine ⟨_,rfl,g,us,rfl,.inr (SqT.of hg),_,rfl,b,_,1,l,rfl,rfl,SqT.of hb,ag (j:=1) rfl,_,rfl,l,d,c,ps,nums,xs,rfl,Rl,kf.1,hn,hd,fun H1 s1=>⟨rfl,_,rfl,?_⟩⟩
   rw [vO] at q
   by_cases e:(ds.length:Int)=amt nums c ps
   ·rw [decide_eq_true e,Bool.true_and] at q
    rw [show decide (V.int (us.length:Int)=V.int (amt nums c ps))=true from decide_eq_true (by rw [lus,e])]
    refine cQ ⟨_,rfl,b,_,2,u1,rfl,rfl,SqT.of (s1 _ _ hb),ag (j:=2) rfl,_,rfl,_,rfl,u1,.ref g,d,j,ds,nums,xs,rfl,Ru.mono s1,Rx.mono s1,s1 _ _ hd,hn,jn,kf.2,sm.1,fun H2 s2=>q H2 (s1.trans s2)⟩
   ·rw [decide_eq_false e,Bool.false_and] at q
    rw [show decide (V.int (us.length:Int)=V.int (amt nums c ps))=false from decide_eq_false (fun z=>e (by injection z with z; rw [lus] at z; exact z))]
    exact cF (q H1 s1)
  | _=>
   refine cQ ?_
   have:=q H (aq.refl H)
   rwa [wM (by simp)] at this
 | pair i j=>
  obtain ⟨l,u1,rfl,Rl,Ru⟩:=hv
  have ks:i.size + j.size + 1<=n + 1:=kn
  refine ⟨_,rfl,b,_,0,.str "pair",rfl,rfl,SqT.of hb,ag (j:=0) rfl,rfl,_,rfl,aW (fun h=>absurd h (by decide +kernel)) (fun _=>?_)⟩
  refine ⟨_,rfl,b,_,0,.str "pair",rfl,rfl,SqT.of hb,ag (j:=0) rfl,rfl,_,rfl,aW (fun h=>absurd h (by decide +kernel)) (fun _=>?_)⟩
  refine ⟨_,rfl,u,_,_,_,rfl,Rx.ty,eO K x,_,rfl,?_⟩
  cases x with
  | tup ds=>
   obtain ⟨g,us,rfl,hg,rs⟩:=Rep.tup_inv Rx
   have lus:=rs.length
   simp only [Dv.small,Bool.and_eq_true] at sm
   refine cF ?_
   refine ⟨_,rfl,b,_,0,.str "pair",rfl,rfl,SqT.of hb,ag (j:=0) rfl,rfl,_,rfl,aW (fun h=>absurd h (by decide +kernel)) (fun _=>?_)⟩
   refine ⟨_,rfl,g,us,rfl,.inr (SqT.of hg),rfl,_,rfl,?_⟩
   by_cases e:ds.length=2
   ·match ds,e,rs with
    | [x,y],_,rs=>
     obtain ⟨w1,w2,rfl,R1,R2⟩:=Reps.two rs
     refine pb rfl ?_
     refine ⟨_,rfl,b,_,1,l,rfl,rfl,SqT.of hb,ag (j:=1) rfl,_,rfl,_,rfl,g,_,0,w1,rfl,rfl,SqT.of hg,ag (j:=0) rfl,l,w1,d,i,x,nums,xs,rfl,Rl,R1,hd,hn,by omega,kf.1,cL (i:=0) sm.1 rfl,fun H1 s1=>⟨_,rfl,?_⟩⟩
     rw [ss] at q
     cases c:bB nums i x with
     | false=>
      rw [c,Bool.false_and] at q
      exact cF (q H1 s1)
     | true=>
      rw [c,Bool.true_and] at q
      exact cQ ⟨_,rfl,b,_,2,u1,rfl,rfl,SqT.of (s1 _ _ hb),ag (j:=2) rfl,_,rfl,_,rfl,g,_,1,w2,rfl,rfl,SqT.of (s1 _ _ hg),ag (j:=1) rfl,u1,w2,d,j,y,nums,xs,rfl,Ru.mono s1,R2.mono s1,s1 _ _ hd,hn,by omega,kf.2,cL (i:=1) sm.1 rfl,fun H2 s2=>q H2 (s1.trans s2)⟩
   ·have hne:¬ (V.int ((us.length:Nat):Int)=V.int 2):=fun z=>e (by injection z with z; omega)
    rw [decide_eq_false hne]
    refine cQ ?_
    have:=q H (aq.refl H)
    rwa [oU (fun x y z=>e (by injection z with z; rw [z]; rfl))] at this
  | _=>
   refine cQ ?_
   have:=q H (aq.refl H)
   rwa [oU (by simp)] at this
end
abbrev eG:Stmt:=top 25
abbrev dj:Stmt:=top 26
abbrev eT:Stmt:=top 27
abbrev eL:Stmt:=top 28
abbrev eP:Stmt:=top 29
abbrev eR:Stmt:=top 30
theorem bT {nums:List Pr} (hn:NB nums) {xs:List Str} {c:Int} {ps:List Pr} (h:Ln xs 3 c ps):0<=amt nums c ps/\amt nums c ps<=3000:=by
 have hW:=pP (num:=tm nums) (B:=3) (by decide) (fun x=>⟨hn.lo x,hn.hi x⟩) (ps:=ps) fun p hp=>⟨by have:=h.can.ge p hp; omega,(h.nm p hp).2⟩
 have h0:=h.c0
 have h1:=h.cB
 have h2:=h.len
 unfold amt
 obtain ⟨a,b⟩:=hW
 refine ⟨by omega,?_⟩
 have:(ps.length:Int) * (3 * 60)<=10 * (3 * 60):=by omega
 omega
def thg (nums:List Pr):Kd->Int
 | .whole=>1
 | .place _ _=>1
 | .row c ps k=>1 + amt nums c ps * thg nums k
 | .pair i j=>1 + thg nums i + thg nums j
theorem cE {nums:List Pr} (hn:NB nums) {xs:List Str}:∀ {k:Kd},k.All (Ln xs 3)->1<=thg nums k
 | .whole,_=>Int.le_refl 1
 | .place _ _,_=>Int.le_refl 1
 | .row c ps k,h=>by
  have h1:=cE hn h.2
  have:0<=amt nums c ps * thg nums k:=Int.mul_nonneg (bT hn h.1).1 (by omega)
  show 1<=1 + amt nums c ps * thg nums k
  omega
 | .pair i j,h=>by
  have h1:=cE hn h.1
  have h2:=cE hn h.2
  show 1<=1 + thg nums i + thg nums j
  omega
def zv (nums:List Pr):Kd->Dv
 | .whole=>.int 0
 | .place _ _=>.int 0
 | .row c ps k=>.tup (List.replicate (amt nums c ps).toNat (zv nums k))
 | .pair i j=>.tup [zv nums i,zv nums j]
def stD:Dv->Int
 | .tup ds=>stDs ds
 | _=>1
where stDs:List Dv->Int
 | []=>0
 | d :: ds=>stD d + stDs ds
def lkD (nums:List Pr):Kd->Bool
 | .whole=>false
 | .place c ps=>decide (amt nums c ps=0)
 | .row c ps k=>decide (amt nums c ps > 0) && lkD nums k
 | .pair i j=>lkD nums i || lkD nums j
theorem pF (nums:List Pr):∀ k,L2.Pl k.size (zv nums k)
 | .whole=>.int
 | .place _ _=>.int
 | .row c ps k=>.tup (n:=k.size) fun d hd=>by rw [(List.mem_replicate.mp hd).2]; exact pF nums k
 | .pair i j=>.tup (n:=i.size + j.size) fun d hd=>by
  rcases List.mem_cons.mp hd with rfl | hd
  ·exact (pF nums i).up (by omega)
  ·rw [List.mem_singleton.mp hd]; exact (pF nums j).up (by omega)
theorem mJ (d:Dv):∀ n,stD.stDs (List.replicate n d)=n * stD d
 | 0=>by show (0:Int)=((0:Nat):Int) * stD d; rw [Int.natCast_zero,Int.zero_mul]
 | n + 1=>by
  show stD d + stD.stDs (List.replicate n d)=((n + 1:Nat):Int) * stD d
  rw [mJ d n,Int.natCast_succ,Int.add_mul,Int.one_mul,Int.add_comm]
theorem fH {nums:List Pr} (hn:NB nums) {xs:List Str}:∀ {k:Kd},k.All (Ln xs 3)->stD (zv nums k)=ev (tm nums) k
 | .whole,_=>rfl
 | .place _ _,_=>rfl
 | .row c ps k,h=>by
  show stD.stDs (List.replicate (amt nums c ps).toNat (zv nums k))=amt nums c ps * ev (tm nums) k
  rw [mJ,fH hn h.2,Int.toNat_of_nonneg (bT hn h.1).1]
 | .pair i j,h=>by
  show stD (zv nums i) + (stD (zv nums j) + 0)=ev (tm nums) i + ev (tm nums) j
  rw [fH hn h.1,fH hn h.2]; omega
theorem kD {nums:List Pr} (hn:NB nums) {xs:List Str}:∀ {k:Kd},k.All (Ln xs 3)->bB nums k (zv nums k)=!lkD nums k
 | .whole,_=>by rw [bB]; rfl
 | .place c ps,h=>by
  have h0:=(bT hn h).1
  rw [bB]
  show (decide ((0:Int)<=0) && decide (0 < amt nums c ps))=!decide (amt nums c ps=0)
  rw [decide_eq_true (Int.le_refl 0),Bool.true_and]
  by_cases z:amt nums c ps=0
  ·rw [decide_eq_true z,decide_eq_false (by omega)]; rfl
  ·rw [decide_eq_false z,decide_eq_true (by omega)]; rfl
 | .row c ps k,h=>by
  have h0:=(bT hn h.1).1
  show bB nums (.row c ps k) (.tup (List.replicate (amt nums c ps).toNat (zv nums k)))=!(decide (amt nums c ps > 0) && lkD nums k)
  rw [vO,List.length_replicate,decide_eq_true (Int.toNat_of_nonneg h0),Bool.true_and]
  by_cases z:amt nums c ps=0
  ·rw [z,decide_eq_false (by omega)]; rfl
  ·obtain ⟨m,hm⟩:∃ m,(amt nums c ps).toNat=m + 1:=⟨(amt nums c ps).toNat - 1,by omega⟩
   rw [decide_eq_true (show amt nums c ps > 0 by omega),Bool.true_and,hm,<- kD hn h.2]
   cases e:bB nums k (zv nums k) with
   | true=>exact List.all_eq_true.mpr fun d hd=>by rw [(List.mem_replicate.mp hd).2]; exact e
   | false=>rw [List.replicate_succ,List.all_cons,e]; rfl
 | .pair i j,h=>by
  show bB nums (.pair i j) (.tup [zv nums i,zv nums j])=!(lkD nums i || lkD nums j)
  rw [ss,kD hn h.1,kD hn h.2,Bool.not_or]
theorem iA:∀ {ds:List Dv},(∀ d∈ds,d.small=true)->smalls ds=true
 | [],_=>rfl
 | d :: ds,h=>by
  simp only [smalls,Bool.and_eq_true]
  exact ⟨h d List.mem_cons_self,iA fun e he=>h e (List.mem_cons_of_mem _ he)⟩
theorem uc {nums:List Pr} {k:Kd} {n:Int} (h0:1<=n) (h2:1<=thg nums k) (h:1 + n * thg nums k<=200):thg nums k<=200/\n<=200:=by
 have a:1 * thg nums k<=n * thg nums k:=Int.mul_le_mul_of_nonneg_right h0 (by omega)
 have b:n * 1<=n * thg nums k:=Int.mul_le_mul_of_nonneg_left h2 (by omega)
 omega
theorem fP {nums:List Pr} (hn:NB nums) {xs:List Str}:∀ {k:Kd},k.All (Ln xs 3)->thg nums k<=200->(zv nums k).small=true
 | .whole,_,_=>rfl
 | .place _ _,_,_=>rfl
 | .row c ps k,h,t=>by
  have h0:=(bT hn h.1).1
  have h1:=cE hn h.2
  show Dv.small (.tup (List.replicate (amt nums c ps).toNat (zv nums k)))=true
  simp only [Dv.small,Bool.and_eq_true]
  by_cases z:amt nums c ps=0
  ·rw [z]; exact ⟨rfl,rfl⟩
  ·obtain ⟨a,b⟩:=uc (n:=amt nums c ps) (by omega) h1 t
   exact ⟨iA fun d hd=>by rw [(List.mem_replicate.mp hd).2]; exact fP hn h.2 a,decide_eq_true (by rw [List.length_replicate]; omega)⟩
 | .pair i j,h,t=>by
  have h1:=cE hn h.1
  have h2:=cE hn h.2
  have t:1 + thg nums i + thg nums j<=200:=t
  show Dv.small (.tup [zv nums i,zv nums j])=true
  simp only [Dv.small,smalls,Bool.and_eq_true]
  exact ⟨⟨fP hn h.1 (by omega),fP hn h.2 (by omega),trivial⟩,decide_eq_true (by show 2<=1000; decide)⟩
def fL (n:Nat):Sp:=fun vs H Q _=>∃ (v:V) (d:Addr) (k:Kd) (nums:List Pr) (xs:List Str) (r:Int),vs=[v,.ref d,.int r]/\Rep H k.dv v/\k.size<=n/\k.All (Ln xs 3)/\NB nums/\H d=some (.dK (dk nums))/\Q (.int (r * ev (tm nums) k)) H
def jd {α:Type} (c:α->V) (g:List Pr->Kd->α) (n:Nat):Sp:=fun vs H Q _=>∃ (v:V) (d:Addr) (k:Kd) (nums:List Pr) (xs:List Str),vs=[v,.ref d]/\Rep H k.dv v/\k.size<=n/\k.All (Ln xs 3)/\NB nums/\H d=some (.dK (dk nums))/\Q (c (g nums k)) H
def fI (n:Nat):Sp:=fun vs H Q _=>∃ (v:V) (d:Addr) (k:Kd) (nums:List Pr) (xs:List Str),vs=[v,.ref d]/\Rep H k.dv v/\k.size<=n/\k.All (Ln xs 3)/\NB nums/\H d=some (.dK (dk nums))/\thg nums k<=200/\∀ (H':Hp) (w:V),aq H H'->Rep H' (zv nums k) w->Q w H'
def fW (n:Nat):Sp:=fun vs H Q _=>∃ (v:V) (x:Dv),vs=[v]/\Rep H x v/\(∃ m,m < n/\L2.Pl m x)/\x.small=true/\∀ H',aq H H'->Q (.int (stD x)) H'
def jQ:Sp:=fun vs H Q _=>∃ (i j:Int),vs=[.int i,.int j]/\Q (.bl (decide (i>=j))) H
section
variable {P:Program} {w:World} {K:PySem.W.Frag} {mg:Str->Option Value} {base:Heap}
theorem uh:aR ["_law_kind","_law_numbers","_law_around"] ["_law_kind","_law_numbers","_law_around"] (ai eG):=⟨rfl,rfl,rfl,by decide +kernel,rfl,by decide +kernel,by decide +kernel⟩
theorem rY {f:Addr} {fd:FuncData} {k0 n:Nat} (F:Fun K "_law_count" "_law_count" eG f fd) (T:Txt K mg) (D_law_worth:Def P w K mg base k0 "_law_worth" ["_law_length_here","_law_numbers"] cn) (D_law_count:Def P w K mg base k0 "_law_count" ["_law_kind","_law_numbers","_law_around"] (fL n)):bj P w K mg base CX0 (k0 + 1) f fd ["_law_kind","_law_numbers","_law_around"] (fL (n + 1)):=by
 refine F.ok uh (fun vs H Q E h=>?_) (fun cdv A outer s H vs Q E hr h=>?_)
 ·obtain ⟨v,d,k,nums,xs,r,rfl,_⟩:=h
  rfl
 obtain ⟨v,d,k,nums,xs,r,rfl,R,kn,kg,hn,hd,q⟩:=h
 obtain ⟨b,vs,rfl,hb,hv⟩:=Kd.inv R
 refine ⟨_,(@ah _ _ _ _ _ (@bi _ _ _ _ _ _ _ _ (@aG _ _ _ _ _ _ _ _ bK (@aE _ _ _ _ _ _ _ aD (@pv _ 0 _ _ (by rfl) (by trivial) (by decide) (by decide)) (@ad _ _ _ _) (fun _ _=>rfl)) (@bq _ _ _ _) (aM _)) (@aj _ _ _ (@aA _ _ _ _ (@ao _ _ _ _ _ _ _ _ _ _ D_law_count hr rfl (@aa _ _ _ _ _ (@aE _ _ _ _ _ _ _ aD (@pv _ 0 _ _ (by rfl) (by trivial) (by decide) (by decide)) (@ad _ _ _ _) (fun _ _=>rfl)) (@aa _ _ _ _ _ (@pv _ 1 _ _ (by rfl) (by trivial) (by decide) (by decide)) (@aa _ _ _ _ _ (@aQ _ _ _ _ _ _ _ _ ck (@pv _ 2 _ _ (by rfl) (by trivial) (by decide) (by decide)) (@ao _ _ _ _ _ _ _ _ _ _ D_law_worth hr rfl (@aa _ _ _ _ _ (@aE _ _ _ _ _ _ _ aD (@pv _ 0 _ _ (by rfl) (by trivial) (by decide) (by decide)) (@ad _ _ _ _) (fun _ _=>rfl)) (@aa _ _ _ _ _ (@pv _ 1 _ _ (by rfl) (by trivial) (by decide) (by decide)) (@ae _) (by rfl)) (by rfl)) (by decide) (by rfl) (by rfl))) (@ae _) (by rfl)) (by rfl)) (by rfl)) (by decide) (by rfl) (by rfl)))) (@aN _)) (@ah _ _ _ _ _ (@bi _ _ _ _ _ _ _ _ (@aG _ _ _ _ _ _ _ _ bK (@aE _ _ _ _ _ _ _ aD (@pv _ 0 _ _ (by rfl) (by trivial) (by decide) (by decide)) (@ad _ _ _ _) (fun _ _=>rfl)) (@bq _ _ _ _) (aM _)) (@aj _ _ _ (@aA _ _ _ _ (@aQ _ _ _ _ _ _ _ _ bt (@ao _ _ _ _ _ _ _ _ _ _ D_law_count hr rfl (@aa _ _ _ _ _ (@aE _ _ _ _ _ _ _ aD (@pv _ 0 _ _ (by rfl) (by trivial) (by decide) (by decide)) (@ad _ _ _ _) (fun _ _=>rfl)) (@aa _ _ _ _ _ (@pv _ 1 _ _ (by rfl) (by trivial) (by decide) (by decide)) (@aa _ _ _ _ _ (@pv _ 2 _ _ (by rfl) (by trivial) (by decide) (by decide)) (@ae _) (by rfl)) (by rfl)) (by rfl)) (by decide) (by rfl) (by rfl)) (@ao _ _ _ _ _ _ _ _ _ _ D_law_count hr rfl (@aa _ _ _ _ _ (@aE _ _ _ _ _ _ _ aD (@pv _ 0 _ _ (by rfl) (by trivial) (by decide) (by decide)) (@ad _ _ _ _) (fun _ _=>rfl)) (@aa _ _ _ _ _ (@pv _ 1 _ _ (by rfl) (by trivial) (by decide) (by decide)) (@aa _ _ _ _ _ (@pv _ 2 _ _ (by rfl) (by trivial) (by decide) (by decide)) (@ae _) (by rfl)) (by rfl)) (by rfl)) (by decide) (by rfl) (by rfl))))) (@aN _)) (@aj _ _ _ (@aA _ _ _ _ (@pv _ 2 _ _ (by rfl) (by trivial) (by decide) (by decide)))))),?_⟩
 cases k with
 | whole=>
  subst hv
  refine ⟨_,rfl,b,_,0,.str "whole",rfl,rfl,SqT.of hb,ag (j:=0) rfl,rfl,_,rfl,aW (fun h=>absurd h (by decide +kernel)) (fun _=>?_)⟩
  refine ⟨_,rfl,b,_,0,.str "whole",rfl,rfl,SqT.of hb,ag (j:=0) rfl,rfl,_,rfl,aW (fun h=>absurd h (by decide +kernel)) (fun _=>?_)⟩
  rw [show r * ev (tm nums) Kd.whole=r from Int.mul_one r] at q
  exact ⟨_,rfl,q⟩
 | place c ps=>
  obtain ⟨l,rfl,Rl⟩:=hv
  refine ⟨_,rfl,b,_,0,.str "place",rfl,rfl,SqT.of hb,ag (j:=0) rfl,rfl,_,rfl,aW (fun h=>absurd h (by decide +kernel)) (fun _=>?_)⟩
  refine ⟨_,rfl,b,_,0,.str "place",rfl,rfl,SqT.of hb,ag (j:=0) rfl,rfl,_,rfl,aW (fun h=>absurd h (by decide +kernel)) (fun _=>?_)⟩
  rw [show r * ev (tm nums) (Kd.place c ps)=r from Int.mul_one r] at q
  exact ⟨_,rfl,q⟩
 | row c ps j=>
  obtain ⟨l,u,rfl,Rl,Ru⟩:=hv
  have jn:j.size<=n:=by have:j.size + 1<=n + 1:=kn; omega
  obtain ⟨am0,am1⟩:=bT hn kg.1
  refine ⟨_,rfl,b,_,0,.str "row",rfl,rfl,SqT.of hb,ag (j:=0) rfl,rfl,_,rfl,aW (fun _=>?_) (fun h=>absurd (by decide +kernel) h)⟩
  refine ⟨_,rfl,b,_,2,u,rfl,rfl,SqT.of hb,ag (j:=2) rfl,_,rfl,_,rfl,_,rfl,b,_,1,l,rfl,rfl,SqT.of hb,ag (j:=1) rfl,_,rfl,l,d,c,ps,nums,xs,rfl,Rl,kg.1,hn,hd,_,_,rfl,rfl,.inr ⟨by omega,by omega⟩,u,d,j,nums,xs,_,rfl,Ru,jn,kg.2,hn,hd,?_⟩
  rw [Int.mul_assoc]; exact q
 | pair i j=>
  obtain ⟨l,u,rfl,Rl,Ru⟩:=hv
  have ks:i.size + j.size + 1<=n + 1:=kn
  refine ⟨_,rfl,b,_,0,.str "pair",rfl,rfl,SqT.of hb,ag (j:=0) rfl,rfl,_,rfl,aW (fun h=>absurd h (by decide +kernel)) (fun _=>?_)⟩
  refine ⟨_,rfl,b,_,0,.str "pair",rfl,rfl,SqT.of hb,ag (j:=0) rfl,rfl,_,rfl,aW (fun _=>?_) (fun h=>absurd (by decide +kernel) h)⟩
  refine ⟨_,rfl,b,_,1,l,rfl,rfl,SqT.of hb,ag (j:=1) rfl,_,rfl,_,rfl,l,d,i,nums,xs,_,rfl,Rl,by omega,kg.1,hn,hd,?_⟩
  refine ⟨_,rfl,b,_,2,u,rfl,rfl,SqT.of hb,ag (j:=2) rfl,_,rfl,_,rfl,u,d,j,nums,xs,_,rfl,Ru,by omega,kg.2,hn,hd,_,_,rfl,rfl,?_⟩
  have q:Q (.int (r * (ev (tm nums) i + ev (tm nums) j))) H:=q
  rw [Int.mul_add] at q; exact q
theorem rp:aR ["_law_kind","_law_numbers"] ["_law_kind","_law_numbers"] (ai dj):=⟨rfl,rfl,rfl,by decide +kernel,rfl,by decide +kernel,by decide +kernel⟩
theorem qo {f:Addr} {fd:FuncData} {k0 n:Nat} (F:Fun K "_law_things" "_law_things" dj f fd) (T:Txt K mg) (D_law_worth:Def P w K mg base k0 "_law_worth" ["_law_length_here","_law_numbers"] cn) (D_law_things:Def P w K mg base k0 "_law_things" ["_law_kind","_law_numbers"] (jd V.int thg n)):bj P w K mg base CX0 (k0 + 1) f fd ["_law_kind","_law_numbers"] (jd V.int thg (n + 1)):=by
 refine F.ok rp (fun vs H Q E h=>?_) (fun cdv A outer s H vs Q E hr h=>?_)
 ·obtain ⟨v,d,k,nums,xs,rfl,_⟩:=h
  rfl
 obtain ⟨v,d,k,nums,xs,rfl,R,kn,kg,hn,hd,q⟩:=h
 obtain ⟨b,vs,rfl,hb,hv⟩:=Kd.inv R
 refine ⟨_,(@ah _ _ _ _ _ (@bi _ _ _ _ _ _ _ _ (@aG _ _ _ _ _ _ _ _ bK (@aE _ _ _ _ _ _ _ aD (@pv _ 0 _ _ (by rfl) (by trivial) (by decide) (by decide)) (@ad _ _ _ _) (fun _ _=>rfl)) (@bq _ _ _ _) (aM _)) (@aj _ _ _ (@aA _ _ _ _ (@aQ _ _ _ _ _ _ _ _ bt (@ad _ _ _ _) (@aQ _ _ _ _ _ _ _ _ ck (@ao _ _ _ _ _ _ _ _ _ _ D_law_worth hr rfl (@aa _ _ _ _ _ (@aE _ _ _ _ _ _ _ aD (@pv _ 0 _ _ (by rfl) (by trivial) (by decide) (by decide)) (@ad _ _ _ _) (fun _ _=>rfl)) (@aa _ _ _ _ _ (@pv _ 1 _ _ (by rfl) (by trivial) (by decide) (by decide)) (@ae _) (by rfl)) (by rfl)) (by decide) (by rfl) (by rfl)) (@ao _ _ _ _ _ _ _ _ _ _ D_law_things hr rfl (@aa _ _ _ _ _ (@aE _ _ _ _ _ _ _ aD (@pv _ 0 _ _ (by rfl) (by trivial) (by decide) (by decide)) (@ad _ _ _ _) (fun _ _=>rfl)) (@aa _ _ _ _ _ (@pv _ 1 _ _ (by rfl) (by trivial) (by decide) (by decide)) (@ae _) (by rfl)) (by rfl)) (by decide) (by rfl) (by rfl)))))) (@aN _)) (@ah _ _ _ _ _ (@bi _ _ _ _ _ _ _ _ (@aG _ _ _ _ _ _ _ _ bK (@aE _ _ _ _ _ _ _ aD (@pv _ 0 _ _ (by rfl) (by trivial) (by decide) (by decide)) (@ad _ _ _ _) (fun _ _=>rfl)) (@bq _ _ _ _) (aM _)) (@aj _ _ _ (@aA _ _ _ _ (@aQ _ _ _ _ _ _ _ _ bt (@aQ _ _ _ _ _ _ _ _ bt (@ad _ _ _ _) (@ao _ _ _ _ _ _ _ _ _ _ D_law_things hr rfl (@aa _ _ _ _ _ (@aE _ _ _ _ _ _ _ aD (@pv _ 0 _ _ (by rfl) (by trivial) (by decide) (by decide)) (@ad _ _ _ _) (fun _ _=>rfl)) (@aa _ _ _ _ _ (@pv _ 1 _ _ (by rfl) (by trivial) (by decide) (by decide)) (@ae _) (by rfl)) (by rfl)) (by decide) (by rfl) (by rfl))) (@ao _ _ _ _ _ _ _ _ _ _ D_law_things hr rfl (@aa _ _ _ _ _ (@aE _ _ _ _ _ _ _ aD (@pv _ 0 _ _ (by rfl) (by trivial) (by decide) (by decide)) (@ad _ _ _ _) (fun _ _=>rfl)) (@aa _ _ _ _ _ (@pv _ 1 _ _ (by rfl) (by trivial) (by decide) (by decide)) (@ae _) (by rfl)) (by rfl)) (by decide) (by rfl) (by rfl))))) (@aN _)) (@aj _ _ _ (@aA _ _ _ _ (@ad _ _ _ _))))),?_⟩
 cases k with
 | whole=>
  subst hv
  refine ⟨_,rfl,b,_,0,.str "whole",rfl,rfl,SqT.of hb,ag (j:=0) rfl,rfl,_,rfl,aW (fun h=>absurd h (by decide +kernel)) (fun _=>?_)⟩
  refine ⟨_,rfl,b,_,0,.str "whole",rfl,rfl,SqT.of hb,ag (j:=0) rfl,rfl,_,rfl,aW (fun h=>absurd h (by decide +kernel)) (fun _=>q)⟩
 | place c ps=>
  obtain ⟨l,rfl,Rl⟩:=hv
  refine ⟨_,rfl,b,_,0,.str "place",rfl,rfl,SqT.of hb,ag (j:=0) rfl,rfl,_,rfl,aW (fun h=>absurd h (by decide +kernel)) (fun _=>?_)⟩
  refine ⟨_,rfl,b,_,0,.str "place",rfl,rfl,SqT.of hb,ag (j:=0) rfl,rfl,_,rfl,aW (fun h=>absurd h (by decide +kernel)) (fun _=>q)⟩
 | row c ps j=>
  obtain ⟨l,u,rfl,Rl,Ru⟩:=hv
  have jn:j.size<=n:=by have:j.size + 1<=n + 1:=kn; omega
  obtain ⟨am0,am1⟩:=bT hn kg.1
  refine ⟨_,rfl,b,_,0,.str "row",rfl,rfl,SqT.of hb,ag (j:=0) rfl,rfl,_,rfl,aW (fun _=>?_) (fun h=>absurd (by decide +kernel) h)⟩
  exact ⟨_,rfl,b,_,1,l,rfl,rfl,SqT.of hb,ag (j:=1) rfl,_,rfl,l,d,c,ps,nums,xs,rfl,Rl,kg.1,hn,hd,_,rfl,b,_,2,u,rfl,rfl,SqT.of hb,ag (j:=2) rfl,_,rfl,u,d,j,nums,xs,rfl,Ru,jn,kg.2,hn,hd,_,_,rfl,rfl,.inl ⟨by omega,by omega⟩,_,_,rfl,rfl,q⟩
 | pair i j=>
  obtain ⟨l,u,rfl,Rl,Ru⟩:=hv
  have ks:i.size + j.size + 1<=n + 1:=kn
  refine ⟨_,rfl,b,_,0,.str "pair",rfl,rfl,SqT.of hb,ag (j:=0) rfl,rfl,_,rfl,aW (fun h=>absurd h (by decide +kernel)) (fun _=>?_)⟩
  refine ⟨_,rfl,b,_,0,.str "pair",rfl,rfl,SqT.of hb,ag (j:=0) rfl,rfl,_,rfl,aW (fun _=>?_) (fun h=>absurd (by decide +kernel) h)⟩
  exact ⟨_,rfl,b,_,1,l,rfl,rfl,SqT.of hb,ag (j:=1) rfl,_,rfl,l,d,i,nums,xs,rfl,Rl,by omega,kg.1,hn,hd,_,_,rfl,rfl,_,rfl,b,_,2,u,rfl,rfl,SqT.of hb,ag (j:=2) rfl,_,rfl,u,d,j,nums,xs,rfl,Ru,by omega,kg.2,hn,hd,_,_,rfl,rfl,q⟩
theorem tL:aR ["_law_kind","_law_numbers"] ["_law_kind","_law_numbers"] (ai eP):=⟨rfl,rfl,rfl,by decide +kernel,rfl,by decide +kernel,by decide +kernel⟩
theorem sE {f:Addr} {fd:FuncData} {k0 n:Nat} (F:Fun K "_law_lacks" "_law_lacks" eP f fd) (T:Txt K mg) (D_law_worth:Def P w K mg base k0 "_law_worth" ["_law_length_here","_law_numbers"] cn) (D_law_lacks:Def P w K mg base k0 "_law_lacks" ["_law_kind","_law_numbers"] (jd V.bl lkD n)):bj P w K mg base CX0 (k0 + 1) f fd ["_law_kind","_law_numbers"] (jd V.bl lkD (n + 1)):=by
 refine F.ok tL (fun vs H Q E h=>?_) (fun cdv A outer s H vs Q E hr h=>?_)
 ·obtain ⟨v,d,k,nums,xs,rfl,_⟩:=h
  rfl
 obtain ⟨v,d,k,nums,xs,rfl,R,kn,kg,hn,hd,q⟩:=h
 obtain ⟨b,vs,rfl,hb,hv⟩:=Kd.inv R
 refine ⟨_,(@ah _ _ _ _ _ (@bi _ _ _ _ _ _ _ _ (@aG _ _ _ _ _ _ _ _ bK (@aE _ _ _ _ _ _ _ aD (@pv _ 0 _ _ (by rfl) (by trivial) (by decide) (by decide)) (@ad _ _ _ _) (fun _ _=>rfl)) (@bq _ _ _ _) (aM _)) (@aj _ _ _ (@aA _ _ _ _ (@eK _ _ _ _ _ _ _ _ bK (@ao _ _ _ _ _ _ _ _ _ _ D_law_worth hr rfl (@aa _ _ _ _ _ (@aE _ _ _ _ _ _ _ aD (@pv _ 0 _ _ (by rfl) (by trivial) (by decide) (by decide)) (@ad _ _ _ _) (fun _ _=>rfl)) (@aa _ _ _ _ _ (@pv _ 1 _ _ (by rfl) (by trivial) (by decide) (by decide)) (@ae _) (by rfl)) (by rfl)) (by decide) (by rfl) (by rfl)) (@ad _ _ _ _) (aM _)))) (@aN _)) (@ah _ _ _ _ _ (@bi _ _ _ _ _ _ _ _ (@aG _ _ _ _ _ _ _ _ bK (@aE _ _ _ _ _ _ _ aD (@pv _ 0 _ _ (by rfl) (by trivial) (by decide) (by decide)) (@ad _ _ _ _) (fun _ _=>rfl)) (@bq _ _ _ _) (aM _)) (@aj _ _ _ (@aA _ _ _ _ (@dU _ _ _ _ _ _ _ (@eK _ _ _ _ _ _ _ _ mK (@ao _ _ _ _ _ _ _ _ _ _ D_law_worth hr rfl (@aa _ _ _ _ _ (@aE _ _ _ _ _ _ _ aD (@pv _ 0 _ _ (by rfl) (by trivial) (by decide) (by decide)) (@ad _ _ _ _) (fun _ _=>rfl)) (@aa _ _ _ _ _ (@pv _ 1 _ _ (by rfl) (by trivial) (by decide) (by decide)) (@ae _) (by rfl)) (by rfl)) (by decide) (by rfl) (by rfl)) (@ad _ _ _ _) (aM _)) (@eA _ _ _ _ _ (@ao _ _ _ _ _ _ _ _ _ _ D_law_lacks hr rfl (@aa _ _ _ _ _ (@aE _ _ _ _ _ _ _ aD (@pv _ 0 _ _ (by rfl) (by trivial) (by decide) (by decide)) (@ad _ _ _ _) (fun _ _=>rfl)) (@aa _ _ _ _ _ (@pv _ 1 _ _ (by rfl) (by trivial) (by decide) (by decide)) (@ae _) (by rfl)) (by rfl)) (by decide) (by rfl) (by rfl)))))) (@aN _)) (@aj _ _ _ (@aA _ _ _ _ (@dU _ _ _ _ _ _ _ (@eK _ _ _ _ _ _ _ _ bK (@aE _ _ _ _ _ _ _ aD (@pv _ 0 _ _ (by rfl) (by trivial) (by decide) (by decide)) (@ad _ _ _ _) (fun _ _=>rfl)) (@bq _ _ _ _) (aM _)) (@eA _ _ _ _ _ (@xh _ _ _ _ _ _ _ (@ao _ _ _ _ _ _ _ _ _ _ D_law_lacks hr rfl (@aa _ _ _ _ _ (@aE _ _ _ _ _ _ _ aD (@pv _ 0 _ _ (by rfl) (by trivial) (by decide) (by decide)) (@ad _ _ _ _) (fun _ _=>rfl)) (@aa _ _ _ _ _ (@pv _ 1 _ _ (by rfl) (by trivial) (by decide) (by decide)) (@ae _) (by rfl)) (by rfl)) (by decide) (by rfl) (by rfl)) (@eA _ _ _ _ _ (@ao _ _ _ _ _ _ _ _ _ _ D_law_lacks hr rfl (@aa _ _ _ _ _ (@aE _ _ _ _ _ _ _ aD (@pv _ 0 _ _ (by rfl) (by trivial) (by decide) (by decide)) (@ad _ _ _ _) (fun _ _=>rfl)) (@aa _ _ _ _ _ (@pv _ 1 _ _ (by rfl) (by trivial) (by decide) (by decide)) (@ae _) (by rfl)) (by rfl)) (by decide) (by rfl) (by rfl)))))))))),?_⟩
 cases k with
 | whole=>
  subst hv
  refine ⟨_,rfl,b,_,0,.str "whole",rfl,rfl,SqT.of hb,ag (j:=0) rfl,rfl,_,rfl,aW (fun h=>absurd h (by decide +kernel)) (fun _=>?_)⟩
  refine ⟨_,rfl,b,_,0,.str "whole",rfl,rfl,SqT.of hb,ag (j:=0) rfl,rfl,_,rfl,aW (fun h=>absurd h (by decide +kernel)) (fun _=>?_)⟩
  exact ⟨_,rfl,b,_,0,.str "whole",rfl,rfl,SqT.of hb,ag (j:=0) rfl,rfl,_,rfl,aW (fun h=>absurd h (by decide +kernel)) (fun _=>q)⟩
 | place c ps=>
  obtain ⟨l,rfl,Rl⟩:=hv
  refine ⟨_,rfl,b,_,0,.str "place",rfl,rfl,SqT.of hb,ag (j:=0) rfl,rfl,_,rfl,aW (fun _=>?_) (fun h=>absurd (by decide +kernel) h)⟩
  refine ⟨_,rfl,b,_,1,l,rfl,rfl,SqT.of hb,ag (j:=1) rfl,_,rfl,l,d,c,ps,nums,xs,rfl,Rl,kg,hn,hd,rfl,?_⟩
  rw [show decide (V.int (amt nums c ps)=V.int 0)=decide (amt nums c ps=0) from decide_eq_decide.mpr ⟨fun z=>by injection z,fun z=>by rw [z]⟩]
  exact q
 | row c ps j=>
  obtain ⟨l,u,rfl,Rl,Ru⟩:=hv
  have jn:j.size<=n:=by have:j.size + 1<=n + 1:=kn; omega
  refine ⟨_,rfl,b,_,0,.str "row",rfl,rfl,SqT.of hb,ag (j:=0) rfl,rfl,_,rfl,aW (fun h=>absurd h (by decide +kernel)) (fun _=>?_)⟩
  refine ⟨_,rfl,b,_,0,.str "row",rfl,rfl,SqT.of hb,ag (j:=0) rfl,rfl,_,rfl,aW (fun _=>?_) (fun h=>absurd (by decide +kernel) h)⟩
  refine ⟨_,rfl,b,_,1,l,rfl,rfl,SqT.of hb,ag (j:=1) rfl,_,rfl,l,d,c,ps,nums,xs,rfl,Rl,kg.1,hn,hd,_,_,rfl,rfl,_,rfl,?_⟩
  have q':Q (.bl (decide (amt nums c ps > 0) && lkD nums j)) H:=q
  by_cases z:amt nums c ps > 0
  ·rw [decide_eq_true z,Bool.true_and] at q'
   rw [decide_eq_true z]
   exact cQ ⟨_,rfl,b,_,2,u,rfl,rfl,SqT.of hb,ag (j:=2) rfl,_,rfl,u,d,j,nums,xs,rfl,Ru,jn,kg.2,hn,hd,q'⟩
  ·rw [decide_eq_false z,Bool.false_and] at q'
   rw [decide_eq_false z]
   exact cF q'
 | pair i j=>
  obtain ⟨l,u,rfl,Rl,Ru⟩:=hv
  have ks:i.size + j.size + 1<=n + 1:=kn
  refine ⟨_,rfl,b,_,0,.str "pair",rfl,rfl,SqT.of hb,ag (j:=0) rfl,rfl,_,rfl,aW (fun h=>absurd h (by decide +kernel)) (fun _=>?_)⟩
  refine ⟨_,rfl,b,_,0,.str "pair",rfl,rfl,SqT.of hb,ag (j:=0) rfl,rfl,_,rfl,aW (fun h=>absurd h (by decide +kernel)) (fun _=>?_)⟩
  refine ⟨_,rfl,b,_,0,.str "pair",rfl,rfl,SqT.of hb,ag (j:=0) rfl,rfl,_,rfl,aW (fun _=>?_) (fun h=>absurd (by decide +kernel) h)⟩
  refine ⟨_,rfl,b,_,1,l,rfl,rfl,SqT.of hb,ag (j:=1) rfl,_,rfl,l,d,i,nums,xs,rfl,Rl,by omega,kg.1,hn,hd,_,rfl,?_⟩
  have q':Q (.bl (lkD nums i || lkD nums j)) H:=q
  cases e:lkD nums i with
  | true=>
   rw [e,Bool.true_or] at q'
   exact cQ q'
  | false=>
   rw [e,Bool.false_or] at q'
   exact cF ⟨_,rfl,b,_,2,u,rfl,rfl,SqT.of hb,ag (j:=2) rfl,_,rfl,u,d,j,nums,xs,rfl,Ru,by omega,kg.2,hn,hd,q'⟩
theorem ug:aR ["_law_found","_law_least"] ["_law_found","_law_least"] (ai eR):=⟨rfl,rfl,rfl,by decide +kernel,rfl,by decide +kernel,by decide +kernel⟩
theorem sg {f:Addr} {fd:FuncData} (F:Fun K "_law_whole" "_law_whole" eR f fd) (T:Txt K mg):bj P w K mg base CX0 1 f fd ["_law_found","_law_least"] jQ:=by
 refine F.ok ug (fun vs H Q E h=>?_) (fun cdv A outer s H vs Q E hr h=>?_)
 ·obtain ⟨i,j,rfl,_⟩:=h
  rfl
 obtain ⟨i,j,rfl,q⟩:=h
 refine ⟨_,(@aj _ _ _ (@aA _ _ _ _ (@dU _ _ _ _ _ _ _ (@aK _ _ _ _ _ _ _ _ _ di rfl T.isinstance (by decide +kernel) (@aa _ _ _ _ _ (@pv _ 0 _ _ (by rfl) (by trivial) (by decide) (by decide)) (@aa _ _ _ _ _ (@cT _ _ (.ty "int") _ _ rfl T.int (by decide +kernel) rfl (by decide) (by decide)) (@ae _) (by rfl)) (by rfl)) (by decide) (by decide) (by rfl) (by rfl)) (@dU _ _ _ _ _ _ _ (@sL _ _ _ _ (@aK _ _ _ _ _ _ _ _ _ di rfl T.isinstance (by decide +kernel) (@aa _ _ _ _ _ (@pv _ 0 _ _ (by rfl) (by trivial) (by decide) (by decide)) (@aa _ _ _ _ _ (@cT _ _ (.ty "bool") _ _ rfl T.bool (by decide +kernel) rfl (by decide) (by decide)) (@ae _) (by rfl)) (by rfl)) (by decide) (by decide) (by rfl) (by rfl))) (@eA _ _ _ _ _ (@eK _ _ _ _ _ _ _ _ xX (@pv _ 0 _ _ (by rfl) (by trivial) (by decide) (by decide)) (@pv _ 1 _ _ (by rfl) (by trivial) (by decide) (by decide)) (aM _))))))),?_⟩
 refine ⟨_,rfl,_,_,_,_,rfl,.int i,pC K (.int i),_,rfl,cQ ⟨_,rfl,_,_,_,_,rfl,.int i,iC K (.int i),_,rfl,⟨_,rfl,cQ ⟨_,rfl,_,rfl,_,_,rfl,rfl,q⟩⟩⟩⟩
theorem uf:aR ["_law_value_here"] ["_law_value_here"] (ai eL):=⟨rfl,rfl,rfl,by decide +kernel,rfl,by decide +kernel,by decide +kernel⟩
theorem rH {f:Addr} {fd:FuncData} {k0 n:Nat} (F:Fun K "_law_stand" "_law_stand" eL f fd) (T:Txt K mg) (D_law_stand:Def P w K mg base k0 "_law_stand" ["_law_value_here"] (fW n)):bj P w K mg base CX0 (k0 + 1) f fd ["_law_value_here"] (fW (n + 1)):=by
 refine F.ok uf (fun vs H Q E h=>?_) (fun cdv A outer s H vs Q E hr h=>?_)
 ·obtain ⟨v,x,rfl,_⟩:=h
  rfl
 obtain ⟨v,x,rfl,R,⟨m,mn,pl⟩,sm,q⟩:=h
 refine ⟨_,(@ah _ _ _ _ _ (@bi _ _ _ _ _ _ _ _ (@dL _ _ _ (@aK _ _ _ _ _ _ _ _ _ di rfl T.isinstance (by decide +kernel) (@aa _ _ _ _ _ (@pv _ 0 _ _ (by rfl) (by trivial) (by decide) (by decide)) (@aa _ _ _ _ _ (@cT _ _ (.ty "tuple") _ _ rfl T.tuple (by decide +kernel) rfl (by decide) (by decide)) (@ae _) (by rfl)) (by rfl)) (by decide) (by decide) (by rfl) (by rfl)) (by intro _; rfl)) (@aj _ _ _ (@aA _ _ _ _ (@aK _ _ _ _ _ _ _ _ _ (gz rfl) rfl T.sum (by decide +kernel) (@aa _ _ _ _ _ (@iM _ _ (["_law_part"]) ([]) _ _ _ _ _ _ _ _ _ (@bQ _ _ _ _ (@pv _ 0 _ _ (by rfl) (by trivial) (by decide) (by decide))) (.of rfl) rfl (fun _ _ _=>au (i:=0) (cN (l:=["_law_part"]) ((by decide +kernel)) rfl) rfl (Or.inl rfl)) (fY (by decide)) (fun _ _ _=>(@cG _)) (fun _ _ _=>(@ao _ _ _ _ _ _ _ _ _ _ D_law_stand hr rfl (@aa _ _ _ _ _ (@pv _ 0 _ _ (by rfl) (by trivial) (by decide) (by decide)) (@ae _) (by rfl)) (by decide) (by rfl) (by rfl))) (by intro _; rfl)) (@ae _) (by rfl)) (by decide) (by decide) (by rfl) (by rfl)))) (@aN _)) (@aj _ _ _ (@aA _ _ _ _ (@ad _ _ _ _)))),?_⟩
 refine ⟨_,rfl,v,_,_,_,rfl,R.ty,eO K x,_,rfl,?_⟩
 cases x with
 | tup ds=>
  obtain ⟨g,us,rfl,hg,rs⟩:=Rep.tup_inv R
  have lus:=rs.length
  simp only [Dv.small,Bool.and_eq_true,decide_eq_true_eq] at sm
  have pl':∀ d∈ds,∃ m,m < n/\L2.Pl m d:=fun d hd=>by cases pl with | @tup m' _ h=>exact ⟨m',by omega,h d hd⟩
  refine cQ ⟨_,rfl,g,rfl,⟨us,SqT.of hg⟩,?_⟩
  refine fg (xs:=us) (fun i ys H'=>aq H H'/\ys=((ds.take i).map stD).map V.int) ⟨aq.refl _,rfl⟩ (fun i ys H' _ p=>SqT.of (p.1 _ _ hg)) ?_ ?_
  ·rintro i ys H1 x hx ⟨s1,rfl⟩
   obtain ⟨y,hy,Ry⟩:=rs.get hx
   have hi:i < us.length:=(List.getElem?_eq_some_iff.mp hx).1
   refine gs ⟨_,rfl,x,y,rfl,Ry.mono s1,pl' y (List.mem_of_getElem? hy),cL sm.1 hy,fun H2 s2=>⟨?_,s1.trans s2,?_⟩⟩
   ·simp only [List.length_map,List.length_take,sizeLine_eq]; omega
   ·rw [List.take_add_one,hy,List.map_append,List.map_append]; rfl
  ·rintro ys H1 ⟨s1,rfl⟩ l hl
   rw [lus,List.take_length]
   refine ⟨l,_,rfl,SqL.of af,?_⟩
   have e:∀ ds:List Dv,(ds.map stD).sum=stD.stDs ds:=fun ds=>by
    induction ds with
    | nil=>rfl
    | cons d ds ih=>rw [List.map_cons,List.sum_cons,ih]; rfl
   rw [e]
   exact q _ (s1.trans (ak hl _))
 | _=>exact cF (q H (aq.refl H))
theorem nJ:aR ["_law_kind","_law_numbers"] ["_law_kind","_law_numbers"] (ai eT):=⟨rfl,rfl,rfl,by decide +kernel,rfl,by decide +kernel,by decide +kernel⟩
theorem tf {f:Addr} {fd:FuncData} {k0 n:Nat} (F:Fun K "_law_value" "_law_value" eT f fd) (T:Txt K mg) (D_law_worth:Def P w K mg base k0 "_law_worth" ["_law_length_here","_law_numbers"] cn) (D_law_value:Def P w K mg base k0 "_law_value" ["_law_kind","_law_numbers"] (fI n)):bj P w K mg base CX0 (k0 + 1) f fd ["_law_kind","_law_numbers"] (fI (n + 1)):=by
 have nd:(["_law_kind","_law_numbers"]:List Str).Nodup:=nJ.nd
 refine F.ok nJ (fun vs H Q E h=>?_) (fun cdv A outer s H vs Q E hr h=>?_)
 ·obtain ⟨v,d,k,nums,xs,rfl,_⟩:=h
  rfl
 obtain ⟨v,d,k,nums,xs,rfl,R,kn,kf,hn,hd,m60,q⟩:=h
 obtain ⟨b,vs,rfl,hb,hv⟩:=Kd.inv R
 refine ⟨_,(@ah _ _ _ _ _ (@bi _ _ _ _ _ _ _ _ (@aG _ _ _ _ _ _ _ _ bK (@aE _ _ _ _ _ _ _ aD (@pv _ 0 _ _ (by rfl) (by trivial) (by decide) (by decide)) (@ad _ _ _ _) (fun _ _=>rfl)) (@bq _ _ _ _) (aM _)) (@aj _ _ _ (@aA _ _ _ _ (@bH _ _ _ _ _ _ _ _ _ bO rfl T.tuple (by decide +kernel) (@aa _ _ _ _ _ (@iM _ _ (["_law_k"]) ([0,1]) _ _ _ _ _ _ _ _ _ (@gj _ _ _ _ _ _ rfl T.range (@aa _ _ _ _ _ (@ao _ _ _ _ _ _ _ _ _ _ D_law_worth hr rfl (@aa _ _ _ _ _ (@aE _ _ _ _ _ _ _ aD (@pv _ 0 _ _ (by rfl) (by trivial) (by decide) (by decide)) (@ad _ _ _ _) (fun _ _=>rfl)) (@aa _ _ _ _ _ (@pv _ 1 _ _ (by rfl) (by trivial) (by decide) (by decide)) (@ae _) (by rfl)) (by rfl)) (by decide) (by rfl) (by rfl)) (@ae _) (by rfl)) (by rfl)) (.of rfl) rfl (fun _ _ _=>au (i:=0) (cN (l:=["_law_k","_law_kind","_law_numbers"]) ((by decide +kernel)) rfl) rfl (Or.inl rfl)) (fY (by decide)) (fun _ _ _=>(@cG _)) (fun _ _ _=>(@ao _ _ _ _ _ _ _ _ _ _ D_law_value hr rfl (@aa _ _ _ _ _ (@aE _ _ _ _ _ _ _ (uY K rfl) (@pv _ 1 _ _ (by rfl) (by trivial) (by decide) (by decide)) (@ad _ _ _ _) (fun _ _=>rfl)) (@aa _ _ _ _ _ (@pv _ 2 _ _ (by rfl) (by trivial) (by decide) (by decide)) (@ae _) (by rfl)) (by rfl)) (by decide) (by rfl) (by rfl))) (by intro _; rfl)) (@ae _) (by rfl)) (by decide) (by decide) (by rfl) (by rfl)))) (@aN _)) (@ah _ _ _ _ _ (@bi _ _ _ _ _ _ _ _ (@aG _ _ _ _ _ _ _ _ bK (@aE _ _ _ _ _ _ _ aD (@pv _ 0 _ _ (by rfl) (by trivial) (by decide) (by decide)) (@ad _ _ _ _) (fun _ _=>rfl)) (@bq _ _ _ _) (aM _)) (@aj _ _ _ (@aA _ _ _ _ (@bE _ _ _ _ _ (@aa _ _ _ _ _ (@ao _ _ _ _ _ _ _ _ _ _ D_law_value hr rfl (@aa _ _ _ _ _ (@aE _ _ _ _ _ _ _ aD (@pv _ 0 _ _ (by rfl) (by trivial) (by decide) (by decide)) (@ad _ _ _ _) (fun _ _=>rfl)) (@aa _ _ _ _ _ (@pv _ 1 _ _ (by rfl) (by trivial) (by decide) (by decide)) (@ae _) (by rfl)) (by rfl)) (by decide) (by rfl) (by rfl)) (@aa _ _ _ _ _ (@ao _ _ _ _ _ _ _ _ _ _ D_law_value hr rfl (@aa _ _ _ _ _ (@aE _ _ _ _ _ _ _ aD (@pv _ 0 _ _ (by rfl) (by trivial) (by decide) (by decide)) (@ad _ _ _ _) (fun _ _=>rfl)) (@aa _ _ _ _ _ (@pv _ 1 _ _ (by rfl) (by trivial) (by decide) (by decide)) (@ae _) (by rfl)) (by rfl)) (by decide) (by rfl) (by rfl)) (@ae _) (by rfl)) (by rfl))))) (@aN _)) (@aj _ _ _ (@aA _ _ _ _ (@ad _ _ _ _))))),?_⟩
 cases k with
 | whole=>
  subst hv
  refine ⟨_,rfl,b,_,0,.str "whole",rfl,rfl,SqT.of hb,ag (j:=0) rfl,rfl,_,rfl,aW (fun h=>absurd h (by decide +kernel)) (fun _=>?_)⟩
  refine ⟨_,rfl,b,_,0,.str "whole",rfl,rfl,SqT.of hb,ag (j:=0) rfl,rfl,_,rfl,aW (fun h=>absurd h (by decide +kernel)) (fun _=>q H _ (aq.refl _) (by simp only [zv,Rep]))⟩
 | place c ps=>
  obtain ⟨l,rfl,Rl⟩:=hv
  refine ⟨_,rfl,b,_,0,.str "place",rfl,rfl,SqT.of hb,ag (j:=0) rfl,rfl,_,rfl,aW (fun h=>absurd h (by decide +kernel)) (fun _=>?_)⟩
  refine ⟨_,rfl,b,_,0,.str "place",rfl,rfl,SqT.of hb,ag (j:=0) rfl,rfl,_,rfl,aW (fun h=>absurd h (by decide +kernel)) (fun _=>q H _ (aq.refl _) (by simp only [zv,Rep]))⟩
 | row c ps j=>
  obtain ⟨l,u,rfl,Rl,Ru⟩:=hv
  have jn:j.size<=n:=by have:j.size + 1<=n + 1:=kn; omega
  obtain ⟨am0,am1⟩:=bT hn kf.1
  have pj:=cE hn kf.2
  refine ⟨_,rfl,b,_,0,.str "row",rfl,rfl,SqT.of hb,ag (j:=0) rfl,rfl,_,rfl,aW (fun _=>?_) (fun h=>absurd (by decide +kernel) h)⟩
  refine ⟨_,rfl,b,_,1,l,rfl,rfl,SqT.of hb,ag (j:=1) rfl,_,rfl,l,d,c,ps,nums,xs,rfl,Rl,kf.1,hn,hd,?_⟩
  refine ⟨_,rfl,by omega,by omega,mS (n:=(amt nums c ps).toNat) (fun i ys H'=>aq H H'/\Reps H' (List.replicate i (zv nums j)) ys) ⟨aq.refl _,by simp only [List.replicate,Reps]⟩ ?_ ?_⟩
  ·rintro i ys H1 hi ⟨s1,Rs⟩
   have ly:=Rs.length
   rw [List.length_replicate] at ly
   refine gs ⟨_,rfl,b,_,2,u,rfl,rfl,SqT.of (s1 _ _ hb),ag (j:=2) rfl,_,rfl,u,d,j,nums,xs,rfl,Ru.mono s1,jn,kf.2,hn,s1 _ _ hd,(uc (n:=amt nums c ps) (by omega) pj m60).1,fun H2 w1 s2 R2=>⟨by rw [ly,sizeLine_eq]; omega,s1.trans s2,?_⟩⟩
   rw [List.replicate_succ']
   exact Reps.append (Rs.mono s2) (cM R2)
  ·rintro ys H1 ⟨s1,Rs⟩ g hg
   have q2:=ak hg (.lst ys)
   refine ⟨g,ys,rfl,.inl ⟨SqL.of af,fun p hp=>?_⟩⟩
   have q3:=ak hp (.tup ys)
   refine q _ (.ref p) (s1.trans (q2.trans q3)) ?_
   simp only [zv,Rep]
   exact ⟨p,ys,rfl,af,(Rs.mono q2).mono q3⟩
 | pair i j=>
  obtain ⟨l,u,rfl,Rl,Ru⟩:=hv
  have ks:i.size + j.size + 1<=n + 1:=kn
  have p1:=cE hn kf.1
  have p2:=cE hn kf.2
  have mm:1 + thg nums i + thg nums j<=200:=m60
  refine ⟨_,rfl,b,_,0,.str "pair",rfl,rfl,SqT.of hb,ag (j:=0) rfl,rfl,_,rfl,aW (fun h=>absurd h (by decide +kernel)) (fun _=>?_)⟩
  refine ⟨_,rfl,b,_,0,.str "pair",rfl,rfl,SqT.of hb,ag (j:=0) rfl,rfl,_,rfl,aW (fun _=>?_) (fun h=>absurd (by decide +kernel) h)⟩
  refine ⟨_,rfl,b,_,1,l,rfl,rfl,SqT.of hb,ag (j:=1) rfl,_,rfl,l,d,i,nums,xs,rfl,Rl,by omega,kf.1,hn,hd,by omega,fun H1 w1 s1 R1=>?_⟩
  refine ⟨_,rfl,b,_,2,u,rfl,rfl,SqT.of (s1 _ _ hb),ag (j:=2) rfl,_,rfl,u,d,j,nums,xs,rfl,Ru.mono s1,by omega,kf.2,hn,s1 _ _ hd,by omega,fun H2 w2 s2 R2=>⟨z2,fun p hp=>?_⟩⟩
  have q3:=ak hp (.tup [w1,w2])
  refine q _ (.ref p) (s1.trans (s2.trans q3)) ?_
  simp only [zv,Rep,Reps]
  exact ⟨p,_,rfl,af,_,_,rfl,(R1.mono s2).mono q3,_,_,rfl,R2.mono q3,rfl⟩
end
abbrev bY:Stmt:=top 31
def ik (K:PySem.W.Frag):Sp:=fun vs H Q _=>∃ (v:V) (m:List PM) (xs:List Str) (k:Kd),vs=[v]/\SmR K H m v/\Wg xs k m/\k.size<=12/\∀ H',aq H H'->Q (.bl true) H'
section
variable {P:Program} {w:World} {K:PySem.W.Frag} {mg:Str->Option Value} {base:Heap}
theorem jK:aR ["_law_told","_law_powers","_law_times","_law_called"] ["_law_told"] (ai bY):=⟨rfl,rfl,rfl,by decide +kernel,rfl,by decide +kernel,by decide +kernel⟩
theorem qD {f:Addr} {fd:FuncData} {k0:Nat} (F:Fun K "_law_formed" "_law_formed" bY f fd) (T:Txt K mg) (D_law_whole:Def P w K mg base k0 "_law_whole" ["_law_found","_law_least"] jQ):bj P w K mg base CX0 (k0 + 1) f fd ["_law_told"] (ik K):=by
 have nd:(["_law_told","_law_powers","_law_times","_law_called"]:List Str).Nodup:=jK.nd
 refine F.ok jK (fun vs H Q E h=>?_) (fun cdv A outer s H vs Q E hr h=>?_)
 ·obtain ⟨v,m,xs,k,rfl,_⟩:=h
  rfl
 obtain ⟨v,m,xs,k,rfl,⟨a,us,rfl,ta,R⟩,W,k12,q⟩:=h
 have hu150:(A.deeper (PyProof.Rows.envOfC "_law_formed" (ai bY) s.heap.objs.size f cdv)).units + 150 < cLine:=by have:=hr.un; omega
 have hu20:(A.deeper (PyProof.Rows.envOfC "_law_formed" (ai bY) s.heap.objs.size f cdv)).units + 20 < cLine:=by omega
 have hu10:(A.deeper (PyProof.Rows.envOfC "_law_formed" (ai bY) s.heap.objs.size f cdv)).units + 10 < cLine:=by omega
 obtain ⟨ts,rfl,em,it⟩:=wY R
 have few:=W.few
 have lt:ts.length=m.length:=by rw [<- em,List.length_map]
 refine ⟨_,(@ah _ _ _ _ _ (@bi _ _ _ _ _ _ _ _ (@PW.pt _ _ _ (@lM _ _ _ _ _ _ _ (@fk _ _ _ _ (@dL _ _ _ (@aK _ _ _ _ _ _ _ _ _ jM rfl T.isinstance (by decide +kernel) (@aa _ _ _ _ _ (@pv _ 0 _ _ (by rfl) (by trivial) (by decide) (by decide)) (@aa _ _ _ _ _ (@cT _ _ (.ty "tuple") _ _ rfl T.tuple (by decide +kernel) rfl (by decide) (by decide)) (@ae _) (by rfl)) (by rfl)) (by decide) (by decide) (by rfl) (by rfl)) (by intro _; rfl))) (@iX _ _ _ _ (@aG _ _ _ _ _ _ _ _ (wj hu150) (@bH _ _ _ _ _ _ _ _ _ kI rfl T.list (by decide +kernel) (@aa _ _ _ _ _ (@pv _ 0 _ _ (by rfl) (by trivial) (by decide) (by decide)) (@ae _) (by rfl)) (by decide) (by decide) (by rfl) (by rfl)) (@aK _ _ _ _ _ _ _ _ _ (kC rfl hu10) rfl T.sorted (by decide +kernel) (@aa _ _ _ _ _ (@bH _ _ _ _ _ _ _ _ _ (qU rfl hu20) rfl T.set (by decide +kernel) (@aa _ _ _ _ _ (@pv _ 0 _ _ (by rfl) (by trivial) (by decide) (by decide)) (@ae _) (by rfl)) (by decide) (by decide) (by rfl) (by rfl)) (@ae _) (by rfl)) (by decide) (by decide) (by rfl) (by rfl)) (aM _))))) (@aj _ _ _ (@aA _ _ _ _ (@dq _ _ _ _))) (@aN _)) (@ah _ _ _ _ _ (@bW _ _ _ _ _ _ _ _ PassesOwn.never rfl (@bQ _ _ _ _ (@pv _ 0 _ _ (by rfl) (by trivial) (by decide) (by decide))) (@bD _ _ _ _ _ _ rfl (@av _ _ _ _ _ (@au _ _ (1) _ nd rfl (Or.inl rfl) (by trivial)) (@av _ _ _ _ _ (@au _ _ (2) _ nd rfl (Or.inl rfl) (by trivial)) (@bo _) (by rfl)) (by rfl)) (by rfl) (by rfl)) (@ah _ _ _ _ _ (@bi _ _ _ _ _ _ _ _ (@PW.pt _ _ _ (@lM _ _ _ _ _ _ _ (@fk _ _ _ _ (@dL _ _ _ (@aK _ _ _ _ _ _ _ _ _ jM rfl T.isinstance (by decide +kernel) (@aa _ _ _ _ _ (@pv _ 1 _ _ (by rfl) (by trivial) (by decide) (by decide)) (@aa _ _ _ _ _ (@cT _ _ (.ty "tuple") _ _ rfl T.tuple (by decide +kernel) rfl (by decide) (by decide)) (@ae _) (by rfl)) (by rfl)) (by decide) (by decide) (by rfl) (by rfl)) (by intro _; rfl))) (@iX _ _ _ _ (@fk _ _ _ _ (@dL _ _ _ (@ao _ _ _ _ _ _ _ _ _ _ D_law_whole hr rfl (@aa _ _ _ _ _ (@pv _ 2 _ _ (by rfl) (by trivial) (by decide) (by decide)) (@aa _ _ _ _ _ (@ad _ _ _ _) (@ae _) (by rfl)) (by rfl)) (by decide) (by rfl) (by rfl)) (by intro _; rfl)))))) (@aj _ _ _ (@aA _ _ _ _ (@dq _ _ _ _))) (@aN _)) (@ah _ _ _ _ _ (@vE _ _ (["_law_name","_law_power"]) ([]) _ _ _ _ _ _ _ _ _ _ _ (3) _ nd rfl rfl (@bQ _ _ _ _ (@pv _ 1 _ _ (by rfl) (by trivial) (by decide) (by decide))) (.of rfl) rfl (fun _ _ _=>bD rfl (@av _ _ _ _ _ (@au _ _ (0) _ (cN (l:=["_law_name","_law_power"]) ((by decide +kernel)) rfl) rfl (Or.inl rfl) (by trivial)) (@av _ _ _ _ _ (@au _ _ (1) _ (cN (l:=["_law_name","_law_power"]) ((by decide +kernel)) rfl) rfl (Or.inl rfl) (by trivial)) (@bo _) (by rfl)) (by rfl))) (gA (by decide) (by decide)) (fun _ _ _=>(@cG _)) (fun _ _ _=>(@pv _ 0 _ _ (by rfl) (by trivial) (by decide) (by decide))) (by rfl) (by intro _; rfl)) (@aj _ _ _ (@bi _ _ _ _ _ _ _ _ (@PW.pt _ _ _ (@lM _ _ _ _ _ _ _ (@aG _ _ _ _ _ _ _ _ (vn hu150) (@pv _ 3 _ _ (by rfl) (by trivial) (by decide) (by decide)) (@aK _ _ _ _ _ _ _ _ _ (kO rfl) rfl T.sorted (by decide +kernel) (@aa _ _ _ _ _ (@bH _ _ _ _ _ _ _ _ _ (qz rfl) rfl T.set (by decide +kernel) (@aa _ _ _ _ _ (@pv _ 3 _ _ (by rfl) (by trivial) (by decide) (by decide)) (@ae _) (by rfl)) (by decide) (by decide) (by rfl) (by rfl)) (@ae _) (by rfl)) (by decide) (by decide) (by rfl) (by rfl)) (aM _)) (@iX _ _ _ _ (@fk _ _ _ _ (@dL _ _ _ (@aK _ _ _ _ _ _ _ _ _ (sB rfl) rfl T.all (by decide +kernel) (@aa _ _ _ _ _ (@iM _ _ (["_law_name","_law_power"]) ([]) _ _ _ _ _ _ _ _ _ (@bQ _ _ _ _ (@pv _ 1 _ _ (by rfl) (by trivial) (by decide) (by decide))) (.of rfl) rfl (fun _ _ _=>bD rfl (@av _ _ _ _ _ (@au _ _ (0) _ (cN (l:=["_law_name","_law_power"]) ((by decide +kernel)) rfl) rfl (Or.inl rfl) (by trivial)) (@av _ _ _ _ _ (@au _ _ (1) _ (cN (l:=["_law_name","_law_power"]) ((by decide +kernel)) rfl) rfl (Or.inl rfl) (by trivial)) (@bo _) (by rfl)) (by rfl))) (gA (by decide) (by decide)) (fun _ _ _=>(@cG _)) (fun _ _ _=>(@ao _ _ _ _ _ _ _ _ _ _ D_law_whole hr rfl (@aa _ _ _ _ _ (@pv _ 1 _ _ (by rfl) (by trivial) (by decide) (by decide)) (@aa _ _ _ _ _ (@ad _ _ _ _) (@ae _) (by rfl)) (by rfl)) (by decide) (by rfl) (by rfl))) (by intro _; rfl)) (@ae _) (by rfl)) (by decide) (by decide) (by rfl) (by rfl)) (by intro _; rfl)))))) (@aj _ _ _ (@aA _ _ _ _ (@dq _ _ _ _))) (@aN _))))) (by intro _; rfl)) (@aj _ _ _ (@aA _ _ _ _ (@eK _ _ _ _ _ _ _ _ bK (@aK _ _ _ _ _ _ _ _ _ qB rfl T.len (by decide +kernel) (@aa _ _ _ _ _ (@bH _ _ _ _ _ _ _ _ _ (qw rfl hu20) rfl T.set (by decide +kernel) (@aa _ _ _ _ _ (@iM _ _ (["_law_powers","_law_times"]) ([]) _ _ _ _ _ _ _ _ _ (@bQ _ _ _ _ (@pv _ 0 _ _ (by rfl) (by trivial) (by decide) (by decide))) (.of rfl) rfl (fun _ _ _=>bD rfl (@av _ _ _ _ _ (@au _ _ (0) _ (cN (l:=["_law_powers","_law_times"]) ((by decide +kernel)) rfl) rfl (Or.inl rfl) (by trivial)) (@av _ _ _ _ _ (@au _ _ (1) _ (cN (l:=["_law_powers","_law_times"]) ((by decide +kernel)) rfl) rfl (Or.inl rfl) (by trivial)) (@bo _) (by rfl)) (by rfl))) (gA (by decide) (by decide)) (fun _ _ _=>(@cG _)) (fun _ _ _=>(@pv _ 0 _ _ (by rfl) (by trivial) (by decide) (by decide))) (by intro _; rfl)) (@ae _) (by rfl)) (by decide) (by decide) (by rfl) (by rfl)) (@ae _) (by rfl)) (by decide) (by decide) (by rfl) (by rfl)) (@aK _ _ _ _ _ _ _ _ _ bJ rfl T.len (by decide +kernel) (@aa _ _ _ _ _ (@pv _ 0 _ _ (by rfl) (by trivial) (by decide) (by decide)) (@ae _) (by rfl)) (by decide) (by decide) (by rfl) (by rfl)) (aM _)))))),?_⟩
 have eb:ts.map (fun t=>V.ref t.1)=(ts.map (·.1)).map V.ref:=by rw [List.map_map]; rfl
 have ndk:=mD W.up
 have pwt:ts.Pairwise (fun a b=>ltK a.2.2.1 b.2.2.1=true):=by
  have u:Up (ts.map (·.2.2)):=by rw [em]; exact W.up
  exact List.pairwise_map.mp u
 refine ⟨_,rfl,a,_,rfl,ta.sq,_,rfl,cF ?_⟩
 refine ⟨_,rfl,a,_,rfl,.inr ta.sq,fun l1 hl1=>?_⟩
 have q1:=ak hl1 (.lst (ts.map fun t=>V.ref t.1))
 have h1:upd H l1 (.lst (ts.map fun t=>V.ref t.1)) l1=some (.lst (ts.map fun t=>V.ref t.1)):=af
 generalize upd H l1 (.lst (ts.map fun t=>V.ref t.1))=H1 at q1 h1 ⊢
 refine ⟨_,rfl,a,ts.map (·.1),m,rfl,by rw [<- eb]; exact (ta.tups (aq.tups q1)).sq,by rw [<- eb]; exact dW q1 R,ndk,by omega,fun s1 hs1=>?_⟩
 have q2:=ak hs1 (gq w s1 (ts.map (·.1)))
 have h2:upd H1 s1 (gq w s1 (ts.map (·.1))) s1=some (gq w s1 (ts.map (·.1))):=af
 refine ⟨s1,ts,rfl,h2,fun t ht=>?_,pwt,by omega,fun l2 hl2=>?_⟩
 ·have:=it t ht
  exact ⟨this.at_.tups (aq.tups (q1.trans q2)),this.key.mono (q1.trans q2)⟩
 have q3:=ak hl2 (.lst (ts.map fun t=>V.ref t.1))
 refine ⟨l1,l2,ts.map (·.1),rfl,rfl,by rw [<- eb]; exact q3 _ _ (q2 _ _ h1),by rw [<- eb]; exact af,_,rfl,cF ?_⟩
 have s0:=q1.trans (q2.trans q3)
 refine tnx ?_
 generalize upd (upd H1 s1 (gq w s1 (ts.map (·.1)))) l2 (.lst (ts.map fun t=>V.ref t.1))=H3 at s0 ⊢
 refine ⟨_,rfl,a,rfl,⟨_,(ta.tups (aq.tups s0)).sq⟩,cV (xs:=ts.map fun (t:IT)=>V.ref t.1) (fun i σ H'=>aq H H'/\∃ (o1 o2 o3:Option V),σ=[some (.ref a),o1,o2,o3]) ⟨s0,_,_,_,rfl⟩ (fun i σ H' _ p=>(ta.tups (aq.tups p.1)).sq) ?_ ?_⟩
 ·rintro i x σ H4 hx ⟨s4,o1,o2,o3,rfl⟩
  obtain ⟨p,hp,c,b,rfl,tc,kb⟩:=bP R hx
  have hpm:=List.mem_of_getElem? hp
  have ky:=W.ky p hpm
  obtain ⟨vs,tb,rv⟩:=kb.tup
  have t4:=aq.tups s4
  refine ⟨c,_,rfl,(tc.tups t4).sq,rfl,_,_,rfl,_,_,rfl,rfl,?_⟩
  refine ⟨_,rfl,b,vs,rfl,(tb.tups t4).sq,_,rfl,cF ⟨_,rfl,p.2,1,rfl,_,rfl,?_⟩⟩
  rw [show decide (p.2>=1)=true from decide_eq_true (W.ge p hpm)]
  refine cF (tnx ?_)
  have lvs:vs.length=p.1.length:=by have:=rv.length; rwa [aB,List.length_map] at this
  have lp:=ky.len
  refine ⟨_,rfl,b,rfl,⟨vs,(tb.tups t4).sq⟩,fg (xs:=vs) (fun i ys H'=>H'=H4/\ys=((p.1.take i).map fun (r:Pr)=>r.1).map V.str) ⟨rfl,rfl⟩ (fun i ys H' _ z=>by rw [z.1]; exact (tb.tups t4).sq) ?_ ?_⟩
  ·rintro i ys H5 y hy ⟨rfl,rfl⟩
   obtain ⟨r,e,hr',rfl,he⟩:=dN rv hy
   refine eN (SqT.of (s4 _ _ he)) ⟨_,rfl,?_,rfl,?_⟩
   ·simp only [List.length_map,List.length_take,sizeLine_eq]; omega
   ·rw [List.take_add_one,hr',List.map_append,List.map_append]; rfl
  rintro ys H5 ⟨rfl,rfl⟩ l hl
  rw [lvs,List.take_length]
  refine gnm ?_
  dsimp only
  have pwn:(p.1.map fun (r:Pr)=>r.1).Pairwise sF:=List.pairwise_map.mpr (ky.can.pw.imp fun h=>h)
  have q5:=ak hl (.lst ((p.1.map fun (r:Pr)=>r.1).map V.str))
  refine ⟨_,rfl,_,rfl,l,_,rfl,SqL.of af,by rw [List.length_map]; omega,fun sa zs hsa ndz mz lz=>?_⟩
  have q6:=ak hsa (SetO P w sa zs)
  refine ⟨sa,zs,rfl,af,ndz,by rw [List.length_map] at lz; omega,fun l2 qs hl2 pq pw=>?_⟩
  have q7:=ak hl2 (.lst (qs.map V.str))
  obtain rfl:qs=p.1.map fun (r:Pr)=>r.1:=by
   have nd1:(p.1.map fun (r:Pr)=>r.1).Nodup:=pwn.imp fun h e=>by rw [e] at h; exact eD _ h
   refine List.Perm.eq_of_pairwise (le:=sF) (fun a b _ _ x y=>(eD _ (List.lt_trans x y)).elim) pw pwn ((List.perm_ext_iff_of_nodup (pq.nodup_iff.mpr ndz) nd1).mpr fun x=>?_)
   rw [pq.mem_iff,mz]
  have rs:∀ (H:Hp) (ys:List Str),Reps H (ys.map Dv.str) (ys.map V.str):=fun H ys=>by
   induction ys with
   | nil=>simp only [List.map_nil,Reps]
   | cons y ys ih=>simp only [List.map_cons,Reps,Rep]; exact ⟨_,_,rfl,rfl,ih⟩
  refine ⟨0,(p.1.map fun (r:Pr)=>r.1).map Dv.str,fun d hd=>by obtain ⟨x,_,rfl⟩:=List.mem_map.mp hd; exact .str,by omega,?_,?_,_,rfl,cF ?_⟩
  ·simp only [Rep]; exact ⟨l,_,rfl,q7 _ _ (q6 _ _ af),rs _ _⟩
  ·simp only [Rep]; exact ⟨l2,_,rfl,af,rs _ _⟩
  have s7:=s4.trans (q5.trans (q6.trans q7))
  refine ⟨_,rfl,b,rfl,⟨vs,(tb.tups (aq.tups s7)).sq⟩,fg (xs:=vs) (fun i ys H'=>aq H H'/\ys=((p.1.take i).map fun (r:Pr)=>decide (r.2>=1)).map V.bl) ⟨s7,rfl⟩ (fun i ys H' _ z=>(tb.tups (aq.tups z.1)).sq) ?_ ?_⟩
  ·rintro i ys H8 y hy ⟨s8,rfl⟩
   obtain ⟨r,e,hr',rfl,he⟩:=dN rv hy
   refine eN (SqT.of (s8 _ _ he)) ⟨_,rfl,r.2,1,rfl,?_,s8,?_⟩
   ·simp only [List.length_map,List.length_take,sizeLine_eq]; omega
   ·rw [List.take_add_one,hr',List.map_append,List.map_append]; rfl
  rintro ys H8 ⟨s8,rfl⟩ l3 hl3
  rw [lvs,List.take_length]
  refine ⟨l3,_,rfl,SqL.of af,_,rfl,?_⟩
  rw [show (p.1.map fun (r:Pr)=>decide (r.2>=1)).all id=true from List.all_eq_true.mpr fun x hx=>by
   obtain ⟨r,hr',rfl⟩:=List.mem_map.mp hx
   exact decide_eq_true (ky.can.ge r hr')]
  exact cF (tnx ⟨s8.trans (ak hl3 _),_,_,_,rfl⟩)
 ·rintro σ H4 ⟨s4,o1,o2,o3,rfl⟩
  have t4:=aq.tups s4
  refine ⟨_,rfl,a,rfl,⟨_,(ta.tups t4).sq⟩,fg (xs:=ts.map fun (t:IT)=>V.ref t.1) (fun i ys H'=>H'=H4/\ys=(ts.take i).map fun (t:IT)=>V.ref t.2.1) ⟨rfl,rfl⟩ (fun i ys H' _ z=>by rw [z.1]; exact (ta.tups t4).sq) ?_ ?_⟩
  ·rintro i ys H5 y hy ⟨rfl,rfl⟩
   rw [List.getElem?_map] at hy
   obtain ⟨t,ht,rfl⟩:=Option.map_eq_some_iff.mp hy
   refine eN (it t (List.mem_of_getElem? ht) |>.at_.tups t4).sq ⟨_,rfl,?_,rfl,?_⟩
   ·simp only [List.length_map,List.length_take,sizeLine_eq]; omega
   ·rw [List.take_add_one,ht,List.map_append]; rfl
  rintro ys H5 ⟨rfl,rfl⟩ l hl
  rw [List.length_map,List.take_length]
  have q5:=ak hl (.lst (ts.map fun (t:IT)=>V.ref t.2.1))
  have e2:ts.map (fun (t:IT)=>V.ref t.2.1)=(ts.map fun (t:IT)=>t.2.1).map V.ref:=by rw [List.map_map]; rfl
  have e3:ts.map (fun (t:IT)=>t.2.2.1)=m.map (·.1):=by rw [<- em,List.map_map]; rfl
  have pk:∀ {H':Hp},aq H H'->∀ ts:List IT,(∀ t∈ts,ItW K H t)->Paired (fun k b=>bZ K H' k b) (ts.map fun (t:IT)=>t.2.2.1) (ts.map fun (t:IT)=>t.2.1):=fun s' ts=>by
   induction ts with
   | nil=>intro _; exact .nil
   | cons t ts ih=>intro h; exact .cons ((h t List.mem_cons_self).key.mono s') (ih fun x hx=>h x (List.mem_cons_of_mem _ hx))
  refine ⟨l,ts.map (fun (t:IT)=>t.2.1),ts.map (fun (t:IT)=>t.2.2.1),rfl,by rw [<- e2]; exact SqL.of af,pk (s4.trans q5) ts it,by rw [e3]; exact ndk,by rw [List.length_map]; omega,fun sa hsa=>?_⟩
  have q6:=ak hsa (gq w sa (ts.map fun (t:IT)=>t.2.1))
  refine ⟨sa,_,rfl,af,by rw [List.length_map]; omega,_,rfl,a,_,rfl,.inr (ta.tups (t4.trans (aq.tups (q5.trans q6)))).sq,rfl,?_⟩
  rw [List.length_map,List.length_map,decide_eq_true rfl]
  exact q _ (s4.trans (q5.trans q6))
end
abbrev fJ:Stmt:=top 32
def pi (K:PySem.W.Frag):Sp:=fun vs H Q _=>∃ (a:Addr) (ns:List Int),vs=[.ref a]/\SqL K H a (ns.map V.int)/\ns.length<=63/\∀ H',Q (.bl true) H'
theorem vI {nums:List Pr} (h:∀ p∈nums,0<=p.2/\p.2<=60) (nd:(nums.map (·.1)).Nodup):NB nums:=by
 have b:∀ {nums:List Pr},(∀ p∈nums,0<=p.2/\p.2<=60)->∀ x,0<=tm nums x/\tm nums x<=60:=by
  intro nums
  induction nums with
  | nil=>intro _ x; exact ⟨Int.le_refl 0,by show (0:Int)<=60; decide⟩
  | cons p ps ih=>
   intro h x
   show 0<=(if p.1=x then p.2 else tm ps x)/\(if p.1=x then p.2 else tm ps x)<=60
   split
   ·exact h p List.mem_cons_self
   ·exact ih (fun q hq=>h q (List.mem_cons_of_mem _ hq)) x
 exact ⟨fun x=>(b h x).1,fun x=>(b h x).2,nd⟩
theorem Wg.kok {xs:List Str} {k:Kd} {m:List PM} (W:Wg xs k m) (k12:k.size<=12):∀ p∈m,KOk 12 p.1/\0<=p.2/\p.2 < 2 ^ 64:=fun p hp=>by
 have h:=(W.ky p hp).up k12
 have g:=W.ge p hp
 exact ⟨⟨h.len,fun r hr=>by have:=h.can.ge r hr; omega,h.sum⟩,by omega,W.lt p hp⟩
section
variable {P:Program} {w:World} {K:PySem.W.Frag} {mg:Str->Option Value} {base:Heap}
theorem sN:aR ["_law_script","_law_first","_law_names_here","_law_numbers","_law_great","_law_name","_law_kind","_law_size","_law_told","_law_many","_law_value_here"] ["_law_script"] (ai fJ):=⟨rfl,rfl,rfl,by decide +kernel,rfl,by decide +kernel,by decide +kernel⟩
theorem wR {f:Addr} {fd:FuncData} {k0:Nat} (F:Fun K "law" "law" fJ f fd) (T:Txt K mg) (D_law_state:Def P w K mg base k0 "_law_state" ["_law_script","_law_k"] (gW K)) (D_law_names:Def P w K mg base k0 "_law_names" ["_law_state_here","_law_many"] lG) (D_law_draw:Def P w K mg base k0 "_law_draw" ["_law_state_here","_law_many"] gF)
  (D_law_grown:Def P w K mg base k0 "_law_grown" ["_law_script","_law_start","_law_end","_law_names_here","_law_most"] (kJ K)) (Dweight:Def P w K mg base k0 "weight" ["kind"] (eB K 12)) (D_law_count:Def P w K mg base k0 "_law_count" ["_law_kind","_law_numbers","_law_around"] (fL 12)) (D_law_formed:Def P w K mg base k0 "_law_formed" ["_law_told"] (ik K)) (Dsum_worth:Def P w K mg base k0 "sum_worth" ["s","numbers"] (iI K))
  (D_law_things:Def P w K mg base k0 "_law_things" ["_law_kind","_law_numbers"] (jd V.int thg 12)) (D_law_value:Def P w K mg base k0 "_law_value" ["_law_kind","_law_numbers"] (fI 12)) (D_law_stand:Def P w K mg base k0 "_law_stand" ["_law_value_here"] (fW 13)) (Dis_value:Def P w K mg base k0 "is_value" ["kind","numbers","thing"] (dI 12)) (D_law_lacks:Def P w K mg base k0 "_law_lacks" ["_law_kind","_law_numbers"] (jd V.bl lkD 12)) :
  bj P w K mg base CX0 (k0 + 1) f fd ["_law_script"] (pi K):=by
 have nd:(["_law_script","_law_first","_law_names_here","_law_numbers","_law_great","_law_name","_law_kind","_law_size","_law_told","_law_many","_law_value_here"]:List Str).Nodup:=sN.nd
 refine F.ok sN (fun vs H Q E h=>?_) (fun cdv A outer s H vs Q E hr h=>?_)
 ·obtain ⟨a,ns,rfl,_⟩:=h
  rfl
 obtain ⟨sc,ns,rfl,hS,h63,q⟩:=h
 have hu:=iS hr
 refine ⟨_,(@ah _ _ _ _ _ (@aT _ _ (1) _ _ _ _ nd rfl (Or.inl rfl) (@ao _ _ _ _ _ _ _ _ _ _ D_law_state hr rfl (@aa _ _ _ _ _ (@pv _ 0 _ _ (by rfl) (by trivial) (by decide) (by decide)) (@aa _ _ _ _ _ (@ad _ _ _ _) (@ae _) (by rfl)) (by rfl)) (by decide) (by rfl) (by rfl)) (by rfl) (by trivial)) (@ah _ _ _ _ _ (@aT _ _ (2) _ _ _ _ nd rfl (Or.inl rfl) (@ao _ _ _ _ _ _ _ _ _ _ D_law_names hr rfl (@aa _ _ _ _ _ (@pv _ 1 _ _ (by rfl) (by trivial) (by decide) (by decide)) (@aa _ _ _ _ _ (@ad _ _ _ _) (@ae _) (by rfl)) (by rfl)) (by decide) (by rfl) (by rfl)) (by rfl) (by trivial)) (@ah _ _ _ _ _ (@aT _ _ (3) _ _ _ _ nd rfl (Or.inl rfl) (@fV _ _) (by rfl) (by trivial)) (@ah _ _ _ _ _ (@aT _ _ (4) _ _ _ _ nd rfl (Or.inl rfl) (@fV _ _) (by rfl) (by trivial)) (@ah _ _ _ _ _ (@bW _ _ _ _ _ _ _ _ PassesOwn.never rfl (@hE _ _ _ _ (@pv _ 2 _ _ (by rfl) (by trivial) (by decide) (by decide))) (@au _ _ (5) _ nd rfl (Or.inl rfl) (by trivial)) (@ah _ _ _ _ _ (@fx _ _ _ _ _ _ _ _ _ hu (@pv _ 3 _ _ (by rfl) (by trivial) (by decide) (by decide)) (@pv _ 5 _ _ (by rfl) (by trivial) (by decide) (by decide)) (@ao _ _ _ _ _ _ _ _ _ _ D_law_draw hr rfl (@aa _ _ _ _ _ (@pv _ 1 _ _ (by rfl) (by trivial) (by decide) (by decide)) (@aa _ _ _ _ _ (@ad _ _ _ _) (@ae _) (by rfl)) (by rfl)) (by decide) (by rfl) (by rfl)) rfl) (@aj _ _ _ (@fx _ _ _ _ _ _ _ _ _ hu (@pv _ 4 _ _ (by rfl) (by trivial) (by decide) (by decide)) (@pv _ 5 _ _ (by rfl) (by trivial) (by decide) (by decide)) (@ao _ _ _ _ _ _ _ _ _ _ D_law_draw hr rfl (@aa _ _ _ _ _ (@pv _ 1 _ _ (by rfl) (by trivial) (by decide) (by decide)) (@aa _ _ _ _ _ (@ad _ _ _ _) (@ae _) (by rfl)) (by rfl)) (by decide) (by rfl) (by rfl)) rfl))) (by intro _; rfl)) (@ah _ _ _ _ _ (@bW _ _ _ _ _ _ _ _ PassesOwn.never rfl (@hE _ _ _ _ (@ao _ _ _ _ _ _ _ _ _ _ D_law_grown hr rfl (@aa _ _ _ _ _ (@pv _ 0 _ _ (by rfl) (by trivial) (by decide) (by decide)) (@aa _ _ _ _ _ (@ad _ _ _ _) (@aa _ _ _ _ _ (@ad _ _ _ _) (@aa _ _ _ _ _ (@pv _ 2 _ _ (by rfl) (by trivial) (by decide) (by decide)) (@aa _ _ _ _ _ (@ad _ _ _ _) (@ae _) (by rfl)) (by rfl)) (by rfl)) (by rfl)) (by rfl)) (by decide) (by rfl) (by rfl))) (@bD _ _ _ _ _ _ rfl (@av _ _ _ _ _ (@au _ _ (6) _ nd rfl (Or.inl rfl) (by trivial)) (@av _ _ _ _ _ (@au _ _ (7) _ nd rfl (Or.inl rfl) (by trivial)) (@bo _) (by rfl)) (by rfl)) (by rfl) (by rfl)) (@ah _ _ _ _ _ (@aT _ _ (8) _ _ _ _ nd rfl (Or.inl rfl) (@ao _ _ _ _ _ _ _ _ _ _ Dweight hr rfl (@aa _ _ _ _ _ (@pv _ 6 _ _ (by rfl) (by trivial) (by decide) (by decide)) (@ae _) (by rfl)) (by decide) (by rfl) (by rfl)) (by rfl) (by trivial)) (@ah _ _ _ _ _ (@aT _ _ (9) _ _ _ _ nd rfl (Or.inl rfl) (@ao _ _ _ _ _ _ _ _ _ _ D_law_count hr rfl (@aa _ _ _ _ _ (@pv _ 6 _ _ (by rfl) (by trivial) (by decide) (by decide)) (@aa _ _ _ _ _ (@pv _ 3 _ _ (by rfl) (by trivial) (by decide) (by decide)) (@aa _ _ _ _ _ (@ad _ _ _ _) (@ae _) (by rfl)) (by rfl)) (by rfl)) (by decide) (by rfl) (by rfl)) (by rfl) (by trivial)) (@ah _ _ _ _ _ (@bi _ _ _ _ _ _ _ _ (@PW.pt _ _ _ (@lM _ _ _ _ _ _ _ (@fk _ _ _ _ (@dL _ _ _ (@ao _ _ _ _ _ _ _ _ _ _ D_law_formed hr rfl (@aa _ _ _ _ _ (@pv _ 8 _ _ (by rfl) (by trivial) (by decide) (by decide)) (@ae _) (by rfl)) (by decide) (by rfl) (by rfl)) (by intro _; rfl))) (@iX _ _ _ _ (@aG _ _ _ _ _ _ _ _ oZ (@ao _ _ _ _ _ _ _ _ _ _ Dsum_worth hr rfl (@aa _ _ _ _ _ (@pv _ 8 _ _ (by rfl) (by trivial) (by decide) (by decide)) (@aa _ _ _ _ _ (@pv _ 3 _ _ (by rfl) (by trivial) (by decide) (by decide)) (@ae _) (by rfl)) (by rfl)) (by decide) (by rfl) (by rfl)) (@pv _ 9 _ _ (by rfl) (by trivial) (by decide) (by decide)) (aM _))))) (@aj _ _ _ (@aA _ _ _ _ (@dq _ _ _ _))) (@aN _)) (@ah _ _ _ _ _ (@bi _ _ _ _ _ _ _ _ (@aG _ _ _ _ _ _ _ _ oZ (@ao _ _ _ _ _ _ _ _ _ _ Dsum_worth hr rfl (@aa _ _ _ _ _ (@pv _ 8 _ _ (by rfl) (by trivial) (by decide) (by decide)) (@aa _ _ _ _ _ (@pv _ 4 _ _ (by rfl) (by trivial) (by decide) (by decide)) (@ae _) (by rfl)) (by rfl)) (by decide) (by rfl) (by rfl)) (@ao _ _ _ _ _ _ _ _ _ _ D_law_count hr rfl (@aa _ _ _ _ _ (@pv _ 6 _ _ (by rfl) (by trivial) (by decide) (by decide)) (@aa _ _ _ _ _ (@pv _ 4 _ _ (by rfl) (by trivial) (by decide) (by decide)) (@aa _ _ _ _ _ (@ad _ _ _ _) (@ae _) (by rfl)) (by rfl)) (by rfl)) (by decide) (by rfl) (by rfl)) (aM _)) (@aj _ _ _ (@aA _ _ _ _ (@dq _ _ _ _))) (@aN _)) (@aj _ _ _ (@bi _ _ _ _ _ _ _ _ (@aG _ _ _ _ _ _ _ _ vK (@ao _ _ _ _ _ _ _ _ _ _ D_law_things hr rfl (@aa _ _ _ _ _ (@pv _ 6 _ _ (by rfl) (by trivial) (by decide) (by decide)) (@aa _ _ _ _ _ (@pv _ 3 _ _ (by rfl) (by trivial) (by decide) (by decide)) (@ae _) (by rfl)) (by rfl)) (by decide) (by rfl) (by rfl)) (@ad _ _ _ _) (aM _)) (@ah _ _ _ _ _ (@aT _ _ (10) _ _ _ _ nd rfl (Or.inl rfl) (@ao _ _ _ _ _ _ _ _ _ _ D_law_value hr rfl (@aa _ _ _ _ _ (@pv _ 6 _ _ (by rfl) (by trivial) (by decide) (by decide)) (@aa _ _ _ _ _ (@pv _ 3 _ _ (by rfl) (by trivial) (by decide) (by decide)) (@ae _) (by rfl)) (by rfl)) (by decide) (by rfl) (by rfl)) (by rfl) (by trivial)) (@aj _ _ _ (@bi _ _ _ _ _ _ _ _ (@PW.pt _ _ _ (@lM _ _ _ _ _ _ _ (@aG _ _ _ _ _ _ _ _ oZ (@ao _ _ _ _ _ _ _ _ _ _ D_law_stand hr rfl (@aa _ _ _ _ _ (@pv _ 10 _ _ (by rfl) (by trivial) (by decide) (by decide)) (@ae _) (by rfl)) (by decide) (by rfl) (by rfl)) (@pv _ 9 _ _ (by rfl) (by trivial) (by decide) (by decide)) (aM _)) (@iX _ _ _ _ (@aG _ _ _ _ _ _ _ _ bK (@ao _ _ _ _ _ _ _ _ _ _ Dis_value hr rfl (@aa _ _ _ _ _ (@pv _ 6 _ _ (by rfl) (by trivial) (by decide) (by decide)) (@aa _ _ _ _ _ (@pv _ 3 _ _ (by rfl) (by trivial) (by decide) (by decide)) (@aa _ _ _ _ _ (@pv _ 10 _ _ (by rfl) (by trivial) (by decide) (by decide)) (@ae _) (by rfl)) (by rfl)) (by rfl)) (by decide) (by rfl) (by rfl)) (@ao _ _ _ _ _ _ _ _ _ _ D_law_lacks hr rfl (@aa _ _ _ _ _ (@pv _ 6 _ _ (by rfl) (by trivial) (by decide) (by decide)) (@aa _ _ _ _ _ (@pv _ 3 _ _ (by rfl) (by trivial) (by decide) (by decide)) (@ae _) (by rfl)) (by rfl)) (by decide) (by rfl) (by rfl)) (aM _))))) (@aj _ _ _ (@aA _ _ _ _ (@dq _ _ _ _))) (@aN _)))) (@aN _))))))) (by intro _; rfl)) (@aj _ _ _ (@aA _ _ _ _ (@dq _ _ _ _))))))))),?_⟩
 refine ⟨_,rfl,sc,ns,0,rfl,hS,by decide,fun H1 a s1 ha st1=>?_⟩
 refine ⟨_,rfl,a,4,rfl,st1,by decide,fun H2 r xs s2 st2 hrn hr2 lx hnm=>?_⟩
 have s02:aq H H2:=aH.same ha s1 s2
 have ra:r≠a:=fun z=>by obtain ⟨_,_,e⟩:=st1; rw [z,e] at hrn; cases hrn
 refine fun d hd=>fun e he=>?_
 have q3:=ak hd (.dK [])
 have q4:=ak he (.dK [])
 have da:d≠a:=fun z=>by obtain ⟨_,_,e⟩:=st2; rw [z,e] at hd; cases hd
 have ea:e≠a:=fun z=>by obtain ⟨_,_,e'⟩:=st2.m q3; rw [z,e'] at he; cases he
 have de:d≠e:=fun z=>by rw [<- z,af] at he; cases he
 have d3:upd (upd H2 d (.dK [])) e (.dK []) d=some (.dK (dk [])):=q4 _ _ af
 have e3:upd (upd H2 d (.dK [])) e (.dK []) e=some (.dK (dk [])):=af
 have s23:=q3.trans q4
 generalize upd (upd H2 d (.dK [])) e (.dK [])=H3 at d3 e3 s23 ⊢
 have r3:=s23 _ _ hr2
 have rd:r≠d:=am hr2 hd
 have re:r≠e:=am (q3 _ _ hr2) he
 have nH:∀ {b:Addr},H2 b=none->H b=none:=fun {b} hb=>by
  cases z:H b with
  | none=>rfl
  | some o=>exact absurd (hb.symm.trans (s02 _ _ z)) nofun
 have hdH:=nH hd
 have heH:H e=none:=nH (by
  cases z:H2 e with
  | none=>rfl
  | some o=>exact absurd (he.symm.trans (q3 _ _ z)) nofun)
 refine ⟨_,rfl,r,rfl,⟨_,SqL.of r3⟩,fF (xs:=xs.map V.str) (fun i σ H'=>∃ (o5:Option V) (n1 n2:List Pr),σ=[some (.ref sc),some (.ref a),some (.ref r),some (.ref d),some (.ref e),o5,none,none,none,none,none]/\(∀ g o,g≠a->g≠d->g≠e->H3 g=some o->H' g=some o)/\St2 H' a/\H' d=some (.dK (dk n1))/\H' e=some (.dK (dk n2))/\(∀ p∈n1,0<=p.2/\p.2<=60)/\(∀ p∈n2,0<=p.2/\p.2<=60)/\(n1.map (·.1)).Nodup/\(n2.map (·.1)).Nodup/\n1.length<=i/\n2.length<=i)
  ⟨_,[],[],rfl,fun g o _ _ _ e=>e,st2.m s23,d3,e3,by simp,by simp,by simp,by simp,by simp,by simp⟩ (fun i σ H' _ ⟨_,_,_,_,s4,_⟩=>SqL.of (s4 _ _ ra rd re r3)) ?T1 ?_⟩
 case T1=>
  rintro i x σ H4 hx ⟨o5,n1,n2,rfl,s4,st4,d4,e4,b1,b2,nd1,nd2,l1,l2⟩
  rw [List.getElem?_map] at hx
  obtain ⟨y,hy,rfl⟩:=Option.map_eq_some_iff.mp hx
  have hi:i < xs.length:=(List.getElem?_eq_some_iff.mp hy).1
  refine ⟨_,rfl,a,3,rfl,st4,by decide,by decide,fun H5 z s5 st5 z0 z1=>?_⟩
  refine ⟨_,rfl,_,rfl,d,_,rfl,lA.k (k:=Sum.inr y) (s5 _ _ da d4) (by rw [show (dk n1).length=n1.length from List.length_map _,sizeLine_eq]; omega),?_⟩
  have st6:St2 (upd H5 d (.dK (dP (dk n1) (Sum.inr y) (.int z)))) a:=st5.b (aH.upd _ _ _) (Ne.symm da)
  refine ⟨_,rfl,a,61,rfl,st6,by decide,by decide,fun H7 t s7 st7 t0 t1=>?_⟩
  have e7:H7 e=some (.dK (dk n2)):=s7 _ _ ea (by rw [aI (Ne.symm de)]; exact s5 _ _ ea e4)
  have d7:H7 d=some (.dK (dk (bC n1 y z))):=s7 _ _ da (by rw [af,kS])
  refine ⟨_,rfl,_,rfl,e,_,rfl,lA.k (k:=Sum.inr y) e7 (by rw [show (dk n2).length=n2.length from List.length_map _,sizeLine_eq]; omega),?_⟩
  refine ⟨_,bC n1 y z,bC n2 y t,rfl,fun g o ga gd ge h=>?_,st7.b (aH.upd _ _ _) (Ne.symm ea),by rw [aI de]; exact d7,by rw [af,kS],eh (R:=fun p=>0<=p.2/\p.2<=60) b1 ⟨z0,by show z<=60; omega⟩,eh (R:=fun p=>0<=p.2/\p.2<=60) b2 ⟨t0,by show t<=60; omega⟩,df nd1,df nd2,Nat.le_trans (dR _ _ _) (by omega),Nat.le_trans (dR _ _ _) (by omega)⟩
  rw [aI ge]
  refine s7 _ _ ga ?_
  rw [aI gd]
  exact s5 _ _ ga (s4 _ _ ga gd ge h)
 rintro σ H4 ⟨o5,n1,n2,rfl,s4,st4,d4,e4,b1,b2,nd1,nd2,l1,l2⟩
 have hn1:=vI b1 nd1
 have hn2:=vI b2 nd2
 have s04:aq H H4:=fun g o h=>s4 g o (am h ha) (am h hdH) (am h heH) (s23 _ _ (s02 g o h))
 refine ⟨_,rfl,_,rfl,sc,r,ns,1,63,3,xs,rfl,s04.seq hS,h63,by decide,by decide,s4 _ _ ra rd re r3,by omega,by decide,by decide,fun H5 g ks us s5 hgn hg R5 _ lk gk=>?_⟩
 have d5:=s5 _ _ d4
 have e5:=s5 _ _ e4
 refine ⟨g,rfl,⟨us,SqL.of hg⟩,fF (xs:=us) (fun i σ H'=>∃ (o5 o6 o7 o8 o9 o10:Option V),σ=[some (.ref sc),some (.ref a),some (.ref r),some (.ref d),some (.ref e),o5,o6,o7,o8,o9,o10]/\aq H5 H') ⟨_,_,_,_,_,_,rfl,aq.refl _⟩ (fun i σ H' _ ⟨_,_,_,_,_,_,_,sx⟩=>SqL.of (sx _ _ hg)) ?T2 ?_⟩
 case T2=>
  rintro i x σ H6 hx ⟨o5,o6,o7,o8,o9,o10,rfl,s6⟩
  obtain ⟨k,hk,Rk⟩:=uB R5 hx
  obtain ⟨k12,kf⟩:=gk k (List.mem_of_getElem? hk)
  obtain ⟨b,u,rfl,hbb,Ru⟩:=hU (Rk.mono s6)
  have d6:=s6 _ _ d5
  have e6:=s6 _ _ e5
  refine ⟨b,_,rfl,SqT.of hbb,rfl,_,_,rfl,_,_,rfl,rfl,?_⟩
  refine ⟨_,rfl,u,k,xs,rfl,Ru,k12,k12,kf,by omega,fun H7 v m s7 R7 W=>?_⟩
  refine ⟨_,rfl,_,rfl,u,d,k,n1,xs,1,rfl,Ru.mono s7,k12,kf,hn1,s7 _ _ d6,?_⟩
  rw [Int.one_mul]
  have f8:=W.few
  have ko:=W.kok k12
  refine ⟨_,rfl,v,m,xs,k,rfl,R7,W,k12,fun H8 s8=>⟨_,rfl,cF ?_⟩⟩
  have s68:=s7.trans s8
  refine ⟨_,rfl,_,rfl,v,d,m,n1,rfl,R7.mono s8,ko,by omega,hn1,s68 _ _ d6,fun H9 s9=>⟨_,rfl,rfl,_,rfl,?_⟩⟩
  rw [W.ev]
  refine pb rfl (tnx ?_)
  have s69:=s68.trans s9
  refine ⟨_,rfl,_,rfl,v,e,m,n2,rfl,R7.mono (s8.trans s9),ko,by omega,hn2,s69 _ _ e6,fun Ha sa=>?_⟩
  have s6a:=s69.trans sa
  refine ⟨_,rfl,_,rfl,u,e,k,n2,xs,1,rfl,Ru.mono s6a,k12,kf,hn2,s6a _ _ e6,rfl,_,rfl,?_⟩
  rw [W.ev,Int.one_mul]
  refine pb rfl (tnx ?_)
  refine ⟨_,rfl,_,rfl,u,d,k,n1,xs,rfl,Ru.mono s6a,k12,kf,hn1,s6a _ _ d6,_,_,rfl,rfl,_,rfl,aW (fun h=>?_) (fun _=>tnx ⟨_,_,_,_,_,_,rfl,s6.trans s6a⟩)⟩
  have h200:thg n1 k<=200:=of_decide_eq_true h
  refine ⟨_,rfl,_,rfl,u,d,k,n1,xs,rfl,Ru.mono s6a,k12,kf,hn1,s6a _ _ d6,h200,fun Hb wv sb Rb=>?_⟩
  have s6b:=s6a.trans sb
  have sm:=fP hn1 kf h200
  refine ⟨_,rfl,wv,zv n1 k,rfl,Rb,⟨k.size,by omega,pF n1 k⟩,sm,fun Hc sc'=>⟨_,rfl,rfl,_,rfl,?_⟩⟩
  rw [fH hn1 kf]
  refine pb rfl ?_
  have s6c:=s6b.trans sc'
  refine ⟨_,rfl,_,rfl,_,rfl,u,wv,d,k,zv n1 k,n1,xs,rfl,Ru.mono s6c,Rb.mono sc',s6c _ _ d6,hn1,k12,kf,sm,fun Hd sd=>?_⟩
  have s6d:=s6c.trans sd
  refine ⟨_,rfl,_,rfl,u,d,k,n1,xs,rfl,Ru.mono s6d,k12,kf,hn1,s6d _ _ d6,rfl,_,rfl,?_⟩
  rw [kD hn1 kf,show decide (V.bl (!lkD n1 k)=V.bl (lkD n1 k))=false from decide_eq_false (by cases lkD n1 k <;> simp)]
  exact cF (tnx ⟨_,_,_,_,_,_,rfl,s6.trans s6d⟩)
 rintro σ H6 ⟨o5,o6,o7,o8,o9,o10,rfl,s6⟩
 exact q H6
end
theorem us1 {p:List Value->Prop} (h:∀ x0,p [x0]):∀ us:List Value,us.length=1->p us
 | [x0],_=>h x0
theorem us2 {p:List Value->Prop} (h:∀ x0 x1,p [x0,x1]):∀ us:List Value,us.length=2->p us
 | [x0,x1],_=>h x0 x1
theorem us3 {p:List Value->Prop} (h:∀ x0 x1 x2,p [x0,x1,x2]):∀ us:List Value,us.length=3->p us
 | [x0,x1,x2],_=>h x0 x1 x2
theorem us5 {p:List Value->Prop} (h:∀ x0 x1 x2 x3 x4,p [x0,x1,x2,x3,x4]):∀ us:List Value,us.length=5->p us
 | [x0,x1,x2,x3,x4],_=>h x0 x1 x2 x3 x4
theorem all_mk {l:PySem.W.OpenLaw} {w:World} {K:PySem.W.Frag} {h:Heap} {mg:Str->Option Value} {fa f1 f2 f3 f4 f5 f6 f7 f8 f9 f10 f11 f12 f13 f14 f15 f16 f17 f18 f19 f20 f21 f22 f23 f24 f25 f26 f27:Addr} (X:K.In h) (G:h.Ns mainGlobals mg) (hfa:mg "law"=some (.ref fa))
  {od1 an1 od2 an2 od3 an3 od4 an4 od5 an5 od6 an6 od7 an7 od8 an8 od9 an9 od10 an10 od11 an11 od12 an12 od13 an13 od14 an14 od15 an15 od16 an16 od17 an17 od18 an18 od19 an19 od20 an20 od21 an21 od22 an22 od23 an23 od24 an24 od25 an25 od26 an26 od27 an27:Option Addr} {sl1 sl2 sl3 sl4 sl5 sl6 sl7 sl8 sl9 sl10 sl11 sl12 sl13 sl14 sl15 sl16 sl17 sl18 sl19 sl20 sl21 sl22 sl23 sl24 sl25 sl26 sl27:Array (Option Value)}
  {oc1 kV1 dc1 pm1 cd1 ct1 oc2 kV2 dc2 pm2 cd2 ct2 oc3 kV3 dc3 pm3 cd3 ct3 oc4 kV4 dc4 pm4 cd4 ct4 oc5 kV5 dc5 pm5 cd5 ct5 oc6 kV6 dc6 pm6 cd6 ct6 oc7 kV7 dc7 pm7 cd7 ct7 oc8 kV8 dc8 pm8 cd8 ct8 oc9 kV9 dc9 pm9 cd9 ct9 oc10 kV10 dc10 pm10 cd10 ct10 oc11 kV11 dc11 pm11 cd11 ct11 oc12 kV12 dc12 pm12 cd12 ct12 oc13 kV13 dc13 pm13 cd13 ct13 oc14 kV14 dc14 pm14 cd14 ct14 oc15 kV15 dc15 pm15 cd15 ct15 oc16 kV16 dc16 pm16 cd16 ct16 oc17 kV17 dc17 pm17 cd17 ct17 oc18 kV18 dc18 pm18 cd18 ct18 oc19 kV19 dc19 pm19 cd19 ct19 oc20 kV20 dc20 pm20 cd20 ct20 oc21 kV21 dc21 pm21 cd21 ct21 oc22 kV22 dc22 pm22 cd22 ct22 oc23 kV23 dc23 pm23 cd23 ct23 oc24 kV24 dc24 pm24 cd24 ct24 oc25 kV25 dc25 pm25 cd25 ct25 oc26 kV26 dc26 pm26 cd26 ct26 oc27 kV27 dc27 pm27 cd27 ct27:Value}
  (a1:PySem.W.nsIn K mainGlobals "is_whole"=some (some (.ref f1)))
  (l1:K.lookup f1=some ⟨oc1,od1,.func (PySem.W.fnOf "is_whole" "is_whole" (aO ci) (aL ci) (ai ci) .none kV1 dc1 pm1 an1 cd1 ct1),sl1⟩)
  (c1:PySem.W.codeIn K cd1 "is_whole"=true) (k1:PySem.W.keepIn K (.ref f1)=true)
  (a2:PySem.W.nsIn K mainGlobals "gathered"=some (some (.ref f2)))
  (l2:K.lookup f2=some ⟨oc2,od2,.func (PySem.W.fnOf "gathered" "gathered" (aO bg) (aL bg) (ai bg) .none kV2 dc2 pm2 an2 cd2 ct2),sl2⟩)
  (c2:PySem.W.codeIn K cd2 "gathered"=true) (k2:PySem.W.keepIn K (.ref f2)=true)
  (a3:PySem.W.nsIn K mainGlobals "worth"=some (some (.ref f3)))
  (l3:K.lookup f3=some ⟨oc3,od3,.func (PySem.W.fnOf "worth" "worth" (aO eF) (aL eF) (ai eF) .none kV3 dc3 pm3 an3 cd3 ct3),sl3⟩)
  (c3:PySem.W.codeIn K cd3 "worth"=true) (k3:PySem.W.keepIn K (.ref f3)=true)
  (a4:PySem.W.nsIn K mainGlobals "of_length"=some (some (.ref f4)))
  (l4:K.lookup f4=some ⟨oc4,od4,.func (PySem.W.fnOf "of_length" "of_length" (aO bV) (aL bV) (ai bV) .none kV4 dc4 pm4 an4 cd4 ct4),sl4⟩)
  (c4:PySem.W.codeIn K cd4 "of_length"=true) (k4:PySem.W.keepIn K (.ref f4)=true)
  (a5:PySem.W.nsIn K mainGlobals "together"=some (some (.ref f5)))
  (l5:K.lookup f5=some ⟨oc5,od5,.func (PySem.W.fnOf "together" "together" (aO cg) (aL cg) (ai cg) .none kV5 dc5 pm5 an5 cd5 ct5),sl5⟩)
  (c5:PySem.W.codeIn K cd5 "together"=true) (k5:PySem.W.keepIn K (.ref f5)=true)
  (a6:PySem.W.nsIn K mainGlobals "product"=some (some (.ref f6)))
  (l6:K.lookup f6=some ⟨oc6,od6,.func (PySem.W.fnOf "product" "product" (aO cH) (aL cH) (ai cH) .none kV6 dc6 pm6 an6 cd6 ct6),sl6⟩)
  (c6:PySem.W.codeIn K cd6 "product"=true) (k6:PySem.W.keepIn K (.ref f6)=true)
  (a7:PySem.W.nsIn K mainGlobals "weight"=some (some (.ref f7)))
  (l7:K.lookup f7=some ⟨oc7,od7,.func (PySem.W.fnOf "weight" "weight" (aO dz) (aL dz) (ai dz) .none kV7 dc7 pm7 an7 cd7 ct7),sl7⟩)
  (c7:PySem.W.codeIn K cd7 "weight"=true) (k7:PySem.W.keepIn K (.ref f7)=true)
  (a8:PySem.W.nsIn K mainGlobals "to_the"=some (some (.ref f8)))
  (l8:K.lookup f8=some ⟨oc8,od8,.func (PySem.W.fnOf "to_the" "to_the" (aO dl) (aL dl) (ai dl) .none kV8 dc8 pm8 an8 cd8 ct8),sl8⟩)
  (c8:PySem.W.codeIn K cd8 "to_the"=true) (k8:PySem.W.keepIn K (.ref f8)=true)
  (a9:PySem.W.nsIn K mainGlobals "product_worth"=some (some (.ref f9)))
  (l9:K.lookup f9=some ⟨oc9,od9,.func (PySem.W.fnOf "product_worth" "product_worth" (aO bp) (aL bp) (ai bp) .none kV9 dc9 pm9 an9 cd9 ct9),sl9⟩)
  (c9:PySem.W.codeIn K cd9 "product_worth"=true) (k9:PySem.W.keepIn K (.ref f9)=true)
  (a10:PySem.W.nsIn K mainGlobals "sum_worth"=some (some (.ref f10)))
  (l10:K.lookup f10=some ⟨oc10,od10,.func (PySem.W.fnOf "sum_worth" "sum_worth" (aO bS) (aL bS) (ai bS) .none kV10 dc10 pm10 an10 cd10 ct10),sl10⟩)
  (c10:PySem.W.codeIn K cd10 "sum_worth"=true) (k10:PySem.W.keepIn K (.ref f10)=true)
  (a11:PySem.W.nsIn K mainGlobals "is_below"=some (some (.ref f11)))
  (l11:K.lookup f11=some ⟨oc11,od11,.func (PySem.W.fnOf "is_below" "is_below" (aO cm) (aL cm) (ai cm) .none kV11 dc11 pm11 an11 cd11 ct11),sl11⟩)
  (c11:PySem.W.codeIn K cd11 "is_below"=true) (k11:PySem.W.keepIn K (.ref f11)=true)
  (a12:PySem.W.nsIn K mainGlobals "are_values"=some (some (.ref f12)))
  (l12:K.lookup f12=some ⟨oc12,od12,.func (PySem.W.fnOf "are_values" "are_values" (aO bI) (aL bI) (ai bI) .none kV12 dc12 pm12 an12 cd12 ct12),sl12⟩)
  (c12:PySem.W.codeIn K cd12 "are_values"=true) (k12:PySem.W.keepIn K (.ref f12)=true)
  (a13:PySem.W.nsIn K mainGlobals "is_value"=some (some (.ref f13)))
  (l13:K.lookup f13=some ⟨oc13,od13,.func (PySem.W.fnOf "is_value" "is_value" (aO cj) (aL cj) (ai cj) .none kV13 dc13 pm13 an13 cd13 ct13),sl13⟩)
  (c13:PySem.W.codeIn K cd13 "is_value"=true) (k13:PySem.W.keepIn K (.ref f13)=true)
  (a14:PySem.W.nsIn K mainGlobals "_law_draw"=some (some (.ref f14)))
  (l14:K.lookup f14=some ⟨oc14,od14,.func (PySem.W.fnOf "_law_draw" "_law_draw" (aO gN) (aL gN) (ai gN) .none kV14 dc14 pm14 an14 cd14 ct14),sl14⟩)
  (c14:PySem.W.codeIn K cd14 "_law_draw"=true) (k14:PySem.W.keepIn K (.ref f14)=true)
  (a15:PySem.W.nsIn K mainGlobals "_law_state"=some (some (.ref f15)))
  (l15:K.lookup f15=some ⟨oc15,od15,.func (PySem.W.fnOf "_law_state" "_law_state" (aO eQ) (aL eQ) (ai eQ) .none kV15 dc15 pm15 an15 cd15 ct15),sl15⟩)
  (c15:PySem.W.codeIn K cd15 "_law_state"=true) (k15:PySem.W.keepIn K (.ref f15)=true)
  (a16:PySem.W.nsIn K mainGlobals "_law_names"=some (some (.ref f16)))
  (l16:K.lookup f16=some ⟨oc16,od16,.func (PySem.W.fnOf "_law_names" "_law_names" (aO eI) (aL eI) (ai eI) .none kV16 dc16 pm16 an16 cd16 ct16),sl16⟩)
  (c16:PySem.W.codeIn K cd16 "_law_names"=true) (k16:PySem.W.keepIn K (.ref f16)=true)
  (a17:PySem.W.nsIn K mainGlobals "_law_length"=some (some (.ref f17)))
  (l17:K.lookup f17=some ⟨oc17,od17,.func (PySem.W.fnOf "_law_length" "_law_length" (aO dw) (aL dw) (ai dw) .none kV17 dc17 pm17 an17 cd17 ct17),sl17⟩)
  (c17:PySem.W.codeIn K cd17 "_law_length"=true) (k17:PySem.W.keepIn K (.ref f17)=true)
  (a18:PySem.W.nsIn K mainGlobals "_law_grown"=some (some (.ref f18)))
  (l18:K.lookup f18=some ⟨oc18,od18,.func (PySem.W.fnOf "_law_grown" "_law_grown" (aO eE) (aL eE) (ai eE) .none kV18 dc18 pm18 an18 cd18 ct18),sl18⟩)
  (c18:PySem.W.codeIn K cd18 "_law_grown"=true) (k18:PySem.W.keepIn K (.ref f18)=true)
  (a19:PySem.W.nsIn K mainGlobals "_law_worth"=some (some (.ref f19)))
  (l19:K.lookup f19=some ⟨oc19,od19,.func (PySem.W.fnOf "_law_worth" "_law_worth" (aO bU) (aL bU) (ai bU) .none kV19 dc19 pm19 an19 cd19 ct19),sl19⟩)
  (c19:PySem.W.codeIn K cd19 "_law_worth"=true) (k19:PySem.W.keepIn K (.ref f19)=true)
  (a20:PySem.W.nsIn K mainGlobals "_law_count"=some (some (.ref f20)))
  (l20:K.lookup f20=some ⟨oc20,od20,.func (PySem.W.fnOf "_law_count" "_law_count" (aO eG) (aL eG) (ai eG) .none kV20 dc20 pm20 an20 cd20 ct20),sl20⟩)
  (c20:PySem.W.codeIn K cd20 "_law_count"=true) (k20:PySem.W.keepIn K (.ref f20)=true)
  (a21:PySem.W.nsIn K mainGlobals "_law_things"=some (some (.ref f21)))
  (l21:K.lookup f21=some ⟨oc21,od21,.func (PySem.W.fnOf "_law_things" "_law_things" (aO dj) (aL dj) (ai dj) .none kV21 dc21 pm21 an21 cd21 ct21),sl21⟩)
  (c21:PySem.W.codeIn K cd21 "_law_things"=true) (k21:PySem.W.keepIn K (.ref f21)=true)
  (a22:PySem.W.nsIn K mainGlobals "_law_value"=some (some (.ref f22)))
  (l22:K.lookup f22=some ⟨oc22,od22,.func (PySem.W.fnOf "_law_value" "_law_value" (aO eT) (aL eT) (ai eT) .none kV22 dc22 pm22 an22 cd22 ct22),sl22⟩)
  (c22:PySem.W.codeIn K cd22 "_law_value"=true) (k22:PySem.W.keepIn K (.ref f22)=true)
  (a23:PySem.W.nsIn K mainGlobals "_law_stand"=some (some (.ref f23)))
  (l23:K.lookup f23=some ⟨oc23,od23,.func (PySem.W.fnOf "_law_stand" "_law_stand" (aO eL) (aL eL) (ai eL) .none kV23 dc23 pm23 an23 cd23 ct23),sl23⟩)
  (c23:PySem.W.codeIn K cd23 "_law_stand"=true) (k23:PySem.W.keepIn K (.ref f23)=true)
  (a24:PySem.W.nsIn K mainGlobals "_law_lacks"=some (some (.ref f24)))
  (l24:K.lookup f24=some ⟨oc24,od24,.func (PySem.W.fnOf "_law_lacks" "_law_lacks" (aO eP) (aL eP) (ai eP) .none kV24 dc24 pm24 an24 cd24 ct24),sl24⟩)
  (c24:PySem.W.codeIn K cd24 "_law_lacks"=true) (k24:PySem.W.keepIn K (.ref f24)=true)
  (a25:PySem.W.nsIn K mainGlobals "_law_whole"=some (some (.ref f25)))
  (l25:K.lookup f25=some ⟨oc25,od25,.func (PySem.W.fnOf "_law_whole" "_law_whole" (aO eR) (aL eR) (ai eR) .none kV25 dc25 pm25 an25 cd25 ct25),sl25⟩)
  (c25:PySem.W.codeIn K cd25 "_law_whole"=true) (k25:PySem.W.keepIn K (.ref f25)=true)
  (a26:PySem.W.nsIn K mainGlobals "_law_formed"=some (some (.ref f26)))
  (l26:K.lookup f26=some ⟨oc26,od26,.func (PySem.W.fnOf "_law_formed" "_law_formed" (aO bY) (aL bY) (ai bY) .none kV26 dc26 pm26 an26 cd26 ct26),sl26⟩)
  (c26:PySem.W.codeIn K cd26 "_law_formed"=true) (k26:PySem.W.keepIn K (.ref f26)=true)
  (a27:PySem.W.nsIn K mainGlobals "law"=some (some (.ref f27)))
  (l27:K.lookup f27=some ⟨oc27,od27,.func (PySem.W.fnOf "law" "law" (aO fJ) (aL fJ) (ai fJ) .none kV27 dc27 pm27 an27 cd27 ct27),sl27⟩)
  (c27:PySem.W.codeIn K cd27 "law"=true) (k27:PySem.W.keepIn K (.ref f27)=true)
  (z1:PySem.W.nsIn K mainGlobals "len"=some none)
  (z2:PySem.W.nsIn K mainGlobals "isinstance"=some none)
  (z3:PySem.W.nsIn K mainGlobals "int"=some none)
  (z4:PySem.W.nsIn K mainGlobals "bool"=some none)
  (z5:PySem.W.nsIn K mainGlobals "tuple"=some none)
  (z6:PySem.W.nsIn K mainGlobals "list"=some none)
  (z7:PySem.W.nsIn K mainGlobals "range"=some none)
  (z8:PySem.W.nsIn K mainGlobals "sorted"=some none)
  (z9:PySem.W.nsIn K mainGlobals "set"=some none)
  (z10:PySem.W.nsIn K mainGlobals "min"=some none)
  (z11:PySem.W.nsIn K mainGlobals "max"=some none)
  (z12:PySem.W.nsIn K mainGlobals "sum"=some none)
  (z13:PySem.W.nsIn K mainGlobals "all"=some none)
  {aONE aO1 aO0:Addr} {odO odO1 odO0:Option Addr} {nO nO1 nO0:Nat} {slO slO1 slO0:Array (Option Value)} {tO tg0:Tok}
  (zg0:PySem.W.nsIn K mainGlobals "WHOLE_BOUND"=some (some (.int 1000000000000 tg0)))
  (zO:PySem.W.nsIn K mainGlobals "ONE"=some (some (.ref aONE)))
  (lO:K.lookup aONE=some ⟨.type "tuple",odO,.seq #[.ref aO1] nO,slO⟩)
  (lO1:K.lookup aO1=some ⟨.type "tuple",odO1,.seq #[.ref aO0,.int 1 tO] nO1,slO1⟩)
  (lO0:K.lookup aO0=some ⟨.type "tuple",odO0,.seq #[] nO0,slO0⟩)
  :
  ∃ fd:FuncData,(∀ (s:Shared) (v:Value),BindsTo s fd ⟨[v],[]⟩ [("_law_script",v)])/\∀ base:Heap,K.In base->base.Ns mainGlobals mg->bj l.prog w K mg base CX0 27 fa fd ["_law_script"] (pi K):=by
 have e:=hfa.symm.trans (PySem.W.mg_of X G a27)
 cases e
 have T:Txt K mg:=⟨PySem.W.mg_none_of X G z1,PySem.W.mg_none_of X G z2,PySem.W.mg_none_of X G z3,PySem.W.mg_none_of X G z4,PySem.W.mg_none_of X G z5,PySem.W.mg_none_of X G z6,PySem.W.mg_none_of X G z7,PySem.W.mg_none_of X G z8,PySem.W.mg_none_of X G z9,PySem.W.mg_none_of X G z10,PySem.W.mg_none_of X G z11,PySem.W.mg_none_of X G z12,PySem.W.mg_none_of X G z13,⟨tg0,PySem.W.mg_of X G zg0⟩⟩
 have F1:=bh (st:=ci) l1 c1 k1
 have b1:=F1.binds (ps:=["thing"]) fun _ _ _ _ _ _=>us1 fun _=>rfl
 have F2:=bh (st:=bg) l2 c2 k2
 have b2:=F2.binds (ps:=["parts"]) fun _ _ _ _ _ _=>us1 fun _=>rfl
 have F3:=bh (st:=eF) l3 c3 k3
 have b3:=F3.binds (ps:=["a","numbers"]) fun _ _ _ _ _ _=>us2 fun _ _=>rfl
 have F4:=bh (st:=bV) l4 c4 k4
 have b4:=F4.binds (ps:=["a"]) fun _ _ _ _ _ _=>us1 fun _=>rfl
 have F5:=bh (st:=cg) l5 c5 k5
 have b5:=F5.binds (ps:=["s","t"]) fun _ _ _ _ _ _=>us2 fun _ _=>rfl
 have F6:=bh (st:=cH) l6 c6 k6
 have b6:=F6.binds (ps:=["s","t"]) fun _ _ _ _ _ _=>us2 fun _ _=>rfl
 have F7:=bh (st:=dz) l7 c7 k7
 have b7:=F7.binds (ps:=["kind"]) fun _ _ _ _ _ _=>us1 fun _=>rfl
 have F8:=bh (st:=dl) l8 c8 k8
 have b8:=F8.binds (ps:=["base","power"]) fun _ _ _ _ _ _=>us2 fun _ _=>rfl
 have F9:=bh (st:=bp) l9 c9 k9
 have b9:=F9.binds (ps:=["powers","numbers"]) fun _ _ _ _ _ _=>us2 fun _ _=>rfl
 have F10:=bh (st:=bS) l10 c10 k10
 have b10:=F10.binds (ps:=["s","numbers"]) fun _ _ _ _ _ _=>us2 fun _ _=>rfl
 have F11:=bh (st:=cm) l11 c11 k11
 have b11:=F11.binds (ps:=["thing","bound"]) fun _ _ _ _ _ _=>us2 fun _ _=>rfl
 have F12:=bh (st:=bI) l12 c12 k12
 have b12:=F12.binds (ps:=["kind","numbers","things"]) fun _ _ _ _ _ _=>us3 fun _ _ _=>rfl
 have F13:=bh (st:=cj) l13 c13 k13
 have b13:=F13.binds (ps:=["kind","numbers","thing"]) fun _ _ _ _ _ _=>us3 fun _ _ _=>rfl
 have F14:=bh (st:=gN) l14 c14 k14
 have b14:=F14.binds (ps:=["_law_state_here","_law_many"]) fun _ _ _ _ _ _=>us2 fun _ _=>rfl
 have F15:=bh (st:=eQ) l15 c15 k15
 have b15:=F15.binds (ps:=["_law_script","_law_k"]) fun _ _ _ _ _ _=>us2 fun _ _=>rfl
 have F16:=bh (st:=eI) l16 c16 k16
 have b16:=F16.binds (ps:=["_law_state_here","_law_many"]) fun _ _ _ _ _ _=>us2 fun _ _=>rfl
 have F17:=bh (st:=dw) l17 c17 k17
 have b17:=F17.binds (ps:=["_law_state_here","_law_names_here","_law_most"]) fun _ _ _ _ _ _=>us3 fun _ _ _=>rfl
 have F18:=bh (st:=eE) l18 c18 k18
 have b18:=F18.binds (ps:=["_law_script","_law_start","_law_end","_law_names_here","_law_most"]) fun _ _ _ _ _ _=>us5 fun _ _ _ _ _=>rfl
 have F19:=bh (st:=bU) l19 c19 k19
 have b19:=F19.binds (ps:=["_law_length_here","_law_numbers"]) fun _ _ _ _ _ _=>us2 fun _ _=>rfl
 have F20:=bh (st:=eG) l20 c20 k20
 have b20:=F20.binds (ps:=["_law_kind","_law_numbers","_law_around"]) fun _ _ _ _ _ _=>us3 fun _ _ _=>rfl
 have F21:=bh (st:=dj) l21 c21 k21
 have b21:=F21.binds (ps:=["_law_kind","_law_numbers"]) fun _ _ _ _ _ _=>us2 fun _ _=>rfl
 have F22:=bh (st:=eT) l22 c22 k22
 have b22:=F22.binds (ps:=["_law_kind","_law_numbers"]) fun _ _ _ _ _ _=>us2 fun _ _=>rfl
 have F23:=bh (st:=eL) l23 c23 k23
 have b23:=F23.binds (ps:=["_law_value_here"]) fun _ _ _ _ _ _=>us1 fun _=>rfl
 have F24:=bh (st:=eP) l24 c24 k24
 have b24:=F24.binds (ps:=["_law_kind","_law_numbers"]) fun _ _ _ _ _ _=>us2 fun _ _=>rfl
 have F25:=bh (st:=eR) l25 c25 k25
 have b25:=F25.binds (ps:=["_law_found","_law_least"]) fun _ _ _ _ _ _=>us2 fun _ _=>rfl
 have F26:=bh (st:=bY) l26 c26 k26
 have b26:=F26.binds (ps:=["_law_told"]) fun _ _ _ _ _ _=>us1 fun _=>rfl
 have F27:=bh (st:=fJ) l27 c27 k27
 refine ⟨PySem.W.fnOf "law" "law" (aO fJ) (aL fJ) (ai fJ) .none kV27 dc27 pm27 an27 cd27 ct27,fun s v=>.of_eq rfl,fun base _ _=>?_⟩
 have D1:Def l.prog w K mg base 1 "is_whole" ["thing"] (spD nW):=⟨f1,_,lJ F1 T,b1,k1,PySem.W.mg_of X G a1⟩
 have D3:Def l.prog w K mg base 1 "worth" ["a","numbers"] jS:=⟨f3,_,rD F3 T,b3,k3,PySem.W.mg_of X G a3⟩
 have D11:Def l.prog w K mg base 2 "is_below" ["thing","bound"] kE:=⟨f11,_,mE (k:=1) F11 T (D1.up (by decide)),b11,k11,PySem.W.mg_of X G a11⟩
 have cv:∀ n,bj l.prog w K mg base CX0 (2 + 2 * n) f13 _ ["kind","numbers","thing"] (dI n):=fun n=>by
  induction n with
  | zero=>exact ⟨fun vs H Q E h=>(by obtain ⟨v,u,d,k,x,nums,xs,rfl,_⟩:=h; rfl),fun A outer s H args us vs Q E hr he hb hv h=>(by obtain ⟨v,u,d,k,x,nums,xs,_,_,_,_,_,h0,_⟩:=h; have:=k.size_pos; omega)⟩
  | succ n ih=>
   have DI:Def l.prog w K mg base (2 + 2 * n) "is_value" ["kind","numbers","thing"] (dI n):=⟨f13,_,ih,b13,k13,PySem.W.mg_of X G a13⟩
   have DA:Def l.prog w K mg base (2 + 2 * n + 1) "are_values" ["kind","numbers","things"] (gH n):=⟨f12,_,jc (k0:=2 + 2 * n) F12 T DI,b12,k12,PySem.W.mg_of X G a12⟩
   exact mI (k0:=2 + 2 * n + 1) F13 T (D11.up (by omega)) (D3.up (by omega)) DA (DI.up (by omega))
 have D13:Def l.prog w K mg base 26 "is_value" ["kind","numbers","thing"] (dI 12):=⟨f13,_,cv 12,b13,k13,PySem.W.mg_of X G a13⟩
 have D2:Def l.prog w K mg base 1 "gathered" ["parts"] (qP K):=⟨f2,_,xT F2 T,b2,k2,PySem.W.mg_of X G a2⟩
 have D4:Def l.prog w K mg base 2 "of_length" ["a"] (kP K):=⟨f4,_,kt (k0:=1) F4 T (D2.up (by decide)),b4,k4,PySem.W.mg_of X G a4⟩
 have D5:Def l.prog w K mg base 2 "together" ["s","t"] (rZ K):=⟨f5,_,mG (k0:=1) F5 T (D2.up (by decide)),b5,k5,PySem.W.mg_of X G a5⟩
 have D6:Def l.prog w K mg base 2 "product" ["s","t"] (og K):=⟨f6,_,oD (k0:=1) F6 T (D2.up (by decide)),b6,k6,PySem.W.mg_of X G a6⟩
 have sz:∀ n:Nat,n<=2->n<=sizeLine:=fun n h=>by rw [sizeLine_eq]; omega
 have hONE:∀ H,SmR K H [([],1)] (.ref aONE):=fun H=>⟨aONE,[.ref aO1],rfl,.inr ⟨_,_,_,lO,rfl,rfl,sz 1 (by decide),.cons rfl .nil⟩,.cons ⟨aO1,aO0,rfl,.inr ⟨_,_,_,lO1,rfl,rfl,sz 2 (by decide),.cons rfl (.cons ⟨tO,rfl⟩ .nil)⟩,.inr ⟨rfl,.inr ⟨_,_,_,lO0,rfl,rfl,sz 0 (by decide),.nil⟩⟩⟩ .nil⟩
 have ch7:∀ n,bj l.prog w K mg base CX0 (2 + n) f7 _ ["kind"] (eB K n):=fun n=>by
  induction n with
  | zero=>exact ⟨fun vs H Q E h=>(by obtain ⟨v,k,xs,rfl,_⟩:=h; rfl),fun A outer s H args us vs Q E hr he hb hv h=>(by obtain ⟨v,k,xs,_,_,h1,_⟩:=h; have:=k.size_pos; omega)⟩
  | succ n ih=>exact qL (k0:=2 + n) F7 T (PySem.W.mg_of X G zO) hONE (D4.up (by omega)) (D5.up (by omega)) (D6.up (by omega)) ⟨f7,_,ih,b7,k7,PySem.W.mg_of X G a7⟩
 have D7:Def l.prog w K mg base 14 "weight" ["kind"] (eB K 12):=⟨f7,_,ch7 12,b7,k7,PySem.W.mg_of X G a7⟩
 have D8:Def l.prog w K mg base 1 "to_the" ["base","power"] kj:=⟨f8,_,rc F8 T,b8,k8,PySem.W.mg_of X G a8⟩
 have D9:Def l.prog w K mg base 2 "product_worth" ["powers","numbers"] (im K):=⟨f9,_,gD (k0:=1) F9 T (D8.up (by decide)),b9,k9,PySem.W.mg_of X G a9⟩
 have D10:Def l.prog w K mg base 3 "sum_worth" ["s","numbers"] (iI K):=⟨f10,_,lF (k0:=2) F10 T (D9.up (by decide)),b10,k10,PySem.W.mg_of X G a10⟩
 have D14:Def l.prog w K mg base 1 "_law_draw" ["_law_state_here","_law_many"] gF:=⟨f14,_,vc F14 T,b14,k14,PySem.W.mg_of X G a14⟩
 have D15:Def l.prog w K mg base 1 "_law_state" ["_law_script","_law_k"] (gW K):=⟨f15,_,sW F15 T,b15,k15,PySem.W.mg_of X G a15⟩
 have D16:Def l.prog w K mg base 2 "_law_names" ["_law_state_here","_law_many"] lG:=⟨f16,_,sn (k:=1) F16 T (D14.up (by decide)),b16,k16,PySem.W.mg_of X G a16⟩
 have D17:Def l.prog w K mg base 2 "_law_length" ["_law_state_here","_law_names_here","_law_most"] iP:=⟨f17,_,rf (k:=1) F17 T (D14.up (by decide)),b17,k17,PySem.W.mg_of X G a17⟩
 have D18:Def l.prog w K mg base 3 "_law_grown" ["_law_script","_law_start","_law_end","_law_names_here","_law_most"] (kJ K):=⟨f18,_,um (k:=2) F18 T (D15.up (by decide)) (D14.up (by decide)) (D17.up (by decide)),b18,k18,PySem.W.mg_of X G a18⟩
 have D19:Def l.prog w K mg base 1 "_law_worth" ["_law_length_here","_law_numbers"] cn:=⟨f19,_,qO F19 T,b19,k19,PySem.W.mg_of X G a19⟩
 have ch20:∀ n,bj l.prog w K mg base CX0 (1 + n) f20 _ ["_law_kind","_law_numbers","_law_around"] (fL n):=fun n=>by
  induction n with
  | zero=>exact ⟨fun vs H Q E h=>(by obtain ⟨v,d,k,nums,xs,r,rfl,_⟩:=h; rfl),fun A outer s H args us vs Q E hr he hb hv h=>(by obtain ⟨v,d,k,nums,xs,r,_,_,h1,_⟩:=h; have:=k.size_pos; omega)⟩
  | succ n ih=>exact rY (k0:=1 + n) F20 T (D19.up (by omega)) ⟨f20,_,ih,b20,k20,PySem.W.mg_of X G a20⟩
 have D20:Def l.prog w K mg base 13 "_law_count" ["_law_kind","_law_numbers","_law_around"] (fL 12):=⟨f20,_,ch20 12,b20,k20,PySem.W.mg_of X G a20⟩
 have ch21:∀ n,bj l.prog w K mg base CX0 (1 + n) f21 _ ["_law_kind","_law_numbers"] (jd V.int thg n):=fun n=>by
  induction n with
  | zero=>exact ⟨fun vs H Q E h=>(by obtain ⟨v,d,k,nums,xs,rfl,_⟩:=h; rfl),fun A outer s H args us vs Q E hr he hb hv h=>(by obtain ⟨v,d,k,nums,xs,_,_,h1,_⟩:=h; have:=k.size_pos; omega)⟩
  | succ n ih=>exact qo (k0:=1 + n) F21 T (D19.up (by omega)) ⟨f21,_,ih,b21,k21,PySem.W.mg_of X G a21⟩
 have D21:Def l.prog w K mg base 13 "_law_things" ["_law_kind","_law_numbers"] (jd V.int thg 12):=⟨f21,_,ch21 12,b21,k21,PySem.W.mg_of X G a21⟩
 have ch24:∀ n,bj l.prog w K mg base CX0 (1 + n) f24 _ ["_law_kind","_law_numbers"] (jd V.bl lkD n):=fun n=>by
  induction n with
  | zero=>exact ⟨fun vs H Q E h=>(by obtain ⟨v,d,k,nums,xs,rfl,_⟩:=h; rfl),fun A outer s H args us vs Q E hr he hb hv h=>(by obtain ⟨v,d,k,nums,xs,_,_,h1,_⟩:=h; have:=k.size_pos; omega)⟩
  | succ n ih=>exact sE (k0:=1 + n) F24 T (D19.up (by omega)) ⟨f24,_,ih,b24,k24,PySem.W.mg_of X G a24⟩
 have D24:Def l.prog w K mg base 13 "_law_lacks" ["_law_kind","_law_numbers"] (jd V.bl lkD 12):=⟨f24,_,ch24 12,b24,k24,PySem.W.mg_of X G a24⟩
 have ch22:∀ n,bj l.prog w K mg base CX0 (1 + n) f22 _ ["_law_kind","_law_numbers"] (fI n):=fun n=>by
  induction n with
  | zero=>exact ⟨fun vs H Q E h=>(by obtain ⟨v,d,k,nums,xs,rfl,_⟩:=h; rfl),fun A outer s H args us vs Q E hr he hb hv h=>(by obtain ⟨v,d,k,nums,xs,_,_,h1,_⟩:=h; have:=k.size_pos; omega)⟩
  | succ n ih=>exact tf (k0:=1 + n) F22 T (D19.up (by omega)) ⟨f22,_,ih,b22,k22,PySem.W.mg_of X G a22⟩
 have D22:Def l.prog w K mg base 13 "_law_value" ["_law_kind","_law_numbers"] (fI 12):=⟨f22,_,ch22 12,b22,k22,PySem.W.mg_of X G a22⟩
 have ch23:∀ n,bj l.prog w K mg base CX0 (0 + n) f23 _ ["_law_value_here"] (fW n):=fun n=>by
  induction n with
  | zero=>exact ⟨fun vs H Q E h=>(by obtain ⟨v,x,rfl,_⟩:=h; rfl),fun A outer s H args us vs Q E hr he hb hv h=>(by obtain ⟨v,x,_,_,⟨m,h1,_⟩,_⟩:=h; omega)⟩
  | succ n ih=>exact rH (k0:=0 + n) F23 T ⟨f23,_,ih,b23,k23,PySem.W.mg_of X G a23⟩
 have D23:Def l.prog w K mg base 13 "_law_stand" ["_law_value_here"] (fW 13):=⟨f23,_,ch23 13,b23,k23,PySem.W.mg_of X G a23⟩
 have D25:Def l.prog w K mg base 1 "_law_whole" ["_law_found","_law_least"] jQ:=⟨f25,_,sg F25 T,b25,k25,PySem.W.mg_of X G a25⟩
 have D26:Def l.prog w K mg base 2 "_law_formed" ["_law_told"] (ik K):=⟨f26,_,qD (k0:=1) F26 T (D25.up (by decide)),b26,k26,PySem.W.mg_of X G a26⟩
 exact wR (k0:=26) F27 T (D15.up (by decide)) (D16.up (by decide)) (D14.up (by decide)) (D18.up (by decide)) (D7.up (by decide)) (D20.up (by decide)) (D26.up (by decide)) (D10.up (by decide)) (D21.up (by decide)) (D22.up (by decide)) (D23.up (by decide)) (D13.up (by decide)) (D24.up (by decide))
theorem walk {l:PySem.W.OpenLaw} {q:Program} {loose:List Str} {XP:(Str->Option Value)->Heap->Prop} {YP:World->Heap->Prop} {d:DefRec} {K:Params->PySem.W.Frag} (hn:l.most=some 63) (hdf:d.params.defaults=[])
  (hY:∀ (w:World) (h:Heap),YP w h->(K w.params).In h)
  (F:∀ (w:World) (mg:Str->Option Value) (fa:Addr) (h:Heap),(K w.params).In h->h.Ns mainGlobals mg->mg d.name=some (.ref fa) ->
   ∃ fd:FuncData,(∀ (s:Shared) (u:Value),BindsTo s fd ⟨[u],[]⟩ [("_law_script",u)])/\∀ base:Heap,(K w.params).In base->base.Ns mainGlobals mg->bj l.prog w (K w.params) mg base CX0 27 fa fd ["_law_script"] (pi (K w.params))) :
  PySem.W.WalkO q loose XP YP l.row.toRowW d [] (fun f vs=>PySem.call f vs):=
 L2.walk_of (n:=63) (k:=27) (x:="_law_script") (CX:=fun _=>CX0) (sp:=fun w=>pi (K w.params)) hn (by decide) hdf ⟨rfl,by decide,by decide⟩ hY F (fun _ _ a ns hl _ hS=>⟨a,ns,rfl,hS,hl,fun _=>rfl⟩) fun _ _ _ _ _ z=>z
end K16
def PySem.W.Fast.tw15972678689824557980:Nat:=0
def PySem.W.Fast.tw382733631979397436:Nat:=0
def PySem.W.Fast.tw16964398547594614210:Nat:=0
def PySem.W.Fast.tw8450977426246423265:Nat:=0
def PySem.W.Fast.tw2905473140696331806:Nat:=0
def PySem.W.Fast.tw8258908853143515321:Nat:=0
def PySem.W.Fast.tw16286755798486417756:Nat:=0
def PySem.W.Fast.tw4596833508693560502:Nat:=0
def PySem.W.Fast.tw4158932640771205085:Nat:=0
def PySem.W.Fast.tw4113866499212700891:Nat:=0
def PySem.W.Fast.tw2482592354991551151:Nat:=0
def PySem.W.Fast.tw15625300882905034887:Nat:=0
def PySem.W.Fast.tw1116718187805502488:Nat:=0
def PySem.W.Fast.tw115397650086736402:Nat:=0
def PySem.W.Fast.tw16498279309160252620:Nat:=0
def PySem.W.Fast.tw376870550900229412:Nat:=0
def PySem.W.Fast.tw4997243876725242534:Nat:=0
def PySem.W.Fast.tw4192596906948258326:Nat:=0
def PySem.W.Fast.tw5194212206717323257:Nat:=0
def PySem.W.Fast.tw18303638020274754473:Nat:=0
def PySem.W.Fast.tw7888443670477649486:Nat:=0
def PySem.W.Fast.tw17407020912122969909:Nat:=0
def PySem.W.Fast.tw12390777610897691553:Nat:=0
def PySem.W.Fast.tw11910606209223416344:Nat:=0
def PySem.W.Fast.tw7589325457699335157:Nat:=0
def PySem.W.Fast.tw9790599041124434068:Nat:=0
open PySem PySem.W PyProof.Rows
set_option maxRecDepth 100000 in
set_option maxHeartbeats 0 in
theorem PySem.Challenge.cw_indexwise_k16_whole_weights_count_holds : PySem.Challenge.rw_indexwise_k16_whole_weights_count.Holds := by
 w_on; o_law; k_head; (case hw=>w_witness2)
 k_fill
 refine K16.walk (l := PySem.Challenge.rw_indexwise_k16_whole_weights_count) rfl rfl (fun w h Y => PySem.W.kIn_of Y) ?F
 case F=>
  intro w mg fa h KX G hmg
  refine' K16.all_mk KX G hmg ?a1 ?l1 ?c1 ?k1 ?a2 ?l2 ?c2 ?k2 ?a3 ?l3 ?c3 ?k3 ?a4 ?l4 ?c4 ?k4 ?a5 ?l5 ?c5 ?k5 ?a6 ?l6 ?c6 ?k6 ?a7 ?l7 ?c7 ?k7 ?a8 ?l8 ?c8 ?k8 ?a9 ?l9 ?c9 ?k9 ?a10 ?l10 ?c10 ?k10 ?a11 ?l11 ?c11 ?k11 ?a12 ?l12 ?c12 ?k12 ?a13 ?l13 ?c13 ?k13 ?a14 ?l14 ?c14 ?k14 ?a15 ?l15 ?c15 ?k15 ?a16 ?l16 ?c16 ?k16 ?a17 ?l17 ?c17 ?k17 ?a18 ?l18 ?c18 ?k18 ?a19 ?l19 ?c19 ?k19 ?a20 ?l20 ?c20 ?k20 ?a21 ?l21 ?c21 ?k21 ?a22 ?l22 ?c22 ?k22 ?a23 ?l23 ?c23 ?k23 ?a24 ?l24 ?c24 ?k24 ?a25 ?l25 ?c25 ?k25 ?a26 ?l26 ?c26 ?k26 ?a27 ?l27 ?c27 ?k27 ?z1 ?z2 ?z3 ?z4 ?z5 ?z6 ?z7 ?z8 ?z9 ?z10 ?z11 ?z12 ?z13 ?zg0 ?zO ?lO ?lO1 ?lO0
  (case a1=>k_is); (case l1=>k_is); (case c1=>k_is); (case k1=>k_is)
  (case a2=>k_is); (case l2=>k_is); (case c2=>k_is); (case k2=>k_is)
  (case a3=>k_is); (case l3=>k_is); (case c3=>k_is); (case k3=>k_is)
  (case a4=>k_is); (case l4=>k_is); (case c4=>k_is); (case k4=>k_is)
  (case a5=>k_is); (case l5=>k_is); (case c5=>k_is); (case k5=>k_is)
  (case a6=>k_is); (case l6=>k_is); (case c6=>k_is); (case k6=>k_is)
  (case a7=>k_is); (case l7=>k_is); (case c7=>k_is); (case k7=>k_is)
  (case a8=>k_is); (case l8=>k_is); (case c8=>k_is); (case k8=>k_is)
  (case a9=>k_is); (case l9=>k_is); (case c9=>k_is); (case k9=>k_is)
  (case a10=>k_is); (case l10=>k_is); (case c10=>k_is); (case k10=>k_is)
  (case a11=>k_is); (case l11=>k_is); (case c11=>k_is); (case k11=>k_is)
  (case a12=>k_is); (case l12=>k_is); (case c12=>k_is); (case k12=>k_is)
  (case a13=>k_is); (case l13=>k_is); (case c13=>k_is); (case k13=>k_is)
  (case a14=>k_is); (case l14=>k_is); (case c14=>k_is); (case k14=>k_is)
  (case a15=>k_is); (case l15=>k_is); (case c15=>k_is); (case k15=>k_is)
  (case a16=>k_is); (case l16=>k_is); (case c16=>k_is); (case k16=>k_is)
  (case a17=>k_is); (case l17=>k_is); (case c17=>k_is); (case k17=>k_is)
  (case a18=>k_is); (case l18=>k_is); (case c18=>k_is); (case k18=>k_is)
  (case a19=>k_is); (case l19=>k_is); (case c19=>k_is); (case k19=>k_is)
  (case a20=>k_is); (case l20=>k_is); (case c20=>k_is); (case k20=>k_is)
  (case a21=>k_is); (case l21=>k_is); (case c21=>k_is); (case k21=>k_is)
  (case a22=>k_is); (case l22=>k_is); (case c22=>k_is); (case k22=>k_is)
  (case a23=>k_is); (case l23=>k_is); (case c23=>k_is); (case k23=>k_is)
  (case a24=>k_is); (case l24=>k_is); (case c24=>k_is); (case k24=>k_is)
  (case a25=>k_is); (case l25=>k_is); (case c25=>k_is); (case k25=>k_is)
  (case a26=>k_is); (case l26=>k_is); (case c26=>k_is); (case k26=>k_is)
  (case a27=>k_is); (case l27=>k_is); (case c27=>k_is); (case k27=>k_is)
  (case z1=>k_is); (case z2=>k_is); (case z3=>k_is); (case z4=>k_is); (case z5=>k_is); (case z6=>k_is); (case z7=>k_is); (case z8=>k_is); (case z9=>k_is); (case z10=>k_is); (case z11=>k_is); (case z12=>k_is); (case z13=>k_is); (case zg0=>k_is); (case zO=>k_is); (case lO=>k_is); (case lO1=>k_is); (case lO0=>k_is)
