import PyProof.Rows.All
import Wide.All
import OpenK.AllK
import Wide.FinOn
import Lean
import PyProof.EqAt
import PyProof.EqKinds
import PyProof.TupleCall
import PySem.Challenge.RW_indexwise_k28_first_of_three_faults
set_option Elab.async false
set_option linter.all false
set_option maxRecDepth 100000
set_option maxHeartbeats 3200000
local macro_rules | `(tactic| trivial) => `(tactic| first | exact .inl rfl | exact .inr (.inl rfl) | exact .inr (.inr rfl) | exact .inr rfl | assumption)
open Array renaming length_toList→Ϟ,getElem?_eq_some_iff→r6,getD_eq_getD_getElem?→A8,perm_iff_toList_perm→B3,getD→Ep
open Bool renaming and_eq_true→Θ,false_ne_true→Ι,true_and→ϓ,false_and→Ϻ,eq_iff_iff→i6,false_or→x5,eq_false_iff→A_,or_eq_true→CW,false_eq_true→Dm,and_true→DJ,and_false→Ec
open Classical renaming byContradiction→Dx
open False renaming elim→c_
open ForInStep renaming yield→A4
open Int renaming toNat_natCast→l_,fdiv_eq_ediv_of_nonneg→BX,emod_lt_of_pos→Dt,emod_nonneg→Ea
open List renaming mem_singleton→ε,length_map→ζ,mem_cons→θ,mem_cons_of_mem→ο,getElem?_eq_some_iff→π,size_toArray→ρ,length_append→ς,replicate→χ,map_append→ω,mem_of_getElem?→Α,mem_map→Δ,mem_cons_self→Ε,getElem?_eq_getElem→Ζ,getElem?_map→Κ,map_cons→Ο,length_take→Ρ,length_cons→Υ,mem_append→Ψ,range→Ω,map_map→ϋ,length_singleton→ϐ,mem_append_right→ϒ,mem_of_mem_take→Ϛ,take_length→ϛ,take_add_one→Ϡ,map_nil→ϡ,length_reverse→Ϥ,length_drop→ϧ,lookup_cons→ϭ,all_eq_true→Ϯ,flatMap_cons→ϰ,nodup_cons→ϱ,not_mem_nil→ϳ,flatMap_append→ϴ,getElem?_eq_none→ϵ,mem_range→ϸ,mem_append_left→Ϲ,find?_cons→a8,any_eq_true→a_,filter_cons→b_,filterMap_cons→c6,replicate_succ→d_,getElem_of_mem→e_,mem_map_of_mem→f_,nodup_append→g_,take_append_drop→h_,filter_append→i8,mem_filter→j8,append_nil→j9,drop_eq_getElem_cons→j_,length_replicate→k4,getElem_mem→k8,map_take→k_,eq_nil_of_length_eq_zero→l8,map_congr_left→m6,take_of_length_le→m9,getElem?_append_right→n_,getD→t7,sum_append→u7,all_map→u9,dropLast_concat→u_,getElem?_take_of_lt→x4,mem_filterMap→y8,getElem?_reverse→A5,flatten_cons→A7,pairwise_map→A9,getElem?_set_ne→BW,nodup_iff_pairwise_ne→B6,getElem_inj→B8,getElem?_append_left→B_,any_cons→Cd,eq_of_mem_replicate→Ce,length_nil→Cg,range_succ→Ci,length_eq_zero_iff→Cl,getElem?_set_self→Cn,any_eq_false→Cp,take_sublist→Cq,ext_getElem?→Cu,getElem_map→CF,cons_append→CG,map_reverse→CJ,mem_flatMap→CK,sum_cons→CO,mem_of_mem_drop→CS,nil_append→CT,getElem?_range→C6,filterMap_map→Di,find?_eq_none→Do,contains_cons→Du,reverse_cons→DA,append_assoc→DB,lookup→DC,Pairwise→DH,map_drop→DK,drop_length→DP,append_inj'→DQ,foldl→DT,of_mem_zip→DW,forIn_cons→DZ,map→Ee,Perm→Ev
open List.Perm renaming refl→Ed
open List.Sublist renaming refl→Cv
open Nat renaming le_of_ble_eq_true→μ,le_refl→τ,ne_of_lt→Τ,zero_le→Χ,lt_of_lt_of_le→ώ,le_trans→ϔ,ne_of_gt→i5,lt_succ_of_lt→j6,le_add_right→k7,le_of_lt→k9,le_succ→m_,min_eq_left→u6,lt_irrefl→w9,not_lt_zero→A3,lt_succ_self→B9,lt_succ_iff_lt_or_eq→Cf,lt_of_le_of_lt→Dl,lt_trichotomy→DG,min_eq_right→DO
open Ne renaming symm→ϊ
open Option renaming map_eq_some_iff→Ϙ,isSome_map→A6
open Option.some renaming inj→ϙ
open Or renaming inl→Λ,inr→CV
open PyProof.Rows renaming callWith_type1→Ϫ,slot_tuple_getitem→ϫ,envOfC→Cb,AllBare→C7,call_isinstance_of→Dw,Subscript_→En
open PyProof.Rows.F renaming plain_set_update_loop→Ck
open PyProof.Rows.IsTup renaming new→El
open PySem renaming wpAny_bind→γ,Value→δ,Shared→ι,wpAny_pure→ξ,sizeLine_eq→ψ,Program→Β,FuncData→Μ,wpAny_loadPart_at→Ν,World→Ξ,Around→Φ,wpAny_newObj_type→ϖ,Builtin→Ϣ,wpAny_field→ϣ,wpAny_isSubtype_exc→ϥ,wpAny_truthy_bool→ϯ,wpAny_callSpecial?_slot→Ϸ,wpAny_holding→a7,wpAny_call_entry→a9,wpAny_mono→c9,wpAny_Call_Name_kw→i7,codeAny_call_builtin→i9,call_meets→j4,wpAny_seqItems→j7,SetTable→l7,wpAny_rule→o_,wpAny_setField_rec→q_,wpAny_binaryOp_repeat_ref→r_,wpAny_passesOwn→s_,codeAny_builtin→t_,codeAny_mono→u8,IsPair→x6,wpAny_getItem_str_slice→y6,wpAny_execs_nil→A2,GenState→BU,NameKind→BY,typeIs_int→B0,wpAny_setField→B4,wpAny_pyIter_tuple→Cj,Scope→Cm,wpAny_pyIter_list→Co,DictEntry→Cz,wpAny_call→CA,wpAny_standAt→CL,wpAny_onRaise→CM,wpAny_updateSeq_pair→CQ,post_val_or_str→CY,codeAny_of_tree→CZ,wpAny_updateSeq→C3,length_le_of_nodup_of_subset→C5,wpAny_typeOf→C8,ExcBaseFacts→Da,tupleKind_room_in1→Dh,IsZip→Dq,slot_list_getitem→Dz,ExcAttrBase→DE,plainId_quiet→DI,wpAny_execs_cons→DL,wpAny_isInstance→DM,Result→DS,OsState→DV,wpAny_specialOf→DX,Model→Eb,wpAny_runValue→Ef,wpAny_letGo→Eg,ZipApart→Eh,wpAny_loadPart→Ei,BindsTo→Ek,IsPart→Eo,Drawn→Et,Walks→Eu
open PySem.Around renaming under_plainId→CP
open PySem.AutoSeq1 renaming wpAny_loadPart'→ϩ,sub_tuple_tuple→x9,idx_int→CH
open PySem.Builtin renaming bitAnd→De
open PySem.Builtin.Frozenset renaming updateFrom→C1
open PySem.Builtin.List renaming listTooLong→i3,listExtendWith→m8,listLengthHint→C_
open PySem.Builtin.ObjectAttr renaming storeInDict→CI
open PySem.Builtin.Range renaming rangeSize→ϑ
open PySem.Builtin.Slice renaming slicePlaces→r9,sliceApplied→BZ,sliceAdjust→Ca
open PySem.Builtin.SmallTypes renaming nextOf→Ϧ,ownedTupleIsFree→i4,ownedTupleHandOut→Cc
open PySem.Builtin.Tuple renaming tupleExact→ϕ,tupleTooMany→B5,tupleItemsOf→Dj,tupleIsExact→Dp
open PySem.Calls renaming callWith_builtin→Cr,Name_function_global→Dd,spliced_cons→Dg,spliced_nil→Dy
open PySem.Code renaming quiet_builtin→y_
open PySem.Data renaming cell→Ej
open PySem.F renaming slot_int_rmul→m5,slot_tuple_iterator_next→p_,args_int_rmul_2→Cs,typeOf_object_class→Cy,slot_int_index→CB,entry_int_rmul→CC,fills_int_mul→CU,args_tuple_iterator_next_1→C2,slot_zip_next→C4,entry_tuple_iterator_next→C9,args_tuple_mul_2→Ds,entry_tuple_mul→DD,slot_tuple_mul→DN
open PySem.Heap renaming get?_push_of_some→ν,lt_size→υ,get?_push_size→Γ,get?_update_other→ύ,get?_update_self→Ϝ,size_push→ϟ,get?_none_of_le→Ϩ,SameBut→y9,get?_push_ne→Ct,size_update→CD
open PySem.Heap.SameBut renaming update→x_
open PySem.NameKind renaming free→ό,cell→i_
open PySem.Obj renaming mapSeq→o0,data_mapFields→z_,isFreed_of_fields→Cw,mapFields→CN,putSet→DU
open PySem.PassesOwn renaming never→ϝ,leaving→DF
open PySem.SeqAt renaming EqAt→ϗ,RcAt→Es
open PySem.SeqAt.EqAt renaming int_str→Db,str_int→Dc,str_str→Dk,same→DY
open PySem.SetTable renaming grown→y7
open PySem.Str renaming ofString→η
open PySem.Value renaming ref→Η,none→Ϭ,str→ϲ,builtin→n5,type→v_,int→B7,bool→Em
open PySem.Value.type renaming inj→ϻ
open PySem.W renaming Looks→D_
open PySem.W.KasT renaming kasWp_bind→Ch
open Sum renaming inr→Ϗ,inl→DR
open True renaming intro→w_
namespace L2
open PySem PySem.Spec PyProof.Rows
abbrev Key:=Sum Int Str
def jx:Key->δ->Bool
 | .inl k,v=>δ.isInt k v
 | .inr x,v=>δ.isStrOf x v
def Bi (w:Ξ):Key->Int
 | .inl k=>hashInt k
 | .inr x=>hashStr w x
theorem aZ:∀ {k:Key} {v:δ},jx k v=true->(∃ i t,k=DR i/\v=B7 i t)\/(∃ x t,k=Ϗ x/\v=ϲ x t)
 | .inl i,v,h=>by
  obtain ⟨t,e⟩:=δ.isInt_shape (k:=i) (v:=v) h
  exact .inl ⟨i,t,rfl,e⟩
 | .inr x,v,h=>by
  obtain ⟨t,e⟩:=δ.isStrOf_shape (x:=x) (v:=v) h
  exact .inr ⟨x,t,rfl,e⟩
theorem rD (i:Int) (t:Tok):jx (.inl i) (.int i t)=true:=by simp [jx,δ.isInt]
theorem rH (x:Str) (t:Tok):jx (.inr x) (.str x t)=true:=by simp [jx,δ.isStrOf]
theorem zN (a b:Int):decide ((DR a:Key)=DR b)=(a == b):=by
 by_cases e:a=b
 ·subst e; simp
 ·have h:¬ (DR a:Key)=DR b:=fun q=>e (DR.inj q)
  rw [decide_eq_false h]
  exact (beq_eq_false_iff_ne.mpr e).symm
theorem zT (a b:Str):decide ((Ϗ a:Key)=Ϗ b)=decide (a=b):=by
 by_cases e:a=b
 ·subst e; simp
 ·have h:¬ (Ϗ a:Key)=Ϗ b:=fun q=>e (Ϗ.inj q)
  rw [decide_eq_false h,decide_eq_false e]
theorem zu (a:Int) (b:Str):decide ((DR a:Key)=Ϗ b)=false:=decide_eq_false (fun q=>nomatch q)
theorem yO (a:Str) (b:Int):decide ((Ϗ a:Key)=DR b)=false:=decide_eq_false (fun q=>nomatch q)
def aR (prog:Β) (w:Ξ):PySem.KeyKind prog w Key where
 is:=jx
 hash:=Bi w
 inj:=fun v a b ha hb=>by
  rcases aZ ha with ⟨i,t,rfl,rfl⟩ | ⟨x,t,rfl,rfl⟩
  ·rcases aZ hb with ⟨j,u,rfl,e⟩ | ⟨y,u,rfl,e⟩
   ·injection e with e1 _; rw [e1]
   ·exact nomatch e
  ·rcases aZ hb with ⟨j,u,rfl,e⟩ | ⟨y,u,rfl,e⟩
   ·exact nomatch e
   ·injection e with e1 _; rw [e1]
 byValue:=fun k v h=>by
   rcases aZ h with ⟨i,t,rfl,rfl⟩ | ⟨x,t,rfl,rfl⟩ <;> rfl
 pyHash:=fun hv h=>by
  rcases aZ hv with ⟨i,t,rfl,rfl⟩ | ⟨x,t,rfl,rfl⟩
  ·exact wpAny_pyHash_int h
  ·exact wpAny_pyHash_str h
 eqBool:=fun hu hv h=>by
  rcases aZ hu with ⟨i,t,rfl,rfl⟩ | ⟨x,t,rfl,rfl⟩
  ·rcases aZ hv with ⟨j,u,rfl,rfl⟩ | ⟨y,u,rfl,rfl⟩
   ·rw [zN] at h; exact wpAny_eqBool_int h
   ·rw [zu] at h; exact Db i t y u _ _ _ _ h
  ·rcases aZ hv with ⟨j,u,rfl,rfl⟩ | ⟨y,u,rfl,rfl⟩
   ·rw [yO] at h; exact Dc x t j u _ _ _ _ h
   ·rw [zT] at h; exact wpAny_eqBool_str h
 «strs»:=fun k x t v h=>by
  rcases aZ h with ⟨i,u,rfl,e⟩ | ⟨y,u,rfl,e⟩
  ·exact nomatch e
  ·injection e with e1 _
   subst e1
   cases v <;> rfl
theorem mR (prog:Β) (w:Ξ) (i:Int) (t:Tok):(aR prog w).is (.inl i) (.int i t)=true:=rD i t
theorem dD (prog:Β) (w:Ξ) (x:Str) (t:Tok):(aR prog w).is (.inr x) (.str x t)=true:=rH x t
inductive V where
 | non | bl (b:Bool) | int (i:Int) | str (x:Str) | byt (b:Array UInt8) | flt (b:UInt64) | ref (a:Addr) | ty (n:String)
 deriving DecidableEq
def ay:V->δ->Prop
 | .non,u=>u=Ϭ
 | .bl b,u=>u=Em b
 | .int i,u=>∃ t,u=B7 i t
 | .str x,u=>∃ t,u=ϲ x t
 | .byt b,u=>∃ t,u=δ.bytes b t
 | .flt b,u=>∃ t,u=δ.float b t
 | .ref a,u=>u=Η a
 | .ty n,u=>u=v_ n
abbrev au:List V->List δ->Prop:=Paired ay
theorem au.length {xs:List V} {us:List δ} (r:au xs us):xs.length=us.length:=Paired.length r
theorem au.get:∀ {xs:List V} {us:List δ} {i:Nat} {x:V},au xs us->xs[i]?=some x->∃ u,us[i]?=some u/\ay x u
 | _,_,_,_,.nil,e=>by simp at e
 | _,_,0,_,.cons r _,e=>by simp at e; subst e; exact ⟨_,rfl,r⟩
 | _,_,i + 1,x,.cons _ t,e=>by
  obtain ⟨u,h1,h2⟩:=au.get (i:=i) (x:=x) t (by simpa using e)
  exact ⟨u,by simpa using h1,h2⟩
theorem au.set {x:V} {u:δ} (r:ay x u):∀ {xs:List V} {us:List δ} (i:Nat),au xs us->au (xs.set i x) (us.set i u)
 | _,_,_,.nil=>.nil
 | _,_,0,.cons _ t=>.cons r t
 | _,_,i + 1,.cons q t=>.cons q (au.set r i t)
theorem au.append:∀ {xs ys:List V} {us ws:List δ},au xs us->au ys ws->au (xs ++ ys) (us ++ ws)
 | _,_,_,_,.nil,s=>s
 | _,_,_,_,.cons r t,s=>.cons r (au.append t s)
theorem au.take:∀ {xs:List V} {us:List δ} (n:Nat),au xs us->au (xs.take n) (us.take n)
 | _,_,0,_=>.nil
 | _,_,_ + 1,.nil=>.nil
 | _,_,n + 1,.cons r t=>.cons r (au.take n t)
theorem au.drop:∀ {xs:List V} {us:List δ} (n:Nat),au xs us->au (xs.drop n) (us.drop n)
 | _,_,0,r=>r
 | _,_,_ + 1,.nil=>.nil
 | _,_,n + 1,.cons _ t=>au.drop n t
def pS:Option V->Option δ->Prop
 | some v,some u=>ay v u
 | none,none=>True
 | _,_=>False
def KV {κ:Type}:List (κ×V)->List (κ×δ)->Prop:=Paired fun (p:κ×V) (q:κ×δ)=>p.1=q.1/\ay p.2 q.2
def kV:Key->V
 | .inl i=>.int i
 | .inr x=>.str x
inductive HO where
 /-- a list -/
 | lst (xs:List V)
 /-- a tuple (never changes) -/
 | tup (xs:List V)
 /-- a dict whose keys are ints and texts; one whose keys are tuples of ints and texts (the empty one is both) -/
 | dK (kvs:List (Key×V)) | dT (kvs:List (List Key×V))
 /-- a set of ints: its members,its size -/
 | set (S:Int->Bool) (n:Nat)
 /-- an instance of the class at C,its dict at dx,its attributes -/
 | ins (C dx:Addr) (fs:List (Str×V))
 /-- the dict of the instance at x -/
 | own (x:Addr)
 /-- the dict of an exception -/
 | xd (fs:List (Str×V))
 /-- a bound method,f of x -/
 | met (f x:Addr)
 /-- a range object lo,lo + 1,.. below hi -/
 | rng (lo hi:Int)
 /-- a thing that is known to the object (the script; a dict while a loop walks it): read,never written while it is so -/
 | frz (o:Obj) (u:HO)
 /-- a code object's table -/
 | tbl (ps:Array δ)
 /-- any other thing,by what is true of its one object (a def of one's own: SetO a S n:=HO.ext fun h=>..) -/
 | ext (φ:Heap->Prop)
abbrev Hp:=Addr->Option HO
def upd (H:Hp) (a:Addr) (o:HO):Hp:=fun b=>if b=a then some o else H b
theorem aa {H:Hp} {a:Addr} {o:HO}:upd H a o a=some o:=by unfold upd; rw [if_pos rfl]
theorem ag {H:Hp} {a b:Addr} {o:HO} (h:b≠a):upd H a o b=H b:=by unfold upd; rw [if_neg h]
theorem Av {H:Hp} {a b:Addr} {o u:HO} (h:H a=some o) (h':H b=some u) (d:o≠u):a≠b:=by
 intro e; subst e; rw [h] at h'; exact d (ϙ h')
theorem ae {H:Hp} {a b:Addr} {o:HO} (h:H a=some o) (h':H b=none):a≠b:=by
 intro e; subst e; rw [h] at h'; cases h'
def NoD (h:Heap) (a:Addr):Prop:=∃ o,h.get? a=some o/\o.dict=none
theorem NoD.new (h:Heap) {o:Obj} (e:o.dict=none) (f:o.isFreed=false:=by rfl):NoD (h.push o) h.objs.size:=⟨_,Γ _ f,e⟩
section
variable (P:Β) (w:Ξ)
def aV (H:Hp) (h:Heap) (a:Addr):HO->Prop
 | .lst xs=>xs.length<=sizeLine/\∃ (its:List δ) (n:Nat),au xs its/\h.get? a=some { cls:=.type "list",data:=.seq its.toArray n }
 | .tup xs=>xs.length<=sizeLine/\∃ its:List δ,au xs its/\IsTup h a its.toArray/\NoD h a
 | .dK kvs=>kvs.length<=sizeLine/\(a == sysModules)=false/\∃ vs,KV kvs vs/\h.DictOf (aR P w) a vs
 | .dT kvs=>kvs.length<=sizeLine/\(a == sysModules)=false/\∃ xs:List (List Key×Addr×δ),
   Paired (fun (p:List Key×V) (q:List Key×Addr×δ)=>p.1=q.1/\H q.2.1=some (.tup (p.1.map kV))/\ay p.2 q.2.2) kvs xs /\
   ∃ o es ep,h.get? a=some o/\o.ExactDict/\o.data=.dict es ep/\es.toList=xs.map (entryOfKey (tupleKind (aR P w)))/\(xs.map (·.1)).Nodup
 | .set S n=>h.SetOf (intKind P w) a S n
 | .ins C dx fs=>H dx=some (.own a)/\fs.length<=1000/\dx≠a/\h.get? a=some (PySem.W.instObj C dx) /\
   ∃ mA,h.Ns1 dx mA/\(∀ f,pS (fs.lookup f) (mA f))/\PySem.Within mA (fs.map (·.1))
 | .own _=>∃ o,h.get? a=some o
 | .xd fs=>∃ mA,h.Ns1 a mA/\∀ f,pS (fs.lookup f) (mA f)
 | .rng lo hi=>∃ t u v,h.get? a=some { cls:=.type "range",data:=.fields #[.int lo t,.int hi u,.int 1 v] }
 | .frz o u=>h.get? a=some o/\aV H h a u
 | .tbl ps=>h.get? a=some { cls:=.none,data:=.fields ps }
 | .met f x=>h.get? a=some (PySem.W.methodObj (.ref f) (.ref x))
 | .ext φ=>φ h/\(∃ o,h.get? a=some o)/\∀ h1 h2:Heap,φ h1->(∀ o,h1.get? a=some o->h2.get? a=some o)->φ h2
def HOk (H:Hp) (h:Heap):Prop:=∀ a o,H a=some o->aV P w H h a o
end
section
variable {P:Β} {w:Ξ} {H H':Hp} {h h':Heap} {a:Addr} {o:HO}
theorem aV.lt (x:aV P w H h a o):a < h.objs.size:=by
 cases o with
 | lst xs=>obtain ⟨_,_,_,_,e⟩:=x; exact υ e
 | tup xs=>obtain ⟨_,_,_,p⟩:=x; exact p.1.lt
 | dK kvs=>obtain ⟨_,_,_,_,o,_,_,e,_⟩:=x; exact υ e
 | dT kvs=>obtain ⟨_,_,_,_,o,_,_,e,_⟩:=x; exact υ e
 | set S n=>obtain ⟨o,_,_,_,e,_⟩:=x; exact υ e
 | ins C dx fs=>obtain ⟨_,_,_,e,_⟩:=x; exact υ e
 | own y=>obtain ⟨_,e⟩:=x; exact υ e
 | xd fs=>obtain ⟨_,⟨_,_,_,e,_⟩,_⟩:=x; exact υ e
 | rng lo hi=>obtain ⟨_,_,_,e⟩:=x; exact υ e
 | frz ob u=>obtain ⟨e,_⟩:=x; exact υ e
 | tbl ps=>exact υ (show h.get? a=some _ from x)
 | met f y=>exact υ (show h.get? a=some _ from x)
 | ext φ=>obtain ⟨_,⟨_,e⟩,_⟩:=x; exact υ e
theorem Paired.mapP {α β:Type} {F G:α->β->Prop}:∀ {l₁:List α} {l₂:List β},Paired F l₁ l₂->(∀ a b,F a b->G a b)->Paired G l₁ l₂
 | _,_,.nil,_=>.nil
 | _,_,.cons r t,f=>.cons (f _ _ r) (Paired.mapP t f)
theorem aV.stay (x:aV P w H h a o) (k:∀ b u,(b=a\/H b=some (.own a))->h.get? b=some u->h'.get? b=some u)
  (ho:∀ b,H b=some (.own a)->H' b=some (.own a)) (ht:∀ b xs,H b=some (.tup xs)->H' b=some (.tup xs)):aV P w H' h' a o:=by
 induction o with
 | lst xs=>obtain ⟨z,its,n,r,e⟩:=x; exact ⟨z,its,n,r,k _ _ (.inl rfl) e⟩
 | tup xs=>obtain ⟨z,its,r,⟨ob,e,c⟩,od,e2,c2⟩:=x; exact ⟨z,its,r,⟨ob,k _ _ (.inl rfl) e,c⟩,od,k _ _ (.inl rfl) e2,c2⟩
 | dK kvs=>obtain ⟨z,y,vs,r,ob,es,ep,e,c⟩:=x; exact ⟨z,y,vs,r,ob,es,ep,k _ _ (.inl rfl) e,c⟩
 | dT kvs=>
  obtain ⟨z,y,xs,r,ob,es,ep,e,c⟩:=x
  exact ⟨z,y,xs,Paired.mapP r fun p q z=>⟨z.1,ht _ _ z.2.1,z.2.2⟩,ob,es,ep,k _ _ (.inl rfl) e,c⟩
 | set S n=>obtain ⟨ob,es,ep,t,e,c⟩:=x; exact ⟨ob,es,ep,t,k _ _ (.inl rfl) e,c⟩
 | ins C dx fs=>
  obtain ⟨d,z,ne,e,mA,⟨od,es,ep,e2,c⟩,r⟩:=x
  exact ⟨ho _ d,z,ne,k _ _ (.inl rfl) e,mA,⟨od,es,ep,k _ _ (.inr d) e2,c⟩,r⟩
 | own y=>obtain ⟨ob,e⟩:=x; exact ⟨ob,k _ _ (.inl rfl) e⟩
 | xd fs=>obtain ⟨mA,⟨od,es,ep,e,c⟩,r⟩:=x; exact ⟨mA,⟨od,es,ep,k _ _ (.inl rfl) e,c⟩,r⟩
 | rng lo hi=>obtain ⟨t,u,v,e⟩:=x; exact ⟨t,u,v,k _ _ (.inl rfl) e⟩
 | frz ob u ih=>obtain ⟨e,q⟩:=x; exact ⟨k _ _ (.inl rfl) e,ih q⟩
 | tbl ps=>
  have e:h.get? a=some { cls:=.none,data:=.fields ps }:=x
  show h'.get? a=some { cls:=.none,data:=.fields ps }
  exact k a _ (.inl rfl) e
 | met f y=>
  have e:h.get? a=some (PySem.W.methodObj (.ref f) (.ref y)):=x
  show h'.get? a=some (PySem.W.methodObj (.ref f) (.ref y))
  exact k a _ (.inl rfl) e
 | ext φ=>obtain ⟨p,⟨o,e⟩,st⟩:=x; exact ⟨st _ _ p fun o q=>k _ _ (.inl rfl) q,⟨o,k _ _ (.inl rfl) e⟩,st⟩
theorem HOk.lt (x:HOk P w H h) (e:H a=some o):a < h.objs.size:=(x a o e).lt
theorem HOk.fresh (x:HOk P w H h) (e:h.objs.size<=a):H a=none:=by
 cases q:H a with
 | none=>rfl
 | some u=>exact absurd (ώ (x.lt q) e) (w9 _)
theorem HOk.kept (x:HOk P w H h) (k:∀ b u,h.get? b=some u->h'.get? b=some u):HOk P w H h':=fun a o e=>
 (x a o e).stay (fun b u _ q=>k b u q) (fun _ q=>q) fun _ _ q=>q
theorem HOk.laid (x:HOk P w H h) (k:∀ b u,h.get? b=some u->h'.get? b=some u) (hp:h.objs.size<=a) (new:aV P w (upd H a o) h' a o):HOk P w (upd H a o) h':=fun b u e=>by
 have hn:=x.fresh hp
 by_cases hb:b=a
 ·subst hb; rw [aa] at e; cases e; exact new
 ·rw [ag hb] at e
  exact (x b u e).stay (fun c v _ q=>k c v q) (fun c q=>by rw [ag (ae q hn)]; exact q) fun c xs q=>by rw [ag (ae q hn)]; exact q
end
def Rd (H:Hp) (a:Addr) (u:HO):Prop:=H a=some u\/∃ o,H a=some (.frz o u)
theorem Rd.ok {P:Β} {w:Ξ} {H:Hp} {h:Heap} {a:Addr} {u:HO} (r:Rd H a u) (x:HOk P w H h):aV P w H h a u:=by
 rcases r with r | ⟨o,r⟩
 ·exact x a u r
 ·obtain ⟨_,q⟩:=x a _ r
  exact q
def Mut:Option HO->Prop
 | some (.lst _)=>True
 | some (.dK _)=>True
 | some (.dT _)=>True
 | some (.set _ _)=>True
 | some (.ins _ _ _)=>True
 | some (.ext _)=>True
 | _=>False
section
variable {P:Β} {w:Ξ} {H:Hp} {h h':Heap} {x e:Addr} {o':HO}
theorem HOk.write (ok:HOk P w H h) (mu:Mut (H x)) (he:e=x\/H e=some (.own x)) (k:∀ b u,b≠e->h.get? b=some u->h'.get? b=some u) (heo:∃ u,h'.get? e=some u)
  (new:aV P w (upd H x o') h' x o'):HOk P w (upd H x o') h':=fun b u q=>by
 have nown:∀ c y,H c=some (.own y)->c≠x:=fun c y r z=>by subst z; rw [r] at mu; exact mu
 have ntup:∀ c xs,H c=some (.tup xs)->c≠x:=fun c xs r z=>by subst z; rw [r] at mu; exact mu
 by_cases hb:b=x
 ·subst hb; rw [aa] at q; cases q; exact new
 ·rw [ag hb] at q
  by_cases hbe:b=e
  ·have q':H b=some (.own x):=by
    rcases he with z | z
    ·exact absurd (hbe.trans z) hb
    ·rw [hbe]; exact z
   rw [q] at q'; cases q'
   obtain ⟨v,hv⟩:=heo
   exact ⟨v,by rw [hbe]; exact hv⟩
  ·refine (ok b u q).stay (fun c v hc r=>k c v ?_ r) (fun c r=>by rw [ag (nown c b r)]; exact r) fun c xs r=>by rw [ag (ntup c xs r)]; exact r
   rcases hc with rfl | hc
   ·exact hbe
   ·rintro rfl
    rcases he with z | z
    ·exact nown c b hc z
    ·rw [hc] at z; cases z; exact hb rfl
end
structure Un (fs ex:List Addr) (H H':Hp) (h h':Heap):Prop where
 keep:∀ b o,h.get? b=some o->H b=none->b∉fs->b∉ex->h'.get? b=some o
 slot:∀ b o,h.get? b=some o->H b=none->b∈fs->b∉ex->∃ sl,h'.get? b=some { o with slots:=sl }
 free:∀ b o,h.get? b=some o->H b=none->b∉ex->H' b=none
 there:∀ b o,h.get? b=some o->b∉ex->∃ o',h'.get? b=some o'
 tups:∀ b xs,H b=some (.tup xs)->H' b=some (.tup xs)
 frzs:∀ b o u,H b=some (.frz o u)->H' b=some (.frz o u)
 tbls:∀ b ps,H b=some (.tbl ps)->∃ more,H' b=some (.tbl (ps ++ more))
section
variable {fs fs' ex ex':List Addr} {H H1 H2:Hp} {h h1 h2 h':Heap} {a x e:Addr} {o:HO}
theorem Un.any (u:Un fs ex H H1 h h1) {b:Addr} {ob:Obj} (q:h.get? b=some ob) (n:H b=none) (hx:b∉ex):∃ sl,h1.get? b=some { ob with slots:=sl }:=by
 by_cases hb:b∈fs
 ·exact u.slot b ob q n hb hx
 ·exact ⟨ob.slots,u.keep b ob q n hb hx⟩
theorem Un.kept (k:∀ b u,h.get? b=some u->h'.get? b=some u):Un fs ex H H h h':=
 ⟨fun b ob q _ _ _=>k b ob q,fun b ob q _ _ _=>⟨ob.slots,k b ob q⟩,fun _ _ _ n _=>n,fun b ob q _=>⟨ob,k b ob q⟩,fun _ _ q=>q,fun _ _ _ q=>q,fun _ ps q=>⟨#[],by rw [q]; simp⟩⟩
theorem Un.refl:Un fs ex H H h h:=Un.kept fun _ _ q=>q
theorem Un.laid (k:∀ b u,h.get? b=some u->h'.get? b=some u) (hp:h.objs.size<=a) (hn:H a=none):Un fs ex H (upd H a o) h h' where
 keep:=fun b u q _ _ _=>k b u q
 slot:=fun b u q _ _ _=>⟨u.slots,k b u q⟩
 free:=fun b u q n _=>by rw [ag (Τ (ώ (υ q) hp))]; exact n
 there:=fun b u q _=>⟨u,k b u q⟩
 tups:=fun b xs q=>by rw [ag (ae q hn)]; exact q
 frzs:=fun b u xs q=>by rw [ag (ae q hn)]; exact q
 tbls:=fun b ps q=>⟨#[],by rw [ag (ae q hn),q]; simp⟩
theorem Un.write (mu:Mut (H x)) (he:e=x\/H e=some (.own x)) (k:∀ b u,b≠e->h.get? b=some u->h'.get? b=some u) (heo:∃ u,h'.get? e=some u):Un fs ex H (upd H x o) h h':=by
 have hx:∀ b,H b=none->b≠x:=fun b n z=>by subst z; rw [n] at mu; exact mu
 have hb:∀ b,H b=none->b≠e:=fun b n z=>by
  subst z
  rcases he with r | r
  ·exact hx b n r
  ·rw [n] at r; cases r
 have hm:∀ b u,H b=some u->¬ Mut (some u)->b≠x:=fun b u q nm z=>by subst z; rw [q] at mu; exact nm mu
 refine ⟨fun b u q n _ _=>k b u (hb b n) q,fun b u q n _ _=>⟨u.slots,k b u (hb b n) q⟩,fun b u q n _=>by rw [ag (hx b n)]; exact n,fun b u q _=>?_,
  fun b xs q=>by rw [ag (hm b _ q fun z=>z)]; exact q,fun b u xs q=>by rw [ag (hm b _ q fun z=>z)]; exact q,fun b ps q=>⟨#[],by rw [ag (hm b _ q fun z=>z),q]; simp⟩⟩
 by_cases hbe:b=e
 ·subst hbe; exact heo
 ·exact ⟨u,k b u hbe q⟩
end
def trk (h:Heap) (H:Hp):List Addr:=(Ω h.objs.size).filter fun a=>(H a).isSome
def kO (h:Heap) (H:Hp):Heap:=PySem.W.hideAll h (trk h H)
theorem sv (h:Heap) (H:Hp):(kO h H).objs.size=h.objs.size:=PySem.W.hideAll_size _ _
theorem uD {h:Heap} {H:Hp} {b:Addr} {o:Obj} (e:h.get? b=some o) (n:H b=none):(kO h H).get? b=some o:=
 PySem.W.hideAll_get _ e fun hm=>by
  have q:(H b).isSome=true:=(j8.mp hm).2
  rw [n] at q; simp at q
theorem wP {h:Heap} {H:Hp} {b:Addr} {o:Obj} (e:(kO h H).get? b=some o):h.get? b=some o/\H b=none:=by
 have e':h.get? b=some o:=PySem.W.of_hideAll (trk h H) e
 refine ⟨e',?_⟩
 cases q:H b with
 | none=>rfl
 | some x=>
  have hm:b∈trk h H:=j8.mpr ⟨ϸ.mpr (υ e'),by simp [q]⟩
  have z:(kO h H).get? b=none:=PySem.W.hideAll_none (trk h H) hm
  rw [z] at e; cases e
def hV (g h:Heap) (L:Addr):List (Addr×Obj):=(Ω h.objs.size).filterMap fun a=>if a=L\/(g.get? a).isSome=true then none else (h.get? a).map fun o=>(a,o)
theorem mK {g h:Heap} {L a:Addr} {o:Obj} (h1:a≠L) (h2:g.get? a=none) (h3:h.get? a=some o):(a,o)∈hV g h L:=
 y8.mpr ⟨a,ϸ.mpr (υ h3),by simp [h1,h2,h3]⟩
theorem iG {g h:Heap} {L:Addr} {p:Addr×Obj} (hp:p∈hV g h L):p.1≠L/\g.get? p.1=none/\h.get? p.1=some p.2:=by
 obtain ⟨b,_,e⟩:=y8.mp hp
 split at e
 ·cases e
 ·rename_i hn
  cases q:h.get? b with
  | none=>rw [q] at e; simp at e
  | some u=>
   rw [q] at e
   simp only [Option.map_some,Option.some.injEq] at e
   subst e
   refine ⟨fun z=>hn (.inl z),?_,q⟩
   show g.get? b=none
   cases r:g.get? b with
   | none=>rfl
   | some v=>exact (hn (.inr (by simp [r]))).elim
theorem tO {g h:Heap} {L:Addr}:News g L h (hV g h L):=fun p hp=>let ⟨a,b,c⟩:=iG hp; ⟨c,a,b⟩
structure Mod (K:PySem.W.Frag) (mg:Str->Option δ) (base:Heap):Prop where
 kin:K.In base
 glob:base.Ns mainGlobals mg
 blt:∃ mb,base.Ns builtinsNs mb/\∀ x:Str,x≠"__name__"->mb x=bootBuiltins x
 nolimit:base.NoLimit
structure Cx where
 prog:Β
 w:Ξ
 K:PySem.W.Frag
 mg:Str->Option δ
 base:Heap
 A:Φ
 N:List Str
 s₀:ι
 H₀:Hp
 env:Env
 outer:List Env
 stack:List Env
 ex:List Addr
 fn:Str->Bool
 calm:Bool
 pn:List (Addr×Obj)
 xe:δ->ι->Prop
def frs (l:List Env):List Addr:=l.filterMap (·.frame)
abbrev Cx.fs (X:Cx):List Addr:=frs X.outer
def Vis (sc:Cm) (x:Str):Prop:=sc.names.lookup x=some .local\/sc.names.lookup x=some .cell\/sc.names.lookup x=some .free
def Loc (sc:Cm) (x:Str):Prop:=sc.names.lookup x=some .local\/sc.names.lookup x=some .cell
def AD (env:Env) (h:Heap) (m:Str->Option δ) (x:Str) (u:δ):Prop:=
 (env.kindOf x=some .local/\m x=some u)\/((env.kindOf x=some .cell\/env.kindOf x=some .free)/\∃ c,env.cells.lookup x=some c/\h.IsCell c (some u))
structure Cx.Ok (X:Cx):Prop where
 mod:Mod X.K X.mg X.base
 kind:X.env.scope.kind=.function
 glob:X.env.globals=mainGlobals
 blt:X.env.builtins=builtinsNs
 above:X.s₀.heap.objs.size<=X.env.locals
 inj:∀ x y c,X.env.cells.lookup x=some c->X.env.cells.lookup y=some c->x=y
 has:∀ x,(X.env.kindOf x=some .cell\/X.env.kindOf x=some .free)->∃ c,X.env.cells.lookup x=some c
 cab:∀ x c,X.fn x=true->X.env.cells.lookup x=some c->X.s₀.heap.objs.size<=c
 hd:X.calm=true->X.A.handled=none
 frames:X.A.frames=some X.stack
 stk:X.stack=X.outer\/(X.stack=X.env :: X.outer/\X.env.frame=some X.env.locals)
 exf:∀ b∈X.ex,b≠X.env.locals/\∀ x c,X.env.cells.lookup x=some c->c≠b
 bs:∀ b o,X.base.get? b=some o->X.s₀.heap.get? b=some o/\X.H₀ b=none
 bsz:X.base.objs.size<=X.s₀.heap.objs.size
 noex:∀ b o,X.base.get? b=some o->b∉X.ex
 exfs:∀ b∈X.ex,b∉X.fs
 funs:X.s₀.heap.FunFrames X.base X.outer
 frf:∀ b∈X.fs,X.H₀ b=none
structure Inv (X:Cx) (pins:List (Addr×Obj)) (σ:List (Option V)) (H:Hp) (s:ι):Prop where
 ok:X.Ok
 os:s.os=X.s₀.os
 bare:C7 s.gens
 base:Un X.fs X.ex X.H₀ H X.s₀.heap s.heap
 loc:∃ m,s.heap.Ns X.env.locals m/\∀ (i:Nat) (x:Str) (v:V),X.N[i]?=some x->σ[i]?=some (some v)->Vis X.env.scope x->∃ u,ay v u/\AD X.env s.heap m x u
 cell:∀ x c,X.env.cells.lookup x=some c->∃ v,s.heap.IsCell c v
 free:H X.env.locals=none
 freeC:∀ x c,X.env.cells.lookup x=some c->H c=none
 pin:∀ p∈X.pn ++ pins,s.heap.get? p.1=some p.2/\H p.1=none/\p.1≠X.env.locals/\p.1∉X.fs/\∀ v,p.2.data≠.cell v
 hok:HOk X.prog X.w H s.heap
 len:σ.length=X.N.length
section
variable {X:Cx} {pins:List (Addr×Obj)} {σ:List (Option V)} {H H':Hp} {s:ι} {h':Heap}
theorem Cx.Ok.nofr (ok:X.Ok) {b:Addr} {o:Obj} (e:X.base.get? b=some o):b∉X.fs:=fun hb=>by
 have:=(ok.funs.mem hb).1
 rw [e] at this; cases this
theorem Inv.bs (I:Inv X pins σ H s):∀ b o,X.base.get? b=some o->s.heap.get? b=some o/\H b=none:=fun b o e=>
 ⟨I.base.keep b o (I.ok.bs b o e).1 (I.ok.bs b o e).2 (I.ok.nofr e) (I.ok.noex b o e),I.base.free b o (I.ok.bs b o e).1 (I.ok.bs b o e).2 (I.ok.noex b o e)⟩
theorem Inv.bk (I:Inv X pins σ H s):∀ b o,X.base.get? b=some o->s.heap.get? b=some o:=fun b o e=>(I.bs b o e).1
theorem Inv.mod (I:Inv X pins σ H s):Mod X.K X.mg X.base:=I.ok.mod
theorem Inv.kIn (I:Inv X pins σ H s):X.K.In s.heap:=I.ok.mod.kin.keeps I.bk
theorem Inv.fr (I:Inv X pins σ H s):∃ m,Fr X.base X.env.locals s.heap m:=
 let ⟨m,hn,_⟩:=I.loc
 ⟨m,hn,I.bk,ϔ I.ok.bsz I.ok.above⟩
theorem Inv.lt (I:Inv X pins σ H s):X.env.locals < s.heap.objs.size:=let ⟨_,hn,_⟩:=I.loc; hn.lt
theorem Inv.sz (I:Inv X pins σ H s):X.s₀.heap.objs.size<=s.heap.objs.size:=ϔ I.ok.above (k9 I.lt)
theorem Inv.nofs (I:Inv X pins σ H s) {a:Addr} (h:s.heap.objs.size<=a):a∉X.fs:=fun hb=>by
 obtain ⟨_,o,ho,_⟩:=I.ok.funs.mem hb
 exact absurd (ώ (υ ho) (ϔ I.sz h)) (w9 _)
theorem Inv.cne (I:Inv X pins σ H s):∀ x c,X.env.cells.lookup x=some c->c≠X.env.locals:=fun x c e z=>by
 obtain ⟨v,o,ho,hd⟩:=I.cell x c e
 obtain ⟨m,⟨o',es,ep,ho',hd',_⟩,_⟩:=I.loc
 rw [z,ho'] at ho; cases ho; rw [hd'] at hd; cases hd
theorem Inv.funs (I:Inv X pins σ H s):s.heap.FunFrames X.base X.outer:=by
 have all:∀ (l:List Env),(∀ b∈frs l,b∈X.fs)->X.s₀.heap.FunFrames X.base l->s.heap.FunFrames X.base l:=by
  intro l
  induction l with
  | nil=>intro _ _; trivial
  | cons env r ih=>
   intro hs hl
   obtain ⟨hk,⟨L,o,hf,hn,ho,hd⟩,hr⟩:=hl
   have hL:L∈X.fs:=hs L (by unfold frs; rw [c6,hf]; exact Ε)
   obtain ⟨sl,e⟩:=I.base.slot L o ho (I.ok.frf L hL) hL fun z=>I.ok.exfs L z hL
   exact ⟨hk,⟨L,_,hf,hn,e,hd⟩,ih (fun b hb=>hs b (by unfold frs; rw [c6,hf]; exact ο _ hb)) hr⟩
 exact all X.outer (fun _ hb=>hb) I.ok.funs
theorem Inv.stack (I:Inv X pins σ H s):s.heap.FunFrames X.base X.stack:=by
 rcases I.ok.stk with e | ⟨e,hf⟩
 ·rw [e]; exact I.funs
 ·rw [e]
  obtain ⟨m,hn,_⟩:=I.loc
  refine .cons (by rw [I.ok.kind]; decide) hf hn ?_ I.funs
  exact Ϩ (ϔ I.ok.bsz I.ok.above)
theorem Inv.stkSub (I:Inv X pins σ H s):∀ b∈frs X.stack,b∈X.env.locals :: X.fs:=fun b hb=>by
 rcases I.ok.stk with e | ⟨e,hf⟩
 ·rw [e] at hb; exact ο _ hb
 ·rw [e] at hb
  unfold frs at hb
  rw [c6,hf] at hb
  exact hb
theorem Inv.stkFree (I:Inv X pins σ H s):∀ b∈frs X.stack,H b=none:=fun b hb=>by
 rcases θ.mp (I.stkSub b hb) with e | hb
 ·rw [e]; exact I.free
 ·obtain ⟨_,o,ho,_⟩:=I.ok.funs.mem hb
  exact I.base.free b o ho (I.ok.frf b hb) fun z=>I.ok.exfs b z hb
theorem Inv.step {g':Array BU} {t':Nat} {d':Et} {ch:List Addr} (I:Inv X pins σ H s)
  (hch:∀ b∈ch,(b∈X.ex\/X.s₀.heap.objs.size<=b)/\b≠X.env.locals/\(∀ x c,X.env.cells.lookup x=some c->c≠b)/\∀ p∈X.pn ++ pins,p.1≠b)
  (keep:∀ b o,b≠X.env.locals->b∉X.fs->b∉ch->s.heap.get? b=some o->H b=none->h'.get? b=some o)
  (slot:∀ b o,b≠X.env.locals->b∈X.fs->b∉ch->s.heap.get? b=some o->H b=none->∃ sl,h'.get? b=some { o with slots:=sl }) (free:∀ b o,b∉ch->s.heap.get? b=some o->H b=none->H' b=none)
  (there:∀ b o,b∉ch->s.heap.get? b=some o->∃ o',h'.get? b=some o')
  (tups:∀ b xs,H b=some (.tup xs)->H' b=some (.tup xs)) (frzs:∀ b o u,H b=some (.frz o u)->H' b=some (.frz o u)) (tbls:∀ b ps,H b=some (.tbl ps)->∃ more,H' b=some (.tbl (ps ++ more)))
  (ns:∀ m,s.heap.Ns X.env.locals m->h'.Ns X.env.locals m) (hok:HOk X.prog X.w H' h') (hg:C7 g') :
  Inv X pins σ H' { s with heap:=h',gens:=g',drawn:=d',toks:=t' }:=by
 have neL:∀ b o,X.s₀.heap.get? b=some o->b≠X.env.locals:=fun b o e=>Τ (ώ (υ e) I.ok.above)
 have neC:∀ b o,X.s₀.heap.get? b=some o->b∉X.ex->b∉ch:=fun b o e hx hb=>by
  rcases (hch b hb).1 with z | z
  ·exact hx z
  ·exact absurd (ώ (υ e) z) (w9 _)
 have cellK:∀ x c,X.env.cells.lookup x=some c->∀ v,s.heap.IsCell c v->h'.IsCell c v:=fun x c e v ⟨o,ho,hd⟩=>by
  have nch:c∉ch:=fun z=>(hch c z).2.2.1 x c e rfl
  by_cases hc:c∈X.fs
  ·obtain ⟨sl,q⟩:=slot c o (I.cne x c e) hc nch ho (I.freeC x c e)
   exact ⟨_,q,hd⟩
  ·exact ⟨o,keep c o (I.cne x c e) hc nch ho (I.freeC x c e),hd⟩
 refine ⟨I.ok,I.os,hg,⟨fun b o e n hb hx=>?_,fun b o e n hb hx=>?_,fun b o e n hx=>?_,fun b o e hx=>?_,fun b xs e=>tups b xs (I.base.tups b xs e),fun b o xs e=>frzs b o xs (I.base.frzs b o xs e),fun b ps e=>?_⟩,?_,fun x c e=>?_,?_,fun x c e=>?_,fun p hp=>?_,hok,I.len⟩
 ·exact keep b o (neL b o e) hb (neC b o e hx) (I.base.keep b o e n hb hx) (I.base.free b o e n hx)
 ·obtain ⟨sl,e1⟩:=I.base.slot b o e n hb hx
  obtain ⟨sl',e2⟩:=slot b _ (neL b o e) hb (neC b o e hx) e1 (I.base.free b o e n hx)
  exact ⟨sl',e2⟩
 ·obtain ⟨o',e1⟩:=I.base.there b o e hx
  exact free b o' (neC b o e hx) e1 (I.base.free b o e n hx)
 ·obtain ⟨o',e1⟩:=I.base.there b o e hx
  exact there b o' (neC b o e hx) e1
 ·obtain ⟨m1,e1⟩:=I.base.tbls b ps e
  obtain ⟨m2,e2⟩:=tbls b _ e1
  exact ⟨m1 ++ m2,by rw [e2,Array.append_assoc]⟩
 ·obtain ⟨m,hn,hl⟩:=I.loc
  refine ⟨m,ns m hn,fun i x v e1 e2 e3=>?_⟩
  obtain ⟨u,r,l⟩:=hl i x v e1 e2 e3
  refine ⟨u,r,?_⟩
  rcases l with l | ⟨k,c,e,z⟩
  ·exact .inl l
  ·exact .inr ⟨k,c,e,cellK x c e _ z⟩
 ·obtain ⟨v,z⟩:=I.cell x c e
  exact ⟨v,cellK x c e v z⟩
 ·obtain ⟨m,⟨o,_,_,ho,_⟩,_⟩:=I.loc
  exact free _ o (fun z=>(hch _ z).2.1 rfl) ho I.free
 ·obtain ⟨v,o,ho,hd⟩:=I.cell x c e
  exact free c o (fun z=>(hch c z).2.2.1 x c e rfl) ho (I.freeC x c e)
 ·obtain ⟨e,n,ne,nf,d⟩:=I.pin p hp
  have nch:p.1∉ch:=fun z=>(hch p.1 z).2.2.2 p hp rfl
  exact ⟨keep p.1 p.2 ne nf nch e n,free p.1 p.2 nch e n,ne,nf,d⟩
theorem Inv.un {t':Nat} (I:Inv X pins σ H s) (u:Un X.fs [] H H' s.heap h') (hok:HOk X.prog X.w H' h'):Inv X pins σ H' { s with heap:=h',toks:=t' }:=by
 obtain ⟨m,⟨o,es,ep,ho,r⟩,_⟩:=id I.loc
 obtain ⟨sl,hL⟩:=u.any ho I.free (by simp)
 exact I.step (g':=s.gens) (d':=s.drawn) (ch:=[]) (fun _ z=>nomatch z) (fun b o _ hb _ e n=>u.keep b o e n hb (by simp)) (fun b o _ hb _ e n=>u.slot b o e n hb (by simp)) (fun b o _ e n=>u.free b o e n (by simp)) (fun b o _ e=>u.there b o e (by simp)) u.tups u.frzs u.tbls (fun m' hm=>by
  obtain ⟨o',es',ep',ho',r'⟩:=hm
  rw [ho] at ho'; cases ho'
  exact ⟨_,es',ep',hL,r'⟩) hok I.bare
theorem Inv.call {g':Array BU} {t':Nat} {d':Et} {ch:List Addr} (I:Inv X pins σ H s) (u:Un (frs X.stack) ch H H' s.heap h') (hok:HOk X.prog X.w H' h') (hg:C7 g')
  (hch:∀ b∈ch,(b∈X.ex\/X.s₀.heap.objs.size<=b)/\b≠X.env.locals/\(∀ x c,X.env.cells.lookup x=some c->c≠b)/\∀ p∈X.pn ++ pins,p.1≠b) :
  Inv X pins σ H' { s with heap:=h',gens:=g',drawn:=d',toks:=t' }:=by
 obtain ⟨m,⟨o,es,ep,ho,r⟩,_⟩:=id I.loc
 obtain ⟨sl,hL⟩:=u.any ho I.free fun z=>(hch _ z).2.1 rfl
 exact I.step (ch:=ch) hch (fun b o hL hb hc e n=>u.keep b o e n (fun z=>(θ.mp (I.stkSub b z)).elim hL hb) hc) (fun b o _ _ hc e n=>u.any e n hc) (fun b o hc e n=>u.free b o e n hc) (fun b o hc e=>u.there b o e hc) u.tups u.frzs u.tbls (fun m' hm=>by
  obtain ⟨o',es',ep',ho',r'⟩:=hm
  rw [ho] at ho'; cases ho'
  exact ⟨_,es',ep',hL,r'⟩) hok hg
theorem Inv.turned {t':Nat} {it:Addr} (I:Inv X pins σ H s) (k:∀ b o,b≠it->s.heap.get? b=some o->h'.get? b=some o) (hn:H it=none) (hL:it≠X.env.locals)
  (h1:it∈X.ex\/X.s₀.heap.objs.size<=it) (h2:∀ x c,X.env.cells.lookup x=some c->c≠it) (h3:∀ p∈X.pn ++ pins,p.1≠it):Inv X pins σ H { s with heap:=h',toks:=t' }:=by
 have nit:∀ b u,H b=some u->b≠it:=fun b u e z=>by rw [z,hn] at e; cases e
 refine I.step (g':=s.gens) (d':=s.drawn) (ch:=[it]) (fun b hb=>?_) (fun b o _ _ hc e _=>k b o (fun z=>hc (by simp [z])) e) (fun b o _ _ hc e _=>⟨o.slots,k b o (fun z=>hc (by simp [z])) e⟩) (fun _ _ _ _ n=>n)
  (fun b o hc e=>⟨o,k b o (fun z=>hc (by simp [z])) e⟩) (fun _ _ e=>e) (fun _ _ _ e=>e) (fun b ps e=>⟨#[],by rw [e]; simp⟩) (fun m hm=>?_) (fun b u e=>?_) I.bare
 ·have e:b=it:=by simpa using hb
  subst e
  exact ⟨h1,hL,h2,h3⟩
 ·obtain ⟨o,es,ep,ho,r⟩:=hm
  exact ⟨o,es,ep,k _ o (ϊ hL) ho,r⟩
 ·refine (I.hok b u e).stay (fun c v hc q=>k c v ?_ q) (fun _ q=>q) fun _ _ q=>q
  rcases hc with z | z
  ·rw [z]; exact nit b u e
  ·exact nit c _ z
theorem Inv.tok (I:Inv X pins σ H s) (t:Nat):Inv X pins σ H { s with toks:=t }:=I.un (h':=s.heap) (t':=t) Un.refl I.hok
theorem Inv.kept {t':Nat} (I:Inv X pins σ H s) (k:∀ b u,s.heap.get? b=some u->h'.get? b=some u):Inv X pins σ H { s with heap:=h',toks:=t' }:=I.un (Un.kept k) (I.hok.kept k)
theorem Inv.laid {a:Addr} {o:HO} {t':Nat} (I:Inv X pins σ H s) (k:∀ b u,s.heap.get? b=some u->h'.get? b=some u) (hp:s.heap.objs.size<=a) (new:aV X.prog X.w (upd H a o) h' a o) :
  Inv X pins σ (upd H a o) { s with heap:=h',toks:=t' }:=I.un (Un.laid k hp (I.hok.fresh hp)) (I.hok.laid k hp new)
theorem Inv.write {x e:Addr} {o:HO} {t':Nat} (I:Inv X pins σ H s) (mu:Mut (H x)) (he:e=x\/H e=some (.own x)) (k:∀ b u,b≠e->s.heap.get? b=some u->h'.get? b=some u) (heo:∃ u,h'.get? e=some u)
  (new:aV X.prog X.w (upd H x o) h' x o):Inv X pins σ (upd H x o) { s with heap:=h',toks:=t' }:=I.un (Un.write mu he k heo) (I.hok.write mu he k heo new)
theorem Inv.weak {σ':List (Option V)} (I:Inv X pins σ H s) (hl:σ'.length=σ.length) (w:∀ (i:Nat) v,σ'[i]?=some (some v)->σ[i]?=some (some v)):Inv X pins σ' H s:=
 ⟨I.ok,I.os,I.bare,I.base,let ⟨m,hn,hl'⟩:=I.loc; ⟨m,hn,fun i x v e1 e2 e3=>hl' i x v e1 (w i v e2) e3⟩,I.cell,I.free,I.freeC,I.pin,I.hok,hl.trans I.len⟩
theorem Inv.pins_of {pins':List (Addr×Obj)} (I:Inv X pins σ H s) (h:∀ p∈pins',s.heap.get? p.1=some p.2/\H p.1=none/\p.1≠X.env.locals/\p.1∉X.fs/\∀ v,p.2.data≠.cell v):Inv X pins' σ H s:=
 ⟨I.ok,I.os,I.bare,I.base,I.loc,I.cell,I.free,I.freeC,fun p hp=>(Ψ.mp hp).elim (fun z=>I.pin p (Ϲ _ z)) (h p),I.hok,I.len⟩
theorem iN {N:List Str} (hN:N.Nodup) {i j:Nat} {x:Str} (a:N[i]?=some x) (b:N[j]?=some x):i=j:=by
 obtain ⟨h1,e1⟩:=π.mp a
 obtain ⟨h2,e2⟩:=π.mp b
 exact (B8 hN).mp (e1.trans e2.symm)
theorem jr {M:Eb} {A:Φ} {E:δ->ι->Prop} {i:Nat} {x:Str} {v:V} {u:δ} {Q:Unit->ι->Prop} (I:Inv X pins σ H s) (hN:X.N.Nodup) (hi:X.N[i]?=some x) (hx:Loc X.env.scope x) (r:ay v u)
  (h:∀ s',Inv X pins (σ.set i (some v)) H s'->(∃ a,y9 a s.heap s'.heap/\(a=X.env.locals\/X.env.cells.lookup x=some a))->Q () s') (hf:X.fn x=true\/X.env.scope.names.lookup x=some .local:=by first | exact .inl rfl | exact .inr rfl | assumption):wpAny M A (storeName X.env x u) Q E s:=by
 obtain ⟨m,hn,hl⟩:=id I.loc
 have hcls:(X.env.scope.kind == .class || (X.env.scope.kind == .module && X.env.locals != X.env.globals))=false:=by rw [I.ok.kind]; rfl
 have hiσ:i < σ.length:=by rw [I.len]; exact (π.mp hi).1
 have cne:=I.cne
 have tracked:∀ {a:Addr} {h':Heap},(∃ o,s.heap.get? a=some o/\H a=none)->y9 a s.heap h'->HOk X.prog X.w H h':=fun {a h'} ha hs b ob e=>by
  obtain ⟨_,_,hfree⟩:=ha
  refine (I.hok b ob e).stay (fun c w' hc q=>(hs.2 c ?_).trans q) (fun _ q=>q) fun _ _ q=>q
  rintro rfl
  rcases hc with rfl | hc
  ·rw [hfree] at e; cases e
  ·rw [hfree] at hc; cases hc
 rcases hx with hk | hk
 ·refine wpAny_storeName_local hk hn (fun h' hn' hs=>?_) hcls
  obtain ⟨oL,_,_,hoL,_⟩:=id hn
  refine h _ ⟨I.ok,I.os,I.bare,⟨fun b o e n hb hx=>?_,fun b o e n hb hx=>?_,I.base.free,fun b o e hx=>?_,I.base.tups,I.base.frzs,I.base.tbls⟩,⟨_,hn',fun j y v' e1 e2 e3=>?_⟩,fun y c e=>?_,I.free,I.freeC,fun p hp=>?_,tracked ⟨oL,hoL,I.free⟩ hs,by simpa using I.len⟩ ⟨_,hs,.inl rfl⟩
  ·exact (hs.2 b (Τ (ώ (υ e) I.ok.above))).trans (I.base.keep b o e n hb hx)
  ·obtain ⟨sl,e1⟩:=I.base.slot b o e n hb hx
   exact ⟨sl,(hs.2 b (Τ (ώ (υ e) I.ok.above))).trans e1⟩
  ·obtain ⟨o',e1⟩:=I.base.there b o e hx
   exact ⟨o',(hs.2 b (Τ (ώ (υ e) I.ok.above))).trans e1⟩
  ·by_cases hj:j=i
   ·subst hj
    rw [hi] at e1; cases e1
    rw [Cn hiσ] at e2
    cases e2
    exact ⟨u,r,.inl ⟨hk,by simp⟩⟩
   ·rw [BW (ϊ hj)] at e2
    obtain ⟨u',r',q⟩:=hl j y v' e1 e2 e3
    refine ⟨u',r',?_⟩
    rcases q with ⟨k,e⟩ | ⟨k,c,e,z⟩
    ·refine .inl ⟨k,?_⟩
     have:y≠x:=fun e=>hj (iN hN e1 (e▸hi))
     simp [this,e]
    ·exact .inr ⟨k,c,e,z.sameBut hs (cne y c e)⟩
  ·obtain ⟨w',z⟩:=I.cell y c e
   exact ⟨w',z.sameBut hs (cne y c e)⟩
  ·obtain ⟨e,n,ne,nf,d⟩:=I.pin p hp
   exact ⟨(hs.2 p.1 ne).trans e,n,ne,nf,d⟩
 ·have hfn:X.fn x=true:=by
   rcases hf with z | z
   ·exact z
   ·rw [z] at hk; cases hk
  obtain ⟨c,hc⟩:=I.ok.has x (.inl hk)
  obtain ⟨w',z⟩:=I.cell x c hc
  refine wpAny_storeName_cell I.ok.kind hk hc z (fun h' hc' hs=>?_)
  obtain ⟨oc,hoc,hocd⟩:=id z
  refine h { s with heap:=h' } ⟨I.ok,I.os,I.bare,⟨fun b o e n hb hx=>?_,fun b o e n hb hx=>?_,I.base.free,fun b o e hx=>?_,I.base.tups,I.base.frzs,I.base.tbls⟩,⟨m,hn.sameBut hs (ϊ (cne x c hc)),fun j y v' e1 e2 e3=>?_⟩,fun y c' e=>?_,I.free,I.freeC,fun p hp=>?_,tracked ⟨oc,hoc,I.freeC x c hc⟩ hs,by simpa using I.len⟩ ⟨c,hs,.inr hc⟩
  ·exact (hs.2 b (Τ (ώ (υ e) (I.ok.cab x c hfn hc)))).trans (I.base.keep b o e n hb hx)
  ·obtain ⟨sl,e1⟩:=I.base.slot b o e n hb hx
   exact ⟨sl,(hs.2 b (Τ (ώ (υ e) (I.ok.cab x c hfn hc)))).trans e1⟩
  ·obtain ⟨o',e1⟩:=I.base.there b o e hx
   exact ⟨o',(hs.2 b (Τ (ώ (υ e) (I.ok.cab x c hfn hc)))).trans e1⟩
  ·by_cases hj:j=i
   ·subst hj
    rw [hi] at e1; cases e1
    rw [Cn hiσ] at e2
    cases e2
    exact ⟨u,r,.inr ⟨.inl hk,c,hc,hc'⟩⟩
   ·rw [BW (ϊ hj)] at e2
    obtain ⟨u',r',q⟩:=hl j y v' e1 e2 e3
    refine ⟨u',r',?_⟩
    rcases q with q | ⟨k,c',e,z'⟩
    ·exact .inl q
    ·refine .inr ⟨k,c',e,z'.sameBut hs ?_⟩
     rintro rfl
     exact hj (iN hN e1 (I.ok.inj _ _ _ e hc▸hi))
  ·by_cases hcc:c'=c
   ·subst hcc; exact ⟨_,hc'⟩
   ·obtain ⟨w2,z2⟩:=I.cell y c' e
    exact ⟨w2,z2.sameBut hs hcc⟩
  ·obtain ⟨e,n,ne,nf,d⟩:=I.pin p hp
   refine ⟨(hs.2 p.1 ?_).trans e,n,ne,nf,d⟩
   intro q
   rw [q,hoc] at e
   have q':oc=p.2:=ϙ e
   exact d w' (by rw [<- q']; exact hocd)
theorem fk {M:Eb} {A:Φ} {E:δ->ι->Prop} {i:Nat} {x:Str} {v:V} {u:δ} {Q:Unit->ι->Prop} (I:Inv X pins σ H s) (hN:X.N.Nodup) (hi:X.N[i]?=some x) (hx:Loc X.env.scope x) (r:ay v u)
  (h:∀ s',Inv X pins (σ.set i (some v)) H s'->Q () s') (hf:X.fn x=true\/X.env.scope.names.lookup x=some .local:=by first | exact .inl rfl | exact .inr rfl | assumption):wpAny M A (storeName X.env x u) Q E s:=
 jr I hN hi hx r (fun s' I' _=>h s' I') hf
theorem Inv.call' {s':ι} {ch:List Addr} (I:Inv X pins σ H s) (ho:s'.os=s.os) (u:Un (frs X.stack) ch H H' s.heap s'.heap) (hok:HOk X.prog X.w H' s'.heap) (hg:C7 s'.gens)
  (hch:∀ b∈ch,(b∈X.ex\/X.s₀.heap.objs.size<=b)/\b≠X.env.locals/\(∀ x c,X.env.cells.lookup x=some c->c≠b)/\∀ p∈X.pn ++ pins,p.1≠b):Inv X pins σ H' s':=by
 obtain ⟨h',g',d',t',o'⟩:=s'
 have e:o'=s.os:=ho
 subst e
 exact I.call (g':=g') (t':=t') (d':=d') u hok hg hch
end
abbrev XK:=δ->Option Addr->Hp->Prop
abbrev St:=List (Option V)
abbrev VK:=V->Hp->Prop
abbrev TE:=St->Hp->VK->Prop
abbrev TT:=St->Hp->(Bool->Hp->Prop)->Prop
abbrev TA:=St->Hp->(List V->Hp->Prop)->Prop
structure bV where
 nx:St->Hp->Prop
 rt:VK
 bk:St->Hp->Prop:=fun _ _=>False
 ct:St->Hp->Prop:=fun _ _=>False
abbrev TS:=bV->St->Hp->Prop
def EP (X:Cx) (pins:List (Addr×Obj)) (σ:St) (Q:VK) (u:δ) (s':ι):Prop:=∃ v H',Inv X pins σ H' s'/\ay v u/\Q v H'
def TP (X:Cx) (pins:List (Addr×Obj)) (σ:St) (Q:Bool->Hp->Prop) (b:Bool) (s':ι):Prop:=∃ H',Inv X pins σ H' s'/\Q b H'
def AP (X:Cx) (pins:List (Addr×Obj)) (σ:St) (Q:List V->Hp->Prop) (us:List δ) (s':ι):Prop:=∃ vs H',Inv X pins σ H' s'/\au vs us/\Q vs H'
def SP (X:Cx) (pins:List (Addr×Obj)) (D:bV) (f:Flow) (s':ι):Prop:=
 match f with
 | .next=>∃ σ' H',Inv X pins σ' H' s'/\D.nx σ' H'
 | .brk=>∃ σ' H',Inv X pins σ' H' s'/\D.bk σ' H'
 | .cont=>∃ σ' H',Inv X pins σ' H' s'/\D.ct σ' H'
 | .ret u=>∃ v σ' H',Inv X pins σ' H' s'/\ay v u/\D.rt v H'
def PE (X:Cx) (e:Expr) (t:TE):Prop:=
 ∀ (pins:List (Addr×Obj)) (s:ι) (σ:St) (H:Hp) (Q:VK),Inv X pins σ H s->t σ H Q->wpAny (model X.prog X.w) X.A (eval e X.env) (EP X pins σ Q) X.xe s
def PT (X:Cx) (e:Expr) (t:TT):Prop:=
 ∀ (pins:List (Addr×Obj)) (s:ι) (σ:St) (H:Hp) (Q:Bool->Hp->Prop),Inv X pins σ H s->t σ H Q->wpAny (model X.prog X.w) X.A (isTrue e X.env (eval e X.env)) (TP X pins σ Q) X.xe s
def PW (X:Cx) (e:Expr) (t:TT):Prop:=
 ∀ (whole:Sem δ) (pins:List (Addr×Obj)) (s:ι) (σ:St) (H:Hp) (Q:Bool->Hp->Prop),Inv X pins σ H s->t σ H Q->wpAny (model X.prog X.w) X.A (isTrue e X.env whole) (TP X pins σ Q) X.xe s
theorem PW.pt {X:Cx} {e:Expr} {t:TT} (h:PW X e t):PT X e t:=h _
def PA (X:Cx) (es:List Expr) (t:TA):Prop:=
 ∀ (pos:Pos) (pins:List (Addr×Obj)) (s:ι) (σ:St) (H:Hp) (Q:List V->Hp->Prop),Inv X pins σ H s->t σ H Q->wpAny (model X.prog X.w) X.A (spliced (backTo pos (starEach es X.env))) (AP X pins σ Q) X.xe s
def PS (X:Cx) (st:Stmt) (t:TS):Prop:=
 ∀ (pins:List (Addr×Obj)) (s:ι) (σ:St) (H:Hp) (D:bV),Inv X pins σ H s->t D σ H->wpAny (model X.prog X.w) X.A (exec st X.env) (SP X pins D) X.xe s
def PSs (X:Cx) (st:List Stmt) (t:TS):Prop:=
 ∀ (pins:List (Addr×Obj)) (s:ι) (σ:St) (H:Hp) (D:bV),Inv X pins σ H s->t D σ H->wpAny (model X.prog X.w) X.A (execs st X.env) (SP X pins D) X.xe s
theorem thn {α:Type} {t:Sem α} {Q Q':α->ι->Prop} {M:Eb} {A:Φ} {E:δ->ι->Prop} {s:ι} (h:wpAny M A t Q E s) (hQ:∀ a s,Q a s->Q' a s):wpAny M A t Q' E s:=c9 h hQ fun _ _ x=>x
section
variable {X:Cx}
def fw (i:Nat):TE:=fun σ H Q=>∃ v,σ[i]?=some (some v)/\Q v H
def tC (v:V):TE:=fun _ H Q=>Q v H
theorem vG {i:Nat} {x:Str} {pos:Pos} (hN:X.N[i]?=some x) (hv:Vis X.env.scope x) (hd:(x == ("__debug__" : Str))=false:=by decide) (hcd:(x == ("__classdict__" : Str))=false:=by decide):PE X (.Name x pos) (fw i):=by
 intro pins s σ H Q I h
 obtain ⟨v,e,h⟩:=h
 obtain ⟨m,hn,hl⟩:=I.loc
 obtain ⟨u,r,l⟩:=hl i x v hN e hv
 have fin:EP X pins σ Q u s:=⟨v,H,I,r,h⟩
 rcases l with ⟨hk,hm⟩ | ⟨hk,c,hc,hcell⟩
 ·exact wpAny_Name (wpAny_loadName_local I.ok.kind hk hn hm fin) hd
 ·rcases hk with hk | hk
  ·exact wpAny_Name (wpAny_loadName_cell I.ok.kind hk hc hcell fin) hd
  ·exact wpAny_Name (wpAny_loadName_free I.ok.kind hk hc hcell fin hcd) hd
theorem pe_int {i j pos}:PE X (.Constant (.int i) j pos) (tC (.int i)):=fun _ _ _ H _ I h=>wpAny_Constant_int ⟨.int i,H,I.tok _,⟨_,rfl⟩,h⟩
theorem pe_bl {b j pos}:PE X (.Constant (.bool b) j pos) (tC (.bl b)):=fun _ _ _ H _ I h=>Constant_bool ⟨.bl b,H,I,rfl,h⟩
theorem pe_non {j pos}:PE X (.Constant .none j pos) (tC .non):=fun _ _ _ H _ I h=>Constant_none ⟨.non,H,I,rfl,h⟩
theorem pe_str {x j pos}:PE X (.Constant (.str x) j pos) (tC (.str x)):=fun _ _ _ H _ I h=>Calls.Constant_str ⟨.str x,H,I.tok _,⟨_,rfl⟩,h⟩
def Gl (X:Cx) (x:Str):Prop:=X.env.kindOf x=some .globalImplicit
theorem fz {E:δ->ι->Prop} {pins:List (Addr×Obj)} {s:ι} {σ:St} {H:Hp} {x:Str} {u:δ} {pos:Pos} {Q:δ->ι->Prop} (I:Inv X pins σ H s) (hg:Gl X x) (hm:X.mg x=some u) (h:Q u s)
  (hd:(x == ("__debug__" : Str))=false:=by decide):wpAny (model X.prog X.w) X.A (eval (.Name x pos) X.env) Q E s:=
 Dd I.ok.kind hg (Calls.loadGlobal_global (by rw [I.ok.glob]; exact I.mod.glob.keeps I.bk) hm h) hd
theorem cH {E:δ->ι->Prop} {pins:List (Addr×Obj)} {s:ι} {σ:St} {H:Hp} {x:Str} {u:δ} {pos:Pos} {Q:δ->ι->Prop} (I:Inv X pins σ H s) (hg:Gl X x) (hm:X.mg x=none) (hv:bootBuiltins x=some u) (h:Q u s)
  (hn:x≠"__name__":=by decide) (hd:(x == ("__debug__" : Str))=false:=by decide):wpAny (model X.prog X.w) X.A (eval (.Name x pos) X.env) Q E s:=by
 obtain ⟨mb,h1,h2⟩:=I.mod.blt
 exact Dd I.ok.kind hg (Calls.loadGlobal_builtin (by rw [I.ok.glob]; exact I.mod.glob.keeps I.bk) hm (by rw [I.ok.blt]; exact h1.keeps I.bk) ((h2 x hn).trans hv) h) hd
theorem pe_glob {x:Str} {v:V} {u:δ} {pos:Pos} (hg:Gl X x) (hm:X.mg x=some u) (r:ay v u) (hd:(x == ("__debug__" : Str))=false:=by decide):PE X (.Name x pos) (tC v):=
 fun _ _ _ H _ I h=>fz I hg hm ⟨v,H,I,r,h⟩ hd
theorem pe_bltn {x:Str} {v:V} {u:δ} {pos:Pos} (hg:Gl X x) (hm:X.mg x=none) (hv:bootBuiltins x=some u) (r:ay v u) (hn:x≠"__name__":=by decide) (hd:(x == ("__debug__" : Str))=false:=by decide):PE X (.Name x pos) (tC v):=
 fun _ _ _ H _ I h=>cH I hg hm hv ⟨v,H,I,r,h⟩ hn hd
variable {a b:Expr} {ta tb:TE} {pos:Pos}
def tB (t:TE):TT:=fun σ H Q=>t σ H fun x H1=>∃ c,x=.bl c/\Q c H1
theorem pt_val {e:Expr} {t:TE} (h:PE X e t) (he:∀ whole,isTrue e X.env whole=(do let v <- whole; standAt e.pos; holding [v] (truthy v)):=by intro _; rfl):PT X e (tB t):=by
 intro pins s σ H Q I hw
 refine isTrue_plain (thn (h pins s σ H _ I hw) fun v s1 ⟨x,H1,I1,r1,q1⟩=>?_) (he _)
 obtain ⟨d,rfl,q⟩:=q1
 cases r1
 exact ϯ ⟨H1,I1,q⟩
variable {tA tB':TT} {rest:List Expr}
def uG (t u:TT):TT:=fun σ H Q=>t σ H fun c H1=>if c=true then u σ H1 Q else Q false H1
def tOr (t u:TT):TT:=fun σ H Q=>t σ H fun c H1=>if c=true then Q true H1 else u σ H1 Q
def Bp (t:TT):TT:=fun σ H Q=>t σ H fun c H1=>Q (!c) H1
theorem pw_and1 (ha:PT X a tA):PW X (.BoolOp .And [a] pos) tA:=by
 intro wh pins s σ H Q I h
 refine isTrue_and (thn (ha pins s σ H Q I h) fun c s1 e=>?_)
 cases c with
 | true=>exact isTrue_and_nil e
 | false=>exact e
theorem pw_or1 (ha:PT X a tA):PW X (.BoolOp .Or [a] pos) tA:=by
 intro wh pins s σ H Q I h
 refine isTrue_or (thn (ha pins s σ H Q I h) fun c s1 e=>?_)
 cases c with
 | false=>exact isTrue_or_nil e
 | true=>exact e
theorem pw_and (ha:PT X a tA) (hb:PW X (.BoolOp .And (b :: rest) pos) tB'):PW X (.BoolOp .And (a :: b :: rest) pos) (uG tA tB'):=by
 intro wh pins s σ H Q I h
 refine isTrue_and (thn (ha pins s σ H _ I h) fun c s1 ⟨H1,I1,q1⟩=>?_)
 cases c with
 | true=>exact hb wh pins s1 σ H1 Q I1 q1
 | false=>exact ⟨H1,I1,q1⟩
theorem pw_or (ha:PT X a tA) (hb:PW X (.BoolOp .Or (b :: rest) pos) tB'):PW X (.BoolOp .Or (a :: b :: rest) pos) (tOr tA tB'):=by
 intro wh pins s σ H Q I h
 refine isTrue_or (thn (ha pins s σ H _ I h) fun c s1 ⟨H1,I1,q1⟩=>?_)
 cases c with
 | true=>exact ⟨H1,I1,q1⟩
 | false=>exact hb wh pins s1 σ H1 Q I1 q1
theorem pt_not (ha:PT X a tA):PT X (.UnaryOp .Not a pos) (Bp tA):=by
 intro pins s σ H Q I h
 exact isTrue_not (ha pins s σ H (fun c H1=>Q (!c) H1) I h)
def AM (ta tb:TE):TE:=fun σ H Q=>ta σ H fun x H1=>∃ c,x=.bl c/\if c=true then tb σ H1 Q else Q (.bl false) H1
def AF (ta tb:TE):TE:=fun σ H Q=>ta σ H fun x H1=>∃ c,x=.bl c/\if c=true then Q (.bl true) H1 else tb σ H1 Q
def Aa (ta:TE):TE:=fun σ H Q=>ta σ H fun x H1=>∃ c,x=.bl c/\Q (.bl (!c)) H1
theorem pe_one {op} {t:TE} (h:PE X a t):PE X (.BoolOp op [a] pos) t:=fun pins s σ H Q I hw=>BoolOp_one (h pins s σ H Q I hw)
theorem pe_and (ha:PE X a ta) (hb:PE X (.BoolOp .And (b :: rest) pos) tb):PE X (.BoolOp .And (a :: b :: rest) pos) (AM ta tb):=by
 intro pins s σ H Q I h
 refine BoolOp_and (thn (ha pins s σ H _ I h) fun v s1 ⟨x,H1,I1,r1,q1⟩=>?_)
 obtain ⟨c,rfl,q1⟩:=q1
 cases r1
 refine ϯ ?_
 cases c with
 | true=>exact hb pins s1 σ H1 Q I1 q1
 | false=>exact ⟨.bl false,H1,I1,rfl,q1⟩
theorem pe_or (ha:PE X a ta) (hb:PE X (.BoolOp .Or (b :: rest) pos) tb):PE X (.BoolOp .Or (a :: b :: rest) pos) (AF ta tb):=by
 intro pins s σ H Q I h
 refine BoolOp_or (thn (ha pins s σ H _ I h) fun v s1 ⟨x,H1,I1,r1,q1⟩=>?_)
 obtain ⟨c,rfl,q1⟩:=q1
 cases r1
 refine ϯ ?_
 cases c with
 | false=>exact hb pins s1 σ H1 Q I1 q1
 | true=>exact ⟨.bl true,H1,I1,rfl,q1⟩
theorem pe_not (ha:PE X a ta):PE X (.UnaryOp .Not a pos) (Aa ta):=by
 intro pins s σ H Q I h
 refine UnaryOp_ (thn (ha pins s σ H _ I h) fun v s1 ⟨x,H1,I1,r1,q1⟩=>?_)
 obtain ⟨c,rfl,q1⟩:=q1
 cases r1
 exact not_of (ϯ ⟨.bl (!c),H1,I1,rfl,q1⟩)
def tIf (t:TT) (ta tb:TE):TE:=fun σ H Q=>t σ H fun c H1=>if c=true then ta σ H1 Q else tb σ H1 Q
theorem pe_ifExp {c:Expr} (hc:PT X c tA) (ha:PE X a ta) (hb:PE X b tb):PE X (.IfExp c a b pos) (tIf tA ta tb):=by
 intro pins s σ H Q I h
 refine wpAny_IfExp (thn (hc pins s σ H _ I h) fun d s1 ⟨H1,I1,q1⟩=>?_)
 cases d with
 | true=>exact ha pins s1 σ H1 Q I1 q1
 | false=>exact hb pins s1 σ H1 Q I1 q1
end
def SqL (K:PySem.W.Frag) (H:Hp) (a:Addr) (xs:List V):Prop:=
 Rd H a (.lst xs) \/
  ∃ (o:Obj) (its:Array δ) (n:Nat),K.lookup a=some o/\o.cls=.type "list"/\o.dict=none/\o.data=.seq its n/\its.size<=sizeLine/\au xs its.toList
def SqT (K:PySem.W.Frag) (H:Hp) (a:Addr) (xs:List V):Prop:=
 Rd H a (.tup xs) \/
  ∃ (o:Obj) (its:Array δ) (n:Nat),K.lookup a=some o/\o.cls=.type "tuple"/\o.data=.seq its n/\its.size<=sizeLine/\au xs its.toList
def Bk:δ->Option V
 | .none=>some .non
 | .bool b=>some (.bl b)
 | .int i _=>some (.int i)
 | .str x _=>some (.str x)
 | .bytes b _=>some (.byt b)
 | .float b _=>some (.flt b)
 | .ref a=>some (.ref a)
 | .type n=>some (.ty n)
 | _=>none
theorem ay.abs {x:V} {u:δ} (r:ay x u):Bk u=some x:=by
 cases x with
 | non=>cases r; rfl
 | bl _=>cases r; rfl
 | int _=>obtain ⟨t,rfl⟩:=r; rfl
 | str _=>obtain ⟨t,rfl⟩:=r; rfl
 | byt _=>obtain ⟨t,rfl⟩:=r; rfl
 | flt _=>obtain ⟨t,rfl⟩:=r; rfl
 | ref _=>cases r; rfl
 | ty _=>cases r; rfl
theorem ay.inj {x y:V} {u:δ} (r:ay x u) (q:ay y u):x=y:=ϙ (r.abs.symm.trans q.abs)
theorem au.inj:∀ {xs ys:List V} {us:List δ},au xs us->au ys us->xs=ys
 | _,_,_,.nil,.nil=>rfl
 | _,_,_,.cons r t,.cons r' t'=>by rw [r.inj r',au.inj t t']
section
variable {X:Cx} {pins:List (Addr×Obj)} {σ:St} {H:Hp} {s:ι} {a:Addr} {xs ys:List V}
theorem SqL.of {K:PySem.W.Frag} (h:H a=some (.lst xs)):SqL K H a xs:=.inl (.inl h)
theorem SqT.of {K:PySem.W.Frag} (h:H a=some (.tup xs)):SqT K H a xs:=.inl (.inl h)
theorem Inv.list (I:Inv X pins σ H s) (h:SqL X.K H a xs):∃ its:List δ,au xs its/\PlainL s.heap a its.toArray/\xs.length<=sizeLine:=by
 rcases h with h | ⟨o,its,n,hk,hc,hd,hs,hz,r⟩
 ·obtain ⟨z,its,n,r,e⟩:=h.ok I.hok
  exact ⟨its,r,⟨_,n,e,rfl,rfl,rfl⟩,z⟩
 ·refine ⟨its.toList,r,⟨o,n,I.kIn a o hk,hc,hd,by simpa using hs⟩,?_⟩
  have e:=r.length
  simp only [Ϟ] at e
  omega
theorem Inv.tuple (I:Inv X pins σ H s) (h:SqT X.K H a xs):∃ its:List δ,au xs its/\IsTup s.heap a its.toArray/\xs.length<=sizeLine:=by
 rcases h with h | ⟨o,its,n,hk,hc,hs,hz,r⟩
 ·obtain ⟨z,its,r,p⟩:=h.ok I.hok
  exact ⟨its,r,p.1,z⟩
 ·refine ⟨its.toList,r,⟨o,I.kIn a o hk,hc,n,by simpa using hs⟩,?_⟩
  have e:=r.length
  simp only [Ϟ] at e
  omega
theorem Inv.list_inj (I:Inv X pins σ H s) (h:SqL X.K H a xs) (h':SqL X.K H a ys):xs=ys:=by
 obtain ⟨its,r,⟨o,n,e,_,_,d⟩,_⟩:=I.list h
 obtain ⟨its',r',⟨o',n',e',_,_,d'⟩,_⟩:=I.list h'
 rw [e] at e'; cases e'
 rw [d] at d'
 injection d' with d1 _
 have:its=its':=by simpa using congrArg Array.toList d1
 subst this
 exact r.inj r'
theorem Inv.tuple_inj (I:Inv X pins σ H s) (h:SqT X.K H a xs) (h':SqT X.K H a ys):xs=ys:=by
 obtain ⟨its,r,⟨o,e,_,n,d⟩,_⟩:=I.tuple h
 obtain ⟨its',r',⟨o',e',_,n',d'⟩,_⟩:=I.tuple h'
 rw [e] at e'; cases e'
 rw [d] at d'
 injection d' with d1 _
 have:its=its':=by simpa using congrArg Array.toList d1
 subst this
 exact r.inj r'
end
abbrev Cx.wish (X:Cx) (E:δ->ι->Prop):Cx:={ X with xe:=E }
abbrev Cx.nox (X:Cx):Cx:=X.wish fun _ _=>False
theorem Cx.Ok.wish {X:Cx} (ok:X.Ok) (E:δ->ι->Prop):(X.wish E).Ok:=
 ⟨ok.mod,ok.kind,ok.glob,ok.blt,ok.above,ok.inj,ok.has,ok.cab,ok.hd,ok.frames,ok.stk,ok.exf,ok.bs,ok.bsz,ok.noex,ok.exfs,ok.funs,ok.frf⟩
theorem Cx.Ok.unwish {X:Cx} {E:δ->ι->Prop} (ok:(X.wish E).Ok):X.Ok:=
 ⟨ok.mod,ok.kind,ok.glob,ok.blt,ok.above,ok.inj,ok.has,ok.cab,ok.hd,ok.frames,ok.stk,ok.exf,ok.bs,ok.bsz,ok.noex,ok.exfs,ok.funs,ok.frf⟩
section
variable {X:Cx} {pins:List (Addr×Obj)} {σ:St} {H:Hp} {s:ι} {E:δ->ι->Prop}
theorem Inv.wish (I:Inv X pins σ H s) (E:δ->ι->Prop):Inv (X.wish E) pins σ H s:=⟨I.ok.wish E,I.os,I.bare,I.base,I.loc,I.cell,I.free,I.freeC,I.pin,I.hok,I.len⟩
theorem Inv.unwish (I:Inv (X.wish E) pins σ H s):Inv X pins σ H s:=⟨I.ok.unwish,I.os,I.bare,I.base,I.loc,I.cell,I.free,I.freeC,I.pin,I.hok,I.len⟩
theorem SP.unwish {D:bV} {f:Flow} {s':ι} (h:SP (X.wish E) pins D f s'):SP X pins D f s':=by
 cases f with
 | next=>obtain ⟨σ',H',I,q⟩:=h; exact ⟨σ',H',I.unwish,q⟩
 | brk=>obtain ⟨σ',H',I,q⟩:=h; exact ⟨σ',H',I.unwish,q⟩
 | cont=>obtain ⟨σ',H',I,q⟩:=h; exact ⟨σ',H',I.unwish,q⟩
 | ret u=>obtain ⟨v,σ',H',I,r,q⟩:=h; exact ⟨v,σ',H',I.unwish,r,q⟩
theorem PSs.nox {st:List Stmt} {t:TS} (h:PSs X.nox st t):PSs X st t:=fun pins s σ H D I hw=>
 c9 (h pins s σ H D (I.wish _) hw) (fun _ _ q=>q.unwish) fun _ _ z=>c_ z
end
section
variable {X:Cx} {st:Stmt} {rest:List Stmt} {t u:TS} {e:Expr} {te:TE} {pos:Pos}
def yx:TS:=fun D σ H=>D.nx σ H
def lD (t u:TS):TS:=fun D σ H=>t { D with nx:=u D } σ H
theorem pss_nil:PSs X [] yx:=fun _ _ σ H _ I h=>A2 ⟨σ,H,I,h⟩
theorem pss_cons (h1:PS X st t) (h2:PSs X rest u):PSs X (st :: rest) (lD t u):=by
 intro pins s σ H D I h
 refine DL (thn (h1 pins s σ H { D with nx:=u D } I h) fun f s1 q=>?_)
 cases f with
 | next=>
  obtain ⟨σ',H',I',q⟩:=q
  exact h2 pins s1 σ' H' D I' q
 | ret v=>exact q
 | brk=>exact q
 | cont=>exact q
theorem pss_one (h1:PS X st t):PSs X [st] t:=by
 intro pins s σ H D I h
 refine DL (thn (h1 pins s σ H D I h) fun f s1 q=>?_)
 cases f with
 | next=>exact A2 q
 | ret v=>exact q
 | brk=>exact q
 | cont=>exact q
theorem Inv.quiet {pins:List (Addr×Obj)} {σ:St} {H:Hp} {s:ι} (I:Inv X pins σ H s):interactive X.env=false:=by simp [interactive,I.ok.kind]
def yg (te:TE):TS:=fun D σ H=>te σ H fun _ H1=>D.nx σ H1
theorem ps_expr (he:PE X e te) (hs:swapsWith e none pos.line X.env=pure false:=by rfl):PS X (.Expr e pos) (yg te):=by
 intro pins s σ H D I h
 exact wpAny_Expr_any (thn (he pins s σ H _ I h) fun v s1 ⟨x,H1,I1,r1,q1⟩=>⟨σ,H1,I1,q1⟩) I.quiet hs
def xc (te:TE):TS:=fun D σ H=>te σ H D.rt
theorem ps_ret (he:PE X e te):PS X (.Return (some e) pos) (xc te):=by
 intro pins s σ H D I h
 exact wpAny_Return_some (thn (he pins s σ H _ I h) fun v s1 ⟨x,H1,I1,r1,q1⟩=>⟨x,σ,H1,I1,r1,q1⟩)
def Bz (c:TT) (t u:TS):TS:=fun D σ H=>c σ H fun b H1=>if b=true then t D σ H1 else u D σ H1
theorem ps_if {c:Expr} {a b:List Stmt} {tc:TT} (hc:PT X c tc) (ha:PSs X a t) (hb:PSs X b u):PS X (.If c a b pos) (Bz tc t u):=by
 intro pins s σ H D I h
 refine wpAny_If (thn (hc pins s σ H _ I h) fun d s1 ⟨H1,I1,q1⟩=>?_)
 cases d with
 | true=>exact ha pins s1 σ H1 D I1 q1
 | false=>exact hb pins s1 σ H1 D I1 q1
end
abbrev TG:=V->St->Hp->(St->Hp->Prop)->Prop
abbrev TGs:=List V->St->Hp->(St->Hp->Prop)->Prop
def PG (X:Cx) (target:Expr) (t:TG):Prop:=
 ∀ (pins:List (Addr×Obj)) (s:ι) (σ:St) (H:Hp) (v:V) (u:δ) (Q:St->Hp->Prop),Inv X pins σ H s->ay v u->t v σ H Q ->
  wpAny (model X.prog X.w) X.A (assign target X.env u) (fun _ s'=>∃ σ' H',Inv X pins σ' H' s'/\Q σ' H') X.xe s
def PGs (X:Cx) (ts:List Expr) (t:TGs):Prop:=
 ∀ (pins:List (Addr×Obj)) (s:ι) (σ:St) (H:Hp) (vs:List V) (us:List δ) (Q:St->Hp->Prop),Inv X pins σ H s->au vs us->t vs σ H Q ->
  wpAny (model X.prog X.w) X.A (assignInOrder ((assignEach ts X.env).map (·.2)) us) (fun _ s'=>∃ σ' H',Inv X pins σ' H' s'/\Q σ' H') X.xe s
abbrev zp:=V->V->V->Hp->(Hp->Prop)->Prop
def Ai (X:Cx) (t:zp):Prop:=
 ∀ (pins:List (Addr×Obj)) (s:ι) (σ:St) (H:Hp) (o i v:V) (ov iv u:δ) (Q:Hp->Prop),Inv X pins σ H s->ay o ov->ay i iv->ay v u->t o i v H Q ->
  wpAny (model X.prog X.w) X.A (setItem ov iv u) (fun _ s'=>∃ H',Inv X pins σ H' s'/\Q H') X.xe s
abbrev TIp:=V->V->Hp->VK->Prop
def PIp (X:Cx) (op:Operator) (t:TIp):Prop:=
 ∀ (pins:List (Addr×Obj)) (s:ι) (σ:St) (H:Hp) (x y:V) (v u:δ) (Q:VK),Inv X pins σ H s->ay x v->ay y u->t x y H Q ->
  wpAny (model X.prog X.w) X.A (inplaceOp op v u) (EP X pins σ Q) X.xe s
section
variable {X:Cx} {pos:Pos}
def cb (i:Nat):TG:=fun v σ H Q=>Q (σ.set i (some v)) H
theorem pg_name {i:Nat} {x:Str} (hN:X.N.Nodup) (hi:X.N[i]?=some x) (hx:Loc X.env.scope x) (hf:X.fn x=true\/X.env.scope.names.lookup x=some .local:=by first | exact .inl rfl | exact .inr rfl | assumption):PG X (.Name x pos) (cb i):=by
 intro pins s σ H v u Q I r h
 exact wpAny_assign_Name (fk I hN hi hx r (fun s' I'=>⟨_,H,I',h⟩) hf)
def rX:TGs:=fun vs σ H Q=>vs=[]/\Q σ H
def gJ (t:TG) (u:TGs):TGs:=fun vs σ H Q=>∃ v r,vs=v :: r/\t v σ H fun σ' H'=>u r σ' H' Q
theorem pgs_nil:PGs X [] rX:=by
 intro pins s σ H vs us Q I r h
 obtain ⟨e,h⟩:=h
 subst e
 cases r
 exact assignInOrder_nil ⟨σ,H,I,h⟩
theorem pgs_cons {e:Expr} {es:List Expr} {t:TG} {u:TGs} (h1:PG X e t) (h2:PGs X es u)
  (hs:(assignEach (e :: es) X.env).map (·.2)=assign e X.env :: (assignEach es X.env).map (·.2):=by rfl):PGs X (e :: es) (gJ t u):=by
 intro pins s σ H vs us Q I r h
 obtain ⟨v,vr,e1,h⟩:=h
 subst e1
 cases r with
 | cons r rr=>
  rw [hs]
  refine assignInOrder_cons (thn (h1 pins s σ H _ _ _ I r h) fun _ s1 ⟨σ1,H1,I1,q1⟩=>?_)
  exact h2 pins s1 σ1 H1 _ _ Q I1 rr q1
def wn (K:PySem.W.Frag) (n:Nat) (t:TGs):TG:=fun v σ H Q=>∃ a xs,v=.ref a/\SqT K H a xs/\xs.length=n/\t xs σ H Q
theorem pg_tup {es:List Expr} {k:Nat} {t:TGs} {n:Nat} (hc:X.calm=true) (h:PGs X es t)
  (hn:(assignEach es X.env).length=n:=by rfl) (hst:(assignEach es X.env).findIdx? (·.1)=none:=by rfl):PG X (.Tuple es k pos) (wn X.K n t):=by
 intro pins s σ H v u Q I r hw
 obtain ⟨a,xs,e1,hq,hl,hw⟩:=hw
 subst e1
 cases r
 obtain ⟨its,rv,ht,hz⟩:=I.tuple hq
 refine assign_Tuple_tuple (I.ok.hd hc) ht (by simp [hn,<- hl,rv.length]) hst fun h' hx=>?_
 have I1:Inv X pins σ H { s with heap:=h' }:=I.kept (t':=s.toks) fun b o e=>hx b o (Τ (υ e)) e
 exact h pins _ σ H xs _ Q I1 (by simpa using rv) hw
def Bl (to ti:TE) (t:zp):TG:=fun v σ H Q=>to σ H fun o H1=>ti σ H1 fun i H2=>t o i v H2 fun H3=>Q σ H3
theorem pg_sub {o i:Expr} {to ti:TE} {t:zp} (ho:PE X o to) (hi:PE X i ti) (hs:Ai X t)
  (ha:∀ v,assign (.Subscript o i pos) X.env v=(do
   let ov <- holding [v] (eval o X.env)
   let iv <- holding [v,ov] (eval i X.env)
   standAt pos
   holding [v,ov,iv] (setItem ov iv v)
   release [v,ov,iv] []):=by intro _; rfl):PG X (.Subscript o i pos) (Bl to ti t):=by
 intro pins s σ H v u Q I r h
 rw [ha]
 refine γ (a7 (thn (ho pins s σ H _ I h) fun ov s1 ⟨x,H1,I1,r1,q1⟩=>?_))
 refine γ (a7 (thn (hi pins s1 σ H1 _ I1 q1) fun iv s2 ⟨y,H2,I2,r2,q2⟩=>?_))
 refine γ (CL (γ (a7 (thn (hs pins s2 σ H2 x y v ov iv u _ I2 r1 r2 r q2) fun _ s3 ⟨H3,I3,q3⟩=>?_))))
 exact wpAny_release ⟨σ,H3,I3,q3⟩
def oA (te:TE) (g:TG):TS:=fun D σ H=>te σ H fun x H1=>g x σ H1 D.nx
theorem ps_asg {tg e:Expr} {te:TE} {g:TG} (he:PE X e te) (hg:PG X tg g) (hs:swapsWithSole [tg] e pos.line X.env=pure false:=by rfl) (hw:swappedStores [tg] e X.env=pure none:=by rfl)
  (h1:(assignEach [tg] X.env).map (·.2)=[assign tg X.env]:=by rfl):PS X (.Assign [tg] e pos) (oA te g):=by
 intro pins s σ H D I h
 refine wpAny_Assign_stores (thn (he pins s σ H _ I h) fun v s1 ⟨x,H1,I1,r1,q1⟩=>?_) hs hw
 rw [h1]
 exact thn (hg pins s1 σ H1 x v _ I1 r1 q1) fun _ s2 q=>q
theorem ps_set {i:Nat} {x:Str} {e:Expr} {te:TE} {pos':Pos} (hN:X.N.Nodup) (hi:X.N[i]?=some x) (hx:Loc X.env.scope x) (he:PE X e te) (hs:swapsWith e (some (.Name x pos')) pos.line X.env=pure false:=by rfl) (hf:X.fn x=true\/X.env.scope.names.lookup x=some .local:=by first | exact .inl rfl | exact .inr rfl | assumption) :
  PS X (.Assign [.Name x pos'] e pos) (oA te (cb i)):=by
 intro pins s σ H D I h
 refine wpAny_Assign_Name (thn (he pins s σ H _ I h) fun v s1 ⟨y,H1,I1,r1,q1⟩=>?_) hs
 exact fk I1 hN hi hx r1 (fun s2 I2=>⟨_,H1,I2,q1⟩) hf
def Bw (i:Nat) (te:TE) (ti:TIp):TS:=fun D σ H=>∃ x,σ[i]?=some (some x)/\te σ H fun y H1=>ti x y H1 fun z H2=>D.nx (σ.set i (some z)) H2
theorem ps_aug {i:Nat} {x:Str} {e:Expr} {te:TE} {op:Operator} {ti:TIp} {pos':Pos} (hN:X.N.Nodup) (hi:X.N[i]?=some x) (hx:Loc X.env.scope x) (he:PE X e te) (ho:PIp X op ti) (hf:X.fn x=true\/X.env.scope.names.lookup x=some .local:=by first | exact .inl rfl | exact .inr rfl | assumption) :
  PS X (.AugAssign (.Name x pos') op e pos) (Bw i te ti):=by
 intro pins s σ H D I h
 obtain ⟨v,e1,h⟩:=h
 obtain ⟨m,hn,hl⟩:=I.loc
 have vis:Vis X.env.scope x:=by rcases hx with k | k; exact .inl k; exact .inr (.inl k)
 obtain ⟨u,r,l⟩:=hl i x v hi e1 vis
 refine wpAny_AugAssign_Name ?_
 have go:wpAny (model X.prog X.w) X.A (eval e X.env) (fun w s₂=>wpAny (model X.prog X.w) X.A (inplaceOp op u w) (fun r s₃=>wpAny (model X.prog X.w) X.A (storeName X.env x r) (fun _=>SP X pins D .next) X.xe s₃) X.xe s₂) X.xe s:=by
  refine thn (he pins s σ H _ I h) fun w s1 ⟨y,H1,I1,r1,q1⟩=>?_
  refine thn (ho pins s1 σ H1 v y u w _ I1 r r1 q1) fun z s2 ⟨zv,H2,I2,r2,q2⟩=>?_
  exact fk I2 hN hi hx r2 (fun s3 I3=>⟨_,H2,I3,q2⟩) hf
 rcases l with ⟨hk,hm⟩ | ⟨hk,c,hc,hcell⟩
 ·exact wpAny_loadName_local I.ok.kind hk hn hm go
 ·rcases hk with hk | hk
  ·exact wpAny_loadName_cell I.ok.kind hk hc hcell go
  ·rcases hx with k | k
   ·have:X.env.scope.names.lookup x=some .free:=hk
    rw [k] at this; cases this
   ·have:X.env.scope.names.lookup x=some .free:=hk
    rw [k] at this; cases this
def ipI (f:Int->Int->Int):TIp:=fun x y H Q=>∃ i j,x=.int i/\y=.int j/\Q (.int (f i j)) H
theorem vh:PIp X .Add (ipI fun i j=>i + j):=by
 intro pins s σ H x y v u Q I r1 r2 h
 obtain ⟨i,j,e1,e2,q⟩:=h
 subst e1; subst e2
 obtain ⟨t,rfl⟩:=r1
 obtain ⟨t',rfl⟩:=r2
 exact iadd_int ⟨.int _,H,I.tok _,⟨_,rfl⟩,q⟩
end
section
variable {X:Cx} {pos:Pos}
def pR (c:TT) (tb:TS):TS:=fun D σ H=>∃ W:Nat->St->Hp->Prop,(∃ m,W m σ H)/\∀ m σ H,W m σ H ->
 c σ H fun b H1=>if b=true then ∃ N:St->Hp->Prop,(∀ σ' H',N σ' H'->∃ m',m' < m/\W m' σ' H')/\tb { D with nx:=N,ct:=N,bk:=D.nx } σ H1 else D.nx σ H1
theorem ps_while {c:Expr} {body:List Stmt} {tc:TT} {tb:TS} (hp:PassesOwn (model X.prog X.w) X.A X.env X.xe) (hc:PT X c tc) (hb:PSs X body tb):PS X (.While c body [] pos) (pR tc tb):=by
 intro pins s σ H D I h
 obtain ⟨W,⟨m0,w0⟩,turn⟩:=h
 refine wpAny_While (codeAny_whileLoop (fun n s'=>∃ σ' H',Inv X pins σ' H' s'/\W n σ' H') ?_ m0 ⟨σ,H,I,w0⟩)
 rintro n s1 ⟨σ1,H1,I1,w1⟩
 refine s_ hp (thn (hc pins s1 σ1 H1 _ I1 (turn n σ1 H1 w1)) fun b s2 ⟨H2,I2,q2⟩=>?_)
 cases b with
 | true=>
  obtain ⟨N,hN,q2⟩:=q2
  rw [if_pos rfl]
  refine s_ hp (thn (hb pins s2 σ1 H2 _ I2 q2) fun f s3 q3=>?_)
  cases f with
  | next=>
   obtain ⟨σ3,H3,I3,n3⟩:=q3
   obtain ⟨m',hm,w3⟩:=hN σ3 H3 n3
   exact ⟨m',hm,σ3,H3,I3,w3⟩
  | cont=>
   obtain ⟨σ3,H3,I3,n3⟩:=q3
   obtain ⟨m',hm,w3⟩:=hN σ3 H3 n3
   exact ⟨m',hm,σ3,H3,I3,w3⟩
  | brk=>exact q3
  | ret v=>exact q3
 | false=>
  rw [if_neg Ι]
  exact A2 ⟨σ1,H2,I2,q2⟩
end
structure It where
 go:Nat->Hp->Prop
 yld:Nat->Hp->V->Hp->Prop
 stop:Nat->Hp->Prop
def iF (X:Cx) (pins:List (Addr×Obj)) (H:Hp) (b:Addr):Prop:=
 H b=none/\b≠X.env.locals/\b∉X.fs/\(b∈X.ex\/X.s₀.heap.objs.size<=b)/\(∀ x c,X.env.cells.lookup x=some c->c≠b)/\∀ p∈X.pn ++ pins,p.1≠b
theorem Inv.fpOk {X:Cx} {pins:List (Addr×Obj)} {σ:St} {H H':Hp} {s:ι} {b:Addr} (I:Inv X pins σ H s) (hb:s.heap.objs.size<=b) (hn:H' b=none):iF X pins H' b:=by
 refine ⟨hn,i5 (ώ I.lt hb),I.nofs hb,.inr (ϔ I.sz hb),fun x c e z=>?_,fun p hp z=>?_⟩
 ·obtain ⟨v,q⟩:=I.cell x c e
  exact absurd (ώ q.lt (by rw [z]; exact hb)) (w9 _)
 ·exact absurd (ώ (υ (I.pin p hp).1) (by rw [z]; exact hb)) (w9 _)
structure jh (P:Β) (w:Ξ) (K:PySem.W.Frag) (tg:Expr) (J:It) (fp:List Addr) (it:Addr) (tn:Nat->Heap->Prop):Prop where
 mem:it∈fp
 obj:∀ i h,tn i h->∀ b∈fp,∃ o,h.get? b=some o/\∀ v,o.data≠.cell v
 keep:∀ i h h',tn i h->(∀ b∈fp,∀ o,h.get? b=some o->h'.get? b=some o)->tn i h'
 item:∀ (X:Cx),X.prog=P->X.w=w->X.K=K->X.calm=true->∀ (i:Nat) (pins:List (Addr×Obj)) (s:ι) (σ:St) (H:Hp) (E:δ->ι->Prop),Inv X pins σ H s->(∀ b∈fp,iF X pins H b)->tn i s.heap->J.go i H ->
  wpAny (model P w) X.A (pyNext (.ref it)) (fun r s1=>∃ u,r=some u /\
   wpAny (model P w) X.A (letOwnedTupleGo tg (.ref it) u) (fun _ s2=>∃ x H',Inv X pins σ H' s2/\ay x u/\J.yld i H x H'/\tn (i + 1) s2.heap/\∀ b∈fp,H' b=none) E s1) E s
 done:∀ (X:Cx),X.prog=P->X.w=w->X.K=K->X.calm=true->∀ (i:Nat) (pins:List (Addr×Obj)) (s:ι) (σ:St) (H:Hp) (E:δ->ι->Prop),Inv X pins σ H s->(∀ b∈fp,iF X pins H b)->tn i s.heap->J.stop i H ->
  wpAny (model P w) X.A (pyNext (.ref it)) (fun r s1=>r=none/\Inv X pins σ H s1) E s
 self:∀ (A:Φ) (i:Nat) (s:ι) (Q:δ->ι->Prop) (E:δ->ι->Prop),tn i s.heap->Q (.ref it) s->wpAny (model P w) A (pyIter (.ref it)) Q E s
abbrev TI:=St->Hp->(It->Hp->Prop)->Prop
def PIE (X:Cx) (pins:List (Addr×Obj)) (σ:St) (tg:Expr) (R:It->Hp->Prop) (itv:δ) (s2:ι):Prop:=
 ∃ (it:Addr) (fp:List Addr) (tn:Nat->Heap->Prop) (J:It) (H':Hp),itv=.ref it/\Inv X pins σ H' s2/\jh X.prog X.w X.K tg J fp it tn/\tn 0 s2.heap/\(∀ b∈fp,iF X pins H' b)/\R J H'
def PI (X:Cx) (tg iter:Expr) (wi:TI):Prop:=
 ∀ (pins:List (Addr×Obj)) (s:ι) (σ:St) (H:Hp) (R:It->Hp->Prop),Inv X pins σ H s->wi σ H R ->
  wpAny (model X.prog X.w) X.A (eval iter X.env) (fun v s1=>wpAny (model X.prog X.w) X.A (pyIter v) (PIE X pins σ tg R) X.xe s1) X.xe s
theorem qM {M:Eb} {A:Φ} {E:δ->ι->Prop} {s:ι} {tg:Expr} {it:Addr} {u:δ} {o:Obj} {n:String} {vs:Array δ} {Q:Unit->ι->Prop} (ho:s.heap.get? it=some o) (hc:o.cls=.type n) (hd:o.data=.fields vs)
  (hn:["enumerate","zip","dict_itemiterator","dict_reverseitemiterator","odict_iterator","itertools.zip_longest","itertools.pairwise"].contains n=false) (hQ:Q () s):wpAny M A (letOwnedTupleGo tg (.ref it) u) Q E s:=by
 unfold letOwnedTupleGo
 cases tg <;> first
  | exact ξ hQ
  | (cases u <;> first
    | exact ξ hQ
    | (refine γ (wpAny_load ho ?_)
       rw [hc,hd]
       show wpAny M A (if (["enumerate","zip","dict_itemiterator","dict_reverseitemiterator","odict_iterator","itertools.zip_longest","itertools.pairwise"].contains n && vs[0]? == some (rawInt _))=true then _ else _) Q E s
       rw [if_neg (by intro h; rw [hn,Ϻ] at h; cases h)]
       exact ξ hQ))
def Itl (K:PySem.W.Frag) (a:Addr):It:=
 ⟨fun i H=>∃ xs x,SqL K H a xs/\xs[i]?=some x,fun i H x H'=>H'=H/\∀ xs,SqL K H a xs->xs[i]?=some x,fun i H=>∃ xs,SqL K H a xs/\xs.length<=i⟩
def Itt (K:PySem.W.Frag) (a:Addr):It:=
 ⟨fun i H=>∃ xs x,SqT K H a xs/\xs[i]?=some x,fun i H x H'=>H'=H/\∀ xs,SqT K H a xs->xs[i]?=some x,fun i H=>∃ xs,SqT K H a xs/\xs.length<=i⟩
def Itr (lo:Int) (n:Nat):It:=⟨fun i _=>i < n,fun i H x H'=>H'=H/\x=.int (lo + i),fun i _=>n<=i⟩
theorem sE {P:Β} {w:Ξ} {K:PySem.W.Frag} {tg:Expr} (a it:Addr):jh P w K tg (Itl K a) [it] it (fun i h=>h.IsListIter it a i) where
 mem:=by simp
 obj:=fun i h st b hb=>by
  have e:b=it:=by simpa using hb
  subst e
  obtain ⟨o,e,c,d⟩:=st
  exact ⟨o,e,fun v z=>by rw [d] at z; cases z⟩
 keep:=fun i h h' st k=>st.at fun o e=>k it (by simp) o e
 item:=by
  intro X hP hw hK hc i pins s σ H E I hf st hg
  subst hP hw hK
  obtain ⟨xs,x,hq,hx⟩:=hg
  obtain ⟨its,rv,p,hz⟩:=I.list hq
  obtain ⟨u,hu,ru⟩:=rv.get hx
  obtain ⟨f0,f1,f2,f3,f4,f5⟩:=hf it (by simp)
  refine wpAny_pyNext_list_item st p.isList (x:=u) (by simpa using hu) fun h' st' sb=>?_
  have I1:Inv X pins σ H { s with heap:=h' }:=I.turned (t':=s.toks) (fun b o hb e=>(sb.2 b hb).trans e) f0 f1 f3 f4 f5
  obtain ⟨o,e,c,d⟩:=id st'
  exact ⟨u,rfl,qM (s:={ s with heap:=h' }) e c d (by decide) ⟨x,H,I1,ru,⟨rfl,fun ys hy=>by rw [I.list_inj hy hq]; exact hx⟩,st',fun b hb=>(hf b hb).1⟩⟩
 done:=by
  intro X hP hw hK hc i pins s σ H E I hf st hg
  subst hP hw hK
  obtain ⟨xs,hq,hx⟩:=hg
  obtain ⟨its,rv,p,hz⟩:=I.list hq
  obtain ⟨f0,f1,f2,f3,f4,f5⟩:=hf it (by simp)
  have hl:=rv.length
  exact wpAny_pyNext_list_end (I.ok.hd hc) st p.isList (by simp; omega) fun h' eb=>⟨rfl,I.turned (t':=s.toks) (fun b o hb e=>eb b o hb e) f0 f1 f3 f4 f5⟩
 self:=fun _ _ _ _ _ st h=>wpAny_pyIter_listiter st h
theorem oS {P:Β} {w:Ξ} {K:PySem.W.Frag} {tg:Expr} (a it:Addr):jh P w K tg (Itt K a) [it] it (fun i h=>h.IsTupleIter it a i) where
 mem:=by simp
 obj:=fun i h st b hb=>by
  have e:b=it:=by simpa using hb
  subst e
  obtain ⟨o,e,c,d⟩:=st
  exact ⟨o,e,fun v z=>by rw [d] at z; cases z⟩
 keep:=fun i h h' st k=>st.at fun o e=>k it (by simp) o e
 item:=by
  intro X hP hw hK hc i pins s σ H E I hf st hg
  subst hP hw hK
  obtain ⟨xs,x,hq,hx⟩:=hg
  obtain ⟨its,rv,p,hz⟩:=I.tuple hq
  obtain ⟨u,hu,ru⟩:=rv.get hx
  obtain ⟨f0,f1,f2,f3,f4,f5⟩:=hf it (by simp)
  refine wpAny_pyNext_tuple_item st (show s.heap.IsTuple a its.toArray from p) (x:=u) (by simpa using hu) fun h' st' sb=>?_
  have I1:Inv X pins σ H { s with heap:=h' }:=I.turned (t':=s.toks) (fun b o hb e=>(sb.2 b hb).trans e) f0 f1 f3 f4 f5
  obtain ⟨o,e,c,d⟩:=id st'
  exact ⟨u,rfl,qM (s:={ s with heap:=h' }) e c d (by decide) ⟨x,H,I1,ru,⟨rfl,fun ys hy=>by rw [I.tuple_inj hy hq]; exact hx⟩,st',fun b hb=>(hf b hb).1⟩⟩
 done:=by
  intro X hP hw hK hc i pins s σ H E I hf st hg
  subst hP hw hK
  obtain ⟨xs,hq,hx⟩:=hg
  obtain ⟨its,rv,p,hz⟩:=I.tuple hq
  obtain ⟨f0,f1,f2,f3,f4,f5⟩:=hf it (by simp)
  have hl:=rv.length
  exact wpAny_pyNext_tuple_end (I.ok.hd hc) st (show s.heap.IsTuple a its.toArray from p) (by simp; omega) fun h' eb=>⟨rfl,I.turned (t':=s.toks) (fun b o hb e=>eb b o hb e) f0 f1 f3 f4 f5⟩
 self:=fun _ _ _ _ _ st h=>wpAny_pyIter_tupleiter st h
theorem oB {P:Β} {w:Ξ} {K:PySem.W.Frag} {tg:Expr} (it:Addr) (lo:Int) (n:Nat):jh P w K tg (Itr lo n) [it] it (fun i h=>IsRangeIter h it (lo + (i:Nat) * 1) ((n:Int) - (i:Nat)) 1) where
 mem:=by simp
 obj:=fun i h st b hb=>by
  have e:b=it:=by simpa using hb
  subst e
  exact ⟨_,st,fun v z=>by
   have z':Data.fields _=Ej v:=z
   cases z'⟩
 keep:=fun i h h' st k=>k it (by simp) _ st
 item:=by
  intro X hP hw hK hc i pins s σ H E I hf st hg
  subst hP hw hK
  obtain ⟨f0,f1,f2,f3,f4,f5⟩:=hf it (by simp)
  have W:=Eu.range (prog:=X.prog) (w:=X.w) (I.ok.hd hc) it lo 1 n
  refine W.item i s _ _ hg st fun v h' tk hv st' kk=>?_
  obtain ⟨t,rfl⟩:=hv
  have I1:Inv X pins σ H { s with heap:=h',toks:=tk }:=I.turned (fun b o hb e=>kk b o (by simpa using hb) e) f0 f1 f3 f4 f5
  refine ⟨_,rfl,qM (s:={ s with heap:=h',toks:=tk }) (n:="range_iterator") st' rfl rfl (by decide) ⟨.int (lo + i),H,I1,⟨t,?_⟩,⟨rfl,rfl⟩,st',fun b hb=>(hf b hb).1⟩⟩
  rw [Int.mul_one]
 done:=by
  intro X hP hw hK hc i pins s σ H E I hf st hg
  subst hP hw hK
  obtain ⟨f0,f1,f2,f3,f4,f5⟩:=hf it (by simp)
  exact wpAny_pyNext_range_end (I.ok.hd hc) st (by have:n<=i:=hg; omega) fun h' eb=>⟨rfl,I.turned (t':=s.toks) (fun b o hb e=>eb b o hb e) f0 f1 f3 f4 f5⟩
 self:=fun _ _ _ _ _ st h=>wpAny_pyIter_rangeiter st h
section
variable {X:Cx} {tg:Expr}
def zY (K:PySem.W.Frag) (tl:TE):TI:=fun σ H R=>tl σ H fun x H1=>∃ a,x=.ref a/\(∃ xs,SqL K H1 a xs)/\R (Itl K a) H1
def BF (K:PySem.W.Frag) (tl:TE):TI:=fun σ H R=>tl σ H fun x H1=>∃ a,x=.ref a/\(∃ xs,SqT K H1 a xs)/\R (Itt K a) H1
theorem pi_list {l:Expr} {tl:TE} (hl:PE X l tl):PI X tg l (zY X.K tl):=by
 intro pins s σ H R I h
 refine thn (hl pins s σ H _ I h) fun v s1 ⟨x,H1,I1,r1,q1⟩=>?_
 obtain ⟨a,e,⟨xs,hq⟩,q⟩:=q1
 subst e
 cases r1
 obtain ⟨its,rv,p,hz⟩:=I1.list hq
 refine Co p.isList ?_
 refine ⟨s1.heap.objs.size,[s1.heap.objs.size],_,_,H1,rfl,I1.kept (t':=s1.toks) fun b o e=>ν _ e,sE a _,⟨_,Γ _ rfl,rfl,rfl⟩,fun b hb=>?_,q⟩
 have e:b=s1.heap.objs.size:=by simpa using hb
 subst e
 exact I1.fpOk (τ _) (I1.hok.fresh (τ _))
theorem pi_tup {l:Expr} {tl:TE} (hl:PE X l tl):PI X tg l (BF X.K tl):=by
 intro pins s σ H R I h
 refine thn (hl pins s σ H _ I h) fun v s1 ⟨x,H1,I1,r1,q1⟩=>?_
 obtain ⟨a,e,⟨xs,hq⟩,q⟩:=q1
 subst e
 cases r1
 obtain ⟨its,rv,p,hz⟩:=I1.tuple hq
 refine Cj (show s1.heap.IsTuple a its.toArray from p) ?_
 refine ⟨s1.heap.objs.size,[s1.heap.objs.size],_,_,H1,rfl,I1.kept (t':=s1.toks) fun b o e=>ν _ e,oS a _,⟨_,Γ _ rfl,rfl,rfl⟩,fun b hb=>?_,q⟩
 have e:b=s1.heap.objs.size:=by simpa using hb
 subst e
 exact I1.fpOk (τ _) (I1.hok.fresh (τ _))
theorem wb {pins:List (Addr×Obj)} {σ:St} {H:Hp} {s:ι} {R:It->Hp->Prop} {E:δ->ι->Prop} {lo hi:Int} {t u v:Tok} {tk:Nat} (I:Inv X pins σ H s) (h1:-(2 ^ 62)<=lo) (h2:lo < 2 ^ 62) (h3:-(2 ^ 62)<=hi) (h4:hi < 2 ^ 62)
  (q:R (Itr lo (hi - lo).toNat) H):wpAny (model X.prog X.w) X.A (pyIter (.ref s.heap.objs.size)) (PIE X pins σ tg R) E { s with heap:=s.heap.push { cls:=.type "range",data:=.fields #[.int lo t,.int hi u,.int 1 v] },toks:=tk }:=by
 refine wpAny_pyIter_range (IsRange.new ..) (small_one h1 h2 h3 h4) ?_
 have I1:Inv X pins σ H { s with heap:=s.heap.push { cls:=.type "range",data:=.fields #[.int lo t,.int hi u,.int 1 v] },toks:=tk }:=I.kept fun b o e=>ν _ e
 refine ⟨(s.heap.push { cls:=.type "range",data:=.fields #[.int lo t,.int hi u,.int 1 v] }).objs.size,[(s.heap.push { cls:=.type "range",data:=.fields #[.int lo t,.int hi u,.int 1 v] }).objs.size],_,_,H,rfl,
  I1.kept (t':=tk) fun b o e=>ν _ e,oB _ lo (hi - lo).toNat,?_,fun b hb=>?_,q⟩
 ·have e1:lo + ((0:Nat):Int) * 1=lo:=by simp
  have e2:(((hi - lo).toNat:Nat):Int) - ((0:Nat):Int)=ϑ lo hi 1:=by rw [rangeSize_one]; split <;> omega
  show IsRangeIter _ _ (lo + ((0:Nat):Int) * 1) ((((hi - lo).toNat:Nat):Int) - ((0:Nat):Int)) 1
  rw [e1,e2]
  exact Γ _ rfl
 ·have e:b=(s.heap.push { cls:=.type "range",data:=.fields #[.int lo t,.int hi u,.int 1 v] }).objs.size:=by simpa using hb
  subst e
  exact I1.fpOk (τ _) (I1.hok.fresh (τ _))
def Ah (ta:TA):TI:=fun σ H R=>ta σ H fun vs H1=>∃ j:Int,vs=[.int j]/\-(2 ^ 62)<=j/\j < 2 ^ 62/\R (Itr 0 j.toNat) H1
theorem pi_range1 {a:Expr} {ta:TA} {p pos:Pos} (hg:Gl X "range") (hm:X.mg "range"=none) (ha:PA X [a] ta) (hs:starEach [a] X.env=[(false,eval a X.env)]:=by rfl):PI X tg (.Call (.Name "range" p) [a] [] pos) (Ah ta):=by
 intro pins s σ H R I h
 refine Call_ (cH I hg hm boot_range (Ϫ (thn (ha pos pins s σ H _ I h) fun us s1 ⟨vs,H1,I1,r1,q1⟩=>?_) hs rfl))
 obtain ⟨j,e,q1,q2,q⟩:=q1
 subst e
 cases r1 with
 | cons r rr=>
  cases rr
  obtain ⟨t,rfl⟩:=r
  exact call_range_1 (wb I1 (by omega) (by omega) q1 q2 (by simpa using q))
def BT (wi:TI) (g:TG) (tb:TS):TS:=fun D σ H=>wi σ H fun J H1=>∃ W:Nat->Nat->St->Hp->Prop,(∃ m,W 0 m σ H1)/\∀ i m σ H,W i m σ H ->
 (J.stop i H/\D.nx σ H)\/(J.go i H/\∃ N:St->Hp->Prop,(∀ σ' H',N σ' H'->∃ m',m' < m/\W (i + 1) m' σ' H')/\∀ x H',J.yld i H x H'->g x σ H' fun σ2 H2=>tb { D with nx:=N,ct:=N,bk:=D.nx } σ2 H2)
def iP (fp:List Addr) (h:Heap):List (Addr×Obj):=fp.filterMap fun b=>(h.get? b).map fun o=>(b,o)
theorem db {fp:List Addr} {h:Heap} {b:Addr} {o:Obj} (hb:b∈fp) (e:h.get? b=some o):(b,o)∈iP fp h:=y8.mpr ⟨b,hb,by rw [e]; rfl⟩
theorem sq {fp:List Addr} {h:Heap} {p:Addr×Obj} (hp:p∈iP fp h):p.1∈fp/\h.get? p.1=some p.2:=by
 obtain ⟨b,hb,e⟩:=y8.mp hp
 cases q:h.get? b with
 | none=>rw [q] at e; cases e
 | some o=>
  rw [q] at e
  have e':(b,o)=p:=ϙ e
  subst e'
  exact ⟨hb,q⟩
theorem Inv.pinned {pins:List (Addr×Obj)} {σ:St} {H:Hp} {s:ι} {fp:List Addr} (I:Inv X pins σ H s) (hf:∀ b∈fp,iF X pins H b) (ho:∀ b∈fp,∃ o,s.heap.get? b=some o/\∀ v,o.data≠.cell v):Inv X (pins ++ iP fp s.heap) σ H s:=
 I.pins_of fun p hp=>(Ψ.mp hp).elim (fun z=>I.pin p (ϒ _ z)) fun z=>by
  obtain ⟨hb,e⟩:=sq z
  obtain ⟨f0,f1,f2,_⟩:=hf p.1 hb
  obtain ⟨o,e',d⟩:=ho p.1 hb
  rw [e] at e'; cases e'
  exact ⟨e,f0,f1,f2,d⟩
theorem Inv.unpinned {pins pl:List (Addr×Obj)} {σ:St} {H:Hp} {s:ι} (I:Inv X (pins ++ pl) σ H s):Inv X pins σ H s:=I.pins_of fun p hp=>I.pin p (ϒ _ (Ϲ _ hp))
theorem ps_for {iter:Expr} {body:List Stmt} {wi:TI} {g:TG} {tb:TS} {pos:Pos} (hp:PassesOwn (model X.prog X.w) X.A X.env X.xe) (hc:X.calm=true) (hi:PI X tg iter wi) (hg:PG X tg g) (hb:PSs X body tb)
  (hs:∀ x,foldedSetIterable iter X.env x=pure x:=by intro _; rfl):PS X (.For tg iter body [] pos) (BT wi g tb):=by
 intro pins s σ H D I h
 refine wpAny_For (thn (hi pins s σ H _ I h) fun v s1 h1=>thn h1 fun itv s2 h2=>?_) hs
 obtain ⟨it,fp,tn,J,H2,e,I2,T,st2,f2,W,⟨m0,w0⟩,turn⟩:=h2
 subst e
 have stat:∀ {H':Hp},(∀ b∈fp,H' b=none)->∀ b∈fp,iF X pins H' b:=fun hn b hb=>⟨hn b hb,(f2 b hb).2⟩
 refine codeAny_forLoop_any (fun n s'=>∃ i σ' H',Inv X pins σ' H' s'/\tn i s'.heap/\(∀ b∈fp,H' b=none)/\W i n σ' H') ?_ m0 ⟨0,σ,H2,I2,st2,fun b hb=>(f2 b hb).1,w0⟩
 rintro n s3 ⟨i,σ3,H3,I3,st3,fr3,w3⟩
 rcases turn i n σ3 H3 w3 with ⟨stop,qn⟩ | ⟨go,N,hN,step⟩
 ·refine s_ hp (thn (T.done X rfl rfl rfl hc i pins s3 σ3 H3 X.xe I3 (stat fr3) st3 stop) fun r s4 ⟨hr,I4⟩=>?_)
  subst hr
  exact A2 ⟨σ3,H3,I4,qn⟩
 ·refine s_ hp (thn (T.item X rfl rfl rfl hc i pins s3 σ3 H3 X.xe I3 (stat fr3) st3 go) fun r s4 ⟨u,hr,h4⟩=>?_)
  subst hr
  refine s_ hp (thn h4 fun _ s5 ⟨x,H5,I5,r5,y5,st5,fr5⟩=>?_)
  have I5':=I5.pinned (stat fr5) (T.obj _ _ st5)
  refine s_ hp (thn (hg _ s5 σ3 H5 x u _ I5' r5 (step x H5 y5)) fun _ s6 ⟨σ6,H6,I6,q6⟩=>?_)
  refine s_ hp (thn (hb _ s6 σ6 H6 _ I6 q6) fun f s7 q7=>?_)
  have again:∀ {σ7:St} {H7:Hp},Inv X (pins ++ iP fp s5.heap) σ7 H7 s7->N σ7 H7->∃ m,m < n/\∃ i σ' H',Inv X pins σ' H' s7/\tn i s7.heap/\(∀ b∈fp,H' b=none)/\W i m σ' H':=fun {σ7 H7} I7 n7=>by
   obtain ⟨m',hm,w7⟩:=hN σ7 H7 n7
   refine ⟨m',hm,i + 1,σ7,H7,I7.unpinned,T.keep _ _ _ st5 fun b hb o e=>(I7.pin (b,o) (ϒ _ (ϒ _ (db hb e)))).1,fun b hb=>?_,w7⟩
   obtain ⟨o,e,d⟩:=T.obj _ _ st5 b hb
   exact (I7.pin (b,o) (ϒ _ (ϒ _ (db hb e)))).2.1
  cases f with
  | next=>obtain ⟨σ7,H7,I7,n7⟩:=q7; exact again I7 n7
  | cont=>obtain ⟨σ7,H7,I7,n7⟩:=q7; exact again I7 n7
  | brk=>obtain ⟨σ7,H7,I7,q7⟩:=q7; exact ⟨σ7,H7,I7.unpinned,q7⟩
  | ret v=>obtain ⟨x7,σ7,H7,I7,r7,q7⟩:=q7; exact ⟨x7,σ7,H7,I7.unpinned,r7,q7⟩
end
theorem mj {K:PySem.W.Frag} {a:Addr} {xs:List V} {g:TG} {tb:TS} {D:bV} {σ:St} {H:Hp} (Pv:Nat->St->Hp->Prop) (h0:Pv 0 σ H) (hl:∀ i σ H,i<=xs.length->Pv i σ H->SqL K H a xs)
  (hs:∀ i x σ H,xs[i]?=some x->Pv i σ H->g x σ H fun σ2 H2=>tb { D with nx:=Pv (i + 1),ct:=Pv (i + 1),bk:=D.nx } σ2 H2) (hd:∀ σ H,Pv xs.length σ H->D.nx σ H) :
  ∃ W:Nat->Nat->St->Hp->Prop,(∃ m,W 0 m σ H)/\∀ i m σ H,W i m σ H ->
   ((Itl K a).stop i H/\D.nx σ H)\/((Itl K a).go i H/\∃ N:St->Hp->Prop,(∀ σ' H',N σ' H'->∃ m',m' < m/\W (i + 1) m' σ' H')/\∀ x H',(Itl K a).yld i H x H'->g x σ H' fun σ2 H2=>tb { D with nx:=N,ct:=N,bk:=D.nx } σ2 H2):=by
 refine ⟨fun i m σ H=>m=xs.length - i/\i<=xs.length/\Pv i σ H,⟨xs.length,by simp,Χ _,h0⟩,?_⟩
 rintro i m σ H ⟨rfl,hi,p⟩
 have q:=hl i σ H hi p
 by_cases hlt:i < xs.length
 ·refine .inr ⟨⟨xs,xs[i],q,by simp [hlt]⟩,Pv (i + 1),fun σ' H' p'=>⟨xs.length - (i + 1),by omega,rfl,hlt,p'⟩,fun x H' y=>?_⟩
  obtain ⟨e,y⟩:=y
  subst e
  exact hs i x σ _ (y xs q) p
 ·have e:i=xs.length:=by omega
  subst e
  exact .inl ⟨⟨xs,q,τ _⟩,hd σ H p⟩
theorem qa {K:PySem.W.Frag} {a:Addr} {xs:List V} {g:TG} {tb:TS} {D:bV} {σ:St} {H:Hp} (Pv:Nat->St->Hp->Prop) (h0:Pv 0 σ H) (hl:∀ i σ H,i<=xs.length->Pv i σ H->SqT K H a xs)
  (hs:∀ i x σ H,xs[i]?=some x->Pv i σ H->g x σ H fun σ2 H2=>tb { D with nx:=Pv (i + 1),ct:=Pv (i + 1),bk:=D.nx } σ2 H2) (hd:∀ σ H,Pv xs.length σ H->D.nx σ H) :
  ∃ W:Nat->Nat->St->Hp->Prop,(∃ m,W 0 m σ H)/\∀ i m σ H,W i m σ H ->
   ((Itt K a).stop i H/\D.nx σ H)\/((Itt K a).go i H/\∃ N:St->Hp->Prop,(∀ σ' H',N σ' H'->∃ m',m' < m/\W (i + 1) m' σ' H')/\∀ x H',(Itt K a).yld i H x H'->g x σ H' fun σ2 H2=>tb { D with nx:=N,ct:=N,bk:=D.nx } σ2 H2):=by
 refine ⟨fun i m σ H=>m=xs.length - i/\i<=xs.length/\Pv i σ H,⟨xs.length,by simp,Χ _,h0⟩,?_⟩
 rintro i m σ H ⟨rfl,hi,p⟩
 have q:=hl i σ H hi p
 by_cases hlt:i < xs.length
 ·refine .inr ⟨⟨xs,xs[i],q,by simp [hlt]⟩,Pv (i + 1),fun σ' H' p'=>⟨xs.length - (i + 1),by omega,rfl,hlt,p'⟩,fun x H' y=>?_⟩
  obtain ⟨e,y⟩:=y
  subst e
  exact hs i x σ _ (y xs q) p
 ·have e:i=xs.length:=by omega
  subst e
  exact .inl ⟨⟨xs,q,τ _⟩,hd σ H p⟩
theorem jY {lo:Int} {n:Nat} {g:TG} {tb:TS} {D:bV} {σ:St} {H:Hp} (Pv:Nat->St->Hp->Prop) (h0:Pv 0 σ H)
  (hs:∀ i σ H,i < n->Pv i σ H->g (.int (lo + i)) σ H fun σ2 H2=>tb { D with nx:=Pv (i + 1),ct:=Pv (i + 1),bk:=D.nx } σ2 H2) (hd:∀ σ H,Pv n σ H->D.nx σ H) :
  ∃ W:Nat->Nat->St->Hp->Prop,(∃ m,W 0 m σ H)/\∀ i m σ H,W i m σ H ->
   ((Itr lo n).stop i H/\D.nx σ H)\/((Itr lo n).go i H/\∃ N:St->Hp->Prop,(∀ σ' H',N σ' H'->∃ m',m' < m/\W (i + 1) m' σ' H')/\∀ x H',(Itr lo n).yld i H x H'->g x σ H' fun σ2 H2=>tb { D with nx:=N,ct:=N,bk:=D.nx } σ2 H2):=by
 refine ⟨fun i m σ H=>m=n - i/\i<=n/\Pv i σ H,⟨n,by simp,Χ _,h0⟩,?_⟩
 rintro i m σ H ⟨rfl,hi,p⟩
 by_cases hlt:i < n
 ·refine .inr ⟨hlt,Pv (i + 1),fun σ' H' p'=>⟨n - (i + 1),by omega,rfl,hlt,p'⟩,fun x H' y=>?_⟩
  obtain ⟨e,y⟩:=y
  subst e y
  exact hs i σ _ hlt p
 ·have e:i=n:=by omega
  subst e
  exact .inl ⟨τ _,hd σ H p⟩
abbrev R2:=V->V->Hp->VK->Prop
def OpR (X:Cx) (f:δ->δ->Sem δ) (r:R2):Prop:=
 ∀ (pins:List (Addr×Obj)) (s:ι) (σ:St) (H:Hp) (x y:V) (v u:δ) (Q:VK),Inv X pins σ H s->ay x v->ay y u->r x y H Q ->
  wpAny (model X.prog X.w) X.A (f v u) (EP X pins σ Q) X.xe s
def UnR (X:Cx) (f:δ->Sem δ) (r:V->Hp->VK->Prop):Prop:=
 ∀ (pins:List (Addr×Obj)) (s:ι) (σ:St) (H:Hp) (x:V) (v:δ) (Q:VK),Inv X pins σ H s->ay x v->r x H Q ->
  wpAny (model X.prog X.w) X.A (f v) (EP X pins σ Q) X.xe s
def bU (X:Cx) (f:δ) (r:List V->Hp->VK->Prop):Prop:=
 ∀ (pins:List (Addr×Obj)) (s:ι) (σ:St) (H:Hp) (xs:List V) (us:List δ) (Q:VK),Inv X pins σ H s->au xs us->r xs H Q ->
  wpAny (model X.prog X.w) X.A (call f us) (EP X pins σ Q) X.xe s
def Br (X:Cx) (r:V->Hp->(Bool->Hp->Prop)->Prop):Prop:=
 ∀ (pins:List (Addr×Obj)) (s:ι) (σ:St) (H:Hp) (x:V) (v:δ) (Q:Bool->Hp->Prop),Inv X pins σ H s->ay x v->r x H Q ->
  wpAny (model X.prog X.w) X.A (truthy v) (TP X pins σ Q) X.xe s
def tOp (r:R2) (ta tb:TE):TE:=fun σ H Q=>ta σ H fun x H1=>tb σ H1 fun y H2=>r x y H2 Q
def tUn (r:V->Hp->VK->Prop) (ta:TE):TE:=fun σ H Q=>ta σ H fun x H1=>r x H1 Q
def rI (C:Int->Int->Prop) (g:Int->Int->V):R2:=fun x y H Q=>∃ i j,x=.int i/\y=.int j/\C i j/\Q (g i j) H
def rI0 (g:Int->Int->V):R2:=fun x y H Q=>∃ i j,x=.int i/\y=.int j/\Q (g i j) H
def rU (g:Int->V):V->Hp->VK->Prop:=fun x H Q=>∃ i,x=.int i/\Q (g i) H
section
variable {X:Cx} {a b c:Expr} {ta tb tc:TE} {pos:Pos}
theorem zV (ha:PE X a ta) (hb:PE X b tb) {pins:List (Addr×Obj)} {s:ι} {σ:St} {H:Hp} {R:V->V->Hp->Prop} (I:Inv X pins σ H s)
  (h:ta σ H fun x H1=>tb σ H1 fun y H2=>R x y H2) {Q:δ->ι->Prop} {f:δ->δ->Sem δ}
  (hf:∀ v u s2 x y H2,Inv X pins σ H2 s2->ay x v->ay y u->R x y H2->wpAny (model X.prog X.w) X.A (f v u) Q X.xe s2) :
  wpAny (model X.prog X.w) X.A (eval a X.env) (fun v s₁=>wpAny (model X.prog X.w) X.A (eval b X.env) (fun u s₂=>wpAny (model X.prog X.w) X.A (f v u) Q X.xe s₂) X.xe s₁) X.xe s:=by
 refine thn (ha pins s σ H _ I h) fun v s1 ⟨x,H1,I1,r1,q1⟩=>?_
 refine thn (hb pins s1 σ H1 _ I1 q1) fun u s2 ⟨y,H2,I2,r2,q2⟩=>?_
 exact hf v u s2 x y H2 I2 r1 r2 q2
theorem pe_op {op:Operator} {r:R2} (ho:OpR X (binaryOp op) r) (ha:PE X a ta) (hb:PE X b tb):PE X (.BinOp a op b pos) (tOp r ta tb):=by
 intro pins s σ H Q I h
 exact wpAny_BinOp (zV ha hb I h fun v u s2 x y H2 I2 rx ry q=>ho pins s2 σ H2 x y v u Q I2 rx ry q)
theorem pe_un {op:UnaryOp} {r:V->Hp->VK->Prop} (ho:UnR X (unaryOp op) r) (ha:PE X a ta):PE X (.UnaryOp op a pos) (tUn r ta):=by
 intro pins s σ H Q I h
 exact UnaryOp_ (thn (ha pins s σ H _ I h) fun v s1 ⟨x,H1,I1,r1,q1⟩=>ho pins s1 σ H1 x v Q I1 r1 q1)
theorem opI {f:δ->δ->Sem δ} {C:Int->Int->Prop} {g:Int->Int->Int}
  (rule:∀ (i j:Int) (t u:Tok) (s:ι) (Q:δ->ι->Prop) (E:δ->ι->Prop),C i j->Q (.int (g i j) s.toks) { s with toks:=s.toks + 1 }->wpAny (model X.prog X.w) X.A (f (.int i t) (.int j u)) Q E s) :
  OpR X f (rI C fun i j=>.int (g i j)):=by
 intro pins s σ H x y v u Q I rx ry h
 obtain ⟨i,j,rfl,rfl,hc,q⟩:=h
 obtain ⟨t,rfl⟩:=rx
 obtain ⟨t',rfl⟩:=ry
 exact rule i j t t' s _ _ hc ⟨.int (g i j),H,I.tok _,⟨_,rfl⟩,q⟩
theorem Bd {f:δ->δ->Sem δ} {g:Int->Int->Int}
  (rule:∀ (i j:Int) (t u:Tok) (s:ι) (Q:δ->ι->Prop) (E:δ->ι->Prop),Q (.int (g i j) s.toks) { s with toks:=s.toks + 1 }->wpAny (model X.prog X.w) X.A (f (.int i t) (.int j u)) Q E s) :
  OpR X f (rI0 fun i j=>.int (g i j)):=by
 intro pins s σ H x y v u Q I rx ry h
 obtain ⟨i,j,rfl,rfl,q⟩:=h
 obtain ⟨t,rfl⟩:=rx
 obtain ⟨t',rfl⟩:=ry
 exact rule i j t t' s _ _ ⟨.int (g i j),H,I.tok _,⟨_,rfl⟩,q⟩
theorem wD {f:δ->δ->Sem δ} {g:Int->Int->Bool}
  (rule:∀ (i j:Int) (t u:Tok) (s:ι) (Q:δ->ι->Prop) (E:δ->ι->Prop),Q (.bool (g i j)) s->wpAny (model X.prog X.w) X.A (f (.int i t) (.int j u)) Q E s) :
  OpR X f (rI0 fun i j=>.bl (g i j)):=by
 intro pins s σ H x y v u Q I rx ry h
 obtain ⟨i,j,rfl,rfl,q⟩:=h
 obtain ⟨t,rfl⟩:=rx
 obtain ⟨t',rfl⟩:=ry
 exact rule i j t t' s _ _ ⟨.bl (g i j),H,I,rfl,q⟩
def BQ (i j:Int):Prop:=0 < j/\j < 1073741824
def wp (i j:Int):Prop:=0<=j/\j<=1000000/\i.natAbs < 2 ^ 64
def yA (i j:Int):Prop:=(-(2 ^ 64) < i/\i < 2 ^ 64)\/(-(2 ^ 64) < j/\j < 2 ^ 64)
theorem yA.ok {i j:Int} (h:yA i j):IntMulOk i j:=by
 rcases h with ⟨h1,h2⟩ | ⟨h1,h2⟩
 ·exact .of_left (intBits_le_64 h1 h2)
 ·exact .of_right (intBits_le_64 h1 h2)
theorem oZ (k:Nat):(0:Int)<=2 ^ k:=by
 rw [two_pow_cast]
 exact Int.natCast_nonneg _
theorem bE:OpR X (binaryOp .Add) (rI0 fun i j=>.int (i + j)):=Bd fun _ _ _ _ _ _ _ q=>add_int q
theorem ig:OpR X (binaryOp .Mult) (rI yA fun i j=>.int (i * j)):=opI fun _ _ _ _ _ _ _ hc q=>mul_int q hc.ok
theorem bC:OpR X (binaryOp .FloorDiv) (rI BQ fun i j=>.int (i / j)):=opI fun i j _ _ _ _ _ hc q=>by
 have h1:(0:Int) < j:=hc.1
 have h2:j < 1073741824:=hc.2
 exact floordiv_int (by omega) (by rw [BX i (by omega)]; exact q) (.inl (PyProof.noPylong_small (by omega)))
theorem aB:OpR X (binaryOp .Mod) (rI (fun _ j=>0 < j) fun i j=>.int (i % j)):=opI fun i j _ _ _ _ _ hc q=>by
 have h1:(0:Int) < j:=hc
 exact mod_int' (by omega) (by rw [Int.fmod_eq_emod_of_nonneg i (by omega)]; exact q)
theorem kT:OpR X (binaryOp .Pow) (rI wp fun i j=>.int (i ^ j.toNat)):=opI fun _ _ _ _ _ _ _ hc q=>pow_int_small hc.1 hc.2.1 hc.2.2 q
theorem ug:OpR X (binaryOp .RShift) (rI (fun _ j=>0<=j) fun i j=>.int (i / 2 ^ j.toNat)):=opI fun i j _ _ _ _ _ hc q=>
 rshift_int hc (by rw [BX i (oZ _)]; exact q)
theorem ua:OpR X (binaryOp .BitAnd) (rI0 fun i j=>.int (De i j)):=Bd fun _ _ _ _ _ _ _ q=>and_int q
theorem unI {f:δ->Sem δ} {g:Int->Int}
  (rule:∀ (i:Int) (t:Tok) (s:ι) (Q:δ->ι->Prop) (E:δ->ι->Prop),Q (.int (g i) s.toks) { s with toks:=s.toks + 1 }->wpAny (model X.prog X.w) X.A (f (.int i t)) Q E s) :
  UnR X f (rU fun i=>.int (g i)):=by
 intro pins s σ H x v Q I rx h
 obtain ⟨i,rfl,q⟩:=h
 obtain ⟨t,rfl⟩:=rx
 exact rule i t s _ _ ⟨.int (g i),H,I.tok _,⟨_,rfl⟩,q⟩
theorem gr:UnR X (unaryOp .USub) (rU fun i=>.int (-i)):=unI fun _ _ _ _ _ q=>neg_int q
end
def Bc:V->V->Bool
 | .non,.non=>true | .non,.int _=>true | .int _,.non=>true | .non,.bl _=>true | .bl _,.non=>true | .non,.str _=>true | .str _,.non=>true
 | .int _,.int _=>true | .bl _,.bl _=>true | .str _,.str _=>true | .byt _,.byt _=>true
 | .int _,.str _=>true | .str _,.int _=>true | .bl _,.str _=>true | .str _,.bl _=>true
 | _,_=>false
def rEq:R2:=fun x y H Q=>Bc x y=true/\Q (.bl (decide (x=y))) H
def rNe:R2:=fun x y H Q=>Bc x y=true/\Q (.bl (!decide (x=y))) H
theorem qC {i j:Int}:decide (V.int i=V.int j)=(i == j):=by
 rw [i6]
 simp
theorem uc {i j:Bool}:decide (V.bl i=V.bl j)=(i == j):=by
 rw [i6]
 simp
theorem rc {i j:Str}:decide (V.str i=V.str j)=(i == j):=by
 rw [i6]
 simp
theorem rg {i j:Array UInt8}:decide (V.byt i=V.byt j)=(i.toList == j.toList):=by
 rw [i6]
 cases i
 cases j
 simp
section
variable {X:Cx} {a b c:Expr} {ta tb tc:TE} {pos:Pos}
theorem aO {pins:List (Addr×Obj)} {σ:St} {H:Hp} {s:ι} {Q:VK} {k k':Bool} (I:Inv X pins σ H s) (q:Q (.bl k) H) (e:k=k'):EP X pins σ Q (.bool k') s:=by
 subst e
 exact ⟨.bl k,H,I,rfl,q⟩
theorem aG:OpR X (compareOp .Eq) rEq:=by
 intro pins s σ H x y v u Q I rx ry h
 obtain ⟨hs,q⟩:=h
 cases x with
 | non=>
  cases rx
  cases y with
  | non=>cases ry; exact PySem.EqNone.eq_none_none (aO I q (by simp))
  | bl j=>cases ry; exact PySem.EqNone.eq_none_bool (aO I q (by simp))
  | int j=>obtain ⟨t',rfl⟩:=ry; exact PySem.EqNone.eq_none_int (aO I q (by simp))
  | str j=>obtain ⟨t',rfl⟩:=ry; exact PySem.EqNone.eq_none_str (aO I q (by simp))
  | _=>exact absurd (show false=true from hs) Ι
 | bl i=>
  cases rx
  cases y with
  | non=>cases ry; exact PySem.EqNone.eq_bool_none (aO I q (by simp))
  | bl j=>cases ry; exact eq_bool (aO I q uc)
  | str j=>obtain ⟨t',rfl⟩:=ry; exact PySem.EqMixed.eq_bool_str (aO I q (by simp))
  | _=>exact absurd (show false=true from hs) Ι
 | int i=>
  obtain ⟨t,rfl⟩:=rx
  cases y with
  | non=>cases ry; exact PySem.EqNone.eq_int_none (aO I q (by simp))
  | int j=>obtain ⟨t',rfl⟩:=ry; exact eq_int (aO I q qC)
  | str j=>obtain ⟨t',rfl⟩:=ry; exact PySem.EqMixed.eq_int_str (aO I q (by simp))
  | _=>exact absurd (show false=true from hs) Ι
 | str i=>
  obtain ⟨t,rfl⟩:=rx
  cases y with
  | non=>cases ry; exact PySem.EqNone.eq_str_none (aO I q (by simp))
  | bl j=>cases ry; exact PySem.EqMixed.eq_str_bool (aO I q (by simp))
  | int j=>obtain ⟨t',rfl⟩:=ry; exact PySem.EqMixed.eq_str_int (aO I q (by simp))
  | str j=>obtain ⟨t',rfl⟩:=ry; exact eq_str (aO I q rc)
  | _=>exact absurd (show false=true from hs) Ι
 | byt i=>
  obtain ⟨t,rfl⟩:=rx
  cases y with
  | byt j=>obtain ⟨t',rfl⟩:=ry; exact PySem.W.eq_bytes (aO I q rg)
  | _=>exact absurd (show false=true from hs) Ι
 | _=>cases y <;> exact absurd (show false=true from hs) Ι
theorem fE:OpR X (compareOp .NotEq) rNe:=by
 intro pins s σ H x y v u Q I rx ry h
 obtain ⟨hs,q⟩:=h
 cases x with
 | non=>
  cases rx
  cases y with
  | non=>cases ry; exact PySem.EqNone.ne_none_none (aO I q (by simp))
  | bl j=>cases ry; exact PySem.EqNone.ne_none_bool (aO I q (by simp))
  | int j=>obtain ⟨t',rfl⟩:=ry; exact PySem.EqNone.ne_none_int (aO I q (by simp))
  | str j=>obtain ⟨t',rfl⟩:=ry; exact PySem.EqNone.ne_none_str (aO I q (by simp))
  | _=>exact absurd (show false=true from hs) Ι
 | bl i=>
  cases rx
  cases y with
  | non=>cases ry; exact PySem.EqNone.ne_bool_none (aO I q (by simp))
  | bl j=>cases ry; exact ne_bool (aO I q (congrArg not uc))
  | str j=>obtain ⟨t',rfl⟩:=ry; exact PySem.EqMixed.ne_bool_str (aO I q (by simp))
  | _=>exact absurd (show false=true from hs) Ι
 | int i=>
  obtain ⟨t,rfl⟩:=rx
  cases y with
  | non=>cases ry; exact PySem.EqNone.ne_int_none (aO I q (by simp))
  | int j=>obtain ⟨t',rfl⟩:=ry; exact ne_int (aO I q (congrArg not qC))
  | str j=>obtain ⟨t',rfl⟩:=ry; exact PySem.EqMixed.ne_int_str (aO I q (by simp))
  | _=>exact absurd (show false=true from hs) Ι
 | str i=>
  obtain ⟨t,rfl⟩:=rx
  cases y with
  | non=>cases ry; exact PySem.EqNone.ne_str_none (aO I q (by simp))
  | bl j=>cases ry; exact PySem.EqMixed.ne_str_bool (aO I q (by simp))
  | int j=>obtain ⟨t',rfl⟩:=ry; exact PySem.EqMixed.ne_str_int (aO I q (by simp))
  | str j=>obtain ⟨t',rfl⟩:=ry; exact ne_str (aO I q (congrArg not rc))
  | _=>exact absurd (show false=true from hs) Ι
 | byt i=>
  obtain ⟨t,rfl⟩:=rx
  cases y with
  | byt j=>obtain ⟨t',rfl⟩:=ry; exact PySem.W.ne_bytes (aO I q (congrArg not rg))
  | _=>exact absurd (show false=true from hs) Ι
 | _=>cases y <;> exact absurd (show false=true from hs) Ι
theorem uB:OpR X (compareOp .Lt) (rI0 fun i j=>.bl (decide (i < j))):=wD fun _ _ _ _ _ _ _ q=>lt_int q
theorem jP:OpR X (compareOp .LtE) (rI0 fun i j=>.bl (decide (i<=j))):=wD fun _ _ _ _ _ _ _ q=>le_int q
theorem gK:OpR X (compareOp .Gt) (rI0 fun i j=>.bl (decide (j < i))):=wD fun _ _ _ _ _ _ _ q=>gt_int q
theorem yc:OpR X (compareOp .GtE) (rI0 fun i j=>.bl (decide (j<=i))):=wD fun _ _ _ _ _ _ _ q=>ge_int q
theorem yN:OpR X (compareOp .Is) (fun x y H Q=>y=.non/\Q (.bl (decide (x=.non))) H):=by
 intro pins s σ H x y v u Q I rx ry h
 obtain ⟨rfl,q⟩:=h
 cases ry
 refine is_none_gen (aO I q ?_)
 cases x <;> first
  | (cases rx; rfl)
  | (obtain ⟨t,rfl⟩:=rx; rfl)
theorem ak (b:Expr) {op:CmpOp} (h:op≠.In:=by decide) (h2:op≠.NotIn:=by decide):behindInMarks op b=false:=by
 have e1:(op == CmpOp.In)=false:=by cases op <;> first | rfl | exact absurd rfl h
 have e2:(op == CmpOp.NotIn)=false:=by cases op <;> first | rfl | exact absurd rfl h2
 cases b <;> simp [behindInMarks,e1,e2]
theorem pe_cmpR {op:CmpOp} {r:R2} (ho:OpR X (compareOp op) r) (ha:PE X a ta) (hb:PE X b tb) (hm:behindInMarks op b=false):PE X (.Compare a [op] [b] pos) (tOp r ta tb):=by
 intro pins s σ H Q I h
 exact wpAny_Compare1 (zV ha hb I h fun v u s2 x y H2 I2 rx ry q=>ho pins s2 σ H2 x y v u Q I2 rx ry q) hm
def yb (t:TE):TT:=fun σ H Q=>t σ H fun x H'=>∃ k,x=.bl k/\Q k H'
theorem pt_cmpR {op:CmpOp} {r:R2} (ho:OpR X (compareOp op) r) (ha:PE X a ta) (hb:PE X b tb) (hm:behindInMarks op b=false):PT X (.Compare a [op] [b] pos) (yb (tOp r ta tb)):=by
 intro pins s σ H Q I h
 refine wpAny_isTrue_Compare1 (thn (ha pins s σ H _ I h) fun v s1 ⟨x,H1,I1,r1,q1⟩=>thn (hb pins s1 σ H1 _ I1 q1) fun u s2 ⟨y,H2,I2,r2,q2⟩=>
  thn (ho pins s2 σ H2 x y v u _ I2 r1 r2 q2) fun c s3 ⟨z,H3,I3,r3,k,e,q3⟩=>?_) hm
 subst e
 cases r3
 exact ϯ ⟨H3,I3,q3⟩
def uQ (r r':R2) (ta tb tc:TE):TE:=fun σ H Q=>ta σ H fun x H1=>tb σ H1 fun y H2=>r x y H2 fun z H3=>∃ k,z=.bl k /\
 (if k=true then tc σ H3 fun w' H4=>r' y w' H4 Q else Q (.bl false) H3)
theorem pe_chain {op op':CmpOp} {r r':R2} (ho:OpR X (compareOp op) r) (ho':OpR X (compareOp op') r') (ha:PE X a ta) (hb:PE X b tb) (hc:PE X c tc)
  (hm:lastMarks [op,op'] [b,c]=false:=by with_unfolding_all rfl):PE X (.Compare a [op,op'] [b,c] pos) (uQ r r' ta tb tc):=by
 intro pins s σ H Q I h
 refine Compare_chain (thn (ha pins s σ H _ I h) fun v s1 ⟨x,H1,I1,r1,q1⟩=>chain_link (thn (hb pins s1 σ H1 _ I1 q1) fun u s2 ⟨y,H2,I2,r2,q2⟩=>
  thn (ho pins s2 σ H2 x y v u _ I2 r1 r2 q2) fun d s3 ⟨z,H3,I3,r3,k,e,q3⟩=>?_)) hm
 subst e
 cases r3
 refine ϯ ?_
 cases k with
 | false=>exact ite_ff ⟨.bl false,H3,I3,rfl,q3⟩
 | true=>exact ite_tt (chain_last (thn (hc pins s3 σ H3 _ I3 q3) fun w' s4 ⟨z',H4,I4,r4,q4⟩=>ho' pins s4 σ H4 y z' u w' Q I4 r2 r4 q4))
theorem pt_chain {op op':CmpOp} {r r':R2} (ho:OpR X (compareOp op) r) (ho':OpR X (compareOp op') r') (ha:PE X a ta) (hb:PE X b tb) (hc:PE X c tc)
  (hm:lastMarks [op,op'] [b,c]=false:=by with_unfolding_all rfl):PT X (.Compare a [op,op'] [b,c] pos) (yb (uQ r r' ta tb tc)):=by
 intro pins s σ H Q I h
 refine isTrue_chain (thn (ha pins s σ H _ I h) fun v s1 ⟨x,H1,I1,r1,q1⟩=>test_link (thn (hb pins s1 σ H1 _ I1 q1) fun u s2 ⟨y,H2,I2,r2,q2⟩=>
  thn (ho pins s2 σ H2 x y v u _ I2 r1 r2 q2) fun d s3 ⟨z,H3,I3,r3,k,e,q3⟩=>?_)) hm
 subst e
 cases r3
 refine ϯ ?_
 cases k with
 | false=>
  obtain ⟨k',e',q'⟩:=q3
  cases e'
  exact ite_ff ⟨H3,I3,q'⟩
 | true=>
  refine ite_tt (test_last (thn (hc pins s3 σ H3 _ I3 q3) fun w' s4 ⟨z',H4,I4,r4,q4⟩=>thn (ho' pins s4 σ H4 y z' u w' _ I4 r2 r4 q4) fun d' s5 ⟨z2,H5,I5,r5,k2,e2,q5⟩=>?_))
  subst e2
  cases r5
  exact ϯ ⟨H5,I5,q5⟩
def xu (K:PySem.W.Frag) (x:V) (H:Hp) (k:Bool):Prop:=
 match x with
 | .non=>k=false
 | .bl b=>k=b
 | .int i=>k=(i != 0)
 | .str y=>y.length<=sizeLine/\k=((y.length:Int) != 0)
 | .byt y=>y.size<=sizeLine/\k=((y.size:Int) != 0)
 | .ref p=>(∃ xs,SqL K H p xs/\k=!xs.isEmpty)\/(∃ xs,SqT K H p xs/\k=!xs.isEmpty)\/∃ kvs,H p=some (.dK kvs)/\k=!kvs.isEmpty
 | _=>False
theorem oY {κ:Type} {kvs:List (κ×V)} {vs:List (κ×δ)} (r:KV kvs vs):(!vs.isEmpty)=!kvs.isEmpty:=by
 cases r <;> rfl
theorem iz {xs:List V} {its:List δ} (r:au xs its):(!its.toArray.isEmpty)=!xs.isEmpty:=by
 cases r <;> simp
theorem fb:(sizeLine:Nat) < 2 ^ 63:=by rw [ψ]; decide
theorem zl:Br X (fun x H Q=>∃ k,xu X.K x H k/\Q k H):=by
 intro pins s σ H x v Q I rx h
 obtain ⟨k,e,q⟩:=h
 have hl:=fb
 have hs:sizeLine=16777216:=ψ
 cases x with
 | non=>
  cases rx
  have e':k=false:=e
  subst e'
  exact truthy_none ⟨H,I,q⟩
 | bl b=>
  cases rx
  have e':k=b:=e
  subst e'
  exact ϯ ⟨H,I,q⟩
 | int i=>
  obtain ⟨t,rfl⟩:=rx
  have e':k=(i != 0):=e
  subst e'
  exact PySem.P.truthy_int ⟨H,I,q⟩
 | str y=>
  obtain ⟨t,rfl⟩:=rx
  obtain ⟨hy,e'⟩:y.length<=sizeLine/\k=((y.length:Int) != 0):=e
  subst e'
  exact PySem.P.truthy_str (by omega) ⟨H,I.tok _,q⟩
 | byt y=>
  obtain ⟨t,rfl⟩:=rx
  obtain ⟨hy,e'⟩:y.size<=sizeLine/\k=((y.size:Int) != 0):=e
  subst e'
  exact PySem.W.truthy_bytes (by omega) ⟨H,I.tok _,q⟩
 | ref p=>
  cases rx
  have e':(∃ xs,SqL X.K H p xs/\k=!xs.isEmpty)\/(∃ xs,SqT X.K H p xs/\k=!xs.isEmpty)\/∃ kvs,H p=some (.dK kvs)/\k=!kvs.isEmpty:=e
  rcases e' with ⟨xs,hx,e'⟩ | ⟨xs,hx,e'⟩ | ⟨kvs,hx,e'⟩
  ·subst e'
   obtain ⟨its,r,pl,hz⟩:=I.list hx
   have hlen:=r.length
   exact wpAny_truthy_list pl.isList (by simp only [ρ]; omega) ⟨H,I.tok _,by rw [iz r]; exact q⟩
  ·subst e'
   obtain ⟨its,r,pl,hz⟩:=I.tuple hx
   have hlen:=r.length
   exact truthy_tuple pl (by simp only [ρ]; omega) ⟨H,I.tok _,by rw [iz r]; exact q⟩
  ·subst e'
   obtain ⟨hz,hS,vs,r,m⟩:kvs.length<=sizeLine/\(p == sysModules)=false/\∃ vs,KV kvs vs/\s.heap.DictOf (aR X.prog X.w) p vs:=I.hok p _ hx
   have hlen:kvs.length=vs.length:=Paired.length r
   exact wpAny_truthy_dict hS m (by omega) ⟨H,I.tok _,by rw [oY r]; exact q⟩
 | _=>exact (show False from e).elim
theorem pt_truth (ha:PE X a ta) (he:∀ whole,isTrue a X.env whole=(do let v <- whole; standAt a.pos; holding [v] (truthy v))) :
  PT X a (fun σ H Q=>ta σ H fun x H'=>∃ k,xu X.K x H' k/\Q k H'):=by
 intro pins s σ H Q I h
 exact isTrue_plain (thn (ha pins s σ H _ I h) fun v s1 ⟨x,H1,I1,r1,q1⟩=>zl pins s1 σ H1 x v Q I1 r1 q1) (he _)
theorem bv:OpR X (binaryOp .Add) (fun x y H Q=>∃ i j,x=.str i/\y=.str j/\i.length + j.length<=sizeLine/\Q (.str (i ++ j)) H):=by
 intro pins s σ H x y v u Q I rx ry h
 obtain ⟨i,j,rfl,rfl,hz,q⟩:=h
 obtain ⟨t,rfl⟩:=rx
 obtain ⟨t',rfl⟩:=ry
 exact add_str (fun t' tk=>⟨.str (i ++ j),H,I.tok _,⟨_,rfl⟩,q⟩) hz
theorem cO {x:V} {us:List δ} (r:au [x] us):∃ u,us=[u]/\ay x u:=by
 cases r with
 | cons r1 r2=>cases r2; exact ⟨_,rfl,r1⟩
theorem lY {x y:V} {us:List δ} (r:au [x,y] us):∃ u w',us=[u,w']/\ay x u/\ay y w':=by
 cases r with
 | cons r1 r2=>
  cases r2 with
  | cons r3 r4=>cases r4; exact ⟨_,_,rfl,r1,r3⟩
theorem jO (hc:X.calm=true):bU X (.builtin "max") (fun xs H Q=>∃ i j,xs=[.int i,.int j]/\Q (.int (if j > i then j else i)) H):=by
 intro pins s σ H xs us Q I r h
 obtain ⟨i,j,rfl,q⟩:=h
 obtain ⟨u,w',rfl,⟨t,rfl⟩,⟨t',rfl⟩⟩:=lY r
 refine max_two_ints (I.ok.hd hc) fun h' tk k=>⟨_,H,I.kept k,?_,q⟩
 by_cases hj:j > i
 ·rw [if_pos hj,if_pos hj]; exact ⟨_,rfl⟩
 ·rw [if_neg hj,if_neg hj]; exact ⟨_,rfl⟩
theorem dZ:bU X (.type "int") (fun xs H Q=>(∃ i,xs=[.int i]/\Q (.int i) H)\/∃ k,xs=[.bl k]/\Q (.int (if k then 1 else 0)) H):=by
 intro pins s σ H xs us Q I r h
 rcases h with ⟨i,rfl,q⟩ | ⟨k,rfl,q⟩
 ·obtain ⟨u,rfl,t,rfl⟩:=cO r
  exact call_int_int ⟨.int i,H,I,⟨_,rfl⟩,q⟩
 ·obtain ⟨u,rfl,r1⟩:=cO r
  cases r1
  exact call_int_bool ⟨.int (if k then 1 else 0),H,I.tok _,⟨_,rfl⟩,q⟩
end
structure zA (h:Heap) (x dx C:Addr) (mA:Str->Option δ):Prop where
 obj:h.get? x=some (PySem.W.instObj C dx)
 ns:h.Ns1 dx mA
 ne:dx≠x
theorem rL {h:Heap} {dx:Addr} {mA:Str->Option δ} (n:h.Ns1 dx mA):∃ od,h.get? dx=some od/\∀ name,PySem.W.lookIn name od=some (mA name):=by
 obtain ⟨o,es,ep,ho,hd,hk,_,hm⟩:=n
 refine ⟨o,ho,fun name=>?_⟩
 have e:=hm name
 unfold nsFind findBy at e
 rw [<- Array.find?_toList] at e
 unfold PySem.W.lookIn
 rw [hd]
 dsimp only
 split
 ·rename_i y q
  rw [q] at e
  exact congrArg some e
 ·rename_i q
  rw [q] at e
  have a:es.toList.any (·.refKey)=false:=by
   rw [Cp]
   intro y hy
   obtain ⟨z,t,hkey⟩:=hk y (Array.mem_toList_iff.mp hy)
   simp [Cz.refKey,hkey]
  have a':¬ es.toList.any (·.refKey)=true:=by rw [a]; exact Ι
  rw [if_neg a']
  exact congrArg some e
theorem zA.look {h:Heap} {x dx C:Addr} {mA:Str->Option δ} (I:zA h x dx C mA):∃ od,PySem.W.InstAt h x (PySem.W.instObj C dx) C (some od)/\∀ name,PySem.W.lookIn name od=some (mA name):=
 let ⟨od,ho,hl⟩:=rL I.ns
 ⟨od,⟨I.obj,rfl,rfl,ho⟩,hl⟩
section
variable {prog:Β} {w:Ξ} {A:Φ} {E:δ->ι->Prop} {s:ι} {K:PySem.W.Frag} {x dx C f:Addr} {mA:Str->Option δ} {name:Str} {v:δ}
end
theorem sJ {v:V} {u:δ} (r:ay v u):PySem.W.handedIn u=true:=by
 cases v with
 | non=>cases (show u=Ϭ from r); rfl
 | bl b=>cases (show u=Em b from r); rfl
 | int i=>obtain ⟨t,e⟩:=(show ∃ t,u=B7 i t from r); cases e; rfl
 | str x=>obtain ⟨t,e⟩:=(show ∃ t,u=ϲ x t from r); cases e; rfl
 | byt b=>obtain ⟨t,e⟩:=(show ∃ t,u=δ.bytes b t from r); cases e; rfl
 | flt b=>obtain ⟨t,e⟩:=(show ∃ t,u=δ.float b t from r); cases e; rfl
 | ref a=>cases (show u=Η a from r); rfl
 | ty n=>cases (show u=v_ n from r); rfl
section
variable {P:Β} {w:Ξ} {H H':Hp} {h h':Heap} {a C dx:Addr} {fs fs':List (Str×V)}
theorem xA (hok:HOk P w H h) (e:H a=some (.ins C dx fs)):∃ mA,zA h a dx C mA/\(∀ f,pS (fs.lookup f) (mA f))/\PySem.Within mA (fs.map (·.1))/\fs.length<=1000/\H dx=some (.own a):=by
 obtain ⟨d,z,ne,ob,mA,n,r,q⟩:=(show aV P w H h a (.ins C dx fs) from hok a _ e)
 exact ⟨mA,⟨ob,n,ne⟩,r,q,z,d⟩
end
structure Cls (K:PySem.W.Frag) (C:Addr):Prop where
 pg:PySem.W.plainGet K C Str.empty=true
 hd:PySem.W.hasDictIn K C=true
 po:PySem.W.plainOver K C=true
 sa:PySem.W.findIn K (.ref C) "__setattr__"=some (some (.builtin "object.__setattr__"))
theorem Cls.get {K:PySem.W.Frag} {C:Addr} (c:Cls K C) (f:Str):PySem.W.plainGet K C f=true:=c.pg
section
variable {X:Cx} {pins:List (Addr×Obj)} {σ:St} {H:Hp} {s:ι} {a C dx:Addr} {fs:List (Str×V)} {f:Str} {v:V} {A:Φ} {E:δ->ι->Prop}
theorem xq {prog:Β} {w:Ξ} {env:Env} {e:Expr} {f:Str} {pos:Pos} {s:ι} {Q:δ->ι->Prop} (hb:attributeBase e f env (eval e env)=eval e env)
  (h:wpAny (model prog w) A (eval e env) (fun o s₁=>wpAny (model prog w) A (getAttr o f true) Q E s₁) E s):wpAny (model prog w) A (eval (.Attribute e f pos) env) Q E s:=
 Attribute_any_ h (by rw [arm_eval_Attribute,hb])
end
section
variable {X:Cx} {o e value:Expr} {f:Str} {pos pos' tpos:Pos} {ta tv:TE}
end
section
variable {X:Cx} {pins:List (Addr×Obj)} {σ:St} {H:Hp} {s:ι} {A:Φ} {E:δ->ι->Prop} {Q:δ->ι->Prop} {c:δ} {b:Bool}
inductive fu (K:PySem.W.Frag) (H:Hp):V->δ->Prop where
 | non:fu K H .non (.type "NoneType")
 | bl (x:Bool):fu K H (.bl x) (.type "bool")
 | int (i:Int):fu K H (.int i) (.type "int")
 | str (x:Str):fu K H (.str x) (.type "str")
 | flt (x:UInt64):fu K H (.flt x) (.type "float")
 | lst {a:Addr} {xs:List V} (e:H a=some (.lst xs)):fu K H (.ref a) (.type "list")
 | frz {a:Addr} {o:Obj} {xs:List V} (e:H a=some (.frz o (.lst xs))):fu K H (.ref a) (.type "list")
 | tup {a:Addr} {xs:List V} (e:H a=some (.tup xs)):fu K H (.ref a) (.type "tuple")
 | dK {a:Addr} {kvs:List (Key×V)} (e:H a=some (.dK kvs)):fu K H (.ref a) (.type "dict")
 | dT {a:Addr} {kvs:List (List Key×V)} (e:H a=some (.dT kvs)):fu K H (.ref a) (.type "dict")
 | ins {a C dx:Addr} {fs:List (Str×V)} (e:H a=some (.ins C dx fs)) (cl:Cls K C) (ha:PySem.W.findIn K (.ref C) "__class__"=some (some (.builtin "object.__class__")))
   (hn:PySem.W.specialIn K (.builtin "object.__class__") "__get__"=some (some (.builtin "getset_descriptor.__get__"))) (htk:PySem.W.takesIn K (.builtin "object.__class__")=some true)
   (hm:PySem.W.mroIn K C (.type "object")=some true):fu K H (.ref a) (.ref C)
theorem rS {x:V} {u t:δ} (I:Inv X pins σ H s) (rx:ay x u) (ty:fu X.K H x t) (e:PySem.W.kitOne X.K t c=some b) (h:∀ tk,Q (.bool b) { s with toks:=tk }) :
  wpAny (model X.prog X.w) A (call (.builtin "isinstance") [u,c]) Q E s:=by
 cases ty with
 | non=>cases (show u=Ϭ from rx); exact PySem.W.kia_one PySem.W.kitx_none I.kIn w_ e (fun z=>nomatch z) h
 | bl y=>cases (show u=Em y from rx); exact PySem.W.kia_one PySem.W.kitx_bool I.kIn w_ e (fun z=>nomatch z) h
 | int i=>obtain ⟨t,q⟩:=(show ∃ t,u=B7 i t from rx); cases q; exact PySem.W.kia_one PySem.W.kitx_int I.kIn w_ e (fun z=>nomatch z) h
 | str y=>obtain ⟨t,q⟩:=(show ∃ t,u=ϲ y t from rx); cases q; exact PySem.W.kia_one PySem.W.kitx_str I.kIn w_ e (fun z=>nomatch z) h
 | flt y=>obtain ⟨t,q⟩:=(show ∃ t,u=δ.float y t from rx); cases q; exact PySem.W.kia_one PySem.W.kitx_float I.kIn w_ e (fun z=>nomatch z) h
 | @lst a xs ea=>
  cases (show u=Η a from rx)
  obtain ⟨_,_,n,_,h1⟩:=(show aV X.prog X.w H s.heap a (.lst xs) from I.hok a _ ea)
  exact PySem.W.kia_one PySem.W.kitx_list I.kIn ⟨_,h1,rfl⟩ e (fun z=>nomatch z) h
 | @frz a ob xs ea=>
  cases (show u=Η a from rx)
  obtain ⟨_,_,_,n,_,h1⟩:=(show aV X.prog X.w H s.heap a (.frz ob (.lst xs)) from I.hok a _ ea)
  exact PySem.W.kia_one PySem.W.kitx_list I.kIn ⟨_,h1,rfl⟩ e (fun z=>nomatch z) h
 | @tup a xs ea=>
  cases (show u=Η a from rx)
  obtain ⟨_,_,_,p⟩:=(show aV X.prog X.w H s.heap a (.tup xs) from I.hok a _ ea)
  obtain ⟨⟨o,h1,h2,_⟩,_⟩:=p
  exact PySem.W.kia_one PySem.W.kitx_tuple I.kIn ⟨o,h1,h2⟩ e (fun z=>nomatch z) h
 | @dK a kvs ea=>
  cases (show u=Η a from rx)
  obtain ⟨_,_,vs,_,p⟩:=(show aV X.prog X.w H s.heap a (.dK kvs) from I.hok a _ ea)
  obtain ⟨o,es,ep,h1,h2,_⟩:=p
  exact PySem.W.kia_one PySem.W.kitx_dict I.kIn ⟨o,h1,h2.1⟩ e (fun z=>nomatch z) h
 | @dT a kvs ea=>
  cases (show u=Η a from rx)
  obtain ⟨_,_,xs,_,o,es,ep,h1,h2,_⟩:=(show aV X.prog X.w H s.heap a (.dT kvs) from I.hok a _ ea)
  exact PySem.W.kia_one PySem.W.kitx_dict I.kIn ⟨o,h1,h2.1⟩ e (fun z=>nomatch z) h
 | @ins a C dx fs ea cl ha hn htk hm=>
  cases (show u=Η a from rx)
  obtain ⟨mA,O,_⟩:=xA I.hok ea
  obtain ⟨od,J,_⟩:=O.look
  exact PySem.W.kia_one (PySem.W.kitx_own (cl.get _) cl.hd ha hn htk hm) I.kIn J e (fun z=>nomatch z) h
end
structure bH (k:Nat) (A:Φ):Prop where
 hd:A.handled=none
 dp:A.depth + 3 * k + 5 < recursionLimit
 un:A.units + 16 * k + 200 < cLine
theorem bH.mono {j k:Nat} {A:Φ} (r:bH k A) (h:j<=k):bH j A:=⟨r.hd,by have:=r.dp; omega,by have:=r.un; omega⟩
theorem bH.deeper {k:Nat} {A:Φ} (r:bH (k + 1) A) (env:Env):bH k (A.deeper env):=
 ⟨r.hd,by have:=r.dp; show A.depth + 1 + 3 * k + 5 < _; omega,by have:=r.un; show A.units + 3 + 16 * k + 200 < _; omega⟩
theorem ph {A:Φ} {C:Addr} {us:List δ} {kw:List (Str×δ)}:(A.under (.builtin "type.__call__" ⟨.ref C :: us,kw⟩)).depth=A.depth + 1:=by
 first | rfl | simp [Φ.under,Code.weight,Code.isCreation,Code.isGuard,Code.isCaller,Code.frames,Code.isFrame,guardIds]
theorem oG {A:Φ} {C:Addr} {us:List δ} {kw:List (Str×δ)}:(A.under (.builtin "type.__call__" ⟨.ref C :: us,kw⟩)).units=A.units + 1:=by
 first | rfl | simp [Φ.under,Code.cUnits,Code.frames,Code.isFrame]
theorem bH.make {k:Nat} {A:Φ} (r:bH (k + 1) A) (C:Addr) (us:List δ) (kw:List (Str×δ)):bH k (A.under (.builtin "type.__call__" ⟨.ref C :: us,kw⟩)):=
 ⟨r.hd,by have:=r.dp; rw [ph]; omega,by have:=r.un; rw [oG]; omega⟩
theorem bH.depth {k:Nat} {A:Φ} (r:bH k A):A.depth < recursionLimit:=by have:=r.dp; omega
theorem bH.units {k:Nat} {A:Φ} (r:bH k A):A.units + 64 < cLine:=by have:=r.un; omega
def wK:TA:=fun _ H Q=>Q [] H
def rB (ta:TE) (tr:TA):TA:=fun σ H Q=>ta σ H fun x H1=>tr σ H1 fun xs H2=>Q (x :: xs) H2
section
variable {X:Cx} {e:Expr} {es:List Expr} {te:TE} {t:TA} {pos:Pos}
theorem pa_nil:PA X [] wK:=fun _ _ _ _ H Q I h=>Dy ⟨[],H,I,.nil,h⟩
theorem pa_cons (ha:PE X e te) (hr:PA X es t) (hs:starEach (e :: es) X.env=(false,eval e X.env) :: starEach es X.env:=by rfl):PA X (e :: es) (rB te t):=by
 intro pos pins s σ H Q I h
 rw [hs]
 show wpAny _ _ (spliced ((false,eval e X.env) :: backTo pos (starEach es X.env))) _ _ s
 refine Dg (thn (ha pins s σ H _ I h) fun u s1 ⟨x,H1,I1,r1,q1⟩=>?_)
 exact thn (hr pos pins s1 σ H1 _ I1 q1) fun us s2 ⟨xs,H2,I2,r2,q2⟩=>⟨x :: xs,H2,I2,.cons r1 r2,q2⟩
def zh (t:TA):TE:=fun σ H Q=>t σ H fun xs H1=>xs.length<=sizeLine/\∀ p,H1 p=none->Q (.ref p) (upd H1 p (.tup xs))
def tS (t:TA):TE:=fun σ H Q=>t σ H fun xs H1=>xs.length<=sizeLine/\∀ p,H1 p=none->Q (.ref p) (upd H1 p (.lst xs))
theorem pe_tup {x1} (h:PA X es t):PE X (.Tuple es x1 pos) (zh t):=by
 intro pins s σ H Q I hq
 refine wpAny_Tuple_spliced (thn (h pos pins s σ H _ I hq) fun us s1 ⟨xs,H1,I1,r,z,q⟩=>⟨by rw [<- r.length]; exact z,?_⟩)
 have hf:H1 s1.heap.objs.size=none:=I1.hok.fresh (τ _)
 refine ⟨.ref s1.heap.objs.size,upd H1 s1.heap.objs.size (.tup xs),I1.laid (t':=s1.toks) (fun b u e=>ν _ e) (τ _) ?_,rfl,q _ hf⟩
 exact ⟨z,us,r,⟨_,Γ _ rfl,rfl,_,rfl⟩,NoD.new _ rfl⟩
theorem pe_lst (h:PA X es t):PE X (.List es pos) (tS t):=by
 intro pins s σ H Q I hq
 refine wpAny_List_spliced (thn (h pos pins s σ H _ I hq) fun us s1 ⟨xs,H1,I1,r,z,q⟩=>⟨by rw [<- r.length]; exact z,?_⟩)
 have hf:H1 s1.heap.objs.size=none:=I1.hok.fresh (τ _)
 refine ⟨.ref s1.heap.objs.size,upd H1 s1.heap.objs.size (.lst xs),I1.laid (t':=s1.toks) (fun b u e=>ν _ e) (τ _) ?_,rfl,q _ hf⟩
 exact ⟨z,us,0,r,Γ _ rfl⟩
end
abbrev Sp:=List V->Hp->VK->XK->Prop
abbrev CXT:=List Env->Hp->ι->XK->δ->ι->Prop
structure pU (P:Β) (w:Ξ) (K:PySem.W.Frag) (mg:Str->Option δ) (base:Heap) (A:Φ) (outer:List Env) (s:ι) (H:Hp):Prop where
 frames:A.frames=some outer
 mod:Mod K mg base
 bs:∀ b o,base.get? b=some o->s.heap.get? b=some o/\H b=none
 bsz:base.objs.size<=s.heap.objs.size
 funs:s.heap.FunFrames base outer
 frf:∀ b∈frs outer,H b=none
 hok:HOk P w H s.heap
 bare:C7 s.gens
def CE (outer:List Env) (P:Β) (w:Ξ) (H:Hp) (s:ι) (Q:VK) (u:δ) (s':ι):Prop:=
 ∃ v H',s'.os=s.os/\C7 s'.gens/\Un (frs outer) [] H H' s.heap s'.heap/\HOk P w H' s'.heap/\ay v u/\Q v H'
def CR (CX:CXT) (outer:List Env) (P:Β) (w:Ξ) (H:Hp) (s:ι) (Q:VK) (E:XK) (r:DS) (s':ι):Prop:=
 match r with
 | .ok (.ret u)=>CE outer P w H s Q u s'
 | .ok _=>False
 | .error e=>CX outer H s E e s'
structure aK (P:Β) (w:Ξ) (K:PySem.W.Frag) (mg:Str->Option δ) (base:Heap) (CX:CXT) (k:Nat) (f:Addr) (fd:Μ) (ps:List Str) (sp:Sp):Prop where
 len:∀ vs H Q E,sp vs H Q E->vs.length=ps.length
 run:∀ (A:Φ) (outer:List Env) (s:ι) (H:Hp) (args:Args) (us:List δ) (vs:List V) (Q:VK) (E:XK),bH k A->pU P w K mg base A outer s H->Ek s fd args (ps.zip us)->au vs us->sp vs H Q E ->
  codeAny (model P w) A (.call (.ref f) args) (CR CX outer P w H s Q E) s
theorem aK.mono {P:Β} {w:Ξ} {K:PySem.W.Frag} {mg:Str->Option δ} {base:Heap} {CX:CXT} {j k:Nat} {f:Addr} {fd:Μ} {ps:List Str} {sp:Sp} (F:aK P w K mg base CX j f fd ps sp) (h:j<=k) :
  aK P w K mg base CX k f fd ps sp:=⟨F.len,fun A outer s H args us vs Q E hr=>F.run A outer s H args us vs Q E (hr.mono h)⟩
theorem pU.make {P:Β} {w:Ξ} {K:PySem.W.Frag} {mg:Str->Option δ} {base:Heap} {A:Φ} {outer:List Env} {s:ι} {H:Hp} (e:pU P w K mg base A outer s H) (C:Addr) (us:List δ) (kw:List (Str×δ)) :
  pU P w K mg base (A.under (.builtin "type.__call__" ⟨.ref C :: us,kw⟩)) outer s H:=⟨by first | exact e.frames | (simpa [Φ.under,Code.envs,Code.isFrame,pushEnvs] using e.frames),e.mod,e.bs,e.bsz,e.funs,e.frf,e.hok,e.bare⟩
section
variable {X:Cx} {pins:List (Addr×Obj)} {σ:St} {H:Hp} {s s':ι}
theorem Inv.env0 (I:Inv X pins σ H s):pU X.prog X.w X.K X.mg X.base X.A X.stack s H:=
 ⟨I.ok.frames,I.ok.mod,I.bs,ϔ I.ok.bsz I.sz,I.stack,I.stkFree,I.hok,I.bare⟩
theorem Inv.after {Q:VK} {u:δ} (I:Inv X pins σ H s) (h:CE X.stack X.prog X.w H s Q u s'):EP X pins σ Q u s':=by
 obtain ⟨v,H',os,bare,un,hok,r,q⟩:=h
 obtain ⟨hh,g,d,t,os'⟩:=s'
 obtain rfl:os'=s.os:=os
 exact ⟨v,H',I.call (h':=hh) (g':=g) (d':=d) (t':=t) (ch:=[]) un hok bare (fun b z=>absurd z (by simp)),r,q⟩
end
def wa (sp:Sp) (dvs:List V) (E:XK) (t:TA):TE:=fun σ H Q=>t σ H fun vs H1=>sp (vs ++ dvs) H1 Q E
def bG (K:PySem.W.Frag) (fd:Μ) (ps:List Str) (ds:List δ):Prop:=
 ∀ (s:ι) (us:List δ),K.In s.heap->(us ++ ds).length=ps.length->Ek s fd ⟨us,[]⟩ (ps.zip (us ++ ds))
theorem bG.all {K:PySem.W.Frag} {fd:Μ} {ps:List Str} (h:∀ us:List δ,us.length=ps.length->bindArgs fd ⟨us,[]⟩=pure (ps.zip us)):bG K fd ps []:=fun s us _ hl=>by
 rw [j9] at hl ⊢
 exact .of_eq (h us hl)
def kR (CX:CXT) (X:Cx) (E:XK):Prop:=∀ (pins:List (Addr×Obj)) (σ:St) (H:Hp) (s:ι) (e:δ) (s':ι),Inv X pins σ H s->CX X.stack H s E e s'->X.xe e s'
section
variable {X:Cx} {CX:CXT} {k:Nat} {f C:Addr} {fd:Μ} {ps:List Str} {sp:Sp} {dvs:List V} {ds:List δ} {E:XK} {x m:Str} {p pos apos:Pos} {e o:Expr} {es:List Expr} {ta:TE} {t:TA}
theorem tW {pins:List (Addr×Obj)} {σ:St} {H:Hp} {s:ι} {Q:VK} {us:List δ} {vs:List V} (F:aK X.prog X.w X.K X.mg X.base CX k f fd ps sp) (hr:bH k X.A) (hb:bG X.K fd ps ds) (hd:au dvs ds) (hx:kR CX X E)
  (I:Inv X pins σ H s) (r:au vs us) (h:sp (vs ++ dvs) H Q E):wpAny (model X.prog X.w) X.A (call (.ref f) us) (EP X pins σ Q) X.xe s:=by
 have r2:au (vs ++ dvs) (us ++ ds):=r.append hd
 have hl:(us ++ ds).length=ps.length:=by rw [<- r2.length]; exact F.len _ _ _ _ h
 refine CA (u8 (F.run X.A X.stack s H ⟨us,[]⟩ (us ++ ds) (vs ++ dvs) Q E hr I.env0 (hb s us I.kIn hl) r2 h) fun r s' hq=>?_)
 cases r with
 | error e=>exact hx pins σ H s e s' I hq
 | ok fl=>
  cases fl with
  | ret u=>exact I.after hq
  | next=>exact c_ hq
  | brk=>exact c_ hq
  | cont=>exact c_ hq
theorem qL (F:aK X.prog X.w X.K X.mg X.base CX k f fd ps sp) (hr:bH k X.A) (hg:Gl X x) (hm:X.mg x=some (.ref f)) (hk:PySem.W.keepIn X.K (.ref f)=true) (hb:bG X.K fd ps ds) (hd:au dvs ds) (hx:kR CX X E)
  (ha:PA X (e :: es) t) (hdb:(x == ("__debug__" : Str))=false:=by decide) (he:starEach (e :: es) X.env=(false,eval e X.env) :: starEach es X.env:=by rfl) (hpl:(backTo pos (starEach es X.env)).any (·.1)=false:=by rfl) :
  PE X (.Call (.Name x p) (e :: es) [] pos) (wa sp dvs E t):=by
 intro pins s σ H Q I h
 refine i7 (fz I hg hm ?_ hdb)
 refine PySem.W.callWith_K (h₀:=X.base) I.ok.mod.kin hk (thn (ha pos pins s σ H _ I h) fun us s1 ⟨vs,H1,I1,r,q⟩=>⟨I1.kIn,?_⟩) he hpl
 exact tW F hr hb hd hx I1 r q
end
section
variable {X:Cx} {CX:CXT} {k:Nat} {f C:Addr} {fd:Μ} {ps ks:List Str} {sp:Sp} {E:XK} {x m:Str} {p pos apos kpos:Pos} {e o:Expr} {es:List Expr} {kws:List Keyword} {te ta:TE} {t tk:TA} {nm:Option Str}
variable {g:List δ->List δ->List δ} {gV:List V->List V->List V}
end
structure ap (N P:List Str) (sc:Cm):Prop where
 kind:sc.kind=.function
 co:sc.isCoroutine=false
 gen:sc.isGenerator=false
 nd:N.Nodup
 pre:N.take P.length=P
 par:∀ x∈P,sc.names.lookup x=some .local\/sc.names.lookup x=some .cell
 nofree:∀ y∈sc.names,y.2≠.free
theorem jC {kindOf:Str->Option BY} {x:Str}:∀ {binds:List (Str×δ)} {m:Str->Option δ},(∀ v,(x,v)∉binds)->bindL kindOf binds m x=m x
 | [],_,_=>rfl
 | (n,v) :: r,m,h=>by
  unfold bindL
  rw [jC fun w hw=>h w (ο _ hw)]
  split
  ·have:x≠n:=by rintro rfl; exact h v Ε
   simp [this]
  ·rfl
theorem jW {kindOf:Str->Option BY} {x:Str}:∀ {binds:List (Str×δ)} {m:Str->Option δ},(∀ v,(x,v)∉binds)->bindC kindOf binds m x=m x
 | [],_,_=>rfl
 | (n,v) :: r,m,h=>by
  unfold bindC
  rw [jW fun w hw=>h w (ο _ hw)]
  split
  ·rfl
  ·have:x≠n:=by rintro rfl; exact h v Ε
   simp [this]
theorem jN {kindOf:Str->Option BY} {x:Str} {v:δ}:∀ {P:List Str} {vs:List δ} {i:Nat} {m:Str->Option δ},P.Nodup->P[i]?=some x->vs[i]?=some v->kindOf x=some .local ->
  bindL kindOf (P.zip vs) m x=some v
 | [],_,_,_,_,h,_,_=>by simp at h
 | _ :: _,[],_,_,_,_,h,_=>by simp at h
 | p :: P,w :: vs,0,m,nd,h1,h2,hk=>by
  simp at h1 h2; subst h1; subst h2
  show bindL kindOf ((p,w) :: P.zip vs) m p=_
  unfold bindL
  rw [jC fun v hv=>(ϱ.mp nd).1 (DW hv).1,if_pos hk]
  simp
 | p :: P,w :: vs,i + 1,m,nd,h1,h2,hk=>by
  show bindL kindOf ((p,w) :: P.zip vs) m x=_
  unfold bindL
  exact jN (i:=i) (ϱ.mp nd).2 (by simpa using h1) (by simpa using h2) hk
theorem jy {kindOf:Str->Option BY} {x:Str} {v:δ}:∀ {P:List Str} {vs:List δ} {i:Nat} {m:Str->Option δ},P.Nodup->P[i]?=some x->vs[i]?=some v->kindOf x≠some .local ->
  bindC kindOf (P.zip vs) m x=some v
 | [],_,_,_,_,h,_,_=>by simp at h
 | _ :: _,[],_,_,_,_,h,_=>by simp at h
 | p :: P,w :: vs,0,m,nd,h1,h2,hk=>by
  simp at h1 h2; subst h1; subst h2
  show bindC kindOf ((p,w) :: P.zip vs) m p=_
  unfold bindC
  rw [jW fun v hv=>(ϱ.mp nd).1 (DW hv).1,if_neg hk]
  simp
 | p :: P,w :: vs,i + 1,m,nd,h1,h2,hk=>by
  show bindC kindOf ((p,w) :: P.zip vs) m x=_
  unfold bindC
  exact jy (i:=i) (ϱ.mp nd).2 (by simpa using h1) (by simpa using h2) hk
def en (N:List Str) (vs:List V):St:=vs.map some ++ χ (N.length - vs.length) none
def de (CX:CXT) (P:Β) (w:Ξ) (K:PySem.W.Frag) (mg:Str->Option δ) (base:Heap) (N:List Str) (qual:Str) (scope:Cm) (f:Addr) (cd:δ) (A:Φ) (outer:List Env) (s:ι) (H:Hp) (E:XK):Cx where
 prog:=P
 w:=w
 K:=K
 mg:=mg
 base:=base
 A:=A.deeper (envOfC qual scope s.heap.objs.size f cd)
 N:=N
 s₀:=s
 H₀:=H
 env:=envOfC qual scope s.heap.objs.size f cd
 outer:=outer
 stack:=envOfC qual scope s.heap.objs.size f cd :: outer
 ex:=[]
 calm:=true
 fn:=fun _=>true
 pn:=[]
 xe:=fun e s'=>wpAny (model P w) (A.deeper (envOfC qual scope s.heap.objs.size f cd)) (leaving (envOfC qual scope s.heap.objs.size f cd) e) (fun _ s''=>CX outer H s E e s'') (fun e' s''=>CX outer H s E e' s'') s'
theorem mo {sc:Cm} {n:Nat} {x:Str} (h:sc.names.lookup x=some .cell):∃ c,(cellsFrom n sc.names []).lookup x=some c:=by
 have q:=PySem.W.cellsFrom_some sc.names n [] (.inl h)
 exact Option.isSome_iff_exists.mp q
theorem rQ {CX:CXT} {P:Β} {w:Ξ} {K:PySem.W.Frag} {mg:Str->Option δ} {base:Heap} {N ps:List Str} {qual:Str} {scope:Cm} {f:Addr} {cd:δ} {A:Φ} {outer:List Env} {s s1:ι} {H:Hp} {E:XK} {us:List δ} {vs:List V}
  (S:ap N ps scope) (hd:A.handled=none) (e0:pU P w K mg base A outer s H) (hl:vs.length=ps.length) (r:au vs us)
  (x:InCallC s s.heap.objs.size (bindL (envOfC qual scope s.heap.objs.size f cd).kindOf (ps.zip us) fun _=>none) (cellsFrom (s.heap.objs.size + 1) scope.names []) (bindC (envOfC qual scope s.heap.objs.size f cd).kindOf (ps.zip us) fun _=>none) s1) :
  Inv (de CX P w K mg base N qual scope f cd A outer s H E) [] (en N vs) H s1:=by
 have hpl:ps.length<=N.length:=by have:=congrArg List.length S.pre; rw [Ρ] at this; omega
 obtain ⟨h1,tk,rfl,hk⟩:=x.done
 have noA:∀ b:Addr,b∉(de CX P w K mg base N qual scope f cd A outer s H E).ex:=fun b z=>absurd (show b∈([]:List Addr) from z) (by simp)
 refine ⟨⟨e0.mod,S.kind,rfl,rfl,τ _,fun y z c h1 h2=>?_,fun y hy=>?_,fun y c _ h=>?_,fun _=>hd,Φ.frames_deeper e0.frames,.inr ⟨rfl,rfl⟩,fun b z=>absurd z (noA b),e0.bs,e0.bsz,fun b _ _=>noA b,fun b z=>absurd z (noA b),e0.funs,e0.frf⟩,
  rfl,e0.bare,Un.kept hk,⟨_,x.toInCall.ns,fun i y v h1 h2 h3=>?_⟩,fun y c h=>⟨_,x.cell y c h⟩,e0.hok.fresh (τ _),fun y c h=>?_,fun p hp=>absurd (show p∈([]:List (Addr×Obj)) from hp) (by simp),e0.hok.kept hk,?_⟩
 ·exact name_of_addr x.apart (PySem.mem_of_lookup h1) (PySem.mem_of_lookup h2)
 ·have hy:scope.names.lookup y=some .cell\/scope.names.lookup y=some .free:=hy
  rcases hy with hy | hy
  ·exact mo hy
  ·exact absurd rfl (S.nofree _ (PySem.mem_of_lookup hy))
 ·exact k9 (x.above y c (PySem.mem_of_lookup h))
 ·have hi:i < vs.length:=by
   unfold en at h2
   by_cases hi:i < vs.length
   ·exact hi
   ·rw [n_ (by simpa using hi)] at h2
    rw [List.getElem?_replicate] at h2
    split at h2 <;> cases h2
  have ha:vs[i]?=some v:=by
   unfold en at h2
   rw [B_ (by simpa using hi),Κ] at h2
   cases e:vs[i]? with
   | none=>rw [e] at h2; cases h2
   | some a=>rw [e] at h2; cases h2; rfl
  obtain ⟨u,hu,rv⟩:=r.get ha
  have hp:ps[i]?=some y:=by
   rw [<- S.pre,x4 (by omega)]; exact h1
  have ndP:ps.Nodup:=by rw [<- S.pre]; exact S.nd.sublist (Cq _ _)
  refine ⟨u,rv,?_⟩
  rcases S.par y (Α hp) with k | k
  ·exact .inl ⟨k,jN ndP hp hu k⟩
  ·obtain ⟨c,e⟩:=mo (n:=s.heap.objs.size + 1) k
   refine .inr ⟨.inl k,c,e,?_⟩
   have q:=x.cell y c e
   rw [jy ndP hp hu (by show scope.names.lookup y≠_; rw [k]; decide)] at q
   exact q
 ·exact e0.hok.fresh (k9 (x.above y c (PySem.mem_of_lookup h)))
 ·unfold en
  show _=N.length
  rw [ς,ζ,k4]
  omega
theorem vX {CX:CXT} {P:Β} {w:Ξ} {K:PySem.W.Frag} {mg:Str->Option δ} {base:Heap} {k:Nat} {f:Addr} {name qual:Str} {params:Arguments} {body:List Stmt} {scope:Cm} {dV kV doc pm cdv ct oc:δ} {an od:Option Addr}
  {osl:Array (Option δ)} {N ps:List Str} {sp:Sp} (lk:K.lookup f=some ⟨oc,od,.func (PySem.W.fnOf name qual params body scope dV kV doc pm an cdv ct),osl⟩) (hcd:PySem.W.codeIn K cdv qual=true) (S:ap N ps scope)
  (len:∀ vs H Q E,sp vs H Q E->vs.length=ps.length)
  (hbody:∀ (A:Φ) (outer:List Env) (s:ι) (H:Hp) (vs:List V) (Q:VK) (E:XK),bH k (A.deeper (envOfC qual scope s.heap.objs.size f cdv))->sp vs H Q E ->
   ∃ t,PSs (de CX P w K mg base N qual scope f cdv A outer s H E) body t/\t { nx:=fun _ H'=>Q .non H',rt:=Q } (en N vs) H) :
  aK P w K mg base CX (k + 1) f (PySem.W.fnOf name qual params body scope dV kV doc pm an cdv ct) ps sp:=by
 refine ⟨len,fun A outer s H args us vs Q E hr e0 hb r hsp=>?_⟩
 have hl:=len _ _ _ _ hsp
 have KX:K.In s.heap:=e0.mod.kin.keeps fun b o e=>(e0.bs b o e).1
 have lim:s.heap.NoLimit:=e0.mod.nolimit.keeps fun b o e=>(e0.bs b o e).1
 have hkind:∀ y∈ps.zip us,scope.names.lookup y.1=some .local\/(scope.names.lookup y.1=some .cell/\((cellsFrom (s.heap.objs.size + 1) scope.names []).lookup y.1).isSome=true):=fun ⟨n,v⟩ hy=>by
  rcases S.par n (DW hy).1 with q | q
  ·exact .inl q
  ·exact .inr ⟨q,PySem.W.cellsFrom_some _ _ _ (.inl q)⟩
 refine codeAny_call_function hr.depth (KX _ _ lk) rfl S.co S.gen rfl (PySem.W.codeRec_of KX hcd) (hb _ _ _ _ ?_)
 refine wpAny_newFunctionEnv_cells S.kind hkind fun env he s1 x=>?_
 subst he
 refine ⟨lim.keeps x.toInCall.keep,codeAny_func ?_⟩
 obtain ⟨t,ht,hq⟩:=hbody A outer s H vs Q E (hr.deeper _) hsp
 have I:Inv (de CX P w K mg base N qual scope f cdv A outer s H E) [] (en N vs) H s1:=rQ S hr.hd e0 hl r x
 refine c9 (ht [] s1 (en N vs) H _ I hq) (fun fl s' hs=>?_) fun e s' hs=>hs
 have fin:∀ {σ':St} {H':Hp} {v:V} {u:δ},Inv (de CX P w K mg base N qual scope f cdv A outer s H E) [] σ' H' s'->ay v u->Q v H'->CE outer P w H s Q u s':=
  fun {σ' H' v u} J rv q=>⟨v,H',J.os,J.bare,J.base,J.hok,rv,q⟩
 cases fl with
 | ret u=>
  obtain ⟨v,σ',H',J,rv,q⟩:=hs
  exact fin J rv q
 | next=>
  obtain ⟨σ',H',J,q⟩:=hs
  exact fin (v:=V.non) (u:=Ϭ) J rfl q
 | brk=>
  obtain ⟨_,_,_,q⟩:=hs
  exact c_ q
 | cont=>
  obtain ⟨_,_,_,q⟩:=hs
  exact c_ q
section
variable {X:Cx} {x:Str} {p pos:Pos} {e:Expr} {es:List Expr} {t:TA} {id T:String} {r:List V->Hp->VK->Prop}
def tCB (r:List V->Hp->VK->Prop) (t:TA):TE:=fun σ H Q=>t σ H fun vs H1=>r vs H1 Q
theorem pe_callB (hc:bU X (.builtin id) r) (hg:Gl X x) (hm:X.mg x=none) (hv:bootBuiltins x=some (.builtin id)) (ha:PA X (e :: es) t) (hn:x≠"__name__":=by decide) (hdb:(x == ("__debug__" : Str))=false:=by decide)
  (he:starEach (e :: es) X.env=(false,eval e X.env) :: starEach es X.env:=by rfl) (hpl:(backTo pos (starEach es X.env)).any (·.1)=false:=by rfl):PE X (.Call (.Name x p) (e :: es) [] pos) (tCB r t):=by
 intro pins s σ H Q I h
 refine i7 (cH I hg hm hv ?_ hn hdb)
 exact PyProof.Rows.callWith_builtin1 (thn (ha pos pins s σ H _ I h) fun us s1 ⟨vs,H1,I1,r1,q1⟩=>hc pins s1 σ H1 vs us Q I1 r1 q1) he hpl
theorem pe_callTy (hc:bU X (.type T) r) (hg:Gl X x) (hm:X.mg x=none) (hv:bootBuiltins x=some (.type T)) (ha:PA X (e :: es) t) (hn:x≠"__name__":=by decide) (hdb:(x == ("__debug__" : Str))=false:=by decide)
  (he:starEach (e :: es) X.env=(false,eval e X.env) :: starEach es X.env:=by rfl) (hpl:(backTo pos (starEach es X.env)).any (·.1)=false:=by rfl):PE X (.Call (.Name x p) (e :: es) [] pos) (tCB r t):=by
 intro pins s σ H Q I h
 refine i7 (cH I hg hm hv ?_ hn hdb)
 exact Ϫ (thn (ha pos pins s σ H _ I h) fun us s1 ⟨vs,H1,I1,r1,q1⟩=>hc pins s1 σ H1 vs us Q I1 r1 q1) he hpl
end
section
variable {κ:Type} [DecidableEq κ]
def dm (kvs:List (κ×V)) (k:κ):Option V:=(kvs.find? fun kv=>decide (kv.1=k)).map (·.2)
def cK (kvs:List (κ×V)) (k:κ) (v:V):List (κ×V):=
 if (kvs.any fun kv=>decide (kv.1=k))=true then kvs.map (fun kv=>if kv.1=k then (kv.1,v) else kv) else kvs ++ [(k,v)]
theorem fS {p:κ×V} {r:List (κ×V)} {k:κ} (e:p.1=k):dm (p :: r) k=some p.2:=by simp [dm,a8,e]
theorem fH {p:κ×V} {r:List (κ×V)} {k:κ} (e:¬ p.1=k):dm (p :: r) k=dm r k:=by simp [dm,a8,e]
theorem nN (k:κ):∀ kvs:List (κ×V),(kvs.any fun kv=>decide (kv.1=k))=(dm kvs k).isSome
 | []=>rfl
 | p :: r=>by
  rw [Cd]
  by_cases e:p.1=k
  ·simp only [fS e,decide_eq_true e,Bool.true_or,Option.isSome_some]
  ·rw [fH e,decide_eq_false e,x5]; exact nN k r
theorem gP (kvs:List (κ×V)) (k:κ) (v:V):(cK kvs k v).length<=kvs.length + 1:=by
 unfold cK
 split
 ·rw [ζ]; omega
 ·rw [ς,Υ,Cg]; omega
theorem pS.isSome_eq {o:Option V} {u:Option δ} (r:pS o u):o.isSome=u.isSome:=by
 cases o with
 | none=>cases u with
  | none=>rfl
  | some _=>exact (show False from r).elim
 | some _=>cases u with
  | none=>exact (show False from r).elim
  | some _=>rfl
theorem KV.val {kvs:List (κ×V)} {vs:List (κ×δ)} (r:KV kvs vs) (k:κ):pS (dm kvs k) (valueAt vs k):=by
 unfold KV at r
 induction r with
 | nil=>exact w_
 | @cons p q ps qs h t ih=>
  obtain ⟨h1,h2⟩:=h
  by_cases e:p.1=k
  ·have e':q.1=k:=h1.symm.trans e
   have b:valueAt (q :: qs) k=some q.2:=by simp [valueAt,a8,e']
   rw [fS e,b]; exact h2
  ·have e':¬ q.1=k:=fun z=>e (h1.trans z)
   have b:valueAt (q :: qs) k=valueAt qs k:=by simp [valueAt,a8,e']
   rw [fH e,b]; exact ih
theorem KV.any {kvs:List (κ×V)} {vs:List (κ×δ)} (r:KV kvs vs) (k:κ):(kvs.any fun kv=>decide (kv.1=k))=vs.any fun kv=>decide (kv.1=k):=by
 unfold KV at r
 induction r with
 | nil=>rfl
 | cons h t ih=>rw [Cd,Cd,ih,h.1]
theorem KV.repl {kvs:List (κ×V)} {vs:List (κ×δ)} (r:KV kvs vs) (k:κ) {y:V} {u:δ} (ry:ay y u) :
  KV (kvs.map fun kv=>if kv.1=k then (kv.1,y) else kv) (vs.map fun kv=>if kv.1=k then (kv.1,u) else kv):=by
 unfold KV at r ⊢
 induction r with
 | nil=>exact .nil
 | @cons p q ps qs h t ih=>
  rw [Ο,Ο]
  refine .cons ?_ ih
  obtain ⟨h1,h2⟩:=h
  by_cases e:p.1=k
  ·rw [if_pos e,if_pos (h1.symm.trans e)]; exact ⟨h1,ry⟩
  ·rw [if_neg e,if_neg (fun z=>e (h1.trans z))]; exact ⟨h1,h2⟩
theorem KV.put {kvs:List (κ×V)} {vs:List (κ×δ)} (r:KV kvs vs) (k:κ) {y:V} {u:δ} (ry:ay y u):KV (cK kvs k y) (stored vs k u):=by
 unfold cK stored
 rw [r.any k]
 by_cases e:(vs.any fun kv=>decide (kv.1=k))=true
 ·rw [if_pos e,if_pos e]; exact r.repl k ry
 ·rw [if_neg e,if_neg e]; exact Paired.snoc r ⟨rfl,ry⟩
theorem KV.keys {kvs:List (κ×V)} {vs:List (κ×δ)} (r:KV kvs vs):kvs.map (·.1)=vs.map (·.1):=by
 unfold KV at r
 induction r with
 | nil=>rfl
 | cons h t ih=>rw [Ο,Ο,ih,h.1]
theorem KV.length {kvs:List (κ×V)} {vs:List (κ×δ)} (r:KV kvs vs):kvs.length=vs.length:=Paired.length r
end
theorem jT {P:Β} {w:Ξ} {k:Key} {u:δ} (r:ay (kV k) u):(aR P w).is k u=true:=by
 cases k with
 | inl i=>obtain ⟨t,e⟩:=(show ∃ t,u=B7 i t from r); subst e; exact mR P w i t
 | inr x=>obtain ⟨t,e⟩:=(show ∃ t,u=ϲ x t from r); subst e; exact dD P w x t
theorem kf {P:Β} {w:Ξ}:∀ {ks:List Key} {us:List δ},au (ks.map kV) us->ItemsAre (aR P w) ks us
 | [],_,r=>by rw [ϡ] at r; cases r; exact .nil
 | k :: ks,_,r=>by
  rw [Ο] at r
  cases r with
  | cons h t=>exact .cons (jT h) (kf t)
abbrev KT (H:Hp):List (List Key×V)->List (List Key×Addr×δ)->Prop:=Paired fun p q=>p.1=q.1/\H q.2.1=some (.tup (p.1.map kV))/\ay p.2 q.2.2
theorem KT.val {H:Hp} {kvs:List (List Key×V)} {xs:List (List Key×Addr×δ)} (r:KT H kvs xs) (k:List Key):pS (dm kvs k) ((atKey xs k).map (·.2)):=by
 induction r with
 | nil=>exact w_
 | @cons p q ps qs h t ih=>
  obtain ⟨h1,_,h2⟩:=h
  by_cases e:p.1=k
  ·have e':q.1=k:=h1.symm.trans e
   have b:atKey (q :: qs) k=some q.2:=by simp [atKey,a8,e']
   rw [fS e,b]; exact h2
  ·have e':¬ q.1=k:=fun z=>e (h1.trans z)
   have b:atKey (q :: qs) k=atKey qs k:=by simp [atKey,a8,e']
   rw [fH e,b]; exact ih
theorem KT.repl {H:Hp} {kvs:List (List Key×V)} {xs:List (List Key×Addr×δ)} (r:KT H kvs xs) (k:List Key) {y:V} {u:δ} (ry:ay y u) :
  KT H (kvs.map fun kv=>if kv.1=k then (kv.1,y) else kv) (xs.map (putAt k u)):=by
 induction r with
 | nil=>exact .nil
 | @cons p q ps qs h t ih=>
  rw [Ο,Ο]
  refine .cons ?_ ih
  obtain ⟨h1,h2,h3⟩:=h
  unfold putAt
  by_cases e:p.1=k
  ·rw [if_pos e,if_pos (h1.symm.trans e)]; exact ⟨h1,h2,ry⟩
  ·rw [if_neg e,if_neg (fun z=>e (h1.trans z))]; exact ⟨h1,h2,h3⟩
theorem KT.put {H:Hp} {kvs:List (List Key×V)} {xs:List (List Key×Addr×δ)} (r:KT H kvs xs) (k:List Key) {b:Addr} {y:V} {u:δ} (hb:H b=some (.tup (k.map kV))) (ry:ay y u) :
  KT H (cK kvs k y) (storedH xs k b u):=by
 have e:(kvs.any fun kv=>decide (kv.1=k))=(atKey xs k).isSome:=by
  rw [nN,(r.val k).isSome_eq,A6]
 unfold cK storedH
 rw [e]
 by_cases q:(atKey xs k).isSome=true
 ·rw [if_pos q,if_pos q]; exact r.repl k ry
 ·rw [if_neg q,if_neg q]; exact Paired.snoc r ⟨rfl,hb,ry⟩
theorem KT.keeps {H H':Hp} {kvs:List (List Key×V)} {xs:List (List Key×Addr×δ)} (r:KT H kvs xs) (ht:∀ b ys,H b=some (.tup ys)->H' b=some (.tup ys)):KT H' kvs xs:=
 Paired.mapP r fun _ _ z=>⟨z.1,ht _ _ z.2.1,z.2.2⟩
section
variable {P:Β} {w:Ξ} {H:Hp} {h:Heap} {a:Addr}
theorem xV {u:HO} (ok:HOk P w H h) (e:Rd H a u):aV P w H h a u:=e.ok ok
theorem ql {kvs:List (Key×V)} (ok:HOk P w H h) (e:Rd H a (.dK kvs)):kvs.length<=sizeLine/\(a == sysModules)=false/\∃ vs,KV kvs vs/\h.DictOf (aR P w) a vs:=
 show aV P w H h a (.dK kvs) from xV ok e
theorem vS {kvs:List (Key×V)} (ok:HOk P w H h) (e:H a=some (.dK kvs)):kvs.length<=sizeLine/\(a == sysModules)=false/\∃ vs,KV kvs vs/\h.DictOf (aR P w) a vs:=ql ok (.inl e)
theorem kQ {ks:List Key} (ok:HOk P w H h) (e:H a=some (.tup (ks.map kV))):(tupleKind (aR P w)).is h ks a:=by
 obtain ⟨_,its,r,⟨o,h1,h2,n,h3⟩,_⟩:=(show aV P w H h a (.tup (ks.map kV)) from ok a _ e)
 exact ⟨o,its.toArray,n,h1,h2,h3,by simpa using kf r⟩
theorem vO {kvs:List (List Key×V)} (ok:HOk P w H h) (e:Rd H a (.dT kvs)):kvs.length<=sizeLine/\(a == sysModules)=false /\
  ∃ xs,KT H kvs xs/\h.DictOfH (tupleKind (aR P w)) a xs:=by
 obtain ⟨z,y,xs,r,o,es,ep,h1,h2,h3,h4,h5⟩:=(show aV P w H h a (.dT kvs) from xV ok e)
 refine ⟨z,y,xs,r,o,es,ep,h1,h2,h3,h4,fun x hx=>?_,h5⟩
 have all:∀ {l:List (List Key×V)} {m:List (List Key×Addr×δ)},KT H l m->∀ x∈m,(tupleKind (aR P w)).is h x.1 x.2.1:=by
  intro l m q
  induction q with
  | nil=>intro x hx; exact nomatch hx
  | @cons p q ps qs hq t ih=>
   intro x hx
   rcases θ.mp hx with e | hx
   ·subst e
    exact kQ ok (by rw [<- hq.1]; exact hq.2.1)
   ·exact ih x hx
 exact all r x hx
theorem Ba {kvs:List (List Key×V)} (ok:HOk P w H h) (e:H a=some (.dT kvs)):kvs.length<=sizeLine/\(a == sysModules)=false /\
  ∃ xs,KT H kvs xs/\h.DictOfH (tupleKind (aR P w)) a xs:=vO ok (.inl e)
end
def pC (H:Hp) (a:Addr) (y:V) (r:Option V):Prop:=
 (∃ kvs k,Rd H a (.dK kvs)/\y=kV k/\r=dm kvs k)\/∃ kvs k b,Rd H a (.dT kvs)/\y=.ref b/\H b=some (.tup (k.map kV))/\r=dm kvs k
def lW (H:Hp) (a:Addr) (y v:V) (H':Hp):Prop:=
 (∃ kvs k,H a=some (.dK kvs)/\y=kV k/\kvs.length < sizeLine/\H'=upd H a (.dK (cK kvs k v))) \/
 ∃ kvs k b,H a=some (.dT kvs)/\y=.ref b/\H b=some (.tup (k.map kV))/\kvs.length < sizeLine/\H'=upd H a (.dT (cK kvs k v))
theorem pC.k {H:Hp} {a:Addr} {kvs:List (Key×V)} {k:Key} (e:H a=some (.dK kvs)):pC H a (kV k) (dm kvs k):=.inl ⟨kvs,k,.inl e,rfl,rfl⟩
theorem lW.k {H:Hp} {a:Addr} {kvs:List (Key×V)} {k:Key} {v:V} (e:H a=some (.dK kvs)) (hl:kvs.length < sizeLine):lW H a (kV k) v (upd H a (.dK (cK kvs k v))):=.inl ⟨kvs,k,e,rfl,hl,rfl⟩
section
variable {X:Cx} {pins:List (Addr×Obj)} {σ:St} {H:Hp} {s:ι} {a:Addr} {y v:V} {u r:δ} {o:Option V} {A:Φ} {E:δ->ι->Prop}
theorem Inv.big (I:Inv X pins σ H s):sysModules < s.heap.objs.size:=by
 have h:mainGlobals < s.heap.objs.size:=(I.mod.glob.keeps I.bk).lt
 exact Nat.lt_trans (by decide) h
theorem Bj {Q:δ->ι->Prop} (hu:A.units + 1 < cLine) (I:Inv X pins σ H s) (g:pC H a y o) (ry:ay y u) (h:∀ s',Inv X pins σ H s'->Q (.bool o.isSome) s') :
  wpAny (model X.prog X.w) A (compareOp .In u (.ref a)) Q E s:=by
 rcases g with ⟨kvs,k,e,ey,l⟩ | ⟨kvs,k,b,e,ey,eb,l⟩
 ·subst ey
  obtain ⟨z,hd,vs,rel,dd⟩:=ql I.hok e
  refine wpAny_in_of (jT ry) hd dd.mapOf ?_
  rw [<- (rel.val k).isSome_eq,<- l]
  exact h _ (I.tok _)
 ·subst ey
  cases (show u=Η b from ry)
  obtain ⟨z,hd,xs,rel,dd⟩:=vO I.hok e
  refine wpAny_in_heap (Dh hu) (kQ I.hok eb) hd dd ?_
  have q:=(rel.val k).isSome_eq
  rw [A6] at q
  rw [<- q,<- l]
  exact h _ (I.tok _)
theorem xh {Q:δ->ι->Prop} (hu:A.units + 1 < cLine) (I:Inv X pins σ H s) (g:pC H a y o) (ry:ay y u) (h:∀ s',Inv X pins σ H s'->Q (.bool (!o.isSome)) s') :
  wpAny (model X.prog X.w) A (compareOp .NotIn u (.ref a)) Q E s:=by
 rcases g with ⟨kvs,k,e,ey,l⟩ | ⟨kvs,k,b,e,ey,eb,l⟩
 ·subst ey
  obtain ⟨z,hd,vs,rel,dd⟩:=ql I.hok e
  refine wpAny_notIn_of (jT ry) hd dd.mapOf ?_
  rw [<- (rel.val k).isSome_eq,<- l]
  exact h _ (I.tok _)
 ·subst ey
  cases (show u=Η b from ry)
  obtain ⟨z,hd,xs,rel,dd⟩:=vO I.hok e
  refine wpAny_notIn_heap (Dh hu) (kQ I.hok eb) hd dd ?_
  have q:=(rel.val k).isSome_eq
  rw [A6] at q
  rw [<- q,<- l]
  exact h _ (I.tok _)
theorem qp {h':Heap} {t':Nat} {ob:HO} (I:Inv X pins σ H s) (mu:Mut (H a)) (hs:y9 a s.heap h') (he:∃ q,h'.get? a=some q) (new:aV X.prog X.w (upd H a ob) h' a ob) :
  Inv X pins σ (upd H a ob) { s with heap:=h',toks:=t' }:=
 I.write (x:=a) (e:=a) mu (.inl rfl) (fun b q hb z=>(hs.2 b hb).trans z) he new
theorem zP {P:Β} {w:Ξ} {H':Hp} {h':Heap} {kvs:List (Key×V)} {vs:List (Key×δ)} (z:kvs.length<=sizeLine) (hd:(a == sysModules)=false) (rel:KV kvs vs) (dd:h'.DictOf (aR P w) a vs) :
  aV P w H' h' a (.dK kvs):=⟨z,hd,vs,rel,dd⟩
theorem sj {H':Hp} {Q:Unit->ι->Prop} (hu:A.units + 1 < cLine) (I:Inv X pins σ H s) (g:lW H a y v H') (ry:ay y u) (rv:ay v r) (h:∀ s',Inv X pins σ H' s'->Q () s') :
  wpAny (model X.prog X.w) A (setItem (.ref a) u r) Q E s:=by
 rcases g with ⟨kvs,k,e,ey,l,eH⟩ | ⟨kvs,k,b,e,ey,eb,l,eH⟩
 ·subst ey eH
  obtain ⟨z,hd,vs,rel,dd⟩:=vS I.hok e
  have hz:vs.length<=sizeLine:=by rw [<- rel.length]; exact z
  have hl:(cK kvs k v).length<=sizeLine:=by have:=gP kvs k v; omega
  refine wpAny_setItem_pairs (hsz:=hz) (jT ry) dd fun h' dd' hs=>h _ ?_
  have he:∃ q,h'.get? a=some q:=let ⟨q,_,_,hq,_⟩:=dd'; ⟨q,hq⟩
  exact qp I (by rw [e]; exact w_) hs he (zP hl hd (rel.put k rv) dd')
 ·subst ey eH
  cases (show u=Η b from ry)
  obtain ⟨z,hd,xs,rel,dd⟩:=Ba I.hok e
  have hz:xs.length<=sizeLine:=by rw [<- Paired.length rel]; exact z
  have hl:(cK kvs k v).length<=sizeLine:=by have:=gP kvs k v; omega
  refine wpAny_setItem_heap (hsz:=hz) (Dh hu) (kQ I.hok eb) dd fun h' dd' hs=>h _ ?_
  obtain ⟨q,es,ep,hq,h2,h3,h4,_,h5⟩:=dd'
  refine qp I (by rw [e]; exact w_) hs ⟨q,hq⟩ ⟨hl,hd,_,(rel.put k eb rv).keeps fun c ys ec=>?_,q,es,ep,hq,h2,h3,h4,h5⟩
  rw [ag (Av ec e (fun z=>nomatch z))]
  exact ec
end
section
variable {X:Cx} {pins:List (Addr×Obj)} {σ:St} {H:Hp} {s:ι} {a:Addr} {kvs:List (Key×V)} {k:Key} {u:δ} {A:Φ} {E:δ->ι->Prop}
theorem Be {Q:δ->ι->Prop} (I:Inv X pins σ H s) (e:Rd H a (.dK kvs)) (h:∀ t s',Inv X pins σ H s'->Q (.int kvs.length t) s'):wpAny (model X.prog X.w) A (call (.builtin "len") [.ref a]) Q E s:=by
 obtain ⟨z,hd,vs,rel,dd⟩:=ql I.hok e
 refine call_len_dict hd dd (by rw [<- rel.length]; rw [ψ] at z; omega) ?_
 rw [<- rel.length]
 exact h _ _ (I.tok _)
end
def AA (i:Expr):Prop:=∀ ov iv,subscripted i false ov iv=operate [ov,iv] (getItem ov iv)
theorem xO {prog:Β} {w:Ξ} {A:Φ} {E:δ->ι->Prop} {s:ι} {env:Env} {value slice:Expr} {pos:Pos} {T id:String} {Q:δ->ι->Prop}
  (hl:typeLookup (.type T) "__getitem__"=pure (some (.builtin id))) (hs:AA slice)
  (h:wpAny (model prog w) A (eval value env) (fun o s₁=>wpAny (model prog w) A (eval slice env) (fun i s₂=>s₂.TypeIs o T/\wpAny (model prog w) A (getItem o i) Q E s₂) E s₁) E s) :
  wpAny (model prog w) A (eval (.Subscript value slice pos) env) Q E s:=by
 refine En (c9 h (fun o s₁ h₁=>c9 h₁ (fun i s₂ h₂=>?_) fun _ _ x=>x) fun _ _ x=>x)
 obtain ⟨hT,h₂⟩:=h₂
 unfold subscriptTail
 refine γ ?_
 rw [getitemInPython_of_ne hT.not_modules]
 refine γ (DX hT hl ?_)
 have fin:wpAny (model prog w) A (subscripted slice false o i) (fun r s₃=>wpAny (model prog w) A (letTemporaryGo value o r >>= fun _=>pure r) Q E s₃) E s₂:=by
  rw [hs o i]
  exact wpAny_operating (c9 h₂ (fun r s₃ h₃=>γ (wpAny_letTemporaryGo (ξ h₃))) fun _ _ x=>x)
 first
  | exact ξ (γ fin)
  | exact γ (ξ (γ fin))
  | exact γ fin
def Ae (td ty tv:TE):TS:=fun D σ H=>tv σ H fun v H1=>td σ H1 fun x H2=>ty σ H2 fun y H3=>∃ a H4,x=.ref a/\lW H3 a y v H4/\D.nx σ H4
section
variable {X:Cx} {o i e value:Expr} {pos pos' tpos:Pos} {td ty tv:TE}
theorem ps_dput (hu:X.A.units + 1 < cLine) (ho:PE X o td) (hi:PE X i ty) (hv:PE X value tv) (hs:swapsWith value (some (.Subscript o i pos')) pos.line X.env=pure false) :
  PS X (.Assign [.Subscript o i pos'] value pos) (Ae td ty tv):=by
 intro pins s σ H D I h
 refine wpAny_Assign_Subscript (thn (hv pins s σ H _ I h) fun r s1 ⟨v,H1,I1,rv,q1⟩=>thn (ho pins s1 σ H1 _ I1 q1) fun u s2 ⟨x,H2,I2,rx,q2⟩=>thn (hi pins s2 σ H2 _ I2 q2) fun iv s3 ⟨y,H3,I3,ry,a,H4,ex,g,q3⟩=>?_) hs
 subst ex
 obtain rfl:u=Η a:=rx
 exact sj hu I3 g ry rv fun s4 I4=>⟨σ,H4,I4,q3⟩
end
theorem uY {P:Β} {w:Ξ} {H:Hp} (h:Heap) (hb:sysModules < h.objs.size):aV P w H (h.push { cls:=.type "dict",data:=.dict #[] }) h.objs.size (.dK []):=
 ⟨Χ _,beq_eq_false_iff_ne.mpr (ϊ (Τ hb)),[],.nil,Heap.DictOf.new h⟩
def zU:TE:=fun _ H Q=>∀ p,H p=none->Q (.ref p) (upd H p (.dK []))
section
variable {X:Cx} {pos:Pos}
theorem pe_dnewK:PE X (.Dict [] [] pos) zU:=fun pins s σ H Q I h=>
 wpAny_Dict_empty ⟨.ref s.heap.objs.size,_,I.laid (a:=s.heap.objs.size) (o:=.dK []) (t':=s.toks) (fun _ _ q=>ν _ q) (τ _) (uY s.heap I.big),rfl,h _ (I.hok.fresh (τ _))⟩
end
section
variable {X:Cx} {pins:List (Addr×Obj)} {σ:St} {H:Hp} {s:ι} {a:Addr} {y d:V} {u r:δ} {o:Option V} {A:Φ} {E:δ->ι->Prop}
end
section
variable {X:Cx} {o e f:Expr} {apos cpos:Pos} {td ty tx:TE}
end
section
variable {X:Cx} {pins:List (Addr×Obj)} {σ:St} {H:Hp} {s:ι} {a:Addr} {kvs:List (Key×V)} {A:Φ} {E:δ->ι->Prop}
end
section
variable {X:Cx} {pins:List (Addr×Obj)} {σ:St} {H:Hp} {s:ι} {a:Addr} {y:V} {u:δ} {A:Φ} {E:δ->ι->Prop}
end
end L2
namespace HT
open PySem PyProof.Rows
section
open PySem.SeqAt
open PySem.AutoSeq1 (wpAny_loadPart')
open PySem.MeetsSeq PySem.MeetsSeq2 PySem.MeetsSeq3
end
section
variable {prog:Β} {w:Ξ} {A:Φ} {E:δ->ι->Prop} {s:ι}
def sIx (n d:Nat):Option Int->Nat
 | none=>d
 | some v=>if v < 0 then (v + (n:Int)).toNat else min v.toNat n
theorem sIx_none (n d:Nat):sIx n d none=d:=rfl
theorem sIx_nat (n d k:Nat):sIx n d (some (k:Int))=min k n:=by
 show (if (k:Int) < 0 then ((k:Int) + (n:Int)).toNat else min (k:Int).toNat n)=min k n
 rw [if_neg (by omega),l_]
theorem zg (n d:Nat) (hd:d<=n) (o:Option Int):sIx n d o<=n:=by
 cases o with
 | none=>exact hd
 | some v=>
  show (if v < 0 then (v + (n:Int)).toNat else min v.toNat n)<=n
  by_cases hv:v < 0
  ·rw [if_pos hv]; omega
  ·rw [if_neg hv]; exact Nat.min_le_right _ _
theorem qz (v:Int) (n d:Nat):(if v < 0 then max (v + (n:Int)) 0 else min v (n:Int))=((sIx n d (some v):Nat):Int):=by
 show (if v < 0 then max (v + (n:Int)) 0 else min v (n:Int))=(((if v < 0 then (v + (n:Int)).toNat else min v.toNat n):Nat):Int)
 by_cases hv:v < 0
 ·simp only [if_pos hv]; omega
 ·simp only [if_neg hv]; omega
theorem oW (lo hi:Option Int) (n:Nat):Ca lo hi 1 (n:Int)=(((sIx n 0 lo:Nat):Int),((sIx n n hi:Nat):Int)):=by
 have h1:¬ ((1:Int) < 0):=by omega
 unfold Ca
 simp only [h1,if_false]
 refine Prod.ext ?_ ?_
 ·cases lo with
  | none=>rfl
  | some v=>exact qz v n 0
 ·cases hi with
  | none=>rfl
  | some v=>exact qz v n n
theorem pE (i j:Nat):r9 (i:Int) (j:Int) 1=j - i:=by
 unfold r9
 have h1:(1:Int) > 0:=by omega
 simp only [h1,if_true,Int.ediv_one]
 split <;> omega
theorem iy {v:δ} {o:Option Int} {Q:Option Int->ι->Prop} (p:Eo v o) (h:Q o s):wpAny (model prog w) A (Ϣ.Slice.slicePartIndex v) Q E s:=by
 cases p with
 | none=>exact slicePart_none h
 | int i t=>exact slicePart_int h
theorem sliceApplied_gen {sl:Addr} {vl vu:δ} {lo hi:Option Int} {n:Nat} {Q:Int×Int×Nat->ι->Prop} (hs:s.heap.IsSliceOf sl vl vu .none) (pl:Eo vl lo) (pu:Eo vu hi)
  (h:Q (((sIx n 0 lo:Nat):Int),1,sIx n n hi - sIx n 0 lo) s):wpAny (model prog w) A (BZ (.ref sl) (pure (n:Int))) Q E s:=by
 obtain ⟨os,hos,hcs,hds⟩:=id hs
 unfold BZ Ϣ.Slice.sliceFields
 refine γ (γ (ϣ hos hds (x:=vl) rfl (γ (ϣ hos hds (x:=vu) rfl (γ (ϣ hos hds (x:=.none) rfl (ξ ?_)))))))
 refine γ (slicePart_none ?_)
 show wpAny _ _ (if ((1:Int) == 0)=true then _ else _) _ _ s
 rw [if_neg (by decide)]
 refine γ (iy pl (γ (iy pu (γ (ξ ?_)))))
 show wpAny _ _ (match Ca lo hi 1 (n:Int) with | (lo,hi)=>pure (lo,(1:Int),r9 lo hi 1)) _ _ s
 rw [oW lo hi n]
 show wpAny _ _ (pure (((sIx n 0 lo:Nat):Int),(1:Int),r9 ((sIx n 0 lo:Nat):Int) ((sIx n n hi:Nat):Int) 1)) _ _ s
 rw [pE]
 exact ξ h
theorem pick_gen (xs:Array δ) (i k:Nat):((Ω k).filterMap fun (m:Nat)=>xs[((i:Int) + (m:Int) * 1).toNat]?).toArray=((xs.toList.drop i).take k).toArray:=by
 have e:(fun (m:Nat)=>xs[((i:Int) + (m:Int) * 1).toNat]?)=fun m=>xs[i + m]?:=by
  funext m
  have:((i:Int) + (m:Int) * 1).toNat=i + m:=by omega
  rw [this]
 rw [e]
 have:=pick_run xs i k
 rw [Di] at this
 have e2:((fun x=>xs[x]?) ∘ fun x=>i + x)=fun m=>xs[i + m]?:=rfl
 rw [e2] at this
 rw [this]
theorem getItem_tuple_cut {t sl:Addr} {items:Array δ} {vl vu:δ} {lo hi:Option Int} {Q:δ->ι->Prop} (ht:IsTup s.heap t items) (hs:s.heap.IsSliceOf sl vl vu .none) (pl:Eo vl lo) (pu:Eo vu hi)
  (hw:¬ (sIx items.size 0 lo=0/\sIx items.size items.size hi=items.size))
  (h:Q (.ref s.heap.objs.size) { s with heap:=s.heap.push { cls:=.type "tuple",data:=.seq ((items.toList.drop (sIx items.size 0 lo)).take (sIx items.size items.size hi - sIx items.size 0 lo)).toArray } })
  (hsz:items.size<=sizeLine):wpAny (model prog w) A (getItem (.ref t) (.ref sl)) Q E s:=by
 have htake:sizeOk (.seq ((items.toList.drop (sIx items.size 0 lo)).take (sIx items.size items.size hi - sIx items.size 0 lo)).toArray):=by
  show ((items.toList.drop (sIx items.size 0 lo)).take (sIx items.size items.size hi - sIx items.size 0 lo)).toArray.size<=sizeLine
  rw [ρ,Ρ,ϧ,Ϟ]
  omega
 have hj:sIx items.size items.size hi<=items.size:=zg _ _ (τ _) hi
 obtain ⟨os,hos,hcs,hds⟩:=id hs
 have hTs:s.TypeIs (.ref sl) "slice":=⟨os,hos,hcs⟩
 unfold getItem
 try with_reducible refine a7 ?_
 first | refine γ (ξ ?_) | skip
 refine γ (wpAny_sequenceKey ht.typeIs (by decide) ?_)
 refine γ (Ϸ (name:=η "__getitem__") ht.typeIs ϫ
  (a9 ϫ ht.typeIs entry_tuple_getitem ?_ (args_tuple_getitem _ _)))
 show wpAny _ _ (Dj (.ref t) >>= _) _ _ s
 refine γ (tupleItemsOf_ ht ?_)
 refine γ (C8 hTs ?_)
 rw [if_pos (by decide)]
 refine γ (sliceApplied_gen hs pl pu ?_)
 have hno:¬ ((((sIx items.size 0 lo:Nat):Int) == 0 && (1:Int) == 1 && (sIx items.size items.size hi - sIx items.size 0 lo) == items.size)=true):=by
  intro q
  rw [Θ,Θ] at q
  have q1:((sIx items.size 0 lo:Nat):Int)=0:=eq_of_beq q.1.1
  have q2:sIx items.size items.size hi - sIx items.size 0 lo=items.size:=eq_of_beq q.2
  exact hw ⟨by omega,by omega⟩
 show wpAny _ _ (if (((sIx items.size 0 lo:Nat):Int) == 0 && (1:Int) == 1 && (sIx items.size items.size hi - sIx items.size 0 lo) == items.size)=true then _ else _) _ _ s
 rw [if_neg hno,pick_gen]
 first
  | exact γ (m:=ϕ _) (ϖ (ξ ⟨_,rfl,ξ h⟩) htake)
  | exact γ (m:=ϕ _) (ϖ (γ (ξ (ξ ⟨_,rfl,ξ h⟩))) htake)
  | exact γ (γ (m:=ϕ _) (ϖ (ξ (ξ ⟨_,rfl,ξ h⟩)) htake))
  | exact γ (γ (m:=ϕ _) (ϖ (ξ ⟨_,rfl,ξ h⟩) htake))
end
end HT
namespace L2
open PySem PySem.Spec PyProof.Rows
abbrev TO:=St->Hp->(Option Int->Hp->Prop)->Prop
def PO (X:Cx) (e:Option Expr) (t:TO):Prop:=
 ∀ (pins:List (Addr×Obj)) (s:ι) (σ:St) (H:Hp) (Q:Option Int->Hp->Prop),Inv X pins σ H s->t σ H Q ->
  wpAny (model X.prog X.w) X.A (evalPart e X.env) (fun u s'=>∃ o H',Inv X pins σ H' s'/\Eo u o/\Q o H') X.xe s
def kz:TO:=fun _ H Q=>Q none H
def Ap (t:TE):TO:=fun σ H Q=>t σ H fun x H1=>∃ i,x=.int i/\Q (some i) H1
section
variable {X:Cx} {e:Expr} {te:TE} {lo hi:Option Expr} {tl th:TO} {pos p2:Pos}
theorem po_none:PO X none kz:=by
 intro pins s σ H Q I h
 rw [evalPart_none]
 exact ξ ⟨none,H,I,.none,h⟩
theorem po_some (h:PE X e te):PO X (some e) (Ap te):=by
 intro pins s σ H Q I hw
 rw [evalPart_some]
 refine thn (h pins s σ H _ I hw) fun u s1 ⟨x,H1,I1,r1,q1⟩=>?_
 obtain ⟨i,rfl,q⟩:=q1
 obtain ⟨t,rfl⟩:=r1
 exact ⟨some i,H1,I1,.int i t,q⟩
def SlR (X:Cx) (r:V->Option Int->Option Int->Hp->VK->Prop):Prop:=
 ∀ (pins:List (Addr×Obj)) (s:ι) (σ:St) (H:Hp) (x:V) (v vl vu:δ) (lo hi:Option Int) (sl:Addr) (Q:VK),Inv X pins σ H s->ay x v->s.heap.IsSliceOf sl vl vu .none->Eo vl lo->Eo vu hi->r x lo hi H Q ->
  ∃ T id,typeLookup (.type T) "__getitem__"=pure (some (.builtin id))/\s.TypeIs v T/\wpAny (model X.prog X.w) X.A (getItem v (.ref sl)) (EP X pins σ Q) X.xe s
def tSl (r:V->Option Int->Option Int->Hp->VK->Prop) (te:TE) (tl th:TO):TE:=fun σ H Q=>te σ H fun x H1=>tl σ H1 fun l H2=>th σ H2 fun u H3=>r x l u H3 Q
theorem pe_slice {r:V->Option Int->Option Int->Hp->VK->Prop} (hr:SlR X r) (he:PE X e te) (hl:PO X lo tl) (hu:PO X hi th):PE X (.Subscript e (.Slice lo hi none p2) pos) (tSl r te tl th):=by
 intro pins s σ H Q I h
 refine En (thn (he pins s σ H _ I h) fun v s1 ⟨x,H1,I1,r1,q1⟩=>?_)
 refine wpAny_Slice (thn (hl pins s1 σ H1 _ I1 q1) fun vl s2 ⟨l,H2,I2,pl,q2⟩=>thn (hu pins s2 σ H2 _ I2 q2) fun vu s3 ⟨u,H3,I3,pu,q3⟩=>?_)
 rw [evalPart_none]
 refine ξ ?_
 have I4:Inv X pins σ H3 { s3 with heap:=s3.heap.push { cls:=.type "slice",data:=.fields #[vl,vu,.none] } }:=I3.kept (t':=s3.toks) fun b ob q=>ν _ q
 obtain ⟨T,id,hT,ht,hg⟩:=hr pins { s3 with heap:=s3.heap.push { cls:=.type "slice",data:=.fields #[vl,vu,.none] } } σ H3 x v vl vu l u s3.heap.objs.size Q I4 r1 (Heap.IsSliceOf.new ..) pl pu q3
 show wpAny (model X.prog X.w) X.A (subscriptTail e (.Slice lo hi none p2) v (.ref s3.heap.objs.size)) (EP X pins σ Q) X.xe { s3 with heap:=s3.heap.push { cls:=.type "slice",data:=.fields #[vl,vu,.none] } }
 exact tail_any (ops:=[.ref s3.heap.objs.size,v]) ht hT hg (by with_unfolding_all rfl)
def aJ (xs:List V) (lo hi:Option Int):List V:=(xs.drop (HT.sIx xs.length 0 lo)).take (HT.sIx xs.length xs.length hi - HT.sIx xs.length 0 lo)
theorem dL (xs:List V) (lo hi:Option Int):(aJ xs lo hi).length<=xs.length:=by
 unfold aJ
 rw [Ρ,ϧ]
 omega
def BR (K:PySem.W.Frag):V->Option Int->Option Int->Hp->VK->Prop:=fun x lo hi H Q=>∃ a xs,x=.ref a/\SqT K H a xs /\
 ¬ (HT.sIx xs.length 0 lo=0/\HT.sIx xs.length xs.length hi=xs.length)/\∀ p,H p=none->Q (.ref p) (upd H p (.tup (aJ xs lo hi)))
theorem zy:SlR X (BR X.K):=by
 intro pins s σ H x v vl vu lo hi sl Q I rx hs pl pu h
 obtain ⟨a,xs,rfl,hx,hw,q⟩:=h
 cases rx
 obtain ⟨its,r,ht,hz⟩:=I.tuple hx
 have hlen:its.toArray.size=xs.length:=by rw [ρ]; exact r.length.symm
 refine ⟨"tuple",_,ϫ.lookup,ht.typeIs,?_⟩
 refine HT.getItem_tuple_cut ht hs pl pu (by rw [hlen]; exact hw) ?_ (by rw [hlen]; exact hz)
 rw [hlen]
 refine ⟨.ref s.heap.objs.size,_,I.laid (t':=s.toks) (o:=.tup (aJ xs lo hi)) (fun b ob q=>ν _ q) (τ _) ?_,rfl,q _ (I.hok.fresh (τ _))⟩
 exact ⟨ϔ (dL xs lo hi) hz,_,(r.drop (HT.sIx xs.length 0 lo)).take (HT.sIx xs.length xs.length hi - HT.sIx xs.length 0 lo),El _ _,NoD.new _ rfl⟩
end
def ixN (n:Nat) (i:Int):Option Nat:=if 0<=i then (if i < n then some i.toNat else none) else if -(n:Int)<=i then some (i + n).toNat else none
def atI {α:Type} (xs:List α) (i:Int):Option α:=(ixN xs.length i).bind fun j=>xs[j]?
theorem rl {n:Nat} {i:Int} {j:Nat} (h:ixN n i=some j):seqIndex? i n=some j/\j < n/\-(n:Int)<=i/\i < n:=by
 unfold ixN at h
 by_cases h0:0<=i
 ·rw [if_pos h0] at h
  by_cases h1:i < n
  ·rw [if_pos h1] at h
   have e:i.toNat=j:=ϙ h
   exact ⟨by rw [seqIndex_of h0 h1,e],by omega,by omega,h1⟩
  ·rw [if_neg h1] at h; cases h
 ·rw [if_neg h0] at h
  by_cases h1:-(n:Int)<=i
  ·rw [if_pos h1] at h
   have e:(i + n).toNat=j:=ϙ h
   exact ⟨by rw [seqIndex_neg (by omega) h1,e],by omega,h1,by omega⟩
  ·rw [if_neg h1] at h; cases h
theorem lE {α:Type} {xs:List α} {i:Int} {v:α} (h:atI xs i=some v):∃ j,seqIndex? i xs.length=some j/\xs[j]?=some v/\j < xs.length/\-(xs.length:Int)<=i/\i < xs.length:=by
 unfold atI at h
 cases e:ixN xs.length i with
 | none=>rw [e] at h; cases h
 | some j=>
  rw [e] at h
  obtain ⟨h1,h2,h3,h4⟩:=rl e
  exact ⟨j,h1,h,h2,h3,h4⟩
theorem af {α:Type} {xs:List α} {j:Nat} {v:α} (h:xs[j]?=some v):atI xs (j:Int)=some v:=by
 have hj:j < xs.length:=(π.mp h).1
 have e:ixN xs.length (j:Int)=some j:=by
  unfold ixN
  rw [if_pos (by omega),if_pos (by omega)]; simp
 unfold atI; rw [e]; exact h
theorem fK {α:Type} (xs:List α) (v:α):atI (xs ++ [v]) (-1)=some v:=by
 have hl:(xs ++ [v]).length=xs.length + 1:=by simp
 have e:ixN (xs ++ [v]).length (-1)=some xs.length:=by
  unfold ixN
  rw [hl,if_neg (by decide),if_pos (by omega)]
  congr 1
  omega
 unfold atI
 rw [e]
 show (xs ++ [v])[xs.length]?=some v
 simp
def wJ (b:Expr):Prop:=∀ o i,subscripted b false o i=operate [o,i] (getItem o i)
def IxR (X:Cx) (r:R2):Prop:=
 ∀ (value slice:Expr) (pins:List (Addr×Obj)) (s:ι) (σ:St) (H:Hp) (x y:V) (v u:δ) (Q:VK),Inv X pins σ H s->ay x v->ay y u->r x y H Q ->
  subscripted slice false v u=operate [v,u] (getItem v u)->wpAny (model X.prog X.w) X.A (subscriptTail value slice v u) (EP X pins σ Q) X.xe s
def MtR (X:Cx) (id:String) (r:V->List V->Hp->VK->Prop):Prop:=
 ∀ (pins:List (Addr×Obj)) (s:ι) (σ:St) (H:Hp) (x:V) (xs:List V) (v:δ) (us:List δ) (Q:VK),Inv X pins σ H s->ay x v->au xs us->r x xs H Q ->
  wpAny (model X.prog X.w) X.A (call (.builtin id) (v :: us)) (EP X pins σ Q) X.xe s
section
variable {X:Cx} {a b:Expr} {ta tb:TE} {pos:Pos}
theorem pe_ix {r:R2} (hr:IxR X r) (ha:PE X a ta) (hb:PE X b tb) (hs:wJ b):PE X (.Subscript a b pos) (tOp r ta tb):=by
 intro pins s σ H Q I h
 exact En (zV ha hb I h fun v u s2 x y H2 I2 rx ry q=>hr a b pins s2 σ H2 x y v u Q I2 rx ry q (hs _ _))
def oM (K:PySem.W.Frag):R2:=fun x y H Q=>∃ p xs i v,x=.ref p/\y=.int i/\SqL K H p xs/\atI xs i=some v/\Q v H
def tH (K:PySem.W.Frag):R2:=fun x y H Q=>∃ p xs i v,x=.ref p/\y=.int i/\SqT K H p xs/\atI xs i=some v/\Q v H
def Bs:R2:=fun x y H Q=>∃ z i c,x=.str z/\y=.int i/\z.length<=sizeLine/\atI z.cps.toList i=some c/\Q (.str ⟨#[c]⟩) H
theorem aH:IxR X (oM X.K):=by
 intro value slice pins s σ H x y v u Q I rx ry h hs
 obtain ⟨p,xs,i,z,rfl,rfl,hq,he,q⟩:=h
 cases rx
 obtain ⟨t,rfl⟩:=ry
 obtain ⟨its,r,pl,hz⟩:=I.list hq
 obtain ⟨j,h1,h2,h3,h4,h5⟩:=lE he
 obtain ⟨w,ew,rw'⟩:=r.get h2
 have hl:=r.length
 have hn:=fb
 have fin:EP X pins σ Q w s:=⟨z,H,I,rw',q⟩
 by_cases h0:0<=i
 ·have hj:i.toNat=j:=by
   rw [seqIndex_of h0 h5] at h1
   exact ϙ h1
  exact item_listR pl.isList h0 (by omega) (by rw [hj]; simpa using ew) fin hs
 ·have hj:(i + (its.toArray.size:Int)).toNat=j:=by
   rw [seqIndex_neg (by omega) h4] at h1
   rw [ρ,<- hl]
   exact ϙ h1
  exact subscriptTail_builtinR (x:=w) pl.isList.typeIs Dz.lookup
   (wpAny_getItem_list_neg (Q:=fun r s'=>r=w/\EP X pins σ Q r s') pl.isList (by omega) (by rw [ρ] <;> omega) (by omega) (by rw [hj]; simpa using ew) ⟨rfl,fin⟩) hs
theorem ao:IxR X (tH X.K):=by
 intro value slice pins s σ H x y v u Q I rx ry h hs
 obtain ⟨p,xs,i,z,rfl,rfl,hq,he,q⟩:=h
 cases rx
 obtain ⟨t,rfl⟩:=ry
 obtain ⟨its,r,pl,hz⟩:=I.tuple hq
 obtain ⟨j,h1,h2,h3,h4,h5⟩:=lE he
 obtain ⟨w,ew,rw'⟩:=r.get h2
 have hl:=r.length
 have hn:=fb
 have fin:EP X pins σ Q w s:=⟨z,H,I,rw',q⟩
 exact subscriptTail_builtinR (x:=w) pl.typeIs slot_tuple_getitem.lookup
  (getItem_tuple (j:=j) (Q:=fun r s'=>r=w/\EP X pins σ Q r s') pl (by omega) (by omega) (by rw [ρ,<- hl]; exact h1) (by simpa using ew) ⟨rfl,fin⟩) hs
theorem pQ:IxR X Bs:=by
 intro value slice pins s σ H x y v u Q I rx ry h hs
 obtain ⟨z,i,c,rfl,rfl,hz,he,q⟩:=h
 obtain ⟨t,rfl⟩:=rx
 obtain ⟨t',rfl⟩:=ry
 obtain ⟨j,h1,h2,h3,h4,h5⟩:=lE he
 have hl:z.cps.toList.length=z.length:=by simp [Str.length]
 rw [hl] at h1 h4 h5
 have hn:=fb
 exact tail_any (typeIs_str s z t) slot_str_getitem.lookup (getItem_str (c:=c) (by
  have e1:decide (i < -(2 ^ 63:Int))=false:=decide_eq_false (by omega)
  have e2:decide (i>=2 ^ 63)=false:=decide_eq_false (by omega)
  rw [e1,e2,Bool.or_false]) (by rw [h1]; simpa using h2) ⟨.str ⟨#[c]⟩,H,I.tok _,⟨_,rfl⟩,q⟩) hs
theorem pH (its:List δ) (n j:Nat) (u:δ):o0 (·.setIfInBounds j u) { cls:=.type "list",data:=.seq its.toArray n }={ cls:=.type "list",data:=.seq (its.set j u).toArray n }:=by
 simp [o0]
theorem Inv.lst {pins:List (Addr×Obj)} {σ:St} {H:Hp} {s:ι} {p:Addr} {xs:List V} (I:Inv X pins σ H s) (h:H p=some (.lst xs)) :
  ∃ (its:List δ) (n:Nat),au xs its/\s.heap.get? p=some { cls:=.type "list",data:=.seq its.toArray n }/\xs.length<=sizeLine:=by
 obtain ⟨z,its,n,r,e⟩:=I.hok p _ h
 exact ⟨its,n,r,e,z⟩
theorem Inv.lstUpd {pins:List (Addr×Obj)} {σ:St} {H:Hp} {s:ι} {p:Addr} {xs ys:List V} {its its':List δ} {n n':Nat} {f:Obj->Obj} (I:Inv X pins σ H s) (h:H p=some (.lst xs))
  (ho:s.heap.get? p=some { cls:=.type "list",data:=.seq its.toArray n }) (hf:f { cls:=.type "list",data:=.seq its.toArray n }={ cls:=.type "list",data:=.seq its'.toArray n' }) (r:au ys its') (hz:ys.length<=sizeLine) (t:Nat) :
  Inv X pins σ (upd H p (.lst ys)) { s with heap:=s.heap.update p f,toks:=t }:=by
 have e:(s.heap.update p f).get? p=some { cls:=.type "list",data:=.seq its'.toArray n' }:=by
  rw [Ϝ f ho (by rw [hf] <;> rfl),hf]
 refine I.write (x:=p) (e:=p) (by rw [h]; trivial) (.inl rfl) (fun b u hb q=>(ύ _ _ (ϊ hb)).trans q) ⟨_,e⟩ ?_
 exact ⟨hz,its',n',r,e⟩
def AW:V->V->V->Hp->(Hp->Prop)->Prop:=fun o i v H Q=>∃ p xs k j,o=.ref p/\i=.int k/\H p=some (.lst xs)/\ixN xs.length k=some j/\Q (upd H p (.lst (xs.set j v)))
theorem vT:Ai X AW:=by
 intro pins s σ H o i v ov iv u Q I ro ri rv h
 obtain ⟨p,xs,k,j,rfl,rfl,hp,hj,q⟩:=h
 cases ro
 obtain ⟨t,rfl⟩:=ri
 obtain ⟨its,n,r,ho,hz⟩:=I.lst hp
 obtain ⟨h1,h2,h3,h4⟩:=rl hj
 have hl:=r.length
 have hn:=fb
 have I':Inv X pins σ (upd H p (.lst (xs.set j v))) { s with heap:=s.heap.update p (o0 (·.setIfInBounds j u)) }:=
  I.lstUpd hp ho (pH its n j u) (r.set rv j) (by rw [List.length_set]; exact hz) s.toks
 by_cases h0:0<=k
 ·have hk:k.toNat=j:=by
   rw [seqIndex_of h0 h4] at h1
   exact ϙ h1
  exact PySem.W.ki_setAt ho h0 (by omega) (by rw [ρ,<- hl]; exact h4) (by rw [hk]; exact ⟨_,I',q⟩)
 ·have hk:(k + (its.toArray.size:Int)).toNat=j:=by
   rw [seqIndex_neg (by omega) h3] at h1
   rw [ρ,<- hl]
   exact ϙ h1
  exact PySem.W.ki_setBack ho (by omega) (by rw [ρ,<- hl]; exact h3) (by omega) (by rw [hk]; exact ⟨_,I',q⟩)
theorem kM (lo hi:Option Int) (n:Nat):(sliceBounds lo hi none n).1=((HT.sIx n 0 lo:Nat):Int)/\(sliceBounds lo hi none n).2.1=((HT.sIx n n hi:Nat):Int)/\(sliceBounds lo hi none n).2.2=1:=by
 refine ⟨?_,?_,rfl⟩
 ·cases lo with
  | none=>simp [sliceBounds,HT.sIx]
  | some i=>
   simp only [sliceBounds,HT.sIx,Option.getD_none,show (1:Int) > 0 by decide,if_true]
   by_cases h:i < 0
   ·simp only [h,if_true] <;> omega
   ·simp only [h,if_false] <;> omega
 ·cases hi with
  | none=>simp [sliceBounds,HT.sIx]
  | some i=>
   simp only [sliceBounds,HT.sIx,Option.getD_none,show (1:Int) > 0 by decide,if_true]
   by_cases h:i < 0
   ·simp only [h,if_true] <;> omega
   ·simp only [h,if_false] <;> omega
theorem jd (its:List δ) (lo hi:Option Int):slicePick its.toArray lo hi none=((its.drop (HT.sIx its.length 0 lo)).take (HT.sIx its.length its.length hi - HT.sIx its.length 0 lo)).toArray:=by
 obtain ⟨h1,h2,h3⟩:=kM lo hi its.toArray.size
 unfold slicePick
 rw [h1,h2,h3]
 simp only [sliceRange_one,pick_run,ρ] <;> rfl
def Bt (K:PySem.W.Frag):V->Option Int->Option Int->Hp->VK->Prop:=fun x lo hi H Q=>∃ a xs,x=.ref a/\SqL K H a xs/\∀ p,H p=none->Q (.ref p) (upd H p (.lst (aJ xs lo hi)))
theorem bz:SlR X (Bt X.K):=by
 intro pins s σ H x v vl vu lo hi sl Q I rx hs pl pu h
 obtain ⟨a,xs,rfl,hx,q⟩:=h
 cases rx
 obtain ⟨its,r,ht,hz⟩:=I.list hx
 have hlen:=r.length
 refine ⟨"list",_,Dz.lookup,ht.isList.typeIs,?_⟩
 refine wpAny_getItem_list_slice ht.isList hs pl pu .none (by simp) ?_ (by rw [ρ] <;> omega)
 rw [jd,<- hlen]
 refine ⟨.ref s.heap.objs.size,_,I.laid (t':=s.toks) (o:=.lst (aJ xs lo hi)) (fun b ob q=>ν _ q) (τ _) ?_,rfl,q _ (I.hok.fresh (τ _))⟩
 exact ⟨ϔ (dL xs lo hi) hz,_,0,(r.drop (HT.sIx xs.length 0 lo)).take (HT.sIx xs.length xs.length hi - HT.sIx xs.length 0 lo),Γ _ rfl⟩
def fM:V->Bool
 | .non=>true
 | .bl _=>true
 | .int _=>true
 | .str _=>true
 | _=>false
def eqV:V->V->Bool
 | .non,.non=>true
 | .bl a,.bl b=>a == b
 | .bl a,.int b=>(if a then 1 else 0) == b
 | .int a,.bl b=>a == (if b then 1 else 0)
 | .int a,.int b=>a == b
 | .str a,.str b=>a == b
 | _,_=>false
theorem yU {A:Φ} {s:ι} {y x:V} {u v:δ} (ry:ay y u) (rx:ay x v) (fy:fM y=true) (fx:fM x=true):ϗ A s u v (eqV y x):=by
 cases y with
 | non=>
  cases ry
  cases x with
  | non=>cases rx; exact DY _
  | bl b=>cases rx; exact ϗ.none_bool b
  | int b=>obtain ⟨t,rfl⟩:=rx; exact ϗ.none_int b t
  | str b=>obtain ⟨t,rfl⟩:=rx; exact ϗ.none_str b t
  | _=>exact absurd (show false=true from fx) Ι
 | bl a=>
  cases ry
  cases x with
  | non=>cases rx; exact ϗ.bool_none a
  | bl b=>cases rx; exact ϗ.bool_bool a b
  | int b=>obtain ⟨t,rfl⟩:=rx; exact ϗ.bool_int a b t
  | str b=>obtain ⟨t,rfl⟩:=rx; exact ϗ.bool_str a b t
  | _=>exact absurd (show false=true from fx) Ι
 | int a=>
  obtain ⟨t',rfl⟩:=ry
  cases x with
  | non=>cases rx; exact ϗ.int_none a t'
  | bl b=>cases rx; exact ϗ.int_bool a t' b
  | int b=>obtain ⟨t,rfl⟩:=rx; exact ϗ.int_int a t' b t
  | str b=>obtain ⟨t,rfl⟩:=rx; exact Db a t' b t
  | _=>exact absurd (show false=true from fx) Ι
 | str a=>
  obtain ⟨t',rfl⟩:=ry
  cases x with
  | non=>cases rx; exact ϗ.str_none a t'
  | bl b=>cases rx; exact ϗ.str_bool a t' b
  | int b=>obtain ⟨t,rfl⟩:=rx; exact Dc a t' b t
  | str b=>obtain ⟨t,rfl⟩:=rx; exact Dk a t' b t
  | _=>exact absurd (show false=true from fx) Ι
 | _=>exact absurd (show false=true from fy) Ι
def eqU (x:V) (u:δ):Bool:=match u with
 | .none=>eqV .non x
 | .bool b=>eqV (.bl b) x
 | .int i _=>eqV (.int i) x
 | .str z _=>eqV (.str z) x
 | _=>false
theorem tP {x y:V} {u:δ} (r:ay y u) (f:fM y=true):eqU x u=eqV y x:=by
 cases y with
 | non=>cases r; rfl
 | bl b=>cases r; rfl
 | int i=>obtain ⟨t,rfl⟩:=r; rfl
 | str z=>obtain ⟨t,rfl⟩:=r; rfl
 | _=>exact absurd (show false=true from f) Ι
theorem fD {x:V}:∀ {xs:List V} {us:List δ},au xs us->xs.all fM=true->us.any (eqU x)=xs.any fun y=>eqV y x
 | _,_,.nil,_=>rfl
 | y :: xs,u :: us,.cons r t,f=>by
  rw [List.all_cons,Θ] at f
  rw [Cd,Cd,tP r f.1,fD t f.2]
theorem dq {A:Φ} {s:ι} {x:V} {v:δ} (rx:ay x v) (fx:fM x=true):∀ {xs:List V} {us:List δ},au xs us->xs.all fM=true->∀ u∈us,ϗ A s u v (eqU x u)
 | _,_,.nil,_=>fun u hu=>by cases hu
 | y :: xs,u :: us,.cons r t,f=>fun u' hu=>by
  rw [List.all_cons,Θ] at f
  rcases θ.mp hu with rfl | hu
  ·rw [tP r f.1]; exact yU r rx f.1 fx
  ·exact dq rx fx t f.2 u' hu
def inV (x:V) (xs:List V):Bool:=xs.any fun y=>eqV y x
def rIn (K:PySem.W.Frag) (neg:Bool):R2:=fun x y H Q=>∃ p xs,y=.ref p/\(SqL K H p xs\/SqT K H p xs)/\fM x=true/\xs.all fM=true/\Q (.bl (if neg then !inV x xs else inV x xs)) H
theorem ka:OpR X (compareOp .In) (rIn X.K false):=by
 intro pins s σ H x y v u Q I rx ry h
 obtain ⟨p,xs,rfl,hq,fx,fs,q⟩:=h
 cases ry
 rcases hq with hq | hq
 ·obtain ⟨its,r,pl,hz⟩:=I.list hq
  refine SeqAt.in_listAt (eqU x) pl.isList (fun w hw=>dq rx fx r fs w (by simpa using hw)) ⟨.bl _,H,I,rfl,?_⟩
  rw [show its.toArray.any (eqU x)=its.any (eqU x) by simp,fD r fs]
  exact q
 ·obtain ⟨its,r,pl,hz⟩:=I.tuple hq
  refine SeqAt.in_tupleAt (eqU x) pl (fun w hw=>dq rx fx r fs w (by simpa using hw)) ⟨.bl _,H,I,rfl,?_⟩
  rw [show its.toArray.any (eqU x)=its.any (eqU x) by simp,fD r fs]
  exact q
theorem lb:OpR X (compareOp .NotIn) (rIn X.K true):=by
 intro pins s σ H x y v u Q I rx ry h
 obtain ⟨p,xs,rfl,hq,fx,fs,q⟩:=h
 cases ry
 rcases hq with hq | hq
 ·obtain ⟨its,r,pl,hz⟩:=I.list hq
  refine SeqAt.notIn_listAt (eqU x) pl.isList (fun w hw=>dq rx fx r fs w (by simpa using hw)) ⟨.bl _,H,I,rfl,?_⟩
  rw [show its.toArray.any (eqU x)=its.any (eqU x) by simp,fD r fs]
  exact q
 ·obtain ⟨its,r,pl,hz⟩:=I.tuple hq
  refine SeqAt.notIn_tupleAt (eqU x) pl (fun w hw=>dq rx fx r fs w (by simpa using hw)) ⟨.bl _,H,I,rfl,?_⟩
  rw [show its.toArray.any (eqU x)=its.any (eqU x) by simp,fD r fs]
  exact q
theorem aq:bU X (.builtin "len") (fun xs H Q=>∃ p ys,xs=[.ref p]/\(SqL X.K H p ys\/SqT X.K H p ys)/\Q (.int ys.length) H):=by
 intro pins s σ H xs us Q I r h
 obtain ⟨p,ys,rfl,hq,q⟩:=h
 obtain ⟨u,rfl,rx⟩:=cO r
 cases rx
 have hn:=fb
 rcases hq with hq | hq
 ·obtain ⟨its,r',pl,hz⟩:=I.list hq
  have hlen:=r'.length
  exact Calls.call_len_list pl.isList (by simp only [ρ] <;> omega) ⟨.int ys.length,H,I.tok _,⟨s.toks + 1,by rw [ρ,hlen]⟩,q⟩
 ·obtain ⟨its,r',pl,hz⟩:=I.tuple hq
  have hlen:=r'.length
  exact len_tuple pl (by simp only [ρ] <;> omega) ⟨.int ys.length,H,I.tok _,⟨s.toks + 1,by rw [ρ,hlen]⟩,q⟩
theorem fL:bU X (.builtin "len") (fun xs H Q=>∃ z,xs=[.str z]/\z.length<=sizeLine/\Q (.int z.length) H):=by
 intro pins s σ H xs us Q I r h
 obtain ⟨z,rfl,hz,q⟩:=h
 obtain ⟨u,rfl,t,rfl⟩:=cO r
 have hn:=fb
 exact len_str (by omega) ⟨.int z.length,H,I.tok _,⟨_,rfl⟩,q⟩
theorem fG:bU X (.type "list") (fun xs H Q=>∃ p ys,xs=[.ref p]/\(SqL X.K H p ys\/SqT X.K H p ys)/\∀ l,H l=none->Q (.ref l) (upd H l (.lst ys))):=by
 intro pins s σ H xs us Q I r h
 obtain ⟨p,ys,rfl,hq,q⟩:=h
 obtain ⟨u,rfl,rx⟩:=cO r
 cases rx
 have fin:∀ (its:List δ),au ys its->ys.length<=sizeLine->∀ (h':Heap) (c':Nat),(∀ b o',s.heap.get? b=some o'->h'.get? b=some o') ->
   h'.get? s.heap.objs.size=some { cls:=.type "list",dict:=none,data:=.seq its.toArray c',slots:=#[] }->EP X pins σ Q (.ref s.heap.objs.size) { s with heap:=h' }:=fun its r' hz h' c' kp e=>
  ⟨.ref s.heap.objs.size,_,I.laid (t':=s.toks) kp (τ _) (show aV X.prog X.w _ h' _ (.lst ys) from ⟨hz,its,c',r',e⟩),rfl,q _ (I.hok.fresh (τ _))⟩
 rcases hq with hq | hq
 ·obtain ⟨its,r',pl,hz⟩:=I.list hq
  have hlen:=r'.length
  obtain ⟨o,ho,hc,n,hd⟩:=pl.isList
  exact call_list_seq p (.inl rfl) ho hc hd (fun h' c' kp e=>fin its r' hz h' c' kp e) (by simp only [ρ] <;> omega)
 ·obtain ⟨its,r',pl,hz⟩:=I.tuple hq
  have hlen:=r'.length
  obtain ⟨o,ho,hc,n,hd⟩:=pl
  exact call_list_seq p (.inr rfl) ho hc hd (fun h' c' kp e=>fin its r' hz h' c' kp e) (by simp only [ρ] <;> omega)
theorem cD:bU X (.type "tuple") (fun xs H Q=>∃ p ys,xs=[.ref p]/\((SqL X.K H p ys/\∀ l,H l=none->Q (.ref l) (upd H l (.tup ys)))\/(SqT X.K H p ys/\Q (.ref p) H))):=by
 intro pins s σ H xs us Q I r h
 obtain ⟨p,ys,rfl,h⟩:=h
 obtain ⟨u,rfl,rx⟩:=cO r
 cases rx
 rcases h with ⟨hq,q⟩ | ⟨hq,q⟩
 ·obtain ⟨its,r',pl,hz⟩:=I.list hq
  have hlen:=r'.length
  refine call_tuple_list pl.isList (fun h' kp=>?_) (by simp only [ρ] <;> omega)
  have I1:Inv X pins σ H { s with heap:=h' }:=I.kept (t':=s.toks) kp
  have I2:Inv X pins σ (upd H h'.objs.size (.tup ys)) { s with heap:=h'.push { cls:=.type "tuple",data:=.seq its.toArray } }:=
   I1.laid (t':=s.toks) (fun b o e=>ν _ e) (τ _) (show aV X.prog X.w _ _ _ (.tup ys) from ⟨hz,its,r',El _ _,NoD.new _ rfl⟩)
  exact ⟨.ref h'.objs.size,_,I2,rfl,q _ (I1.hok.fresh (τ _))⟩
 ·obtain ⟨its,r',pl,hz⟩:=I.tuple hq
  exact call_tuple_same pl ⟨.ref p,H,I,rfl,q⟩
def tyV (K:PySem.W.Frag) (T:String) (x:V) (H:Hp):Prop:=match x with
 | .str _=>T="str"
 | .int _=>T="int"
 | .ref p=>(T="list"/\∃ xs,SqL K H p xs)\/(T="tuple"/\∃ o,K.lookup p=some o/\o.cls=.type "tuple"/\o.dict=none) \/
   (T="dict"/\((∃ kvs,H p=some (.dK kvs))\/∃ kvs,H p=some (.dT kvs)))\/(T="set"/\∃ S n,H p=some (.set S n))
 | _=>False
theorem vY {pins:List (Addr×Obj)} {σ:St} {H:Hp} {s:ι} {T:String} {x:V} {v:δ} (I:Inv X pins σ H s) (r:ay x v) (ty:tyV X.K T x H) :
  s.TypeIs v T/\∀ a,v=.ref a->∃ ob,s.heap.get? a=some ob/\ob.dict=none:=by
 cases x with
 | str z=>
  obtain ⟨t,rfl⟩:=r
  cases (show T="str" from ty)
  exact ⟨typeIs_str s z t,fun _ e=>nomatch e⟩
 | int i=>
  obtain ⟨t,rfl⟩:=r
  cases (show T="int" from ty)
  exact ⟨B0 s i t,fun _ e=>nomatch e⟩
 | ref p=>
  cases r
  rcases ty with ⟨rfl,xs,hq⟩ | ⟨rfl,o,hk,hc,hd⟩ | ⟨rfl,hk⟩ | ⟨rfl,S,n,hk⟩
  ·obtain ⟨its,_,pl,_⟩:=I.list hq
   refine ⟨pl.isList.typeIs,fun a e=>?_⟩
   cases e
   obtain ⟨o,n,e,c,hd,_⟩:=pl
   exact ⟨o,e,hd⟩
  ·refine ⟨⟨o,I.kIn p o hk,hc⟩,fun a e=>?_⟩
   cases e
   exact ⟨o,I.kIn _ o hk,hd⟩
  ·have z:∃ o,s.heap.get? p=some o/\o.ExactDict:=by
    rcases hk with ⟨kvs,hk⟩ | ⟨kvs,hk⟩
    ·obtain ⟨_,_,_,_,o,_,_,e,ex,_⟩:=I.hok p _ hk
     exact ⟨o,e,ex⟩
    ·obtain ⟨_,_,_,_,o,_,_,e,ex,_⟩:=I.hok p _ hk
     exact ⟨o,e,ex⟩
   obtain ⟨o,e,ex⟩:=z
   refine ⟨⟨o,e,ex.1⟩,fun a e2=>?_⟩
   cases e2
   exact ⟨o,e,ex.2.1⟩
  ·obtain ⟨o,_,_,_,e,ex,_⟩:=I.hok p _ hk
   refine ⟨⟨o,e,ex.1⟩,fun a e2=>?_⟩
   cases e2
   exact ⟨o,e,ex.2.1⟩
 | _=>exact c_ ty
def Bo (K:PySem.W.Frag) (T:String) (r:V->List V->Hp->VK->Prop) (to:TE):TE:=fun σ H Q=>to σ H fun x H1=>tyV K T x H1/\r x [] H1 Q
def tBM (K:PySem.W.Frag) (T:String) (r:V->List V->Hp->VK->Prop) (to:TE) (t:TA):TE:=fun σ H Q=>to σ H fun x H1=>tyV K T x H1/\t σ H1 fun xs H2=>r x xs H2 Q
variable {o e:Expr} {es:List Expr} {to:TE} {t:TA} {name:Str} {apos cpos:Pos} {T id:String} {r:V->List V->Hp->VK->Prop}
theorem pe_bm0 (pa:PlainAttrs T) (slot:Slot T name id) (hty:typeOf (.builtin id)=pure (.type "method_descriptor")) (hm:MtR X id r) (ho:PE X o to)
  (hbase:attributeBase o name X.env (eval o X.env)=eval o X.env:=by rfl) (hline:(apos.endLine == cpos.line)=true:=by rfl):PE X (.Call (.Attribute o name apos) [] [] cpos) (Bo X.K T r to):=by
 intro pins s σ H Q I h
 refine wpAny_Call_method0_late hbase hline (thn (ho pins s σ H _ I h) fun v s1 ⟨x,H1,I1,r1,ty,q1⟩=>?_)
 obtain ⟨h1,h2⟩:=vY I1 r1 ty
 exact ⟨T,id,pa,slot,hty,h1,h2,Cr rfl (PySem.evalArgs_none (hm pins s1 σ H1 x [] v [] Q I1 r1 .nil q1))⟩
theorem pe_bm (pa:PlainAttrs T) (slot:Slot T name id) (hty:typeOf (.builtin id)=pure (.type "method_descriptor")) (hm:MtR X id r) (ho:PE X o to) (ha:PA X (e :: es) t)
  (hbase:attributeBase o name X.env (eval o X.env)=eval o X.env:=by rfl)
  (hfew:((backTo cpos (starEach (e :: es) X.env)).all (fun x=>!x.1) && (backToKw cpos (keywordEach [] X.env)).all (fun x=>x.1.isSome)
   && decide ((e :: es).length + ([]:List Keyword).length + (if ([]:List Keyword).isEmpty then 0 else 1) < 30))=true:=by rfl)
  (hline:(apos.endLine == cpos.line)=true:=by rfl) (hs:starEach (e :: es) X.env=(false,eval e X.env) :: starEach es X.env:=by rfl) (hplain:(backTo cpos (starEach es X.env)).any (·.1)=false:=by rfl) :
  PE X (.Call (.Attribute o name apos) (e :: es) [] cpos) (tBM X.K T r to t):=by
 intro pins s σ H Q I h
 refine wpAny_Call_method_late hbase hfew hline rfl (thn (ho pins s σ H _ I h) fun v s1 ⟨x,H1,I1,r1,ty,q1⟩=>?_)
 obtain ⟨h1,h2⟩:=vY I1 r1 ty
 refine ⟨T,id,pa,slot,hty,h1,h2,?_⟩
 have hA:=ha cpos pins s1 σ H1 _ I1 q1
 rw [hs] at hA ⊢
 refine Cr (by show (false || (backTo cpos (starEach es X.env)).any (·.1))=false; rw [hplain] <;> rfl) (Calls.evalArgs_plain ?_)
 exact thn hA fun us s2 ⟨vs,H2,I2,r2,q2⟩=>hm pins s2 σ H2 x vs v us Q I2 r1 r2 q2
end
def MtM (X:Cx) (id:String) (r:V->List V->Hp->VK->Prop):Prop:=
 ∀ (pins:List (Addr×Obj)) (s:ι) (σ:St) (H:Hp) (x:V) (xs:List V) (v:δ) (us:List δ) (Q:VK),Inv X pins σ H s->ay x v->au xs us->r x xs H Q ->
  wpAny (model X.prog X.w) X.A (call (.builtin id) (v :: us)) (EP X pins σ Q) X.xe s
theorem au.one:∀ {x:V} {us:List δ},au [x] us->∃ u,us=[u]/\ay x u
 | _,_,.cons r .nil=>⟨_,rfl,r⟩
theorem au.zero:∀ {us:List δ},au [] us->us=[]
 | _,.nil=>rfl
theorem au.dropLast {xs:List V} {us:List δ} (h:au xs us):au xs.dropLast us.dropLast:=by
 induction h with
 | nil=>exact .nil
 | cons r t ih=>
  cases t with
  | nil=>exact .nil
  | cons q t'=>exact .cons r ih
theorem au.reverse {xs:List V} {us:List δ} (h:au xs us):au xs.reverse us.reverse:=by
 induction h with
 | nil=>exact .nil
 | cons r t ih=>rw [DA,DA]; exact au.append ih (.cons r .nil)
theorem au.rep {xs:List V} {us:List δ} (h:au xs us):∀ k:Nat,au (χ k xs).flatten (χ k us).flatten
 | 0=>.nil
 | k + 1=>by
  rw [d_,d_,A7,A7]
  exact au.append h (au.rep h k)
theorem pG {α:Type} (l:List α):l.eraseIdx (l.length - 1)=l.dropLast:=by
 induction l with
 | nil=>rfl
 | cons a r ih=>
  cases r with
  | nil=>rfl
  | cons b r=>
   have e:(a :: b :: r).length - 1=((b :: r).length - 1) + 1:=by
    have h1:(a :: b :: r).length=r.length + 2:=rfl
    have h2:(b :: r).length=r.length + 1:=rfl
    omega
   rw [e,List.eraseIdx_cons_succ,ih]
   all_goals rfl
theorem fV (its:List δ):∀ (k:Nat) (acc:List δ),
  DT (fun x1 x2=>x1 ++ x2) acc.toArray (χ k its.toArray)=(acc ++ (χ k its).flatten).toArray
 | 0,acc=>by simp
 | k + 1,acc=>by
  have e:acc.toArray ++ its.toArray=(acc ++ its).toArray:=by simp
  have e2:(acc ++ its) ++ (χ k its).flatten=acc ++ (χ (k + 1) its).flatten:=by
   rw [d_,A7,DB]
  rw [<- e2,<- fV its k (acc ++ its),<- e,d_,List.foldl_cons]
section
variable {X:Cx} {pins:List (Addr×Obj)} {σ:St} {H:Hp} {s:ι} {l b:Addr} {xs ys zs:List V}
theorem Inv.lset {its its':List δ} {n:Nat} {f:Array δ->Array δ} {t':Nat} (I:Inv X pins σ H s) (hH:H l=some (.lst xs))
  (e:s.heap.get? l=some { cls:=.type "list",data:=.seq its.toArray n }) (hf:f its.toArray=its'.toArray) (hv:au ys its') (hz:ys.length<=sizeLine) :
  Inv X pins σ (upd H l (.lst ys)) { s with heap:=s.heap.update l (o0 f),toks:=t' }:=by
 have q:=PySem.IsL.update e f
 rw [hf] at q
 refine I.write (x:=l) (e:=l) (by rw [hH]; exact trivial) (.inl rfl) (fun b' u hb hu=>(ύ s.heap (o0 f) (ϊ hb)).trans hu) ⟨_,q⟩ ?_
 exact ⟨hz,its',_,hv,q⟩
theorem Inv.lnew {its:List δ} {t':Nat} (I:Inv X pins σ H s) (hv:au ys its) (hz:ys.length<=sizeLine) :
  Inv X pins σ (upd H s.heap.objs.size (.lst ys)) { s with heap:=s.heap.push { cls:=.type "list",data:=.seq its.toArray },toks:=t' }:=
 I.laid (fun _ _ q=>ν _ q) (τ _) ⟨hz,its,0,hv,Γ _ rfl⟩
theorem Inv.fresh (I:Inv X pins σ H s):H s.heap.objs.size=none:=I.hok.fresh (τ _)
theorem Inv.lstM (I:Inv X pins σ H s) (hH:H l=some (.lst xs)):xs.length<=sizeLine/\∃ (its:List δ) (n:Nat),au xs its/\xs.length=its.length/\s.heap.get? l=some { cls:=.type "list",data:=.seq its.toArray n }:=by
 obtain ⟨z,its,n,r,e⟩:=I.hok l _ hH
 exact ⟨z,its,n,r,r.length,e⟩
theorem iJ {n:Nat} (h:n<=sizeLine):i3 n=false:=by
 unfold i3
 exact decide_eq_false (by omega)
end
section
variable {X:Cx}
def qY:V->List V->Hp->VK->Prop:=fun x vs H Q=>∃ l xs y,x=.ref l/\vs=[y]/\H l=some (.lst xs)/\xs.length < sizeLine/\Q .non (upd H l (.lst (xs ++ [y])))
theorem bg:MtM X "list.append" qY:=by
 intro pins s σ H x vs v us Q I rx rv h
 obtain ⟨l,xs,y,rfl,rfl,hH,hz,q⟩:=h
 cases rx
 obtain ⟨u,rfl,ru⟩:=rv.one
 obtain ⟨z,its,n,r,hl,e⟩:=I.lstM hH
 refine j4 F.slot_list_append ⟨_,e,rfl⟩ F.entry_list_append (F.args_list_append_2 _ _) (PySem.list_append l its.toArray n u (by rw [ρ]; omega)) ⟨e,?_⟩
 refine ⟨.non,_,I.lset (its':=its ++ [u]) hH e (by simp) (r.append (.cons ru .nil)) ?_,rfl,q⟩
 rw [ς,ϐ]
 omega
def xH:V->List V->Hp->VK->Prop:=fun x vs H Q=>∃ l b xs zs,x=.ref l/\vs=[.ref b]/\H l=some (.lst xs)/\H b=some (.lst zs)/\xs.length + zs.length<=sizeLine/\Q .non (upd H l (.lst (xs ++ zs)))
theorem gj:MtM X "list.extend" xH:=by
 intro pins s σ H x vs v us Q I rx rv h
 obtain ⟨l,b,xs,zs,rfl,rfl,hH,hB,hz,q⟩:=h
 cases rx
 obtain ⟨u,rfl,ru⟩:=rv.one
 cases ru
 obtain ⟨z,its,n,r,hl,e⟩:=I.lstM hH
 obtain ⟨z2,its2,n2,r2,hl2,e2⟩:=I.lstM hB
 have hsz:its.toArray.size + its2.toArray.size<=sizeLine:=by rw [ρ,ρ]; omega
 have hlong:¬ (!its.toArray.isEmpty && i3 (its.toArray.size + its2.toArray.size))=true:=by
  rw [iJ hsz,Ec]
  exact Ι
 refine j4 F.slot_list_extend ⟨_,e,rfl⟩ F.entry_list_extend (F.args_list_extend_2 _ _)
  (AutoSeq1.list_extend_list_list_0 l its.toArray n b its2.toArray n2 hlong (by rw [ρ]; omega) (by omega)) ⟨e,e2,?_⟩
 refine ⟨.non,_,I.lset (its':=its ++ its2) hH e (by simp) (r.append r2) ?_,rfl,q⟩
 rw [ς]
 omega
def BC:V->List V->Hp->VK->Prop:=fun x vs H Q=>∃ l xs y,x=.ref l/\vs=[]/\H l=some (.lst xs)/\xs[xs.length - 1]?=some y/\Q y (upd H l (.lst xs.dropLast))
theorem ia:MtM X "list.pop" BC:=by
 intro pins s σ H x vs v us Q I rx rv h
 obtain ⟨l,xs,y,rfl,rfl,hH,hy,q⟩:=h
 cases rx
 have hus:=rv.zero
 subst hus
 obtain ⟨z,its,n,r,hl,e⟩:=I.lstM hH
 obtain ⟨u,hu,ru⟩:=r.get hy
 have hy':its.toArray[its.toArray.size - 1]?=some u:=by
  show its.toArray[its.length - 1]?=some u
  rw [<- Array.getElem?_toList,<- hl]
  exact hu
 refine j4 F.slot_list_pop ⟨_,e,rfl⟩ F.entry_list_pop (F.args_list_pop_1 _) (MeetsSeq.list_pop_last l its.toArray n u hy' (by rw [ρ]; omega)) ⟨e,?_⟩
 refine ⟨y,_,I.lset (its':=its.dropLast) hH e ?_ r.dropLast ?_,ru,q⟩
 ·show its.toArray.eraseIdxIfInBounds (its.toArray.size - 1)=its.dropLast.toArray
  rw [ρ,List.eraseIdxIfInBounds_toArray,pG]
 ·rw [List.length_dropLast]
  omega
def uM:V->List V->Hp->VK->Prop:=fun x vs H Q=>∃ l xs,x=.ref l/\vs=[]/\H l=some (.lst xs)/\Q .non (upd H l (.lst xs.reverse))
theorem oN:MtM X "list.reverse" uM:=by
 intro pins s σ H x vs v us Q I rx rv h
 obtain ⟨l,xs,rfl,rfl,hH,q⟩:=h
 cases rx
 have hus:=rv.zero
 subst hus
 obtain ⟨z,its,n,r,hl,e⟩:=I.lstM hH
 refine j4 F.slot_list_reverse ⟨_,e,rfl⟩ F.entry_list_reverse (F.args_list_reverse_1 _) (AutoSeq1.list_reverse_list_0 l its.toArray n (by rw [ρ]; omega)) ⟨e,?_⟩
 refine ⟨.non,_,I.lset (its':=its.reverse) hH e (by simp) r.reverse ?_,rfl,q⟩
 rw [Ϥ]
 omega
def yS:R2:=fun x y H Q=>∃ l b xs zs,x=.ref l/\y=.ref b/\H l=some (.lst xs)/\H b=some (.lst zs)/\xs.length + zs.length<=sizeLine/\∀ p,H p=none->Q (.ref p) (upd H p (.lst (xs ++ zs)))
theorem gA:OpR X (binaryOp .Add) yS:=by
 intro pins s σ H x y v u Q I rx ry h
 obtain ⟨l,b,xs,zs,rfl,rfl,hH,hB,hz,q⟩:=h
 cases rx
 cases ry
 obtain ⟨z,its,n,r,hl,e⟩:=I.lstM hH
 obtain ⟨z2,its2,n2,r2,hl2,e2⟩:=I.lstM hB
 refine PySem.P.add_list e e2 ?_ (by rw [ρ,ρ]; omega)
 have ea:its.toArray ++ its2.toArray=(its ++ its2).toArray:=by simp
 rw [ea]
 exact ⟨.ref _,_,I.lnew (t':=s.toks) (r.append r2) (by rw [ς]; omega),rfl,q _ I.fresh⟩
def BL:R2:=fun x y H Q=>∃ l k xs,x=.ref l/\y=.int k/\H l=some (.lst xs)/\-(2 ^ 63)<=k/\k < 2 ^ 63/\xs.length * k.toNat<=sizeLine /\
 ∀ p,H p=none->Q (.ref p) (upd H p (.lst (χ k.toNat xs).flatten))
theorem len_rep {α:Type} (xs:List α) (k:Nat):(χ k xs).flatten.length=k * xs.length:=by
 induction k with
 | zero=>simp
 | succ k ih=>rw [d_,A7,ς,ih,Nat.succ_mul,Nat.add_comm]
theorem oC:OpR X (binaryOp .Mult) BL:=by
 intro pins s σ H x y v u Q I rx ry h
 obtain ⟨l,k,xs,rfl,rfl,hH,h1,h2,hz,q⟩:=h
 cases rx
 obtain ⟨t,rfl⟩:=ry
 obtain ⟨z,its,n,r,hl,e⟩:=I.lstM hH
 have hlen:its.toArray.size * k.toNat<=sizeLine:=by rw [ρ,<- hl]; exact hz
 have hcap:¬ its.toArray.size * k.toNat > (2 ^ 63 - 1) / 8:=by
  have:(sizeLine:Nat)<=(2 ^ 63 - 1) / 8:=by decide
  omega
 have hfit:¬ (!Builtin.List.listFitsIndex k)=true:=by
  rw [fitsIndex_both h1 h2]
  exact Ι
 have hlong:¬ i3 (its.toArray.size * k.toNat)=true:=by
  rw [iJ hlen]
  exact Ι
 have hnew:DT (fun x1 x2=>x1 ++ x2) #[] (χ (if its.toArray.isEmpty=true then 0 else k.toNat) its.toArray)=(χ k.toNat its).flatten.toArray:=by
  have f0:∀ m:Nat,DT (fun x1 x2=>x1 ++ x2) #[] (χ m its.toArray)=(χ m its).flatten.toArray:=fun m=>by
   have:=fV its m []
   rw [CT] at this
   exact this
  rw [f0]
  cases its with
  | nil=>simp
  | cons a r'=>rw [if_neg (by simp)]
 refine r_ (T:="list") (U:="int") (by decide) ⟨_,e,rfl⟩ (fun s'=>B0 s' k t) noFill_list_mul CU m5 repeat_list CB.lookup
  (j4 m5 (B0 s k t) CC (Cs _ _) (int___rmul___int_list k t l its.toArray n)
   ⟨e,rfl,⟨_,e,rfl⟩,j4 F.slot_list_mul ⟨_,e,rfl⟩ F.entry_list_mul (F.args_list_mul_2 _ _) (AutoListH.list___mul___list_int_3 l its.toArray n k t hfit hcap hlong) ⟨e,?_⟩⟩)
 rw [hnew]
 exact ⟨.ref _,_,I.lnew (t':=s.toks) (r.rep k.toNat) (by rw [len_rep,Nat.mul_comm]; exact hz),rfl,q _ I.fresh⟩
end
section
variable {prog:Β} {w:Ξ} {A:Φ} {E:δ->ι->Prop} {s:ι}
end
section
variable {X:Cx}
end
end L2
namespace Att
open PySem PySem.W PySem.Calls PyProof.Rows
theorem gY {P:Params} {h:Heap}:∀ (ns:List Int) (vs:List δ),WellAll P h vs (ns.map WData.int)->IntsAre vs ns:=by
 intro ns
 induction ns with
 | nil=>
  intro vs w
  rw [ϡ] at w
  cases w
  exact .nil
 | cons n ns ih=>
  intro vs w
  rw [Ο] at w
  cases w with
  | cons a b=>
   cases a
   exact .cons _ _ (ih _ b)
theorem rY {l:OpenLaw} {n:Nat} (hn:l.most=some n) {P:Params} {h:Heap} {args:List WData} {vals:List δ}
  (hpre:l.row.toRowW.claim.pre args=true) (hwl:WellAll P h vals args) :
  ∃ a vs ns,vals=[Η a]/\args=[WData.list (ns.map WData.int)]/\h.get? a=some { cls:=.type "list",data:=.seq vs.toArray }/\IntsAre vs ns/\ns.length<=n:=by
 have hsh:WShape.hasAll [] args [.list .int]=true:=(pre_splitW hpre).1
 have hc:l.pre.holds [] { args:=args }=true:=(pre_splitW hpre).2
 obtain ⟨d,r,rfl,h1,h2⟩:=hasAllW_cons hsh
 obtain rfl:=hasAllW_nil h2
 obtain ⟨xs,rfl,h3⟩:=hasW_list h1
 obtain ⟨ns,rfl⟩:=items_int h3
 have hlen:ns.length<=n:=by
  unfold OpenLaw.pre at hc
  have h4:(WTm.not (.lt (.lit (.int (n:Int))) (.len (.arg 0)))).holds [] { args:=[.list (ns.map .int)] }=true:=by
   have h4:=(holds_andW hc).1
   rw [hn] at h4
   exact h4
  have h5:=condW_of h4 (w_not (w_lt w_lit (w_len_list (w_arg rfl))))
  rw [ζ] at h5
  refine Nat.le_of_not_lt fun q=>?_
  have q':(n:Int) < ((ns.length:Nat):Int):=by omega
  first
   | (rw [decide_eq_true q'] at h5; exact absurd h5 (by decide))
   | (simp at h5; omega)
 cases hwl with
 | cons w1 w2=>
  cases w2
  cases w1 with
  | list ho hall=>exact ⟨_,_,ns,rfl,rfl,ho,gY ns _ hall,hlen⟩
theorem sk (l:OpenLaw) (args:List WData):l.row.toRowW.claim.post args (.bool true) args=true:=
 postW_of (r:=l.row.toRowW) (X:=(true == true))
  (show WShape.has [] (.bool true) .bool=true by first | rfl | decide | simp [WShape.has,WShape.arms,WShape.armsAll])
  (show (WTm.eq .res (.lit (.bool true))).value [] { args:=args,res:=some (.bool true),after:=args }=some (.bool (true == true)) from w_eq_bool (w_res rfl) w_lit) rfl
theorem attach_call {l:OpenLaw} {n:Nat} {q:Β} {loose:List Str} {XP:(Str->Option δ)->Heap->Prop} {YP:Ξ->Heap->Prop} {d:DefRec}
  (hn:l.most=some n) (hdf:d.params.defaults=[])
  (call:∀ (w:Ξ) (s₀ s₁:ι) (mg mb:Str->Option δ) (fa:Addr) (o:Obj) (pm cd doc:δ) (a:Addr) (vs:List δ) (ns:List Int),
   Ground q loose [] XP w s₀ mg mb s₁.heap->YP w s₁.heap ->
   s₁.heap.get? fa=some o->o.data=.func (docDef d.name d.params d.body d.scope pm cd doc)->s₁.heap.CodeRec cd d.name->mg d.name=some (.ref fa) ->
   s₁.heap.get? a=some { cls:=.type "list",data:=.seq vs.toArray }->IntsAre vs ns->ns.length<=n->s₁.gens=#[] ->
   codeAny (model l.prog w) callerA (.call (.ref fa) ⟨[.ref a],[]⟩) (fun r s'=>r=.ok (.ret (.bool true))/\OldK s₁.heap s'.heap/\s'.os=s₁.os/\C7 s'.gens) s₁) :
  WalkO q loose XP YP l.row.toRowW d [] (fun f vs=>PySem.call f vs):=by
 intro w s₀ s₁ mg mb G Y fa o pm cd doc dV kV ho hd hcd hD hmg hg args vals as hpre hlay hrd hwl hlo
 obtain rfl:dV=.none:=Dflts.none hD hdf
 obtain rfl:kV=.none:=Dflts.noKw hD
 obtain ⟨a,vs,ns,rfl,rfl,hobj,hints,hlen⟩:=rY hn hpre hwl
 refine enter_call (u8 (call w s₀ s₁ mg mb fa o pm cd doc a vs ns G Y ho (fd_plain hd) hcd hmg hobj hints hlen hg) fun r s' hq=>?_)
 obtain ⟨rfl,h2,h3,h4⟩:=hq
 exact ⟨.inl ⟨.bool true,.bool true,[],rfl,fun _=>rfl,.bool true,sk l _,fun _=>⟨DH.nil,fun _ hm=>(nomatch hm)⟩⟩,h2,h3,h4⟩
section
variable {prog:Β} {w:Ξ} {A:Φ} {E:δ->ι->Prop} {s:ι} {K:Frag}
def noObjs (h:Heap):Heap:={ h with objs:=#[] }
theorem noObjs_get (h:Heap) (b:Addr):(noObjs h).get? b=none:=by
 cases e:(noObjs h).get? b with
 | none=>rfl
 | some o=>exact absurd (υ e) (A3 _)
theorem fr_all {h:Heap} {L:Addr} {m:Str->Option δ} (n:h.Ns L m):Fr (noObjs h) L h m:=
 ⟨n,fun b o e=>(by rw [noObjs_get] at e; cases e),Χ _⟩
end
end Att
namespace L2
open PySem PySem.Spec PyProof.Rows
theorem jS:∀ {vs:List δ} {ns:List Int},IntsAre vs ns->au (ns.map V.int) vs
 | _,_,.nil=>.nil
 | _,_,.cons n t h=>.cons ⟨t,rfl⟩ (jS h)
def zE (H:Hp):Prop:=∀ b,H b=none\/∃ o xs,H b=some (.frz o (.lst xs))
theorem uC {P:Β} {w:Ξ} {K:PySem.W.Frag} {mg mb:Str->Option δ} {CX:CXT} {k:Nat} {fa a:Addr} {fd:Μ} {x:Str} {sp:Sp} {s₁:ι} {vs:List δ} {ns:List Int}
  (KX:K.In s₁.heap) (hns:s₁.heap.Ns mainGlobals mg) (hb:s₁.heap.Ns builtinsNs mb) (hbb:∀ x:Str,x≠"__name__"->mb x=bootBuiltins x) (hlim:s₁.heap.NoLimit) (hg:s₁.gens=#[])
  (ha:s₁.heap.get? a=some { cls:=.type "list",data:=.seq vs.toArray }) (hi:IntsAre vs ns) (hl:ns.length<=sizeLine) (hr:bH k callerA)
  (F:∀ base:Heap,K.In base->base.Ns mainGlobals mg->aK P w K mg base CX k fa fd [x] sp) (hbind:∀ (s:ι) (u:δ),Ek s fd ⟨[u],[]⟩ [(x,u)])
  (hsp:∀ H:Hp,zE H->SqL K H a (ns.map V.int)->sp [.ref a] H (fun v _=>v=.bl true) fun _ _ _=>False)
  (hCX:∀ H e s',CX [] H s₁ (fun _ _ _=>False) e s'->False) :
  codeAny (model P w) callerA (.call (.ref fa) ⟨[.ref a],[]⟩) (fun r s'=>r=.ok (.ret (.bool true))/\OldK s₁.heap s'.heap/\s'.os=s₁.os/\C7 s'.gens) s₁:=by
 have rv:=jS hi
 have lenV:=hi.length
 have core:∀ H:Hp,zE H->SqL K H a (ns.map V.int)->HOk P w H s₁.heap->(∀ b,H b≠none->b=a)->(H a≠none->K.lookup a=none) ->
   codeAny (model P w) callerA (.call (.ref fa) ⟨[.ref a],[]⟩) (fun r s'=>r=.ok (.ret (.bool true))/\OldK s₁.heap s'.heap/\s'.os=s₁.os/\C7 s'.gens) s₁:=by
  intro H hO hS hok hA hK
  have base_of:∀ {b:Addr} {o:Obj},s₁.heap.get? b=some o->H b=none->(kO s₁.heap H).get? b=some o:=fun e n=>uD e n
  have noA:∀ {b:Addr} {o:Obj} {es:Array Cz} {ep:Nat},s₁.heap.get? b=some o->o.data=.dict es ep->H b=none:=fun {b o es ep} e d=>by
   cases q:H b with
   | none=>rfl
   | some u=>
    have e':b=a:=hA b (by rw [q]; simp)
    subst e'
    rw [ha] at e; cases e
    have d':Data.seq vs.toArray _=Data.dict es ep:=d
    cases d'
  have nsK:∀ {b:Addr} {m:Str->Option δ},s₁.heap.Ns b m->(kO s₁.heap H).Ns b m:=fun {b m} ⟨o,es,ep,e,d,r⟩=>⟨o,es,ep,base_of e (noA e d),d,r⟩
  have hKb:K.In (kO s₁.heap H):=fun b o e=>base_of (KX b o e) (by
   cases q:H b with
   | none=>rfl
   | some u=>
    have e':b=a:=hA b (by rw [q]; simp)
    subst e'
    rw [hK (by rw [q]; simp)] at e; cases e)
  have hM:Mod K mg (kO s₁.heap H):=⟨hKb,nsK hns,⟨mb,nsK hb,hbb⟩,let ⟨mc,h1,h2⟩:=hlim; ⟨mc,nsK h1,h2⟩⟩
  have e0:pU P w K mg (kO s₁.heap H) callerA [] s₁ H:=⟨rfl,hM,fun b o e=>wP e,Nat.le_of_eq (sv _ _),trivial,fun b hb=>absurd (show b∈([]:List Addr) from hb) (by simp),hok,.of_eq hg⟩
  refine u8 ((F _ hKb (nsK hns)).run callerA [] s₁ H ⟨[.ref a],[]⟩ [.ref a] [.ref a] _ _ hr e0 (hbind s₁ (.ref a)) (.cons rfl .nil) (hsp H hO hS)) fun r s' h=>?_
  cases r with
  | error e=>exact (hCX H e s' h).elim
  | ok fl=>
   cases fl with
   | next=>exact c_ h
   | brk=>exact c_ h
   | cont=>exact c_ h
   | ret u=>
    obtain ⟨v,H',os,bare,un,hok',r',q⟩:=h
    have q':v=.bl true:=q
    subst q'
    obtain rfl:u=Em true:=r'
    refine ⟨rfl,OldK.of_keep fun b o e=>?_,os,bare⟩
    cases q:H b with
    | none=>exact un.keep b o e q (by intro z; exact absurd (show b∈([]:List Addr) from z) (by simp)) (by simp)
    | some u=>
     rcases hO b with z | ⟨ob,xs,z⟩
     ·rw [q] at z; cases z
     ·have z2:=un.frzs b ob _ z
      obtain ⟨e1,_⟩:=hok b _ z
      obtain ⟨e2,_⟩:=hok' b _ z2
      rw [e] at e1; cases e1
      exact e2
 cases hk:K.lookup a with
 | some o=>
  have e:=KX a o hk
  rw [ha] at e
  cases e
  refine core (fun _=>none) (fun _=>.inl rfl) (.inr ⟨_,vs.toArray,_,hk,rfl,rfl,rfl,by rw [ρ,lenV]; exact hl,by simpa using rv⟩) (fun b u z=>by have z':(none:Option HO)=some u:=z; cases z') (fun b z=>absurd rfl z) fun z=>absurd rfl z
 | none=>
  refine core (fun b=>if b=a then some (.frz { cls:=.type "list",data:=.seq vs.toArray } (.lst (ns.map V.int))) else none) (fun b=>?_) (.inl (.inr ⟨{ cls:=.type "list",data:=.seq vs.toArray },if_pos rfl⟩)) (fun b u z=>?_) (fun b z=>?_) fun _=>hk
  ·by_cases hb:b=a
   ·exact .inr ⟨_,_,if_pos hb⟩
   ·exact .inl (if_neg hb)
  ·by_cases hb:b=a
   ·have z':=(if_pos hb).symm.trans z
    cases z'
    subst hb
    exact ⟨ha,by rw [ζ]; exact hl,vs,_,rv,ha⟩
   ·have z':=(if_neg hb).symm.trans z
    cases z'
  ·by_cases hb:b=a
   ·exact hb
   ·exact absurd (if_neg hb) z
theorem walk_of {l:PySem.W.OpenLaw} {n k:Nat} {q:Β} {loose:List Str} {XP:(Str->Option δ)->Heap->Prop} {YP:Ξ->Heap->Prop} {d:DefRec} {K:Params->PySem.W.Frag} {CX:Ξ->CXT} {sp:Ξ->Sp} {x:Str}
  (hn:l.most=some n) (hn2:n<=sizeLine) (hdf:d.params.defaults=[]) (hr:bH k callerA)
  (hY:∀ (w:Ξ) (h:Heap),YP w h->(K w.params).In h)
  (F:∀ (w:Ξ) (mg:Str->Option δ) (fa:Addr) (h:Heap),(K w.params).In h->h.Ns mainGlobals mg->mg d.name=some (.ref fa) ->
   ∃ fd:Μ,(∀ (s:ι) (u:δ),Ek s fd ⟨[u],[]⟩ [(x,u)]) /\
    ∀ base:Heap,(K w.params).In base->base.Ns mainGlobals mg->aK l.prog w (K w.params) mg base (CX w) k fa fd [x] (sp w))
  (hsp:∀ (w:Ξ) (H:Hp) (a:Addr) (ns:List Int),ns.length<=n->zE H->SqL (K w.params) H a (ns.map V.int)->sp w [.ref a] H (fun v _=>v=.bl true) fun _ _ _=>False)
  (hCX:∀ (w:Ξ) (H:Hp) (s:ι) (e:δ) (s':ι),CX w [] H s (fun _ _ _=>False) e s'->False) :
  PySem.W.WalkO q loose XP YP l.row.toRowW d [] (fun f vs=>PySem.call f vs):=by
 refine Att.attach_call hn hdf fun w s₀ s₁ mg mb fa o pm cd doc a vs ns G Y ho hd hcd hmg hobj hints hlen hg=>?_
 have KX:=hY w _ Y
 obtain ⟨fd,hb,hF⟩:=F w mg fa _ KX G.T.g hmg
 exact uC KX G.T.g G.T.b G.T.builtins G.T.nolimit hg hobj hints (ϔ hlen hn2) hr hF hb (fun H hO hS=>hsp w H a ns hlen hO hS) fun H e s'=>hCX w H s₁ e s'
def bR (s:Stmt):Arguments:=match s with
 | .FunctionDef _ a _ _ _ _ _ _ _ _=>a
 | _=>{ posonlyargs:=[],args:=[],vararg:=none,kwonlyargs:=[],kw_defaults:=[],kwarg:=none,defaults:=[] }
def bA (s:Stmt):List Stmt:=match s with
 | .FunctionDef _ _ b _ _ _ _ _ _ _=>b
 | _=>[]
def ai (s:Stmt):Cm:=match s with
 | .FunctionDef _ _ _ _ _ _ sc _ _ _=>sc
 | _=>{ kind:=.function,names:=[],isGenerator:=false,isCoroutine:=false }
abbrev CX0:CXT:=fun _ _ _ _ _ _=>False
abbrev E0:XK:=fun _ _ _=>False
theorem yh {X:Cx}:kR CX0 X E0:=fun _ _ _ _ _ _ _ h=>h.elim
structure Fun (K:PySem.W.Frag) (x qual:Str) (st:Stmt) (f:Addr) (fd:Μ):Prop where
 ex:∃ (oc:δ) (od:Option Addr) (kV doc pm:δ) (an:Option Addr) (cdv ct:δ) (osl:Array (Option δ)),
  fd=PySem.W.fnOf x qual (bR st) (bA st) (ai st) .none kV doc pm an cdv ct/\K.lookup f=some ⟨oc,od,.func fd,osl⟩/\PySem.W.codeIn K cdv qual=true
 kp:PySem.W.keepIn K (.ref f)=true
section
variable {P:Β} {w:Ξ} {K:PySem.W.Frag} {mg:Str->Option δ} {base:Heap}
theorem Fun.ok {x qual:Str} {st:Stmt} {f:Addr} {fd:Μ} {N ps:List Str} {k:Nat} {sp:Sp} (F:Fun K x qual st f fd) (S:ap N ps (ai st)) (len:∀ vs H Q E,sp vs H Q E->vs.length=ps.length)
  (hbody:∀ (cdv:δ) (A:Φ) (outer:List Env) (s:ι) (H:Hp) (vs:List V) (Q:VK) (E:XK),bH k (A.deeper (envOfC qual (ai st) s.heap.objs.size f cdv))->sp vs H Q E ->
   ∃ t,PSs (de CX0 P w K mg base N qual (ai st) f cdv A outer s H E).nox (bA st) t/\t { nx:=fun _ H'=>Q .non H',rt:=Q } (en N vs) H):aK P w K mg base CX0 (k + 1) f fd ps sp:=by
 obtain ⟨oc,od,kV,doc,pm,an,cdv,ct,osl,rfl,lk,hcd⟩:=F.ex
 refine vX lk hcd S len fun A outer s H vs Q E hr hsp=>?_
 obtain ⟨t,h,q⟩:=hbody cdv A outer s H vs Q E hr hsp
 exact ⟨t,h.nox,q⟩
theorem Fun.binds {x qual:Str} {st:Stmt} {f:Addr} {fd:Μ} {ps:List Str} (F:Fun K x qual st f fd)
  (h:∀ (kV doc pm:δ) (an:Option Addr) (cdv ct:δ) (us:List δ),us.length=ps.length->bindArgs (PySem.W.fnOf x qual (bR st) (bA st) (ai st) .none kV doc pm an cdv ct) ⟨us,[]⟩=pure (ps.zip us)):bG K fd ps []:=by
 obtain ⟨oc,od,kV,doc,pm,an,cdv,ct,osl,rfl,lk,hcd⟩:=F.ex
 exact .all (h kV doc pm an cdv ct)
theorem yH {x qual:Str} {st:Stmt} {f:Addr} {oc:δ} {od an:Option Addr} {osl:Array (Option δ)} {kV doc pm cdv ct:δ} (l:K.lookup f=some ⟨oc,od,.func (PySem.W.fnOf x qual (bR st) (bA st) (ai st) .none kV doc pm an cdv ct),osl⟩)
  (c:PySem.W.codeIn K cdv qual=true) (k:PySem.W.keepIn K (.ref f)=true):Fun K x qual st f (PySem.W.fnOf x qual (bR st) (bA st) (ai st) .none kV doc pm an cdv ct):=⟨⟨oc,od,kV,doc,pm,an,cdv,ct,osl,rfl,l,c⟩,k⟩
end
theorem nX {A:Φ} {k:Nat} (hr:bH k A):A.units + 1 < cLine:=Dl (Nat.add_le_add_left (by decide:1<=64) _) hr.units
theorem jv {n:Nat} (h:n<=1000):n < sizeLine:=Dl h (by decide)
section
variable {X:Cx}
theorem pv (i:Nat) {x:Str} {pos:Pos} (hN:X.N[i]?=some x:=by rfl) (hv:Vis X.env.scope x:=by first | exact Λ rfl | exact CV (Λ rfl) | exact CV (CV rfl)) (hd:(x == ("__debug__" : Str))=false:=by decide)
  (hcd:(x == ("__classdict__" : Str))=false:=by decide):PE X (.Name x pos) (fw i):=vG hN hv hd hcd
end
theorem aA {A B:Prop} (h:B):if false=true then A else B:=by
 rw [if_neg Ι]
 exact h
theorem av {A B:Prop} (h:A):if true=true then A else B:=by
 rw [if_pos rfl]
 exact h
theorem aQ {c A B:Prop} [Decidable c] (h1:c->A) (h2:¬ c->B):if c then A else B:=by
 by_cases h:c
 ·rw [if_pos h]
  exact h1 h
 ·rw [if_neg h]
  exact h2 h
theorem yk {c A B:Prop} [Decidable c] (hc:c) (h:B):if (!decide c)=true then A else B:=by
 rw [decide_eq_true hc]
 exact aA h
def ad (H H':Hp):Prop:=∀ b o,H b=some o->H' b=some o
theorem ad.refl (H:Hp):ad H H:=fun _ _ h=>h
theorem ad.trans {H H1 H2:Hp} (a:ad H H1) (b:ad H1 H2):ad H H2:=fun c o h=>b c o (a c o h)
theorem ad.free {H H':Hp} (e:ad H H') {l:Addr} (h:H' l=Option.none):H l=Option.none:=by
 cases q:H l with
 | none=>rfl
 | some o=>
  rw [e l o q] at h
  cases h
theorem ad.seq {K:PySem.W.Frag} {H H':Hp} {a:Addr} {xs:List V} (e:ad H H') (h:SqL K H a xs):SqL K H' a xs:=by
 rcases h with (h | ⟨o,h⟩) | h
 ·exact .inl (.inl (e _ _ h))
 ·exact .inl (.inr ⟨o,e _ _ h⟩)
 ·exact .inr h
section
variable {κ:Type} [DecidableEq κ]
end
theorem xJ {prog:Β} {w:Ξ} {A:Φ} {R:DS->ι->Prop} {s:ι} {elt target iter:Expr} {ifs:List Expr} {scope:Cm} {pos:Pos} {it acc:δ} {env:Env} (I:Nat->ι->Prop)
  (turn:∀ n s,I n s->wpAny (model prog w) A (pyNext it) (fun r s₁=>match r with
   | none=>R (.ok .next) s₁
   | some v=>wpAny (model prog w) A (letOwnedTupleGo target it v) (fun _ s₁'=>wpAny (model prog w) A (assign target env v) (fun _ s₂=>
     wpAny (model prog w) A (forIn ifs true fun c r=>if r=true then do let ok <- isTrue c env (eval c env); pure (A4 ok) else pure (A4 r)) (fun ok s₃=>
      if ok=true then wpAny (model prog w) A (eval elt env) (fun x s₄=>
       wpAny (model prog w) A (call (.builtin "list.append") [acc,x]) (fun _ s₅=>∃ m,m < n/\I m s₅) (fun _ _=>False) s₄) (fun _ _=>False) s₃
      else ∃ m,m < n/\I m s₃) (fun _ _=>False) s₂) (fun _ _=>False) s₁') (fun _ _=>False) s₁) (fun _ _=>False) s)
  (n:Nat) (h:I n s) :
  codeAny (model prog w) A (.compLoop (.ListComp elt [⟨target,iter,ifs,0⟩] scope pos) 0 it acc env) R s:=by
 refine codeAny_loop rfl I (fun n s hI=>?_) n h
 show wpAny _ A ((compTurn (.ListComp elt [⟨target,iter,ifs,0⟩] scope pos) 0 it acc env).onRaise (fun x=>do noteFrame x env; theTreesLotGoes x)) _ _ s
 refine wpAny_noted ?_
 rw [compTurn_list]
 have no:∀ {E:δ->ι->Prop} (x:δ) (s:ι),False->E x s:=fun _ _ z=>z.elim
 refine γ (CL (γ (c9 (turn n s hI) (fun r s₁ h₁=>?_) no)))
 cases r with
 | none=>exact ξ h₁
 | some v=>
  refine γ (c9 h₁ (fun _ s₁' h₁'=>?_) no)
  refine γ (c9 h₁' (fun _ s₂ h₂=>γ (c9 h₂ (fun ok s₃ h₃=>?_) no)) no)
  cases ok with
  | false=>exact ξ ⟨rfl,h₃⟩
  | true=>
   exact γ (γ (c9 h₃ (fun x s₄ h₄=>γ (c9 h₄ (fun _ s₅ h₅=>ξ (ξ ⟨rfl,h₅⟩)) no)) no))
def aW (env:Env):List (Str×BY)->List (Str×Addr)->List (Str×Addr)
 | [],acc=>acc
 | (n,k) :: r,acc=>if k=.free then aW env r (match env.cells.lookup n with | some c=>(n,c) :: acc | none=>acc) else aW env r acc
theorem mM {env:Env} {scope:Cm} (h:∀ x∈scope.names,x.2=.free->∃ c,env.cells.lookup x.1=some c):closureFor scope env=pure (aW env scope.names []):=by
 have all:∀ (l:List (Str×BY)) (acc:List (Str×Addr)),(∀ x∈l,x.2=ό->∃ c,env.cells.lookup x.1=some c) ->
   (forIn l acc fun x cs=>(do
    if x.2 == ό then
     let a <- cellOf env x.1
     pure (A4 ((x.1,a) :: cs))
    else pure (A4 cs):Sem _))=pure (aW env l acc):=by
  intro l
  induction l with
  | nil=>intro acc _; rfl
  | cons x r ih=>
   intro acc hl
   obtain ⟨n,k⟩:=x
   have hr:=fun y hy=>hl y (ο _ hy)
   rw [DZ]
   by_cases hk:k=.free
   ·subst hk
    obtain ⟨c,hc⟩:=hl (n,.free) Ε rfl
    simp only [beq_self_eq_true,if_true,aW]
    have e:cellOf env n=pure c:=by unfold cellOf; rw [show env.cells.lookup n=some c from hc]
    rw [e]
    simp only [pure_bind]
    rw [ih _ hr,show env.cells.lookup n=some c from hc]
   ·have hb:(k == ό)=false:=by simpa using hk
    simp only [hb,Dm,if_false,aW,if_neg hk,pure_bind]
    exact ih _ hr
 unfold closureFor
 exact (congrArg (fun t:Sem (List (Str×Addr))=>t >>= pure) (all scope.names [] h)).trans (by simp)
theorem bi {env:Env}:∀ (l:List (Str×BY)) (acc:List (Str×Addr)),(∀ n c,acc.lookup n=some c->env.cells.lookup n=some c)->∀ n c,(aW env l acc).lookup n=some c->env.cells.lookup n=some c
 | [],acc,h,n,c,e=>h n c e
 | (m,k) :: r,acc,h,n,c,e=>by
  unfold aW at e
  split at e
  ·refine bi r _ ?_ n c e
   intro n' c' e'
   split at e'
   ·rename_i c0 hc0
    rw [ϭ] at e'
    split at e'
    ·rename_i hb
     have:n'=m:=by simpa using hb
     subst this
     cases e'
     exact hc0
    ·exact h n' c' e'
   ·exact h n' c' e'
  ·exact bi r _ h n c e
theorem cY {env:Env} {n:Str}:∀ (l:List (Str×BY)) (acc:List (Str×Addr)),(∃ c,acc.lookup n=some c)->∃ c,(aW env l acc).lookup n=some c
 | [],acc,h=>h
 | (m,k) :: r,acc,h=>by
  unfold aW
  split
  ·refine cY r _ ?_
   obtain ⟨c,hc⟩:=h
   split
   ·rw [ϭ]
    split
    ·exact ⟨_,rfl⟩
    ·exact ⟨c,hc⟩
   ·exact ⟨c,hc⟩
  ·exact cY r _ h
theorem ce {env:Env} {n:Str} (hc:∃ c,env.cells.lookup n=some c):∀ (l:List (Str×BY)) (acc:List (Str×Addr)),(n,ό)∈l->∃ c,(aW env l acc).lookup n=some c
 | [],_,h=>by cases h
 | (m,k) :: r,acc,h=>by
  obtain ⟨c,hc⟩:=hc
  unfold aW
  rcases θ.mp h with e | h
  ·cases e
   rw [if_pos rfl,hc]
   exact cY r _ ⟨c,by simp⟩
  ·split
   ·exact ce ⟨c,hc⟩ r _ h
   ·exact ce ⟨c,hc⟩ r _ h
def Cx.comp (X:Cx) (N:List Str) (scope:Cm) (fp:List Addr) (s:ι) (H:Hp):Cx where
 prog:=X.prog
 w:=X.w
 K:=X.K
 mg:=X.mg
 base:=X.base
 A:=X.A
 N:=N
 s₀:=s
 H₀:=H
 env:=compEnvC scope (aW X.env scope.names []) (s.heap.objs.size + 1) X.env
 outer:=X.stack
 stack:=X.stack
 ex:=fp
 calm:=X.calm
 fn:=fun _=>false
 pn:=[]
 xe:=fun _ _=>False
def cA (k:Nat) (ix:List Nat) (σ:St):St:=χ k none ++ ix.map fun j=>(σ[j]?).join
structure cy (N:List Str) (sc:Cm) (scope:Cm) (own:List Str) (ix:List Nat):Prop where
 kind:scope.kind=.function
 nocell:∀ y∈scope.names,y.2≠.cell
 names:∀ y∈scope.names,y.2=.local->scope.names.lookup y.1=some .local
 free:∀ y∈scope.names,y.2=.free->sc.names.lookup y.1=some .cell\/sc.names.lookup y.1=some .free
 cap:∀ j∈ix,∀ x,N[j]?=some x->(x,ό)∈scope.names/\(scope.names.lookup x=some .free)
 inN:∀ j∈ix,j < N.length
abbrev lcN (N own:List Str) (ix:List Nat):List Str:=own ++ ix.filterMap fun j=>N[j]?
theorem wu {N own:List Str} {ix:List Nat} (h:∀ j∈ix,j < N.length):(lcN N own ix).length=own.length + ix.length:=by
 unfold lcN
 rw [ς]
 congr 1
 induction ix with
 | nil=>rfl
 | cons j r ih=>
  have hj:j < N.length:=h j Ε
  rw [c6,Ζ hj]
  show _ + 1=_ + 1
  rw [ih fun i hi=>h i (ο _ hi)]
theorem eG {N:List Str}:∀ {ix:List Nat},(∀ j∈ix,j < N.length)->∀ {i:Nat} {x:Str},(ix.filterMap fun j=>N[j]?)[i]?=some x->∃ j,ix[i]?=some j/\N[j]?=some x
 | [],_,i,x,e=>by simp at e
 | j :: r,h,i,x,e=>by
  have hj:j < N.length:=h j Ε
  rw [c6,Ζ hj] at e
  cases i with
  | zero=>
   refine ⟨j,rfl,?_⟩
   rw [Ζ hj]
   exact e
  | succ i=>
   obtain ⟨j',e1,e2⟩:=eG (fun i hi=>h i (ο _ hi)) (i:=i) (x:=x) (by simpa using e)
   exact ⟨j',by simpa using e1,e2⟩
theorem jp {k:Nat} {ix:List Nat} {σ:St} {i:Nat} {v:V} (h:(cA k ix σ)[i]?=some (some v)):∃ i' j,i=k + i'/\ix[i']?=some j/\σ[j]?=some (some v):=by
 unfold cA at h
 by_cases hi:i < k
 ·rw [B_ (by simpa using hi),List.getElem?_replicate,if_pos hi] at h
  cases h
 ·rw [n_ (by simpa using hi),k4,Κ] at h
  refine ⟨i - k,?_⟩
  cases e:ix[i - k]? with
  | none=>rw [e] at h; cases h
  | some j=>
   rw [e] at h
   refine ⟨j,by omega,rfl,?_⟩
   have h':(σ[j]?).join=some v:=by simpa using h
   cases q:σ[j]? with
   | none=>rw [q] at h'; cases h'
   | some o=>
    rw [q] at h'
    exact congrArg some h'
theorem ca {env:Env} {x:Str}:∀ {names:List (Str×BY)},names.lookup x=some .free ->
  (names.map fun (n,k)=>if (k == ό && env.scope.kind == .function && env.kindOf n == some .cell) then (n,i_) else (n,k)).lookup x=some .cell \/
  (names.map fun (n,k)=>if (k == ό && env.scope.kind == .function && env.kindOf n == some .cell) then (n,i_) else (n,k)).lookup x=some .free
 | [],h=>by simp at h
 | (n,k) :: r,h=>by
  have ih:=@ca env x r
  rw [Ο]
  show DC x ((if (k == ό && env.scope.kind == .function && env.kindOf n == some .cell)=true then (n,i_) else (n,k)) :: _)=_\/DC x ((if (k == ό && env.scope.kind == .function && env.kindOf n == some .cell)=true then (n,i_) else (n,k)) :: _)=_
  cases hx:x == n with
  | true=>
   simp only [ϭ,hx] at h
   cases h
   by_cases hc:(ό == ό && env.scope.kind == .function && env.kindOf n == some .cell)=true
   ·rw [if_pos hc]; left; simp only [ϭ,hx]
   ·rw [if_neg hc]; right; simp only [ϭ,hx]
  | false=>
   simp only [ϭ,hx] at h
   by_cases hc:(k == ό && env.scope.kind == .function && env.kindOf n == some .cell)=true
   ·rw [if_pos hc]; simp only [ϭ,hx]; exact ih h
   ·rw [if_neg hc]; simp only [ϭ,hx]; exact ih h
theorem bW {env:Env} {x:Str} {kd:BY}:∀ {names:List (Str×BY)},
  (names.map fun (n,k)=>if (k == ό && env.scope.kind == .function && env.kindOf n == some .cell) then (n,i_) else (n,k)).lookup x=some kd->(kd=.cell\/kd=.free)->(∀ y∈names,y.2≠.cell) ->
  (x,ό)∈names
 | [],h,_,_=>by simp at h
 | (n,k) :: r,h,hk,hc=>by
  have ih:=@bW env x kd r
  rw [Ο] at h
  have hcr:∀ y∈r,y.2≠.cell:=fun y hy=>hc y (ο _ hy)
  by_cases hf:k=.free
  ·subst hf
   cases hx:x == n with
   | true=>
    have:x=n:=by simpa using hx
    subst this
    exact Ε
   | false=>
    refine ο _ (ih ?_ hk hcr)
    by_cases hcc:(ό == ό && env.scope.kind == .function && env.kindOf n == some .cell)=true
    ·have h2:DC x ((if (ό == ό && env.scope.kind == .function && env.kindOf n == some .cell)=true then (n,i_) else (n,ό)) :: r.map fun (n,k)=>if (k == ό && env.scope.kind == .function && env.kindOf n == some .cell) then (n,i_) else (n,k))=some kd:=h
     rw [if_pos hcc,ϭ,hx] at h2
     exact h2
    ·have h2:DC x ((if (ό == ό && env.scope.kind == .function && env.kindOf n == some .cell)=true then (n,i_) else (n,ό)) :: r.map fun (n,k)=>if (k == ό && env.scope.kind == .function && env.kindOf n == some .cell) then (n,i_) else (n,k))=some kd:=h
     rw [if_neg hcc,ϭ,hx] at h2
     exact h2
  ·have hb:(k == ό)=false:=by simpa using hf
   have h2:DC x ((if (k == ό && env.scope.kind == .function && env.kindOf n == some .cell)=true then (n,i_) else (n,k)) :: r.map fun (n,k)=>if (k == ό && env.scope.kind == .function && env.kindOf n == some .cell) then (n,i_) else (n,k))=some kd:=h
   rw [hb,Ϻ,Ϻ,if_neg Ι,ϭ] at h2
   cases hx:x == n with
   | true=>
    rw [hx] at h2
    cases h2
    rcases hk with z | z
    ·exact absurd z (hc (n,_) Ε)
    ·exact absurd z hf
   | false=>
    rw [hx] at h2
    exact ο _ (ih h2 hk hcr)
theorem nlt {a b:Nat} (h:a < b):a≠b:=Τ h
theorem ngt {a b:Nat} (h:a < b):b≠a:=i5 h
theorem pF {a b:Nat} (h:a < b):a≠b + 1:=Τ (j6 h)
theorem BN {a b:Nat} (h:a < b):b + 1≠a:=i5 (j6 h)
theorem nss (a:Nat):a≠a + 1:=Τ (B9 a)
theorem As (a:Nat):a + 1≠a:=i5 (B9 a)
section
variable {X:Cx} {pins:List (Addr×Obj)} {σ:St} {H:Hp} {s:ι} {scope:Cm} {own:List Str} {ix:List Nat} {fp:List Addr}
theorem Inv.compOk {N:List Str} (I:Inv X pins σ H s) (L:cy X.N X.env.scope scope own ix) (hf:∀ b∈fp,iF X pins H b) (hlt:∀ b∈fp,b < s.heap.objs.size):(X.comp N scope fp s H).Ok where
 mod:=I.ok.mod
 kind:=L.kind
 glob:=I.ok.glob
 blt:=I.ok.blt
 above:=m_ _
 inj:=fun x y c h1 h2=>I.ok.inj x y c (bi _ _ (fun _ _ z=>by simp at z) x c h1) (bi _ _ (fun _ _ z=>by simp at z) y c h2)
 has:=fun x hx=>by
  have hm:(x,ό)∈scope.names:=by
   rcases hx with hx | hx
   ·exact bW (env:=X.env) (x:=x) (names:=scope.names) hx (.inl rfl) L.nocell
   ·exact bW (env:=X.env) (x:=x) (names:=scope.names) hx (.inr rfl) L.nocell
  exact ce (I.ok.has x (L.free _ hm rfl)) _ _ hm
 cab:=fun x c h=>by cases h
 hd:=I.ok.hd
 frames:=I.ok.frames
 stk:=.inl rfl
 exf:=fun b hb=>⟨pF (hlt b hb),fun x c e=>(hf b hb).2.2.2.2.1 x c (bi _ _ (fun _ _ z=>by simp at z) x c e)⟩
 bs:=I.bs
 bsz:=ϔ I.ok.bsz I.sz
 noex:=fun b o e hb=>by
  rcases (hf b hb).2.2.2.1 with z | z
  ·exact I.ok.noex b o e z
  ·exact absurd (ώ (υ e) (ϔ I.ok.bsz z)) (w9 _)
 exfs:=fun b hb z=>by
  rcases θ.mp (I.stkSub b z) with e | e
  ·exact (hf b hb).2.1 e
  ·exact (hf b hb).2.2.1 e
 funs:=I.stack
 frf:=I.stkFree
theorem Inv.compStart {h1:Heap} {tk:Nat} (I:Inv X pins σ H s) (L:cy X.N X.env.scope scope own ix) (hf:∀ b∈fp,iF X pins H b) (hlt:∀ b∈fp,b < s.heap.objs.size)
  (k:∀ b o,s.heap.get? b=some o->h1.get? b=some o) {m:Str->Option δ} (hn:h1.Ns (s.heap.objs.size + 1) m) :
  Inv (X.comp (lcN X.N own ix) scope fp s H) [] (cA own.length ix σ) H { s with heap:=h1,toks:=tk }:=by
 have sub:=fun x c=>bi (env:=X.env) scope.names [] (fun _ _ z=>by simp at z) x c
 refine ⟨I.compOk L hf hlt,rfl,I.bare,Un.kept k,⟨m,hn,fun i x v e1 e2 e3=>?_⟩,fun x c e=>?_,I.hok.fresh (m_ _),fun x c e=>I.freeC x c (sub x c e),fun p hp=>absurd (show p∈([]:List (Addr×Obj)) from hp) (by simp),I.hok.kept k,?_⟩
 ·obtain ⟨i',j,rfl,hj,hv⟩:=jp e2
  have e1':(lcN X.N own ix)[own.length + i']?=some x:=e1
  unfold lcN at e1'
  rw [n_ (k7 _ _),Nat.add_sub_cancel_left] at e1'
  obtain ⟨j',hj',hN⟩:=eG L.inN e1'
  rw [hj] at hj'
  cases hj'
  have hjm:j∈ix:=Α hj
  obtain ⟨hmem,hlk⟩:=L.cap j hjm x hN
  have hkind:=L.free _ hmem rfl
  obtain ⟨m0,hn0,hl0⟩:=I.loc
  obtain ⟨u,r,l⟩:=hl0 j x v hN hv (by rcases hkind with z | z; exact .inr (.inl z); exact .inr (.inr z))
  refine ⟨u,r,.inr ⟨?_,?_⟩⟩
  ·exact ca (env:=X.env) hlk
  ·rcases l with ⟨kl,_⟩ | ⟨_,c,hc,hcell⟩
   ·have kl':X.env.scope.names.lookup x=some .local:=kl
    rcases hkind with z | z
    ·rw [kl'] at z; cases z
    ·rw [kl'] at z; cases z
   ·obtain ⟨c',hc'⟩:=ce (env:=X.env) ⟨c,hc⟩ scope.names [] hmem
    have:c'=c:=by
     have q:=sub x c' hc'
     rw [hc] at q
     exact (ϙ q).symm
    subst this
    obtain ⟨o,ho,hd⟩:=hcell
    exact ⟨c',hc',o,k _ _ ho,hd⟩
 ·obtain ⟨v,o,ho,hd⟩:=I.cell x c (sub x c e)
  exact ⟨v,o,k _ _ ho,hd⟩
 ·show (cA own.length ix σ).length=(lcN X.N own ix).length
  rw [wu L.inN]
  unfold cA
  rw [ς,k4,ζ]
def GW (k:Nat) (g:TG):Prop:=∀ x (σ:St) H (Q:St->Hp->Prop),g x σ H Q->g x σ H fun σ2 H2=>Q σ2 H2/\σ2.length=σ.length/\∀ j,k<=j->σ2[j]?=σ[j]?
theorem bD {k i:Nat} (h:i < k):GW k (cb i):=fun x σ H Q q=>⟨q,by simp,fun j hj=>by rw [BW (by omega)]⟩
def GWs (k:Nat) (g:TGs):Prop:=∀ x (σ:St) H (Q:St->Hp->Prop),g x σ H Q->g x σ H fun σ2 H2=>Q σ2 H2/\σ2.length=σ.length/\∀ j,k<=j->σ2[j]?=σ[j]?
def GM (g:TG):Prop:=∀ x (σ:St) H (Q Q':St->Hp->Prop),(∀ s h,Q s h->Q' s h)->g x σ H Q->g x σ H Q'
theorem lG {i:Nat}:GM (cb i):=fun _ _ _ _ _ h q=>h _ _ q
theorem xl {k:Nat}:GWs k rX:=fun x σ H Q q=>⟨q.1,q.2,rfl,fun _ _=>rfl⟩
theorem lQ {k:Nat} {t:TG} {u:TGs} (ht:GW k t) (hu:GWs k u) (mt:GM t) (mu:∀ x (σ:St) H (Q Q':St->Hp->Prop),(∀ s h,Q s h->Q' s h)->u x σ H Q->u x σ H Q'):GWs k (gJ t u):=fun x σ H Q q=>by
 obtain ⟨v,r,e,q⟩:=q
 refine ⟨v,r,e,mt _ _ _ _ _ ?_ (ht _ _ _ _ q)⟩
 rintro σ1 H1 ⟨q1,l1,j1⟩
 refine mu _ _ _ _ _ ?_ (hu _ _ _ _ q1)
 rintro σ2 H2 ⟨q2,l2,j2⟩
 exact ⟨q2,l2.trans l1,fun j hj=>(j2 j hj).trans (j1 j hj)⟩
theorem qO:∀ x (σ:St) H (Q Q':St->Hp->Prop),(∀ s h,Q s h->Q' s h)->rX x σ H Q->rX x σ H Q':=fun _ _ _ _ _ h q=>⟨q.1,h _ _ q.2⟩
theorem uA {t:TG} {u:TGs} (mt:GM t) (mu:∀ x (σ:St) H (Q Q':St->Hp->Prop),(∀ s h,Q s h->Q' s h)->u x σ H Q->u x σ H Q'):∀ x (σ:St) H (Q Q':St->Hp->Prop),(∀ s h,Q s h->Q' s h)->gJ t u x σ H Q->gJ t u x σ H Q':=
 fun _ _ _ _ _ h ⟨v,r,e,q⟩=>⟨v,r,e,mt _ _ _ _ _ (fun _ _ q1=>mu _ _ _ _ _ h q1) q⟩
theorem zx {k:Nat} {K:PySem.W.Frag} {n:Nat} {t:TGs} (ht:GWs k t):GW k (wn K n t):=fun x σ H Q q=>by
 obtain ⟨a,xs,e,hq,hl,q⟩:=q
 exact ⟨a,xs,e,hq,hl,ht _ _ _ _ q⟩
theorem oH {K:PySem.W.Frag} {i j k:Nat} (hi:i < k) (hj:j < k):GW k (wn K 2 (gJ (cb i) (gJ (cb j) rX))):=
 zx (lQ (bD hi) (lQ (bD hj) xl lG qO) lG (uA lG qO))
def PIf (X:Cx) (ifs:List Expr) (t:TT):Prop:=
 ∀ (pins:List (Addr×Obj)) (s:ι) (σ:St) (H:Hp) (Q:Bool->Hp->Prop),Inv X pins σ H s->t σ H Q ->
  wpAny (model X.prog X.w) X.A (forIn ifs true fun c r=>if r=true then do let ok <- isTrue c X.env (eval c X.env); pure (A4 ok) else pure (A4 r)) (TP X pins σ Q) X.xe s
def zq:TT:=fun _ H Q=>Q true H
theorem pif_nil:PIf X [] zq:=fun _ _ _ H _ I h=>wpAny_tests_nil ⟨H,I,h⟩
theorem qA {c:Expr} {t:TT} (h:PT X c t):PIf X [c] t:=fun pins s σ H Q I q=>wpAny_tests_one (h pins s σ H Q I q)
def rLC (J:It) (k:Nat) (ix:List Nat) (g:TG) (tt:TT) (te:TE) (σ:St) (H1:Hp) (Q:List V->Hp->Prop):Prop:=
 ∃ W:Nat->Nat->List V->Hp->Prop,(∃ m,W 0 m [] H1)/\∀ i m ys H,W i m ys H ->
  (J.stop i H/\Q ys H) \/
  (J.go i H/\∃ N:List V->Hp->Prop,(∀ ys' H',N ys' H'->∃ m',m' < m/\W (i + 1) m' ys' H')/\∀ x H',J.yld i H x H'->g x (cA k ix σ) H' fun σ2 H2=>tt σ2 H2 fun c H3=>
   if c=true then te σ2 H3 fun y H4=>ys.length < sizeLine/\N (ys ++ [y]) H4
   else N ys H3)
theorem mw {elt tg iter:Expr} {ifs:List Expr} {pos:Pos} {it:Addr} {tn:Nat->Heap->Prop} {J:It} {g:TG} {tt:TT} {te:TE} {E:δ->ι->Prop} {Qf:List V->Hp->Prop} {RR:δ->Addr->DS->ι->Prop}
  (L:cy X.N X.env.scope scope own ix) (hc:X.calm=true) (hg:∀ fp s H,PG (X.comp (lcN X.N own ix) scope fp s H) tg g) (gw:GW own.length g)
  (ht:∀ fp s H,PIf (X.comp (lcN X.N own ix) scope fp s H) ifs tt) (he:∀ fp s H,PE (X.comp (lcN X.N own ix) scope fp s H) elt te)
  (I:Inv X pins σ H s) (T:jh X.prog X.w X.K tg J fp it tn) (st:tn 0 s.heap) (hf:∀ b∈fp,iF X pins H b)
  (hw:rLC J own.length ix g tt te σ H Qf)
  (hRR:∀ (D C:Addr) (s':ι) (ys:List V) (H':Hp) (m:Str->Option δ),s'.heap.Ns C m->C≠X.env.locals->(∀ x c,X.env.cells.lookup x=some c->c≠C)->X.s₀.heap.objs.size<=C->(∀ p∈X.pn ++ pins,p.1≠C)->upd H' D (.lst ys) C=none->H' D=none ->
   Inv X pins σ (upd H' D (.lst ys)) s'->Qf ys H'->RR (.ref D) C (.ok .next) s') :
  wpAny (model X.prog X.w) X.A (newList []) (fun acc s₃=>wpAny (model X.prog X.w) X.A (newFunctionEnv scope X.env.globals (aW X.env scope.names []) [] X.env.qual none .none (some X.env)) (fun cenv s₄=>
   codeAny (model X.prog X.w) X.A (.compStart (.ListComp elt [⟨tg,iter,ifs,0⟩] scope pos) 0 (.ref it) acc { cenv with scope:=relabel scope X.env }) (RR acc cenv.locals) s₄) E s₃) E s:=by
 obtain ⟨W,⟨m0,w0⟩,turn⟩:=hw
 have hlt:∀ b∈fp,b < s.heap.objs.size:=fun b hb=>by
  obtain ⟨o,e,_⟩:=T.obj 0 s.heap st b hb
  exact υ e
 refine ϖ (wpAny_newFunctionEnv L.nocell (by intro y hy; simp at hy) (fun h₁ hns₁ hsb₁=>?_) L.kind)
 dsimp only at hns₁ hsb₁ ⊢
 generalize hH2:s.heap.push { cls:=.type "list",dict:=none,data:=.seq ([]:List δ).toArray }=h2 at hns₁ hsb₁ ⊢
 have hC:h2.objs.size=s.heap.objs.size + 1:=by rw [<- hH2,ϟ]
 have old:∀ b o,s.heap.get? b=some o->h₁.get? b=some o:=fun b o e=>by
  exact hsb₁.extBut b o (by rw [hC]; exact pF (υ e)) (ν _ (hH2▸ν _ e))
 have hacc:h₁.PlainList s.heap.objs.size #[]:=⟨_,hsb₁.extBut _ _ (by rw [hC]; exact nss _) (ν _ (hH2▸Γ _ rfl))⟩
 have hD0:H s.heap.objs.size=none:=I.hok.fresh (τ _)
 rw [hC] at hns₁
 have I0:=I.compStart (tk:=s.toks + ([]:List (Str×δ)).length) L hf hlt old hns₁
 have sub:=fun x c=>bi (env:=X.env) scope.names [] (fun _ _ z=>by simp at z) x c
 have cellLt:∀ x c,X.env.cells.lookup x=some c->c < s.heap.objs.size:=fun x c e=>by
  obtain ⟨v,q⟩:=I.cell x c e
  exact q.lt
 have stkLt:∀ b∈frs X.stack,b < s.heap.objs.size:=fun b hb=>by
  obtain ⟨_,o,ho,_⟩:=I.stack.mem hb
  exact υ ho
 have env_eq:({ newEnv scope h2.objs.size X.env.globals (aW X.env scope.names []) X.env.qual none .none (some X.env) builtinsNs with scope:=relabel scope X.env }:Env)=(X.comp (lcN X.N own ix) scope fp s H).env:=by
  show compEnvC scope (aW X.env scope.names []) h2.objs.size X.env=compEnvC scope (aW X.env scope.names []) (s.heap.objs.size + 1) X.env
  rw [hC]
 have loop:codeAny (model X.prog X.w) X.A (.compLoop (.ListComp elt [⟨tg,iter,ifs,0⟩] scope pos) 0 (.ref it) (.ref s.heap.objs.size) (X.comp (lcN X.N own ix) scope fp s H).env) (RR (.ref s.heap.objs.size) (s.heap.objs.size + 1))
   { s with heap:=h₁,toks:=s.toks + ([]:List (Str×δ)).length }:=by
  refine xJ (fun n s'=>∃ i ys H',Inv (X.comp (lcN X.N own ix) scope fp s H) [] (cA own.length ix σ) H' s'/\tn i s'.heap/\(∀ b∈fp,H' b=none)/\H' s.heap.objs.size=none /\
   (∃ its:List δ,au ys its/\s'.heap.PlainList s.heap.objs.size its.toArray)/\ys.length<=sizeLine/\W i n ys H') ?_ m0
   ⟨0,[],H,I0,T.keep _ _ _ st (fun b _ o e=>old b o e),fun b hb=>(hf b hb).1,hD0,⟨[],.nil,hacc⟩,Χ _,w0⟩
  rintro n s3 ⟨i,ys,H3,I3,st3,fr3,d3,⟨its,rv,n3,hp3⟩,hz,w3⟩
  have Ip:=I3.pins_of (pins':=[(s.heap.objs.size,{ cls:=.type "list",data:=.seq its.toArray n3 })]) (fun p hp=>by
   have e:p=(s.heap.objs.size,{ cls:=.type "list",data:=.seq its.toArray n3 }):=by simpa using hp
   subst e
   exact ⟨hp3,d3,nss _,fun z=>absurd (stkLt _ z) (w9 _),fun v z=>by cases z⟩)
  have stat:∀ {H':Hp},(∀ b∈fp,H' b=none)->∀ b∈fp,iF (X.comp (lcN X.N own ix) scope fp s H) [(s.heap.objs.size,{ cls:=.type "list",data:=.seq its.toArray n3 })] H' b:=fun hn b hb=>
   ⟨hn b hb,pF (hlt b hb),I3.ok.exfs b hb,.inl hb,fun x c e=>(I3.ok.exf b hb).2 x c e,fun p hp=>by
    have e:p=(s.heap.objs.size,{ cls:=.type "list",data:=.seq its.toArray n3 }):=by simpa using (show p∈([]:List (Addr×Obj)) ++ [(s.heap.objs.size,{ cls:=.type "list",data:=.seq its.toArray n3 })] from hp)
    subst e
    exact ngt (hlt b hb)⟩
  rcases turn i n ys H3 w3 with ⟨stop,qf⟩ | ⟨go,N,hN,step⟩
  ·refine thn (T.done (X.comp (lcN X.N own ix) scope fp s H) rfl rfl rfl hc i _ s3 _ H3 _ Ip (stat fr3) st3 stop) fun r s4 ⟨hr,I4⟩=>?_
   subst hr
   obtain ⟨e4,d4,_⟩:=I4.pin (s.heap.objs.size,{ cls:=.type "list",data:=.seq its.toArray n3 }) (ϒ _ Ε)
   obtain ⟨mC,hnC,_⟩:=I4.loc
   have hok:HOk X.prog X.w (upd H3 s.heap.objs.size (.lst ys)) s4.heap:=fun b u e=>by
    by_cases hb:b=s.heap.objs.size
    ·subst hb
     rw [aa] at e
     cases e
     exact ⟨hz,its,n3,rv,e4⟩
    ·rw [ag hb] at e
     exact (I4.hok b u e).stay (fun c v _ q=>q) (fun c q=>by rw [ag (ae q d4)]; exact q) fun c xs q=>by rw [ag (ae q d4)]; exact q
   have ub:=I4.base
   have un:Un (frs X.stack) fp H (upd H3 s.heap.objs.size (.lst ys)) s.heap s4.heap:=
    ⟨ub.keep,ub.slot,fun b o e n hx=>by rw [ag (Τ (υ e))]; exact ub.free b o e n hx,ub.there,
     fun b xs e=>by rw [ag (ae (ub.tups b xs e) d4)]; exact ub.tups b xs e,fun b o u e=>by rw [ag (ae (ub.frzs b o u e) d4)]; exact ub.frzs b o u e,
     fun b ps e=>by
      obtain ⟨more,q⟩:=ub.tbls b ps e
      exact ⟨more,by rw [ag (ae q d4)]; exact q⟩⟩
   have I5:Inv X pins σ (upd H3 s.heap.objs.size (.lst ys)) s4:=I.call' I4.os un hok I4.bare fun b hb=>by
    obtain ⟨f0,f1,f2,f3,f4,f5⟩:=hf b hb
    exact ⟨f3,f1,f4,f5⟩
   refine hRR _ _ s4 ys H3 mC hnC ?_ ?_ ?_ ?_ ?_ d4 I5 qf
   ·exact BN I.lt
   ·intro x c e
    exact pF (cellLt x c e)
   ·exact ϔ I.sz (m_ _)
   ·intro p hp
    exact pF (υ (I.pin p hp).1)
   ·rw [ag (As _)]
    exact I4.free
  ·refine thn (T.item (X.comp (lcN X.N own ix) scope fp s H) rfl rfl rfl hc i _ s3 _ H3 _ Ip (stat fr3) st3 go) fun r s4 ⟨u,hr,h4⟩=>?_
   subst hr
   refine thn h4 fun _ s5 ⟨x,H5,I5,r5,y5,st5,fr5⟩=>?_
   have I5':=I5.pinned (stat fr5) (T.obj _ _ st5)
   refine thn (hg fp s H _ s5 _ H5 x u _ I5' r5 (gw _ _ _ _ (step x H5 y5))) fun _ s6 ⟨σ6,H6,I6,q6,l6,k6⟩=>?_
   refine thn (ht fp s H _ s6 σ6 H6 _ I6 q6) fun c s7 ⟨H7,I7,q7⟩=>?_
   have again:∀ {s8:ι} {H8:Hp},Inv (X.comp (lcN X.N own ix) scope fp s H) ([(s.heap.objs.size,{ cls:=.type "list",data:=.seq its.toArray n3 })] ++ iP fp s5.heap) σ6 H8 s8 ->
     Inv (X.comp (lcN X.N own ix) scope fp s H) [] (cA own.length ix σ) H8 s8/\tn (i + 1) s8.heap/\(∀ b∈fp,H8 b=none)/\H8 s.heap.objs.size=none/\s8.heap.get? s.heap.objs.size=some { cls:=.type "list",data:=.seq its.toArray n3 }:=fun {s8 H8} I8=>by
    obtain ⟨e8,d8,_⟩:=I8.pin (s.heap.objs.size,{ cls:=.type "list",data:=.seq its.toArray n3 }) (ϒ _ (Ϲ _ Ε))
    refine ⟨(I8.pins_of (pins':=[]) fun p hp=>by cases hp).weak l6.symm fun j v e=>?_,T.keep _ _ _ st5 fun b hb o e=>(I8.pin (b,o) (ϒ _ (ϒ _ (db hb e)))).1,fun b hb=>?_,d8,e8⟩
    ·obtain ⟨i',j',rfl,_,_⟩:=jp e
     rw [k6 _ (k7 _ _)]
     exact e
    ·obtain ⟨o,e,d⟩:=T.obj _ _ st5 b hb
     exact (I8.pin (b,o) (ϒ _ (ϒ _ (db hb e)))).2.1
   cases c with
   | false=>
    rw [if_neg Ι] at q7 ⊢
    obtain ⟨m',hm,w7⟩:=hN _ _ q7
    obtain ⟨a1,a2,a3,a4,a5⟩:=again I7
    exact ⟨m',hm,i + 1,ys,H7,a1,a2,a3,a4,⟨its,rv,n3,a5⟩,hz,w7⟩
   | true=>
    rw [if_pos rfl] at q7 ⊢
    refine thn (he fp s H _ s7 σ6 H7 _ I7 q7) fun v s8 ⟨y,H8,I8,r8,hz8,q8⟩=>?_
    obtain ⟨m',hm,w8⟩:=hN _ _ q8
    obtain ⟨a1,a2,a3,a4,a5⟩:=again I8
    refine wpAny_list_append_plain (s:=s8) (l:=s.heap.objs.size) (items:=its.toArray) ⟨n3,a5⟩ (fun h9 hl9 hs9=>?_) (by have:=rv.length; simp; omega)
    have I9:Inv (X.comp (lcN X.N own ix) scope fp s H) [] (cA own.length ix σ) H8 { s8 with heap:=h9 }:=a1.turned (t':=s8.toks) (it:=s.heap.objs.size) (fun b o hb e=>hs9.extBut b o hb e) a4 (nss _)
     (.inr (τ _)) (fun x c e=>nlt (cellLt x c (sub x c e))) (fun p hp=>absurd (show p∈([]:List (Addr×Obj)) from hp) (by simp))
    refine ⟨m',hm,i + 1,ys ++ [y],H8,I9,T.keep _ _ _ a2 (fun b hb o e=>hs9.extBut b o (nlt (hlt b hb)) e),a3,a4,⟨its ++ [v],au.append rv (.cons r8 .nil),?_⟩,?_,w8⟩
    ·have e:(its ++ [v]).toArray=its.toArray.push v:=by simp
     rw [e]
     exact hl9
    ·rw [ς]
     show _ + 1<=_
     omega
 show codeAny _ _ (.compStart _ 0 (.ref it) (.ref s.heap.objs.size) _) (RR (.ref s.heap.objs.size) h2.objs.size) _
 rw [hC]
 have e2:=env_eq
 rw [hC] at e2
 refine Eq.mpr (congrArg (fun e=>codeAny (model X.prog X.w) X.A (.compStart (.ListComp elt [⟨tg,iter,ifs,0⟩] scope pos) 0 (.ref it) (.ref s.heap.objs.size) e) (RR (.ref s.heap.objs.size) (s.heap.objs.size + 1)) { s with heap:=h₁,toks:=s.toks + ([]:List (Str×δ)).length }) e2) ?_
 exact codeAny_compStart_list loop (T.self X.A 0 _ _ _ (T.keep _ _ _ st fun b _ o e=>old b o e) loop)
end
section
variable {X:Cx} {scope:Cm} {own:List Str} {ix:List Nat}
def tLC (wi:TI) (k:Nat) (ix:List Nat) (g:TG) (tt:TT) (te:TE):TE:=fun σ H Q=>wi σ H fun J H1=>rLC J k ix g tt te σ H1 fun ys H'=>∀ a,H' a=none->Q (.ref a) (upd H' a (.lst ys))
theorem Inv.clos {pins:List (Addr×Obj)} {σ:St} {H:Hp} {s:ι} (I:Inv X pins σ H s) (L:cy X.N X.env.scope scope own ix):closureFor scope X.env=pure (aW X.env scope.names []):=
 mM fun x hx hf=>I.ok.has x.1 (L.free x hx hf)
theorem pe_lc {elt tg iter:Expr} {ifs:List Expr} {pos:Pos} {wi:TI} {g:TG} {tt:TT} {te:TE} (hi:PI X tg iter wi) (L:cy X.N X.env.scope scope own ix) (hc:X.calm=true)
  (hg:∀ fp s H,PG (X.comp (lcN X.N own ix) scope fp s H) tg g) (gw:GW own.length g) (ht:∀ fp s H,PIf (X.comp (lcN X.N own ix) scope fp s H) ifs tt) (he:∀ fp s H,PE (X.comp (lcN X.N own ix) scope fp s H) elt te)
  (hs:∀ x,foldedSetIterable iter X.env x=pure x:=by intro _; rfl):PE X (.ListComp elt [⟨tg,iter,ifs,0⟩] scope pos) (tLC wi own.length ix g tt te):=by
 intro pins s σ H Q I h
 rw [eval_ListComp]
 refine wpAny_comprehension_free (use:=none) rfl hs (I.clos L) L.kind L.names (thn (hi pins s σ H _ I h) fun v s1 h1=>thn h1 fun itv s2 h2=>?_)
 obtain ⟨it,fp,tn,J,H2,e,I2,T,st2,f2,hw⟩:=h2
 subst e
 refine mw (RR:=fun acc C=>compPost (model X.prog X.w) X.A X.xe none (EP X pins σ Q) acc C) L hc hg gw ht he I2 T st2 f2 hw ?_
 intro D C s' ys H' m hn c1 c2 c3 c4 c5 d I' q
 exact ⟨m,hn,fun h' hs'=>⟨.ref D,_,I'.turned (t':=s'.toks) (it:=C) (fun b o hb e=>hs'.extBut b o hb e) c5 c1 (.inr c3) c2 c4,rfl,q D d⟩⟩
theorem ps_lc {elt tg iter:Expr} {ifs:List Expr} {pos spos py:Pos} {wi:TI} {g:TG} {tt:TT} {te:TE} {i:Nat} {y:Str} (hN:X.N.Nodup) (hy:X.N[i]?=some y) (hx:X.env.scope.names.lookup y=some .local) (hi:PI X tg iter wi) (L:cy X.N X.env.scope scope own ix) (hc:X.calm=true)
  (hg:∀ fp s H,PG (X.comp (lcN X.N own ix) scope fp s H) tg g) (gw:GW own.length g) (ht:∀ fp s H,PIf (X.comp (lcN X.N own ix) scope fp s H) ifs tt) (he:∀ fp s H,PE (X.comp (lcN X.N own ix) scope fp s H) elt te)
  (hsw:swapsWith (.ListComp elt [⟨tg,iter,ifs,0⟩] scope pos) (some (.Name y py)) spos.line X.env=pure true:=by rfl)
  (hs:∀ x,foldedSetIterable iter X.env x=pure x:=by intro _; rfl):PS X (.Assign [.Name y py] (.ListComp elt [⟨tg,iter,ifs,0⟩] scope pos) spos) (oA (tLC wi own.length ix g tt te) (cb i)):=by
 intro pins s σ H Dn I h
 rw [exec_Assign_Name_used _ _ _ _ hsw]
 refine γ (CL (γ ?_))
 show wpAny _ X.A (do let _ <- comprehension (.ListComp elt [⟨tg,iter,ifs,0⟩] scope pos) scope X.env _ (newList []) false (eval iter X.env) (some (assign (.Name y py) X.env))) _ _ s
 refine γ (thn (wpAny_comprehension_free (use:=some (assign (.Name y py) X.env)) (Q:=fun _ s'=>SP X pins Dn .next s') rfl hs (I.clos L) L.kind L.names
  (thn (hi pins s σ H _ I h) fun v s1 h1=>thn h1 fun itv s2 h2=>?_)) fun _ s' hq=>ξ (ξ hq))
 obtain ⟨it,fp,tn,J,H2,e,I2,T,st2,f2,hw⟩:=h2
 subst e
 refine mw (RR:=fun acc C=>compPost (model X.prog X.w) X.A X.xe (some (assign (.Name y py) X.env)) (fun _ s'=>SP X pins Dn .next s') acc C) L hc hg gw ht he I2 T st2 f2 hw ?_
 intro D C s' ys H' m hn c1 c2 c3 c4 c5 d I' q
 show wpAny _ X.A (assign (.Name y py) X.env (.ref D)) _ _ s'
 refine wpAny_assign_Name (jr I' hN hy (.inl hx) (v:=.ref D) rfl (fun s2 I2 ⟨a,hs2,ha⟩=>?_) (.inr hx))
 have aC:a≠C:=by
  rcases ha with rfl | ha
  ·exact ϊ c1
  ·exact c2 y a ha
 refine ⟨m,hn.sameBut hs2 (ϊ aC),fun h' hs'=>?_⟩
 exact ⟨_,_,I2.turned (t':=s2.toks) (it:=C) (fun b o hb e=>hs'.extBut b o hb e) c5 c1 (.inr c3) c2 c4,q D d⟩
end
section
variable {k:Nat} {ix:List Nat} {g:TG} {tt:TT} {te:TE} {σ:St} {H1:Hp} {Q:List V->Hp->Prop}
def cC (k:Nat) (ix:List Nat) (g:TG) (tt:TT) (te:TE) (σ:St) (x:V) (ys:List V) (H:Hp) (N:List V->Hp->Prop):Prop:=
 g x (cA k ix σ) H fun σ2 H2=>tt σ2 H2 fun c H3=>if c=true then te σ2 H3 fun y H4=>ys.length < sizeLine/\N (ys ++ [y]) H4 else N ys H3
theorem qo {J:It} {n:Nat} (Pv:Nat->List V->Hp->Prop) (h0:Pv 0 [] H1) (hgo:∀ i ys H,i < n->Pv i ys H->J.go i H) (hst:∀ ys H,Pv n ys H->J.stop n H)
  (hs:∀ i ys H x H',i < n->Pv i ys H->J.yld i H x H'->cC k ix g tt te σ x ys H' (Pv (i + 1))) (hd:∀ ys H,Pv n ys H->Q ys H):rLC J k ix g tt te σ H1 Q:=by
 refine ⟨fun i m ys H=>m=n - i/\i<=n/\Pv i ys H,⟨n,by simp,Χ _,h0⟩,?_⟩
 rintro i m ys H ⟨rfl,hi,p⟩
 by_cases hlt:i < n
 ·exact .inr ⟨hgo i ys H hlt p,Pv (i + 1),fun ys' H' q=>⟨n - (i + 1),by omega,rfl,hlt,q⟩,fun x H' y=>hs i ys H x H' hlt p y⟩
 ·have e:i=n:=by omega
  subst e
  exact .inl ⟨hst ys H p,hd ys H p⟩
theorem tm {lo:Int} {n:Nat} (Pv:Nat->List V->Hp->Prop) (h0:Pv 0 [] H1) (hs:∀ i ys H,i < n->Pv i ys H->cC k ix g tt te σ (.int (lo + i)) ys H (Pv (i + 1)))
  (hd:∀ ys H,Pv n ys H->Q ys H):rLC (Itr lo n) k ix g tt te σ H1 Q:=
 qo (n:=n) Pv h0 (fun i _ _ h _=>h) (fun _ _ _=>τ _) (fun i ys H x H' h p y=>by
  obtain ⟨e,y⟩:=y
  subst e y
  exact hs i ys _ h p) hd
theorem ki {K:PySem.W.Frag} {a:Addr} {xs:List V} (Pv:Nat->List V->Hp->Prop) (h0:Pv 0 [] H1) (hl:∀ i ys H,i<=xs.length->Pv i ys H->SqL K H a xs)
  (hs:∀ i ys H x,xs[i]?=some x->Pv i ys H->cC k ix g tt te σ x ys H (Pv (i + 1))) (hd:∀ ys H,Pv xs.length ys H->Q ys H):rLC (Itl K a) k ix g tt te σ H1 Q:=
 qo (n:=xs.length) Pv h0 (fun i ys H h p=>⟨xs,xs[i],hl i ys H (k9 h) p,by simp [h]⟩) (fun ys H p=>⟨xs,hl _ ys H (τ _) p,τ _⟩) (fun i ys H x H' h p y=>by
  obtain ⟨e,y⟩:=y
  subst e
  exact hs i ys _ x (y xs (hl i ys _ (k9 h) p)) p) hd
theorem gi {K:PySem.W.Frag} {a:Addr} {xs:List V} (Pv:Nat->List V->Hp->Prop) (h0:Pv 0 [] H1) (hl:∀ i ys H,i<=xs.length->Pv i ys H->SqT K H a xs)
  (hs:∀ i ys H x,xs[i]?=some x->Pv i ys H->cC k ix g tt te σ x ys H (Pv (i + 1))) (hd:∀ ys H,Pv xs.length ys H->Q ys H):rLC (Itt K a) k ix g tt te σ H1 Q:=
 qo (n:=xs.length) Pv h0 (fun i ys H h p=>⟨xs,xs[i],hl i ys H (k9 h) p,by simp [h]⟩) (fun ys H p=>⟨xs,hl _ ys H (τ _) p,τ _⟩) (fun i ys H x H' h p y=>by
  obtain ⟨e,y⟩:=y
  subst e
  exact hs i ys _ x (y xs (hl i ys _ (k9 h) p)) p) hd
end
def Itf (f:Nat->V) (n:Nat):It:=⟨fun i _=>i < n,fun i H x H'=>H'=H/\x=f i,fun i _=>i=n⟩
theorem eZ {P:Β} {w:Ξ} {K:PySem.W.Frag} {tg:Expr} {it:Addr} {n:Nat} {Pv:Nat->δ->Prop} {tn:Nat->Heap->Prop} {f:Nat->V}
  (W:∀ A:Φ,A.handled=none->Eu P w A it [it] [it] n Pv tn) (ob:∀ i h,tn i h->∃ o nm vs,h.get? it=some o/\o.cls=.type nm/\o.data=.fields vs/\["enumerate","zip","dict_itemiterator","dict_reverseitemiterator","odict_iterator","itertools.zip_longest","itertools.pairwise"].contains nm=false)
  (rel:∀ i v,Pv i v->ay (f i) v) (hself:∀ (A:Φ) (i:Nat) (s:ι) (Q:δ->ι->Prop) (E:δ->ι->Prop),tn i s.heap->Q (.ref it) s->wpAny (model P w) A (pyIter (.ref it)) Q E s):jh P w K tg (Itf f n) [it] it tn where
 mem:=by simp
 obj:=fun i h st b hb=>by
  have e:b=it:=by simpa using hb
  subst e
  obtain ⟨o,nm,vs,e,_,d,_⟩:=ob i h st
  exact ⟨o,e,fun v z=>by rw [d] at z; cases z⟩
 keep:=fun i h h' st k=>by
  by_cases hA:∃ A:Φ,A.handled=none
  ·obtain ⟨A,hA⟩:=hA
   exact (W A hA).frame i h h' st k
  ·exact absurd ⟨callerA,rfl⟩ hA
 item:=by
  intro X hP hw hK hc i pins s σ H E I hf st hg
  subst hP hw hK
  obtain ⟨f0,f1,f2,f3,f4,f5⟩:=hf it (by simp)
  refine (W X.A (I.ok.hd hc)).item i s _ _ hg st fun v h' tk hv st' kk=>?_
  have I1:Inv X pins σ H { s with heap:=h',toks:=tk }:=I.turned (fun b o hb e=>kk b o (by simpa using hb) e) f0 f1 f3 f4 f5
  obtain ⟨o,nm,vs,e,c,d,hn⟩:=ob _ _ st'
  exact ⟨v,rfl,qM (s:={ s with heap:=h',toks:=tk }) e c d hn ⟨f i,H,I1,rel i v hv,⟨rfl,rfl⟩,st',fun b hb=>(hf b hb).1⟩⟩
 done:=by
  intro X hP hw hK hc i pins s σ H E I hf st hg
  subst hP hw hK
  obtain ⟨f0,f1,f2,f3,f4,f5⟩:=hf it (by simp)
  have e:i=n:=hg
  subst e
  exact (W X.A (I.ok.hd hc)).done s _ _ st fun h' tk kk=>⟨rfl,I.turned (fun b o hb e=>kk b o (by simpa using hb) e) f0 f1 f3 f4 f5⟩
 self:=hself
theorem di {i j c:Int} (q1:0 < c) (q3:-1000000<=i) (q4:i < 1000000) (q5:-1000000<=j) (q6:j < 1000000):0<=ϑ i j c/\ϑ i j c<=2000000:=by
 unfold ϑ
 rw [if_pos (show c > 0 from q1)]
 by_cases h:i < j
 ·rw [if_pos h]
  have h1:0<=(j - i - 1) / c:=Int.ediv_nonneg (by omega) (by omega)
  have h2:(j - i - 1) / c<=j - i - 1:=Int.ediv_le_self _ (by omega)
  omega
 ·rw [if_neg h]; omega
theorem lU {i j c:Int} (q1:0 < c) (q2:c < 1000) (q3:-1000000<=i) (q4:i < 1000000) (q5:-1000000<=j) (q6:j < 1000000):Ϣ.Range.small i j c=true:=by
 obtain ⟨h1,h2⟩:=di q1 q3 q4 q5 q6
 unfold Ϣ.Range.small
 simp only [Ϣ.Range.rangeFitsLong,Θ,CW,decide_eq_true_eq,beq_iff_eq,show c > 0 from q1,if_true]
 omega
section
variable {X:Cx} {tg:Expr}
theorem Inv.fp1 {pins:List (Addr×Obj)} {σ:St} {H:Hp} {s:ι} (I:Inv X pins σ H s):∀ b∈[s.heap.objs.size],iF X pins H b:=fun b hb=>by
 have e:b=s.heap.objs.size:=by simpa using hb
 subst e
 exact I.fpOk (τ _) (I.hok.fresh (τ _))
def ye (x:Str) (i:Nat):V:=.str ⟨#[x.cps.getD i 0]⟩
def By (ts:TE):TI:=fun σ H R=>ts σ H fun x H1=>∃ z,x=.str z/\R (Itf (ye z) z.cps.size) H1
theorem pi_str {e:Expr} {ts:TE} (hl:PE X e ts):PI X tg e (By ts):=by
 intro pins s σ H R I h
 refine thn (hl pins s σ H _ I h) fun v s1 ⟨x,H1,I1,r1,q1⟩=>?_
 obtain ⟨z,e,q⟩:=q1
 subst e
 obtain ⟨t,rfl⟩:=r1
 have rel:∀ i v,SignAt z i v->ay (ye z i) v:=fun i v ⟨c,u,hc,hv⟩=>by
  subst hv
  refine ⟨u,?_⟩
  have e:z.cps.getD i 0=c:=by rw [A8,hc]; rfl
  rw [e]
 cases ha:z.cps.all (· < 128) with
 | false=>
  refine wpAny_pyIter_wide ha ?_
  exact ⟨s1.heap.objs.size,[s1.heap.objs.size],_,_,H1,rfl,I1.kept (t':=s1.toks) fun b o e=>ν _ e,
   eZ (fun A hA=>Eu.strWide hA _ z t) (fun i h ⟨o,e,c,d⟩=>⟨o,"str_iterator",_,e,c,d,by decide⟩) rel (fun A i s Q E st hq=>wpAny_pyIter_striter_wide st hq),⟨_,Γ _ rfl,rfl,rfl⟩,fun b hb=>I1.fp1 b hb,q⟩
 | true=>
  refine wpAny_pyIter_ascii ha ?_
  exact ⟨s1.heap.objs.size,[s1.heap.objs.size],_,_,H1,rfl,I1.kept (t':=s1.toks) fun b o e=>ν _ e,
   eZ (fun A hA=>Eu.strAscii hA _ z t) (fun i h ⟨o,e,c,d⟩=>⟨o,"str_ascii_iterator",_,e,c,d,by decide⟩) rel (fun A i s Q E st hq=>wpAny_pyIter_striter_ascii st hq),⟨_,Γ _ rfl,rfl,rfl⟩,fun b hb=>I1.fp1 b hb,q⟩
def Aw (ta:TA):TI:=fun σ H R=>ta σ H fun vs H1=>∃ i j c:Int,vs=[.int i,.int j,.int c]/\(0 < c/\c < 1000/\-1000000<=i/\i < 1000000/\-1000000<=j/\j < 1000000)/\R (Itf (fun k=>.int (i + k * c)) (ϑ i j c).toNat) H1
theorem pi_range3 {a b c:Expr} {ta:TA} {p pos:Pos} (hg:Gl X "range") (hm:X.mg "range"=none) (ha:PA X [a,b,c] ta) (hs:starEach [a,b,c] X.env=[(false,eval a X.env),(false,eval b X.env),(false,eval c X.env)]:=by rfl) (hs2:starEach [b,c] X.env=[(false,eval b X.env),(false,eval c X.env)]:=by rfl) :
  PI X tg (.Call (.Name "range" p) [a,b,c] [] pos) (Aw ta):=by
 intro pins s σ H R I h
 refine Call_ (cH I hg hm boot_range (Ϫ (thn (ha pos pins s σ H _ I h) fun us s1 ⟨vs,H1,I1,r1,q1⟩=>?_) (by rw [hs,hs2]) (by rw [hs2]; rfl)))
 obtain ⟨i,j,c,e,⟨q1,q2,q3,q4,q5,q6⟩,q⟩:=q1
 subst e
 cases r1 with
 | cons r rr=>
  cases rr with
  | cons r' rr=>
   cases rr with
   | cons r'' rr=>
    cases rr
    obtain ⟨t,rfl⟩:=r
    obtain ⟨t',rfl⟩:=r'
    obtain ⟨t'',rfl⟩:=r''
    refine call_range_3 (by omega) ?_ (.inl (PyProof.noPylong_small (by omega)))
    obtain ⟨z0,z1⟩:=di q1 q3 q4 q5 q6
    have hsz:(((ϑ i j c).toNat:Nat):Int)=ϑ i j c:=by omega
    refine wpAny_pyIter_range (IsRange.new ..) (lU q1 q2 q3 q4 q5 q6) ?_
    have I2:Inv X pins σ H1 { s1 with heap:=s1.heap.push { cls:=.type "range",data:=.fields #[.int i t,.int j t',.int c t''] },toks:=s1.toks }:=I1.kept fun b o e=>ν _ e
    refine ⟨_,[_],_,_,H1,rfl,I2.kept (t':=s1.toks) fun b o e=>ν _ e,eZ (f:=fun k=>.int (i + k * c)) (fun A hA=>Eu.range hA _ i c (ϑ i j c).toNat) (fun k h st=>⟨_,"range_iterator",_,st,rfl,rfl,by decide⟩) (fun k v ⟨t,e⟩=>⟨t,e⟩) (fun A k s Q E st hq=>wpAny_pyIter_rangeiter st hq),?_,fun b hb=>I2.fp1 b hb,q⟩
    show IsRangeIter _ _ (i + ((0:Nat):Int) * c) (((ϑ i j c).toNat:Nat) - ((0:Nat):Int)) c
    have e1:i + ((0:Nat):Int) * c=i:=by simp
    have e2:(((ϑ i j c).toNat:Nat):Int) - ((0:Nat):Int)=ϑ i j c:=by rw [hsz]; simp
    rw [e1,e2]
    exact Γ _ rfl
theorem KV.at {kvs:List (Key×V)} {vs:List (Key×δ)} (r:KV kvs vs) {i:Nat} {k:Key} {v:δ} (e:vs[i]?=some (k,v)):∃ x,kvs[i]?=some (k,x)/\ay x v:=by
 induction r generalizing i with
 | nil=>simp at e
 | @cons p q ps qs h t ih=>
  cases i with
  | zero=>
   have e':q=(k,v):=by simpa using e
   obtain ⟨p1,p2⟩:=p
   subst e'
   obtain ⟨h1,h2⟩:=h
   have h1':p1=k:=h1
   subst h1'
   exact ⟨p2,rfl,h2⟩
  | succ i=>exact ih (by simpa using e)
theorem zZ {P:Β} {w:Ξ} {k:Key} {u:δ} (h:(aR P w).is k u=true):ay (kV k) u:=by
 rcases aZ (k:=k) (v:=u) h with ⟨i,t,rfl,rfl⟩ | ⟨x,t,rfl,rfl⟩
 ·exact ⟨t,rfl⟩
 ·exact ⟨t,rfl⟩
def Ite (K:PySem.W.Frag) (a:Addr):It:=
 ⟨fun i H=>∃ xs x,SqL K H a xs/\xs[i]?=some x,fun i H x H'=>∃ p y,H p=none/\H'=upd H p (.tup [.int i,y])/\x=.ref p/\∀ xs,SqL K H a xs->xs[i]?=some y,fun i H=>∃ xs,SqL K H a xs/\xs.length<=i⟩
theorem rM {P:Β} {w:Ξ} {K:PySem.W.Frag} {elts:List Expr} {x1} {tp:Pos} (a e it:Addr) (hei:e≠it):jh P w K (.Tuple elts x1 tp) (Ite K a) [e,it] e (fun i h=>(∃ old,IsEnum h e it i old)/\h.IsListIter it a i) where
 mem:=by simp
 obj:=fun i h st b hb=>by
  obtain ⟨⟨old,s1⟩,⟨o,e2,c,d⟩⟩:=st
  rcases θ.mp hb with rfl | hb
  ·exact ⟨_,s1,fun v z=>by
    have z':Data.fields _=Ej v:=z
    cases z'⟩
  ·have e':b=it:=by simpa using hb
   subst e'
   exact ⟨o,e2,fun v z=>by rw [d] at z; cases z⟩
 keep:=fun i h h' st k=>⟨let ⟨old,s1⟩:=st.1; ⟨old,k e (by simp) _ s1⟩,st.2.at fun o q=>k it (by simp) o q⟩
 item:=by
  intro X hP hw hK hc i pins s σ H E I hf st hg
  subst hP hw hK
  obtain ⟨xs,x,hq,hx⟩:=hg
  obtain ⟨its,rv,p,hz⟩:=I.list hq
  obtain ⟨u,hu,ru⟩:=rv.get hx
  obtain ⟨f0,f1,f2,f3,f4,f5⟩:=hf e (by simp)
  obtain ⟨g0,g1,g2,g3,g4,g5⟩:=hf it (by simp)
  obtain ⟨⟨old,s1⟩,s2⟩:=st
  have he:e < s.heap.objs.size:=υ s1
  have hit:it < s.heap.objs.size:=by obtain ⟨o,q,_⟩:=s2; exact υ q
  refine wpAny_pyNext_enum_item s1 s2 p.isList (x:=u) (by simpa using hu) hei fun h1 heo hit1 ht1 hz1 hk1=>?_
  refine ⟨_,rfl,wpAny_letOwnedTupleGo_enum heo fun h2 he2 hs2=>?_⟩
  have hn:H s.heap.objs.size=none:=I.hok.fresh (τ _)
  have keep:∀ b o,b≠e->b≠it->s.heap.get? b=some o->h2.get? b=some o:=fun b o h1' h2' q=>(hs2.2 b h1').trans (hk1 b o h1' h2' q)
  have tup:h2.get? s.heap.objs.size=some { cls:=.type "tuple",data:=.seq #[.int i s.toks,u] }:=(hs2.2 _ (ngt he)).trans ht1
  have I2:Inv X pins σ (upd H s.heap.objs.size (.tup [.int i,x])) { s with heap:=h2,toks:=s.toks + 1 }:=by
   have nitx:∀ b v,H b=some v->b≠e/\b≠it:=fun b v q=>⟨(fun z=>by rw [z,f0] at q; cases q),(fun z=>by rw [z,g0] at q; cases q)⟩
   refine I.step (g':=s.gens) (d':=s.drawn) (ch:=[e,it]) (fun b hb=>?_) (fun b o _ _ hc' q _=>keep b o (fun z=>hc' (by simp [z])) (fun z=>hc' (by simp [z])) q) (fun b o _ _ hc' q _=>⟨o.slots,keep b o (fun z=>hc' (by simp [z])) (fun z=>hc' (by simp [z])) q⟩)
    (fun b o _ q n=>by rw [ag (nlt (υ q))]; exact n) (fun b o hc' q=>⟨o,keep b o (fun z=>hc' (by simp [z])) (fun z=>hc' (by simp [z])) q⟩)
    (fun b xs q=>by rw [ag (ae q hn)]; exact q) (fun b o v q=>by rw [ag (ae q hn)]; exact q) (fun b ps q=>⟨#[],by rw [ag (ae q hn),q]; simp⟩) (fun m hm=>?_) (fun b v q=>?_) I.bare
   ·rcases θ.mp hb with rfl | hb
    ·exact ⟨f3,f1,f4,f5⟩
    ·have e':b=it:=by simpa using hb
     subst e'
     exact ⟨g3,g1,g4,g5⟩
   ·obtain ⟨o,es,ep,ho,r⟩:=hm
    exact ⟨o,es,ep,keep _ o (ϊ f1) (ϊ g1) ho,r⟩
   ·by_cases hb:b=s.heap.objs.size
    ·subst hb
     rw [aa] at q
     cases q
     exact ⟨(show 2<=sizeLine by rw [ψ]; decide),[.int i s.toks,u],.cons ⟨_,rfl⟩ (.cons ru .nil),⟨_,tup,rfl,0,rfl⟩,_,tup,rfl⟩
    ·rw [ag hb] at q
     refine (I.hok b v q).stay (fun c w' hc' q'=>?_) (fun c q'=>by rw [ag (ae q' hn)]; exact q') fun c xs q'=>by rw [ag (ae q' hn)]; exact q'
     rcases hc' with z | z
     ·subst z; exact keep c w' (nitx c v q).1 (nitx c v q).2 q'
     ·exact keep c w' (nitx c _ z).1 (nitx c _ z).2 q'
  refine ⟨.ref s.heap.objs.size,_,I2,rfl,⟨_,x,hn,rfl,rfl,fun ys hy=>by rw [I.list_inj hy hq]; exact hx⟩,⟨⟨u,?_⟩,?_⟩,fun b hb=>?_⟩
  ·have e1:((i + 1:Nat):Int)=(i:Int) + 1:=by omega
   rw [e1]
   exact he2
  ·exact hit1.at fun o q=>(hs2.2 _ (ϊ hei)).trans q
  ·have hb':b < s.heap.objs.size:=by
    rcases θ.mp hb with rfl | hb
    ·exact he
    ·have e':b=it:=by simpa using hb
     subst e'; exact hit
   rw [ag (nlt hb')]
   exact (hf b hb).1
 done:=by
  intro X hP hw hK hc i pins s σ H E I hf st hg
  subst hP hw hK
  obtain ⟨xs,hq,hx⟩:=hg
  obtain ⟨its,rv,p,hz⟩:=I.list hq
  obtain ⟨g0,g1,g2,g3,g4,g5⟩:=hf it (by simp)
  obtain ⟨⟨old,s1⟩,s2⟩:=st
  have hl:=rv.length
  exact wpAny_pyNext_enum_end (I.ok.hd hc) s1 s2 p.isList (by simp; omega) fun h' eb=>⟨rfl,I.turned (t':=s.toks) (fun b o hb q=>eb b o hb q) g0 g1 g3 g4 g5⟩
 self:=fun A i s Q E st h=>by
  obtain ⟨⟨old,s1⟩,s2⟩:=st
  have hT:s.TypeIs (.ref e) "enumerate":=⟨_,s1,rfl⟩
  refine wpAny_pyIter_slot hT PySem.F.slot_enumerate_iter (a9 PySem.F.slot_enumerate_iter hT PySem.F.entry_enumerate_iter ?_ (PySem.F.args_enumerate_iter_1 _))
  show wpAny _ _ (ret (.ref e)) _ _ s
  exact ξ ⟨_,rfl,"enumerate",_,hT,PySem.F.slot_enumerate_next.lookup,h⟩
def Ac (K:PySem.W.Frag) (ta:TA):TI:=fun σ H R=>ta σ H fun vs H1=>∃ a,vs=[.ref a]/\(∃ xs,SqL K H1 a xs)/\R (Ite K a) H1
theorem pi_enum {a:Expr} {ta:TA} {p pos:Pos} {elts:List Expr} {x1} {tp:Pos} (hg:Gl X "enumerate") (hm:X.mg "enumerate"=none) (ha:PA X [a] ta) (hs:starEach [a] X.env=[(false,eval a X.env)]:=by rfl):PI X (.Tuple elts x1 tp) (.Call (.Name "enumerate" p) [a] [] pos) (Ac X.K ta):=by
 intro pins s σ H R I h
 refine Call_ (cH I hg hm (u:=.type "enumerate") (by decide +kernel) (Ϫ (thn (ha pos pins s σ H _ I h) fun us s1 ⟨vs,H1,I1,r1,q1⟩=>?_) hs rfl))
 obtain ⟨l,e,⟨xs,hq⟩,q⟩:=q1
 subst e
 cases r1 with
 | cons r rr=>
  cases rr
  cases r
  obtain ⟨its,rv,p,hz⟩:=I1.list hq
  refine call_enumerate_list p.isList fun h' he hit hsz kp=>?_
  have I2:Inv X pins σ H1 { s1 with heap:=h' }:=I1.kept (t':=s1.toks) kp
  have T:jh X.prog X.w X.K (.Tuple elts x1 tp) (Ite X.K l) [s1.heap.objs.size + 1,s1.heap.objs.size] (s1.heap.objs.size + 1) (fun i h=>(∃ old,IsEnum h (s1.heap.objs.size + 1) s1.heap.objs.size i old)/\h.IsListIter s1.heap.objs.size l i):=rM l _ _ (As _)
  refine T.self X.A 0 { s1 with heap:=h' } _ _ ⟨⟨_,he⟩,hit⟩ ?_
  refine ⟨s1.heap.objs.size + 1,_,_,_,H1,rfl,I2,T,⟨⟨_,he⟩,hit⟩,fun b hb=>?_,q⟩
  have hb':s1.heap.objs.size<=b:=by
   rcases θ.mp hb with rfl | hb
   ·exact m_ _
   ·have e':b=s1.heap.objs.size:=by simpa using hb
    subst e'; exact τ _
  obtain ⟨f0,f1⟩:=I1.fpOk hb' (I1.hok.fresh hb')
  exact ⟨f0,f1⟩
end
section
variable {X:Cx}
theorem gv:OpR X (compareOp .LtE) (fun x y H Q=>∃ i j,x=.str i/\y=.str j/\Q (.bl (!decide (j.cps.toList < i.cps.toList))) H):=by
 intro pins s σ H x y v u Q I rx ry h
 obtain ⟨i,j,rfl,rfl,q⟩:=h
 obtain ⟨t,rfl⟩:=rx
 obtain ⟨t',rfl⟩:=ry
 exact PySem.P.le_str (aO I q rfl)
theorem cX:OpR X (binaryOp .Mult) (fun x y H Q=>∃ i n,x=.str i/\y=.int n/\i.length<=1000/\0<=n/\n<=1000/\Q (.str (Txt.mul i n)) H):=by
 intro pins s σ H x y v u Q I rx ry h
 obtain ⟨i,n,rfl,rfl,h1,h2,h3,q⟩:=h
 obtain ⟨t,rfl⟩:=rx
 obtain ⟨t',rfl⟩:=ry
 exact SB.mul (PyProof.Rows.mulOk_of 1000 1000 h1 (by omega) (by omega) (by decide) (by decide)) fun t' k=>⟨.str _,H,I.tok _,⟨_,rfl⟩,q⟩
theorem fj {s:ι} {h':Heap} {o:Obj} (hk:∀ b x,b∉[s.heap.objs.size]->(s.heap.push o).get? b=some x->h'.get? b=some x) (b:Addr) (x:Obj) (e:s.heap.get? b=some x):h'.get? b=some x:=
 hk b x (fun z=>by rw [ε.mp z] at e; exact w9 _ (υ e)) (ν _ e)
theorem iS:∀ {bs:List Bool} {us:List δ},au (bs.map V.bl) us->∀ (i:Nat) (v:δ),us[i]?=some v->∃ b,bs[i]?=some b/\v=.bool b
 | [],_,.nil,i,v,e=>by simp at e
 | b :: bs,u :: us,.cons r t,0,v,e=>by
  have e':u=v:=by simpa using e
  subst e'
  exact ⟨b,rfl,r⟩
 | b :: bs,u :: us,.cons r t,i + 1,v,e=>iS (bs:=bs) t i v (by simpa using e)
theorem fO (hc:X.calm=true):bU X (.builtin "all") (fun xs H Q=>∃ (a:Addr) (bs:List Bool),xs=[.ref a]/\SqL X.K H a (bs.map V.bl)/\Q (.bl (bs.all id)) H):=by
 intro pins s σ H xs us Q I r h
 obtain ⟨a,bs,rfl,hq,q⟩:=h
 obtain ⟨u,rfl,ru⟩:=cO r
 cases ru
 obtain ⟨its,rv,p,hz⟩:=I.list hq
 have hl:=p.isList
 have hlt:a < s.heap.objs.size:=by obtain ⟨_,e,_⟩:=hl; exact υ e
 refine call_all_walk (Co hl ?_)
 refine ⟨s.heap.objs.size,[s.heap.objs.size,a],[s.heap.objs.size],its.toArray.size,_,_,fun i=>(bs[i]?).getD true,rfl,Eu.list (A:=X.A.in1) (I.ok.hd hc) _ a (Τ hlt) its.toArray,
  ⟨⟨_,Γ _ rfl,rfl,rfl⟩,hl.push _⟩,fun i v s' Q' E' hP hQ=>?_,fun h' tk hk=>?_⟩
 ·obtain ⟨b,e,rfl⟩:=iS rv i v (by simpa using hP)
  simp only [e,Option.getD_some] at hQ
  exact ϯ hQ
 ·have hlen:=rv.length
  have e:((Ω its.toArray.size).all fun i=>(bs[i]?).getD true)=bs.all id:=by
   rw [ρ,<- hlen,ζ,i6,Ϯ,Ϯ]
   constructor
   ·intro z b hb
    obtain ⟨i,hi,rfl⟩:=e_ hb
    have:=z i (ϸ.mpr hi)
    simpa [hi] using this
   ·intro z i hi
    have hi':=ϸ.mp hi
    rw [Ζ hi']
    exact z _ (k8 hi')
  rw [e]
  exact ⟨.bl _,H,I.kept (fj hk),rfl,q⟩
theorem bo:bU X (.builtin "isinstance") (fun xs H Q=>∃ x t n b,xs=[x,.ty n]/\fu X.K H x t/\PySem.W.kitOne X.K t (.type n)=some b/\Q (.bl b) H):=by
 intro pins s σ H xs us Q I r h
 obtain ⟨x,t,n,b,rfl,ty,e,q⟩:=h
 obtain ⟨u,w',rfl,rx,rn⟩:=lY r
 cases rn
 exact rS I rx ty e fun tk=>⟨.bl b,H,I.tok tk,rfl,q⟩
theorem vg:SlR X (fun x lo hi H Q=>∃ z,x=.str z/\z.length<=sizeLine/\Q (.str (Txt.slice z lo hi)) H):=by
 intro pins s σ H x v vl vu lo hi sl Q I rx hs pl pu h
 obtain ⟨z,rfl,hz,q⟩:=h
 obtain ⟨t,rfl⟩:=rx
 refine ⟨"str",_,slot_str_getitem.lookup,typeIs_str _ _ _,?_⟩
 have fin:(Txt.slice z lo hi).length<=sizeLine/\∀ t' k,EP X pins σ Q (.str (Txt.slice z lo hi) t') { s with toks:=k }:=⟨ϔ (Txt.slice_le z _ _) hz,fun t' k=>⟨.str _,H,I.tok _,⟨_,rfl⟩,q⟩⟩
 cases pl with
 | none=>
  cases pu with
  | none=>exact y6 (l:=none) (u:=none) (st:=none) hs rfl (CY fin)
  | int j uj=>exact y6 (l:=none) (u:=some (j,uj)) (st:=none) hs rfl (CY fin)
 | int i ui=>
  cases pu with
  | none=>exact y6 (l:=some (i,ui)) (u:=none) (st:=none) hs rfl (CY fin)
  | int j uj=>exact y6 (l:=some (i,ui)) (u:=some (j,uj)) (st:=none) hs rfl (CY fin)
end
open PySem PySem.Spec PyProof.Rows PySem.W
section
variable {cmp:Nat->Nat->(Bool->ι->Prop)->ι->Prop} {lt:Nat->Nat->Bool} {n:Nat} {s:ι}
structure Ord (cmp:Nat->Nat->(Bool->ι->Prop)->ι->Prop) (lt:Nat->Nat->Bool) (n:Nat) (s:ι):Prop where
 ask:∀ i j C,i < n->j < n->i≠j->C (lt i j) s->cmp i j C s
 tr:∀ i j k,lt i j=true->lt j k=true->lt i k=true
 tot:∀ i j,i < n->j < n->i≠j->lt i j=false->lt j i=true
 asym:∀ i j,lt i j=true->lt j i=false
structure Re (n:Nat) (p:Array Nat):Prop where
 size:p.size=n
 lt:∀ i,i < n->p.getD i 0 < n
 inj:∀ i j,i < n->j < n->i≠j->p.getD i 0≠p.getD j 0
 perm:p.Perm (List.toArray (Ω n))
theorem Re.of_perm {p:Array Nat} (h:p.Perm (List.toArray (Ω n))):Re n p:=by
 have hs:p.size=n:=by have:=h.size_eq; simpa using this
 have hl:p.toList.Perm (Ω n):=by simpa using B3.mp h
 have nd:p.toList.Nodup:=(Ev.nodup_iff hl).mpr List.nodup_range
 have get:∀ i,(hi:i < n)->p.getD i 0=p.toList[i]'(by simpa [hs] using hi):=fun i hi=>by
  simp [Ep,hs,hi]
 refine ⟨hs,fun i hi=>?_,fun i j hi hj hij e=>?_,h⟩
 ·have hm:p.getD i 0∈p.toList:=by rw [get i hi]; exact k8 _
  exact ϸ.mp ((Ev.mem_iff hl).mp hm)
 ·rw [get i hi,get j hj] at e
  exact hij ((B8 nd).mp e)
def Up (lt:Nat->Nat->Bool) (p:Array Nat) (m:Nat):Prop:=∀ i j,i < j->j < m->lt (p.getD i 0) (p.getD j 0)=true
def Dn (lt:Nat->Nat->Bool) (p:Array Nat) (m:Nat):Prop:=∀ i j,i < j->j < m->lt (p.getD j 0) (p.getD i 0)=true
theorem Up.next {p:Array Nat} {m:Nat} (O:Ord cmp lt n s) (h:Up lt p m) (h1:1<=m) (hq:lt (p.getD (m - 1) 0) (p.getD m 0)=true):Up lt p (m + 1):=fun i j hij hj=>by
 by_cases e:j=m
 ·subst e
  by_cases e2:i=j - 1
  ·subst e2; exact hq
  ·exact O.tr _ _ _ (h i (j - 1) (by omega) (by omega)) hq
 ·exact h i j hij (by omega)
theorem Dn.next {p:Array Nat} {m:Nat} (O:Ord cmp lt n s) (h:Dn lt p m) (h1:1<=m) (hq:lt (p.getD m 0) (p.getD (m - 1) 0)=true):Dn lt p (m + 1):=fun i j hij hj=>by
 by_cases e:j=m
 ·subst e
  by_cases e2:i=j - 1
  ·subst e2; exact hq
  ·exact O.tr _ _ _ hq (h i (j - 1) (by omega) (by omega))
 ·exact h i j hij (by omega)
theorem pT {p:Array Nat} {Q:Nat->ι->Prop} (O:Ord cmp lt n s) (r:Re n p):∀ (f m:Nat),1<=m->m + f<=n->Up lt p m->(∀ m',m<=m'->m'<=m + f->Up lt p m'->(m'=m + f\/lt (p.getD m' 0) (p.getD (m' - 1) 0)=true)->Q m' s)->(kas_asc p f m).kasWp cmp Q s
 | 0,m,h1,hm,u,q=>q m (τ _) (τ _) u (.inl rfl)
 | f + 1,m,h1,hm,u,q=>by
  show cmp _ _ _ s
  refine O.ask _ _ _ (r.lt m (by omega)) (r.lt (m - 1) (by omega)) (r.inj _ _ (by omega) (by omega) (by omega)) ?_
  cases c:lt (p.getD m 0) (p.getD (m - 1) 0) with
  | true=>
   show (KasT.ret m).kasWp cmp Q s
   exact q m (τ _) (by omega) u (.inr c)
  | false=>
   show (kas_asc p f (m + 1)).kasWp cmp Q s
   have hq:=O.tot _ _ (r.lt m (by omega)) (r.lt (m - 1) (by omega)) (r.inj _ _ (by omega) (by omega) (by omega)) c
   refine pT O r f (m + 1) (by omega) (by omega) (u.next O h1 hq) fun m' a b c d=>q m' (by omega) (by omega) c ?_
   rcases d with d | d
   ·exact .inl (by omega)
   ·exact .inr d
theorem qW {p:Array Nat} {Q:Array Nat×Nat×Nat->ι->Prop} (O:Ord cmp lt n s) (r:Re n p):∀ (f m:Nat),1<=m->m + f<=n->Dn lt p m->(∀ m',m<=m'->m'<=m + f->Dn lt p m'->Q (p,m',0) s)->(kas_desc f p m 0).kasWp cmp Q s
 | 0,m,h1,hm,u,q=>q m (τ _) (τ _) u
 | f + 1,m,h1,hm,u,q=>by
  show cmp _ _ _ s
  refine O.ask _ _ _ (r.lt m (by omega)) (r.lt (m - 1) (by omega)) (r.inj _ _ (by omega) (by omega) (by omega)) ?_
  cases c:lt (p.getD m 0) (p.getD (m - 1) 0) with
  | true=>
   show (kas_desc f p (m + 1) 0).kasWp cmp Q s
   exact qW O r f (m + 1) (by omega) (by omega) (u.next O h1 c) fun m' a b c=>q m' (by omega) (by omega) c
  | false=>
   show cmp _ _ _ s
   refine O.ask _ _ _ (r.lt (m - 1) (by omega)) (r.lt m (by omega)) (r.inj _ _ (by omega) (by omega) (by omega)) ?_
   rw [O.tot _ _ (r.lt m (by omega)) (r.lt (m - 1) (by omega)) (r.inj _ _ (by omega) (by omega) (by omega)) c]
   show (KasT.ret (p,m,0)).kasWp cmp Q s
   exact q m (τ _) (by omega) u
theorem qB {p:Array Nat} {m k:Nat} (hm:m<=p.size):(kas_rev p 0 m).getD k 0=if k < m then p.getD (m - 1 - k) 0 else p.getD k 0:=by
 have h:=getElem?_mirror_all (xs:=p) (i:=0) (j:=m) hm k
 have e1:∀ (a:Array Nat) (i:Nat),a.getD i 0=(a[i]?).getD 0:=fun a i=>by rw [A8]
 rw [e1]
 unfold kas_rev
 rw [h]
 by_cases hk:k < m
 ·rw [if_pos hk]
  simp only [e1]
  rw [if_pos (by omega)]
  congr 2
  omega
 ·rw [if_neg hk]
  simp only [e1]
  rw [if_neg (by omega)]
theorem vP {p:Array Nat} {m:Nat} (r:Re n p):Re n (kas_rev p 0 m):=Re.of_perm ((mirror_perm p 0 m _).trans r.perm)
theorem uP {Q:Nat×Array Nat->ι->Prop} {p:Array Nat} (O:Ord cmp lt n s) (r:Re n p) (h2:2<=n) (q:∀ m p',Re n p'->1<=m->m<=n->Up lt p' m->Q (m,p') s):(kas_count n p).kasWp cmp Q s:=by
 unfold kas_count
 rw [Ch]
 refine pT O r (n - 1) 1 (τ _) (by omega) (fun i j h1 h2=>by omega) fun m a b u e=>?_
 by_cases hm:(m == n)=true
 ·rw [if_pos hm]
  exact q m p r a (by omega) u
 ·rw [if_neg hm]
  have hmn:m≠n:=by simpa using hm
  by_cases h1:m > 1
  ·rw [if_pos h1]
   show cmp _ _ _ s
   refine O.ask _ _ _ (r.lt 0 (by omega)) (r.lt (m - 1) (by omega)) (r.inj _ _ (by omega) (by omega) (by omega)) ?_
   rw [u 0 (m - 1) (by omega) (by omega)]
   show (KasT.ret (m,p)).kasWp cmp Q s
   exact q m p r a (by omega) u
  ·rw [if_neg h1]
   have e1:m=1:=by omega
   subst e1
   have hd:lt (p.getD 1 0) (p.getD 0 0)=true:=by
    rcases e with e | e
    ·omega
    ·exact e
   unfold kas_descPart
   rw [Ch]
   refine qW O r (n - (1 + 1)) (1 + 1) (by omega) (by omega) (fun i j h1 h2=>?_) fun m' a' b' dn=>?_
   ·have:i=0:=by omega
    have:j=1:=by omega
    subst_vars
    exact hd
   ·show (if (0:Nat) > 0 then _ else kas_tail3 m' n p).kasWp cmp Q s
    rw [if_neg (by omega)]
    unfold kas_tail3
    rw [Ch]
    have up:Up lt (kas_rev p 0 m') m':=fun i j hij hj=>by
     rw [qB (by rw [r.size]; omega),qB (by rw [r.size]; omega),if_pos (by omega),if_pos (by omega)]
     exact dn _ _ (by omega) (by omega)
    refine pT O (vP r) (n - m') m' (by omega) (by omega) up fun m2 a2 b2 u2 _=>?_
    exact q m2 _ (vP r) (by omega) (by omega) u2
theorem ib {p:Array Nat} {k:Nat} {Q:Nat->ι->Prop} (O:Ord cmp lt n s) (r:Re n p) (hk:k < n) (u:Up lt p k) (q:∀ l,l<=k->(∀ i,i < l->lt (p.getD i 0) (p.getD k 0)=true)->(∀ i,l<=i->i < k->lt (p.getD k 0) (p.getD i 0)=true)->Q l s) :
  ∀ (f l e:Nat),l<=e->e<=k->e - l<=f->(∀ i,i < l->lt (p.getD i 0) (p.getD k 0)=true)->(∀ i,e<=i->i < k->lt (p.getD k 0) (p.getD i 0)=true)->(kas_place p k f l e).kasWp cmp Q s
 | 0,l,e,h1,h2,h3,a,b=>q l (by omega) a fun i hi hk'=>b i (by omega) hk'
 | f + 1,l,e,h1,h2,h3,a,b=>by
  show (if l>=e then KasT.ret l else _).kasWp cmp Q s
  by_cases h:l>=e
  ·rw [if_pos h]
   exact q l (by omega) a fun i hi hk'=>b i (by omega) hk'
  ·rw [if_neg h]
   show cmp _ _ _ s
   have hm:(l + e) / 2 < k:=by omega
   refine O.ask _ _ _ (r.lt k hk) (r.lt _ (by omega)) (r.inj _ _ hk (by omega) (by omega)) ?_
   cases c:lt (p.getD k 0) (p.getD ((l + e) / 2) 0) with
   | true=>
    show (kas_place p k f l ((l + e) / 2)).kasWp cmp Q s
    refine ib O r hk u q f l _ (by omega) (by omega) (by omega) a fun i hi hk'=>?_
    by_cases ei:i=(l + e) / 2
    ·subst ei; exact c
    ·exact O.tr _ _ _ c (u _ i (by omega) hk')
   | false=>
    show (kas_place p k f ((l + e) / 2 + 1) e).kasWp cmp Q s
    have c':=O.tot _ _ (r.lt k hk) (r.lt _ (by omega)) (r.inj _ _ hk (by omega) (by omega)) c
    refine ib O r hk u q f _ e (by omega) h2 (by omega) (fun i hi=>?_) b
    by_cases ei:i=(l + e) / 2
    ·subst ei; exact c'
    ·exact O.tr _ _ _ (u i _ (by omega) hm) c'
theorem qU {p:Array Nat} {k d j:Nat} (hk:k < p.size) (hd:d<=k):(bubble p k d).getD j 0=if j < k - d\/k < j then p.getD j 0 else if j=k - d then p.getD k 0 else p.getD (j - 1) 0:=by
 have e1:∀ (a:Array Nat) (i:Nat),a.getD i 0=(a[i]?).getD 0:=fun a i=>by rw [A8]
 have h:=getElem?_bubble (xs:=p) (src:=k) hk d hd j
 rw [e1,h]
 by_cases a:j=k - d
 ·rw [if_pos a,if_neg (by omega),if_pos a,e1]
 ·rw [if_neg a]
  by_cases b:k - d < j/\j<=k
  ·rw [if_pos b,if_neg (by omega),if_neg a,e1]
  ·rw [if_neg b,if_pos (by omega),e1]
theorem uL {Q:Array Nat->ι->Prop} (O:Ord cmp lt n s) (q:∀ p,Re n p->Up lt p n->Q p s):∀ (f k:Nat) (p:Array Nat),Re n p->1<=k->k + f=n->Up lt p k->(kas_bin f p k).kasWp cmp Q s
 | 0,k,p,r,h1,hn,u=>q p r (by rw [<- hn]; exact u)
 | f + 1,k,p,r,h1,hn,u=>by
  show ((kas_place p k k 0 k).bind fun l=>kas_bin f (bubble p k (k - l)) (k + 1)).kasWp cmp Q s
  rw [Ch]
  refine ib O r (by omega) u (fun l hl a b=>?_) k 0 k (Χ _) (τ _) (by omega) (fun i hi=>by omega) (fun i h1 h2=>by omega)
  have hks:k < p.size:=by rw [r.size]; omega
  refine uL O q f (k + 1) _ (Re.of_perm ((bubble_perm p k _).trans r.perm)) (by omega) (by omega) fun i j hij hj=>?_
  rw [qU hks (by omega),qU hks (by omega)]
  have ek:k - (k - l)=l:=by omega
  rw [ek]
  by_cases hi:i < l
  ·rw [if_pos (.inl hi)]
   by_cases hj2:j < l
   ·rw [if_pos (.inl hj2)]; exact u i j hij (by omega)
   ·rw [if_neg (by omega)]
    by_cases hj3:j=l
    ·rw [if_pos hj3]; exact a i hi
    ·rw [if_neg hj3]; exact u i (j - 1) (by omega) (by omega)
  ·rw [if_neg (by omega)]
   by_cases hi2:i=l
   ·rw [if_pos hi2,if_neg (by omega),if_neg (by omega)]
    exact b (j - 1) (by omega) (by omega)
   ·rw [if_neg hi2,if_neg (by omega),if_neg (by omega)]
    exact u (i - 1) (j - 1) (by omega) (by omega)
theorem wz {Q:Array Nat->ι->Prop} (O:Ord cmp lt n s) (h2:2<=n) (q:∀ p,Re n p->Up lt p n->Q p s):(kas_sort n).kasWp cmp Q s:=by
 unfold kas_sort
 rw [Ch]
 refine uP O (Re.of_perm (Array.Perm.refl _)) h2 fun m p r h1 hm u=>?_
 show (if m < n then kas_bin (n - max m 1) p (max m 1) else .ret p).kasWp cmp Q s
 have em:max m 1=m:=by omega
 rw [em]
 by_cases h:m < n
 ·rw [if_pos h]
  exact uL O q (n - m) m p r h1 (by omega) u
 ·rw [if_neg h]
  have:m=n:=by omega
  subst this
  exact q p r u
end
theorem ji {prog:Β} {w:Ξ} {A:Φ} {E:δ->ι->Prop} {st:ι} {l:Addr} {us:List δ} {ep:Nat} {R:PySem.Fin->ι->Prop} (at0:st.heap.get? l=some (seqObj "list" us.toArray ep)) (few:us.length < 2)
  (fin:∀ hp ep',(∀ b o,b≠l->st.heap.get? b=some o->hp.get? b=some o)->hp.get? l=some (seqObj "list" us.toArray ep')->R (.done (.ret .none)) { st with heap:=hp }) :
  wpAny (model prog w) A (Ϣ.«list.sort» ⟨[.ref l],[]⟩) R E st:=by
 have sz:us.toArray.size=us.length:=by simp
 have lt0:l < st.heap.objs.size:=υ at0
 have line:us.length<=sizeLine:=by rw [ψ]; omega
 rw [list_sort_plain]
 refine γ (listItems_at at0 rfl (γ (listUpdate_at at0 rfl ?_ (by rw [sz]; exact line) (Χ _))))
 have at1:=get?_update_seq at0 (fun _=>(#[]:Array δ))
 refine γ (seqEpoch_at at1 rfl (γ (wpAny_newTuple ?_ (by show us.length<=_; exact line))))
 refine γ (wpAny_newList ?_ (Χ _))
 refine a7 ?_
 rw [if_pos (by rw [sz]; exact few),if_pos (by rw [sz]; exact few)]
 show wpAny (model prog w) A _ R E { st with heap:=((st.heap.update l (o0 fun _=>(#[]:Array δ))).push (seqObj "tuple" us.toArray 0)).push (seqObj "list" #[] 0) }
 have at2:(((st.heap.update l (o0 fun _=>(#[]:Array δ))).push (seqObj "tuple" us.toArray 0)).push (seqObj "list" #[] 0)).get? l=some (seqObj "list" #[] (if ((#[]:Array δ).size == us.toArray.size)=true then ep else ep + 1)):=by
  rw [Ct _ _ _ (by rw [size_push',CD]; exact pF lt0),Ct _ _ _ (by rw [CD]; exact nlt lt0)]
  exact at1
 have all:(arrOf (SortSt.mk' general' (us.toArray.zip us.toArray) #[] 7 none)).map (·.2)=us.toArray:=by
  show (us.toArray.zip us.toArray).map (·.2)=us.toArray
  apply Array.ext'
  simp [List.map_snd_zip]
 have at3:=get?_update_seq at2 (fun _=>us.toArray)
 refine γ (ξ ?_)
 dsimp only
 rw [StateT.run_pure]
 refine γ (ξ ?_)
 dsimp only
 refine γ (seqEpoch_at at2 rfl ?_)
 refine γ (listUpdate_at at2 rfl ?_ (Χ _) (by rw [all,sz]; omega))
 simp only [bne_self_eq_false,Dm,if_false]
 rw [all]
 refine ξ (fin _ _ (fun b o hb e=>?_) at3)
 rw [Heap.get?_update_ne _ _ _ _ hb,Ct _ _ _ (by rw [size_push',CD]; exact pF (υ e)),Ct _ _ _ (by rw [CD]; exact nlt (υ e)),Heap.get?_update_ne _ _ _ _ hb]
 exact e
theorem yK {h:Heap} {a:Addr} {m m':Str->Option δ} (x:h.Ns a m) (y:h.Ns a m'):m=m':=by
 obtain ⟨o,es,ep,e,d,_,f⟩:=x
 obtain ⟨o',es',ep',e',d',_,f'⟩:=y
 rw [e] at e'
 cases e'
 rw [d] at d'
 cases d'
 funext z
 rw [<- f z,f' z]
theorem wQ {a b:List Nat} (h:¬ a < b) (h2:a≠b):b < a:=by
 by_cases h3:b < a
 ·exact h3
 ·exact absurd (List.le_antisymm (List.not_lt.mp h3) (List.not_lt.mp h)) h2
theorem wC {a b:Str} (h:a.cps.toList=b.cps.toList):a=b:=by
 cases a
 cases b
 congr 1
 exact Array.ext' h
section
variable {X:Cx} {pins:List (Addr×Obj)} {σ:St} {H:Hp} {s:ι}
abbrev TK:=Addr×Str×List V
def ux (p q:TK):Prop:=p.2.1.cps.toList < q.2.1.cps.toList
theorem wS (ps:List TK):∀ (us:List δ),au (ps.map fun p=>V.ref p.1) us->us=ps.map fun p=>Η p.1:=by
 induction ps with
 | nil=>
  intro us r
  cases r
  rfl
 | cons p ps ih=>
  intro us r
  rw [Ο] at r ⊢
  cases r with
  | cons r t=>
   rw [ih _ t,show _=Η p.1 from r]
theorem gp (ps:List TK):au (ps.map fun p=>V.ref p.1) (ps.map fun p=>Η p.1):=by
 induction ps with
 | nil=>exact .nil
 | cons p ps ih=>exact .cons rfl ih
theorem vA (I:Inv X pins σ H s) {a:Addr} {x:Str} {r:List V} (h:H a=some (.tup (.str x :: r))):∃ (o:Obj) (us:List δ) (n:Nat) (t:Tok),s.heap.get? a=some o/\o.cls=.type "tuple"/\o.data=.seq (ϲ x t :: us).toArray n:=by
 obtain ⟨_,its,rv,⟨o,e,c,n,d⟩,_⟩:=(show aV X.prog X.w H s.heap a (.tup (.str x :: r)) from I.hok a _ h)
 cases rv with
 | cons r1 r2=>
  obtain ⟨t,rfl⟩:=r1
  exact ⟨o,_,n,t,e,c,d⟩
theorem rN {n:Nat} {p:Array Nat} {α:Type} {d:α} {ps:List α} (hn:ps.length=n) (r:Re n p):(p.toList.map fun i=>ps.getD i d).Perm ps:=by
 have hl:p.toList.Perm (Ω n):=by simpa using B3.mp r.perm
 refine (hl.map _).trans ?_
 have e:(Ω n).map (fun i=>ps.getD i d)=ps:=by
  apply Cu
  intro i
  rw [Κ]
  by_cases hi:i < n
  ·rw [C6 hi]
   simp [t7,show i < ps.length by omega]
  ·rw [ϵ (by simpa using hi),ϵ (by omega)]
   rfl
 rw [e]
theorem jb {n:Nat} {p:Array Nat} {α:Type} {d:α} {ps:List α} {R:α->α->Prop} {lt:Nat->Nat->Bool} (hlt:∀ i j,i < n->j < n->lt i j=true->R (ps.getD i d) (ps.getD j d)) (r:Re n p) (u:Up lt p n):(p.toList.map fun i=>ps.getD i d).Pairwise R:=by
 rw [List.pairwise_iff_getElem]
 intro i j hi hj hij
 rw [ζ,Ϟ,r.size] at hi hj
 have get:∀ k (hk:k < n) h,(p.toList.map fun i=>ps.getD i d)[k]'h=ps.getD (p.getD k 0) d:=fun k hk h=>by
  rw [CF]
  congr 1
  simp [Ep,r.size,hk]
 rw [get i hi,get j hj]
 exact hlt _ _ (r.lt i hi) (r.lt j hj) (u i j hij hj)
end
open PySem PySem.Spec PyProof.Rows
def AX (N:List Str) (sc scope:Cm) (ix:List Nat):Bool:=
 decide (scope.kind=.function) && scope.names.all (fun y=>decide (y.2≠.cell)) && scope.names.all (fun y=>decide (y.2=.local->scope.names.lookup y.1=some .local)) &&
 scope.names.all (fun y=>decide (y.2=.free->sc.names.lookup y.1=some .cell\/sc.names.lookup y.1=some .free)) &&
 ix.all (fun j=>decide (j < N.length) && match N[j]? with | some x=>scope.names.any (fun y=>decide (y.1=x) && decide (y.2=.free)) && decide (scope.names.lookup x=some .free) | none=>false)
theorem cy.of {N:List Str} {sc scope:Cm} {own:List Str} {ix:List Nat} (h:AX N sc scope ix=true):cy N sc scope own ix:=by
 unfold AX at h
 simp only [Θ,decide_eq_true_eq,Ϯ] at h
 obtain ⟨⟨⟨⟨h1,h2⟩,h3⟩,h4⟩,h5⟩:=h
 refine ⟨h1,h2,h3,h4,fun j hj x hx=>?_,fun j hj=>(h5 j hj).1⟩
 have:=(h5 j hj).2
 rw [hx] at this
 simp only [Θ,decide_eq_true_eq,a_] at this
 obtain ⟨⟨⟨n,k⟩,hy,e1,e2⟩,e3⟩:=this
 have e1':n=x:=e1
 have e2':k=.free:=e2
 subst e1' e2'
 exact ⟨hy,e3⟩
theorem cc {l N:List Str} (h:l.Nodup) (e:N=l):N.Nodup:=by rw [e]; exact h
structure Def (P:Β) (w:Ξ) (K:PySem.W.Frag) (mg:Str->Option δ) (base:Heap) (k:Nat) (x:Str) (ps:List Str) (sp:Sp):Prop where
 ex:∃ f fd,aK P w K mg base CX0 k f fd ps sp/\bG K fd ps []/\PySem.W.keepIn K (.ref f)=true/\mg x=some (.ref f)
theorem Def.up {P:Β} {w:Ξ} {K:PySem.W.Frag} {mg:Str->Option δ} {base:Heap} {j k:Nat} {x:Str} {ps:List Str} {sp:Sp} (d:Def P w K mg base j x ps sp) (h:j<=k):Def P w K mg base k x ps sp:=
 let ⟨f,fd,F,b,kp,m⟩:=d.ex
 ⟨f,fd,F.mono h,b,kp,m⟩
theorem pe_def {X:Cx} {k:Nat} {x:Str} {ps:List Str} {sp:Sp} {p pos:Pos} {e:Expr} {es:List Expr} {t:TA} (d:Def X.prog X.w X.K X.mg X.base k x ps sp) (hr:bH k X.A) (hg:Gl X x) (ha:PA X (e :: es) t) (hdb:(x == ("__debug__" : Str))=false:=by decide)
  (he:starEach (e :: es) X.env=(false,eval e X.env) :: starEach es X.env:=by rfl) (hpl:(backTo pos (starEach es X.env)).any (·.1)=false:=by rfl):PE X (.Call (.Name x p) (e :: es) [] pos) (wa sp [] E0 t):=by
 obtain ⟨f,fd,F,b,kp,m⟩:=d.ex
 exact qL F hr hg m kp b .nil yh ha hdb he hpl
inductive Dv where
 | non | bl (b:Bool) | int (i:Int) | str (x:Str) | tup (xs:List Dv) | lst (xs:List Dv) | dct
mutual
def Rep (H:Hp):Dv->V->Prop
 | .non,v=>v=.non
 | .bl b,v=>v=.bl b
 | .int i,v=>v=.int i
 | .str x,v=>v=.str x
 | .tup ds,v=>∃ a vs,v=.ref a/\H a=some (.tup vs)/\Reps H ds vs
 | .lst ds,v=>∃ a vs,v=.ref a/\H a=some (.lst vs)/\Reps H ds vs
 | .dct,v=>∃ a,v=.ref a/\H a=some (.dK [])
def Reps (H:Hp):List Dv->List V->Prop
 | [],vs=>vs=[]
 | d :: ds,vs=>∃ v r,vs=v :: r/\Rep H d v/\Reps H ds r
end
mutual
theorem Rep.mono {H H':Hp} (s:ad H H'):∀ {d:Dv} {v:V},Rep H d v->Rep H' d v
 | .non,_,h=>by simpa only [Rep] using h
 | .bl b,_,h=>by simpa only [Rep] using h
 | .int i,_,h=>by simpa only [Rep] using h
 | .str x,_,h=>by simpa only [Rep] using h
 | .tup ds,_,h=>by
  simp only [Rep] at h ⊢
  obtain ⟨a,vs,e,h1,h2⟩:=h
  exact ⟨a,vs,e,s _ _ h1,Reps.mono s h2⟩
 | .lst ds,_,h=>by
  simp only [Rep] at h ⊢
  obtain ⟨a,vs,e,h1,h2⟩:=h
  exact ⟨a,vs,e,s _ _ h1,Reps.mono s h2⟩
 | .dct,_,h=>by
  simp only [Rep] at h ⊢
  obtain ⟨a,e,h1⟩:=h
  exact ⟨a,e,s _ _ h1⟩
theorem Reps.mono {H H':Hp} (s:ad H H'):∀ {ds:List Dv} {vs:List V},Reps H ds vs->Reps H' ds vs
 | [],_,h=>by simpa only [Reps] using h
 | d :: ds,_,h=>by
  simp only [Reps] at h ⊢
  obtain ⟨v,r,e,h1,h2⟩:=h
  exact ⟨v,r,e,Rep.mono s h1,Reps.mono s h2⟩
end
theorem Reps.length {H:Hp}:∀ {ds:List Dv} {vs:List V},Reps H ds vs->vs.length=ds.length
 | [],_,h=>by simp only [Reps] at h; subst h; rfl
 | d :: ds,_,h=>by
  simp only [Reps] at h
  obtain ⟨v,r,e,h1,h2⟩:=h
  subst e
  rw [Υ,Υ,Reps.length h2]
theorem Reps.get {H:Hp}:∀ {ds:List Dv} {vs:List V},Reps H ds vs->∀ {i:Nat} {v:V},vs[i]?=some v->∃ d,ds[i]?=some d/\Rep H d v
 | [],_,h,i,v,e=>by simp only [Reps] at h; subst h; simp at e
 | d :: ds,_,h,i,v,e=>by
  simp only [Reps] at h
  obtain ⟨v',r,e',h1,h2⟩:=h
  subst e'
  cases i with
  | zero => exact ⟨d, rfl, by have : v' = v := by simpa using e
                              subst this; exact h1⟩
  | succ i=>obtain ⟨d',e1,e2⟩:=Reps.get h2 (i:=i) (v:=v) (by simpa using e); exact ⟨d',by simpa using e1,e2⟩
def Dv.tn:Dv->String
 | .non=>"NoneType" | .bl _=>"bool" | .int _=>"int" | .str _=>"str" | .tup _=>"tuple" | .lst _=>"list" | .dct=>"dict"
theorem Rep.ty {K:PySem.W.Frag} {H:Hp} {d:Dv} {v:V} (h:Rep H d v):fu K H v (.type d.tn):=by
 cases d with
 | non=>simp only [Rep] at h; subst h; exact .non
 | bl b=>simp only [Rep] at h; subst h; exact .bl b
 | int i=>simp only [Rep] at h; subst h; exact .int i
 | str x=>simp only [Rep] at h; subst h; exact .str x
 | tup ds=>simp only [Rep] at h; obtain ⟨a,vs,rfl,h1,_⟩:=h; exact .tup h1
 | lst ds=>simp only [Rep] at h; obtain ⟨a,vs,rfl,h1,_⟩:=h; exact .lst h1
 | dct=>simp only [Rep] at h; obtain ⟨a,rfl,h1⟩:=h; exact .dK h1
def isT (d:Dv) (n:String):Bool:=d.tn == n || (d.tn == "bool" && n == "int")
theorem wT (K:PySem.W.Frag) (d:Dv):PySem.W.kitOne K (.type d.tn) (.type "int")=some (isT d "int"):=by
 unfold PySem.W.kitOne PySem.W.kitCls
 cases d <;> kernel_rfl
theorem oj (K:PySem.W.Frag) (d:Dv):PySem.W.kitOne K (.type d.tn) (.type "bool")=some (isT d "bool"):=by
 unfold PySem.W.kitOne PySem.W.kitCls
 cases d <;> kernel_rfl
theorem lm (K:PySem.W.Frag) (d:Dv):PySem.W.kitOne K (.type d.tn) (.type "str")=some (isT d "str"):=by
 unfold PySem.W.kitOne PySem.W.kitCls
 cases d <;> kernel_rfl
theorem cj (K:PySem.W.Frag) (d:Dv):PySem.W.kitOne K (.type d.tn) (.type "tuple")=some (isT d "tuple"):=by
 unfold PySem.W.kitOne PySem.W.kitCls
 cases d <;> kernel_rfl
theorem vb (K:PySem.W.Frag) (d:Dv):PySem.W.kitOne K (.type d.tn) (.type "list")=some (isT d "list"):=by
 unfold PySem.W.kitOne PySem.W.kitCls
 cases d <;> kernel_rfl
section
variable {k:Nat} {ix:List Nat} {g:TG} {tt:TT} {te:TE} {σ:St} {H1:Hp} {Q:List V->Hp->Prop}
theorem pA {f F:Nat->V} {n:Nat} (hs:∀ i ys,i < n->ys.length=i->cC k ix g tt te σ (f i) ys H1 fun ys' H'=>ys'=ys ++ [F i]/\H'=H1) (hd:Q ((Ω n).map F) H1):rLC (Itf f n) k ix g tt te σ H1 Q:=by
 refine ⟨fun i m ys H=>m=n - i/\i<=n/\H=H1/\ys=(Ω i).map F,⟨n,by simp,Χ _,rfl,rfl⟩,?_⟩
 rintro i m ys H ⟨rfl,hi,rfl,rfl⟩
 by_cases hlt:i < n
 ·refine .inr ⟨hlt,fun ys' H'=>ys'=(Ω i).map F ++ [F i]/\H'=H,fun ys' H' ⟨e1,e2⟩=>⟨n - (i + 1),by omega,rfl,hlt,e2,by rw [e1,Ci,ω]; rfl⟩,fun x H' y=>?_⟩
  obtain ⟨e,y⟩:=y
  subst e y
  exact hs i _ hlt (by simp)
 ·have e:i=n:=by omega
  subst e
  exact .inl ⟨rfl,hd⟩
theorem kW {F:Nat->V} {lo:Int} {n:Nat} (hs:∀ i ys,i < n->ys.length=i->cC k ix g tt te σ (.int (lo + i)) ys H1 fun ys' H'=>ys'=ys ++ [F i]/\H'=H1) (hd:Q ((Ω n).map F) H1):rLC (Itr lo n) k ix g tt te σ H1 Q:=by
 refine ⟨fun i m ys H=>m=n - i/\i<=n/\H=H1/\ys=(Ω i).map F,⟨n,by simp,Χ _,rfl,rfl⟩,?_⟩
 rintro i m ys H ⟨rfl,hi,rfl,rfl⟩
 by_cases hlt:i < n
 ·refine .inr ⟨hlt,fun ys' H'=>ys'=(Ω i).map F ++ [F i]/\H'=H,fun ys' H' ⟨e1,e2⟩=>⟨n - (i + 1),by omega,rfl,hlt,e2,by rw [e1,Ci,ω]; rfl⟩,fun x H' y=>?_⟩
  obtain ⟨e,y⟩:=y
  subst e y
  exact hs i _ hlt (by simp)
 ·have e:i=n:=by omega
  subst e
  exact .inl ⟨τ _,hd⟩
theorem bF {i:Nat} {x:V} {ys:List V} {H:Hp} {N:List V->Hp->Prop} (h:te ((cA k ix σ).set i (some x)) H fun y H4=>ys.length < sizeLine/\N (ys ++ [y]) H4):cC k ix (cb i) zq te σ x ys H N:=by
 exact av (B:=N ys H) h
theorem iu {i j:Nat} {K:PySem.W.Frag} {a:Addr} {x y:V} {ys:List V} {H:Hp} {N:List V->Hp->Prop} (ha:H a=some (.tup [x,y])) (h:te (((cA k ix σ).set i (some x)).set j (some y)) H fun y H4=>ys.length < sizeLine/\N (ys ++ [y]) H4) :
  cC k ix (wn K 2 (gJ (cb i) (gJ (cb j) rX))) zq te σ (.ref a) ys H N:=by
 refine ⟨a,_,rfl,SqT.of ha,rfl,_,_,rfl,_,_,rfl,rfl,?_⟩
 exact av (B:=N ys H) h
theorem wG {f:Nat->V} {n:Nat} {g:TG} {tb:TS} {D:bV} {σ:St} {H:Hp} (Pv:Nat->St->Hp->Prop) (h0:Pv 0 σ H)
  (hs:∀ i σ H,i < n->Pv i σ H->g (f i) σ H fun σ2 H2=>tb { D with nx:=Pv (i + 1),ct:=Pv (i + 1),bk:=D.nx } σ2 H2) (hd:∀ σ H,Pv n σ H->D.nx σ H) :
  ∃ W:Nat->Nat->St->Hp->Prop,(∃ m,W 0 m σ H)/\∀ i m σ H,W i m σ H ->
   ((Itf f n).stop i H/\D.nx σ H)\/((Itf f n).go i H/\∃ N:St->Hp->Prop,(∀ σ' H',N σ' H'->∃ m',m' < m/\W (i + 1) m' σ' H')/\∀ x H',(Itf f n).yld i H x H'->g x σ H' fun σ2 H2=>tb { D with nx:=N,ct:=N,bk:=D.nx } σ2 H2):=by
 refine ⟨fun i m σ H=>m=n - i/\i<=n/\Pv i σ H,⟨n,by simp,Χ _,h0⟩,?_⟩
 rintro i m σ H ⟨rfl,hi,p⟩
 by_cases hlt:i < n
 ·refine .inr ⟨hlt,Pv (i + 1),fun σ' H' p'=>⟨n - (i + 1),by omega,rfl,hlt,p'⟩,fun x H' y=>?_⟩
  obtain ⟨e,y⟩:=y
  subst e y
  exact hs i σ _ hlt p
 ·have e:i=n:=by omega
  subst e
  exact .inl ⟨rfl,hd σ H p⟩
theorem dE {K:PySem.W.Frag} {a:Addr} {xs:List V} {g:TG} {tb:TS} {D:bV} {σ:St} {H:Hp} (Pv:Nat->St->Hp->Prop) (h0:Pv 0 σ H) (hl:∀ i σ H,i<=xs.length->Pv i σ H->SqL K H a xs)
  (hs:∀ i x σ H p,xs[i]?=some x->Pv i σ H->H p=none->g (.ref p) σ (upd H p (.tup [.int i,x])) fun σ2 H2=>tb { D with nx:=Pv (i + 1),ct:=Pv (i + 1),bk:=D.nx } σ2 H2) (hd:∀ σ H,Pv xs.length σ H->D.nx σ H) :
  ∃ W:Nat->Nat->St->Hp->Prop,(∃ m,W 0 m σ H)/\∀ i m σ H,W i m σ H ->
   ((Ite K a).stop i H/\D.nx σ H)\/((Ite K a).go i H/\∃ N:St->Hp->Prop,(∀ σ' H',N σ' H'->∃ m',m' < m/\W (i + 1) m' σ' H')/\∀ x H',(Ite K a).yld i H x H'->g x σ H' fun σ2 H2=>tb { D with nx:=N,ct:=N,bk:=D.nx } σ2 H2):=by
 refine ⟨fun i m σ H=>m=xs.length - i/\i<=xs.length/\Pv i σ H,⟨xs.length,by simp,Χ _,h0⟩,?_⟩
 rintro i m σ H ⟨rfl,hi,p⟩
 have q:=hl i σ H hi p
 by_cases hlt:i < xs.length
 ·refine .inr ⟨⟨xs,xs[i],q,by simp [hlt]⟩,Pv (i + 1),fun σ' H' p'=>⟨xs.length - (i + 1),by omega,rfl,hlt,p'⟩,fun x H' y=>?_⟩
  obtain ⟨b,y,hb,e1,e2,hy⟩:=y
  subst e1 e2
  exact hs i y σ H b (hy xs q) p hb
 ·have e:i=xs.length:=by omega
  subst e
  exact .inl ⟨⟨xs,q,τ _⟩,hd σ H p⟩
end
mutual
def Dv.small:Dv->Bool
 | .str x=>decide (x.cps.size<=1000)
 | .tup xs=>smalls xs && decide (xs.length<=1000)
 | .lst xs=>smalls xs && decide (xs.length<=1000)
 | _=>true
def smalls:List Dv->Bool
 | []=>true
 | d :: ds=>d.small && smalls ds
end
theorem ck:∀ {ds:List Dv},smalls ds=true->∀ {i:Nat} {d:Dv},ds[i]?=some d->d.small=true
 | [],_,i,d,e=>by simp at e
 | x :: ds,h,i,d,e=>by
  simp only [smalls,Θ] at h
  cases i with
  | zero=>
   have e':x=d:=by simpa using e
   subst e'; exact h.1
  | succ i=>exact ck h.2 (i:=i) (by simpa using e)
theorem wU {x:Str} (h:x.cps.size<=1000):x.length<=sizeLine:=k9 (jv h)
theorem ac {H:Hp} {p:Addr} (h:H p=none) (o:HO):ad H (upd H p o):=fun b u q=>by rw [ag (ae q h)]; exact q
theorem gu {n:Nat} (h:n<=1000):n<=sizeLine:=k9 (jv h)
section
variable {X:Cx}
theorem md (K:PySem.W.Frag) (h:X.K=K):IxR X (oM K):=by subst h; exact aH
theorem wg (K:PySem.W.Frag) (h:X.K=K):IxR X (tH K):=by subst h; exact ao
end
section
variable {X:Cx}
end
def fY (t:TE) (σ:St) (H:Hp) (d:Dv):Prop:=∀ H1,ad H H1->∀ Q:VK,(∀ H' v,ad H1 H'->Rep H' d v->Q v H')->t σ H1 Q
def jz (t:TA) (σ:St) (H:Hp) (ds:List Dv):Prop:=∀ H1,ad H H1->∀ Q:List V->Hp->Prop,(∀ H' vs,ad H1 H'->Reps H' ds vs->Q vs H')->t σ H1 Q
section
variable {σ:St} {H:Hp} {d e:Dv} {ds es:List Dv} {ta tb:TE} {t:TA}
theorem aI:jz wK σ H []:=fun H1 s Q q=>q H1 [] (ad.refl _) (by simp [Reps])
theorem aj (h1:fY ta σ H d) (h2:jz t σ H ds):jz (rB ta t) σ H (d :: ds):=fun H1 s Q q=>
 h1 H1 s _ fun H2 v s2 R=>h2 H2 (s.trans s2) _ fun H3 vs s3 Rs=>q H3 (v :: vs) (s2.trans s3) (by simp only [Reps]; exact ⟨v,vs,rfl,R.mono s3,Rs⟩)
theorem aT (h:jz t σ H ds) (hz:ds.length<=1000):fY (zh t) σ H (.tup ds):=fun H1 s Q q=>
 h H1 s _ fun H2 vs s2 Rs=>⟨by rw [Rs.length]; exact gu hz,fun p hp=>q _ (.ref p) (s2.trans (ac hp _)) (by simp only [Rep]; exact ⟨p,vs,rfl,aa,Rs.mono (ac hp _)⟩)⟩
theorem uk (h:jz t σ H ds) (hz:ds.length<=1000):fY (tS t) σ H (.lst ds):=fun H1 s Q q=>
 h H1 s _ fun H2 vs s2 Rs=>⟨by rw [Rs.length]; exact gu hz,fun p hp=>q _ (.ref p) (s2.trans (ac hp _)) (by simp only [Rep]; exact ⟨p,vs,rfl,aa,Rs.mono (ac hp _)⟩)⟩
theorem uH {i:Int}:fY (tC (.int i)) σ H (.int i):=fun H1 _ Q q=>q H1 _ (ad.refl _) (by simp [Rep])
theorem bf {x:Str}:fY (tC (.str x)) σ H (.str x):=fun H1 _ Q q=>q H1 _ (ad.refl _) (by simp [Rep])
theorem dz {i:Nat} {v:V} (hv:σ[i]?=some (some v)) (R:Rep H d v):fY (fw i) σ H d:=fun H1 s Q q=>⟨v,hv,q H1 v (ad.refl _) (R.mono s)⟩
theorem Reps.append {H:Hp}:∀ {ds es:List Dv} {vs ws:List V},Reps H ds vs->Reps H es ws->Reps H (ds ++ es) (vs ++ ws)
 | [],_,_,_,h,g=>by simp only [Reps] at h; subst h; exact g
 | d :: ds,es,vs,ws,h,g=>by
  simp only [Reps] at h
  obtain ⟨v,r,rfl,h1,h2⟩:=h
  simp only [CG,Reps]
  exact ⟨v,r ++ ws,rfl,h1,Reps.append h2 g⟩
end
def ba (H:Hp) (l:Addr):Hp:=fun b=>if b=l then none else H b
theorem bx {H:Hp} {l:Addr}:ad (ba H l) H:=fun b o h=>by
 unfold ba at h
 by_cases e:b=l
 ·rw [if_pos e] at h; cases h
 ·rw [if_neg e] at h; exact h
theorem bu {H H':Hp} {l:Addr} (s:ad H H'):ad (ba H l) (ba H' l):=fun b o h=>by
 unfold ba at h ⊢
 by_cases e:b=l
 ·rw [if_pos e] at h; cases h
 ·rw [if_neg e] at h ⊢; exact s b o h
theorem fo {H H':Hp} {l:Addr} (s:ad H H') (hl:H l=none):ad H (ba H' l):=fun b o h=>by
 unfold ba
 rw [if_neg (ae h hl)]
 exact s b o h
theorem sX {H:Hp} {l p:Addr} {o:HO} (hl:H l≠none) (hp:H p=none):ba (upd H p o) l p=some o/\ad (ba H l) (ba (upd H p o) l):=by
 have ne:p≠l:=fun e=>hl (e▸hp)
 refine ⟨?_,bu (ac hp o)⟩
 unfold ba
 rw [if_neg ne,aa]
section
variable {σ:St} {H:Hp} {d e:Dv} {ds es:List Dv} {ta tb:TE} {t:TA} {l:Addr}
variable {i:Nat} {u:TS} {D:bV}
theorem vL (h:fY ta σ H d) (k:∀ H' v,ad H H'->Rep H' d v->u D (σ.set i (some v)) H'):lD (oA ta (cb i)) u D σ H:=h H (ad.refl H) _ k
end
section
variable {X:Cx}
end
section
variable {prog:Β} {w:Ξ} {K:Type} [DecidableEq K] {knd:PySem.KeyKind prog w K} {A:Φ} {R:DS->ι->Prop} {I d:Addr} {fp wr:List Addr} {n:Nat} {P:Nat->δ->Prop} {St:Nat->Heap->Prop}
end
section
variable {prog:Β} {w:Ξ} {K:Type} [DecidableEq K] {knd:PySem.KeyKind prog w K} {A:Φ} {E:δ->ι->Prop} {s:ι}
end
section
variable {X:Cx}
end
section
variable {X:Cx}
end
open PySem PySem.Spec PyProof.Rows PySem.W
section
variable {X:Cx} {pins:List (Addr×Obj)} {σ:St} {H:Hp} {s:ι}
theorem Inv.setList {D:Addr} {ys0 ys:List V} {its:List δ} {c:Nat} {h':Heap} {m:Str->Option δ} (I:Inv X pins σ H s) (hm:s.heap.Ns X.env.locals m) (hD:H D=some (.lst ys0)) (rv:au ys its) (hz:ys.length<=sizeLine)
  (F:h'.Ns X.env.locals m) (k:∀ b o,b≠X.env.locals->b≠D->s.heap.get? b=some o->h'.get? b=some o) (e:h'.get? D=some { cls:=.type "list",data:=.seq its.toArray c }):Inv X pins σ (upd H D (.lst ys)) { s with heap:=h' }:=by
 have nl:∀ b v,H b=some v->b≠X.env.locals:=fun b v q z=>by rw [z,I.free] at q; cases q
 have nD:∀ b,H b=none->b≠D:=fun b q z=>by rw [z,hD] at q; cases q
 have nT:∀ b v,H b=some v->v≠.lst ys0->b≠D:=fun b v q n z=>by rw [z,hD] at q; cases q; exact n rfl
 refine I.step (g':=s.gens) (d':=s.drawn) (t':=s.toks) (ch:=[]) (fun b hb=>by cases hb) (fun b o hL _ _ q n=>k b o hL (nD b n) q) (fun b o hL _ _ q n=>⟨o.slots,k b o hL (nD b n) q⟩) (fun b o _ q n=>by rw [ag (nD b n)]; exact n) (fun b o _ q=>?_)
  (fun b xs q=>by rw [ag (nT b _ q nofun)]; exact q) (fun b o v q=>by rw [ag (nT b _ q nofun)]; exact q) (fun b ps q=>⟨#[],by rw [ag (nT b _ q nofun),q]; simp⟩) (fun m' hm'=>by rw [yK hm' hm]; exact F) (fun b v q=>?_) I.bare
 ·by_cases hb:b=X.env.locals
  ·subst hb
   obtain ⟨o',_,_,q',_⟩:=F
   exact ⟨o',q'⟩
  ·by_cases hd:b=D
   ·subst hd; exact ⟨_,e⟩
   ·exact ⟨o,k b o hb hd q⟩
 ·by_cases hb:b=D
  ·subst hb
   rw [aa] at q
   cases q
   exact ⟨hz,its,c,rv,e⟩
  ·rw [ag hb] at q
   refine (I.hok b v q).stay (fun c w' hc q'=>?_) (fun c q'=>by rw [ag (nT c _ q' nofun)]; exact q') fun c xs q'=>by rw [ag (nT c _ q' nofun)]; exact q'
   rcases hc with z | z
   ·subst z; exact k c w' (nl c v q) hb q'
   ·exact k c w' (nl c _ z) (nT c _ z nofun) q'
theorem vV {A:Φ} {E:δ->ι->Prop} {l:Addr} {ps:List TK} {Q:δ->ι->Prop} (I:Inv X pins σ H s) (hq:H l=some (.lst (ps.map fun p=>V.ref p.1))) (ht:∀ p∈ps,H p.1=some (.tup (.str p.2.1 :: p.2.2)))
  (nd:(ps.map (·.2.1)).Nodup) (h64:ps.length < 64) (q:∀ (qs:List TK) (h':Heap),qs.Perm ps->qs.Pairwise ux->Inv X pins σ (upd H l (.lst (qs.map fun p=>V.ref p.1))) { s with heap:=h' }->Q .none { s with heap:=h' }) :
  wpAny (model X.prog X.w) A (call (.builtin "list.sort") [.ref l]) Q E s:=by
 obtain ⟨hz,its,n,rv,at0⟩:=(show aV X.prog X.w H s.heap l (.lst (ps.map fun p=>V.ref p.1)) from I.hok l _ hq)
 have ei:=wS ps its rv
 subst ei
 obtain ⟨m,hm,_⟩:=I.loc
 have nL:l≠X.env.locals:=fun z=>by rw [z,I.free] at hq; cases hq
 have lne:∀ p∈ps,p.1≠l/\p.1≠X.env.locals:=fun p hp=>by
  refine ⟨fun z=>?_,fun z=>?_⟩
  ·have t:=ht p hp
   rw [z,hq] at t
   cases t
  ·have t:=ht p hp
   rw [z,I.free] at t
   cases t
 by_cases few:ps.length < 2
 ·refine a9 slot_list_sort ⟨_,at0,rfl⟩ entry_list_sort (ji at0 (by simpa using few) fun hp ep k2 e2=>⟨_,rfl,?_⟩) (args_list_sort _)
  refine q ps hp (Ed _) ?_ (I.setList hm hq (gp ps) hz (hm.at' fun o e=>k2 _ o (ϊ nL) e) (fun b o _ hb z=>k2 b o hb z) e2)
  match ps,few with
  | [],_=>exact .nil
  | [p],_=>exact List.pairwise_singleton _ _
 ·have hlen:(ps.map fun p=>Η p.1).length=ps.length:=ζ _
  have F0:Fr (Att.noObjs s.heap) X.env.locals s.heap m:=Att.fr_all hm
  generalize hN:(hV (Att.noObjs s.heap) s.heap X.env.locals).filter (fun p=>decide (p.1≠l))=nw
  have N0:News (Att.noObjs s.heap) X.env.locals s.heap nw:=fun p hp=>by rw [<- hN] at hp; exact tO p (j8.mp hp).1
  have nl0:∀ p∈nw,p.1≠l:=fun p hp=>by rw [<- hN] at hp; exact of_decide_eq_true (j8.mp hp).2
  refine a9 slot_list_sort ⟨_,at0,rfl⟩ entry_list_sort (kat_list_sort F0 N0 at0 nL (Att.noObjs_get _ _) nl0 (by rw [hlen]; omega) (by rw [hlen]; exact h64) fun e1 h' F' N'=>?_) (args_list_sort _)
  have keep:∀ (g:Heap) (x:Obj),News (Att.noObjs s.heap) X.env.locals g ((l,x) :: nw)->∀ b o,b≠X.env.locals->b≠l->s.heap.get? b=some o->g.get? b=some o:=fun g x N b o hb hl e=>
   (N (b,o) (ο _ (by rw [<- hN]; exact j8.mpr ⟨mK hb (Att.noObjs_get _ _) e,decide_eq_true hl⟩))).1
  have kp:=keep h' _ N'
  have atv:∀ i,i < ps.length->(ps.map fun p=>Η p.1).getD i .none=Η (ps.getD i (0,default,[])).1:=fun i hi=>by
   simp [t7,hi]
  have item:∀ i,i < ps.length->∃ (o:Obj) (us:List δ) (n:Nat) (t:Tok),h'.get? (ps.getD i (0,default,[])).1=some o/\o.cls=.type "tuple"/\o.data=.seq (ϲ (ps.getD i (0,default,[])).2.1 t :: us).toArray n:=fun i hi=>by
   have hm':ps.getD i (0,default,[])∈ps:=by
    have e:ps.getD i (0,default,[])=ps[i]:=by simp [t7,hi]
    rw [e]; exact k8 hi
   obtain ⟨o,us,n,t,e,c,d⟩:=vA I (ht _ hm')
   exact ⟨o,us,n,t,kp _ o (lne _ hm').2 (lne _ hm').1 e,c,d⟩
  have firsts:∀ (qs:List TK),(∀ p∈qs,p∈ps)->∃ fs:List δ,KatTups h' (qs.map fun p=>Η p.1) fs/\fs.length=qs.length/\∀ v∈fs,∃ x t,v=ϲ x t:=by
   intro qs
   induction qs with
   | nil=>intro _; exact ⟨[],KatTups.nil,rfl,by simp⟩
   | cons p qs ih=>
    intro hs
    obtain ⟨fs,t1,t2,t3⟩:=ih fun x hx=>hs x (ο _ hx)
    have hp:=hs p Ε
    obtain ⟨o,us,n,t,e,c,d⟩:=vA I (ht _ hp)
    refine ⟨ϲ p.2.1 t :: fs,KatTups.cons (kp _ o (lne _ hp).2 (lne _ hp).1 e) c d (by simp) t1,by simp [t2],fun v hv=>?_⟩
    rcases θ.mp hv with rfl | hv
    ·exact ⟨_,_,rfl⟩
    ·exact t3 v hv
  obtain ⟨fs,t1,t2,t3⟩:=firsts ps fun p hp=>hp
  refine kat_kind (T:=.type "str") (s:={ s with heap:=h' }) t1 (by rw [t2]; omega) (fun v hv=>?_) (by decide) ?_
  ·obtain ⟨x,t,rfl⟩:=t3 v hv
   exact D_.of_pure rfl
  rw [hlen]
  have O:Ord (kas_ask X.prog X.w A.in1 (tuples' (v_ "str" != v_ "tuple")) (ps.map fun p=>Η p.1)) (fun i j=>decide ((ps.getD i (0,default,[])).2.1.cps.toList < (ps.getD j (0,default,[])).2.1.cps.toList)) ps.length { s with heap:=h' }:=by
   have unlike:∀ i j,i < ps.length->j < ps.length->i≠j->(ps.getD i (0,default,[])).2.1≠(ps.getD j (0,default,[])).2.1:=fun i j hi hj hij e=>by
    have ei:ps.getD i (0,default,[])=ps[i]:=by simp [t7,hi]
    have ej:ps.getD j (0,default,[])=ps[j]:=by simp [t7,hj]
    rw [ei,ej] at e
    exact hij ((B8 (h₀:=by simpa using hi) (h₁:=by simpa using hj) nd).mp (by simpa using e))
   refine ⟨fun i j C hi hj hij hC=>?_,fun i j k h1 h2=>?_,fun i j hi hj hij h1=>?_,fun i j h1=>?_⟩
   ·show wpAny _ _ (keyLt' _ _ _) C _ _
    rw [atv i hi,atv j hj]
    obtain ⟨o,us,n,t,e,c,d⟩:=item i hi
    obtain ⟨o2,us2,n2,t2',e2,c2,d2⟩:=item j hj
    refine kat_lt (s:={ s with heap:=h' }) e d e2 d2 ?_
    show KatLex _ _ _ _ _ _ ((ϲ _ t,ϲ _ t2') :: _) 0 _
    refine kat_cons (wpAny_eqBool_str ?_)
    rw [decide_eq_false (unlike i j hi hj hij)]
    exact kat_no (oneLt_str hC)
   ·exact decide_eq_true (List.lt_trans (of_decide_eq_true h1) (of_decide_eq_true h2))
   ·exact decide_eq_true (wQ (of_decide_eq_false h1) fun e=>unlike i j hi hj hij (wC e))
   ·exact decide_eq_false (List.lt_asymm (of_decide_eq_true h1))
  refine wz O (by omega) fun p re up=>?_
  have outs:(p.toList.map fun i=>(ps.map fun p=>Η p.1).getD i .none)=(p.toList.map fun i=>ps.getD i (0,default,[])).map fun p=>Η p.1:=by
   rw [ϋ]
   refine m6 fun i hi=>?_
   have hl2:p.toList.Perm (Ω ps.length):=by simpa using B3.mp re.perm
   exact atv i (ϸ.mp ((Ev.mem_iff hl2).mp hi))
  rw [outs]
  refine KasFin.intro (news:=(l,seqObj "list" #[] e1) :: nw) (g:=fun o'=>(l,o') :: nw) F' N' (.head nl0) fun h2 c F2 N2=>?_
  have pq:=rN (d:=(0,default,[])) rfl re
  have I2:=I.setList (D:=l) (ys:=(p.toList.map fun i=>ps.getD i (0,default,[])).map fun p=>V.ref p.1) hm hq (gp _) (by rw [ζ,pq.length_eq]; simpa using hz) F2.ns (keep h2 _ N2) (N2 (l,_) Ε).1
  exact ⟨_,rfl,q _ h2 pq (jb (R:=ux) (fun i j _ _ h=>(of_decide_eq_true h:(ps.getD i (0,default,[])).2.1.cps.toList < (ps.getD j (0,default,[])).2.1.cps.toList)) re up) I2⟩
def gU (v d:Addr):HO:=.ext fun h=>h.IsItemsView v d
theorem vE:MtR X "dict.items" (fun x xs H Q=>∃ d kvs,x=.ref d/\xs=[]/\H d=some (.dK kvs)/\∀ v,H v=none->Q (.ref v) (upd H v (gU v d))):=by
 intro pins s σ H x xs u us Q I rx rv h
 obtain ⟨d,kvs,rfl,rfl,hd,q⟩:=h
 cases rx
 cases rv
 obtain ⟨z,hdm,vs,rel,dd⟩:=vS I.hok hd
 refine call_meetsIn PySem.F.slot_dict_items dd.typeIs PySem.F.entry_dict_items (PySem.F.args_dict_items_1 _) (meets_dict_items (aR X.prog X.w) d hdm) ⟨⟨vs,dd⟩,?_⟩
 refine ⟨.ref s.heap.objs.size,_,I.laid (t':=s.toks) (a:=s.heap.objs.size) (o:=gU s.heap.objs.size d) (fun b u q=>ν _ q) (τ _) ?_,rfl,q _ I.fresh⟩
 exact ⟨⟨_,Γ _ rfl,rfl,rfl⟩,⟨_,Γ _ rfl⟩,fun h1 h2 ⟨o,e,r⟩ k=>⟨o,k o e,r⟩⟩
def lays (H:Hp) (rs:List TK):Hp:=fun b=>match rs.find? (fun r=>decide (r.1=b)) with | some r=>some (.tup (.str r.2.1 :: r.2.2)) | none=>H b
theorem io {rs:List TK} {b:Addr} (h:∀ r∈rs,r.1≠b):lays H rs b=H b:=by
 unfold lays
 rw [Do.mpr (fun r hr e=>h r hr (of_decide_eq_true e))]
theorem qt {rs:List TK} (nd:(rs.map (·.1)).Nodup) {r:TK} (hr:r∈rs):lays H rs r.1=some (.tup (.str r.2.1 :: r.2.2)):=by
 unfold lays
 cases e:rs.find? (fun x=>decide (x.1=r.1)) with
 | none=>exact absurd (decide_eq_true rfl) (Do.mp e r hr)
 | some x=>
  have hx:=List.mem_of_find?_eq_some e
  have e1:x.1=r.1:=of_decide_eq_true (List.find?_some (p:=fun x:TK=>decide (x.1=r.1)) e)
  obtain ⟨i,hi,rfl⟩:=e_ hx
  obtain ⟨j,hj,rfl⟩:=e_ hr
  have:i=j:=(B8 (h₀:=by simpa using hi) (h₁:=by simpa using hj) nd).mp (by simpa using e1)
  subst this
  rfl
theorem Inv.lays {h':Heap} {tk:Nat} {rs:List TK} (I:Inv X pins σ H s) (k:∀ b u,s.heap.get? b=some u->h'.get? b=some u) (nd:(rs.map (·.1)).Nodup) (hp:∀ r∈rs,s.heap.objs.size<=r.1)
  (new:∀ r∈rs,aV X.prog X.w (L2.lays H rs) h' r.1 (.tup (.str r.2.1 :: r.2.2))):Inv X pins σ (L2.lays H rs) { s with heap:=h',toks:=tk }:=by
 have out:∀ b,b < s.heap.objs.size->L2.lays H rs b=H b:=fun b hb=>io fun r hr e=>absurd hb (Nat.not_lt.mpr (e▸hp r hr))
 refine I.un (t':=tk) ⟨fun b u q _ _ _=>k b u q,fun b u q _ _ _=>⟨u.slots,k b u q⟩,fun b u q n _=>by rw [out b (υ q)]; exact n,fun b u q _=>⟨u,k b u q⟩,fun b xs q=>by rw [out b (I.hok.lt q)]; exact q,fun b u xs q=>by rw [out b (I.hok.lt q)]; exact q,
  fun b ps q=>⟨#[],by rw [out b (I.hok.lt q),q]; simp⟩⟩ fun b u e=>?_
 by_cases hb:∃ r∈rs,r.1=b
 ·obtain ⟨r,hr,rfl⟩:=hb
  rw [qt nd hr] at e
  cases e
  exact new r hr
 ·rw [io fun r hr z=>hb ⟨r,hr,z⟩] at e
  exact (I.hok b u e).stay (fun c v _ q=>k c v q) (fun c q=>by rw [out c (I.hok.lt q)]; exact q) fun c xs q=>by rw [out c (I.hok.lt q)]; exact q
theorem lC (hc:X.calm=true):bU X (.builtin "sorted") (fun xs H Q=>∃ (v d:Addr) (m:List (Str×V)),xs=[.ref v]/\H v=some (gU v d)/\H d=some (.dK (m.map fun p=>((Ϗ p.1:Key),p.2)))/\m.length < 64 /\
  ∀ (H':Hp) (l:Addr) (qs:List TK),ad H H'->H l=none->(∀ r∈qs,H' r.1=some (.tup (.str r.2.1 :: r.2.2))/\H r.1=none)->H' l=some (.lst (qs.map fun r=>V.ref r.1))->(qs.map (·.2)).Perm (m.map fun p=>(p.1,[p.2]))->qs.Pairwise ux->Q (.ref l) H'):=by
 intro pins s σ H xs us Q I r h
 obtain ⟨v,d,m,rfl,hv,hd,h64,q⟩:=h
 obtain ⟨u,rfl,ru⟩:=cO r
 cases ru
 obtain ⟨vw,_,_⟩:=(show aV X.prog X.w H s.heap v (gU v d) from I.hok v _ hv)
 obtain ⟨z,hdm,vs,rel,dd⟩:=vS I.hok hd
 have hvl:vs.length=m.length:=by have:=rel.length; rw [ζ] at this; exact this.symm
 obtain ⟨ep,da⟩:=dd.dictAt
 have ndk:(vs.map (·.1)).Nodup:=by obtain ⟨_,_,_,_,_,_,_,nd⟩:=da; exact nd
 refine Calls.call_function_entry kind_sorted plain_sorted entry_sorted (args_sorted1 _) ?_
 unfold Ϣ.«sorted»
 refine γ (m:=checkCount "sorted" 1 1 _) (ξ (γ (kdx_collect (A:=X.A.in1) (knd:=aR X.prog X.w) (kvs:=vs) (ep:=ep) (I.ok.hd hc) vw da (by rw [<- rel.length]; exact z) fun h' tk as hk hl hG=>?_)))
 have hlm:as.length=m.length:=by omega
 have e1:((as.zip m).map fun p=>((p.1,p.2.1,[p.2.2]):TK)).map (·.1)=as:=by
  rw [ϋ]
  have:((fun x:TK=>x.1) ∘ fun p:Addr×Str×V=>((p.1,p.2.1,[p.2.2]):TK))=Prod.fst:=rfl
  rw [this,List.map_fst_zip (by omega)]
 have e2:((as.zip m).map fun p=>((p.1,p.2.1,[p.2.2]):TK)).map (·.2)=m.map fun p=>(p.1,[p.2]):=by
  rw [ϋ]
  have:((fun x:TK=>x.2) ∘ fun p:Addr×Str×V=>((p.1,p.2.1,[p.2.2]):TK))=(fun p:Str×V=>(p.1,[p.2])) ∘ Prod.snd:=rfl
  rw [this,<- ϋ,List.map_snd_zip (by omega)]
 have e3:((as.zip m).map fun p=>((p.1,p.2.1,[p.2.2]):TK)).map (fun r=>V.ref r.1)=as.map V.ref:=by
  have:(fun r:TK=>V.ref r.1)=V.ref ∘ (fun r:TK=>r.1):=rfl
  rw [this,<- ϋ,e1]
 have pairs:∀ r∈(as.zip m).map fun p=>((p.1,p.2.1,[p.2.2]):TK),∃ (x:Str) (y:V) (u w':δ),r.2=(x,[y])/\ay (.str x) u/\ay y w'/\h'.get? r.1=some { cls:=.type "tuple",data:=.seq #[u,w'] }:=fun r hr=>by
  obtain ⟨⟨a,x,y⟩,hp,rfl⟩:=Δ.mp hr
  obtain ⟨j,hj⟩:=List.getElem?_of_mem hp
  obtain ⟨ha,hm⟩:=List.getElem?_zip_eq_some.mp hj
  obtain ⟨key,k,w',g1,g2,g3⟩:=hG.pairs j a ha
  obtain ⟨y',hy,ry⟩:=rel.at g1
  rw [Κ,hm] at hy
  have hy':((Ϗ x:Key),y)=(k,y'):=ϙ hy
  injection hy' with k1 k2
  subst k1 k2
  exact ⟨x,y,key,w',rfl,zZ g2,ry,g3⟩
 generalize hrs:(as.zip m).map (fun p=>((p.1,p.2.1,[p.2.2]):TK))=rs at e1 e2 e3 pairs
 have lrs:rs.length=m.length:=by rw [<- hrs,ζ,List.length_zip]; omega
 have nda:(rs.map (·.1)).Nodup:=by rw [e1]; exact hG.rise.imp fun h=>Τ h
 have above:∀ r∈rs,s.heap.objs.size<=r.1:=fun r hr=>k9 (hG.above r.1 (by rw [<- e1]; exact f_ hr))
 have tup:∀ (Hx:Hp) (r:TK),r∈rs->aV X.prog X.w Hx h' r.1 (.tup (.str r.2.1 :: r.2.2)):=fun Hx r hr=>by
  obtain ⟨x,y,u,w',er,r1,r2,g⟩:=pairs r hr
  rw [er]
  exact ⟨by show 2<=sizeLine; rw [ψ]; decide,[u,w'],.cons r1 (.cons r2 .nil),⟨_,g,rfl,0,rfl⟩,⟨_,g,rfl⟩⟩
 have I1:Inv X pins σ (lays H rs) { s with heap:=h',toks:=tk }:=I.lays hk nda above fun r hr=>tup _ r hr
 have s1:ad H (lays H rs):=fun b o e=>by
  have ho:∀ r∈rs,r.1≠b:=fun r hr z'=>by
   have h1:=above r hr
   rw [z'] at h1
   exact absurd (I.hok.lt e) (Nat.not_lt.mpr h1)
  rw [io ho]; exact e
 refine γ (wpAny_newList ?_ (by rw [ζ,hlm,ψ]; omega))
 have rvals:au (rs.map fun r=>V.ref r.1) (as.map Η):=by
  have:=gp rs
  have e4:rs.map (fun p=>Η p.1)=as.map Η:=by
   rw [<- e1,ϋ]; rfl
  rwa [e4] at this
 have I2:=I1.lnew (t':=tk) (its:=as.map Η) rvals (by rw [ζ,lrs,ψ]; omega)
 have fr:lays H rs h'.objs.size=none:=I1.fresh
 have s2:ad (lays H rs) (upd (lays H rs) h'.objs.size (.lst (rs.map fun r=>V.ref r.1))):=ac fr _
 have inr:∀ r∈rs,lays H rs r.1=some (.tup (.str r.2.1 :: r.2.2)):=fun r hr=>qt nda hr
 have hnone:H h'.objs.size=none:=by
  cases e:H h'.objs.size with
  | none=>rfl
  | some o=>have:=s1 _ _ e; rw [fr] at this; cases this
 have nd2:(rs.map (·.2.1)).Nodup:=by
  have e5:rs.map (·.2.1)=m.map (·.1):=by
   have:=congrArg (Ee Prod.fst) e2
   simpa [ϋ,Function.comp_def] using this
  have e6:(m.map (·.1)).map (Ϗ:Str->Key)=vs.map (·.1):=by
   rw [<- rel.keys,ϋ,ϋ]; rfl
  rw [e5]
  rw [<- e6] at ndk
  rw [List.Nodup,A9] at ndk
  exact ndk.imp fun h e=>h (by rw [e])
 refine γ (a7 (vV (A:=X.A.in1) (l:=h'.objs.size) (ps:=rs) I2 aa (fun r hr=>s2 _ _ (inr r hr)) nd2 (by omega) fun qs h2 pq pw I3=>?_))
 refine ξ ⟨_,rfl,.ref h'.objs.size,_,I3,rfl,q _ _ qs (fun b o e=>?_) hnone (fun r hr=>⟨?_,I.hok.fresh (above r (pq.mem_iff.mp hr))⟩) aa (by rw [<- e2]; exact pq.map _) pw⟩
 ·have:=s2 _ _ (s1 _ _ e)
  rw [ag (fun z'=>by rw [z',hnone] at e; cases e)]
  exact this
 ·have hm:=pq.mem_iff.mp hr
  rw [ag (ae (inr r hm) fr)]
  exact s2 _ _ (inr r hm)
end
open PySem PySem.Spec PyProof.Rows
section
variable {X:Cx} {pins:List (Addr×Obj)} {σ:St} {H:Hp} {s:ι}
end
section
variable {X:Cx}
end
structure sR (K:PySem.W.Frag) (x qual:Str) (st:Stmt) (f:Addr) (fd:Μ) (dV:δ):Prop where
 ex:∃ (oc:δ) (od:Option Addr) (kV doc pm:δ) (an:Option Addr) (cdv ct:δ) (osl:Array (Option δ)),
  fd=PySem.W.fnOf x qual (bR st) (bA st) (ai st) dV kV doc pm an cdv ct/\K.lookup f=some ⟨oc,od,.func fd,osl⟩/\PySem.W.codeIn K cdv qual=true
section
variable {P:Β} {w:Ξ} {K:PySem.W.Frag} {mg:Str->Option δ} {base:Heap}
theorem sR.ok {x qual:Str} {st:Stmt} {f:Addr} {fd:Μ} {dV:δ} {N ps:List Str} {k:Nat} {sp:Sp} (F:sR K x qual st f fd dV) (S:ap N ps (ai st)) (len:∀ vs H Q E,sp vs H Q E->vs.length=ps.length)
  (hbody:∀ (cdv:δ) (A:Φ) (outer:List Env) (s:ι) (H:Hp) (vs:List V) (Q:VK) (E:XK),bH k (A.deeper (Cb qual (ai st) s.heap.objs.size f cdv))->sp vs H Q E ->
   ∃ t,PSs (de CX0 P w K mg base N qual (ai st) f cdv A outer s H E).nox (bA st) t/\t { nx:=fun _ H'=>Q .non H',rt:=Q } (en N vs) H):aK P w K mg base CX0 (k + 1) f fd ps sp:=by
 obtain ⟨oc,od,kV,doc,pm,an,cdv,ct,osl,rfl,lk,hcd⟩:=F.ex
 refine vX lk hcd S len fun A outer s H vs Q E hr hsp=>?_
 obtain ⟨t,h,q⟩:=hbody cdv A outer s H vs Q E hr hsp
 exact ⟨t,h.nox,q⟩
theorem sR.binds {x qual:Str} {st:Stmt} {f T:Addr} {fd:Μ} {ps:List Str} {ds:List δ} {oT:Obj} {its:Array δ} {n:Nat} (F:sR K x qual st f fd (.ref T)) (lT:K.lookup T=some oT) (dT:oT.data=.seq its n)
  (h:∀ (kV doc pm:δ) (an:Option Addr) (cdv ct:δ) (us:List δ),(us ++ ds).length=ps.length->∃ kk:Option (Array δ)->Sem (List (Str×δ)),bindArgs (PySem.W.fnOf x qual (bR st) (bA st) (ai st) (.ref T) kV doc pm an cdv ct) ⟨us,[]⟩=seqItems? (.ref T) >>= kk/\kk (some its)=pure (ps.zip (us ++ ds))):bG K fd ps ds:=by
 obtain ⟨oc,od,kV,doc,pm,an,cdv,ct,osl,rfl,lk,hcd⟩:=F.ex
 intro s us hin hl
 obtain ⟨kk,h1,h2⟩:=h kV doc pm an cdv ct us hl
 exact Ek.of_defaults (T:=T) rfl (hin T oT lT) dT h1 h2
end
open PySem PySem.Spec PyProof.Rows PySem.W
section
variable {X:Cx} {e st:Expr} {te:TE} {ts:TO} {p2 pos:Pos}
end
section
variable {X:Cx}
end
theorem mV (t:l7) (n:Nat):(t.orStandIn n).led=t.led/\((t.orStandIn n).plain=true->t.plain=true):=by
 unfold l7.orStandIn
 split
 ·exact ⟨rfl,fun h=>h⟩
 ·exact ⟨rfl,fun h=>by cases h⟩
theorem xM (t:l7) (es:Array (Int×δ)) (h:Int) (x:δ):(layNew t es h x).2.1.led=t.led/\((layNew t es h x).2.1.plain=true->t.plain=true):=by
 unfold layNew
 split
 ·rename_i slot wd _
  obtain ⟨a,b⟩:=mV (t.put slot).1 (l7.insertAt es (t.put slot).2 (h,x)).size
  exact ⟨a,b⟩
 ·exact ⟨rfl,fun h=>by cases h⟩
theorem pP {t t':l7} {hs:Array Int} {n:Nat} {o:Array Nat} (h:t.relaid hs n=some (t',o)):t'.led=t.led/\t'.plain=t.plain:=by
 unfold l7.relaid l7.laid at h
 cases e:l7.layClean (l7.sizeAbove n - 1) hs with
 | none=>rw [e] at h; cases h
 | some ow=>
  rw [e] at h
  have h2:=ϙ h
  injection h2 with h3 h4
  subst h3
  exact ⟨rfl,rfl⟩
theorem sh (t:l7) (es:Array (Int×δ)) (n:Nat):(relayAll t es n).2.1.led=t.led/\((relayAll t es n).2.1.plain=true->t.plain=true):=by
 unfold relayAll
 split
 ·rename_i t' o h
  obtain ⟨a,b⟩:=pP h
  dsimp only
  split
  ·exact ⟨a,fun z=>by rw [<- b]; exact z⟩
  ·exact ⟨rfl,fun z=>by cases z⟩
 ·exact ⟨rfl,fun z=>by cases z⟩
def gW (e:Int×δ):Str:=match e.2 with | .str x _=>x | _=>default
def cr (P:Β) (w:Ξ) (h:Heap) (a:Addr) (xs:List Str):Prop:=
 ∃ o es ep t,h.get? a=some o/\o.ExactSet/\o.data=.set es ep t/\ElemsOf (PySem.strKind P w) es.toList/\es.size < scanBound/\t.fits es.size=true/\t.led=(!w.params.followText "set-order")/\(t.plain=true->es.size=0)/\(es.toList.map gW).Perm xs
section
variable {P:Β} {w:Ξ} {A:Φ} {E:δ->ι->Prop} {s:ι}
theorem jM {y:Str} {e:Int×δ} (h:(PySem.strKind P w).is y e.2=true):gW e=y:=by
 obtain ⟨t,ht⟩:=δ.isStrOf_shape h
 unfold gW
 rw [ht]
theorem sU {e:Int×δ} (h:∃ k,(PySem.strKind P w).is k e.2=true):(PySem.strKind P w).is (gW e) e.2=true:=by
 obtain ⟨k,hk⟩:=h
 rw [jM hk]; exact hk
theorem cr.put {h:Heap} {a:Addr} {o:Obj} {es es':Array (Int×δ)} {ep:Nat} {t t':l7} {xs:List Str} (ho:h.get? a=some o) (hex:o.ExactSet) (hd:o.data=.set es ep t) (hel:ElemsOf (PySem.strKind P w) es'.toList)
  (hb:es'.size < scanBound) (hf:t'.fits es'.size=true) (hl:t'.led=(!w.params.followText "set-order")) (hp:t'.plain=true->es'.size=0) (hx:(es'.toList.map gW).Perm xs) :
  (h.update a (DU es' t')).get? a=some { o with data:=.set es' (ep + 1) t' }/\cr P w (h.update a (DU es' t')) a xs:=by
 have hg:(h.update a (DU es' t')).get? a=some { o with data:=.set es' (ep + 1) t' }:=by
  have:=Ϝ (DU es' t') ho (by rw [putSet_of es' t' hd]; rfl)
  rw [putSet_of es' t' hd] at this; exact this
 exact ⟨hg,_,es',ep + 1,t',hg,hex,rfl,hel,hb,hf,hl,hp,hx⟩
theorem nY {g:Bool->Sem Unit} (hg:∀ (b:Bool) (s₁:ι) (Q':Unit->ι->Prop),Q' () s₁->wpAny (model P w) A (g b) Q' E s₁) {a:Addr} {o:Obj} {es es1:Array (Int×δ)} {ep:Nat} {t t2:l7} {xs:List Str} {wd:Bool} {R:Option Bool->ι->Prop}
  (ho:s.heap.get? a=some o) (hex:o.ExactSet) (hd:o.data=.set es ep t) (hel:ElemsOf (PySem.strKind P w) es1.toList) (hb:es1.size < scanBound) (hf:t2.fits es1.size=true) (hl:t2.led=(!w.params.followText "set-order")) (hp:t2.plain=false) (hx:(es1.toList.map gW).Perm xs)
  (h:∀ h',y9 a s.heap h'->cr P w h' a xs->R (some true) { s with heap:=h' }) :
  wpAny (model P w) A (do
    storeSet a es1 t2
    if (!wd && t2.tooFull) = true then do
        g (relayAll t2 es1 (y7 es1.size)).2.2
        storeSet a (relayAll t2 es1 (y7 es1.size)).1 (relayAll t2 es1 (y7 es1.size)).2.1
        pure (some true)
     else pure (some true)) R E s:=by
 refine γ (wpAny_storeSet_of ho hd ?_ (fits_of_scanBound hb))
 obtain ⟨ho1,hS1⟩:=cr.put (P:=P) (w:=w) ho hex hd hel hb hf hl (fun z=>by rw [hp] at z; cases z) hx
 have sb1:=x_ s.heap a (DU es1 t2)
 split
 ·have pm:=relayAll_perm t2 es1 (y7 es1.size)
  have ft:=relayAll_fits t2 es1 (y7 es1.size)
  have ld:=sh t2 es1 (y7 es1.size)
  generalize relayAll t2 es1 (y7 es1.size)=Rl at pm ft ld ⊢
  obtain ⟨es2,t3,gave⟩:=Rl
  dsimp only at pm ft ld ⊢
  have sz:es2.size=es1.size:=by rw [<- Ϟ,pm.length_eq,Ϟ]
  refine γ (hg _ _ _ (γ (wpAny_storeSet_of ho1 rfl ?_ (fits_of_scanBound (by rw [sz]; exact hb)))))
  obtain ⟨_,hS2⟩:=cr.put (P:=P) (w:=w) (xs:=xs) ho1 hex rfl (hel.perm pm) (by rw [sz]; exact hb) ft (by rw [ld.1]; exact hl) (fun z=>by have:=ld.2 z; rw [hp] at this; cases this) ((pm.map _).trans hx)
  exact ξ (h _ (sb1.trans (x_ _ a _)) hS2)
 ·exact ξ (h _ sb1 hS1)
theorem nh {a:Addr} {xs:List Str} {y:Str} {tk:Tok} {Q:Bool->ι->Prop} (hS:cr P w s.heap a xs) (hlen:xs.length + 1 < scanBound)
  (h:∀ h' b,y9 a s.heap h'->cr P w h' a (if y∈xs then xs else xs ++ [y])->Q b { s with heap:=h' }):wpAny (model P w) A (setAddHashed a (.str y tk) ((PySem.strKind P w).hash y)) Q E s:=by
 obtain ⟨o,es,ep,t,ho,hex,hd,hel,hb,hf,hl,hpl,hx⟩:=hS
 have hkey:(PySem.strKind P w).is y (.str y tk)=true:=strKind_is _ _ _ _
 have hsc:(ϲ y tk).scannable=true:=rfl
 have sz:es.size=xs.length:=by rw [<- hx.length_eq,ζ,Ϟ]
 unfold setAddHashed setAddHashedIn
 refine a7 (γ (wpAny_setState_of ho hd hf ?_))
 dsimp only
 rw [byScan_of hsc hb hel]
 simp only [↓reduceIte]
 unfold setAddByScan
 refine γ (γ (o_ (γ (wpAny_setScan_of hkey ho hd hf hel ?_))))
 cases hr:List.findIdx? (fun e=>(PySem.strKind P w).is y e.2) es.toList with
 | some j=>
  dsimp only
  obtain ⟨hj,hpj,_⟩:=List.findIdx?_eq_some_iff_getElem.mp hr
  have hy:y∈xs:=hx.mem_iff.mp (Δ.mpr ⟨es.toList[j],k8 hj,jM hpj⟩)
  have e:s={ s with heap:=s.heap }:=by cases s; rfl
  have q:=h s.heap false (y9.refl a s.heap) (by rw [if_pos hy]; exact ⟨o,es,ep,t,ho,hex,hd,hel,hb,hf,hl,hpl,hx⟩)
  rw [<- e] at q
  exact ξ (ξ q)
 | none=>
  dsimp only
  have hy:y∉xs:=fun z=>by
   obtain ⟨e,he,e1⟩:=Δ.mp (hx.mem_iff.mpr z)
   have:=List.findIdx?_eq_none_iff.mp hr e he
   rw [<- e1,sU (hel.keys e he)] at this
   cases this
  rw [if_neg hy] at h
  have hgw:∀ (b:Bool) {s₁:ι} {Q':Unit->ι->Prop},Q' () s₁->wpAny (model P w) A (match b with | true=>rule "set.scan.the-table-gave-way" | false=>pure ()) Q' E s₁:=
   fun b s₁ Q' hq=>by cases b <;> first | exact ξ hq | exact o_ hq
  have pm:=layNew_perm t es ((PySem.strKind P w).hash y) (.str y tk)
  have ft:=layNew_fits t es ((PySem.strKind P w).hash y) (.str y tk)
  have ld:=xM t es ((PySem.strKind P w).hash y) (.str y tk)
  generalize layNew t es ((PySem.strKind P w).hash y) (.str y tk)=L at pm ft ld ⊢
  obtain ⟨es1,t1,wd,gave⟩:=L
  dsimp only at pm ft ld ⊢
  rw [Array.toList_push] at pm
  have hel1:ElemsOf (PySem.strKind P w) es1.toList:=(hel.push hkey hsc).perm pm
  have sz1:es1.size=es.size + 1:=by rw [<- Ϟ,pm.length_eq,ς,Ϟ]; rfl
  have hb1:es1.size < scanBound:=by rw [sz1,sz]; exact hlen
  have hx1:(es1.toList.map gW).Perm (xs ++ [y]):=by
   refine (pm.map gW).trans ?_
   rw [ω]
   exact hx.append (Ed _)
  refine γ (hgw _ ?_)
  split
  ·refine γ ?_
   rw [hashByValue_scannable 8 hsc]
   refine ξ ?_
   refine nY ?_ ho hex hd hel1 hb1 (t2:={ t1 with plain:=false }) (l7.fits_plain_off ft) (by rw [<- hl]; exact ld.1) rfl hx1 ?_
   ·intro b s₁ Q' hq; cases b <;> first | exact ξ hq | exact o_ hq
   ·intro h' sb hS'; dsimp only; exact ξ (h h' true sb hS')
  ·rename_i hnp
   refine γ (ξ ?_)
   simp only [↓reduceIte]
   refine nY ?_ ho hex hd hel1 hb1 ft (by rw [<- hl]; exact ld.1) (by cases z:t1.plain with | false=>rfl | true=>exact absurd z hnp) hx1 ?_
   ·intro b s₁ Q' hq; cases b <;> first | exact ξ hq | exact o_ hq
   ·intro h' sb hS'; dsimp only; exact ξ (h h' true sb hS')
end
def og (acc:List Str) (y:Str):List Str:=if y∈acc then acc else acc ++ [y]
def uq (val:Nat->Str) (i:Nat):List Str:=((Ω i).map val).foldl og []
theorem hJ (val:Nat->Str) (i:Nat):uq val (i + 1)=og (uq val i) (val i):=by
 unfold uq
 rw [Ci,ω,List.foldl_append]
 rfl
theorem lh (val:Nat->Str):∀ i,(uq val i).length<=i
 | 0=>τ _
 | i + 1=>by
  have ih:=lh val i
  rw [hJ]
  unfold og
  split
  ·omega
  ·rw [ς,ϐ]; omega
theorem fQ (val:Nat->Str):∀ i,(uq val i).Nodup
 | 0=>List.nodup_nil
 | i + 1=>by
  rw [hJ]
  unfold og
  split
  ·exact fQ val i
  ·rename_i h
   exact g_.mpr ⟨fQ val i,by simp,fun a ha b hb e=>h (by rw [ε.mp hb] at e; rw [<- e]; exact ha)⟩
theorem pd (val:Nat->Str) (x:Str):∀ i,x∈uq val i↔∃ j,j < i/\val j=x
 | 0=>⟨(fun h=>nomatch h),(fun ⟨j,h,_⟩=>absurd h (A3 _))⟩
 | i + 1=>by
  rw [hJ]
  unfold og
  have ih:=pd val x i
  constructor
  ·intro h
   split at h
   ·obtain ⟨j,hj,e⟩:=ih.mp h
    exact ⟨j,by omega,e⟩
   ·rcases Ψ.mp h with h | h
    ·obtain ⟨j,hj,e⟩:=ih.mp h
     exact ⟨j,by omega,e⟩
    ·exact ⟨i,by omega,(ε.mp h).symm⟩
  ·rintro ⟨j,hj,e⟩
   split
   ·rename_i h
    by_cases hji:j=i
    ·rw [<- e,hji]; exact h
    ·exact ih.mpr ⟨j,by omega,e⟩
   ·by_cases hji:j=i
    ·rw [<- e,hji]; exact ϒ _ (ε.mpr rfl)
    ·exact Ϲ _ (ih.mpr ⟨j,by omega,e⟩)
section
variable {P:Β} {w:Ξ} {A:Φ} {R:DS->ι->Prop} {I:Addr} {fp wr:List Addr} {G:Array BU->Array BU->Prop} {n:Nat} {Pv:Nat->δ->Prop} {St:Nat->ι->Prop}
theorem cr.at' {h h':Heap} {a:Addr} {xs:List Str} (x:cr P w h a xs) (k:∀ o,h.get? a=some o->h'.get? a=some o):cr P w h' a xs:=let ⟨o,es,ep,t,ho,r⟩:=x; ⟨o,es,ep,t,k o ho,r⟩
theorem nG (W:WalksS P w A.in1 I fp wr G n Pv St) (S:Addr) (hSf:S∉fp) (val:Nat->Str) (hval:∀ i v,Pv i v->∃ t,v=.str (val i) t) (hb:n + 1 < scanBound) :
  ∀ (k i:Nat) (s:ι),n - i=k->i<=n->St i s->cr P w s.heap S (uq val i)->(∀ s',Moved (S :: wr) G s s'->cr P w s'.heap S (uq val n)->R (.ok (.ret .none)) s') ->
   codeAny (model P w) A (.builtin "set.update.loop" ⟨[.ref S,.ref I],[]⟩) R s:=by
 have hSw:S∉wr:=fun h=>hSf (W.sub _ h)
 have more:∀ b∈wr,b∈S :: wr:=fun b hb=>ο _ hb
 intro k
 induction k with
 | zero=>
  intro i s hk hi st hS fin
  obtain rfl:i=n:=by omega
  refine t_ F.entry_set_update_loop ?_
  rw [CP Ck _]
  show wpAny _ A.in1 (pyNext (.ref I) >>= _) _ _ s
  refine γ (W.done s _ _ st fun s' hm=>?_)
  show wpAny _ A.in1 (ret Ϭ) _ _ s'
  exact ξ (fin s' (hm.mono more) (hS.at' fun o e=>hm.heap S _ hSw e))
 | succ k ih=>
  intro i s hk hi st hS fin
  have hlt:i < n:=by omega
  refine t_ F.entry_set_update_loop ?_
  rw [CP Ck _]
  show wpAny _ A.in1 (pyNext (.ref I) >>= _) _ _ s
  refine γ (W.item i s _ _ hlt st fun v s' hP st' hm=>?_)
  obtain ⟨t,rfl⟩:=hval i v hP
  have hS':cr P w s'.heap S (uq val i):=hS.at' fun o e=>hm.heap S _ hSw e
  show wpAny _ A.in1 (holding [ϲ (val i) t] (setAdd S (.str (val i) t)) >>= _) _ _ s'
  refine γ (a7 ?_)
  unfold setAdd
  refine a7 (γ ((PySem.strKind P w).pyHash (k:=val i) (strKind_is _ _ _ _) ?_))
  have room:(uq val i).length + 1 < scanBound:=by have:=lh val i; omega
  refine nh (s:={ s' with toks:=s'.toks + 1 }) hS' room fun h' b sb hS2=>?_
  have hSi:cr P w h' S (uq val (i + 1)):=by rw [hJ]; exact hS2
  refine ξ ⟨DI Ck _,ih (i + 1) _ (by omega) hlt (W.frame _ s' _ _ st' (m_ _) fun b hb o e=>?_) hSi fun s'' hm'' hS''=>?_⟩
  ·rw [sb.2 b (fun h:b=S=>hSf (by rw [<- h]; exact hb))]; exact e
  ·refine fin s'' (Moved.trans W.gtrans ((hm.mono more).then_heap (m_ _) fun b o hb e=>?_) hm'') hS''
   rw [sb.2 b (fun h:b=S=>hb (by rw [h]; exact Ε))]; exact e
end
def bb (w:Ξ):Obj:={ cls:=.type "set",dict:=none,data:=.set #[] 0 (.fresh 0 0 (!w.params.followText "set-order")) }
section
variable {P:Β} {w:Ξ} {A:Φ} {E:δ->ι->Prop} {s:ι}
theorem eB (a:δ) {Q₁:δ->ι->Prop} (h:Q₁ (.ref s.heap.objs.size) { s with heap:=s.heap.push (bb w) }) :
  codeAny (model P w) A (.call (.builtin "set.__new__") ⟨[.type "set",a],[]⟩) (wants Q₁ E) s:=by
 refine CZ ?_
 show wpAny _ A.in1 (do checkBuiltinCall "set.__new__" ⟨[.type "set",a],[]⟩; again (.builtin "set.__new__" ⟨[.type "set",a],[]⟩)) _ _ s
 refine γ (wpAny_of_eq (PySem.F.newCall_set_1 a) (ξ ⟨DI PySem.F.plain_set_new _,t_ PySem.F.entry_set_new ?_⟩))
 rw [CP PySem.F.plain_set_new _]
 unfold Ϣ.«set.__new__» Ϣ.Frozenset.newClass
 have hsub:=sub_set_self
 obtain ⟨hp,g,d,tk,os⟩:=s
 dsimp only
 wp_walk
 refine wpAny_askSetting (ξ ?_)
 dsimp only
 simp only [newObj]
 refine γ (wpAny_alloc (ξ ?_))
 exact ξ h
theorem ja (h:Heap):cr P w (h.push (bb w)) h.objs.size []:=
 ⟨_,#[],0,_,Γ _ rfl,⟨rfl,rfl,rfl⟩,rfl,fun e he=>by simp at he,by decide,rfl,rfl,fun _=>rfl,Ed _⟩
theorem jl {l:Addr} {items:Array δ} {ys:List Str} {Q:δ->ι->Prop} (hh:A.handled=none) (hl:s.heap.IsList l items) (hi:∀ (i:Nat) (v:δ),items[i]?=some v->∃ t,v=.str (ys.getD i default) t) (hb:items.size + 1 < scanBound)
  (h:∀ (h':Heap) (tk:Nat),cr P w h' s.heap.objs.size (uq (fun i=>ys.getD i default) items.size)->(∀ b o,b < s.heap.objs.size->s.heap.get? b=some o->h'.get? b=some o)->Q (.ref s.heap.objs.size) { s with heap:=h',toks:=tk }) :
  wpAny (model P w) A (call (.type "set") [.ref l]) Q E s:=by
 obtain ⟨c,tl,hmro⟩:=PySem.F.called_set.mro
 have hmade:=PySem.F.called_set.made
 have hsub:=PySem.F.called_set.sub
 refine CA (CZ ?_)
 show wpAny _ _ (callAny (.type "set") _) _ _ _
 refine ξ ⟨y_ _ (by decide +kernel),t_ PySem.F.entry_type_call ?_⟩
 rw [Φ.under_plain (weight_type_call_type "set" [.ref l] []) rfl]
 have h1:=PySem.F.called_set.notType
 have h2:=PySem.F.called_set.canCreate
 have hct:=PySem.F.typeCall_set_1 (.ref l)
 repeat (any_goals (first | assumption | wp_step))
 refine u8 (eB (.ref l) (E:=E) (Q₁:=fun obj s₁=>obj=.ref s.heap.objs.size/\s₁={ s with heap:=s.heap.push (bb w) }) ⟨rfl,rfl⟩) fun r s₁ hr=>?_
 cases r with
 | error e=>exact hr
 | ok fl=>
  cases fl with
  | ret obj=>
   obtain ⟨rfl,rfl⟩:=hr
   have hS:(s.heap.push (bb w)).get? s.heap.objs.size=some (bb w):=Γ _ rfl
   have hT:ι.TypeIs { s with heap:=s.heap.push (bb w) } (.ref s.heap.objs.size) "set":=⟨_,hS,rfl⟩
   have hli:=PySem.F.called_set.init.lookup
   have hbi:=PySem.F.called_set.init.bind (.ref s.heap.objs.size)
   repeat (any_goals (first | assumption | wp_step))
   refine u8 (i9 (R:=wants (fun r s₂=>r=.none/\∃ h' tk,s₂={ s with heap:=h',toks:=tk }/\cr P w h' s.heap.objs.size (uq (fun i=>ys.getD i default) items.size)/\(∀ b o,b < s.heap.objs.size->s.heap.get? b=some o->h'.get? b=some o)) E)
    PySem.F.called_set.init.plain PySem.F.entry_set_init (check_set_init_1 hT ?_)) fun r₂ s₂ hr₂=>?_
   ·obtain ⟨ol,hol,hcl,nl,hdl⟩:=hl
    obtain ⟨ocls,odict,odata,oslots⟩:=ol
    simp only at hcl hdl
    subst hcl; subst hdl
    have hol':(s.heap.push (bb w)).get? l=some { cls:=.type "list",dict:=odict,data:=.seq items nl,slots:=oslots }:=ν _ hol
    have hsls:=PySem.F.sub_list_set
    have hslf:=PySem.F.sub_list_frozenset
    have hne:(v_ "list" == v_ "dict")=false:=by decide
    have hl1:(s.heap.push (bb w)).IsList l items:=⟨_,hol',rfl,nl,rfl⟩
    unfold bb at hS hT hol' hl1 ⊢
    unfold Ϣ.«set.__init__» noKeywords C1
    generalize hPI:pyIter=PI
    wp_walk
    subst hPI
    refine Co hl1 ?_
    refine γ (Ef ?_)
    have hlS:l < s.heap.objs.size:=υ hol
    have hh3:A.in1.in1.in1.handled=none:=by simp [hh]
    have hneI:l≠(s.heap.push (bb w)).objs.size:=by
     rw [ϟ]; exact Τ (j6 hlS)
    have hSf:s.heap.objs.size∉[(s.heap.push (bb w)).objs.size,l]:=by
     rw [ϟ]; simp only [θ,ε,ϳ,or_false,not_or]
     exact ⟨Τ (B9 _),i5 hlS⟩
    refine nG ((Eu.list hh3 _ l hneI items).toS) s.heap.objs.size hSf (fun i=>ys.getD i default) hi hb (items.size - 0) 0 _ (by omega) (Χ _)
     ⟨⟨_,Γ _ rfl,rfl,rfl⟩,(hl1.push _)⟩ ?hS0 ?hR
    case hS0=>exact (ja s.heap).at' fun o e=>ν _ e
    case hR=>
     intro s' hm hS'
     obtain ⟨h',g',d',tk',os'⟩:=s'
     have eg:g'=s.gens:=hm.gens
     have ed:d'=s.drawn:=hm.drawn
     have eo:os'=s.os:=hm.os
     subst eg; subst ed; subst eo
     show wpAny _ _ _ _ _ _
     refine ξ ?_
     show wpAny _ _ (ret Ϭ) _ _ _
     refine ξ ⟨rfl,h',tk',rfl,hS',fun b o hb e=>?_⟩
     have hb1:b≠s.heap.objs.size:=Τ hb
     have hb2:b≠(s.heap.push (bb w)).objs.size:=by
      rw [ϟ]; exact Τ (j6 hb)
     exact hm.heap b o (by simp only [θ,ε,ϳ,or_false,not_or]; exact ⟨hb1,hb2⟩) (ν _ (ν _ e))
   ·cases r₂ with
    | error e=>exact hr₂
    | ok fl₂=>
     cases fl₂ with
     | ret r=>
      obtain ⟨rfl,h',tk,rfl,hS',hk'⟩:=hr₂
      repeat (any_goals (first | assumption | wp_step))
      exact h _ _ hS' hk'
     | _=>exact hr₂.elim
  | _=>exact hr.elim
end
section
variable {P:Β} {w:Ξ} {A:Φ} {E:δ->ι->Prop}
variable {s:ι} {it S:Addr} {o:Obj} {es:Array (Int×δ)} {ep n i:Nat} {t:l7}
end
section
variable {P:Β} {w:Ξ} {A:Φ} {E:δ->ι->Prop} {s:ι} {it S:Addr} {o:Obj} {es:Array (Int×δ)} {ep n i:Nat} {t:l7}
end
section
variable {P:Β} {w:Ξ} {A:Φ} {E:δ->ι->Prop} {s:ι} {it S tp:Addr} {o ot:Obj} {es:Array (Int×δ)} {ep n i m:Nat} {t:l7} {pl:Array δ}
end
section
variable {P:Β} {w:Ξ} {A:Φ} {E:δ->ι->Prop} {s:ι} {S:Addr} {o:Obj} {es:Array (Int×δ)} {ep:Nat} {t:l7}
end
section
variable {P:Β} {w:Ξ} {it S tp:Addr} {o ot:Obj} {es:Array (Int×δ)} {ep m:Nat} {t:l7}
end
section
variable {P:Β} {w:Ξ} {A:Φ} {E:δ->ι->Prop} {s:ι} {S:Addr} {xs:List Str}
variable {R:DS->ι->Prop} {it L:Addr} {fp:List Addr} {vs:List δ} {St:Nat->Heap->Prop}
end
section
variable {P:Β} {w:Ξ} {A:Φ} {E:δ->ι->Prop} {s:ι} {S:Addr} {xs:List Str}
end
section
variable {X:Cx} {pins:List (Addr×Obj)} {σ:St} {H:Hp} {s:ι}
theorem qQ {ps:List Str} {its:List δ} (rv:au (ps.map V.str) its) (i:Nat) (hi:i < ps.length):∃ t,its.getD i .none=ϲ (ps.getD i default) t:=by
 obtain ⟨u,hu,ru⟩:=au.get (i:=i) (x:=V.str ps[i]) rv (by rw [Κ,Ζ hi]; rfl)
 obtain ⟨t,rfl⟩:=(show ∃ t,u=ϲ ps[i] t from ru)
 exact ⟨t,by simp [t7,hu,hi]⟩
end
section
variable {X:Cx}
def SetO (P:Β) (w:Ξ) (a:Addr) (xs:List Str):HO:=.ext fun h=>cr P w h a xs
theorem sY (hc:X.calm=true):bU X (.type "set") (fun xs H Q=>∃ (l:Addr) (ys:List Str),xs=[.ref l]/\SqL X.K H l (ys.map V.str)/\ys.length<=1000 /\
  ∀ (a:Addr) (zs:List Str),H a=none->zs.Nodup->(∀ x,x∈zs↔x∈ys)->zs.length<=ys.length->Q (.ref a) (upd H a (SetO X.prog X.w a zs))):=by
 intro pins s σ H xs us Q I r h
 obtain ⟨l,ys,rfl,hq,hy,q⟩:=h
 obtain ⟨u,rfl,ru⟩:=cO r
 cases ru
 obtain ⟨its,rv,p,hz⟩:=I.list hq
 have li:its.length=ys.length:=by have:=rv.length; rw [ζ] at this; exact this.symm
 have hb:its.toArray.size + 1 < scanBound:=by rw [ρ,li]; unfold scanBound; omega
 refine jl (ys:=ys) (I.ok.hd hc) p.isList (fun i v hv=>?_) hb fun h' tk hS k=>?_
 ·have hv':its[i]?=some v:=by simpa using hv
  have hi:i < ys.length:=by rw [<- li]; exact (π.mp hv').1
  obtain ⟨t,e⟩:=qQ rv i hi
  refine ⟨t,?_⟩
  rw [<- e]
  simp [t7,hv']
 ·have sz:its.toArray.size=ys.length:=by rw [ρ,li]
  rw [sz] at hS
  refine ⟨.ref s.heap.objs.size,_,I.laid (a:=s.heap.objs.size) (o:=SetO X.prog X.w s.heap.objs.size (uq (fun i=>ys.getD i default) ys.length)) (t':=tk) (fun b u e=>k b u (υ e) e) (τ _) ?_,rfl,q _ _ I.fresh (fQ _ _) (fun x=>?_) (lh _ _)⟩
  ·refine ⟨hS,?_,fun h1 h2 x kk=>cr.at' x kk⟩
   obtain ⟨o,_,_,_,ho,_⟩:=hS
   exact ⟨o,ho⟩
  ·rw [pd]
   constructor
   ·rintro ⟨j,hj,rfl⟩
    have e:ys.getD j default=ys[j]:=by simp [t7,hj]
    rw [e]; exact k8 hj
   ·intro hx
    obtain ⟨j,hj,rfl⟩:=e_ hx
    exact ⟨j,hj,by simp [t7,hj]⟩
end
section
variable {X:Cx}
theorem wB {j:Int} (h0:0 < j) (h1:j < 10 ^ 60):j.natAbs.log2 < 9000:=by
 have hn:j.natAbs < 2 ^ 200:=by omega
 have:=(Nat.log2_lt (n:=j.natAbs) (k:=200) (by omega)).mpr hn
 omega
def AO (i j:Int):Prop:=0 < j/\j < 10 ^ 60
theorem cn:OpR X (binaryOp .FloorDiv) (rI AO fun i j=>.int (i / j)):=opI fun i j _ _ _ _ _ hc q=>by
 have h1:(0:Int) < j:=hc.1
 exact floordiv_int (by omega) (by rw [BX i (by omega)]; exact q) (.inl (PyProof.noPylong_of_log2 (wB hc.1 hc.2)))
end
theorem kh:∀ {xs:List V} {us:List δ},xs.length=us.length->(∀ (i:Nat) (x:V) (u:δ),xs[i]?=some x->us[i]?=some u->ay x u)->au xs us
 | [],[],_,_=>.nil
 | [],_ :: _,h,_=>by cases h
 | _ :: _,[],h,_=>by cases h
 | x :: xs,u :: us,h,g=>.cons (g 0 x u rfl rfl) (kh (by simpa using h) fun i y v h1 h2=>g (i + 1) y v h1 h2)
section
variable {X:Cx}
end
open PySem PySem.Spec PyProof.Rows
section
variable {prog:Β} {w:Ξ} {A:Φ} {E:δ->ι->Prop} {s:ι}
theorem bY {it t:Addr} {i:Nat} {its:Array δ} {x:δ} {Q:δ->ι->Prop} (hit:s.heap.IsTupleIter it t i) (ht:s.heap.IsTuple t its) (hx:its[i]?=some x)
  (hQ:∀ h',h'.IsTupleIter it t (i + 1)->y9 it s.heap h'->Q x { s with heap:=h' }):wpAny (model prog w) A (Ϧ (.ref it)) Q E s:=by
 obtain ⟨o,ho,hc,hd⟩:=id hit
 obtain ⟨ol,hol,_,nl,hdl⟩:=ht
 unfold Ϧ
 refine γ (Ϸ (name:=η "__next__") hit.typeIs p_ (a9 p_ hit.typeIs C9 ?_ (C2 _)))
 show wpAny _ _ (field (.ref it) 0 >>= _) _ _ s; refine γ (ϣ ho hd (x:=.ref t) rfl ?_)
 show wpAny _ _ (if (Η t == Ϭ)=true then _ else _) _ _ s; rw [if_neg (show ¬ ((Η t == Ϭ)=true) from Ι)]
 show wpAny _ _ (field (.ref it) 1 >>= _) _ _ s; refine γ (ϣ ho hd (x:=.int i 0) rfl ?_)
 show wpAny _ _ (seqItems? (.ref t) >>= _) _ _ s; refine γ (j7 hol hdl ?_); simp only [l_,hx]
 refine γ (B4 ho hd (by simp) (ξ ⟨x,rfl,ξ (hQ _ ⟨_,Ϝ _ ho (Cw (z_ hd _)),(Obj.cls_mapFields ..).trans hc,by rw [z_ hd]; simp [rawInt]⟩ (x_ ..))⟩))
theorem dG {it t:Addr} {i:Nat} {its:Array δ} {Q:δ->ι->Prop} (hh:A.handled=none) (hit:s.heap.IsTupleIter it t i) (ht:s.heap.IsTuple t its) (hx:its[i]?=none)
  (hE:∀ h' e,Heap.ExtBut it s.heap h'->(∃ o,h'.get? e=some o/\o.cls=.type "StopIteration")->E (.ref e) { s with heap:=h' }):wpAny (model prog w) A (Ϧ (.ref it)) Q E s:=by
 obtain ⟨o,ho,hc,hd⟩:=id hit
 obtain ⟨ol,hol,_,nl,hdl⟩:=ht
 unfold Ϧ
 refine γ (Ϸ (name:=η "__next__") hit.typeIs p_ (a9 p_ hit.typeIs C9 ?_ (C2 _)))
 show wpAny _ _ (field (.ref it) 0 >>= _) _ _ s; refine γ (ϣ ho hd (x:=.ref t) rfl ?_)
 show wpAny _ _ (if (Η t == Ϭ)=true then _ else _) _ _ s; rw [if_neg (show ¬ ((Η t == Ϭ)=true) from Ι)]
 show wpAny _ _ (field (.ref it) 1 >>= _) _ _ s; refine γ (ϣ ho hd (x:=.int i 0) rfl ?_)
 show wpAny _ _ (seqItems? (.ref t) >>= _) _ _ s; refine γ (j7 hol hdl ?_); simp only [l_,hx]
 refine γ (o_ (γ (B4 ho hd (by simp) ?_))); show wpAny _ _ (newExc (.type "StopIteration") [] >>= _) _ _ _
 refine γ ?_; simp only [newExc,newTuple]; refine γ (ϖ ?_ (by size_fits))
 refine γ (m:=firstArgMember _ _) (wpAny_of_eq (a:=Ϭ) (by first | rfl | (simp only [firstArgMember]; rfl)) (ϖ ?_ (by size_fits)))
 simp only [raiseNew]; refine γ (wpAny_handled ?_); first | rw [show A.in1.handled=none from hh] | rw [hh]
 refine γ (ξ (wpAny_throw (hE _ _ (((x_ ..).extBut.push _).push _) ⟨_,Γ _ rfl,rfl⟩)))
end
section
variable {X:Cx}
end
open PySem PySem.Spec PyProof.Rows PySem.W
section
variable {X:Cx}
variable {tg:Expr}
end
noncomputable def cF (p:Prop):Bool:=@decide p (Classical.propDecidable p)
theorem bL {p:Prop}:cF p=true↔p:=by unfold cF; exact @decide_eq_true_iff p (Classical.propDecidable p)
theorem cw {p:Prop} {b:Bool} (h:b=true↔p):b=cF p:=by rw [i6,bL]; exact h
theorem bZ {p:Prop} (h:¬ p):false=cF p:=cw ⟨fun z=>(nomatch z),fun z=>absurd z h⟩
mutual
theorem Rep.inj {H:Hp}:∀ (d e:Dv) (v:V),Rep H d v->Rep H e v->d=e
 | .tup ds,e,v,h1,h2=>by
  simp only [Rep] at h1
  obtain ⟨a,vs,rfl,ha,rs⟩:=h1
  cases e with
  | tup es=>simp only [Rep] at h2; obtain ⟨b,ws,eb,hb,rs2⟩:=h2; cases eb; rw [ha] at hb; cases hb; rw [Reps.inj ds es vs rs rs2]
  | lst es=>simp only [Rep] at h2; obtain ⟨b,ws,eb,hb,rs2⟩:=h2; cases eb; rw [ha] at hb; cases hb
  | dct=>simp only [Rep] at h2; obtain ⟨b,eb,hb⟩:=h2; cases eb; rw [ha] at hb; cases hb
  | _=>simp only [Rep] at h2; cases h2
 | .lst ds,e,v,h1,h2=>by
  simp only [Rep] at h1
  obtain ⟨a,vs,rfl,ha,rs⟩:=h1
  cases e with
  | lst es=>simp only [Rep] at h2; obtain ⟨b,ws,eb,hb,rs2⟩:=h2; cases eb; rw [ha] at hb; cases hb; rw [Reps.inj ds es vs rs rs2]
  | tup es=>simp only [Rep] at h2; obtain ⟨b,ws,eb,hb,rs2⟩:=h2; cases eb; rw [ha] at hb; cases hb
  | dct=>simp only [Rep] at h2; obtain ⟨b,eb,hb⟩:=h2; cases eb; rw [ha] at hb; cases hb
  | _=>simp only [Rep] at h2; cases h2
 | .dct,e,v,h1,h2=>by
  simp only [Rep] at h1
  obtain ⟨a,rfl,ha⟩:=h1
  cases e with
  | dct=>rfl
  | tup es=>simp only [Rep] at h2; obtain ⟨b,ws,eb,hb,rs2⟩:=h2; cases eb; rw [ha] at hb; cases hb
  | lst es=>simp only [Rep] at h2; obtain ⟨b,ws,eb,hb,rs2⟩:=h2; cases eb; rw [ha] at hb; cases hb
  | _=>simp only [Rep] at h2; cases h2
 | .non,e,v,h1,h2=>by
  simp only [Rep] at h1; subst h1
  cases e with
  | non=>rfl
  | tup es=>simp only [Rep] at h2; obtain ⟨b,ws,eb,_⟩:=h2; cases eb
  | lst es=>simp only [Rep] at h2; obtain ⟨b,ws,eb,_⟩:=h2; cases eb
  | dct=>simp only [Rep] at h2; obtain ⟨b,eb,_⟩:=h2; cases eb
  | _=>simp only [Rep] at h2; cases h2
 | .bl _,e,v,h1,h2=>by
  simp only [Rep] at h1; subst h1
  cases e with
  | bl b=>simp only [Rep] at h2; cases h2; rfl
  | tup es=>simp only [Rep] at h2; obtain ⟨b,ws,eb,_⟩:=h2; cases eb
  | lst es=>simp only [Rep] at h2; obtain ⟨b,ws,eb,_⟩:=h2; cases eb
  | dct=>simp only [Rep] at h2; obtain ⟨b,eb,_⟩:=h2; cases eb
  | _=>simp only [Rep] at h2; cases h2
 | .int _,e,v,h1,h2=>by
  simp only [Rep] at h1; subst h1
  cases e with
  | int b=>simp only [Rep] at h2; cases h2; rfl
  | tup es=>simp only [Rep] at h2; obtain ⟨b,ws,eb,_⟩:=h2; cases eb
  | lst es=>simp only [Rep] at h2; obtain ⟨b,ws,eb,_⟩:=h2; cases eb
  | dct=>simp only [Rep] at h2; obtain ⟨b,eb,_⟩:=h2; cases eb
  | _=>simp only [Rep] at h2; cases h2
 | .str _,e,v,h1,h2=>by
  simp only [Rep] at h1; subst h1
  cases e with
  | str b=>simp only [Rep] at h2; cases h2; rfl
  | tup es=>simp only [Rep] at h2; obtain ⟨b,ws,eb,_⟩:=h2; cases eb
  | lst es=>simp only [Rep] at h2; obtain ⟨b,ws,eb,_⟩:=h2; cases eb
  | dct=>simp only [Rep] at h2; obtain ⟨b,eb,_⟩:=h2; cases eb
  | _=>simp only [Rep] at h2; cases h2
theorem Reps.inj {H:Hp}:∀ (ds es:List Dv) (vs:List V),Reps H ds vs->Reps H es vs->ds=es
 | [],es,vs,h1,h2=>by
  simp only [Reps] at h1; subst h1
  cases es with
  | nil=>rfl
  | cons e es=>simp only [Reps] at h2; obtain ⟨v,r,e2,_⟩:=h2; cases e2
 | d :: ds,es,vs,h1,h2=>by
  simp only [Reps] at h1
  obtain ⟨v,r,rfl,r1,rs1⟩:=h1
  cases es with
  | nil=>simp only [Reps] at h2; cases h2
  | cons e es=>
   simp only [Reps] at h2
   obtain ⟨v2,r2,e2,r3,rs3⟩:=h2
   cases e2
   rw [Rep.inj d e v r1 r3,Reps.inj ds es r rs1 rs3]
end
inductive Pl:Nat->Dv->Prop
 | int {n:Nat} {i:Int}:Pl n (.int i)
 | str {n:Nat} {x:Str}:Pl n (.str x)
 | non {n:Nat}:Pl n .non
 | tup {n:Nat} {ds:List Dv}:(∀ d∈ds,Pl n d)->Pl (n + 1) (.tup ds)
theorem Pl.up {m n:Nat} {d:Dv} (h:Pl m d):m<=n->Pl n d:=by
 induction h generalizing n with
 | int=>intro _; exact .int
 | str=>intro _; exact .str
 | non=>intro _; exact .non
 | tup _ ih=>
  intro l
  obtain ⟨k,rfl⟩:∃ k,n=k + 1:=⟨n - 1,by omega⟩
  exact .tup fun d hd=>ih d hd (by omega)
theorem eY {ds es:List Dv}:((Ω (min ds.length es.length)).all (fun j=>cF (ds[j]?=es[j]?)) && ds.length == es.length)=cF (Dv.tup ds=.tup es):=by
 refine cw ?_
 rw [Θ,Ϯ,beq_iff_eq]
 constructor
 ·rintro ⟨h,hl⟩
  congr 1
  refine Cu fun j=>?_
  by_cases hj:j < ds.length
  ·exact bL.mp (h j (ϸ.mpr (by omega)))
  ·rw [ϵ (by omega),ϵ (by omega)]
 ·intro h
  cases h
  exact ⟨fun j _=>bL.mpr rfl,rfl⟩
section
variable {X:Cx} {pins:List (Addr×Obj)} {σ:St} {H:Hp} {s:ι}
theorem eK (I:Inv X pins σ H s) {A:Φ} {n:Nat} {ds es:List Dv} {vs ws:List V} {its its2:List δ}
  (h:∀ d∈ds,∀ e∈es,∀ (v w:V) (a b:δ),Rep H d v->Rep H e w->ay v a->ay w b->ϗ A s a b (cF (d=e))) (rs1:Reps H ds vs) (rs2:Reps H es ws) (rv1:au vs its) (rv2:au ws its2) :
  its.toArray.size=ds.length/\its2.toArray.size=es.length/\∀ j (h1:j < its.toArray.size) (h2:j < its2.toArray.size),ϗ A s its.toArray[j] its2.toArray[j] (cF (ds[j]?=es[j]?)):=by
 have l1:=rs1.length
 have l2:=rs2.length
 have l3:=rv1.length
 have l4:=rv2.length
 refine ⟨by simp; omega,by simp; omega,fun j h1 h2=>?_⟩
 have hj:j < its.length:=by simpa using h1
 have hj2:j < its2.length:=by simpa using h2
 obtain ⟨u,hu1,ru⟩:=au.get (i:=j) (x:=vs[j]'(by omega)) rv1 (Ζ _)
 obtain ⟨u2,hu2,ru2⟩:=au.get (i:=j) (x:=ws[j]'(by omega)) rv2 (Ζ _)
 obtain ⟨d,hd,Rd⟩:=rs1.get (i:=j) (v:=vs[j]'(by omega)) (Ζ _)
 obtain ⟨d2,hd2,Rd2⟩:=rs2.get (i:=j) (v:=ws[j]'(by omega)) (Ζ _)
 have e1:its.toArray[j]=u:=by
  rw [Ζ hj] at hu1
  simpa using ϙ hu1
 have e2:its2.toArray[j]=u2:=by
  rw [Ζ hj2] at hu2
  simpa using ϙ hu2
 rw [e1,e2,hd,hd2]
 have e3:cF (some d=some d2)=cF (d=d2):=cw (by rw [bL]; exact ⟨ϙ,fun z=>by rw [z]⟩)
 rw [e3]
 exact h d (Α hd) d2 (Α hd2) _ _ _ _ Rd Rd2 ru ru2
theorem kU (I:Inv X pins σ H s) {n:Nat} {d:Dv} (h:Pl n d):∀ {e:Dv},Pl n e->∀ {A:Φ} {v w:V} {a b:δ},A.units + n < cLine->Rep H d v->Rep H e w->ay v a->ay w b->ϗ A s a b (cF (d=e)):=by
 induction h with
 | @int n i=>
  intro e he A v w a b hu r1 r2 q1 q2
  simp only [Rep] at r1
  subst r1
  obtain ⟨t,rfl⟩:=(show ∃ t,a=B7 i t from q1)
  cases he with
  | @int _ j=>simp only [Rep] at r2; subst r2; obtain ⟨u,rfl⟩:=(show ∃ t,b=B7 j t from q2); rw [<- cw (b:=(i == j)) (by rw [beq_iff_eq]; exact ⟨fun z=>by rw [z],fun z=>Dv.int.inj z⟩)]; exact ϗ.int_int i t j u
  | @str _ x=>simp only [Rep] at r2; subst r2; obtain ⟨u,rfl⟩:=(show ∃ t,b=ϲ x t from q2); rw [<- bZ nofun]; exact Db i t x u
  | non=>simp only [Rep] at r2; subst r2; cases q2; rw [<- bZ nofun]; exact ϗ.int_none i t
  | @tup n es _=>simp only [Rep] at r2; obtain ⟨l,ws,rfl,hl,_⟩:=r2; cases q2; obtain ⟨its,_,p,_⟩:=I.tuple (SqT.of hl); rw [<- bZ nofun]; exact ϗ.int_tuple i t p (by omega)
 | @str n x=>
  intro e he A v w a b hu r1 r2 q1 q2
  simp only [Rep] at r1
  subst r1
  obtain ⟨t,rfl⟩:=(show ∃ t,a=ϲ x t from q1)
  cases he with
  | @int _ j=>simp only [Rep] at r2; subst r2; obtain ⟨u,rfl⟩:=(show ∃ t,b=B7 j t from q2); rw [<- bZ nofun]; exact Dc x t j u
  | @str _ y=>simp only [Rep] at r2; subst r2; obtain ⟨u,rfl⟩:=(show ∃ t,b=ϲ y t from q2); rw [<- cw (b:=(x == y)) (by rw [beq_iff_eq]; exact ⟨fun z=>by rw [z],fun z=>Dv.str.inj z⟩)]; exact Dk x t y u
  | non=>simp only [Rep] at r2; subst r2; cases q2; rw [<- bZ nofun]; exact ϗ.str_none x t
  | @tup n es _=>simp only [Rep] at r2; obtain ⟨l,ws,rfl,hl,_⟩:=r2; cases q2; obtain ⟨its,_,p,_⟩:=I.tuple (SqT.of hl); rw [<- bZ nofun]; exact ϗ.str_tuple x t p (by omega)
 | @non n=>
  intro e he A v w a b hu r1 r2 q1 q2
  simp only [Rep] at r1
  subst r1
  cases q1
  cases he with
  | @int _ j=>simp only [Rep] at r2; subst r2; obtain ⟨u,rfl⟩:=(show ∃ t,b=B7 j t from q2); rw [<- bZ nofun]; exact ϗ.none_int j u
  | @str _ y=>simp only [Rep] at r2; subst r2; obtain ⟨u,rfl⟩:=(show ∃ t,b=ϲ y t from q2); rw [<- bZ nofun]; exact ϗ.none_str y u
  | non=>simp only [Rep] at r2; subst r2; cases q2; rw [<- cw (b:=true) ⟨fun _=>rfl,fun _=>rfl⟩]; exact DY _
  | @tup n es _=>simp only [Rep] at r2; obtain ⟨l,ws,rfl,hl,_⟩:=r2; cases q2; obtain ⟨its,_,p,_⟩:=I.tuple (SqT.of hl); rw [<- bZ nofun]; exact ϗ.none_tuple p (by omega)
 | @tup n ds hds ih=>
  intro e he A v w a b hu r1 r2 q1 q2
  have r1':=r1
  simp only [Rep] at r1
  obtain ⟨l,vs,rfl,h1,rs1⟩:=r1
  cases q1
  obtain ⟨its,rv1,p1,_⟩:=I.tuple (SqT.of h1)
  cases he with
  | @int _ j=>simp only [Rep] at r2; subst r2; obtain ⟨u,rfl⟩:=(show ∃ t,b=B7 j t from q2); rw [<- bZ nofun]; exact ϗ.tuple_int j u p1 (by omega)
  | @str _ y=>simp only [Rep] at r2; subst r2; obtain ⟨u,rfl⟩:=(show ∃ t,b=ϲ y t from q2); rw [<- bZ nofun]; exact ϗ.tuple_str y u p1 (by omega)
  | non=>simp only [Rep] at r2; subst r2; cases q2; rw [<- bZ nofun]; exact ϗ.tuple_none p1 (by omega)
  | @tup _ es hes=>
   have r2':=r2
   simp only [Rep] at r2
   obtain ⟨b',ws,rfl,h2,rs2⟩:=r2
   cases q2
   obtain ⟨its2,rv2,p2,_⟩:=I.tuple (SqT.of h2)
   have hu':A.in1.units + n < cLine:=by show A.units + 1 + n < cLine; omega
   obtain ⟨z1,z2,q⟩:=eK I (A:=A.in1) (n:=n) (fun d hd e he v w a b r1 r2 q1 q2=>ih d hd (hes e he) hu' r1 r2 q1 q2) rs1 rs2 rv1 rv2
   by_cases hlb:l=b'
   ·subst hlb
    rw [<- cw (b:=true) ⟨fun _=>Rep.inj _ _ _ r1' r2',fun _=>rfl⟩]
    exact DY _
   ·have r:=Es.tuples (e:=fun j=>cF (ds[j]?=es[j]?)) p1 p2 (by omega) q
    rw [z1,z2,eY] at r
    exact ϗ.of_refs hlb r
end
section
variable {X:Cx}
theorem zF (hu:X.A.units + 150 < cLine):OpR X (compareOp .Eq) (fun x y H Q=>∃ (n:Nat) (ds es:List Dv),Pl n (.tup ds)/\Pl n (.tup es)/\n<=140/\Rep H (.tup ds) x/\Rep H (.tup es) y/\∀ b:Bool,(b=true↔ds=es)->Q (.bl b) H):=by
 intro pins s σ H x y v u Q I rx ry h
 obtain ⟨n,ds,es,hd,he,hn,r1,r2,q⟩:=h
 simp only [Rep] at r1 r2
 obtain ⟨l,vs,rfl,h1,rs1⟩:=r1
 obtain ⟨b',ws,rfl,h2,rs2⟩:=r2
 cases rx
 cases ry
 obtain ⟨its,rv1,p1,_⟩:=I.tuple (SqT.of h1)
 obtain ⟨its2,rv2,p2,_⟩:=I.tuple (SqT.of h2)
 cases hd with
 | @tup n ds hds=>
 cases he with
 | @tup _ es hes=>
 have hu':X.A.in1.units + n < cLine:=by show X.A.units + 1 + n < cLine; omega
 obtain ⟨z1,z2,w⟩:=eK I (A:=X.A.in1) (n:=n) (fun d hd e he v w a b r1 r2 q1 q2=>kU I (hds d hd) (hes e he) hu' r1 r2 q1 q2) rs1 rs2 rv1 rv2
 refine Es.tuples (e:=fun j=>cF (ds[j]?=es[j]?)) p1 p2 (by omega) w X.prog X.w X.xe _ ?_
 rw [z1,z2,eY]
 exact ⟨.bl _,H,I,rfl,q _ (by rw [bL]; exact ⟨fun z=>Dv.tup.inj z,fun z=>by rw [z]⟩)⟩
theorem uO (hu:X.A.units + 150 < cLine):OpR X (compareOp .NotEq) (fun x y H Q=>∃ (n:Nat) (ds es:List Dv),Pl n (.tup ds)/\Pl n (.tup es)/\n<=140/\Rep H (.tup ds) x/\Rep H (.tup es) y/\∀ b:Bool,(b=true↔ds≠es)->Q (.bl b) H):=by
 intro pins s σ H x y v u Q I rx ry h
 obtain ⟨n,ds,es,hd,he,hn,r1,r2,q⟩:=h
 simp only [Rep] at r1 r2
 obtain ⟨l,vs,rfl,h1,rs1⟩:=r1
 obtain ⟨b',ws,rfl,h2,rs2⟩:=r2
 cases rx
 cases ry
 obtain ⟨its,rv1,p1,_⟩:=I.tuple (SqT.of h1)
 obtain ⟨its2,rv2,p2,_⟩:=I.tuple (SqT.of h2)
 cases hd with
 | @tup n ds hds=>
 cases he with
 | @tup _ es hes=>
 have hu':X.A.in1.units + n < cLine:=by show X.A.units + 1 + n < cLine; omega
 obtain ⟨z1,z2,w⟩:=eK I (A:=X.A.in1) (n:=n) (fun d hd e he v w a b r1 r2 q1 q2=>kU I (hds d hd) (hes e he) hu' r1 r2 q1 q2) rs1 rs2 rv1 rv2
 refine SeqAt.RcNeAt.tuples (e:=fun j=>cF (ds[j]?=es[j]?)) p1 p2 (by omega) w X.prog X.w X.xe _ ?_
 rw [z1,z2,eY]
 refine ⟨.bl _,H,I,rfl,q _ ?_⟩
 rw [Bool.not_eq_true',<- Bool.not_eq_true,bL]
 exact ⟨fun z y=>z (by rw [y]),fun z y=>z (Dv.tup.inj y)⟩
end
theorem iX {A:Φ} {k:Nat} (hr:bH k A):A.units + 150 < cLine:=by have:=hr.un; omega
section
variable {X:Cx} {k:Nat} {f:Addr} {fd:Μ} {ps:List Str} {sp:Sp} {x:Str} {p pos:Pos} {e:Expr} {es:List Expr} {t:TA}
def zI (f:Addr) (i:Nat) (sp:Sp) (t:TA):TE:=fun σ H Q=>σ[i]?=some (some (.ref f))/\t σ H fun vs H1=>sp (vs ++ []) H1 Q E0
theorem pe_callV (i:Nat) (F:aK X.prog X.w X.K X.mg X.base CX0 k f fd ps sp) (hr:bH k X.A) (hk:PySem.W.keepIn X.K (.ref f)=true) (hb:bG X.K fd ps []) (ha:PA X (e :: es) t) (hN:X.N[i]?=some x:=by rfl)
  (hv:Vis X.env.scope x:=by first | exact Λ rfl | exact CV (Λ rfl) | exact CV (CV rfl)) (hd:(x == ("__debug__" : Str))=false:=by decide) (hcd:(x == ("__classdict__" : Str))=false:=by decide)
  (he:starEach (e :: es) X.env=(false,eval e X.env) :: starEach es X.env:=by rfl) (hpl:(backTo pos (starEach es X.env)).any (·.1)=false:=by rfl):PE X (.Call (.Name x p) (e :: es) [] pos) (zI f i sp t):=by
 intro pins s σ H Q I h
 obtain ⟨h1,h2⟩:=h
 refine i7 (thn (vG (X:=X) (pos:=p) hN hv hd hcd pins s σ H (fun v H'=>v=.ref f/\H'=H) I ⟨_,h1,rfl,rfl⟩) fun u s1 ⟨v,H1,I1,r1,e1,e2⟩=>?_)
 subst e1 e2
 cases r1
 exact PySem.W.callWith_K (h₀:=X.base) I1.ok.mod.kin hk (thn (ha pos pins s1 σ _ _ I1 h2) fun us s2 ⟨vs,H2,I2,r,q⟩=>⟨I2.kIn,tW F hr hb .nil yh I2 r q⟩) he hpl
end
section
variable {prog:Β} {w:Ξ} {A:Φ} {E:δ->ι->Prop} {s:ι} {r l S:Addr} {items:Array δ}
theorem sw:typeLookup (.type "list_reverseiterator") "__len__"=pure none:=by rw [typeLookup_type,builtinLookup_eq_fast]; kernel_rfl
theorem tL:typeLookup (.type "list_reverseiterator") "__length_hint__"=pure (some (.builtin "list_reverseiterator.__length_hint__")):=by rw [typeLookup_type,builtinLookup_eq_fast]; kernel_rfl
theorem vI {Q:Bool->ι->Prop} (hT:s.TypeIs (.ref r) "list_reverseiterator") (h:∀ b,Q b s):wpAny (model prog w) A (C_ (.ref r)) Q E s:=by
 unfold C_
 refine γ (DX hT sw ?_)
 show wpAny _ A (specialOf (Η r) (η "__length_hint__") >>= _) _ _ _
 refine γ (DX hT tL ?_)
 generalize hid:("list_reverseiterator.__length_hint__" : String)=id0
 wp_delta
 rw [show splitId id0=some ("list_reverseiterator","__length_hint__") from by subst hid; decide +kernel]
 subst hid
 refine γ (DM (b:=true) hT (by rw [isSubtype_type]; kernel_rfl) ?_)
 exact ξ (h _)
theorem on {R:DS->ι->Prop} (hh:A.handled=none) (hr:s.heap.IsRevIter r l ((items.size:Int) - 1)) (hl:s.heap.IsList l items) (hlr:l≠r) (hSr:S≠r) (hSl:S≠l) (res:δ) (c₀:Nat) (hS:s.heap.get? S=some { cls:=.type "list",data:=.seq #[] c₀ })
  (hR:∀ h' tk acc' c',(∀ b o,b≠S->b≠r->s.heap.get? b=some o->h'.get? b=some o)->h'.get? S=some { cls:=.type "list",dict:=none,data:=.seq acc' c',slots:=#[] }->ItemsOf (fun i v=>items[items.size - 1 - i]?=some v) acc' items.size->R (.ok (.ret res)) { s with heap:=h',toks:=tk }) (hn:items.size<=sizeLine) :
  wpAny (model prog w) A.in1 (m8 (.ref S) (.ref r) res) (fun fin s'=>match fin with | .done f=>R (.ok f) s' | .again c'=>c'.quiet=true/\codeAny (model prog w) A c' R s') (fun e s'=>R (.error e) s') s:=by
 have W:=Eu.listRev (prog:=prog) (w:=w) (A:=A.in1) hh r l hlr items
 have hSf:S∉[r,l]:=by simp only [θ,ϳ,or_false,not_or]; exact ⟨hSr,hSl⟩
 have e0:(items.size:Int) - 1 - ((0:Nat):Int)=(items.size:Int) - 1:=by omega
 have key:∀ (h:Heap) (c₁ tk:Nat),(∀ b o,b≠S->s.heap.get? b=some o->h.get? b=some o)->h.get? S=some { cls:=.type "list",data:=.seq #[] c₁ }->codeAny (model prog w) A (.builtin "list.extend.loop" ⟨[.ref S,.ref r,res],[]⟩) R { s with heap:=h,toks:=tk }:=by
  intro h c₁ tk hk hS₁
  refine codeAny_extend_loopS W.toS hn S hSf res items.size 0 _ #[] c₁ rfl (Χ _) ⟨Χ _,by rw [e0]; exact hr.at fun o e=>hk r o (ϊ hSr) e,hl.at fun o e=>hk l o (ϊ hSl) e⟩ hS₁ (ItemsOf.nil _) fun s' acc' c' hm hS' hacc=>?_
  rw [Moved.eq_with hm]
  refine hR s'.heap s'.toks acc' c' (fun b o hb hbr e=>hm.heap b o (fun z=>?_) (hk b o hb e)) hS' hacc
  rcases θ.mp z with z | z
  ·exact hb z
  ·exact hbr (ε.mp z)
 unfold m8
 refine γ (C8 (T:="list_reverseiterator") hr.typeIs ?_)
 have h1:Ϣ.List.listSameRef (.ref S) (.ref r)=false:=by simp [Ϣ.List.listSameRef,hSr]
 rw [if_neg (by rw [h1]; decide)]
 refine γ (wpAny_pyIter_revIter hr ?_)
 refine γ (a7 (vI hr.typeIs fun b=>?_))
 refine wpAny_ite_split (fun _=>?_) (fun _=>ξ ⟨DI PySem.F.plain_extend_loop _,key _ c₀ _ (fun b o _ e=>e) hS⟩)
 refine γ (o_ (γ ?_)); show wpAny _ _ (updateSeq S (·.push .none) >>= fun _=>updateSeq S (·.pop)) _ _ _
 refine γ (C3 hS rfl ?_)
 have hS₂:=Ϝ (o0 (·.push Ϭ)) hS rfl
 refine C3 (hz:=by seq_fits) hS₂ rfl ?_
 have hS₃:=Ϝ (o0 (·.pop)) hS₂ rfl
 exact ξ ⟨DI PySem.F.plain_extend_loop _,key _ _ _ (fun b o hb e=>(ύ _ _ (ϊ hb)).trans ((ύ _ _ (ϊ hb)).trans e)) hS₃⟩
theorem tz {R:DS->ι->Prop} (hh:A.handled=none) (hr:s.heap.IsRevIter r l ((items.size:Int) - 1)) (hl:s.heap.IsList l items) (hlr:l≠r) (hSr:S≠r) (hSl:S≠l) (hS:s.heap.get? S=some { cls:=.type "list",data:=.seq #[] })
  (hR:∀ h' tk acc' c',(∀ b o,b≠S->b≠r->s.heap.get? b=some o->h'.get? b=some o)->h'.get? S=some { cls:=.type "list",dict:=none,data:=.seq acc' c',slots:=#[] }->ItemsOf (fun i v=>items[items.size - 1 - i]?=some v) acc' items.size->R (.ok (.ret .none)) { s with heap:=h',toks:=tk }) (hn:items.size<=sizeLine) :
  wpAny (model prog w) A.in1 (Ϣ.«list.__init__» ⟨[.ref S,.ref r],[]⟩) (fun fin s'=>match fin with | .done f=>R (.ok f) s' | .again c'=>c'.quiet=true/\codeAny (model prog w) A c' R s') (fun e s'=>R (.error e) s') s:=by
 show wpAny _ _ (do let old <- Ϣ.List.listItems (.ref S); Ϣ.List.listUpdate (.ref S) (fun _=>#[]); letGo old.toList.reverse; m8 (.ref S) (.ref r) .none) _ _ s; refine γ ?_
 unfold Ϣ.List.listItems; refine γ (j7 hS rfl (ξ ?_))
 show wpAny _ _ (updateSeq S (fun _=>#[]) >>= fun _=>letGo (#[]:Array δ).toList.reverse >>= fun _=>m8 (.ref S) (.ref r) .none) _ _ s; refine γ (C3 hS rfl ?_)
 have hS₂:=Ϝ (o0 (fun _=>(#[]:Array δ))) hS rfl
 have oth:∀ b o,b≠S->s.heap.get? b=some o->(s.heap.update S (o0 (fun _=>(#[]:Array δ)))).get? b=some o:=fun b o hb e=>(ύ _ _ (ϊ hb)).trans e
 refine γ (Eg (on hh (hr.at fun o e=>oth r o (ϊ hSr) e) (hl.at fun o e=>oth l o (ϊ hSl) e) hlr hSr hSl .none _ hS₂ (fun h' tk acc' c' hk hS' hacc=>?_) hn))
 exact hR h' tk acc' c' (fun b o hb hbr e=>hk b o hb hbr (oth b o hb e)) hS' hacc
theorem vp {Q:δ->ι->Prop} (hh:A.handled=none) (hr:s.heap.IsRevIter r l ((items.size:Int) - 1)) (hl:s.heap.IsList l items) (hlr:l≠r) (hn:items.size<=sizeLine)
  (hQ:∀ h' tk acc' c',(∀ b o,b≠r->s.heap.get? b=some o->h'.get? b=some o)->h'.get? s.heap.objs.size=some { cls:=.type "list",dict:=none,data:=.seq acc' c',slots:=#[] }->ItemsOf (fun i v=>items[items.size - 1 - i]?=some v) acc' items.size->Q (.ref s.heap.objs.size) { s with heap:=h',toks:=tk }) :
  wpAny (model prog w) A (call (.type "list") [.ref r]) Q E s:=by
 refine callType_codes (Q₁:=fun obj s₁=>obj=.ref s.heap.objs.size/\s₁={ s with heap:=s.heap.push { cls:=.type "list",data:=.seq #[] } }) PySem.F.called_list (PySem.F.typeCall_list_1 _) PySem.F.entry_list_init (code_list_new _ ⟨rfl,rfl⟩) fun obj s₁ h₁=>?_
 obtain ⟨rfl,rfl⟩:=h₁
 have hS:(s.heap.push { cls:=.type "list",data:=.seq #[] }).get? s.heap.objs.size=some { cls:=.type "list",data:=.seq #[] }:=Γ _ rfl
 have hr':r < s.heap.objs.size:=let ⟨o,ho,_⟩:=hr; υ ho
 have hl':l < s.heap.objs.size:=let ⟨o,ho,_⟩:=hl; υ ho
 refine ⟨⟨_,hS,rfl⟩,PySem.F.args_list_init_2 _ _,tz (A:=A.in1) hh (hr.at fun o e=>ν _ e) (hl.at fun o e=>ν _ e) hlr (i5 hr') (i5 hl') hS (fun h' tk acc' c' hk hS' hacc=>?_) hn⟩
 exact ⟨rfl,hQ h' tk acc' c' (fun b o hb e=>hk b o (Τ (υ e)) hb (ν _ e)) hS' hacc⟩
end
section
variable {X:Cx} {e:Expr} {te:TE} {p p1 pos pos1:Pos}
def vF (K:PySem.W.Frag) (te:TE):TE:=fun σ H Q=>te σ H fun x H1=>∃ l ys,x=.ref l/\SqL K H1 l ys/\∀ a,H1 a=none->Q (.ref a) (upd H1 a (.lst ys.reverse))
theorem pe_listrev (hg:Gl X "list") (hm:X.mg "list"=none) (hg':Gl X "reversed") (hm':X.mg "reversed"=none) (hc:X.calm=true) (he:PE X e te)
  (hs:starEach [e] X.env=[(false,eval e X.env)]:=by rfl) (hs2:starEach [.Call (.Name "reversed" p1) [e] [] pos1] X.env=[(false,eval (.Call (.Name "reversed" p1) [e] [] pos1) X.env)]:=by rfl) :
  PE X (.Call (.Name "list" p) [.Call (.Name "reversed" p1) [e] [] pos1] [] pos) (vF X.K te):=by
 intro pins s σ H Q I h
 refine i7 (cH I hg hm (u:=.type "list") (by decide +kernel) ?_)
 refine Ϫ ?_ hs2 rfl
 rw [hs2]
 show wpAny _ _ (spliced ((false,eval (.Call (.Name "reversed" p1) [e] [] pos1) X.env) :: backTo pos [])) _ _ s
 refine Dg (i7 (cH I hg' hm' (u:=.type "reversed") (by decide +kernel) (Ϫ ?_ hs rfl)))
 rw [hs]
 show wpAny _ _ (spliced ((false,eval e X.env) :: backTo pos1 [])) _ _ s
 refine Dg (thn (he pins s σ H _ I h) fun u s1 ⟨x,H1,I1,r1,l,ys,ex,hq,q⟩=>Dy ?_)
 subst ex
 cases r1
 obtain ⟨its,rv,pl,hz⟩:=I1.list hq
 have li:its.length=ys.length:=rv.length.symm
 have hl':l < s1.heap.objs.size:=let ⟨o,ho,_⟩:=pl.isList; υ ho
 refine call_reversed_list pl.isList (Dy ?_)
 refine vp (A:=X.A) (s:={ s1 with heap:=s1.heap.push (revObj l ((its.toArray.size:Int) - 1)) }) (I1.ok.hd hc) ⟨_,Γ _ rfl,rfl,rfl⟩ (pl.isList.at fun o e=>ν _ e) (Τ hl') (by simp; omega) fun h' tk acc c k hS it=>?_
 have k1:∀ b o,s1.heap.get? b=some o->h'.get? b=some o:=fun b o e=>k b o (Τ (υ e)) (ν _ e)
 have rv':au ys.reverse acc.toList:=by
  refine kh (by have h1:=it.1; have h2:acc.toList.length=acc.size:=Ϟ; rw [Ϥ,h2,h1]; simpa using li.symm) fun i x u h1 h2=>?_
  have hi:i < ys.length:=by have:=(π.mp h1).1; rwa [Ϥ] at this
  rw [A5 hi] at h1
  have h3:=it.2 i u (by rw [<- Array.getElem?_toList]; exact h2)
  have h4:its[ys.length - 1 - i]?=some u:=by simpa [li] using h3
  obtain ⟨u',hu',ru⟩:=rv.get h1
  rw [h4] at hu'
  cases hu'
  exact ru
 have hz2:(s1.heap.push (revObj l ((its.toArray.size:Int) - 1))).objs.size=s1.heap.objs.size + 1:=ϟ ..
 refine ⟨.ref (s1.heap.push (revObj l ((its.toArray.size:Int) - 1))).objs.size,_,I1.laid (t':=tk) (a:=(s1.heap.push (revObj l ((its.toArray.size:Int) - 1))).objs.size) k1 (by rw [hz2]; exact m_ _) (show aV X.prog X.w _ h' _ (.lst ys.reverse) from ⟨by rw [Ϥ]; exact hz,acc.toList,c,rv',by simpa using hS⟩),rfl,q _ (I1.hok.fresh (by rw [hz2]; exact m_ _))⟩
end
theorem bX {h:Heap} {a b:Addr} {o u:Obj} (h1:h.get? a=some o) (h2:h.get? b=some u) (n:o.cls≠u.cls):a≠b:=fun z=>by subst z; rw [h1] at h2; cases h2; exact n rfl
section
variable {X:Cx}
end
theorem uU {xs:List V} {us:List δ} (h:au xs us):au xs.reverse us.reverse:=by
 have hl:=h.length
 refine kh (by rw [Ϥ,Ϥ,hl]) fun i x u h1 h2=>?_
 have hi:i < xs.length:=by have:=(π.mp h1).1; rwa [Ϥ] at this
 rw [A5 hi] at h1
 rw [A5 (by omega),<- hl] at h2
 obtain ⟨u',hu',ru⟩:=h.get h1
 rw [h2] at hu'
 cases hu'
 exact ru
section
variable {X:Cx} {pins:List (Addr×Obj)} {s:ι} {σ:St} {H:Hp}
end
section
variable {X:Cx}
end
section
end
section
variable {prog:Β} {w:Ξ} {A:Φ} {E:δ->ι->Prop} {s:ι}
end
section
variable {X:Cx} {tg e:Expr} {ta:TA} {p pos:Pos}
end
section
variable {X:Cx}
end
section
variable {X:Cx}
end
open PySem PySem.Spec PyProof.Rows
section
variable {σ:St} {H:Hp} {d e:Dv} {ds es:List Dv} {ta tb:TE} {t:TA} {l:Addr}
variable {i:Nat} {u:TS} {D:bV}
end
open PySem PySem.Spec PyProof.Rows PySem.W
section
variable {X:Cx}
end
section
variable {prog:Β} {w:Ξ} {A:Φ} {E:δ->ι->Prop} {s:ι}
theorem oE {t sl:Addr} {items:Array δ} {lo st:Int} {n:Nat} {Q:δ->ι->Prop} (ht:IsTup s.heap t items) (hTs:s.TypeIs (.ref sl) "slice")
  (hap:∀ {A':Φ} {E':δ->ι->Prop} {Q':Int×Int×Nat->ι->Prop},Q' (lo,st,n) s->wpAny (model prog w) A' (BZ (.ref sl) (pure (items.size:Int))) Q' E' s)
  (hw:(lo == 0 && st == 1 && n == items.size)=true->Q (.ref t) s)
  (hn:Q (.ref s.heap.objs.size) { s with heap:=s.heap.push { cls:=.type "tuple",data:=.seq ((Ω n).filterMap fun (k:Nat)=>items[(lo + (k:Int) * st).toNat]?).toArray } })
  (hsz:((Ω n).filterMap fun (k:Nat)=>items[(lo + (k:Int) * st).toNat]?).toArray.size<=sizeLine):wpAny (model prog w) A (getItem (.ref t) (.ref sl)) Q E s:=by
 unfold getItem; try with_reducible refine a7 ?_
 (first | refine γ (ξ ?_) | skip); refine γ (wpAny_sequenceKey ht.typeIs (by decide) ?_)
 refine γ (Ϸ (name:=η "__getitem__") ht.typeIs ϫ (a9 ϫ ht.typeIs entry_tuple_getitem ?_ (args_tuple_getitem _ _)))
 show wpAny _ _ (Dj (.ref t) >>= _) _ _ s; refine γ (tupleItemsOf_ ht ?_)
 refine γ (C8 hTs ?_); rw [if_pos (by decide)]
 refine γ (hap ?_)
 show wpAny _ _ (if (lo == 0 && st == 1 && n == items.size)=true then _ else _) _ _ s
 by_cases c:(lo == 0 && st == 1 && n == items.size)=true
 ·rw [if_pos c]
  refine γ (m:=Dp (.ref t)) ?_
  unfold Dp
  refine γ (C8 ht.typeIs (ξ ?_))
  show wpAny _ _ (if (v_ "tuple" == v_ "tuple")=true then _ else _) _ _ s
  rw [if_pos (by decide)]
  exact γ (o_ (γ (ξ (ξ ⟨_,rfl,ξ (hw c)⟩))))
 ·rw [if_neg c]
  first
   | exact γ (m:=ϕ _) (ϖ (ξ ⟨_,rfl,ξ hn⟩) hsz)
   | exact γ (m:=ϕ _) (ϖ (γ (ξ (ξ ⟨_,rfl,ξ hn⟩))) hsz)
   | exact γ (γ (m:=ϕ _) (ϖ (ξ (ξ ⟨_,rfl,ξ hn⟩)) hsz))
   | exact γ (γ (m:=ϕ _) (ϖ (ξ ⟨_,rfl,ξ hn⟩) hsz))
theorem tJ (xs:Array δ):((Ω xs.size).filterMap fun (k:Nat)=>xs[((xs.size:Int) - 1 + (k:Int) * (-1)).toNat]?)=xs.toList.reverse:=by
 have e:((Ω xs.size).filterMap fun (k:Nat)=>xs[((xs.size:Int) - 1 + (k:Int) * (-1)).toNat]?)=(Ω xs.size).filterMap fun k=>some (xs.getD (xs.size - 1 - k) .none):=by
  have cg:∀ (l:List Nat) (f g:Nat->Option δ),(∀ k∈l,f k=g k)->l.filterMap f=l.filterMap g:=fun l f g h=>by
   induction l with
   | nil=>rfl
   | cons x l ih=>rw [c6,c6,h x Ε,ih fun k hk=>h k (ο _ hk)]
  refine cg _ _ _ fun k hk=>?_
  rw [ϸ] at hk
  have e1:((xs.size:Int) - 1 + (k:Int) * (-1)).toNat=xs.size - 1 - k:=by omega
  rw [e1]
  have h:xs.size - 1 - k < xs.size:=by omega
  simp [Ep,h]
 rw [e,List.filterMap_eq_map']
 refine Cu fun i=>?_
 by_cases hi:i < xs.size
 ·rw [Κ,C6 hi,A5 (by simpa using hi)]
  have h:xs.size - 1 - i < xs.size:=by omega
  simp [Ep,h]
 ·rw [ϵ (by simpa using hi),ϵ (by simpa using hi)]
end
section
variable {X:Cx}
def AV (K:PySem.W.Frag):V->Option Int->Option Int->Hp->VK->Prop:=fun x lo hi H Q=>∃ a xs,x=.ref a/\SqT K H a xs/\(aJ xs lo hi=xs->Q (.ref a) H)/\∀ p,H p=none->Q (.ref p) (upd H p (.tup (aJ xs lo hi)))
theorem qP:SlR X (AV X.K):=by
 intro pins s σ H x v vl vu lo hi sl Q I rx hs pl pu h
 obtain ⟨a,xs,rfl,hx,hw,q⟩:=h
 cases rx
 by_cases c:HT.sIx xs.length 0 lo=0/\HT.sIx xs.length xs.length hi=xs.length
 ·obtain ⟨its,r,ht,hz⟩:=I.tuple hx
  have hlen:its.toArray.size=xs.length:=by rw [ρ]; exact r.length.symm
  have ec:aJ xs lo hi=xs:=by unfold aJ; rw [c.1,c.2]; simp
  obtain ⟨os,hos,hcs,hds⟩:=id hs
  refine ⟨"tuple",_,ϫ.lookup,ht.typeIs,oE (lo:=((HT.sIx its.toArray.size 0 lo:Nat):Int)) (st:=1) (n:=HT.sIx its.toArray.size its.toArray.size hi - HT.sIx its.toArray.size 0 lo) ht ⟨os,hos,hcs⟩ (fun q'=>HT.sliceApplied_gen hs pl pu q') (fun _=>⟨.ref a,H,I,rfl,hw ec⟩) ?_ ?_⟩
  ·rw [HT.pick_gen,hlen]
   refine ⟨.ref s.heap.objs.size,_,I.laid (t':=s.toks) (o:=.tup (aJ xs lo hi)) (fun b ob q=>ν _ q) (τ _) ?_,rfl,q _ (I.hok.fresh (τ _))⟩
   exact ⟨ϔ (dL xs lo hi) hz,_,(r.drop (HT.sIx xs.length 0 lo)).take (HT.sIx xs.length xs.length hi - HT.sIx xs.length 0 lo),El _ _,NoD.new _ rfl⟩
  ·rw [HT.pick_gen,ρ,Ρ,ϧ]
   have:its.toArray.toList.length=xs.length:=by simpa using hlen
   omega
 ·exact zy pins s σ H (.ref a) (.ref a) vl vu lo hi sl Q I rfl hs pl pu ⟨a,xs,rfl,hx,c,q⟩
end
section
variable {prog:Β} {w:Ξ} {A:Φ} {E:δ->ι->Prop} {s:ι}
end
section
variable {X:Cx}
end
def look (kvs:List (Str×Addr)) (k:Str):Option Addr:=(kvs.find? fun p=>decide (p.1=k)).map (·.2)
structure FD (P:Β) (w:Ξ) (K:PySem.W.Frag) (a:Addr) (kvs:List (Str×Addr)):Prop where
 nd:(kvs.map (·.1)).Nodup
 lo:(a == sysModules)=false
 ex:∃ o es ep,K.lookup a=some o/\o.ExactDict/\o.data=.dict es ep/\KeysOf (aR P w) es/\Pairs (aR P w) es.toList (kvs.map fun p=>((Ϗ p.1:Key),Η p.2))
theorem mr (kvs:List (Str×Addr)) (k:Str):valueAt (kvs.map fun p=>((Ϗ p.1:Key),Η p.2)) (Ϗ k)=(look kvs k).map Η:=by
 unfold valueAt look
 induction kvs with
 | nil=>rfl
 | cons p kvs ih=>
  rw [Ο,a8,a8]
  by_cases h:p.1=k
  ·rw [decide_eq_true h,show decide ((Ϗ p.1:Key)=Ϗ k)=true from decide_eq_true (by rw [h])]
   rfl
  ·rw [decide_eq_false h,show decide ((Ϗ p.1:Key)=Ϗ k)=false from decide_eq_false (fun z=>h (by injection z))]
   exact ih
section
variable {X:Cx} {pins:List (Addr×Obj)} {s:ι} {σ:St} {H:Hp} {a:Addr} {kvs:List (Str×Addr)}
theorem FD.of (f:FD X.prog X.w X.K a kvs) (I:Inv X pins σ H s):s.heap.DictOf (aR X.prog X.w) a (kvs.map fun p=>((Ϗ p.1:Key),Η p.2)):=by
 obtain ⟨o,es,ep,hk,h1,h2,h3,h4⟩:=f.ex
 refine ⟨o,es,ep,I.kIn a o hk,h1,h2,h3,h4,?_⟩
 have e:(kvs.map fun p=>((Ϗ p.1:Key),Η p.2)).map (·.1)=(kvs.map (·.1)).map Ϗ:=by rw [ϋ,ϋ]; rfl
 rw [e]
 exact DH.map Ϗ (fun a b h z=>h (by injection z)) f.nd
def BG (a:Addr) (kvs:List (Str×Addr)) (neg:Bool):R2:=fun x y H Q=>∃ k,x=.str k/\y=.ref a/\Q (.bl (xor neg (look kvs k).isSome)) H
theorem jL (f:FD X.prog X.w X.K a kvs):OpR X (compareOp .NotIn) (BG a kvs true):=by
 intro pins s σ H x y v u Q I rx ry h
 obtain ⟨k,rfl,rfl,q⟩:=h
 cases ry
 refine wpAny_notIn_of (jT (k:=Ϗ k) rx) f.lo (f.of I).mapOf ?_
 rw [mr,A6]
 exact ⟨.bl (!(look kvs k).isSome),H,I.tok _,rfl,by simpa using q⟩
def AJ (a:Addr) (kvs:List (Str×Addr)) (td ty:TE):TE:=fun σ H Q=>td σ H fun x H1=>ty σ H1 fun y H2=>∃ k b,x=.ref a/\y=.str k/\look kvs k=some b/\Q (.ref b) H2
theorem pe_getF {o i:Expr} {td ty:TE} {pos:Pos} (f:FD X.prog X.w X.K a kvs) (ho:PE X o td) (hi:PE X i ty) (hs:AA i):PE X (.Subscript o i pos) (AJ a kvs td ty):=by
 intro pins s σ H Q I h
 refine xO PySem.F.slot_dict_getitem.lookup hs (thn (ho pins s σ H _ I h) fun u s1 ⟨x,H1,I1,rx,q1⟩=>thn (hi pins s1 σ H1 _ I1 q1) fun iv s2 ⟨y,H2,I2,ry,k,b,ex,ey,hl,q2⟩=>?_)
 subst ex ey
 obtain rfl:u=Η a:=rx
 refine ⟨(f.of I2).typeIs,wpAny_getItem_of (v:=.ref b) (jT (k:=Ϗ k) ry) (f.of I2).mapOf (by rw [mr,hl]; rfl) ⟨.ref b,H2,I2.tok _,rfl,q2⟩⟩
end
abbrev kZ (h:Heap) (l1:Addr):Heap:=h.push { cls:=.type "tuple_iterator",data:=.fields #[.ref l1,.int 0 0] }
abbrev lL (h:Heap) (l1 l2:Addr):Heap:=(kZ h l1).push { cls:=.type "tuple_iterator",data:=.fields #[.ref l2,.int 0 0] }
abbrev kX (h:Heap) (l1 l2:Addr):Heap:=(lL h l1 l2).push { cls:=.type "tuple",data:=.seq #[.ref h.objs.size,.ref (kZ h l1).objs.size] }
abbrev ky (h:Heap) (l1 l2:Addr):Heap:=(kX h l1 l2).push { cls:=.type "tuple",data:=.seq #[.none,.none] }
abbrev gg (h:Heap) (l1 l2:Addr):Heap:=(ky h l1 l2).push { cls:=.type "zip",data:=.fields #[.none,.bool false,.bool false,.ref (lL h l1 l2).objs.size,.ref (kX h l1 l2).objs.size] }
section
variable {prog:Β} {w:Ξ} {A:Φ} {E:δ->ι->Prop} {s:ι}
theorem pD {z TI TO i1 i2 l1 l2:Addr} {k1 k2:Nat} {xs ys:Array δ} {x y a b:δ} {Q:δ->ι->Prop} (D:Eh z TI TO i1 i2 l1 l2) (hz:Dq s.heap z TI TO .none) (hTI:x6 s.heap TI (.ref i1) (.ref i2)) (hTO:x6 s.heap TO a b)
  (h1:s.heap.IsTupleIter i1 l1 k1) (h2:s.heap.IsTupleIter i2 l2 k2) (hl1:s.heap.IsTuple l1 xs) (hl2:s.heap.IsTuple l2 ys) (hx:xs[k1]?=some x) (hy:ys[k2]?=some y)
  (hQ:∀ h',Dq h' z TI TO (rawInt s.heap.objs.size)->x6 h' TO x y->h'.IsTupleIter i1 l1 (k1 + 1)->h'.IsTupleIter i2 l2 (k2 + 1)->x6 h' s.heap.objs.size x y->(∀ c o,c≠z->c≠TO->c≠i1->c≠i2->s.heap.get? c=some o->h'.get? c=some o)->Q (.ref s.heap.objs.size) { s with heap:=h' }) :
  wpAny (model prog w) A (Ϣ.«zip.__next__» ⟨[.ref z],[]⟩) (fun fin s'=>∃ v,fin=.done (.ret v)/\Q v s') E s:=by
 show wpAny _ _ (field (.ref z) 2 >>= _) _ _ _; refine γ (ϣ hz rfl (x:=.bool false) rfl ?_)
 show wpAny _ _ (field (.ref z) 3 >>= _) _ _ _; refine γ (ϣ hz rfl (x:=.ref TI) rfl ?_); refine γ (j7 hTI rfl ?_)
 show wpAny _ _ (i4 (.ref z) >>= _) _ _ _; refine γ ?_; unfold i4
 refine γ (ϣ hz rfl (x:=.none) rfl (ξ ?_)); simp only [if_true]; refine γ (o_ ?_)
 refine γ (ϣ hz rfl (x:=.ref TO) rfl ?_); refine γ (q_ hz (by simp) fun g1 z1 c1=>?_)
 replace z1:Dq g1 z TI TO .ellipsis:=z1
 refine γ ?_; simp only [List.zipIdx_cons,List.zipIdx_nil,DZ,List.forIn_nil]; refine γ (γ (CM ?_))
 show wpAny _ _ (Ϧ (.ref i1) >>= _) _ _ _; refine γ (bY (h1.extBut c1.extBut D.i1z) (hl1.extBut c1.extBut D.l1z) hx fun g2 it2 c2=>ξ ?_)
 have t2:x6 g2 TO a b:=c2.extBut _ _ D.TOi1 (c1.extBut _ _ D.TOz hTO)
 refine γ (j7 t2 rfl ?_); refine γ (CQ t2 fun g3 t3 c3=>?_)
 replace t3:x6 g3 TO x b:=t3
 refine γ (Eg (ξ ?_)); refine γ (γ (CM ?_))
 show wpAny _ _ (Ϧ (.ref i2) >>= _) _ _ _; refine γ (bY (((h2.extBut c1.extBut D.i2z).extBut c2.extBut D.i12.symm).extBut c3.extBut D.TOi2.symm) (((hl2.extBut c1.extBut D.l2z).extBut c2.extBut D.l2i1).extBut c3.extBut D.l2TO) hy fun g4 it4 c4=>ξ ?_)
 have t4:x6 g4 TO x b:=c4.extBut _ _ D.TOi2 t3
 refine γ (j7 t4 rfl ?_); refine γ (CQ t4 fun g5 t5 c5=>?_)
 replace t5:x6 g5 TO x y:=t5
 refine γ (Eg (ξ (ξ ?_))); refine γ (j7 t5 rfl ?_); refine γ (wpAny_newTuple ?_)
 have sz:g5.objs.size=s.heap.objs.size:=by rw [c5.1,c4.1,c3.1,c2.1,c1.1]
 have z5:Dq g5 z TI TO .ellipsis:=c5.extBut _ _ D.TOz.symm (c4.extBut _ _ D.i2z.symm (c3.extBut _ _ D.TOz.symm (c2.extBut _ _ D.i1z.symm z1)))
 have k5:∀ c o,c≠z->c≠TO->c≠i1->c≠i2->s.heap.get? c=some o->g5.get? c=some o:=fun c o d1 d2 d3 d4 e=>c5.extBut _ _ d2 (c4.extBut _ _ d4 (c3.extBut _ _ d2 (c2.extBut _ _ d3 (c1.extBut _ _ d1 e))))
 have j1:g5.IsTupleIter i1 l1 (k1 + 1):=((it2.extBut c3.extBut D.TOi1.symm).extBut c4.extBut D.i12).extBut c5.extBut D.TOi1.symm
 have j2:g5.IsTupleIter i2 l2 (k2 + 1):=it4.extBut c5.extBut D.TOi2.symm
 have zlt:z < g5.objs.size:=υ z5
 show wpAny _ _ (Cc (.ref z) (.ref g5.objs.size) >>= _) _ _ _; refine γ ?_; unfold Cc
 have z6:Dq (g5.push { cls:=.type "tuple",data:=.seq #[x,y] }) z TI TO .ellipsis:=ν _ z5
 refine γ (q_ z6 (by simp) fun g7 z7 c7=>?_)
 replace z7:Dq g7 z TI TO (rawInt g5.objs.size):=z7
 refine q_ z7 (by simp) fun g8 z8 c8=>?_
 replace z8:Dq g8 z TI TO (rawInt g5.objs.size):=z8
 have up:∀ c o,c≠z->g5.get? c=some o->g8.get? c=some o:=fun c o d1 e=>c8.extBut _ _ d1 (c7.extBut _ _ d1 (ν _ e))
 have p8:x6 g8 g5.objs.size x y:=c8.extBut _ _ (i5 zlt) (c7.extBut _ _ (i5 zlt) (Γ _ rfl))
 rw [sz] at z8 p8
 refine ξ ⟨_,rfl,?_⟩
 show Q (.ref g5.objs.size) _; rw [sz]
 exact hQ g8 z8 (up _ _ D.TOz t5) (j1.at fun o e=>up _ o D.i1z e) (j2.at fun o e=>up _ o D.i2z e) p8 fun c o d1 d2 d3 d4 e=>up c o d1 (k5 c o d1 d2 d3 d4 e)
theorem sg {z TI TO i1 i2 l1 l2:Addr} {k1 k2:Nat} {xs ys:Array δ} {a b:δ} {Q:Fin->ι->Prop} (hh:A.handled=none) (D:Eh z TI TO i1 i2 l1 l2) (hz:Dq s.heap z TI TO .none) (hTI:x6 s.heap TI (.ref i1) (.ref i2)) (hTO:x6 s.heap TO a b)
  (h1:s.heap.IsTupleIter i1 l1 k1) (h2:s.heap.IsTupleIter i2 l2 k2) (hl1:s.heap.IsTuple l1 xs) (hl2:s.heap.IsTuple l2 ys) (hend:xs[k1]?=none\/ys[k2]?=none)
  (hE:∀ h' e,(∀ c o,c≠z->c≠TO->c≠i1->c≠i2->s.heap.get? c=some o->h'.get? c=some o)->(∃ o,h'.get? e=some o/\o.cls=.type "StopIteration")->E (.ref e) { s with heap:=h' }):wpAny (model prog w) A (Ϣ.«zip.__next__» ⟨[.ref z],[]⟩) Q E s:=by
 show wpAny _ _ (field (.ref z) 2 >>= _) _ _ _; refine γ (ϣ hz rfl (x:=.bool false) rfl ?_)
 show wpAny _ _ (field (.ref z) 3 >>= _) _ _ _; refine γ (ϣ hz rfl (x:=.ref TI) rfl ?_); refine γ (j7 hTI rfl ?_)
 show wpAny _ _ (i4 (.ref z) >>= _) _ _ _; refine γ ?_; unfold i4
 refine γ (ϣ hz rfl (x:=.none) rfl (ξ ?_)); simp only [if_true]; refine γ (o_ ?_)
 refine γ (ϣ hz rfl (x:=.ref TO) rfl ?_); refine γ (q_ hz (by simp) fun g1 z1 c1=>?_)
 replace z1:Dq g1 z TI TO .ellipsis:=z1
 refine γ ?_; simp only [List.zipIdx_cons,List.zipIdx_nil,DZ,List.forIn_nil]; refine γ (γ (CM ?_))
 show wpAny _ _ (Ϧ (.ref i1) >>= _) _ _ _
 cases hx:xs[k1]? with
 | none=>
  refine γ (dG hh (h1.extBut c1.extBut D.i1z) (hl1.extBut c1.extBut D.l1z) hx fun g2 e c2 ⟨oe,hoe,hce⟩=>?_)
  have z2:Dq g2 z TI TO .ellipsis:=c2 _ _ D.i1z.symm z1
  have ez:e≠z:=fun q=>by subst q; rw [z2] at hoe; cases hoe; simp at hce
  exact q_ z2 (by simp) fun g3 _ c3=>hE g3 e (fun c o d1 _ d3 _ q=>c3.extBut _ _ d1 (c2 _ _ d3 (c1.extBut _ _ d1 q))) ⟨oe,c3.extBut _ _ ez hoe,hce⟩
 | some x=>
  have hy:ys[k2]?=none:=hend.resolve_left (by rw [hx]; exact nofun)
  refine γ (bY (h1.extBut c1.extBut D.i1z) (hl1.extBut c1.extBut D.l1z) hx fun g2 it2 c2=>ξ ?_)
  have t2:x6 g2 TO a b:=c2.extBut _ _ D.TOi1 (c1.extBut _ _ D.TOz hTO)
  refine γ (j7 t2 rfl ?_); refine γ (CQ t2 fun g3 t3 c3=>?_)
  refine γ (Eg (ξ ?_)); refine γ (γ (CM ?_))
  show wpAny _ _ (Ϧ (.ref i2) >>= _) _ _ _; refine γ (dG hh (((h2.extBut c1.extBut D.i2z).extBut c2.extBut D.i12.symm).extBut c3.extBut D.TOi2.symm) (((hl2.extBut c1.extBut D.l2z).extBut c2.extBut D.l2i1).extBut c3.extBut D.l2TO) hy fun g4 e c4 ⟨oe,hoe,hce⟩=>?_)
  have z4:Dq g4 z TI TO .ellipsis:=c4 _ _ D.i2z.symm (c3.extBut _ _ D.TOz.symm (c2.extBut _ _ D.i1z.symm z1))
  have ez:e≠z:=fun q=>by subst q; rw [z4] at hoe; cases hoe; simp at hce
  exact q_ z4 (by simp) fun g5 _ c5=>hE g5 e (fun c o d1 d2 d3 d4 q=>c5.extBut _ _ d1 (c4 _ _ d4 (c3.extBut _ _ d2 (c2.extBut _ _ d3 (c1.extBut _ _ d1 q))))) ⟨oe,c5.extBut _ _ ez hoe,hce⟩
theorem oh {z TI TO i1 i2 l1 l2:Addr} {k1 k2:Nat} {xs ys:Array δ} {x y a b:δ} {Q:Option δ->ι->Prop} (D:Eh z TI TO i1 i2 l1 l2) (hz:Dq s.heap z TI TO .none) (hTI:x6 s.heap TI (.ref i1) (.ref i2)) (hTO:x6 s.heap TO a b)
  (h1:s.heap.IsTupleIter i1 l1 k1) (h2:s.heap.IsTupleIter i2 l2 k2) (hl1:s.heap.IsTuple l1 xs) (hl2:s.heap.IsTuple l2 ys) (hx:xs[k1]?=some x) (hy:ys[k2]?=some y)
  (hQ:∀ h',Dq h' z TI TO (rawInt s.heap.objs.size)->x6 h' TO x y->h'.IsTupleIter i1 l1 (k1 + 1)->h'.IsTupleIter i2 l2 (k2 + 1)->x6 h' s.heap.objs.size x y->(∀ c o,c≠z->c≠TO->c≠i1->c≠i2->s.heap.get? c=some o->h'.get? c=some o)->Q (some (.ref s.heap.objs.size)) { s with heap:=h' }) :
  wpAny (model prog w) A (pyNext (.ref z)) Q E s:=by
 have hT:s.TypeIs (.ref z) "zip":=⟨_,hz,rfl⟩; unfold pyNext
 exact γ (wpAny_attempt (Ϸ (name:=η "__next__") hT C4 (a9 C4 hT F.entry_zip_next (pD D hz hTI hTO h1 h2 hl1 hl2 hx hy fun h' a1 a2 a3 a4 a5 a6=>ξ (hQ h' a1 a2 a3 a4 a5 a6)) (F.args_zip_next_1 _))))
theorem pb {z TI TO i1 i2 l1 l2:Addr} {k1 k2:Nat} {xs ys:Array δ} {a b:δ} {Q:Option δ->ι->Prop} (hh:A.handled=none) (D:Eh z TI TO i1 i2 l1 l2) (hz:Dq s.heap z TI TO .none) (hTI:x6 s.heap TI (.ref i1) (.ref i2)) (hTO:x6 s.heap TO a b)
  (h1:s.heap.IsTupleIter i1 l1 k1) (h2:s.heap.IsTupleIter i2 l2 k2) (hl1:s.heap.IsTuple l1 xs) (hl2:s.heap.IsTuple l2 ys) (hend:xs[k1]?=none\/ys[k2]?=none)
  (hQ:∀ h',(∀ c o,c≠z->c≠TO->c≠i1->c≠i2->s.heap.get? c=some o->h'.get? c=some o)->Q none { s with heap:=h' }):wpAny (model prog w) A (pyNext (.ref z)) Q E s:=by
 have hT:s.TypeIs (.ref z) "zip":=⟨_,hz,rfl⟩; unfold pyNext
 refine γ (wpAny_attempt (Ϸ (name:=η "__next__") hT C4 (a9 C4 hT F.entry_zip_next (sg hh D hz hTI hTO h1 h2 hl1 hl2 hend fun h' e hk ⟨o,ho,hc⟩=>?_) (F.args_zip_next_1 _))))
 exact γ (DM (T:="StopIteration") (b:=true) ⟨o,ho,hc⟩ isSubtype_stop (ξ (hQ _ hk)))
theorem me (l1 l2:Addr) (xs ys:Array δ) (n n':Nat) (dct dct':Option Addr) (slt slt':Array (Option δ)) :
  Meets (Ϣ.«zip.__new__» ⟨[.type "zip",.ref l1,.ref l2],[]⟩) (fun _ R s=>s.heap.get? l1=some { cls:=.type "tuple",dict:=dct',data:=.seq xs n',slots:=slt' }/\s.heap.get? l2=some { cls:=.type "tuple",dict:=dct,data:=.seq ys n,slots:=slt } /\
   R (.ok (.ret (.ref (ky s.heap l1 l2).objs.size))) { s with heap:=gg s.heap l1 l2 }):=
 .of_wp fun prog w A R s h=>by
  obtain ⟨hp,g,d,tk,os⟩:=s; obtain ⟨hl1,hl2,h⟩:=h
  have hsub:=sub_zip
  have hL1:Heap.IsTuple (ι.heap ⟨hp,g,d,tk,os⟩) l1 xs:=⟨_,hl1,rfl,n',rfl⟩
  have hl2':(hp.push { cls:=.type "tuple_iterator",data:=.fields #[.ref l1,.int 0 0] }).get? l2=some { cls:=.type "tuple",dict:=dct,data:=.seq ys n,slots:=slt }:=ν _ hl2
  have hL2:Heap.IsTuple (ι.heap ⟨hp.push { cls:=.type "tuple_iterator",data:=.fields #[.ref l1,.int 0 0] },g,d,tk,os⟩) l2 ys:=⟨_,hl2',rfl,n,rfl⟩
  wp_walk using Cj hL1,Cj hL2,ϩ hl1,ϩ hl2'
  exact ⟨_,rfl,h⟩
theorem pV {l1 l2:Addr} {xs ys:Array δ} {Q:δ->ι->Prop} (hl1:s.heap.IsTuple l1 xs) (hl2:s.heap.IsTuple l2 ys)
  (h:∀ h',Dq h' (s.heap.objs.size + 4) (s.heap.objs.size + 2) (s.heap.objs.size + 3) .none->x6 h' (s.heap.objs.size + 2) (.ref s.heap.objs.size) (.ref (s.heap.objs.size + 1))->x6 h' (s.heap.objs.size + 3) .none .none->h'.IsTupleIter s.heap.objs.size l1 0->h'.IsTupleIter (s.heap.objs.size + 1) l2 0 ->
   (∀ c o,s.heap.get? c=some o->h'.get? c=some o)->Q (.ref (s.heap.objs.size + 4)) { s with heap:=h' }):wpAny (model prog w) A (call (.type "zip") [.ref l1,.ref l2]) Q E s:=by
 obtain ⟨⟨c,dct,dt,sl⟩,hl,hc,n,hd⟩:=hl2
 replace hc:c=.type "tuple":=hc
 replace hd:dt=.seq ys n:=hd
 subst hc hd
 obtain ⟨⟨c',dct',dt',sl'⟩,hl',hc',n',hd'⟩:=hl1
 replace hc':c'=.type "tuple":=hc'
 replace hd':dt'=.seq xs n':=hd'
 subst hc' hd'
 refine callType_new F.called_zip (by decide) (F.typeCall_zip_2 _ _) (F.newCall_zip_2 _ _) (fun obj=>F.args_object_init_3 obj _ _) F.entry_zip_new (me l1 l2 xs ys n n' dct dct' sl sl') ⟨hl',hl,?_⟩
 have y1:(kZ s.heap l1).objs.size=s.heap.objs.size + 1:=ϟ ..
 have y2:(lL s.heap l1 l2).objs.size=s.heap.objs.size + 2:=by rw [ϟ,y1]
 have y3:(kX s.heap l1 l2).objs.size=s.heap.objs.size + 3:=by rw [ϟ,y2]
 have y4:(ky s.heap l1 l2).objs.size=s.heap.objs.size + 4:=by rw [ϟ,y3]
 have up:∀ {h:Heap} {o:Obj} {c:Addr} {p:Obj},h.get? c=some p->(h.push o).get? c=some p:=fun q=>ν _ q
 have v5:(gg s.heap l1 l2).get? (ky s.heap l1 l2).objs.size=some _:=Γ _ rfl
 have v4:(gg s.heap l1 l2).get? (kX s.heap l1 l2).objs.size=some _:=up (Γ _ rfl)
 have v3:(gg s.heap l1 l2).get? (lL s.heap l1 l2).objs.size=some _:=up (up (Γ _ rfl))
 have v2:(gg s.heap l1 l2).get? (kZ s.heap l1).objs.size=some _:=up (up (up (Γ _ rfl)))
 have v1:(gg s.heap l1 l2).get? s.heap.objs.size=some _:=up (up (up (up (Γ _ rfl))))
 show _/\_
 rw [y2,y3,y4] at v5
 rw [y1,y2] at v3
 rw [y3] at v4
 rw [y1] at v2
 rw [y4]
 exact ⟨⟨_,v5,rfl⟩,h _ v5 v3 v4 ⟨_,v1,rfl,rfl⟩ ⟨_,v2,rfl,rfl⟩ fun c o q=>up (up (up (up (up q))))⟩
end
def jK (K:PySem.W.Frag) (a b:Addr):It:=
 ⟨fun i H=>∃ xs ys x y,SqT K H a xs/\SqT K H b ys/\xs[i]?=some x/\ys[i]?=some y,fun i H z H'=>∃ p x y,H p=none/\H'=upd H p (.tup [x,y])/\z=.ref p/\(∀ xs,SqT K H a xs->xs[i]?=some x)/\∀ ys,SqT K H b ys->ys[i]?=some y,
 fun i H=>∃ xs ys,SqT K H a xs/\SqT K H b ys/\(xs.length<=i\/ys.length<=i)⟩
theorem oy {P:Β} {w:Ξ} {K:PySem.W.Frag} {elts:List Expr} {x1} {tp:Pos} (a b z TI TO i1 i2:Addr) (D1:TI≠z/\TO≠z/\i1≠z/\i2≠z/\TI≠TO/\TI≠i1/\TI≠i2/\TO≠i1/\TO≠i2/\i1≠i2) (D2:a≠TO/\b≠TO) :
  jh P w K (.Tuple elts x1 tp) (jK K a b) [z,TI,TO,i1,i2] z (fun i h=>Dq h z TI TO .none/\x6 h TI (.ref i1) (.ref i2)/\(∃ u v,x6 h TO u v)/\h.IsTupleIter i1 a i/\h.IsTupleIter i2 b i) where
 mem:=by simp
 obj:=fun i h st c hc=>by
  obtain ⟨hz,hTI,⟨u,v,hTO⟩,⟨o1,e1,c1,d1⟩,⟨o2,e2,c2,d2⟩⟩:=st
  simp only [θ,ϳ,or_false] at hc
  rcases hc with rfl | rfl | rfl | rfl | rfl
  ·exact ⟨_,hz,fun v z=>by
    have z':Data.fields _=Ej v:=z
    cases z'⟩
  ·exact ⟨_,hTI,fun v z=>by
    have z':Data.seq _ _=Ej v:=z
    cases z'⟩
  ·exact ⟨_,hTO,fun v z=>by
    have z':Data.seq _ _=Ej v:=z
    cases z'⟩
  ·exact ⟨o1,e1,fun v z=>by rw [d1] at z; cases z⟩
  ·exact ⟨o2,e2,fun v z=>by rw [d2] at z; cases z⟩
 keep:=fun i h h' st k=>by
  obtain ⟨hz,hTI,⟨u,v,hTO⟩,h1,h2⟩:=st
  exact ⟨k z (by simp) _ hz,k TI (by simp) _ hTI,⟨u,v,k TO (by simp) _ hTO⟩,h1.at fun o e=>k i1 (by simp) o e,h2.at fun o e=>k i2 (by simp) o e⟩
 item:=by
  intro X hP hw hK hc i pins s σ H E I hf st hg
  subst hP hw hK
  obtain ⟨xs,ys,x,y,hq1,hq2,hx,hy⟩:=hg
  obtain ⟨its1,rv1,p1,_⟩:=I.tuple hq1
  obtain ⟨its2,rv2,p2,_⟩:=I.tuple hq2
  obtain ⟨u1,hu1,ru1⟩:=rv1.get hx
  obtain ⟨u2,hu2,ru2⟩:=rv2.get hy
  obtain ⟨hz,hTI,⟨u,v,hTO⟩,h1,h2⟩:=st
  obtain ⟨d1,d2,d3,d4,d5,d6,d7,d8,d9,d10⟩:=D1
  have L1:s.heap.IsTuple a its1.toArray:=p1
  have L2:s.heap.IsTuple b its2.toArray:=p2
  have D:Eh z TI TO i1 i2 a b:=by
   obtain ⟨o1,e1,c1,_⟩:=id L1
   obtain ⟨o2,e2,c2,_⟩:=id L2
   obtain ⟨o3,e3,c3,_⟩:=id h1
   obtain ⟨o4,e4,c4,_⟩:=id h2
   exact ⟨d1,d2,d3,d4,d5,d6,d7,d8,d9,d10,bX e1 hz (by rw [c1]; exact fun z=>absurd (ϻ z) (by decide)),D2.1,bX e1 e3 (by rw [c1,c3]; exact fun z=>absurd (ϻ z) (by decide)),bX e1 e4 (by rw [c1,c4]; exact fun z=>absurd (ϻ z) (by decide)),
    bX e2 hz (by rw [c2]; exact fun z=>absurd (ϻ z) (by decide)),D2.2,bX e2 e3 (by rw [c2,c3]; exact fun z=>absurd (ϻ z) (by decide)),bX e2 e4 (by rw [c2,c4]; exact fun z=>absurd (ϻ z) (by decide))⟩
  refine oh D hz hTI hTO h1 h2 L1 L2 (x:=u1) (y:=u2) (by simpa using hu1) (by simpa using hu2) fun h3 a1 a2 a3 a4 a5 hk=>?_
  refine ⟨_,rfl,wpAny_letOwnedTupleGo_zip a1 fun h4 hz4 hs4=>?_⟩
  have hzl:z < s.heap.objs.size:=υ hz
  have hn:H s.heap.objs.size=none:=I.hok.fresh (τ _)
  have keep:∀ c o,c≠z->c≠TO->c≠i1->c≠i2->s.heap.get? c=some o->h4.get? c=some o:=fun c o c1 c2 c3 c4 q=>(hs4.2 c c1).trans (hk c o c1 c2 c3 c4 q)
  have tup:h4.get? s.heap.objs.size=some { cls:=.type "tuple",data:=.seq #[u1,u2] }:=(hs4.2 _ (ngt hzl)).trans a5
  have fpn:∀ c∈[z,TI,TO,i1,i2],H c=none:=fun c hc=>(hf c hc).1
  have nit:∀ c v,H c=some v->c≠z/\c≠TO/\c≠i1/\c≠i2:=fun c v q=>⟨(fun e=>by rw [e,fpn z (by simp)] at q; cases q),(fun e=>by rw [e,fpn TO (by simp)] at q; cases q),(fun e=>by rw [e,fpn i1 (by simp)] at q; cases q),(fun e=>by rw [e,fpn i2 (by simp)] at q; cases q)⟩
  have kch:∀ c o,c∉[z,TO,i1,i2]->s.heap.get? c=some o->h4.get? c=some o:=fun c o hc q=>keep c o (fun e=>hc (by simp [e])) (fun e=>hc (by simp [e])) (fun e=>hc (by simp [e])) (fun e=>hc (by simp [e])) q
  have I2:Inv X pins σ (upd H s.heap.objs.size (.tup [x,y])) { s with heap:=h4,toks:=s.toks }:=by
   refine I.step (g':=s.gens) (d':=s.drawn) (ch:=[z,TO,i1,i2]) (fun c hc=>?_) (fun c o _ _ hc' q _=>kch c o hc' q) (fun c o _ _ hc' q _=>⟨o.slots,kch c o hc' q⟩) (fun c o _ q n=>by rw [ag (nlt (υ q))]; exact n) (fun c o hc' q=>⟨o,kch c o hc' q⟩)
    (fun c xs q=>by rw [ag (ae q hn)]; exact q) (fun c o v q=>by rw [ag (ae q hn)]; exact q) (fun c ps q=>⟨#[],by rw [ag (ae q hn),q]; simp⟩) (fun m hm=>?_) (fun c v q=>?_) I.bare
   ·have hc':c∈[z,TI,TO,i1,i2]:=by
     simp only [θ,ϳ,or_false] at hc ⊢
     rcases hc with e | e | e | e <;> simp [e]
    obtain ⟨f0,f1,f2,f3,f4,f5⟩:=hf c hc'
    exact ⟨f3,f1,f4,f5⟩
   ·obtain ⟨o,es,ep,ho,r⟩:=hm
    exact ⟨o,es,ep,keep _ o (ϊ (hf z (by simp)).2.1) (ϊ (hf TO (by simp)).2.1) (ϊ (hf i1 (by simp)).2.1) (ϊ (hf i2 (by simp)).2.1) ho,r⟩
   ·by_cases hb:c=s.heap.objs.size
    ·subst hb
     rw [aa] at q
     cases q
     exact ⟨(show 2<=sizeLine by rw [ψ]; decide),[u1,u2],.cons ru1 (.cons ru2 .nil),⟨_,tup,rfl,0,rfl⟩,_,tup,rfl⟩
    ·rw [ag hb] at q
     refine (I.hok c v q).stay (fun c' w' hc' q'=>?_) (fun c' q'=>by rw [ag (ae q' hn)]; exact q') fun c' xs q'=>by rw [ag (ae q' hn)]; exact q'
     rcases hc' with e | e
     ·subst e; obtain ⟨n1,n2,n3,n4⟩:=nit c' v q; exact keep c' w' n1 n2 n3 n4 q'
     ·obtain ⟨n1,n2,n3,n4⟩:=nit c' _ e; exact keep c' w' n1 n2 n3 n4 q'
  refine ⟨.ref s.heap.objs.size,_,I2,rfl,⟨_,x,y,hn,rfl,rfl,fun xs' h'=>by rw [I.tuple_inj h' hq1]; exact hx,fun ys' h'=>by rw [I.tuple_inj h' hq2]; exact hy⟩,?_,fun c hc=>?_⟩
  ·exact ⟨hz4,hs4.extBut _ _ d1 (hk TI _ d1 d5 d6 d7 hTI),⟨_,_,hs4.extBut _ _ d2 a2⟩,a3.at fun o e=>hs4.extBut _ _ d3 e,a4.at fun o e=>hs4.extBut _ _ d4 e⟩
  ·have hb':c < s.heap.objs.size:=by
    simp only [θ,ϳ,or_false] at hc
    obtain ⟨o3,e3,_⟩:=h1
    obtain ⟨o4,e4,_⟩:=h2
    rcases hc with e | e | e | e | e
    ·rw [e]; exact hzl
    ·rw [e]; exact υ hTI
    ·rw [e]; exact υ hTO
    ·rw [e]; exact υ e3
    ·rw [e]; exact υ e4
   rw [ag (nlt hb')]
   exact fpn c hc
 done:=by
  intro X hP hw hK hc i pins s σ H E I hf st hg
  subst hP hw hK
  obtain ⟨xs,ys,hq1,hq2,hend⟩:=hg
  obtain ⟨its1,rv1,p1,_⟩:=I.tuple hq1
  obtain ⟨its2,rv2,p2,_⟩:=I.tuple hq2
  obtain ⟨hz,hTI,⟨u,v,hTO⟩,h1,h2⟩:=st
  obtain ⟨d1,d2,d3,d4,d5,d6,d7,d8,d9,d10⟩:=D1
  have L1:s.heap.IsTuple a its1.toArray:=p1
  have L2:s.heap.IsTuple b its2.toArray:=p2
  have D:Eh z TI TO i1 i2 a b:=by
   obtain ⟨o1,e1,c1,_⟩:=id L1
   obtain ⟨o2,e2,c2,_⟩:=id L2
   obtain ⟨o3,e3,c3,_⟩:=id h1
   obtain ⟨o4,e4,c4,_⟩:=id h2
   exact ⟨d1,d2,d3,d4,d5,d6,d7,d8,d9,d10,bX e1 hz (by rw [c1]; exact fun z=>absurd (ϻ z) (by decide)),D2.1,bX e1 e3 (by rw [c1,c3]; exact fun z=>absurd (ϻ z) (by decide)),bX e1 e4 (by rw [c1,c4]; exact fun z=>absurd (ϻ z) (by decide)),
    bX e2 hz (by rw [c2]; exact fun z=>absurd (ϻ z) (by decide)),D2.2,bX e2 e3 (by rw [c2,c3]; exact fun z=>absurd (ϻ z) (by decide)),bX e2 e4 (by rw [c2,c4]; exact fun z=>absurd (ϻ z) (by decide))⟩
  have l1:=rv1.length
  have l2:=rv2.length
  have fpn:∀ c∈[z,TI,TO,i1,i2],H c=none:=fun c hc=>(hf c hc).1
  refine pb (I.ok.hd hc) D hz hTI hTO h1 h2 L1 L2 (hend.imp (fun h=>by simp; omega) fun h=>by simp; omega) fun h4 hk=>⟨rfl,?_⟩
  have nit:∀ c v,H c=some v->c≠z/\c≠TO/\c≠i1/\c≠i2:=fun c v q=>⟨(fun e=>by rw [e,fpn z (by simp)] at q; cases q),(fun e=>by rw [e,fpn TO (by simp)] at q; cases q),(fun e=>by rw [e,fpn i1 (by simp)] at q; cases q),(fun e=>by rw [e,fpn i2 (by simp)] at q; cases q)⟩
  have kch:∀ c o,c∉[z,TO,i1,i2]->s.heap.get? c=some o->h4.get? c=some o:=fun c o hc q=>hk c o (fun e=>hc (by simp [e])) (fun e=>hc (by simp [e])) (fun e=>hc (by simp [e])) (fun e=>hc (by simp [e])) q
  refine I.step (t':=s.toks) (g':=s.gens) (d':=s.drawn) (ch:=[z,TO,i1,i2]) (fun c hc=>?_) (fun c o _ _ hc' q _=>kch c o hc' q) (fun c o _ _ hc' q _=>⟨o.slots,kch c o hc' q⟩) (fun c o _ q n=>n) (fun c o hc' q=>⟨o,kch c o hc' q⟩)
   (fun c xs q=>q) (fun c o v q=>q) (fun c ps q=>⟨#[],by rw [q]; simp⟩) (fun m hm=>?_) (fun c v q=>?_) I.bare
  ·have hc':c∈[z,TI,TO,i1,i2]:=by
    simp only [θ,ϳ,or_false] at hc ⊢
    rcases hc with e | e | e | e <;> simp [e]
   obtain ⟨f0,f1,f2,f3,f4,f5⟩:=hf c hc'
   exact ⟨f3,f1,f4,f5⟩
  ·obtain ⟨o,es,ep,ho,r⟩:=hm
   exact ⟨o,es,ep,hk _ o (ϊ (hf z (by simp)).2.1) (ϊ (hf TO (by simp)).2.1) (ϊ (hf i1 (by simp)).2.1) (ϊ (hf i2 (by simp)).2.1) ho,r⟩
  ·refine (I.hok c v q).stay (fun c' w' hc' q'=>?_) (fun c' q'=>q') fun c' xs q'=>q'
   rcases hc' with e | e
   ·subst e; obtain ⟨n1,n2,n3,n4⟩:=nit c' v q; exact hk c' w' n1 n2 n3 n4 q'
   ·obtain ⟨n1,n2,n3,n4⟩:=nit c' _ e; exact hk c' w' n1 n2 n3 n4 q'
 self:=fun A i s Q E st h=>wpAny_pyIter_zip st.1 h
theorem vM {h:Heap} {a:Addr} {its:Array δ} (p:IsTup h a its):a < h.objs.size:=by
 obtain ⟨o,e,_⟩:=p
 exact υ e
section
variable {X:Cx}
def yQ (K:PySem.W.Frag) (ta:TA):TI:=fun σ H R=>ta σ H fun vs H1=>∃ a b,vs=[.ref a,.ref b]/\(∃ xs,SqT K H1 a xs)/\(∃ ys,SqT K H1 b ys)/\R (jK K a b) H1
theorem pi_zipTT {a b:Expr} {ta:TA} {p pos:Pos} {elts:List Expr} {x1} {tp:Pos} (hg:Gl X "zip") (hm:X.mg "zip"=none) (ha:PA X [a,b] ta) (hs:starEach [a,b] X.env=(false,eval a X.env) :: starEach [b] X.env:=by rfl) (hpl:(backTo pos (starEach [b] X.env)).any (·.1)=false:=by rfl) :
  PI X (.Tuple elts x1 tp) (.Call (.Name "zip" p) [a,b] [] pos) (yQ X.K ta):=by
 intro pins s σ H R I h
 refine Call_ (cH I hg hm (u:=.type "zip") (by decide +kernel) (Ϫ (thn (ha pos pins s σ H _ I h) fun us s1 ⟨vs,H1,I1,r1,q1⟩=>?_) hs hpl))
 obtain ⟨l,m,e,⟨xs,hq1⟩,⟨ys,hq2⟩,q⟩:=q1
 subst e
 obtain ⟨u,w',rfl,ru,rw'⟩:=lY r1
 cases ru
 cases rw'
 obtain ⟨its1,rv1,p1,_⟩:=I1.tuple hq1
 obtain ⟨its2,rv2,p2,_⟩:=I1.tuple hq2
 refine pV p1 p2 fun h' hz hTI hTO hi1 hi2 kp=>?_
 have I2:Inv X pins σ H1 { s1 with heap:=h' }:=I1.kept (t':=s1.toks) kp
 have add:∀ (n i j:Nat),i≠j->n + i≠n + j:=fun n i j h z=>h (Nat.add_left_cancel z)
 have T:jh X.prog X.w X.K (.Tuple elts x1 tp) (jK X.K l m) [s1.heap.objs.size + 4,s1.heap.objs.size + 2,s1.heap.objs.size + 3,s1.heap.objs.size,s1.heap.objs.size + 1] (s1.heap.objs.size + 4) _:=
  oy l m (s1.heap.objs.size + 4) (s1.heap.objs.size + 2) (s1.heap.objs.size + 3) s1.heap.objs.size (s1.heap.objs.size + 1)
   ⟨add _ 2 4 (by decide),add _ 3 4 (by decide),add _ 0 4 (by decide),add _ 1 4 (by decide),add _ 2 3 (by decide),add _ 2 0 (by decide),add _ 2 1 (by decide),add _ 3 0 (by decide),add _ 3 1 (by decide),add _ 0 1 (by decide)⟩ ⟨Τ (Nat.lt_add_right 3 (vM p1)),Τ (Nat.lt_add_right 3 (vM p2))⟩
 refine T.self X.A 0 { s1 with heap:=h' } _ _ ⟨hz,hTI,⟨_,_,hTO⟩,hi1,hi2⟩ ?_
 refine ⟨s1.heap.objs.size + 4,_,_,_,H1,rfl,I2,T,⟨hz,hTI,⟨_,_,hTO⟩,hi1,hi2⟩,fun b hb=>?_,q⟩
 have hb':s1.heap.objs.size<=b:=by
  simp only [θ,ϳ,or_false] at hb
  rcases hb with e | e | e | e | e
  ·rw [e]; exact k7 _ _
  ·rw [e]; exact k7 _ _
  ·rw [e]; exact k7 _ _
  ·rw [e]; exact τ _
  ·rw [e]; exact k7 _ _
 obtain ⟨f0,f1⟩:=I1.fpOk hb' (I1.hok.fresh hb')
 exact ⟨f0,f1⟩
theorem rG {K:PySem.W.Frag} {a b:Addr} {xs ys:List V} {g:TG} {tb:TS} {D:bV} {σ:St} {H:Hp} (Pv:Nat->St->Hp->Prop) (h0:Pv 0 σ H) (hl:∀ i σ H,Pv i σ H->SqT K H a xs/\SqT K H b ys)
  (hs:∀ i x y σ H p,xs[i]?=some x->ys[i]?=some y->Pv i σ H->H p=none->g (.ref p) σ (upd H p (.tup [x,y])) fun σ2 H2=>tb { D with nx:=Pv (i + 1),ct:=Pv (i + 1),bk:=D.nx } σ2 H2) (hd:∀ σ H,Pv (min xs.length ys.length) σ H->D.nx σ H) :
  ∃ W:Nat->Nat->St->Hp->Prop,(∃ m,W 0 m σ H)/\∀ i m σ H,W i m σ H ->
   ((jK K a b).stop i H/\D.nx σ H)\/((jK K a b).go i H/\∃ N:St->Hp->Prop,(∀ σ' H',N σ' H'->∃ m',m' < m/\W (i + 1) m' σ' H')/\∀ x H',(jK K a b).yld i H x H'->g x σ H' fun σ2 H2=>tb { D with nx:=N,ct:=N,bk:=D.nx } σ2 H2):=by
 refine ⟨fun i m σ H=>m=min xs.length ys.length - i/\i<=min xs.length ys.length/\Pv i σ H,⟨min xs.length ys.length,by simp,Χ _,h0⟩,?_⟩
 rintro i m σ H ⟨rfl,hi,p⟩
 obtain ⟨q1,q2⟩:=hl i σ H p
 by_cases hlt:i < min xs.length ys.length
 ·have h1:i < xs.length:=by omega
  have h2:i < ys.length:=by omega
  refine .inr ⟨⟨xs,ys,xs[i],ys[i],q1,q2,by simp [h1],by simp [h2]⟩,Pv (i + 1),fun σ' H' p'=>⟨min xs.length ys.length - (i + 1),by omega,rfl,hlt,p'⟩,fun z H' y=>?_⟩
  obtain ⟨c,x,y,hb,e1,e2,hx,hy⟩:=y
  subst e1 e2
  exact hs i x y σ H c (hx xs q1) (hy ys q2) p hb
 ·have e:i=min xs.length ys.length:=by omega
  subst e
  exact .inl ⟨⟨xs,ys,q1,q2,by omega⟩,hd σ H p⟩
end
theorem lX (l:Addr) (items:Array δ) (n:Nat) (b:Addr) (items2:Array δ) (n2:Nat) (dct:Option Addr) (slt:Array (Option δ)) (hs0:¬(!items.isEmpty && i3 (items.size + items2.size))=true) (hs1:items.size<=sizeLine) (hs2:items.size + items2.size<=sizeLine + 1) :
  Meets (Ϣ.«list.extend» ⟨[.ref l,.ref b],[]⟩) (fun _ R s=>s.heap.get? l=some { cls:=.type "list",data:=.seq items n }/\s.heap.get? b=some { cls:=.type "tuple",dict:=dct,data:=.seq items2 n2,slots:=slt }/\R (.ok (.ret Ϭ)) { s with heap:=s.heap.update l (o0 fun x=>x ++ items2),toks:=s.toks }):=
 .of_wp fun prog w A R s h=>by
  obtain ⟨hp,g,d,tk,os⟩:=s
  obtain ⟨hl,hb,h⟩:=h
  have f1:=CH
  have f2:=x9
  have f3:=AutoSeq1.sub_list_list
  have f4:=AutoSeq1.sub_tuple_list
  have f5:=AutoSeq1.sub_list_tuple
  have hz':(items ++ items2).size<=sizeLine + 1:=by rw [Array.size_append]; exact hs2
  wp_walk using (C3 hl rfl (hz:=hs1) (_hz':=hz')),ϩ hl,ϩ hb
  exact ⟨_,rfl,h⟩
section
variable {X:Cx}
def Bf (K:PySem.W.Frag):V->List V->Hp->VK->Prop:=fun x vs H Q=>∃ l b xs zs,x=.ref l/\vs=[.ref b]/\H l=some (.lst xs)/\SqT K H b zs/\xs.length + zs.length<=sizeLine/\Q .non (upd H l (.lst (xs ++ zs)))
theorem xC:MtM X "list.extend" (Bf X.K):=by
 intro pins s σ H x vs v us Q I rx rv h
 obtain ⟨l,b,xs,zs,rfl,rfl,hH,hB,hz,q⟩:=h
 cases rx
 obtain ⟨u,rfl,ru⟩:=rv.one
 cases ru
 obtain ⟨z,its,n,r,hl,e⟩:=I.lstM hH
 obtain ⟨its2,r2,⟨⟨cls,dd,data,sl⟩,e2,hc,n2,hd⟩,_⟩:=I.tuple hB
 simp only at hc hd
 subst hc hd
 have hl2:=r2.length
 have hsz:its.toArray.size + its2.toArray.size<=sizeLine:=by rw [ρ,ρ]; omega
 have hlong:¬ (!its.toArray.isEmpty && i3 (its.toArray.size + its2.toArray.size))=true:=by
  rw [iJ hsz,Ec]
  exact Ι
 refine j4 F.slot_list_extend ⟨_,e,rfl⟩ F.entry_list_extend (F.args_list_extend_2 _ _)
  (lX l its.toArray n b its2.toArray n2 dd sl hlong (by rw [ρ]; omega) (by omega)) ⟨e,e2,?_⟩
 refine ⟨.non,_,I.lset (its':=its ++ its2) hH e (by simp) (r.append r2) ?_,rfl,q⟩
 rw [ς]
 omega
theorem uu (hu:X.A.units < cLine):OpR X (compareOp .Eq) (fun x y H Q=>∃ (l b:Addr) (xs:List V),x=.ref l/\y=.ref b/\SqL X.K H l xs/\SqL X.K H b []/\Q (.bl xs.isEmpty) H):=by
 intro pins s σ H x y v u Q I rx ry h
 obtain ⟨l,b,xs,rfl,rfl,hl,hb,q⟩:=h
 cases rx
 cases ry
 obtain ⟨its,r1,p1,_⟩:=I.list hl
 obtain ⟨its2,r2,p2,_⟩:=I.list hb
 have l1:=r1.length
 have l2:=r2.length
 cases xs with
 | nil=>
  refine Es.lists (e:=fun _=>true) p1.isList p2.isList (by simp; omega) hu (fun j h1 h2=>?_) X.prog X.w X.xe _ ?_
  ·have:j < its.length:=by simpa using h1
   simp at l1; omega
  ·have e:((Ω its.toArray.size).all fun _=>true)=true:=by simp
   rw [e]
   exact ⟨.bl true,H,I,rfl,q⟩
 | cons x xs=>
  refine Es.lists_lengths p1.isList p2.isList ?_ hu X.prog X.w X.xe _ ⟨.bl false,H,I,rfl,q⟩
  rw [Υ] at l1
  rw [Cg] at l2
  rw [ρ,ρ,bne_iff_ne]
  omega
end
section
variable {prog:Β} {w:Ξ} {A:Φ} {E:δ->ι->Prop} {s:ι}
end
section
variable {X:Cx}
end
section
variable {X:Cx}
def Aj (K:PySem.W.Frag) (te:TE) (ts:TO):TE:=fun σ H Q=>te σ H fun x H1=>ts σ H1 fun l H2=>∃ a xs,x=.ref a/\l=some (-1)/\SqL K H2 a xs/\∀ p,H2 p=none->Q (.ref p) (upd H2 p (.lst xs.reverse))
theorem sZ (its:Array δ):slicePick its none none (some (-1))=its.toList.reverse.toArray:=by
 have b1:(sliceBounds none none (some (-1)) its.size).1=(its.size:Int) - 1:=rfl
 have b2:(sliceBounds none none (some (-1)) its.size).2.1=-1:=rfl
 have b3:(sliceBounds none none (some (-1)) its.size).2.2=-1:=rfl
 unfold slicePick
 rw [b1,b2,b3]
 congr 1
 have c:sliceRange ((its.size:Int) - 1) (-1) (-1)=(Ω its.size).map fun (k:Nat)=>((its.size:Int) - 1 + -1 * (k:Int)).toNat:=by
  unfold sliceRange
  simp only [show ¬ ((-1:Int) > 0) by decide,if_false]
  congr 2
  by_cases h:(its.size:Int) - 1 > -1
  ·rw [if_pos h]
   have:(-(-1):Int)=1:=rfl
   rw [this,Int.ediv_one]
   omega
  ·rw [if_neg h]
   have:(0:Int).toNat=0:=rfl
   omega
 rw [c,Di,<- tJ]
 congr 1
 funext k
 show its[((its.size:Int) - 1 + -1 * (k:Int)).toNat]?=its[((its.size:Int) - 1 + (k:Int) * (-1)).toNat]?
 rw [Int.mul_comm]
theorem pe_revL {e st:Expr} {te:TE} {ts:TO} {p2 pos:Pos} (he:PE X e te) (hs:PO X (some st) ts):PE X (.Subscript e (.Slice none none (some st) p2) pos) (Aj X.K te ts):=by
 intro pins s σ H Q I h
 refine En (thn (he pins s σ H _ I h) fun v s1 ⟨x,H1,I1,r1,q1⟩=>wpAny_Slice ?_)
 rw [evalPart_none]
 refine ξ (ξ (thn (hs pins s1 σ H1 _ I1 q1) fun vu s3 ⟨u,H3,I3,pu,q3⟩=>?_))
 obtain ⟨a,xs,rfl,rfl,hx,q⟩:=q3
 cases r1
 cases pu with
 | int j uj=>
  have I4:Inv X pins σ H3 { s3 with heap:=s3.heap.push { cls:=.type "slice",data:=.fields #[.none,.none,.int (-1) uj] } }:=I3.kept (t':=s3.toks) fun b ob q=>ν _ q
  have hsl:(s3.heap.push { cls:=.type "slice",data:=.fields #[.none,.none,.int (-1) uj] }).IsSliceOf s3.heap.objs.size .none .none (.int (-1) uj):=Heap.IsSliceOf.new ..
  obtain ⟨its,r,ht,hz⟩:=I4.list hx
  have hlen:its.toArray.size=xs.length:=by rw [ρ]; exact r.length.symm
  show wpAny (model X.prog X.w) X.A (subscriptTail e (.Slice none none (some st) p2) (.ref a) (.ref s3.heap.objs.size)) (EP X pins σ Q) X.xe { s3 with heap:=s3.heap.push { cls:=.type "slice",data:=.fields #[.none,.none,.int (-1) uj] } }
  refine tail_any (ops:=[.ref a,.ref s3.heap.objs.size]) ht.isList.typeIs Dz.lookup ?_ (by with_unfolding_all rfl)
  refine wpAny_getItem_list_slice ht.isList hsl .none .none (.int _ _) (by simp) ?_ (by rw [hlen]; exact hz)
  rw [sZ]
  refine ⟨.ref _,_,I4.laid (t':=s3.toks) (o:=.lst xs.reverse) (fun b ob q=>ν _ q) (τ _) ?_,rfl,q _ (I4.hok.fresh (τ _))⟩
  have e:its.toArray.toList.reverse.toArray=its.reverse.toArray:=by simp
  rw [e]
  exact ⟨by rw [Ϥ]; exact hz,its.reverse,0,uU r,Γ _ rfl⟩
end
theorem bP:fillsNumberSlot (.type "tuple") "mul"=pure false:=
 PySem.fillsNumberSlot_seq (id:="tuple.__mul__") (r:=some (.builtin "tuple.__rmul__")) PySem.F.slot_tuple_mul.lookup (by decide +kernel) PySem.F.slot_tuple_rmul.lookup (by decide +kernel)
theorem dg:seqRepeat? (.type "tuple")=pure (some (.builtin "tuple.__mul__")):=by
 unfold seqRepeat?
 rw [PySem.seqSlot_of (T:="tuple") (name:="__mul__") (id:="tuple.__mul__") PySem.F.slot_tuple_mul.lookup (by decide +kernel),PySem.seqSlot_of (T:="tuple") (name:="__rmul__") (id:="tuple.__rmul__") PySem.F.slot_tuple_rmul.lookup (by decide +kernel)]
 rfl
theorem dh (a:Int) (t:Tok) (l:Addr) (items:Array δ) (n:Nat) (dct:Option Addr) (slt:Array (Option δ)) :
  Meets (Ϣ.«int.__rmul__» ⟨[.int a t,.ref l],[]⟩) (fun _ R s=>s.heap.get? l=some { cls:=.type "tuple",dict:=dct,data:=.seq items n,slots:=slt }/\R (.ok (.ret δ.notImplemented)) s):=
 .of_wp fun prog w A R s h=>by obtain ⟨hp,g,d,tk,os⟩:=s; obtain ⟨hl,h⟩:=h; wp_walk; exact ⟨_,rfl,h⟩
theorem tR (l:Addr) (items:Array δ) (n:Nat) (dct:Option Addr) (slt:Array (Option δ)) (k:Int) (t:Tok) (hc0:¬(decide (k < -2 ^ 63) || decide (k>=2 ^ 63))=true) (hc1:¬(items.isEmpty || k == 1)=true) (hc2:¬(decide (k<=0) || items.isEmpty)=true) (hc3:¬((items.size:Int) * k > (2 ^ 63 - 1) / 8)) (hc4:¬B5 ((items.size:Int) * k)=true)
  (hz:((χ k.toNat items).foldl (· ++ ·) #[]).size<=sizeLine) :
  Meets (Ϣ.«tuple.__mul__» ⟨[.ref l,.int k t],[]⟩) (fun _ R s=>s.heap.get? l=some { cls:=.type "tuple",dict:=dct,data:=.seq items n,slots:=slt }/\R (.ok (.ret (.ref s.heap.objs.size))) { s with heap:=s.heap.push { cls:=.type "tuple",data:=.seq ((χ k.toNat items).foldl (· ++ ·) #[]) } }):=
 .of_wp fun prog w A R s h=>by
  obtain ⟨hp,g,d,tk,os⟩:=s
  obtain ⟨hl,h⟩:=h
  have f1:=CH
  have f2:=x9
  wp_walk using ϩ hl
  rw [if_neg hc0]
  wp_walk using ϩ hl
  rw [if_neg hc3]
  show wpAny _ _ (if B5 ((items.size:Int) * k)=true then _ else _) _ _ _
  rw [if_neg hc4]
  show wpAny _ _ (ϕ (DT (fun x1 x2=>x1 ++ x2) #[] (χ k.toNat items)) >>= _) _ _ _
  refine γ (m:=ϕ _) (ϖ (ξ ⟨_,rfl,h⟩) hz)
section
variable {X:Cx}
def AT (K:PySem.W.Frag):R2:=fun x y H Q=>∃ l k xs,x=.ref l/\y=.int k/\SqT K H l xs/\xs≠[]/\2<=k/\k<=1000/\xs.length * k.toNat<=1000/\∀ p,H p=none->Q (.ref p) (upd H p (.tup (χ k.toNat xs).flatten))
theorem xj:OpR X (binaryOp .Mult) (AT X.K):=by
 intro pins s σ H x y v u Q I rx ry h
 obtain ⟨l,k,xs,rfl,rfl,hx,ne,k2,k3,hz,q⟩:=h
 cases rx
 obtain ⟨t,rfl⟩:=ry
 obtain ⟨its,r,⟨⟨cls,dd,data,sl⟩,e,hc,n,hd⟩,z⟩:=I.tuple hx
 simp only at hc hd
 subst hc hd
 have hl:=r.length
 have hlen:its.length * k.toNat<=1000:=by rw [<- hl]; exact hz
 have hne:its≠[]:=fun e=>ne (Cl.mp (by rw [hl,e]; rfl))
 have hnew:DT (fun x1 x2=>x1 ++ x2) #[] (χ k.toNat its.toArray)=(χ k.toNat its).flatten.toArray:=by
  have:=fV its k.toNat []
  rw [CT] at this
  exact this
 have hmul:((its.toArray.size:Int)) * k<=1000:=by
  rw [ρ]
  have e1:((its.length * k.toNat:Nat):Int)=(its.length:Int) * k:=by rw [Int.natCast_mul]; congr 1; omega
  omega
 have hemp:its.toArray.isEmpty=false:=by simpa using hne
 refine r_ (T:="tuple") (U:="int") (by decide) ⟨_,e,rfl⟩ (fun s'=>B0 s' k t) bP CU m5 dg CB.lookup
  (j4 m5 (B0 s k t) CC (Cs _ _) (dh k t l its.toArray n dd sl)
   ⟨e,rfl,⟨_,e,rfl⟩,j4 DN ⟨_,e,rfl⟩ DD (Ds _ _) (tR l its.toArray n dd sl k t ?_ ?_ ?_ ?_ ?_ ?_) ⟨e,?_⟩⟩)
 ·simp only [CW,decide_eq_true_eq]; omega
 ·rw [hemp,x5]; simp only [beq_iff_eq]; omega
 ·rw [hemp,Bool.or_false]; simp only [decide_eq_true_eq]; omega
 ·have:((2 ^ 63 - 1) / 8:Int)=1152921504606846975:=by decide
  omega
 ·unfold B5
  have:(sizeLine:Nat)=16777216:=by rw [ψ]
  simp only [decide_eq_true_eq]
  omega
 ·rw [hnew,ρ,L2.len_rep,Nat.mul_comm,ψ]; omega
 rw [hnew]
 refine ⟨.ref _,_,I.laid (t':=s.toks) (o:=.tup (χ k.toNat xs).flatten) (fun b ob q=>ν _ q) (τ _) ?_,rfl,q _ (I.hok.fresh (τ _))⟩
 exact ⟨by rw [L2.len_rep,Nat.mul_comm,ψ]; omega,_,r.rep k.toNat,El _ _,NoD.new _ rfl⟩
end
section
variable {prog:Β} {w:Ξ} {A:Φ} {E:δ->ι->Prop}
end
section
variable {X:Cx} {pos:Pos}
end
end L2
namespace KB
open PySem L2
abbrev Pr:=Str×Int
def AL (p q:Pr):Prop:=p.1.cps.toList < q.1.cps.toList
structure jG (ps:List Pr):Prop where
 pw:ps.Pairwise AL
 ge:∀ p∈ps,1<=p.2
theorem wo (a:List Nat):¬ a < a:=fun h=>List.lt_irrefl a h
theorem mh {ps:List Pr} (h:ps.Pairwise AL):(ps.map (·.1)).Nodup:=by
 rw [List.Nodup,A9]
 exact h.imp fun {a b} hab e=>by
  have hab':a.1.cps.toList < b.1.cps.toList:=hab
  rw [e] at hab'
  exact wo _ hab'
def iV (kvs:List Pr) (x:Str) (n:Int):List Pr:=if (kvs.any fun p=>decide (p.1=x))=true then kvs.map (fun p=>if p.1=x then (p.1,n) else p) else kvs ++ [(x,n)]
def nmB (x:Str):Bool:=decide (1<=x.cps.size) && decide (x.cps.size<=8) && x.cps.toList.all fun c=>decide (97<=c) && decide (c<=122)
def azB (c:Nat):Bool:=decide (97<=c) && decide (c<=122)
theorem Rep.tup_inv {H:Hp} {ds:List Dv} {v:V} (h:Rep H (.tup ds) v):∃ a vs,v=.ref a/\H a=some (.tup vs)/\Reps H ds vs:=by simpa only [Rep] using h
theorem Reps.two {H:Hp} {d e:Dv} {vs:List V} (h:Reps H [d,e] vs):∃ x y,vs=[x,y]/\Rep H d x/\Rep H e y:=by
 simp only [Reps] at h
 obtain ⟨x,r,rfl,h1,y,r2,rfl,h2,rfl⟩:=h
 exact ⟨x,y,rfl,h1,h2⟩
def Az (x:Str) (n:Nat):Prop:=x.cps.toList.length=n/\∀ c∈x.cps.toList,azB c=true
theorem Az.len {x:Str} {n:Nat} (h:Az x n):x.length=n:=by
 have e:x.cps.toList.length=x.length:=Ϟ
 rw [<- e]; exact h.1
theorem gC {x y:Str} {n m:Nat} (h:Az x n) (g:Az y m):Az (x ++ y) (n + m):=by
 have e:=PySem.W.KT.app_list x y
 refine ⟨by rw [e,ς,h.1,g.1],fun c hc=>?_⟩
 rw [e] at hc
 rcases Ψ.mp hc with hc | hc
 ·exact h.2 c hc
 ·exact g.2 c hc
theorem iC {c:Nat} (h:azB c=true):Az ⟨#[c]⟩ 1:=⟨rfl,fun d hd=>by
 have e:d=c:=by simpa using hd
 rw [e]; exact h⟩
theorem vn:Az Str.empty 0:=⟨rfl,fun d hd=>by cases hd⟩
theorem wy {x:Str} {n:Nat} {i:Int} (h:Az x n) (h0:0<=i) (h1:i<=n):Az (Txt.slice x (some i) none) (n - i.toNat):=by
 have e:=PyProof.Rows.slice_from_eq (x:=x) (i:=i) (b:=(x.length:Int)) h0 (by rw [h.len]; exact h1) rfl
 rw [e]
 refine ⟨?_,fun c hc=>?_⟩
 ·show ((x.cps.toList.drop i.toNat).take ((x.length:Int) - i).toNat).toArray.toList.length=_
  simp only [Ρ,ϧ,h.1,h.len]
  omega
 ·have hc':c∈(x.cps.toList.drop i.toNat).take ((x.length:Int) - i).toNat:=by simpa using hc
  exact h.2 c (CS (Ϛ hc'))
theorem Ar {x:Str} {n:Nat} {i:Int} (h:Az x n) (h0:0<=i) (h1:i<=n):Az (Txt.slice x none (some i)) i.toNat:=by
 have e:=eq_of_beq (PyProof.Rows.slice_closes_toL (x:=x) (j:=i) h0 (by rw [h.len]; exact h1))
 rw [e]
 refine ⟨?_,fun c hc=>?_⟩
 ·show ((x.cps.toList.drop (0:Int).toNat).take (i - 0).toNat).toArray.toList.length=_
  simp only [Ρ,ϧ,h.1]
  have:(0:Int).toNat=0:=rfl
  omega
 ·have hc':c∈(x.cps.toList.drop (0:Int).toNat).take (i - 0).toNat:=by simpa using hc
  exact h.2 c (CS (Ϛ hc'))
theorem AR {x:Str} {n:Nat} (h:Az x n) (h1:1<=n) (h8:n<=8):nmB x=true:=by
 unfold nmB
 have e:x.cps.size=n:=by have:=h.1; simpa using this
 rw [e,decide_eq_true h1,decide_eq_true h8,Bool.and_self,ϓ]
 exact Ϯ.mpr fun c hc=>h.2 c hc
def dk (kvs:List (Str×Int)):List (Key×V):=kvs.map fun p=>(Ϗ p.1,V.int p.2)
def bt (c:Int) (ps:List (Str×Int)):Dv:=.tup [.int c,.tup (ps.map fun p=>.tup [.str p.1,.int p.2])]
def tkV (r:TK):Str×Int:=(r.2.1,match r.2.2 with | [.int n]=>n | _=>0)
theorem ke {H:Hp}:∀ {rs:List TK},(∀ r∈rs,H r.1=some (.tup [.str (tkV r).1,.int (tkV r).2]))->Reps H ((rs.map tkV).map fun p=>Dv.tup [.str p.1,.int p.2]) (rs.map fun r=>V.ref r.1)
 | [],_=>by simp [Reps]
 | r :: rs,h=>by
  simp only [Ο,Reps]
  refine ⟨_,_,rfl,?_,ke fun x hx=>h x (ο _ hx)⟩
  simp only [Rep,Reps]
  exact ⟨r.1,_,rfl,h r Ε,_,_,rfl,rfl,_,_,rfl,rfl,rfl⟩
theorem rh {k:Nat} {ix:List Nat} {i:Nat} {tt:TT} {te:TE} {σ:St} {x:V} {ys:List V} {H:Hp} {N:List V->Hp->Prop} (h:tt ((cA k ix σ).set i (some x)) H fun c H3=>if c=true then te ((cA k ix σ).set i (some x)) H3 fun y H4=>ys.length < sizeLine/\N (ys ++ [y]) H4 else N ys H3) :
  cC k ix (cb i) tt te σ x ys H N:=h
theorem qx {a b:Str}:((Ϗ a:Key)=Ϗ b)↔a=b:=⟨fun h=>by injection h,fun h=>by rw [h]⟩
theorem vo (kvs:List (Str×Int)) (x:Str) (n:Int):dk (iV kvs x n)=cK (dk kvs) (Ϗ x) (.int n):=by
 unfold iV cK dk
 have e:((kvs.map fun p=>((Ϗ p.1:Key),V.int p.2)).any fun kv=>decide (kv.1=Ϗ x))=kvs.any fun p=>decide (p.1=x):=by
  rw [List.any_map]
  congr 1
  funext p
  simp [Function.comp]
 rw [e]
 split
 ·rw [ϋ,ϋ]
  refine m6 fun p _=>?_
  simp only [Function.comp]
  by_cases h:p.1=x
  ·rw [if_pos h,if_pos (qx.mpr h)]
  ·rw [if_neg h,if_neg (fun z=>h (qx.mp z))]
 ·rw [ω]
  rfl
theorem sI {kvs:List (Str×Int)} {x:Str} {n:Int} (nd:(kvs.map (·.1)).Nodup):((iV kvs x n).map (·.1)).Nodup:=by
 unfold iV
 split
 ·have e:(kvs.map (fun p=>if p.1=x then (p.1,n) else p)).map (·.1)=kvs.map (·.1):=by
   rw [ϋ]
   refine m6 fun p _=>?_
   simp only [Function.comp]
   split <;> rfl
  rw [e]; exact nd
 ·rename_i h
  rw [ω,g_]
  refine ⟨nd,by simp,fun a ha b hb=>?_⟩
  have hb':b=x:=by simpa using hb
  subst hb'
  intro e
  subst e
  obtain ⟨p,hp,e⟩:=Δ.mp ha
  exact h (a_.mpr ⟨p,hp,decide_eq_true e⟩)
theorem ut (kvs:List (Str×Int)) (x:Str) (n:Int):(iV kvs x n).length<=kvs.length + 1:=by
 unfold iV
 split
 ·rw [ζ]; omega
 ·rw [ς]; simp
theorem tQ {R:Str×Int->Prop} {kvs:List (Str×Int)} {x:Str} {n:Int} (h:∀ p∈kvs,R p) (hx:R (x,n)):∀ p∈iV kvs x n,R p:=by
 intro p hp
 unfold iV at hp
 split at hp
 ·obtain ⟨q,hq,e⟩:=Δ.mp hp
  by_cases z:q.1=x
  ·rw [if_pos z] at e
   rw [<- e,z]; exact hx
  ·rw [if_neg z] at e
   rw [<- e]; exact h q hq
 ·rcases Ψ.mp hp with hp | hp
  ·exact h p hp
  ·rw [ε.mp hp]; exact hx
abbrev aL (ps:List Pr):List Dv:=ps.map fun p=>.tup [.str p.1,.int p.2]
theorem rC {H:Hp} {ps:List Pr} {us:List V} (ru:Reps H (aL ps) us) {i:Nat} {x:V} (hx:us[i]?=some x):∃ p b,ps[i]?=some p/\x=.ref b/\H b=some (.tup [.str p.1,.int p.2]):=by
 obtain ⟨d,hd,Rd⟩:=ru.get hx
 rw [Κ] at hd
 cases e:ps[i]? with
 | none=>rw [e] at hd; cases hd
 | some p=>
  rw [e] at hd
  obtain rfl:Dv.tup [.str p.1,.int p.2]=d:=ϙ hd
  obtain ⟨b,zs,rfl,hb,rz⟩:=Rep.tup_inv Rd
  obtain ⟨y,z,rfl,Ry,Rz⟩:=Reps.two rz
  simp only [Rep] at Ry Rz
  subst Ry Rz
  exact ⟨p,b,rfl,rfl,hb⟩
theorem wH {H:Hp} {c:Int} {ps:List Pr} {v:V} (R:Rep H (bt c ps) v):∃ a b us,v=.ref a/\H a=some (.tup [.int c,.ref b])/\H b=some (.tup us)/\Reps H (aL ps) us/\us.length=ps.length:=by
 obtain ⟨a,tv,rfl,ha,rt⟩:=Rep.tup_inv R
 obtain ⟨x,y,rfl,R0,R1⟩:=Reps.two rt
 simp only [Rep] at R0
 subst R0
 obtain ⟨b,us,rfl,hb,ru⟩:=Rep.tup_inv R1
 have:=ru.length
 rw [ζ] at this
 exact ⟨a,b,us,rfl,ha,hb,ru,this⟩
theorem len_rep {H:Hp} {c:Int} {ps:List Pr} {a b:Addr} {us:List V} (ha:H a=some (.tup [.int c,.ref b])) (hb:H b=some (.tup us)) (ru:Reps H (aL ps) us):Rep H (bt c ps) (.ref a):=by
 simp only [bt,Rep,Reps]
 exact ⟨a,_,rfl,ha,_,_,rfl,rfl,_,_,rfl,⟨b,us,rfl,hb,ru⟩,rfl⟩
theorem eqI {i j:Int} (h:decide (V.int i=V.int j)=true):i=j:=by
 have:=of_decide_eq_true h
 injection this
theorem z2:2<=sizeLine:=by rw [ψ]; decide
theorem z1:1<=sizeLine:=by rw [ψ]; decide
theorem z3:3<=sizeLine:=by rw [ψ]; decide
theorem vt {kvs:List Pr} {x:Str} {n:Int} (h:x∉kvs.map (·.1)):iV kvs x n=kvs ++ [(x,n)]:=by
 unfold iV
 rw [if_neg]
 intro e
 rw [a_] at e
 obtain ⟨p,hp,e⟩:=e
 exact h (Δ.mpr ⟨p,hp,of_decide_eq_true e⟩)
section
variable {K:PySem.W.Frag}
end
theorem tnx {D:bV} {σ:St} {H:Hp} (h:D.nx σ H):yx D σ H:=h
theorem qX {ns:List Int} {k:Int} (h0:0<=k) (h:k < (ns.length:Int)):∃ v:Int,atI (ns.map V.int) k=some (.int v):=by
 have hk:k.toNat < ns.length:=by omega
 have q:atI (ns.map V.int) ((k.toNat:Nat):Int)=some (.int ns[k.toNat]):=af (by rw [Κ,Ζ hk] <;> rfl)
 have ek:k=((k.toNat:Nat):Int):=by omega
 rw [<- ek] at q
 exact ⟨_,q⟩
theorem aN {a:Int} (n:Int) (h:0 < n):0<=a % n/\a % n < n:=⟨Ea _ (by omega),Dt _ h⟩
def aE (a:Addr) (H H':Hp):Prop:=∀ g o,g≠a->H g=some o->H' g=some o
theorem aE.refl (a:Addr) (H:Hp):aE a H H:=fun _ _ _ e=>e
theorem aE.trans {a:Addr} {H H1 H2:Hp} (s:aE a H H1) (t:aE a H1 H2):aE a H H2:=fun g o hg e=>t g o hg (s g o hg e)
theorem ad.b {H H':Hp} (a:Addr) (s:ad H H'):aE a H H':=fun g o _ e=>s g o e
theorem aE.upd (H:Hp) (a:Addr) (o:HO):aE a H (upd H a o):=fun g u hg e=>by rw [ag hg]; exact e
def cu (H H':Hp):Prop:=∀ b zs,H b=some (.tup zs)->H' b=some (.tup zs)
theorem ad.tups {H H':Hp} (s:ad H H'):cu H H':=fun b zs e=>s b _ e
theorem cu.trans {H H1 H2:Hp} (s:cu H H1) (t:cu H1 H2):cu H H2:=fun b zs e=>t b zs (s b zs e)
theorem aE.tups {a:Addr} {H H':Hp} {xs:List V} (s:aE a H H') (h:H a=some (.lst xs)):cu H H':=fun b zs e=>s b _ (fun z=>by rw [z,h] at e; cases e) e
theorem aE.tupsD {a:Addr} {H H':Hp} {m:List (Key×V)} (s:aE a H H') (h:H a=some (.dK m)):cu H H':=fun b zs e=>s b _ (fun z=>by rw [z,h] at e; cases e) e
theorem aU {H H':Hp}:∀ {ds:List Dv} {vs:List V},(∀ d∈ds,∀ v,Rep H d v->Rep H' d v)->Reps H ds vs->Reps H' ds vs
 | [],vs,_,h=>by simpa only [Reps] using h
 | d :: ds,vs,f,h=>by
  simp only [Reps] at h ⊢
  obtain ⟨v,r,rfl,h1,h2⟩:=h
  exact ⟨v,r,rfl,f d Ε v h1,aU (fun e he=>f e (ο _ he)) h2⟩
theorem cM {H H':Hp} (t:cu H H') {n:Nat} {d:Dv} (h:L2.Pl n d):∀ {v:V},Rep H d v->Rep H' d v:=by
 induction h with
 | int=>intro v r; simpa only [Rep] using r
 | str=>intro v r; simpa only [Rep] using r
 | non=>intro v r; simpa only [Rep] using r
 | tup _ ih=>
  intro v r
  simp only [Rep] at r ⊢
  obtain ⟨a,vs,rfl,ha,rs⟩:=r
  exact ⟨a,vs,rfl,t _ _ ha,aU (fun d hd v r=>ih d hd r) rs⟩
theorem gt (c:Int) (ps:List Pr):L2.Pl 3 (bt c ps):=.tup fun d hd=>by
 rcases θ.mp hd with rfl | hd
 ·exact .int
 ·rw [ε.mp hd]
  refine .tup fun e he=>?_
  obtain ⟨p,_,rfl⟩:=Δ.mp he
  refine .tup fun g hg=>?_
  rcases θ.mp hg with rfl | hg
  ·exact .str
  ·rw [ε.mp hg]; exact .int
theorem qu {c:TT} {tb:TS} {D:bV} {σ:St} {H:Hp} (Pv:Nat->St->Hp->Prop) (m:Nat) (h0:Pv m σ H)
  (hs:∀ m σ H,Pv m σ H->c σ H fun b H1=>if b=true then tb { D with nx:=fun σ' H'=>∃ m',m' < m/\Pv m' σ' H',ct:=fun σ' H'=>∃ m',m' < m/\Pv m' σ' H',bk:=D.nx } σ H1 else D.nx σ H1)
  (mono:∀ σ H Q Q',(∀ b H1,Q b H1->Q' b H1)->c σ H Q->c σ H Q'):pR c tb D σ H:=by
 refine ⟨Pv,⟨m,h0⟩,fun m σ H p=>mono σ H _ _ (fun b H1 q=>?_) (hs m σ H p)⟩
 cases b with
 | true=>exact ⟨_,fun σ' H' q'=>q',q⟩
 | false=>exact q
theorem eM {K:PySem.W.Frag} {i:Nat}:∀ σ H (Q Q':Bool->Hp->Prop),(∀ b H1,Q b H1->Q' b H1)->(fun (σ:St) (H:Hp) (Q:Bool->Hp->Prop)=>fw i σ H fun x H'=>∃ k,xu K x H' k/\Q k H') σ H Q->(fun (σ:St) (H:Hp) (Q:Bool->Hp->Prop)=>fw i σ H fun x H'=>∃ k,xu K x H' k/\Q k H') σ H Q':=by
 rintro σ H Q Q' h ⟨v,e,k,t,q⟩
 exact ⟨v,e,k,t,h _ _ q⟩
inductive Kd where
 | whole
 | place (c:Int) (ps:List Pr)
 | row (c:Int) (ps:List Pr) (k:Kd)
 | pair (k j:Kd)
def Kd.dv:Kd->Dv
 | .whole=>.tup [.str "whole"]
 | .place c ps=>.tup [.str "place",bt c ps]
 | .row c ps k=>.tup [.str "row",bt c ps,k.dv]
 | .pair k j=>.tup [.str "pair",k.dv,j.dv]
def Kd.size:Kd->Nat
 | .whole=>1
 | .place _ _=>1
 | .row _ _ k=>k.size + 1
 | .pair k j=>k.size + j.size + 1
theorem Kd.size_pos:∀ k:Kd,1<=k.size
 | .whole=>τ _
 | .place _ _=>τ _
 | .row _ _ k=>by show 1<=k.size + 1; omega
 | .pair k j=>by show 1<=k.size + j.size + 1; omega
theorem Kd.pl:∀ k:Kd,L2.Pl (k.size + 3) k.dv
 | .whole=>.tup fun d hd=>by rw [ε.mp hd]; exact .str
 | .place c ps=>.tup fun d hd=>by
  rcases θ.mp hd with rfl | hd
  ·exact .str
  ·rw [ε.mp hd]; exact gt c ps
 | .row c ps k=>.tup fun d hd=>by
  rcases θ.mp hd with rfl | hd
  ·exact .str
  rcases θ.mp hd with rfl | hd
  ·exact (gt c ps).up (by show 3<=k.size + 3; omega)
  ·rw [ε.mp hd]; exact k.pl
 | .pair k j=>.tup fun d hd=>by
  rcases θ.mp hd with rfl | hd
  ·exact .str
  rcases θ.mp hd with rfl | hd
  ·exact k.pl.up (by show k.size + 3<=k.size + j.size + 3; omega)
  ·rw [ε.mp hd]; exact j.pl.up (by show j.size + 3<=k.size + j.size + 3; omega)
def Kd.word:Kd->Str
 | .whole=>"whole"
 | .place _ _=>"place"
 | .row _ _ _=>"row"
 | .pair _ _=>"pair"
def Kd.kids:Kd->List Kd
 | .row _ _ k=>[k]
 | .pair k j=>[k,j]
 | _=>[]
def Kd.len?:Kd->Option (Int×List Pr)
 | .place c ps=>some (c,ps)
 | .row c ps _=>some (c,ps)
 | _=>none
def Kd.pts:Kd->List Kd
 | .row c ps k=>.row c ps k :: k.pts
 | .pair k j=>.pair k j :: (k.pts ++ j.pts)
 | k=>[k]
theorem Kd.pts_kids (k:Kd):k.pts=k :: (k.kids.flatMap Kd.pts):=by
 cases k with
 | whole=>rfl
 | place c ps=>rfl
 | row c ps k=>simp [Kd.pts,Kd.kids]
 | pair k j=>simp [Kd.pts,Kd.kids]
theorem Kd.size_kids (k:Kd):k.size=1 + (k.kids.map Kd.size).sum:=by
 cases k with
 | whole=>rfl
 | place c ps=>rfl
 | row c ps k=>simp [Kd.size,Kd.kids]; omega
 | pair k j=>simp [Kd.size,Kd.kids]; omega
theorem Kd.pts_len:∀ k:Kd,k.pts.length=k.size
 | .whole=>rfl
 | .place _ _=>rfl
 | .row c ps k=>by show (k.pts.length) + 1=k.size + 1; rw [k.pts_len]
 | .pair k j=>by show (k.pts ++ j.pts).length + 1=k.size + j.size + 1; rw [ς,k.pts_len,j.pts_len]
def Kd.All (P:Int->List Pr->Prop):Kd->Prop
 | .whole=>True
 | .place c ps=>P c ps
 | .row c ps k=>P c ps/\k.All P
 | .pair k j=>k.All P/\j.All P
theorem Kd.tupS {H H':Hp} (t:cu H H') {k:Kd} {v:V} (r:Rep H k.dv v):Rep H' k.dv v:=cM t k.pl r
theorem Kd.inv {H:Hp} {k:Kd} {v:V} (r:Rep H k.dv v):∃ a vs,v=.ref a/\H a=some (.tup (.str k.word :: vs)) /\
  (match k with
   | .whole=>vs=[]
   | .place c ps=>∃ l,vs=[l]/\Rep H (bt c ps) l
   | .row c ps j=>∃ l u,vs=[l,u]/\Rep H (bt c ps) l/\Rep H j.dv u
   | .pair i j=>∃ u w,vs=[u,w]/\Rep H i.dv u/\Rep H j.dv w):=by
 cases k with
 | whole=>
  simp only [Kd.dv,Rep,Reps] at r
  obtain ⟨a,vs,rfl,ha,x,r1,rfl,rfl,rfl⟩:=r
  exact ⟨a,[],rfl,ha,rfl⟩
 | place c ps=>
  rw [Kd.dv,Rep] at r
  obtain ⟨a,vs,rfl,ha,rs⟩:=r
  simp only [Reps] at rs
  obtain ⟨x,r1,rfl,hx,y,r2,rfl,hy,rfl⟩:=rs
  simp only [Rep] at hx
  subst hx
  exact ⟨a,_,rfl,ha,y,rfl,hy⟩
 | row c ps j=>
  rw [Kd.dv,Rep] at r
  obtain ⟨a,vs,rfl,ha,rs⟩:=r
  simp only [Reps] at rs
  obtain ⟨x,r1,rfl,hx,y,r2,rfl,hy,z,r3,rfl,hz,rfl⟩:=rs
  simp only [Rep] at hx
  subst hx
  exact ⟨a,_,rfl,ha,y,z,rfl,hy,hz⟩
 | pair i j=>
  rw [Kd.dv,Rep] at r
  obtain ⟨a,vs,rfl,ha,rs⟩:=r
  simp only [Reps] at rs
  obtain ⟨x,r1,rfl,hx,y,r2,rfl,hy,z,r3,rfl,hz,rfl⟩:=rs
  simp only [Rep] at hx
  subst hx
  exact ⟨a,_,rfl,ha,y,z,rfl,hy,hz⟩
theorem gm {H:Hp} {a:Addr} (h:H a=some (.tup [.str "whole"])):Rep H Kd.whole.dv (.ref a):=by
 simp only [Kd.dv,Rep,Reps]
 exact ⟨a,_,rfl,h,_,_,rfl,rfl,rfl⟩
theorem jX {H:Hp} {a:Addr} {l:V} {c:Int} {ps:List Pr} (h:H a=some (.tup [.str "place",l])) (r:Rep H (bt c ps) l):Rep H (Kd.place c ps).dv (.ref a):=by
 rw [Kd.dv,Rep]
 refine ⟨a,_,rfl,h,?_⟩
 simp only [Reps]
 exact ⟨_,_,rfl,by simp only [Rep],_,_,rfl,r,rfl⟩
theorem lg {H:Hp} {a:Addr} {l u:V} {c:Int} {ps:List Pr} {k:Kd} (h:H a=some (.tup [.str "row",l,u])) (r:Rep H (bt c ps) l) (r2:Rep H k.dv u):Rep H (Kd.row c ps k).dv (.ref a):=by
 rw [Kd.dv,Rep]
 refine ⟨a,_,rfl,h,?_⟩
 simp only [Reps]
 exact ⟨_,_,rfl,by simp only [Rep],_,_,rfl,r,_,_,rfl,r2,rfl⟩
theorem nt {H:Hp} {a:Addr} {l u:V} {j k:Kd} (h:H a=some (.tup [.str "pair",l,u])) (r:Rep H j.dv l) (r2:Rep H k.dv u):Rep H (Kd.pair j k).dv (.ref a):=by
 rw [Kd.dv,Rep]
 refine ⟨a,_,rfl,h,?_⟩
 simp only [Reps]
 exact ⟨_,_,rfl,by simp only [Rep],_,_,rfl,r,_,_,rfl,r2,rfl⟩
theorem mD {G H2:Hp} {kvs:List Pr} {qs:List TK} (hq:∀ r∈qs,H2 r.1=some (.tup (.str r.2.1 :: r.2.2))/\G r.1=none) (pq:(qs.map (·.2)).Perm ((kvs.map fun p=>(p.1,V.int p.2)).map fun p=>(p.1,[p.2]))) (pw:qs.Pairwise ux) (hall:∀ p∈kvs,1<=p.2) :
  (qs.map tkV).Perm kvs/\jG (qs.map tkV)/\∀ t,H2 t=none->Rep (upd H2 t (.tup (qs.map fun r=>V.ref r.1))) (.tup (aL (qs.map tkV))) (.ref t):=by
 have shape:∀ r∈qs,∃ p∈kvs,r.2=(p.1,[V.int p.2]):=fun r hr'=>by
  have:=pq.mem_iff.mp (f_ (f:=(·.2)) hr')
  rw [ϋ] at this
  obtain ⟨p,hp,e⟩:=Δ.mp this
  exact ⟨p,hp,e.symm⟩
 have tk:∀ r∈qs,r.2.1=(tkV r).1/\r.2.2=[V.int (tkV r).2]:=fun r hr'=>by
  obtain ⟨p,_,e⟩:=shape r hr'
  unfold tkV
  rw [e]
  exact ⟨rfl,rfl⟩
 have perm:(qs.map tkV).Perm kvs:=by
  have e1:qs.map tkV=(qs.map (·.2)).map fun z=>(z.1,match z.2 with | [.int n]=>n | _=>0):=by
   rw [ϋ]; rfl
  have e2:kvs=((kvs.map fun p=>(p.1,V.int p.2)).map fun p=>(p.1,[p.2])).map fun z=>(z.1,match z.2 with | [.int n]=>n | _=>0):=by
   rw [ϋ,ϋ]
   exact (List.map_id kvs).symm
  rw [e1]
  rw [e2]
  exact pq.map _
 refine ⟨perm,⟨A9.mpr (pw.imp fun {x y} h=>h),fun p hp=>hall p (perm.mem_iff.mp hp)⟩,fun t ht=>?_⟩
 simp only [Rep]
 refine ⟨t,_,rfl,aa,ke fun r hr'=>?_⟩
 have:=(hq r hr').1
 rw [(tk r hr').1,(tk r hr').2] at this
 exact ac ht _ _ _ this
theorem vQ {H:Hp} {c:Int} {ps:List Pr} {p:Addr} {w:V} (hp:H p=some (.tup [.int c,w])) (R:Rep H (.tup (aL ps)) w):Rep H (bt c ps) (.ref p):=by
 obtain ⟨b,us,rfl,hb,ru⟩:=Rep.tup_inv R
 exact len_rep hp hb ru
theorem cf {H:Hp}:∀ {ds:List Dv} {d:Dv} {vs:List V},Reps H (ds ++ [d]) vs->∃ vs0 v,vs=vs0 ++ [v]/\Reps H ds vs0/\Rep H d v
 | [],d,vs,h=>by
  simp only [CT,Reps] at h
  obtain ⟨v,r,rfl,hv,rfl⟩:=h
  exact ⟨[],v,rfl,by simp only [Reps],hv⟩
 | e :: ds,d,vs,h=>by
  simp only [CG,Reps] at h
  obtain ⟨v,r,rfl,hv,hr⟩:=h
  obtain ⟨vs0,u,rfl,h1,h2⟩:=cf hr
  exact ⟨v :: vs0,u,rfl,by simp only [Reps]; exact ⟨v,vs0,rfl,hv,h1⟩,h2⟩
theorem aP {H:Hp} {d:Dv} {v:V} (h:Rep H d v):Reps H [d] [v]:=by simp only [Reps]; exact ⟨v,[],rfl,h,rfl⟩
theorem dy (vs:List V) (v:V):(vs ++ [v])[(vs ++ [v]).length - 1]?=some v:=by simp
theorem pZ {t1 t2:TT} {σ:St} {H:Hp} {Q:Bool->Hp->Prop} (C:Prop) (qT:C->Q true H) (qF:Q false H) (f:(C->Q true H)->Q false H->uG t1 t2 σ H Q):uG t1 t2 σ H Q:=f qT qF
theorem fJ {α:Type}:∀ {l:List α},l≠[]->∃ l0 x,l=l0 ++ [x]:=fun {l} h=>by
 rcases List.eq_nil_or_concat l with e | ⟨l0,x,e⟩
 ·exact absurd e h
 ·exact ⟨l0,x,by rw [e]; simp⟩
theorem gnm {i:Nat} {x:V} {σ:St} {H:Hp} {N:St->Hp->Prop} (h:N (σ.set i (some x)) H):cb i x σ H N:=h
theorem ifT {A B:Prop} (h:if true=true then A else B):A:=by rwa [if_pos rfl] at h
theorem ifF {A B:Prop} (h:if false=true then A else B):B:=by rwa [if_neg Ι] at h
def sO:Option (Int×List Pr)->Dv
 | some p=>bt p.1 p.2
 | none=>.non
theorem BE:¬ (η "whole"=η "place"):=by decide +kernel
theorem Bg:¬ (η "whole"=η "row"):=by decide +kernel
theorem BB:¬ (η "whole"=η "pair"):=by decide +kernel
theorem Ao:¬ (η "place"=η "row"):=by decide +kernel
theorem zX:¬ (η "place"=η "pair"):=by decide +kernel
theorem Au:¬ (η "row"=η "pair"):=by decide +kernel
theorem wne {x y:Str} (h:¬ x=y):¬ V.str x=V.str y:=fun e=>h (V.str.inj e)
end KB
namespace L2
open PySem PySem.Spec PyProof.Rows PySem.W
section
variable {X:Cx}
end
end L2
namespace KB
open PySem L2
theorem cQ {H:Hp} {α:Type} {f:α->Dv} {xs:List α} {us:List V} {i:Nat} {u:V} (R:Reps H (xs.map f) us) (h:us[i]?=some u):∃ x,xs[i]?=some x/\Rep H (f x) u:=by
 obtain ⟨d,hd,Rd⟩:=R.get h
 rw [Κ] at hd
 obtain ⟨x,hx,rfl⟩:=Ϙ.mp hd
 exact ⟨x,hx,Rd⟩
theorem vJ {H:Hp} {x:Option (Int×List Pr)} {u:V} (R:Rep H (sO x) u):(x=none/\u=.non)\/∃ p ds,x=some p/\sO x=.tup ds/\Rep H (.tup ds) u:=by
 cases x with
 | none=>exact .inl ⟨rfl,by simpa only [sO,Rep] using R⟩
 | some p=>exact .inr ⟨p,_,rfl,rfl,R⟩
theorem xR {H:Hp} {k:Kd} {v:V} (R:Rep H k.dv v):∃ a vs,v=.ref a/\H a=some (.tup (.str k.word :: vs)):=by
 obtain ⟨a,vs,e,ha,_⟩:=Kd.inv R
 exact ⟨a,vs,e,ha⟩
theorem zc {t1 t2:TT} {σ:St} {H:Hp} {Q:Bool->Hp->Prop} (C:Prop) (qT:C->∀ H',ad H H'->Q true H') (qF:∀ H',ad H H'->Q false H') (f:(C->∀ H',ad H H'->Q true H')->(∀ H',ad H H'->Q false H')->uG t1 t2 σ H Q):uG t1 t2 σ H Q:=f qT qF
theorem yV (xs:List V) (n:Nat) (h:n<=xs.length):aJ xs none (some (n:Int))=xs.take n:=by
 unfold aJ
 rw [HT.sIx_none,HT.sIx_nat]
 simp [u6 h]
theorem fW {t1 t2:TS} {D:bV} {σ:St} {H:Hp} (M:St->Hp->Prop) (h2:∀ σ' H',M σ' H'->t2 D σ' H') (f:(∀ σ' H',M σ' H'->t2 D σ' H')->lD t1 t2 D σ H):lD t1 t2 D σ H:=f h2
end KB
namespace L2
open PySem PySem.Spec PyProof.Rows PySem.W
section
variable {P:Β} {w:Ξ} {A:Φ} {E:δ->ι->Prop} {s:ι}
theorem iH {l:Addr} {items:Array δ} {ys:List Str} {Q:δ->ι->Prop} (hh:A.handled=none) (hl:s.heap.IsTuple l items) (hi:∀ (i:Nat) (v:δ),items[i]?=some v->∃ t,v=.str (ys.getD i default) t) (hb:items.size + 1 < scanBound)
  (h:∀ (h':Heap) (tk:Nat),cr P w h' s.heap.objs.size (uq (fun i=>ys.getD i default) items.size)->(∀ b o,b < s.heap.objs.size->s.heap.get? b=some o->h'.get? b=some o)->Q (.ref s.heap.objs.size) { s with heap:=h',toks:=tk }) :
  wpAny (model P w) A (call (.type "set") [.ref l]) Q E s:=by
 obtain ⟨c,tl,hmro⟩:=PySem.F.called_set.mro
 have hmade:=PySem.F.called_set.made
 have hsub:=PySem.F.called_set.sub
 refine CA (CZ ?_)
 show wpAny _ _ (callAny (.type "set") _) _ _ _
 refine ξ ⟨y_ _ (by decide +kernel),t_ PySem.F.entry_type_call ?_⟩
 rw [Φ.under_plain (weight_type_call_type "set" [.ref l] []) rfl]
 have h1:=PySem.F.called_set.notType
 have h2:=PySem.F.called_set.canCreate
 have hct:=PySem.F.typeCall_set_1 (.ref l)
 repeat (any_goals (first | assumption | wp_step))
 refine u8 (eB (.ref l) (E:=E) (Q₁:=fun obj s₁=>obj=.ref s.heap.objs.size/\s₁={ s with heap:=s.heap.push (bb w) }) ⟨rfl,rfl⟩) fun r s₁ hr=>?_
 cases r with
 | error e=>exact hr
 | ok fl=>
  cases fl with
  | ret obj=>
   obtain ⟨rfl,rfl⟩:=hr
   have hS:(s.heap.push (bb w)).get? s.heap.objs.size=some (bb w):=Γ _ rfl
   have hT:ι.TypeIs { s with heap:=s.heap.push (bb w) } (.ref s.heap.objs.size) "set":=⟨_,hS,rfl⟩
   have hli:=PySem.F.called_set.init.lookup
   have hbi:=PySem.F.called_set.init.bind (.ref s.heap.objs.size)
   repeat (any_goals (first | assumption | wp_step))
   refine u8 (i9 (R:=wants (fun r s₂=>r=.none/\∃ h' tk,s₂={ s with heap:=h',toks:=tk }/\cr P w h' s.heap.objs.size (uq (fun i=>ys.getD i default) items.size)/\(∀ b o,b < s.heap.objs.size->s.heap.get? b=some o->h'.get? b=some o)) E)
    PySem.F.called_set.init.plain PySem.F.entry_set_init (check_set_init_1 hT ?_)) fun r₂ s₂ hr₂=>?_
   ·obtain ⟨ol,hol,hcl,nl,hdl⟩:=hl
    obtain ⟨ocls,odict,odata,oslots⟩:=ol
    simp only at hcl hdl
    subst hcl; subst hdl
    have hol':(s.heap.push (bb w)).get? l=some { cls:=.type "tuple",dict:=odict,data:=.seq items nl,slots:=oslots }:=ν _ hol
    have hsls:=PySem.F.sub_tuple_set
    have hslf:=PySem.F.sub_tuple_frozenset
    have hne:(v_ "tuple" == v_ "dict")=false:=by decide
    have hl1:(s.heap.push (bb w)).IsTuple l items:=⟨_,hol',rfl,nl,rfl⟩
    unfold bb at hS hT hol' hl1 ⊢
    unfold Ϣ.«set.__init__» noKeywords C1
    generalize hPI:pyIter=PI
    wp_walk
    subst hPI
    refine Cj hl1 ?_
    refine γ (Ef ?_)
    have hlS:l < s.heap.objs.size:=υ hol
    have hh3:A.in1.in1.in1.handled=none:=by simp [hh]
    have hneI:l≠(s.heap.push (bb w)).objs.size:=by
     rw [ϟ]; exact Τ (j6 hlS)
    have hSf:s.heap.objs.size∉[(s.heap.push (bb w)).objs.size,l]:=by
     rw [ϟ]; simp only [θ,ε,ϳ,or_false,not_or]
     exact ⟨Τ (B9 _),i5 hlS⟩
    refine nG ((Eu.tuple hh3 _ l hneI items).toS) s.heap.objs.size hSf (fun i=>ys.getD i default) hi hb (items.size - 0) 0 _ (by omega) (Χ _)
     ⟨⟨_,Γ _ rfl,rfl,rfl⟩,(hl1.push _)⟩ ?hS0 ?hR
    case hS0=>exact (ja s.heap).at' fun o e=>ν _ e
    case hR=>
     intro s' hm hS'
     obtain ⟨h',g',d',tk',os'⟩:=s'
     have eg:g'=s.gens:=hm.gens
     have ed:d'=s.drawn:=hm.drawn
     have eo:os'=s.os:=hm.os
     subst eg; subst ed; subst eo
     show wpAny _ _ _ _ _ _
     refine ξ ?_
     show wpAny _ _ (ret Ϭ) _ _ _
     refine ξ ⟨rfl,h',tk',rfl,hS',fun b o hb e=>?_⟩
     have hb1:b≠s.heap.objs.size:=Τ hb
     have hb2:b≠(s.heap.push (bb w)).objs.size:=by
      rw [ϟ]; exact Τ (j6 hb)
     exact hm.heap b o (by simp only [θ,ε,ϳ,or_false,not_or]; exact ⟨hb1,hb2⟩) (ν _ (ν _ e))
   ·cases r₂ with
    | error e=>exact hr₂
    | ok fl₂=>
     cases fl₂ with
     | ret r=>
      obtain ⟨rfl,h',tk,rfl,hS',hk'⟩:=hr₂
      repeat (any_goals (first | assumption | wp_step))
      exact h _ _ hS' hk'
     | _=>exact hr₂.elim
  | _=>exact hr.elim
end
section
variable {X:Cx}
theorem sK (hc:X.calm=true):bU X (.type "set") (fun xs H Q=>∃ (l:Addr) (ys:List Str),xs=[.ref l]/\(SqL X.K H l (ys.map V.str)\/SqT X.K H l (ys.map V.str))/\ys.length<=1000 /\
  ∀ (a:Addr) (zs:List Str),H a=none->zs.Nodup->(∀ x,x∈zs↔x∈ys)->zs.length<=ys.length->Q (.ref a) (upd H a (SetO X.prog X.w a zs))):=by
 intro pins s σ H xs us Q I r h
 obtain ⟨l,ys,rfl,hq | hq,hy,q⟩:=h
 ·exact sY hc pins s σ H _ us Q I r ⟨l,ys,rfl,hq,hy,q⟩
 obtain ⟨u,rfl,ru⟩:=cO r
 cases ru
 obtain ⟨its,rv,p,hz⟩:=I.tuple hq
 have li:its.length=ys.length:=by have:=rv.length; rw [ζ] at this; exact this.symm
 have hb:its.toArray.size + 1 < scanBound:=by rw [ρ,li]; unfold scanBound; omega
 refine iH (ys:=ys) (I.ok.hd hc) p (fun i v hv=>?_) hb fun h' tk hS k=>?_
 ·have hv':its[i]?=some v:=by simpa using hv
  have hi:i < ys.length:=by rw [<- li]; exact (π.mp hv').1
  obtain ⟨t,e⟩:=qQ rv i hi
  refine ⟨t,?_⟩
  rw [<- e]
  simp [t7,hv']
 ·have sz:its.toArray.size=ys.length:=by rw [ρ,li]
  rw [sz] at hS
  refine ⟨.ref s.heap.objs.size,_,I.laid (a:=s.heap.objs.size) (o:=SetO X.prog X.w s.heap.objs.size (uq (fun i=>ys.getD i default) ys.length)) (t':=tk) (fun b u e=>k b u (υ e) e) (τ _) ?_,rfl,q _ _ I.fresh (fQ _ _) (fun x=>?_) (lh _ _)⟩
  ·refine ⟨hS,?_,fun h1 h2 x kk=>cr.at' x kk⟩
   obtain ⟨o,_,_,_,ho,_⟩:=hS
   exact ⟨o,ho⟩
  ·rw [pd]
   constructor
   ·rintro ⟨j,hj,rfl⟩
    have e:ys.getD j default=ys[j]:=by simp [t7,hj]
    rw [e]; exact k8 hj
   ·intro hx
    obtain ⟨j,hj,rfl⟩:=e_ hx
    exact ⟨j,hj,by simp [t7,hj]⟩
theorem sV:bU X (.builtin "len") (fun xs H Q=>∃ (a:Addr) (zs:List Str),xs=[.ref a]/\H a=some (SetO X.prog X.w a zs)/\Q (.int (zs.length:Nat)) H):=by
 intro pins s σ H xs us Q I r h
 obtain ⟨a,zs,rfl,ha,q⟩:=h
 obtain ⟨u,rfl,ru⟩:=cO r
 cases ru
 obtain ⟨hS,_,_⟩:=(show aV X.prog X.w H s.heap a (SetO X.prog X.w a zs) from I.hok a _ ha)
 obtain ⟨o,es,ep,t,ho,hex,hd,_,hb,hf,_,_,hp⟩:=hS
 have e:es.size=zs.length:=by have:=hp.length_eq; rw [ζ,Ϟ] at this; exact this
 refine call_len_set ho hex hd hf (by unfold scanBound at hb; omega) ⟨.int (zs.length:Nat),H,I.tok _,⟨_,by rw [e]⟩,q⟩
theorem vm {x y:V} {u:δ} (h:ay x u) (g:ay y u):x=y:=by
 cases x <;> cases y <;> simp only [ay] at h g <;> first | (obtain ⟨_,rfl⟩:=h; obtain ⟨_,g⟩:=g; cases g; rfl) | (obtain ⟨_,rfl⟩:=h; obtain ⟨_,g⟩:=g; cases g; done) | (obtain ⟨_,rfl⟩:=h; cases g; done) | (subst h; obtain ⟨_,g⟩:=g; cases g; done) | (subst h; cases g; rfl) | (subst h; cases g; done) | rfl
theorem mW {H:Hp}:∀ {ds:List Dv} {vs:List V} {us:List δ},Reps H ds vs->au vs us->∀ u∈us,∃ d v,d∈ds/\Rep H d v/\ay v u
 | _,_,_,R,.nil,u,hu=>nomatch hu
 | [],_,_,R,.cons _ _,_,_=>by simp [Reps] at R
 | d :: ds,_,_,R,.cons r t,u,hu=>by
  simp only [Reps] at R
  obtain ⟨v,vs,e,R1,R2⟩:=R
  cases e
  rcases θ.mp hu with rfl | hu
  ·exact ⟨d,_,Ε,R1,r⟩
  ·obtain ⟨d',v',h1,h2,h3⟩:=mW R2 t u hu
   exact ⟨d',v',ο _ h1,h2,h3⟩
theorem nc {H:Hp}:∀ {ds:List Dv} {vs:List V} {us:List δ},Reps H ds vs->au vs us->∀ d∈ds,∃ u v,u∈us/\Rep H d v/\ay v u
 | [],_,_,_,_,d,hd=>nomatch hd
 | _ :: _,_,_,R,.nil,_,_=>by simp [Reps] at R
 | d :: ds,_,_,R,.cons r t,e,he=>by
  simp only [Reps] at R
  obtain ⟨v,vs,e1,R1,R2⟩:=R
  cases e1
  rcases θ.mp he with rfl | he
  ·exact ⟨_,_,Ε,R1,r⟩
  ·obtain ⟨u',v',h1,h2,h3⟩:=nc R2 t e he
   exact ⟨u',v',ο _ h1,h2,h3⟩
def BS (K:PySem.W.Frag):R2:=fun x y H Q=>∃ (p:Addr) (xs:List V) (n:Nat) (d:Dv) (ds:List Dv),y=.ref p/\SqL K H p xs/\Reps H ds xs/\(∀ e∈ds,Pl n e)/\Pl n d/\n<=140/\Rep H d x/\∀ b:Bool,(b=true↔d∈ds)->Q (.bl b) H
theorem yI (hu:X.A.units + 150 < cLine):OpR X (compareOp .In) (BS X.K):=by
 intro pins s σ H x y v u Q I rx ry h
 obtain ⟨p,xs,n,d,ds,rfl,hq,R,hp,hd,hn,Rx,q⟩:=h
 cases ry
 obtain ⟨its,r,pl,hz⟩:=I.list hq
 have f:∀ w∈its,∃ e∈ds,ϗ X.A.in1 s w v (cF (∃ z,ay z w/\Rep H d z))/\(cF (∃ z,ay z w/\Rep H d z)=true↔e=d):=fun w hw=>by
  obtain ⟨e,y,he,Re,ry⟩:=mW R r w hw
  have E:=kU I (hp e he) hd (A:=X.A.in1) (by show X.A.units + 1 + n < cLine; omega) Re Rx ry rx
  have iff:(∃ z,ay z w/\Rep H d z)↔e=d:=⟨fun ⟨z,h1,h2⟩=>Rep.inj _ _ _ Re (vm h1 ry▸h2),fun z=>⟨y,ry,z▸Re⟩⟩
  have e2:cF (∃ z,ay z w/\Rep H d z)=cF (e=d):=cw (by rw [bL]; exact iff)
  exact ⟨e,he,e2▸E,by rw [bL]; exact iff⟩
 refine SeqAt.in_listAt (fun w=>cF (∃ z,ay z w/\Rep H d z)) pl.isList (fun w hw=>(f w (by simpa using hw)).choose_spec.2.1) ⟨.bl _,H,I,rfl,q _ ?_⟩
 rw [show its.toArray.any (fun w=>cF (∃ z,ay z w/\Rep H d z))=its.any (fun w=>cF (∃ z,ay z w/\Rep H d z)) by simp,a_]
 constructor
 ·rintro ⟨w,hw,e⟩
  obtain ⟨e',he,_,i⟩:=f w hw
  rw [<- i.mp e]; exact he
 ·intro hm
  obtain ⟨w,y,hw,Ry,ry⟩:=nc R r d hm
  exact ⟨w,hw,bL.mpr ⟨y,ry,Ry⟩⟩
end
section
variable {X:Cx}
def AY (neg:Bool):R2:=fun y x H Q=>∃ a o,x=.ref a/\pC H a y o/\Q (.bl (if neg then !o.isSome else o.isSome)) H
theorem yB (hu:X.A.units + 1 < cLine):OpR X (compareOp .In) (AY false):=by
 intro pins s σ H y x iv u Q I ry rx h
 obtain ⟨a,ov,rfl,g,q⟩:=h
 obtain rfl:u=Η a:=rx
 exact Bj hu I g ry fun s3 I3=>⟨.bl ov.isSome,H,I3,rfl,q⟩
theorem sH (hu:X.A.units + 1 < cLine):OpR X (compareOp .NotIn) (AY true):=by
 intro pins s σ H y x iv u Q I ry rx h
 obtain ⟨a,ov,rfl,g,q⟩:=h
 obtain rfl:u=Η a:=rx
 exact xh hu I g ry fun s3 I3=>⟨.bl (!ov.isSome),H,I3,rfl,q⟩
theorem zD (hu:X.A.units < cLine):OpR X (compareOp .NotEq) (fun x y H Q=>∃ (l b:Addr) (xs:List V),x=.ref l/\y=.ref b/\SqL X.K H l xs/\SqL X.K H b []/\Q (.bl (!xs.isEmpty)) H):=by
 intro pins s σ H x y v u Q I rx ry h
 obtain ⟨l,b,xs,rfl,rfl,hl,hb,q⟩:=h
 cases rx
 cases ry
 obtain ⟨its,r1,p1,_⟩:=I.list hl
 obtain ⟨its2,r2,p2,_⟩:=I.list hb
 have l1:=r1.length
 have l2:=r2.length
 cases xs with
 | nil=>
  refine SeqAt.RcNeAt.lists (e:=fun _=>true) p1.isList p2.isList (by simp; omega) hu (fun j h1 h2=>?_) X.prog X.w X.xe _ ?_
  ·have:j < its.length:=by simpa using h1
   simp at l1; omega
  ·have e:(!((Ω its.toArray.size).all fun _=>true))=false:=by simp
   rw [e]
   exact ⟨.bl false,H,I,rfl,q⟩
 | cons x xs=>
  refine SeqAt.RcNeAt.lists_lengths p1.isList p2.isList ?_ hu X.prog X.w X.xe _ ⟨.bl true,H,I,rfl,q⟩
  rw [Υ] at l1
  rw [Cg] at l2
  rw [ρ,ρ,bne_iff_ne]
  omega
theorem sD:bU X (.builtin "len") (fun vs H Q=>∃ d m,vs=[V.ref d]/\H d=some (.dK m)/\Q (.int m.length) H):=fun pins s σ H vs us Q I r h=>by
 obtain ⟨d,m,rfl,hd,q⟩:=h
 obtain ⟨u,rfl,ru⟩:=cO r
 cases ru
 exact Be I (.inl hd) fun t _ J=>⟨.int m.length,H,J,⟨t,rfl⟩,q⟩
end
theorem uJ (l:Addr) (items:Array δ) (n:Nat) (dct:Option Addr) (slt:Array (Option δ)) (t:Tok) (hc1:¬(items.isEmpty || (0:Int) == 1)=true) :
  Meets (Ϣ.«tuple.__mul__» ⟨[.ref l,.int 0 t],[]⟩) (fun _ R s=>s.heap.get? l=some { cls:=.type "tuple",dict:=dct,data:=.seq items n,slots:=slt }/\R (.ok (.ret (.ref s.heap.objs.size))) { s with heap:=s.heap.push { cls:=.type "tuple",data:=.seq #[] } }):=
 .of_wp fun prog w A R s h=>by
  obtain ⟨hp,g,d,tk,os⟩:=s
  obtain ⟨hl,h⟩:=h
  have f1:=CH
  have f2:=x9
  have hc0:¬(decide ((0:Int) < -2 ^ 63) || decide ((0:Int)>=2 ^ 63))=true:=by decide
  have hc2:(decide ((0:Int)<=0) || items.isEmpty)=true:=by simp
  wp_walk using ϩ hl
  rw [if_neg hc1]
  show wpAny _ _ (if (decide ((0:Int)<=0) || items.isEmpty)=true then _ else _) _ _ _
  rw [if_pos hc2]
  refine γ (m:=ϕ _) (ϖ (ξ ⟨_,rfl,h⟩) (Χ _))
theorem uK (l:Addr) (items:Array δ) (n:Nat) (dct:Option Addr) (slt:Array (Option δ)) (t:Tok) :
  Meets (Ϣ.«tuple.__mul__» ⟨[.ref l,.int 1 t],[]⟩) (fun _ R s=>s.heap.get? l=some { cls:=.type "tuple",dict:=dct,data:=.seq items n,slots:=slt }/\R (.ok (.ret (.ref l))) s):=
 .of_wp fun prog w A R s h=>by
  obtain ⟨hp,g,d,tk,os⟩:=s
  obtain ⟨hl,h⟩:=h
  have f1:=CH
  have f2:=x9
  have hc0:¬(decide ((1:Int) < -2 ^ 63) || decide ((1:Int)>=2 ^ 63))=true:=by decide
  have hc1:(items.isEmpty || (1:Int) == 1)=true:=by simp
  wp_walk using ϩ hl
  exact ⟨_,rfl,h⟩
section
variable {X:Cx}
def yy (K:PySem.W.Frag):R2:=fun x y H Q=>∃ l k xs,x=.ref l/\y=.int k/\SqT K H l xs/\xs≠[]/\0<=k/\k<=1000/\xs.length * k.toNat<=1000/\(k=1->Q (.ref l) H)/\(k≠1->∀ p,H p=none->Q (.ref p) (upd H p (.tup (χ k.toNat xs).flatten)))
theorem wm:OpR X (binaryOp .Mult) (yy X.K):=by
 intro pins s σ H x y v u Q I rx ry h
 obtain ⟨l,k,xs,rfl,rfl,hx,ne,k0,k3,hz,q1,q2⟩:=h
 by_cases h2:2<=k
 ·exact xj pins s σ H _ _ v u Q I rx ry ⟨l,k,xs,rfl,rfl,hx,ne,h2,k3,hz,q2 (by omega)⟩
 cases rx
 obtain ⟨t,rfl⟩:=ry
 obtain ⟨its,r,⟨⟨cls,dd,data,sl⟩,e,hc,n,hd⟩,z⟩:=I.tuple hx
 simp only at hc hd
 subst hc hd
 have hl:=r.length
 have hne:its≠[]:=fun e=>ne (Cl.mp (by rw [hl,e]; rfl))
 have hemp:its.toArray.isEmpty=false:=by simpa using hne
 rcases (by omega:k=0\/k=1) with rfl | rfl
 ·refine r_ (T:="tuple") (U:="int") (by decide) ⟨_,e,rfl⟩ (fun s'=>B0 s' 0 t) bP CU m5 dg CB.lookup
   (j4 m5 (B0 s 0 t) CC (Cs _ _) (dh 0 t l its.toArray n dd sl)
    ⟨e,rfl,⟨_,e,rfl⟩,j4 DN ⟨_,e,rfl⟩ DD (Ds _ _) (uJ l its.toArray n dd sl t (by rw [hemp]; decide)) ⟨e,?_⟩⟩)
  refine ⟨.ref _,_,I.laid (t':=s.toks) (o:=.tup []) (fun b ob q=>ν _ q) (τ _) ?_,rfl,q2 (by decide) _ (I.hok.fresh (τ _))⟩
  exact ⟨Χ _,[],.nil,El _ _,NoD.new _ rfl⟩
 ·refine r_ (T:="tuple") (U:="int") (by decide) ⟨_,e,rfl⟩ (fun s'=>B0 s' 1 t) bP CU m5 dg CB.lookup
   (j4 m5 (B0 s 1 t) CC (Cs _ _) (dh 1 t l its.toArray n dd sl)
    ⟨e,rfl,⟨_,e,rfl⟩,j4 DN ⟨_,e,rfl⟩ DD (Ds _ _) (uK l its.toArray n dd sl t) ⟨e,?_⟩⟩)
  exact ⟨.ref l,H,I,rfl,q1 rfl⟩
end
end L2
namespace XB
open PySem L2 KB
inductive So | n | x | l | k | w | f | y | e | a | r
deriving DecidableEq
def srt:So->Str
 | .n=>"number"
 | .x=>"name"
 | .l=>"length"
 | .k=>"kind"
 | .w=>"reckon"
 | .f=>"def"
 | .y=>"name"
 | .e=>"part"
 | .a=>"args"
 | .r=>"things"
abbrev Wd:=Str×Str×List So
def WT:List Wd:=[("number","n",[.n]),("name","x",[.x]),("length","l",[.l]),("none","k",[.k]),("place","ll",[.l,.l]),("reckon","wee",[.w,.e,.e]),
 ("if","eee",[.e,.e,.e]),("let","xee",[.x,.e,.e]),("call","fa",[.f,.a]),("pair","ee",[.e,.e]),("first","e",[.e]),("second","e",[.e]),
 ("row","r",[.r]),("join","ee",[.e,.e]),("take","le",[.l,.e]),("drop","le",[.l,.e]),("zip","ee",[.e,.e]),("turn","e",[.e]),
 ("get","ee",[.e,.e]),("value","e",[.e]),("up","le",[.l,.e]),("wide","le",[.l,.e]),("mirror","e",[.e]),("fork","lexee",[.l,.e,.x,.e,.e]),
 ("when","elxee",[.e,.l,.x,.e,.e]),("loop","xle",[.x,.l,.e]),("fold","xlyee",[.x,.l,.y,.e,.e])]
def ST:List Wd:=[("number","n",[.n]),("name","x",[.x]),("length","l",[.l]),("reckon","wee",[.w,.e,.e]),("if","eee",[.e,.e,.e]),("let","xee",[.x,.e,.e]),
 ("call","fa",[.f,.a]),("pair","ee",[.e,.e]),("first","e",[.e]),("second","e",[.e]),("row","r",[.r]),("none","k",[.k]),
 ("join","ee",[.e,.e]),("take","le",[.l,.e]),("drop","le",[.l,.e]),("zip","ee",[.e,.e]),("turn","e",[.e]),("get","ee",[.e,.e]),
 ("place","ll",[.l,.l]),("value","e",[.e]),("up","le",[.l,.e]),("wide","le",[.l,.e]),("mirror","e",[.e]),("fork","lexee",[.l,.e,.x,.e,.e]),
 ("when","elxee",[.e,.l,.x,.e,.e]),("loop","xle",[.x,.l,.e]),("fold","xlyee",[.x,.l,.y,.e,.e])]
theorem xU:∀ p∈WT,p∈ST:=by decide +kernel
theorem yo:(ST.map (·.1)).Nodup:=by decide +kernel
theorem yn:(WT.map (·.1)).Nodup:=by decide +kernel
theorem zz:∀ p∈ST,p.2.2.length<=5:=by decide +kernel
theorem qK:∀ p∈WT,p.2.2.length<=5:=by decide +kernel
def gM (ss:List So):Nat:=(ss.map fun | .e=>1 | .a=>4 | .r=>4 | _=>0).sum
theorem xa:∀ p∈WT,gM p.2.2<=4:=by decide +kernel
theorem xS:∀ s:So,V.str (srt s)=V.str "part"↔s=.e:=by
 intro s
 cases s <;> simp only [V.str.injEq,srt] <;> decide +kernel
theorem mQ:∀ s:So,V.str (srt s)=V.str "args"↔s=.a:=by
 intro s
 cases s <;> simp only [V.str.injEq,srt] <;> decide +kernel
theorem mi:∀ s:So,V.str (srt s)=V.str "things"↔s=.r:=by
 intro s
 cases s <;> simp only [V.str.injEq,srt] <;> decide +kernel
theorem yp:∀ s:So,V.str (srt s)=V.str "number"↔s=.n:=by
 intro s
 cases s <;> simp only [V.str.injEq,srt] <;> decide +kernel
theorem xW:∀ s:So,V.str (srt s)=V.str "length"↔s=.l:=by
 intro s
 cases s <;> simp only [V.str.injEq,srt] <;> decide +kernel
theorem yz:∀ s:So,V.str (srt s)=V.str "kind"↔s=.k:=by
 intro s
 cases s <;> simp only [V.str.injEq,srt] <;> decide +kernel
theorem xY:∀ s:So,V.str (srt s)=V.str "reckon"↔s=.w:=by
 intro s
 cases s <;> simp only [V.str.injEq,srt] <;> decide +kernel
theorem yv:∀ s:So,V.str (srt s)=V.str "def"↔s=.f:=by
 intro s
 cases s <;> simp only [V.str.injEq,srt] <;> decide +kernel
theorem vD:∀ s:So,V.str (srt s)=V.str "name"↔(s=.x\/s=.y):=by
 intro s
 cases s <;> simp only [V.str.injEq,srt] <;> decide +kernel
theorem rk {α:Type} {l:List α} {f:α->Str} (hn:(l.map f).Nodup) {p:α} (hp:p∈l):l.find? (fun q=>decide (f q=f p))=some p:=by
 induction l with
 | nil=>cases hp
 | cons q l ih=>
  rw [Ο,ϱ] at hn
  rw [a8]
  rcases θ.mp hp with rfl | hp
  ·simp
  ·rw [show decide (f q=f p)=false from decide_eq_false fun e=>hn.1 (by rw [e]; exact f_ hp)]
   exact ih hn.2 hp
structure Shp (P:Β) (w:Ξ) (K:PySem.W.Frag) (g:Addr):Prop where
 ex:∃ kvs,FD P w K g kvs/\(∀ p∈WT,∃ b,look kvs p.1=some b/\∀ H,SqT K H b (p.2.2.map fun s=>V.str (srt s)))/\∀ x,(look kvs x).isSome=WT.any fun p=>decide (p.1=x)
def zn:Cz->Str×Addr
 | ⟨_,.str x _,.ref b⟩=>(x,b)
 | _=>("",0)
inductive Ents (w:Ξ):List Cz->Prop
 | nil:Ents w []
 | cons {x:Str} {t:Tok} {b:Addr} {es:List Cz}:Ents w es->Ents w (⟨PyData.keyHash w.params x,.str x t,.ref b⟩ :: es)
inductive AreS:List δ->List Str->Prop
 | nil:AreS [] []
 | cons {x:Str} {t:Tok} {us:List δ} {xs:List Str}:AreS us xs->AreS (.str x t :: us) (x :: xs)
theorem AreS.vals {us:List δ} {xs:List Str} (h:AreS us xs):au (xs.map V.str) us:=by
 induction h with
 | nil=>exact .nil
 | @cons x t us xs _ ih=>exact .cons ⟨t,rfl⟩ ih
inductive TupsK (K:PySem.W.Frag):List (Str×Addr)->List Wd->Prop
 | nil:TupsK K [] []
 | cons {x z:Str} {b:Addr} {kvs:List (Str×Addr)} {ss:List So} {ps:List Wd} {od:Option Addr} {its:List δ} {n:Nat} {sl:Array (Option δ)} :
  K.lookup b=some ⟨.type "tuple",od,.seq its.toArray n,sl⟩->AreS its (ss.map srt)->TupsK K kvs ps->TupsK K ((x,b) :: kvs) ((x,z,ss) :: ps)
theorem TupsK.keys {K:PySem.W.Frag} {kvs:List (Str×Addr)} {ps:List Wd} (h:TupsK K kvs ps):kvs.map (·.1)=ps.map (·.1):=by
 induction h with
 | nil=>rfl
 | cons _ _ _ ih=>rw [Ο,Ο,ih]
theorem TupsK.look {K:PySem.W.Frag} {kvs:List (Str×Addr)} {ps:List Wd} (h:TupsK K kvs ps) (hf:∀ p∈ps,p.2.2.length<=5):(ps.map (·.1)).Nodup->∀ p∈ps,∃ b,L2.look kvs p.1=some b/\∀ H,SqT K H b (p.2.2.map fun s=>V.str (srt s)):=by
 induction h with
 | nil=>intro _ p hp; cases hp
 | @cons x z b kvs ss ps od its n sl hl ha _ ih=>
  intro hn p hp
  rw [Ο,ϱ] at hn
  unfold L2.look
  rw [a8]
  rcases θ.mp hp with rfl | hp'
  ·rw [decide_eq_true rfl]
   refine ⟨b,rfl,fun H=>.inr ⟨_,_,_,hl,rfl,rfl,?_,?_⟩⟩
   ·have h5:ss.length<=5:=hf _ Ε
    have:=ha.vals.length
    rw [ζ,ζ] at this
    rw [ρ,ψ]
    omega
   ·have:=ha.vals
    rw [ϋ] at this
    exact this
  ·rw [decide_eq_false (fun e:x=p.1=>hn.1 (by rw [show (x,z,ss).1=p.1 from e]; exact f_ (f:=(·.1)) hp'))]
   exact ih (fun q hq=>hf q (ο _ hq)) hn.2 p hp'
theorem Ents.pairs {P:Β} {w:Ξ} {es:List Cz} (h:Ents w es):Pairs (aR P w) es ((es.map zn).map fun p=>((Ϗ p.1:Key),Η p.2)):=by
 induction h with
 | nil=>exact .nil
 | @cons x t b es _ ih=>exact .cons (dD P w x t) rfl ih
theorem Ents.keys {P:Β} {w:Ξ} {es:List Cz} (h:Ents w es):∀ e∈es,∃ k,(aR P w).is k e.key=true/\e.hash=(aR P w).hash k:=by
 induction h with
 | nil=>intro e he; cases he
 | @cons x t b es _ ih=>
  intro e he
  rcases θ.mp he with rfl | he
  ·exact ⟨Ϗ x,dD P w x t,rfl⟩
  ·exact ih e he
theorem rZ (kvs:List (Str×Addr)) (x:Str):(L2.look kvs x).isSome=(kvs.map (·.1)).any fun y=>decide (y=x):=by
 unfold L2.look
 rw [A6]
 induction kvs with
 | nil=>rfl
 | cons p kvs ih=>
  rw [a8,Ο,Cd]
  by_cases h:p.1=x
  ·rw [decide_eq_true h]; rfl
  ·rw [decide_eq_false h,x5]; exact ih
theorem Bb:∀ p∈ST,p∈WT:=by decide +kernel
theorem ze (x:Str):(ST.map (·.1)).any (fun y=>decide (y=x))=WT.any fun p=>decide (p.1=x):=by
 rw [i6,a_,a_]
 constructor
 ·rintro ⟨y,hy,h⟩
  obtain ⟨p,hp,rfl⟩:=Δ.mp hy
  exact ⟨p,Bb p hp,h⟩
 ·rintro ⟨p,hp,h⟩
  exact ⟨p.1,f_ (xU p hp),h⟩
theorem shp_mk {P:Β} {w:Ξ} {K:PySem.W.Frag} {g:Addr} {es:List Cz} {ep:Nat} (hl:K.lookup g=some ⟨.type "dict",none,.dict es.toArray ep,#[]⟩) (lo:(g == sysModules)=false) (he:Ents w es) (ht:TupsK K (es.map zn) ST):Shp P w K g:=by
 refine ⟨es.map zn,⟨by rw [ht.keys]; exact yo,lo,_,_,_,hl,⟨rfl,rfl,rfl⟩,rfl,fun e hm=>he.keys e (by simpa using hm),by simpa using he.pairs⟩,fun p hp=>ht.look zz yo p (xU p hp),fun x=>by rw [rZ,ht.keys,ze]⟩
inductive F2 (R:So->Dv->Prop):List So->List Dv->Prop
 | nil:F2 R [] []
 | cons {s:So} {d:Dv} {ss:List So} {ds:List Dv}:R s d->F2 R ss ds->F2 R (s :: ss) (d :: ds)
theorem F2.length {R:So->Dv->Prop} {ss:List So} {ds:List Dv} (h:F2 R ss ds):ds.length=ss.length:=by
 induction h with
 | nil=>rfl
 | cons _ _ ih=>rw [Υ,Υ,ih]
theorem F2.get {R:So->Dv->Prop} {ss:List So} {ds:List Dv} (h:F2 R ss ds) {i:Nat} {s:So} (hs:ss[i]?=some s):∃ d,ds[i]?=some d/\R s d:=by
 induction h generalizing i with
 | nil=>cases hs
 | cons h _ ih=>
  cases i with
  | zero=>cases hs; exact ⟨_,rfl,h⟩
  | succ i=>exact ih hs
def Fld (E:Dv->Prop) (L:So->Dv->Prop):So->Dv->Prop
 | .e,d=>E d
 | .a,d=>∃ es,d=.tup es/\es.length<=4/\∀ e∈es,E e
 | .r,d=>∃ es,d=.tup es/\1<=es.length/\es.length<=4/\∀ e∈es,E e
 | s,d=>L s d
def qm:Dv->List Dv
 | .tup ds=>ds
 | _=>[]
def ptD:So->Dv->List Dv
 | .e,d=>[d]
 | .a,d=>qm d
 | .r,d=>qm d
 | _,_=>[]
def bc:List So->List Dv->List Dv
 | s :: ss,d :: ds=>ptD s d ++ bc ss ds
 | _,_=>[]
def wI (w:Str):List So:=match WT.find? (fun q=>decide (q.1=w)) with
 | some p=>p.2.2
 | none=>[]
theorem xw {p:Wd} (hp:p∈WT):wI p.1=p.2.2:=by unfold wI; rw [rk yn hp]
def bN:Dv->List Dv
 | .tup (.str w :: ds)=>bc (wI w) ds
 | _=>[]
theorem parts_of {p:Wd} (hp:p∈WT) (ds:List Dv):bN (.tup (.str p.1 :: ds))=bc p.2.2 ds:=by
 show bc (wI p.1) ds=_
 rw [xw hp]
theorem dY {E:Dv->Prop} {L:So->Dv->Prop} {ss:List So} {ds:List Dv} (h:F2 (Fld E L) ss ds):(∀ e∈bc ss ds,E e)/\(bc ss ds).length<=gM ss:=by
 induction h with
 | nil=>exact ⟨fun e he=>by simp [bc] at he,by simp [bc]⟩
 | @cons s d ss ds h _ ih=>
  obtain ⟨i1,i2⟩:=ih
  have em:gM (s :: ss)=gM [s] + gM ss:=by simp [gM]
  rw [em]
  have key:(∀ e∈ptD s d,E e)/\(ptD s d).length<=gM [s]:=by
   cases s with
   | e=>exact ⟨fun e he=>by rw [ε.mp he]; exact h,τ _⟩
   | a=>obtain ⟨es,rfl,h1,h2⟩:=h; exact ⟨h2,h1⟩
   | r=>obtain ⟨es,rfl,h0,h1,h2⟩:=h; exact ⟨h2,h1⟩
   | _=>exact ⟨fun e he=>by simp [ptD] at he,by simp [ptD,gM]⟩
  show (∀ e∈ptD s d ++ bc ss ds,E e)/\(ptD s d ++ bc ss ds).length<=_
  refine ⟨fun e he=>?_,by rw [ς]; omega⟩
  rcases Ψ.mp he with he | he
  ·exact key.1 e he
  ·exact i1 e he
theorem jI (ss:List So) (ds:List Dv) (i:Nat) {s:So} {d:Dv} (hs:ss[i]?=some s) (hd:ds[i]?=some d):bc (ss.take (i + 1)) (ds.take (i + 1))=bc (ss.take i) (ds.take i) ++ ptD s d:=by
 induction i generalizing ss ds with
 | zero=>
  cases ss with
  | nil=>cases hs
  | cons s' ss=>
   cases ds with
   | nil=>cases hd
   | cons d' ds=>cases hs; cases hd; simp [bc]
 | succ i ih=>
  cases ss with
  | nil=>cases hs
  | cons s' ss=>
   cases ds with
   | nil=>cases hd
   | cons d' ds=>
    simp only [List.take_succ_cons,bc]
    rw [ih ss ds hs hd,DB]
theorem cW (xs:List V) (n:Nat):aJ xs none (some (n:Int))=xs.take n:=by
 unfold aJ
 have e1:HT.sIx xs.length xs.length (some (n:Int))=min n xs.length:=HT.sIx_nat _ _ _
 have e2:HT.sIx xs.length 0 none=0:=rfl
 rw [e1,e2,List.drop_zero,Nat.sub_zero]
 rcases Nat.le_total n xs.length with h | h
 ·rw [u6 h]
 ·rw [DO h,ϛ,m9 h]
theorem cL (xs:List V) (n:Nat):aJ xs (some (n:Int)) none=xs.drop n:=by
 unfold aJ
 have e1:HT.sIx xs.length 0 (some (n:Int))=min n xs.length:=HT.sIx_nat _ _ _
 have e2:HT.sIx xs.length xs.length none=xs.length:=rfl
 rw [e1,e2]
 rcases Nat.le_total n xs.length with h | h
 ·rw [u6 h,m9 (by rw [ϧ]; exact τ _)]
 ·rw [DO h,Nat.sub_self,List.take_zero,List.drop_of_length_le h]
theorem reps_take {H:Hp}:∀ {ds:List Dv} {vs:List V} (n:Nat),Reps H ds vs->Reps H (ds.take n) (vs.take n)
 | [],vs,n,h=>by simp only [Reps] at h; subst h; simp [Reps]
 | d :: ds,vs,0,h=>by simp [Reps]
 | d :: ds,vs,n + 1,h=>by
  simp only [Reps] at h
  obtain ⟨v,r,rfl,h1,h2⟩:=h
  simp only [List.take_succ_cons,Reps]
  exact ⟨v,_,rfl,h1,reps_take n h2⟩
theorem zO {t1 t2:TT} {σ:St} {H:Hp} {Q:Bool->Hp->Prop} (q:Q true H) (f:Q true H->tOr t1 t2 σ H Q):tOr t1 t2 σ H Q:=f q
theorem qw {K:PySem.W.Frag} {g:Addr} {us:List V} {lo hi:Option Int} {H:Hp} {Q:VK} (hg:H g=some (.tup us)) (k:∀ H' p,ad H H'->H' p=some (.tup (aJ us lo hi))->Q (.ref p) H'):AV K (.ref g) lo hi H Q:=
 ⟨g,us,rfl,SqT.of hg,fun e=>k H g (ad.refl _) (by rw [e]; exact hg),fun p hp=>k _ p (ac hp _) aa⟩
def yF (d:Dv):Prop:=∃ (p:Wd) (ds:List Dv),p∈WT/\d=.tup (.str p.1 :: ds)/\F2 (Fld (fun _=>True) (fun _ _=>True)) p.2.2 ds
theorem sA {H:Hp} {ds:List Dv} {vs:List V} (h:Reps H ds vs) {i:Nat} {d:Dv} (hd:ds[i]?=some d):∃ v,vs[i]?=some v/\Rep H d v:=by
 have l:=h.length
 have hi:i < vs.length:=by rw [l]; exact (π.mp hd).1
 obtain ⟨e,he,r⟩:=h.get (Ζ hi)
 rw [hd] at he
 cases he
 exact ⟨_,Ζ hi,r⟩
theorem cJ {H:Hp} {d:Dv} {ds:List Dv} {vs:List V} (h:Reps H (d :: ds) vs):∃ v ws,vs=v :: ws/\Rep H d v/\Reps H ds ws:=by simpa only [Reps] using h
def jJ {f:Nat->V} {n:Nat} {g:TG} {tb:TS} {D:bV} {σ:St} {H:Hp} (Pv:Nat->St->Hp->Prop) (h0:Pv 0 σ H)
  (hs:∀ i σ H (D':bV),(∀ σ' H',Pv (i + 1) σ' H'->D'.nx σ' H')->i < n->Pv i σ H->g (f i) σ H fun σ2 H2=>tb D' σ2 H2) (hd:∀ σ H,Pv n σ H->D.nx σ H):=wG (f:=f) (n:=n) (g:=g) (tb:=tb) (D:=D) (σ:=σ) (H:=H) Pv h0 (fun i σ H hi p=>hs i σ H _ (fun _ _ h=>h) hi p) hd
def gH {lo:Int} {n:Nat} {g:TG} {tb:TS} {D:bV} {σ:St} {H:Hp} (Pv:Nat->St->Hp->Prop) (h0:Pv 0 σ H)
  (hs:∀ i σ H (D':bV),(∀ σ' H',Pv (i + 1) σ' H'->D'.nx σ' H')->i < n->Pv i σ H->g (.int (lo + i)) σ H fun σ2 H2=>tb D' σ2 H2) (hd:∀ σ H,Pv n σ H->D.nx σ H):=jY (lo:=lo) (n:=n) (g:=g) (tb:=tb) (D:=D) (σ:=σ) (H:=H) Pv h0 (fun i σ H hi p=>hs i σ H _ (fun _ _ h=>h) hi p) hd
def gT {K:PySem.W.Frag} {a b:Addr} {xs ys:List V} {g:TG} {tb:TS} {D:bV} {σ:St} {H:Hp} (Pv:Nat->St->Hp->Prop) (h0:Pv 0 σ H) (hl:∀ i σ H,Pv i σ H->SqT K H a xs/\SqT K H b ys)
  (hs:∀ i x y σ H p (D':bV),(∀ v H,D.rt v H->D'.rt v H)->(∀ σ' H',Pv (i + 1) σ' H'->D'.nx σ' H')->xs[i]?=some x->ys[i]?=some y->Pv i σ H->H p=none->g (.ref p) σ (upd H p (.tup [x,y])) fun σ2 H2=>tb D' σ2 H2) (hd:∀ σ H,Pv (min xs.length ys.length) σ H->D.nx σ H):=
 rG (K:=K) (a:=a) (b:=b) (xs:=xs) (ys:=ys) (g:=g) (tb:=tb) (D:=D) (σ:=σ) (H:=H) Pv h0 hl (fun i x y σ H p hx hy q hp=>hs i x y σ H p _ (fun _ _ h=>h) (fun _ _ h=>h) hx hy q hp) hd
theorem mH {c:TT} {tb:TS} {D:bV} {σ:St} {H:Hp} (Pv:Nat->St->Hp->Prop) (m:Nat) (h0:Pv m σ H)
  (hs:∀ m σ H (D':bV),(∀ v H,D.rt v H->D'.rt v H)->(∀ m' σ' H',m' < m->Pv m' σ' H'->D'.nx σ' H')->Pv m σ H->c σ H fun b H1=>if b=true then tb D' σ H1 else D.nx σ H1)
  (mono:∀ σ H Q Q',(∀ b H1,Q b H1->Q' b H1)->c σ H Q->c σ H Q'):pR c tb D σ H:=
 qu Pv m h0 (fun m σ H p=>hs m σ H _ (fun _ _ h=>h) (fun m' _ _ l q=>⟨m',l,q⟩) p) mono
end XB
namespace L2.EX
open PySem PySem.Spec PyProof.Rows PySem.W
section
variable {P:Β} {w:Ξ} {A:Φ} {R:DS->ι->Prop} {E:δ->ι->Prop} {h:Heap} {g:Array BU} {d:Et} {t:Nat} {os:DV}
variable {nm q:Str} {C N:Addr} {bs bm:List δ} {hdct:Bool} {sn:List Str} {sub:List δ} {ab:Bool} {col:Option Bool} {dd:Option Addr} {k0 k1 k2 k3 k5:Option δ} {B newId inN:String} {bmN:List δ}
structure bh (B:String) (bm:List δ):Prop where
 is:bm.contains (.type B)=true
 attr:bm.contains (.type "AttributeError")=false
 name:bm.contains (.type "NameError")=false
theorem bh.up {X:String} {b:Bool} {a:Addr} (e:bm.contains (.type X)=b):(Η a :: bm).contains (.type X)=b:=by
 rw [Du,e]; cases b <;> rfl
def eU (C:Addr) (t:Addr):Obj:={ cls:=.ref C,data:=.fields #[.ref t,.none,.none,.none,.bool false,.none] }
def jH (vs:List δ):Obj:={ cls:=.type "tuple",data:=.seq vs.toArray }
theorem zC (F:Da B newId inN bmN) (O:bh B bm) {vs:List δ} (hC:h.get? C=some (excClassObj nm q C N bs bm hdct sn sub ab col dd k0 k1 k2 k3 k5 newId)) (hv:vs.length<=sizeLine)
  (hq:R (.ok (.ret (.ref (h.objs.size + 1)))) ⟨(h.push (jH vs)).push (eU C h.objs.size),g,d,t,os⟩) :
  codeAny (model P w) A (.builtin newId ⟨.ref C :: vs,[]⟩) R ⟨h,g,d,t,os⟩:=by
 have e1:=F.ends
 have b1:=bh.up (a:=C) O.is
 have b2:=bh.up (a:=C) O.attr
 have b3:=bh.up (a:=C) O.name
 refine codeAny_builtinAt F.entry ?_
 unfold Ϣ.«BaseException.__new__»
 refine PySem.wpAt_bind ?_
 show PySem.wpAt _ _ _ (stack >>= _) _ _ _
 refine PySem.wpAt_bind (PySem.wpAt_stack fun p below=>PySem.wpAt_of_wpAny ?_)
 wp_walk
 refine PySem.wpAt_of_wpAny ?_
 rw [F.owner]
 repeat (first
  | with_reducible refine wpAny_madeHere_exc F.canon hC ?_
  | with_reducible refine Ν hC ?_
  | (with_reducible refine ϥ hC ?_; first | rw [b1] | rw [b2] | rw [b3])
  | wp_step)
 show R _ _
 rw [ϟ]
 exact hq
theorem kL (F:Da B newId inN bmN) (O:bh B bm) {vs:List δ} {Q:Unit->ι->Prop} (hC:h.get? C=some (excClassObj nm q C N bs bm hdct sn sub ab col dd k0 k1 k2 k3 k5 newId)) (hq:Q () ⟨h,g,d,t,os⟩) :
  wpAny (model P w) A (checkBuiltinCall newId ⟨.ref C :: vs,[]⟩) Q E ⟨h,g,d,t,os⟩:=by
 have b1:=bh.up (a:=C) O.is
 have e1:=F.noStar
 simp only [checkBuiltinCall,F.newKind,F.newSplit,F.newRow]
 repeat (first
  | refine Ν hC ?_
  | (refine ϥ hC ?_; rw [b1])
  | refine wpAny_staticBase_exc hC ?_
  | refine wpAny_madeBy_exc hC ?_
  | simp only [bne_self_eq_false,Dm,if_false]
  | wp_step)
 exact hq
end
section
variable {P:Β} {w:Ξ} {A:Φ} {E:δ->ι->Prop} {h:Heap} {g:Array BU} {d:Et} {t:Nat} {os:DV}
variable {nm q:Str} {C N fI:Addr} {bs bm:List δ} {hdct:Bool} {sn:List Str} {sub:List δ} {ab:Bool} {col:Option Bool} {dd:Option Addr} {k0 k1 k2 k3 k5:Option δ} {B newId inN:String} {bmN:List δ}
theorem wZ (F:Da B newId inN bmN) (O:bh B bm) {vs:List δ} {oI:Obj} {Q:δ->ι->Prop} (hC:h.get? C=some (excClassObj nm q C N bs bm hdct sn sub ab col dd k0 k1 k2 k3 k5 newId)) (hv:vs.length<=sizeLine) (hfI:h.get? fI=some oI) (hfc:oI.cls=.type "function")
  (look:∀ {A:Φ} {E:δ->ι->Prop} {Q:Option δ->ι->Prop} {s:ι},(∀ b o,h.get? b=some o->s.heap.get? b=some o)->Q (some (.ref fI)) s->wpAny (model P w) A (typeLookup (.ref C) "__init__") Q E s)
  (hq:wpAny (model P w) (A.under (.builtin "type.__call__" ⟨.ref C :: vs,[]⟩)) (call (.ref fI) (.ref (h.objs.size + 1) :: vs)) (fun r s'=>r=.none/\Q (.ref (h.objs.size + 1)) s') E ⟨(h.push (jH vs)).push (eU C h.objs.size),g,d,t,os⟩) :
  wpAny (model P w) A (call (.ref C) vs) Q E ⟨h,g,d,t,os⟩:=by
 have f1:=tc_lookup
 have f2:=tc_bind (.ref C)
 have hT:(⟨h,g,d,t,os⟩:ι).TypeIs (.ref C) "type":=⟨_,hC,rfl⟩
 have kp:∀ b o,h.get? b=some o->((h.push (jH vs)).push (eU C h.objs.size)).get? b=some o:=fun b o e=>ν _ (ν _ e)
 have hC1:=kp _ _ hC
 have hI1:=kp _ _ hfI
 have hg:((h.push (jH vs)).push (eU C h.objs.size)).get? (h.objs.size + 1)=some (eU C h.objs.size):=Heap.get?_push_at (by simp only [ϟ]) rfl
 have hcC:(Η C :: bm).contains (.ref C)=true:=by simp
 refine CA (CZ ?_)
 show wpAny _ _ (callAny (.ref C) _) _ _ _
 repeat (any_goals (first | assumption | with_reducible refine Ν hC ?_ | wp_step))
 refine ⟨rfl,codeAny_call_builtin_at (y_ _ (by decide +kernel)) entry_typeCall (wpAny_check_type_call_sub hC ?_)⟩
 repeat (first | with_reducible refine Ν hC ?_ | with_reducible refine wpAny_madeBy_exc hC ?_ | wp_step)
 refine codeAny_call_builtin_code (y_ _ F.quiet) (kL F O hC (zC F O hC hv ?_))
 show wpAny _ _ _ _ _ _
 unfold isInstance
 unfold eU at hg
 repeat (first | with_reducible refine Ν hg ?_ | wp_step)
 refine ϥ hC1 ?_
 rw [hcC]
 repeat (first | with_reducible refine Ν hg ?_ | wp_step)
 show wpAny _ _ (typeLookup (.ref C) _) _ _ _
 refine look kp ?_
 refine a7 (γ ?_)
 unfold bindSpecial
 refine γ (C8 (T:="function") ⟨_,hI1,hfc⟩ ?_)
 rw [if_pos (by decide)]
 refine ξ (γ (c9 hq (fun r s' hr=>?_) fun _ _ x=>x))
 obtain ⟨rfl,hQ⟩:=hr
 wp_walk
 exact hQ
end
end L2.EX
namespace L2.EX
open PySem PySem.Spec PyProof.Rows PySem.W
section
variable {P:Β} {w:Ξ} {A:Φ} {E:δ->ι->Prop} {h:Heap} {g:Array BU} {d:Et} {t:Nat} {os:DV}
variable {nm q:Str} {C N fI:Addr} {bs bm:List δ} {hdct:Bool} {sn:List Str} {sub:List δ} {ab:Bool} {col:Option Bool} {dd:Option Addr} {k0 k1 k2 k3 k5:Option δ} {B newId nid initId:String} {bmB:List δ}
theorem jg (F:Da B nid initId bmB) (O:bh B bm) {e:Addr} {oe:Obj} {vs:List δ} {Q:Unit->ι->Prop} (hC:h.get? C=some (excClassObj nm q C N bs bm hdct sn sub ab col dd k0 k1 k2 k3 k5 newId)) (he:h.get? e=some oe) (hc:oe.cls=.ref C) (hq:Q () ⟨h,g,d,t,os⟩) :
  wpAny (model P w) A (checkBuiltinCall initId ⟨.ref e :: vs,[]⟩) Q E ⟨h,g,d,t,os⟩:=by
 have b1:=bh.up (a:=C) O.is
 have e1:=F.noStar
 simp only [checkBuiltinCall,F.initKind,F.initSplit,F.initRow]
 repeat (first
  | (with_reducible refine Ν he ?_; rw [hc])
  | with_reducible refine Ν hC ?_
  | (with_reducible refine ϥ hC ?_; rw [b1])
  | wp_step)
 refine CM ?_
 have z:∀ (a b:String) (n:Nat),Bind.check ⟨.positional,"*",B,.self,[⟨"args",.varPos,false⟩]⟩ a b n (Ee (fun x=>x.fst) ({ pos:=Η e :: vs }:Args).kw)=pure ():=fun a b n=>check_star_args _ _ _ _ _ _
 rw [z]
 exact ξ hq
def flE (a:Addr):Data:=.fields #[.ref a,.none,.none,.none,.bool false,.none]
theorem xP (F:Da B nid initId bmB) (O:bh B bm) {e a0:Addr} {oe:Obj} {vs:List δ} {Q:δ->ι->Prop} (hC:h.get? C=some (excClassObj nm q C N bs bm hdct sn sub ab col dd k0 k1 k2 k3 k5 newId)) (he:h.get? e=some oe) (hc:oe.cls=.ref C) (hd:oe.data=flE a0) (hv:vs.length<=sizeLine)
  (hq:∀ h',(∀ b o,b≠e->h.get? b=some o->h'.get? b=some o)->h'.get? e=some { oe with data:=flE h.objs.size }->h'.get? h.objs.size=some (jH vs)->Q .none ⟨h',g,d,t,os⟩) :
  wpAny (model P w) A (call (.builtin initId) (.ref e :: vs)) Q E ⟨h,g,d,t,os⟩:=by
 obtain ⟨oc,od,odt,os'⟩:=oe
 simp only at hc hd
 subst hc; subst hd
 unfold flE at he
 refine CA (i9 F.init.plain F.initEntry (jg F O hC he rfl ?_))
 wp_walk
 refine hq _ (fun b o hb z=>?_) ?_ ?_
 ·rw [ύ _ _ (ϊ hb)]
  exact ν _ z
 ·rw [Ϝ _ (ν _ he) rfl]
  rfl
 ·rw [ύ _ _ (Τ (υ he))]
  exact Γ _ rfl
end
end L2.EX
namespace L2.EX
open PySem PySem.Spec PyProof.Rows PySem.W
theorem Bm {α:Type} {M:Eb} {A:Φ} {E:δ->ι->Prop} {s:ι} {c:Prop} [Decidable c] {x y:Sem α} {Q:α->ι->Prop} (h1:c->wpAny M A x Q E s) (h2:¬ c->wpAny M A y Q E s):wpAny M A (if c then x else y) Q E s:=by
 split
 ·next h=>exact h1 h
 ·next h=>exact h2 h
section
variable {P:Β} {w:Ξ} {A:Φ} {E:δ->ι->Prop} {h:Heap} {g:Array BU} {d:Et} {t:Nat} {os:DV}
variable {nm q:Str} {C D N x:Addr} {bs bmB:List δ} {sn:List Str} {sub:List δ} {ab:Bool} {col:Option Bool} {dd:Option Addr} {k0 k1 k2 k3 k5:Option δ} {B newId sa owner:String} {name:Str} {v:δ} {tk:Tok}
def bM (P:Β) (w:Ξ) (h:Heap) (C:Addr) (name:Str) (y:Option δ):Prop:=
 ∀ {A:Φ} {E:δ->ι->Prop} {Q:Option δ->ι->Prop} {s:ι},(∀ b o,h.get? b=some o->s.heap.get? b=some o)->Q y s->wpAny (model P w) A (typeLookup (.ref C) name) Q E s
theorem nW (SF:StoreFacts B bmB sa owner) {Q:Fin->ι->Prop} {o:Obj} (hC:h.get? C=some (excClassObj nm q C N bs (.ref D :: bmB) true sn sub ab col dd k0 k1 k2 k3 k5 newId)) (hl:bM P w h C name none) (hx:h.get? x=some o) (hc:o.cls=.ref C) {a0:Addr} (hdt:o.data=flE a0) (hdn:o.dict=none)
  (hq:∀ h' tk',(∀ b o,b≠x->h.get? b=some o->h'.get? b=some o)->h'.get? x=some { o with dict:=some h.objs.size }->h'.Ns1 h.objs.size (fun y=>if y=name then some v else none)->Q (.done (.ret .none)) ⟨h',g,d,tk',os⟩) :
  wpAny (model P w) A (Ϣ.«object.__setattr__» ⟨[.ref x,.str name tk,v],[]⟩) Q E ⟨h,g,d,t,os⟩:=by
 have hpass:=SF.passes (.ref x)
 obtain ⟨oc,od,odt,osl⟩:=o
 simp only at hc hdt hdn
 subst hc
 unfold Ϣ.«object.__setattr__»
 repeat (first
  | rw [refuse_eq]
  | (rw [refuseLoop_ref,refuseLoop_ref,hpass])
  | with_reducible refine Ν hx ?_
  | with_reducible refine wpAny_mroOf_exc hC ?_
  | wp_step)
 refine hl (fun _ _ z=>z) ?_
 repeat (first | with_reducible refine Ν hx ?_ | wp_step)
 subst hdt; subst hdn
 dsimp only [flE]
 have nx:x≠h.objs.size:=Τ (υ hx)
 have hx1:=ν { cls:=.type "dict",data:=.dict #[] } hx
 refine Bm (fun z=>absurd z (by simp [typeHasDict])) fun _=>?_
 refine γ (wpAny_alloc' (γ (wpAny_update' hx1 (ξ ?_))))
 have gd:((h.push { cls:=.type "dict",data:=.dict #[] }).update x fun o=>{ cls:=o.cls,dict:=some h.objs.size,data:=o.data,slots:=o.slots }).get? h.objs.size=some { cls:=.type "dict",data:=.dict #[] }:=by
  rw [ύ _ _ nx]
  exact Γ _ rfl
 have gx:((h.push { cls:=.type "dict",data:=.dict #[] }).update x fun o=>{ cls:=o.cls,dict:=some h.objs.size,data:=o.data,slots:=o.slots }).get? x=some { cls:=.ref C,dict:=some h.objs.size,data:=flE a0,slots:=osl }:=Ϝ _ hx1 rfl
 have go:∀ b o,b≠x->h.get? b=some o->((h.push { cls:=.type "dict",data:=.dict #[] }).update x fun o=>{ cls:=o.cls,dict:=some h.objs.size,data:=o.data,slots:=o.slots }).get? b=some o:=fun b o hb z=>by
  rw [ύ _ _ (ϊ hb)]
  exact ν _ z
 generalize ((h.push { cls:=.type "dict",data:=.dict #[] }).update x fun o=>{ cls:=o.cls,dict:=some h.objs.size,data:=o.data,slots:=o.slots })=h1 at gd gx go ⊢
 have hnd:h1.Ns h.objs.size (fun _=>none):=⟨_,#[],_,gd,rfl,fun e he=>absurd he (by simp),fun _=>rfl⟩
 show wpAny _ _ (CI h.objs.size (.str name tk) name v) _ _ _
 unfold CI Ϣ.ObjectAttr.newKeyGuard
 refine γ (ξ (γ (wpAny_nsSet1 (Heap.Ns1.of_empty hnd) fun h' hn' hs=>?_)))
 obtain ⟨oD,esD,epD,hoD,hdD,hcD⟩:=hn'.count (Within.cons name v Within.nil)
 refine γ (wpAny_lookBehind hoD (by rw [hdD]; exact pastItsLine_dict (ϔ hcD (by rw [ψ]; show 1<=_; omega))) ?_)
 wp_walk
 refine hq h' _ (fun b o hb z=>?_) ((hs.2 x nx).trans gx) ?_
 ·exact (hs.2 b (Τ (υ z))).trans (go b o hb z)
 ·obtain ⟨o',es,ep,e1,e2,e3,eu,e4⟩:=hn'
  exact ⟨o',es,ep,e1,e2,e3,eu,fun y=>by rw [e4 y]⟩
end
end L2.EX
namespace L2.EX
open PySem PySem.Spec PyProof.Rows PySem.W
section
variable {P:Β} {w:Ξ} {A:Φ} {E:δ->ι->Prop} {h:Heap} {g:Array BU} {d:Et} {t:Nat} {os:DV}
variable {nm q:Str} {C D N x:Addr} {bs bmB:List δ} {sn:List Str} {sub:List δ} {ab:Bool} {col:Option Bool} {dd:Option Addr} {k0 k1 k2 k3 k5:Option δ} {B newId sa owner:String} {name:Str} {v:δ}
theorem ku (SF:StoreFacts B bmB sa owner) {o:Obj} {u:δ} {Q:Unit->ι->Prop} (hC:h.get? C=some (excClassObj nm q C N bs (.ref D :: bmB) true sn sub ab col dd k0 k1 k2 k3 k5 newId)) (hx:h.get? x=some o) (hc:o.cls=.ref C) (hq:Q () ⟨h,g,d,t,os⟩) :
  wpAny (model P w) A (checkBuiltinCall sa ⟨[.ref x,u,v],[]⟩) Q E ⟨h,g,d,t,os⟩:=by
 have b1:=bh.up (a:=C) (bh.up (a:=D) SF.hasOwner)
 have ha:=SF.args (.ref x) u v
 simp only [checkBuiltinCall,SF.kind,SF.split]
 refine γ ?_
 unfold isInstance
 repeat (first
  | (with_reducible refine Ν hx ?_; rw [hc])
  | (with_reducible refine ϥ hC ?_; rw [b1])
  | wp_step)
 cases hsig:Manifest.signature? sa with
 | none=>exact ξ hq
 | some sig=>
  simp only [argsOk,hsig] at ha
  have e2:Bind.checkArgs sa sig ⟨[.ref x,u,v],[]⟩=pure ():=ha
  show wpAny (model P w) A (Bind.checkArgs sa sig ⟨[.ref x,u,v],[]⟩) Q E _
  rw [e2]; exact ξ hq
theorem sy (SF:StoreFacts B bmB sa owner) {Q:Unit->ι->Prop} {o:Obj} (hC:h.get? C=some (excClassObj nm q C N bs (.ref D :: bmB) true sn sub ab col dd k0 k1 k2 k3 k5 newId)) (hs:bM P w h C "__setattr__" (some (.builtin sa))) (hl:bM P w h C name none) (hx:h.get? x=some o) (hc:o.cls=.ref C) {a0:Addr} (hdt:o.data=flE a0) (hdn:o.dict=none)
  (hq:∀ h' tk',(∀ b o,b≠x->h.get? b=some o->h'.get? b=some o)->h'.get? x=some { o with dict:=some h.objs.size }->h'.Ns1 h.objs.size (fun y=>if y=name then some v else none)->Q () ⟨h',g,d,tk',os⟩) :
  wpAny (model P w) A (setAttr (.ref x) name v) Q E ⟨h,g,d,t,os⟩:=by
 have f3:=SF.slot.bind (.ref x)
 unfold setAttr callSpecial? specialOf
 repeat (any_goals (first | assumption | (with_reducible refine Ν hx ?_; rw [hc]) | wp_step))
 refine hs (fun _ _ z=>z) ?_
 repeat (any_goals (first | assumption | wp_step))
 refine i9 SF.slot.plain SF.entry (ku SF hC hx hc (nW SF hC hl hx hc hdt hdn fun h' tk' k1 k2 k3=>?_))
 repeat (any_goals (first | assumption | wp_step))
 exact hq h' tk' k1 k2 k3
end
end L2.EX
namespace L2.EX
open PySem PySem.Spec PyProof.Rows PySem.W
section
variable {P:Β} {w:Ξ} {A:Φ} {E:δ->ι->Prop} {h:Heap} {g:Array BU} {d:Et} {t:Nat} {os:DV}
variable {nm q:Str} {C D N x dx a0:Addr} {bs bmB:List δ} {sn:List Str} {sub:List δ} {ab:Bool} {col:Option Bool} {dd:Option Addr} {k0 k1 k2 k3 k5:Option δ} {B newId:String} {name:Str} {v:δ} {tk:Tok} {mA:Str->Option δ} {sl:Array (Option δ)} {ws:Array δ}
theorem fm (FB:DE B bmB) {o:Obj} {u:δ} {Q:Unit->ι->Prop} (hC:h.get? C=some (excClassObj nm q C N bs (.ref D :: bmB) true sn sub ab col dd k0 k1 k2 k3 k5 newId)) (hx:h.get? x=some o) (hc:o.cls=.ref C) (hq:Q () ⟨h,g,d,t,os⟩) :
  wpAny (model P w) A (checkBuiltinCall "BaseException.__getattribute__" ⟨[.ref x,u],[]⟩) Q E ⟨h,g,d,t,os⟩:=by
 have e1:builtinKind "BaseException.__getattribute__"=some .slot:=by decide +kernel
 have e2:splitId "BaseException.__getattribute__"=some ("BaseException","__getattribute__"):=by decide +kernel
 have b1:=bh.up (a:=C) (bh.up (a:=D) FB.hasBase)
 have ha:=F.args_bexc_ga (.ref x) u
 simp only [checkBuiltinCall,e1,e2]
 refine γ ?_
 unfold isInstance
 repeat (first
  | (with_reducible refine Ν hx ?_; rw [hc])
  | (with_reducible refine ϥ hC ?_; rw [b1])
  | wp_step)
 exact hq
theorem sF {Q:Fin->ι->Prop} (hC:h.get? C=some (excClassObj nm q C N bs (.ref D :: bmB) true sn sub ab col dd k0 k1 k2 k3 k5 newId)) (hl:bM P w h C name none) (hx:h.get? x=some { cls:=.ref C,dict:=some dx,data:=.fields ws,slots:=sl }) (hn:h.Ns1 dx mA) (hv:mA name=some v) (hq:Q (.done (.ret v)) ⟨h,g,d,t,os⟩) :
  wpAny (model P w) A (Ϣ.«object.__getattribute__» ⟨[.ref x,.str name tk],[]⟩) Q E ⟨h,g,d,t,os⟩:=by
 unfold Ϣ.«object.__getattribute__»
 repeat (first | with_reducible refine Ν hx ?_ | wp_step)
 show wpAny _ _ (typeLookup (.ref C) name) _ _ _
 refine hl (fun _ _ z=>z) ?_
 repeat (first | (with_reducible refine wpAny_nsGet hn.ns ?_; rw [hv]) | with_reducible refine Ν hx ?_ | with_reducible refine Ν hC ?_ | wp_step)
 exact hq
theorem yP (FB:DE B bmB) {expr:Bool} {Q:δ->ι->Prop} (hC:h.get? C=some (excClassObj nm q C N bs (.ref D :: bmB) true sn sub ab col dd k0 k1 k2 k3 k5 newId)) (hg:bM P w h C "__getattribute__" (some (.builtin "BaseException.__getattribute__"))) (hh:bM P w h C "__getattr__" none) (hl:bM P w h C name none)
  (hx:h.get? x=some { cls:=.ref C,dict:=some dx,data:=.fields ws,slots:=sl }) (hn:h.Ns1 dx mA) (hv:mA name=some v) (ho:handedOut v=pure v) (hq:Q v ⟨h,g,d,t + 1,os⟩) :
  wpAny (model P w) A (getAttr (.ref x) name expr) Q E ⟨h,g,d,t,os⟩:=by
 have f3:=FB.ga.bind (.ref x)
 have z0:(expr && onTheHeap (n5 "BaseException.__getattribute__"))=false:=by cases expr <;> rfl
 have z2:(n5 "BaseException.__getattribute__" == n5 "object.__getattribute__")=false:=by decide +kernel
 have z1:(onTheHeap (Η C) && n5 "BaseException.__getattribute__" == n5 "object.__getattribute__")=false:=by rw [z2]; rfl
 unfold getAttr getAttrBy
 repeat (any_goals (first | assumption | with_reducible refine Ν hx ?_ | wp_step))
 show wpAny _ _ (typeLookup (.ref C) _) _ _ _
 refine hg (fun _ _ z=>z) ?_
 dsimp only
 rw [z1]
 repeat (any_goals (first | assumption | with_reducible refine Ν hx ?_ | wp_step))
 refine hh (fun _ _ z=>z) ?_
 repeat (any_goals (first | assumption | wp_step))
 refine i9 FB.ga.plain F.entry_bexc_ga (fm FB hC hx rfl (sF hC hl hx hn hv ?_))
 repeat (any_goals (first | assumption | (rw [ho]) | wp_step))
end
end L2.EX
namespace L2.EX
open PySem PySem.Spec PyProof.Rows PySem.W
structure Mv (fs ex:List Addr) (h h':Heap):Prop where
 keep:∀ b o,b∉fs->b∉ex->h.get? b=some o->h'.get? b=some o
 slot:∀ b o,b∉ex->h.get? b=some o->∃ sl,h'.get? b=some { o with slots:=sl }
theorem Mv.trans {fs ex:List Addr} {h h1 h2:Heap} (a:Mv fs ex h h1) (b:Mv fs ex h1 h2):Mv fs ex h h2:=
 ⟨fun c o n1 n2 e=>b.keep c o n1 n2 (a.keep c o n1 n2 e),fun c o n e=>by
  obtain ⟨sl,e1⟩:=a.slot c o n e
  obtain ⟨sl',e2⟩:=b.slot c _ n e1
  exact ⟨sl',e2⟩⟩
theorem Mv.mono {fs fs' ex ex':List Addr} {h h':Heap} (a:Mv fs ex h h') (s1:∀ b∈fs,b∈fs') (s2:∀ b∈ex,b∈ex'):Mv fs' ex' h h':=
 ⟨fun c o n1 n2 e=>a.keep c o (fun z=>n1 (s1 c z)) (fun z=>n2 (s2 c z)) e,fun c o n e=>a.slot c o (fun z=>n (s2 c z)) e⟩
theorem Mv.hok {P:Β} {w:Ξ} {fs ex:List Addr} {H:Hp} {h h':Heap} (m:Mv fs ex h h') (x:HOk P w H h) (hf:∀ b∈fs,H b=none) (hx:∀ b∈ex,H b=none):HOk P w H h':=fun a o e=>
 (x a o e).stay (fun b u hb q=>m.keep b u (fun z=>by
   have:=hf b z
   rcases hb with rfl | hb
   ·rw [e] at this; cases this
   ·rw [hb] at this; cases this) (fun z=>by
   have:=hx b z
   rcases hb with rfl | hb
   ·rw [e] at this; cases this
   ·rw [hb] at this; cases this) q) (fun _ q=>q) fun _ _ q=>q
theorem Mv.un {fs fs' ex ex':List Addr} {H H':Hp} {h h1 h2:Heap} (m:Mv fs' ex' h1 h2) (u:Un fs ex H H' h h1) (hf:∀ b∈fs',b∈fs\/h.get? b=none) (hx:∀ b∈ex',h.get? b=none):Un fs ex H H' h h2 where
 keep:=fun b o q n h1' h2'=>m.keep b o (fun z=>(hf b z).elim h1' fun y=>by rw [q] at y; cases y) (fun z=>by have y:=hx b z; rw [q] at y; cases y) (u.keep b o q n h1' h2')
 slot:=fun b o q n h1' h2'=>by
  obtain ⟨sl,e⟩:=u.slot b o q n h1' h2'
  obtain ⟨sl',e2⟩:=m.slot b _ (fun z=>by have y:=hx b z; rw [q] at y; cases y) e
  exact ⟨sl',e2⟩
 free:=u.free
 there:=fun b o q n=>by
  obtain ⟨o',e⟩:=u.there b o q n
  obtain ⟨sl,e2⟩:=m.slot b o' (fun z=>by have y:=hx b z; rw [q] at y; cases y) e
  exact ⟨_,e2⟩
 tups:=u.tups
 frzs:=u.frzs
 tbls:=u.tbls
structure Exo (h:Heap) (e T:Addr) (cls:δ) (dx:Option Addr) (fl:δ):Prop where
 obj:∃ oe vs,h.get? e=some oe/\oe.cls=cls/\oe.dict=dx/\oe.data=.fields vs/\vs[1]?=some (.ref T)/\vs[2]?=some .none
 tb:∃ oT ts,h.get? T=some oT/\oT.data=.fields ts/\ts[3]?=some fl
 ne:T≠e
def Exn (h:Heap) (e:Addr) (cls:δ) (dx:Option Addr):Prop:=∃ oe vs,h.get? e=some oe/\oe.cls=cls/\oe.dict=dx/\oe.data=.fields vs/\vs[1]?=some .none/\vs[2]?=some .none
section
variable {M:Eb} {A:Φ} {E:δ->ι->Prop} {s:ι} {base:Heap} {env:Env} {outer:List Env} {L e T:Addr} {cls:δ} {dx:Option Addr}
theorem mG {oe:Obj} {vs:Array δ} {head:δ} {hadNext:Bool} {Q:Unit->ι->Prop} (hfr:A.frames=some (env :: outer)) (hl:s.heap.FunFrames base (env :: outer)) (hf:env.frame=some L)
  (he:s.heap.get? e=some oe) (hc:oe.cls=cls) (hdx:oe.dict=dx) (hd:oe.data=.fields vs) (hsz:1 < vs.size) (h2:vs[2]?=some .none)
  (h:∀ h' T,s.heap.objs.size<=T->Mv (frs (env :: outer)) [e] s.heap h'->Exo h' e T cls dx (rawInt L)->Q () { s with heap:=h' }) :
  wpAny M A (do let a <- frameOf env; let pl <- entryPlaceOf L hadNext; let b <- EntryCells.newEntry head a .none (rawInt L) .none pl; setField (.ref e) 1 b) Q E s:=by
 have hene:e∉frs (env :: outer):=fun hm=>by
  obtain ⟨_,o,ho,hnf⟩:=hl.mem hm
  rw [he] at ho; cases ho; exact hnf vs hd
 refine γ (wpAny_frameOf_fun hfr hl hf fun h₁ hs=>γ (wpAny_entryPlaceOf fun pl hpl=>?_))
 unfold EntryCells.newEntry newFields
 refine γ (ϖ ?_ (hpl.sizeOk5 _ _ _ _ _))
 have e1:h₁.get? e=some oe:=(hs.2.1 e hene).trans he
 generalize ho:({ cls:=.type "traceback",dict:=none,data:=.fields ([head,.ref L,.none,rawInt L,.none] ++ (if pl.isEmpty then χ 6 Ϭ else pl)).toArray }:Obj)=oT
 have e2:=ν (h:=h₁) oT e1
 have nT:h₁.objs.size≠e:=i5 (υ e1)
 have d3:=z_ hd (·.setIfInBounds 1 (Η h₁.objs.size))
 refine B4 e2 hd hsz (h _ h₁.objs.size (by rw [hs.1]; exact τ _) ⟨fun b o n1 n2 z=>?_,fun b o n z=>?_⟩ ⟨⟨_,_,Ϝ _ e2 (Cw d3),by rw [Obj.cls_mapFields]; exact hc,?_,d3,by simp [hsz],by rw [Array.getElem?_setIfInBounds_ne (by decide)]; exact h2⟩,⟨oT,_,?_,by rw [<- ho],?_⟩,nT⟩)
 ·rw [ύ _ _ (fun q=>n2 (by rw [<- q]; simp))]
  exact ν _ ((hs.2.1 b n1).trans z)
 ·obtain ⟨sl,q⟩:=hs.2.2 b o z
  refine ⟨sl,?_⟩
  rw [ύ _ _ (fun q=>n (by rw [<- q]; simp))]
  exact ν _ q
 ·rw [<- hdx]; obtain ⟨c1,c2,c3,c4⟩:=oe; cases c3 <;> rfl
 ·rw [ύ _ _ (ϊ nT)]
  exact Γ _ (by rw [<- ho]; rfl)
 ·first | (simp; done) | (rcases hpl with rfl | ⟨_,_,_,_,_,_,_,rfl⟩ <;> simp)
theorem pO {Q:Unit->ι->Prop} (hfr:A.frames=some (env :: outer)) (hl:s.heap.FunFrames base (env :: outer)) (hf:env.frame=some L) (x:Exn s.heap e cls dx)
  (h:∀ h' T,s.heap.objs.size<=T->Mv (frs (env :: outer)) [e] s.heap h'->Exo h' e T cls dx (rawInt L)->Q () { s with heap:=h' }):wpAny M A (noteFrame (.ref e) env) Q E s:=by
 obtain ⟨oe,vs,he,hc,hdx,hd,h1,h2⟩:=x
 unfold noteFrame
 simp only [hf]
 refine γ (ϣ he hd h1 ?_)
 rw [if_neg (by decide)]
 exact mG hfr hl hf he hc hdx hd (r6.mp h1).1 h2 h
theorem jD {Q:Unit->ι->Prop} (hfr:A.frames=some (env :: outer)) (hl:s.heap.FunFrames base (env :: outer)) (hf:env.frame=some L) (x:Exo s.heap e T cls dx .none)
  (h:∀ h' T',s.heap.objs.size<=T'->Mv (frs (env :: outer)) [e,T] s.heap h'->Exo h' e T' cls dx (rawInt L)->Q () { s with heap:=h' }):wpAny M A (noteFrame (.ref e) env) Q E s:=by
 obtain ⟨⟨oe,vs,he,hc,hdx,hd,h1,h2⟩,⟨oT,ts,hT,hdT,h3⟩,ne⟩:=x
 unfold noteFrame
 simp only [hf]
 refine γ (ϣ he hd h1 ?_)
 rw [if_pos (by simp)]
 refine γ (ϣ hT hdT h3 ?_)
 rw [if_neg (by simp [rawInt])]
 refine γ (B4 hT hdT (r6.mp h3).1 ?_)
 have ot:∀ b,b≠T->(s.heap.update T (CN (·.setIfInBounds 3 Ϭ))).get? b=s.heap.get? b:=fun b hb=>ύ _ _ (ϊ hb)
 have m1:Mv (frs (env :: outer)) [e,T] s.heap (s.heap.update T (CN (·.setIfInBounds 3 Ϭ))):=⟨fun b o _ n z=>(ot b fun q=>n (by rw [q]; simp)).trans z,fun b o n z=>⟨o.slots,(ot b fun q=>n (by rw [q]; simp)).trans z⟩⟩
 refine mG hfr (hl.of_keeps fun b o hb hnf=>⟨o,(ot b fun q=>?_).trans hb,rfl⟩) hf ((ot e (ϊ ne)).trans he) hc hdx hd (r6.mp h1).1 h2 fun h' T' l m x=>h h' T' (by have e:=l; simpa using e) (m1.trans (m.mono (fun _ z=>z) fun b z=>θ.mpr (.inl (ε.mp z)))) x
 rw [q,hT] at hb; cases hb; exact hnf ts hdT
theorem dS {fl:δ} {Q:Unit->ι->Prop} (x:Exo s.heap e T cls dx fl) (h:∀ h',Mv [] [T] s.heap h'->Exo h' e T cls dx .none->Q () { s with heap:=h' }):wpAny M A (setFlight (.ref e) none) Q E s:=by
 obtain ⟨⟨oe,vs,he,hc,hdx,hd,h1,h2⟩,⟨oT,ts,hT,hdT,h3⟩,ne⟩:=x
 have z3:=(r6.mp h3).1
 have ot:∀ b,b≠T->(s.heap.update T (CN (·.setIfInBounds 3 Ϭ))).get? b=s.heap.get? b:=fun b hb=>ύ _ _ (ϊ hb)
 refine wpAny_setFlight_none he hd h1 hT hdT z3 (h _ ⟨fun b o _ n z=>(ot b fun q=>n (by rw [q]; simp)).trans z,fun b o n z=>⟨o.slots,(ot b fun q=>n (by rw [q]; simp)).trans z⟩⟩ ?_)
 exact ⟨⟨oe,vs,(ot e (ϊ ne)).trans he,hc,hdx,hd,h1,h2⟩,⟨_,_,Ϝ _ hT (Cw (z_ hdT _)),z_ hdT _,by simp [z3]⟩,ne⟩
theorem mY {Q:Unit->ι->Prop} (hfr:A.frames=some (env :: outer)) (hl:s.heap.FunFrames base (env :: outer)) (hf:env.frame=some L) (x:Exn s.heap e cls dx)
  (h:∀ h' T,s.heap.objs.size<=T->Mv (frs (env :: outer)) [e,T] s.heap h'->Exo h' e T cls dx .none->Q () { s with heap:=h' }):wpAny M A (leaving env (.ref e)) Q E s:=by
 unfold leaving
 refine γ (pO hfr hl hf x fun h1 T l m1 x1=>dS x1 fun h2 m2 x2=>h h2 T l ((m1.mono (fun _ z=>z) fun b z=>θ.mpr (.inl (ε.mp z))).trans (m2.mono (fun _ z=>absurd z (by simp)) fun b z=>ο _ z)) x2)
theorem ou {Q:Unit->ι->Prop} (hfr:A.frames=some (env :: outer)) (hl:s.heap.FunFrames base (env :: outer)) (hf:env.frame=some L) (x:Exo s.heap e T cls dx .none)
  (h:∀ h' T',s.heap.objs.size<=T'->Mv (frs (env :: outer)) [e,T,T'] s.heap h'->Exo h' e T' cls dx .none->Q () { s with heap:=h' }):wpAny M A (leaving env (.ref e)) Q E s:=by
 unfold leaving
 refine γ (jD hfr hl hf x fun h1 T' l m1 x1=>dS x1 fun h2 m2 x2=>h h2 T' l ((m1.mono (fun _ z=>z) fun b z=>?_).trans (m2.mono (fun _ z=>absurd z (by simp)) fun b z=>?_)) x2)
 ·rcases θ.mp z with z | z
  ·exact θ.mpr (.inl z)
  ·exact ο _ (θ.mpr (.inl (ε.mp z)))
 ·exact ο _ (ο _ z)
end
end L2.EX
namespace L2.EX
open PySem PySem.Spec PyProof.Rows PySem.W
section
variable {P:Β} {w:Ξ} {A:Φ} {E:δ->ι->Prop} {h:Heap} {g:Array BU} {d:Et} {t:Nat} {os:DV}
variable {nm q:Str} {C D N e:Addr} {bs bmB:List δ} {sn:List Str} {sub:List δ} {ab:Bool} {col:Option Bool} {dd:Option Addr} {k0 k1 k2 k3 k5:Option δ} {B newId:String} {oe:Obj}
theorem xG:(".".intercalate ("object.__class__".cutAt '.').dropLast)="object":=by decide +kernel
theorem zi {R:DS->ι->Prop} (hC:h.get? C=some (excClassObj nm q C N bs (.ref D :: bmB) true sn sub ab col dd k0 k1 k2 k3 k5 newId)) (he:h.get? e=some oe) (hc:oe.cls=.ref C) (hO:bmB.contains (.type "object")=true) (hq:R (.ok (.ret (.ref C))) ⟨h,g,d,t,os⟩) :
  codeAny (model P w) A (.call (.builtin "getset_descriptor.__get__") ⟨[.builtin "object.__class__",.ref e,.ref C],[]⟩) R ⟨h,g,d,t,os⟩:=by
 have b1:=bh.up (a:=C) (bh.up (a:=D) hO)
 have y5:(⟨h,g,d,t,os⟩:ι).TypeIs (.builtin "object.__class__") "getset_descriptor":=Cy
 have o1:=xG
 refine i9 F.slot_gs_get.plain F.entry_gs_get (F.slot_gs_get.check _ _ _ _ _ _ _ _ y5 (F.args_gs_get _ _ _) ?_)
 repeat (any_goals (first | assumption | (with_reducible refine Ν he ?_; rw [hc]) | (rw [o1]; with_reducible refine ϥ hC ?_; rw [b1]) | wp_step))
 refine ⟨y_ _ (by decide +kernel),t_ F.entry_object_class ?_⟩
 repeat (any_goals (first | assumption | (with_reducible refine Ν he ?_; rw [hc]) | wp_step))
variable {tk:Tok}
theorem uZ {Q:Fin->ι->Prop} (hC:h.get? C=some (excClassObj nm q C N bs (.ref D :: bmB) true sn sub ab col dd k0 k1 k2 k3 k5 newId)) (he:h.get? e=some oe) (hc:oe.cls=.ref C) (hO:bmB.contains (.type "object")=true) (hl:bM P w h C "__class__" (some (.builtin "object.__class__"))) (hq:Q (.done (.ret (.ref C))) ⟨h,g,d,t,os⟩) :
  wpAny (model P w) A (Ϣ.«object.__getattribute__» ⟨[.ref e,.str "__class__" tk],[]⟩) Q E ⟨h,g,d,t,os⟩:=by
 have y5:(⟨h,g,d,t,os⟩:ι).TypeIs (.builtin "object.__class__") "getset_descriptor":=Cy
 have f5:=Cy
 have f6:=F.slot_gs_get.lookup
 have f7:=F.slot_gs_set.lookup
 unfold Ϣ.«object.__getattribute__»
 repeat (first | (with_reducible refine Ν he ?_; rw [hc]) | wp_step)
 refine hl (fun _ _ z=>z) ?_
 repeat (any_goals (first | assumption | (with_reducible refine Ν he ?_; rw [hc]) | wp_step))
 refine zi hC he hc hO ?_
 repeat (any_goals (first | assumption | wp_step))
theorem AH {Q:δ->ι->Prop} (FB:DE B bmB) (hC:h.get? C=some (excClassObj nm q C N bs (.ref D :: bmB) true sn sub ab col dd k0 k1 k2 k3 k5 newId)) (he:h.get? e=some oe) (hc:oe.cls=.ref C) (hO:bmB.contains (.type "object")=true) (hl:bM P w h C "__class__" (some (.builtin "object.__class__")))
  (hg:bM P w h C "__getattribute__" (some (.builtin "BaseException.__getattribute__"))) (hh:bM P w h C "__getattr__" none) (hq:Q (.ref C) ⟨h,g,d,t,os⟩) :
  wpAny (model P w) A (getAttrBy (.ref e) (.str "__class__" tk) false) Q E ⟨h,g,d,t,os⟩:=by
 have f3:=FB.ga.bind (.ref e)
 have z2:(n5 "BaseException.__getattribute__" == n5 "object.__getattribute__")=false:=by decide +kernel
 have z1:(onTheHeap (Η C) && n5 "BaseException.__getattribute__" == n5 "object.__getattribute__")=false:=by rw [z2]; rfl
 unfold getAttrBy
 repeat (any_goals (first | assumption | (with_reducible refine Ν he ?_; rw [hc]) | wp_step))
 refine hg (fun _ _ z=>z) ?_
 dsimp only
 rw [z1]
 repeat (any_goals (first | assumption | (with_reducible refine Ν he ?_; rw [hc]) | wp_step))
 refine hh (fun _ _ z=>z) ?_
 repeat (any_goals (first | assumption | wp_step))
 refine i9 FB.ga.plain F.entry_bexc_ga (fm FB hC he hc (uZ hC he hc hO hl ?_))
 repeat (any_goals (first | assumption | wp_step))
theorem wM {Q:Option δ->ι->Prop} (FB:DE B bmB) (hC:h.get? C=some (excClassObj nm q C N bs (.ref D :: bmB) true sn sub ab col dd k0 k1 k2 k3 k5 newId)) (he:h.get? e=some oe) (hc:oe.cls=.ref C) (hO:bmB.contains (.type "object")=true) (hl:bM P w h C "__class__" (some (.builtin "object.__class__")))
  (hg:bM P w h C "__getattribute__" (some (.builtin "BaseException.__getattribute__"))) (hh:bM P w h C "__getattr__" none) (hq:Q (some (.ref C)) ⟨h,g,d,t + 1,os⟩) :
  wpAny (model P w) A (getAttr? (.ref e) "__class__") Q E ⟨h,g,d,t,os⟩:=by
 unfold getAttr? getAttrBy?
 repeat (any_goals (first | assumption | with_reducible apply AH FB hC he hc hO hl hg hh | wp_step))
theorem oP {M:Eb} (he:h.get? e=some oe) (hc:oe.cls=.ref C):D_ M h (typeOf (.ref e)) (.ref C):=fun A Q E s k q=>by
 unfold typeOf
 exact γ (Ei (k _ _ he) (ξ (by show Q oe.cls s; rw [hc]; exact q)))
theorem xT {M:Eb} {c:δ} {b:Bool} (hC:h.get? C=some (excClassObj nm q C N bs (.ref D :: bmB) true sn sub ab col dd k0 k1 k2 k3 k5 newId)) (hn:(Η C :: .ref D :: bmB).contains c=b):D_ M h (isSubtype (.ref C) c) b:=fun A Q E s k q=>by
 obtain ⟨h',g',d',t',os'⟩:=s
 exact ϥ (k _ _ hC) (by rw [hn]; exact q)
theorem ym {M:Eb} (hC:h.get? C=some (excClassObj nm q C N bs (.ref D :: bmB) true sn sub ab col dd k0 k1 k2 k3 k5 newId)):D_ M h (isType (.ref C)) true:=fun A Q E s k q=>by
 unfold isType loadHead
 exact γ (Ei (k _ _ hC) (ξ q))
theorem xv {c:δ} {Q:δ->ι->Prop} (FB:DE B bmB) (hC:h.get? C=some (excClassObj nm q C N bs (.ref D :: bmB) true sn sub ab col dd k0 k1 k2 k3 k5 newId)) (he:h.get? e=some oe) (hc:oe.cls=.ref C) (hO:bmB.contains (.type "object")=true) (hl:bM P w h C "__class__" (some (.builtin "object.__class__")))
  (hg:bM P w h C "__getattribute__" (some (.builtin "BaseException.__getattribute__"))) (hh:bM P w h C "__getattr__" none) (hne:(Η C == c)=false) (hn:(Η C :: .ref D :: bmB).contains c=false) (hty:D_ (model P w) h (typeOf c) (.type "type")) (his:D_ (model P w) h (isType c) true)
  (hq:Q (.bool false) ⟨h,g,d,t + 1,os⟩):wpAny (model P w) A (call (.builtin "isinstance") [.ref e,c]) Q E ⟨h,g,d,t,os⟩:=by
 have L0:=oP (M:=model P w) he hc
 have L1:=xT (M:=model P w) hC hn
 have L2:D_ (model P w) h (isInstance (.ref e) c) false:=L0.andThen L1
 refine Dw ?_ (by intro z; cases z)
 unfold Ϣ.«isinstance.nested»
 refine γ (L0.at ?_)
 rw [if_neg (fun z=>by rw [hne] at z; cases z)]
 refine γ (hty.at ?_)
 rw [if_pos (beq_self_eq_true _)]
 k_delta "plainIsInstance"
 refine γ (γ (his.at ?_))
 rw [if_neg (by decide)]
 refine γ (L2.at ?_)
 rw [if_neg (by decide)]
 refine γ (wM FB hC he hc hO hl hg hh (γ ((ym hC).at ?_)))
 rw [if_neg (by decide)]
 refine γ (o_ (L1.at ?_))
 first | exact ξ hq | exact ξ (ξ hq) | exact γ (ξ (ξ hq))
theorem tZ {Q:δ->ι->Prop} (he:h.get? e=some oe) (hc:oe.cls=.ref C) (hq:Q (.bool true) ⟨h,g,d,t,os⟩):wpAny (model P w) A (call (.builtin "isinstance") [.ref e,.ref C]) Q E ⟨h,g,d,t,os⟩:=by
 refine Dw ?_ (by intro z; cases z)
 unfold Ϣ.«isinstance.nested»
 refine γ ((oP (M:=model P w) he hc).at ?_)
 rw [if_pos (beq_self_eq_true _)]
 repeat (first | refine ξ ?_ | refine o_ ?_ | refine γ ?_)
 exact hq
theorem rK {c:δ} {Q:δ->ι->Prop} (hC:h.get? C=some (excClassObj nm q C N bs (.ref D :: bmB) true sn sub ab col dd k0 k1 k2 k3 k5 newId)) (he:h.get? e=some oe) (hc:oe.cls=.ref C) (hne:(Η C == c)=false) (hn:(Η C :: .ref D :: bmB).contains c=true) (hty:D_ (model P w) h (typeOf c) (.type "type")) (his:D_ (model P w) h (isType c) true)
  (hq:Q (.bool true) ⟨h,g,d,t,os⟩):wpAny (model P w) A (call (.builtin "isinstance") [.ref e,c]) Q E ⟨h,g,d,t,os⟩:=by
 have L0:=oP (M:=model P w) he hc
 have L2:D_ (model P w) h (isInstance (.ref e) c) true:=L0.andThen (xT (M:=model P w) hC hn)
 refine Dw ?_ (by intro z; cases z)
 unfold Ϣ.«isinstance.nested»
 refine γ (L0.at ?_)
 rw [if_neg (fun z=>by rw [hne] at z; cases z)]
 refine γ (hty.at ?_)
 rw [if_pos (beq_self_eq_true _)]
 k_delta "plainIsInstance"
 refine γ (γ (his.at ?_))
 rw [if_neg (by decide)]
 refine γ (L2.at ?_)
 rw [if_pos rfl]
 first | exact ξ hq | exact ξ (ξ hq) | exact γ (ξ (ξ hq))
end
end L2.EX
namespace L2.EX
open PySem PySem.Spec PyProof.Rows PySem.W
abbrev veM:List δ:=[.type "ValueError",.type "Exception",.type "BaseException",.type "object"]
structure cE (K:Frag) (D fI C:Addr):Prop where
 obj:∃ nm q N bs sn sub ab col dd k0 k1 k2 k3 k5,K.lookup C=some (excClassObj nm q C N bs (.ref D :: veM) true sn sub ab col dd k0 k1 k2 k3 k5 "ValueError.__new__")
 init:findIn K (.ref C) "__init__"=some (some (.ref fI))
 fn:typeIn K (.ref fI)=some (.type "function")
 sa:findIn K (.ref C) "__setattr__"=some (some (.builtin "object.__setattr__"))
 pl:findIn K (.ref C) "place"=some none
 ga:findIn K (.ref C) "__getattribute__"=some (some (.builtin "BaseException.__getattribute__"))
 gh:findIn K (.ref C) "__getattr__"=some none
 cl:findIn K (.ref C) "__class__"=some (some (.builtin "object.__class__"))
 kp:keepIn K (.ref C)=true
 ne:C≠D
structure AN (K:Frag) (D:Addr):Prop where
 obj:∃ nm q N bs sn sub ab col dd k0 k1 k2 k3 k5,K.lookup D=some (excClassObj nm q D N bs veM true sn sub ab col dd k0 k1 k2 k3 k5 "ValueError.__new__")
theorem tK (D:Addr):bh "ValueError" (.ref D :: veM):=⟨bh.up (by decide),bh.up (by decide),bh.up (by decide)⟩
def Xr (C t a:Addr):HO:=.ext fun h=>h.get? a=some (eU C t)
def Xo (C t dx a:Addr):HO:=.ext fun h=>h.get? a=some { eU C t with dict:=some dx }
section
variable {X:Cx} {pins:List (Addr×Obj)} {σ:St} {H:Hp} {s:ι} {C D fI t dx a:Addr}
theorem fP {K:Frag} {P:Β} {w:Ξ} {h:Heap} {x:Str} {y:Option δ} (k:K.In h) (e:findIn K (.ref C) x=some y):bM P w h C x y:=fun {A E Q s} kk q=>looks_findIn k e A Q E s kk q
theorem Xr.at_ (I:Inv X pins σ H s) (e:H a=some (Xr C t a)):s.heap.get? a=some (eU C t):=(I.hok a _ e).1
theorem Xo.at_ (I:Inv X pins σ H s) (e:H a=some (Xo C t dx a)):s.heap.get? a=some { eU C t with dict:=some dx }:=(I.hok a _ e).1
theorem yd {P:Β} {w:Ξ} {H:Hp} {h:Heap} (e:h.get? a=some (eU C t)):aV P w H h a (Xr C t a):=⟨e,⟨_,e⟩,fun _ _ p k=>k _ p⟩
theorem AK {P:Β} {w:Ξ} {H:Hp} {h:Heap} (e:h.get? a=some { eU C t with dict:=some dx }):aV P w H h a (Xo C t dx a):=⟨e,⟨_,e⟩,fun _ _ p k=>k _ p⟩
theorem xi {us:List δ} (I:Inv X pins σ H s):Inv X pins σ (upd H (s.heap.objs.size + 1) (Xr C s.heap.objs.size (s.heap.objs.size + 1))) { s with heap:=(s.heap.push (jH us)).push (eU C s.heap.objs.size) }:=
 I.laid (t':=s.toks) (fun b u q=>ν _ (ν _ q)) (m_ _) (yd (Heap.get?_push_at (by simp only [ϟ]) rfl))
variable {k:Nat} {fd:Μ} {ps:List Str} {sp:Sp} {Q:VK} {us:List δ} {vs:List V}
theorem xK {R:Addr->Hp->Prop} {QQ:δ->ι->Prop} (c:cE X.K D fI C) (FI:aK X.prog X.w X.K X.mg X.base CX0 k fI fd ps sp) (hr:bH (k + 1) X.A) (hb:bG X.K fd ps []) (I:Inv X pins σ H s) (r:au vs us) (hz:vs.length<=sizeLine)
  (h:∀ e t,H e=none->sp (.ref e :: vs) (upd H e (Xr C t e)) (fun v H2=>v=.non/\R e H2) E0) (hq:∀ e s' H2,X.s₀.heap.objs.size<=e->H e=none->Inv X pins σ H2 s'->R e H2->QQ (.ref e) s') :
  wpAny (model X.prog X.w) X.A (call (.ref C) us) QQ X.xe s:=by
 obtain ⟨nm,q,N,bs,sn,sub,ab,col,dd,k0,k1,k2,k3,k5,lk⟩:=c.obj
 obtain ⟨oI,lI,cI⟩:=Ϙ.mp (show (X.K.lookup fI).map (·.cls)=_ from c.fn)
 have KX:=I.kIn
 have I2:=xi (C:=C) (us:=us) I
 have fr:H (s.heap.objs.size + 1)=none:=I.hok.fresh (m_ _)
 have hs:=h (s.heap.objs.size + 1) s.heap.objs.size fr
 have r2:au (V.ref (s.heap.objs.size + 1) :: vs) (Η (s.heap.objs.size + 1) :: us):=.cons rfl r
 have hl:(Η (s.heap.objs.size + 1) :: us ++ []).length=ps.length:=by
  rw [j9,<- r2.length]; exact FI.len _ _ _ _ hs
 obtain ⟨hh,g,d,tk,os⟩:=s
 refine wZ F.excBase_ValueError (tK D) (KX _ _ lk) (by rw [<- r.length]; exact hz) (KX _ _ lI) cI (fP KX c.init) ?_
 refine CA (u8 (FI.run _ X.stack _ _ ⟨Η (hh.objs.size + 1) :: us,[]⟩ (Η (hh.objs.size + 1) :: us ++ []) _ _ E0 (hr.make C us []) (I2.env0.make C us []) (hb _ (Η (hh.objs.size + 1) :: us) I2.kIn hl) (by rw [j9]; exact r2) hs) fun z s' hq'=>?_)
 cases z with
 | error e=>exact c_ hq'
 | ok fl=>
  cases fl with
  | ret u=>
   obtain ⟨v,H',I3,rv,ev,q3⟩:=I2.after hq'
   subst ev
   exact ⟨rv,hq _ s' H' (ϔ I.sz (m_ _)) fr I3 q3⟩
  | next=>exact c_ hq'
  | brk=>exact c_ hq'
  | cont=>exact c_ hq'
end
end L2.EX
namespace L2.EX
open PySem PySem.Spec PyProof.Rows PySem.W
def CXe (P:Β) (w:Ξ):CXT:=fun outer H s E ev s'=>∃ e T C dx H',ev=.ref e/\s'.os=s.os/\C7 s'.gens/\Un (frs outer) [] H H' s.heap s'.heap/\HOk P w H' s'.heap /\
 Exo s'.heap e T (.ref C) (some dx) .none/\s.heap.get? e=none/\s.heap.get? T=none/\H' e=none/\H' T=none/\E (.ref C) (some dx) H'
def uX (X:Cx) (E:XK):Prop:=∀ (pins:List (Addr×Obj)) (σ:St) (H:Hp) (s:ι) (e C t dx:Addr),Inv X pins σ H s->H e=some (Xo C t dx e)->X.s₀.heap.objs.size<=e->E (.ref C) (some dx) (fun b=>if b=e then none else H b)->X.xe (.ref e) s
theorem xL {fs ex:List Addr} {H0 H:Hp} {h0 h:Heap} {e:Addr} {φ:Heap->Prop} (u:Un fs ex H0 H h0 h) (he:H e=some (.ext φ)) (hn:h0.get? e=none):Un fs ex H0 (fun b=>if b=e then none else H b) h0 h where
 keep:=u.keep
 slot:=u.slot
 free:=fun b o q n x=>by
  show (if b=e then none else H b)=none
  split
  ·rfl
  ·exact u.free b o q n x
 there:=u.there
 tups:=fun b xs q=>by
  have z:=u.tups b xs q
  show (if b=e then none else H b)=_
  rw [if_neg (fun y=>by rw [y,he] at z; cases z)]; exact z
 frzs:=fun b o v q=>by
  have z:=u.frzs b o v q
  show (if b=e then none else H b)=_
  rw [if_neg (fun y=>by rw [y,he] at z; cases z)]; exact z
 tbls:=fun b ps q=>by
  obtain ⟨m,z⟩:=u.tbls b ps q
  refine ⟨m,?_⟩
  show (if b=e then none else H b)=_
  rw [if_neg (fun y=>by rw [y,he] at z; cases z)]; exact z
theorem vc {P:Β} {w:Ξ} {H:Hp} {h:Heap} {e:Addr} {φ:Heap->Prop} (x:HOk P w H h) (he:H e=some (.ext φ)):HOk P w (fun b=>if b=e then none else H b) h:=fun a o q=>by
 have q':H a=some o:=by
  by_cases z:a=e
  ·simp only [z,if_true] at q; cases q
  ·simpa only [z,if_false] using q
 refine (x a o q').stay (fun _ _ _ z=>z) (fun b z=>?_) fun b xs z=>?_
 ·show (if b=e then none else H b)=_
  rw [if_neg (fun y=>by rw [y,he] at z; cases z)]; exact z
 ·show (if b=e then none else H b)=_
  rw [if_neg (fun y=>by rw [y,he] at z; cases z)]; exact z
section
variable {P:Β} {w:Ξ} {K:Frag} {mg:Str->Option δ} {base:Heap} {N:List Str} {qual:Str} {scope:Cm} {f:Addr} {cd:δ} {A:Φ} {outer:List Env} {s0:ι} {H0:Hp} {E:XK}
theorem dW:uX (de (CXe P w) P w K mg base N qual scope f cd A outer s0 H0 E) E:=by
 intro pins σ H s e C t dx I he hz hE
 have ho:=Xo.at_ I he
 have nw:s0.heap.get? e=none:=Ϩ hz
 refine mY (cls:=.ref C) (dx:=some dx) (base:=base) (L:=s0.heap.objs.size) I.ok.frames I.stack rfl ⟨_,_,ho,rfl,rfl,rfl,rfl,rfl⟩ fun h' T lT m x=>?_
 have hf:∀ b∈frs (de (CXe P w) P w K mg base N qual scope f cd A outer s0 H0 E).stack,(fun b=>if b=e then none else H b) b=none:=fun b hb=>by
  show (if b=e then none else H b)=none
  rw [I.stkFree b hb]; split <;> rfl
 have hx:∀ b∈[e,T],(fun b=>if b=e then none else H b) b=none:=fun b hb=>by
  show (if b=e then none else H b)=none
  split
  ·rfl
  ·rcases θ.mp hb with z | z
   ·contradiction
   ·rw [ε.mp z]; exact I.hok.fresh lT
 refine ⟨e,T,C,dx,_,rfl,I.os,I.bare,m.un (xL I.base he nw) (fun b hb=>?_) (fun b hb=>?_),m.hok (vc I.hok he) hf hx,x,nw,?_,hx e (by simp),hx T (by simp),hE⟩
 ·rcases θ.mp (I.stkSub b hb) with z | z
  ·exact .inr (by rw [z]; exact Ϩ (τ _))
  ·exact .inl z
 ·rcases θ.mp hb with z | z
  ·rw [z]; exact nw
  ·rw [ε.mp z]; exact Ϩ (ϔ I.sz lT)
 ·exact Ϩ (ϔ I.sz lT)
theorem wt:kR (CXe P w) (de (CXe P w) P w K mg base N qual scope f cd A outer s0 H0 E) E:=by
 intro pins σ H s ev s' I hx
 obtain ⟨e,T,C,dx,H',rfl,os,bare,un,hok,xo,ne,nT,ue,uT,q⟩:=hx
 have I':Inv (de (CXe P w) P w K mg base N qual scope f cd A outer s0 H0 E) pins σ H' s':=I.call' (ch:=[]) os un hok bare fun b z=>absurd z (by simp)
 have old:∀ b:Addr,s.heap.get? b=none->s0.heap.get? b=none:=fun b hb=>by
  cases z:s0.heap.get? b with
  | none=>rfl
  | some o=>
   obtain ⟨o',z'⟩:=I.base.there b o z (fun y=>absurd (show b∈([]:List Addr) from y) (by simp))
   rw [hb] at z'; cases z'
 refine ou (base:=base) (L:=s0.heap.objs.size) I'.ok.frames I'.stack rfl xo fun h' T' lT m x=>?_
 have hx:∀ b∈[e,T,T'],H' b=none:=fun b hb=>by
  rcases θ.mp hb with z | hb
  ·rw [z]; exact ue
  ·rcases θ.mp hb with z | z
   ·rw [z]; exact uT
   ·rw [ε.mp z]; exact hok.fresh lT
 have nw:∀ b∈[e,T,T'],s0.heap.get? b=none:=fun b hb=>by
  rcases θ.mp hb with z | hb
  ·rw [z]; exact old e ne
  ·rcases θ.mp hb with z | z
   ·rw [z]; exact old T nT
   ·rw [ε.mp z]; exact Ϩ (ϔ I'.sz lT)
 refine ⟨e,T',C,dx,H',rfl,I'.os,bare,m.un I'.base (fun b hb=>?_) nw,m.hok hok I'.stkFree hx,x,nw e (by simp),nw T' (by simp),ue,hx T' (by simp),q⟩
 rcases θ.mp (I'.stkSub b hb) with z | z
 ·exact .inr (by rw [z]; exact Ϩ (τ _))
 ·exact .inl z
end
def zo (C:Addr) (E:XK) (ta:TA):TS:=fun _ σ H=>ta σ H fun vs H1=>∃ v,vs=[v]/\∀ dx,H1 dx=none->E (.ref C) (some dx) (upd H1 dx (.xd [("place",v)]))
def eT (K:Frag) (D fI:Addr):Sp:=fun vs H Q _=>∃ e C t v,vs=[.ref e,v]/\H e=some (Xr C t e)/\cE K D fI C/\∀ dx t',H dx=none->dx≠e->Q .non (upd (upd H dx (.xd [("place",v)])) e (Xo C t' dx e))
theorem yR {M:Eb} {A:Φ} {E:δ->ι->Prop} {s:ι} {env:Env} {x:Sem δ} {Q:Flow->ι->Prop} (hh:A.handled=none)
  (h:wpAny M A x (fun v s₁=>∃ e C D nm q N bs sn sub ab col dd k0 k1 k2 k3 k5 nid t dx,v=.ref e/\s₁.heap.get? C=some (excClassObj nm q C N bs (.ref D :: veM) true sn sub ab col dd k0 k1 k2 k3 k5 nid)/\s₁.heap.get? e=some { eU C t with dict:=some dx }/\E (.ref e) s₁) E s) :
  wpAny M A (raiseStmt env (some x) none) Q E s:=by
 unfold raiseStmt
 refine γ (c9 h (fun v s₁ h₁=>?_) fun _ _ x=>x)
 obtain ⟨e,C,D,nm,q,N,bs,sn,sub,ab,col,dd,k0,k1,k2,k3,k5,nid,t,dx,rfl,hC,he,hE⟩:=h₁
 obtain ⟨hp,g,d,tk,os⟩:=s₁
 have b1:(Η C :: .ref D :: veM).contains (.type "BaseException")=true:=bh.up (bh.up (by decide))
 unfold eU at he
 repeat (first | with_reducible refine Ν he ?_ | with_reducible refine Ν hC ?_ | (with_reducible refine ϥ hC ?_; rw [b1]) | wp_step)
 exact wpAny_raiseNew_none hh hE
section
variable {X:Cx} {D fI C:Addr} {x:Str} {np cpos pos:Pos} {e:Expr} {es:List Expr} {t:TA} {E:XK} {k:Nat} {fd:Μ} {ps:List Str}
theorem ps_raise (c:cE X.K D fI C) (FI:aK X.prog X.w X.K X.mg X.base CX0 k fI fd ps (eT X.K D fI)) (hr:bH (k + 1) X.A) (hb:bG X.K fd ps []) (hg:Gl X x) (hm:X.mg x=some (.ref C)) (hR:uX X E) (ha:PA X (e :: es) t)
  (hdb:(x == ("__debug__" : Str))=false:=by decide) (he:starEach (e :: es) X.env=(false,eval e X.env) :: starEach es X.env:=by rfl) (hpl:(backTo cpos (starEach es X.env)).any (·.1)=false:=by rfl) :
  PS X (.Raise (some (.Call (.Name x np) (e :: es) [] cpos)) none pos) (zo C E t):=by
 intro pins s σ H Dn I h
 obtain ⟨nm,q,N,bs,sn,sub,ab,col,dd,k0,k1,k2,k3,k5,lk⟩:=c.obj
 rw [arm_exec_Raise]
 refine γ (CL (yR hr.hd ?_))
 refine γ (c9 (Q:=fun v s₁=>∃ e H2 dx t',v=.ref e/\Inv X pins σ H2 s₁/\H2 e=some (Xo C t' dx e)/\X.s₀.heap.objs.size<=e/\E (.ref C) (some dx) (fun b=>if b=e then none else H2 b)) (i7 (fz I hg hm ?_ hdb)) (fun v s₃ h₃=>γ (CL (ξ ?_))) fun _ _ x=>x)
 ·refine PySem.W.callWith_K (h₀:=X.base) I.ok.mod.kin c.kp (thn (ha cpos pins s σ H _ I h) fun us s1 ⟨vs,H1,I1,r,v,ev,q⟩=>⟨I1.kIn,?_⟩) he hpl
  subst ev
  refine xK (R:=fun e H2=>∃ dx t t',H1 dx=none/\dx≠e/\H2=upd (upd (upd H1 e (Xr C t e)) dx (.xd [("place",v)])) e (Xo C t' dx e)) c FI hr hb I1 r (by rw [ψ]; show 1<=_; omega) (fun e t hn=>⟨e,C,t,v,rfl,aa,c,fun dx t' hd hne=>⟨rfl,dx,t,t',?_,hne,rfl⟩⟩) fun e s' H2 lz hn I2 ⟨dx,t,t',hd,hne,eH⟩=>?_
  ·rw [ag hne] at hd; exact hd
  ·subst eH
   refine ⟨e,_,dx,t',rfl,I2,aa,lz,?_⟩
   have z:=q dx hd
   have y:(fun b=>if b=e then none else upd (upd (upd H1 e (Xr C t e)) dx (.xd [("place",v)])) e (Xo C t' dx e) b)=upd H1 dx (.xd [("place",v)]):=by
    funext b
    by_cases hb:b=e
    ·rw [if_pos hb,hb,ag (ϊ hne),hn]
    ·rw [if_neg hb,ag hb]
     unfold upd
     split
     ·rfl
     ·first | rfl | rw [if_neg hb]
   rw [y]; exact z
 ·obtain ⟨e,H2,dx,t',rfl,I2,he2,lz,hE⟩:=h₃
  exact ⟨e,C,D,nm,q,N,bs,sn,sub,ab,col,dd,k0,k1,k2,k3,k5,_,t',dx,rfl,I2.kIn _ _ lk,Xo.at_ I2 he2,hR pins σ H2 s₃ e C t' dx I2 he2 lz hE⟩
end
end L2.EX
namespace L2.EX
open PySem PySem.Spec PyProof.Rows PySem.W
def tVI (K:Frag) (D fI:Addr) (t:TA):TE:=fun σ H Q=>t σ H fun vs H1=>∃ e C t0 v,vs=[.ref e,v]/\H1 e=some (Xr C t0 e)/\cE K D fI C/\∀ t',Q .non (upd H1 e (Xr C t' e))
theorem wq {K:Frag}:findCls K (.type "ValueError") (.type "type") "__init__"=some (.val (.builtin "ValueError.__init__")):=by kernel_rfl
theorem qJ:typeOf (.type "ValueError")=pure (.type "type"):=by kernel_rfl
theorem xg:handedIn (.builtin "ValueError.__init__")=true:=by kernel_rfl
theorem wY:Manifest.isStub "ValueError"=false:=by decide +kernel
section
variable {X:Cx} {D fI C:Addr} {x:Str} {np apos cpos pos pos':Pos} {e o value:Expr} {es:List Expr} {t:TA} {ta tv:TE} {pl:Sem Bool}
theorem pe_vinit (hg:Gl X "ValueError") (hm:X.mg "ValueError"=none) (hv:bootBuiltins "ValueError"=some (.type "ValueError")) (ha:PA X (e :: es) t)
  (ht:eval (.Call (.Attribute (.Name "ValueError" np) "__init__" apos) (e :: es) [] pos) X.env=(do
   let ov <- eval (.Name "ValueError" np) X.env
   standAt apos.atName
   let (f,first) <- holding [ov] (getMethod ov "__init__" pl)
   callWith pos f first (backTo pos (starEach (e :: es) X.env)) (backToKw pos (keywordEach [] X.env))):=by rfl)
  (hs:starEach (e :: es) X.env=(false,eval e X.env) :: starEach es X.env:=by rfl) (hpl:(backTo pos (starEach es X.env)).any (·.1)=false:=by rfl) :
  PE X (.Call (.Attribute (.Name "ValueError" np) "__init__" apos) (e :: es) [] pos) (tVI X.K D fI t):=by
 intro pins s σ H Q I h
 refine PySem.W.methodCall_KW (pl:=pl) (cH I hg hm hv ?_ (by decide +kernel) (by decide +kernel)) ht
 obtain ⟨m,Fr0⟩:=I.fr
 refine method_type (name:="__init__") (T:="ValueError") (v:=.builtin "ValueError.__init__") (K:=X.K) Fr0 I.ok.mod.kin qJ wY (wq (K:=X.K)) xg ?_
 have hA:=ha pos pins _ σ H _ (I.tok (s.toks + 1)) h
 rw [hs] at hA ⊢
 refine Cr (by show (false || (backTo pos (starEach es X.env)).any (·.1))=false; rw [hpl] <;> rfl) (Calls.evalArgs_plain ?_)
 refine thn hA fun us s2 ⟨vs,H2,I2,r2,e,C,t0,v,ev,he,c,q⟩=>?_
 subst ev
 obtain ⟨u0,u1,rfl,ru0,ru1⟩:∃ u0 u1,us=[u0,u1]/\ay (.ref e) u0/\ay v u1:=by
  cases r2 with
  | cons a r=>
   cases r with
   | cons b r=>cases r with | nil=>exact ⟨_,_,rfl,a,b⟩
 obtain rfl:u0=Η e:=ru0
 obtain ⟨nm,q',N,bs,sn,sub,ab,col,dd,k0,k1,k2,k3,k5,lk⟩:=c.obj
 have ho:=Xr.at_ I2 he
 have mu:Mut (H2 e):=by rw [he]; exact w_
 obtain ⟨hh,g,d,tk,os⟩:=s2
 refine xP F.excBase_ValueError (tK D) (I2.kIn _ _ lk) ho rfl (a0:=t0) rfl (by rw [ψ]; show 1<=_; omega) fun h' k1 k2 _=>?_
 exact ⟨.non,_,I2.write (t':=tk) (x:=e) (e:=e) (o:=Xr C hh.objs.size e) mu (.inl rfl) k1 ⟨_,k2⟩ (yd k2),rfl,q _⟩
def sXs (K:Frag) (D fI:Addr) (ta tv:TE):TS:=fun Dn σ H=>tv σ H fun y H1=>ta σ H1 fun x H2=>∃ e C t,x=.ref e/\H2 e=some (Xr C t e)/\cE K D fI C/\∀ dx,H2 dx=none->dx≠e->Dn.nx σ (upd (upd H2 dx (.xd [("place",y)])) e (Xo C t dx e))
theorem ps_xset (ha:PE X o ta) (hv:PE X value tv) (hs:swapsWith value (some (.Attribute o "place" pos')) pos.line X.env=pure false:=by rfl):PS X (.Assign [.Attribute o "place" pos'] value pos) (sXs X.K D fI ta tv):=by
 intro pins s σ H Dn I h
 refine plainObj_wpAny_Assign_Attribute (thn (hv pins s σ H _ I h) fun u s1 ⟨y,H1,I1,ry,q⟩=>thn (ha pins s1 σ H1 _ I1 q) fun ov s2 ⟨x,H2,I2,rx,e,C,t,ex,he,c,q2⟩=>?_) hs
 subst ex
 obtain rfl:ov=Η e:=rx
 obtain ⟨nm,q',N,bs,sn,sub,ab,col,dd,k0,k1,k2,k3,k5,lk⟩:=c.obj
 have ho:=Xr.at_ I2 he
 have KX:=I2.kIn
 obtain ⟨hh,g,d,tk,os⟩:=s2
 refine sy F.store_ValueError (KX _ _ lk) (fP KX c.sa) (fP KX c.pl) ho rfl (a0:=t) rfl rfl fun h' tk' k1 k2 k3=>?_
 have fr:H2 hh.objs.size=none:=I2.hok.fresh (τ _)
 have nx:hh.objs.size≠e:=fun z=>by rw [z,he] at fr; cases fr
 have hin:∀ b o,hh.get? b=some o->b≠hh.objs.size:=fun b o z=>Τ (υ z)
 refine ⟨σ,_,I2.un (t':=tk') (H':=upd (upd H2 hh.objs.size (.xd [("place",y)])) e (Xo C t hh.objs.size e)) ⟨fun b o z n _ _=>k1 b o (fun w=>by rw [w,he] at n; cases n) z,fun b o z n _ _=>⟨o.slots,k1 b o (fun w=>by rw [w,he] at n; cases n) z⟩,fun b o z n _=>?_,fun b o z _=>?_,fun b xs z=>?_,fun b o v z=>?_,fun b ps z=>⟨#[],?_⟩⟩ (fun b v z=>?_),q2 _ fr nx⟩
 ·rw [ag (fun w=>by rw [w,he] at n; cases n),ag (hin b o z)]; exact n
 ·by_cases w:b=e
  ·rw [w]; exact ⟨_,k2⟩
  ·exact ⟨o,k1 b o w z⟩
 ·rw [ag (fun w=>by rw [w,he] at z; cases z),ag (fun w=>by rw [w,fr] at z; cases z)]; exact z
 ·rw [ag (fun w=>by rw [w,he] at z; cases z),ag (fun w=>by rw [w,fr] at z; cases z)]; exact z
 ·rw [ag (fun w=>by rw [w,he] at z; cases z),ag (fun w=>by rw [w,fr] at z; cases z),z]; simp
 ·by_cases w:b=e
  ·rw [w,aa] at z; cases z; rw [w]; exact AK k2
  ·rw [ag w] at z
   by_cases w2:b=hh.objs.size
   ·rw [w2,aa] at z; cases z; rw [w2]
    refine ⟨_,k3,fun f=>?_⟩
    by_cases wf:f="place"
    ·rw [wf]; exact ry
    ·rw [if_neg wf,ϭ,beq_false_of_ne wf]; exact w_
   ·rw [ag w2] at z
    refine (I2.hok b v z).stay (fun c o hc y=>k1 c o (fun w=>?_) y) (fun c hc=>?_) fun c xs hc=>?_
    ·rcases hc with hc | hc
     ·exact absurd (hc.symm.trans w) (by assumption)
     ·rw [w,he] at hc; cases hc
    ·rw [ag (fun w=>by rw [w,he] at hc; cases hc),ag (fun w=>by rw [w,fr] at hc; cases hc)]; exact hc
    ·rw [ag (fun w=>by rw [w,he] at hc; cases hc),ag (fun w=>by rw [w,fr] at hc; cases hc)]; exact hc
end
end L2.EX
namespace L2.EX
open PySem PySem.Spec PyProof.Rows PySem.W
abbrev pK (X:Cx) (e:Addr):Cx:={ X with A:=X.A.mark (some (.ref e)),calm:=false,xe:=fun _ _=>False }
section
variable {X:Cx} {pins:List (Addr×Obj)} {σ:St} {H:Hp} {s:ι} {h':Heap} {e:Addr}
theorem xf (ok:X.Ok) (e:Addr):(pK X e).Ok:=
 ⟨ok.mod,ok.kind,ok.glob,ok.blt,ok.above,ok.inj,ok.has,ok.cab,fun z=>(Ι z).elim,ok.frames,ok.stk,ok.exf,ok.bs,ok.bsz,ok.noex,ok.exfs,ok.funs,ok.frf⟩
theorem ni (I:Inv X pins σ H s) (e:Addr):Inv (pK X e) pins σ H s:=⟨xf I.ok e,I.os,I.bare,I.base,I.loc,I.cell,I.free,I.freeC,I.pin,I.hok,I.len⟩
theorem pL (ok:X.Ok) (I:Inv (pK X e) pins σ H s):Inv X pins σ H s:=⟨ok,I.os,I.bare,I.base,I.loc,I.cell,I.free,I.freeC,I.pin,I.hok,I.len⟩
theorem va {ex:List Addr} (I:Inv X pins σ H s) (m:Mv (frs X.stack) ex s.heap h') (h0:∀ b∈ex,X.s₀.heap.get? b=none) (h1:∀ b∈ex,H b=none) (h2:∀ b∈ex,b≠X.env.locals) (h3:∀ b∈ex,∀ x c,X.env.cells.lookup x=some c->c≠b) (h4:∀ b∈ex,∀ p∈X.pn ++ pins,p.1≠b) :
  Inv X pins σ H { s with heap:=h' }:=by
 have cl:∀ x c,X.env.cells.lookup x=some c->∀ v,s.heap.IsCell c v->h'.IsCell c v:=fun x c q v ⟨o,ho,hd⟩=>by
  obtain ⟨sl,z⟩:=m.slot c o (fun y=>h3 c y x c q rfl) ho
  exact ⟨_,z,hd⟩
 obtain ⟨mm,⟨o,es,ep,ho,r⟩,hl⟩:=id I.loc
 obtain ⟨sl,hL⟩:=m.slot _ o (fun y=>h2 _ y rfl) ho
 refine ⟨I.ok,I.os,I.bare,m.un I.base (fun b hb=>?_) h0,⟨mm,⟨_,es,ep,hL,r⟩,fun i x v a b c=>?_⟩,fun x c q=>?_,I.free,I.freeC,fun p hp=>?_,m.hok I.hok I.stkFree h1,I.len⟩
 ·rcases θ.mp (I.stkSub b hb) with z | z
  ·exact .inr (by rw [z]; exact Ϩ I.ok.above)
  ·exact .inl z
 ·obtain ⟨u,ru,l⟩:=hl i x v a b c
  refine ⟨u,ru,?_⟩
  rcases l with l | ⟨k,c',q,z⟩
  ·exact .inl l
  ·exact .inr ⟨k,c',q,cl x c' q _ z⟩
 ·obtain ⟨v,z⟩:=I.cell x c q
  exact ⟨v,cl x c q v z⟩
 ·obtain ⟨q,n,ne,nf,d⟩:=I.pin p hp
  exact ⟨m.keep _ _ (fun y=>(θ.mp (I.stkSub _ y)).elim ne nf) (fun y=>h4 _ y p hp rfl) q,n,ne,nf,d⟩
theorem um {i t':Nat} {n:Str} {v:Option δ} {m:Str->Option δ} (I:Inv X pins σ H s) (hN:X.N.Nodup) (hi:X.N[i]?=some n) (hs:y9 X.env.locals s.heap h') (hn:h'.Ns X.env.locals (fun x=>if x=n then v else m x))
  (hl:∀ (j:Nat) (x:Str) (w:V),X.N[j]?=some x->σ[j]?=some (some w)->Vis X.env.scope x->∃ u,ay w u/\AD X.env s.heap m x u):Inv X pins (σ.set i none) H { s with heap:=h',toks:=t' }:=by
 have mv:Mv [] [X.env.locals] s.heap h':=⟨fun b o _ q z=>(hs.2 b fun y=>q (by rw [y]; simp)).trans z,fun b o q z=>⟨o.slots,(hs.2 b fun y=>q (by rw [y]; simp)).trans z⟩⟩
 refine ⟨I.ok,I.os,I.bare,mv.un I.base (fun b hb=>absurd hb (by simp)) (fun b hb=>by rw [ε.mp hb]; exact Ϩ I.ok.above),⟨_,hn,fun j x w a b c=>?_⟩,fun x c q=>?_,I.free,I.freeC,fun p hp=>?_,mv.hok I.hok (fun b hb=>absurd hb (by simp)) (fun b hb=>by rw [ε.mp hb]; exact I.free),by simpa using I.len⟩
 ·by_cases hj:j=i
  ·subst hj
   have:j < σ.length:=by rw [I.len]; exact (π.mp a).1
   rw [Cn this] at b; cases b
  ·rw [BW (ϊ hj)] at b
   obtain ⟨u,ru,l⟩:=hl j x w a b c
   refine ⟨u,ru,?_⟩
   rcases l with ⟨k,q⟩ | ⟨k,c',q,z⟩
   ·have nx:x≠n:=fun q=>hj (iN hN a (q▸hi))
    exact .inl ⟨k,(if_neg nx).trans q⟩
   ·exact .inr ⟨k,c',q,z.sameBut hs (I.cne x c' q)⟩
 ·obtain ⟨w,z⟩:=I.cell x c q
  exact ⟨w,z.sameBut hs (I.cne x c q)⟩
 ·obtain ⟨q,n,ne,nf,d⟩:=I.pin p hp
  exact ⟨(hs.2 p.1 ne).trans q,n,ne,nf,d⟩
end
theorem sQ {X:Cx} {pins:List (Addr×Obj)} {σ:St} {H:Hp} {s:ι} {a:Addr} {o:HO} (I:Inv X pins σ H s) (hn:H a=none) (h0:X.s₀.heap.get? a=none) (h2:a≠X.env.locals) (h3:∀ x c,X.env.cells.lookup x=some c->c≠a) (h4:∀ p∈X.pn ++ pins,p.1≠a) (new:aV X.prog X.w (upd H a o) s.heap a o) :
  Inv X pins σ (upd H a o) s:=by
 have st:∀ b u,H b=some u->upd H a o b=some u:=fun b u q=>by rw [ag (fun z=>by rw [z,hn] at q; cases q)]; exact q
 refine ⟨I.ok,I.os,I.bare,⟨I.base.keep,I.base.slot,fun b ob q n x=>?_,I.base.there,fun b xs q=>st _ _ (I.base.tups b xs q),fun b ob v q=>st _ _ (I.base.frzs b ob v q),fun b ps q=>?_⟩,I.loc,I.cell,(ag (ϊ h2)).trans I.free,fun x c q=>(ag (h3 x c q)).trans (I.freeC x c q),fun p hp=>?_,fun b u q=>?_,I.len⟩
 ·rw [ag (fun z=>by rw [z,h0] at q; cases q)]
  exact I.base.free b ob q n x
 ·obtain ⟨more,z⟩:=I.base.tbls b ps q
  exact ⟨more,st _ _ z⟩
 ·obtain ⟨q,n,ne,nf,d⟩:=I.pin p hp
  exact ⟨q,(ag (h4 p hp)).trans n,ne,nf,d⟩
 ·by_cases z:b=a
  ·rw [z,aa] at q; cases q; rw [z]; exact new
  ·rw [ag z] at q
   exact (I.hok b u q).stay (fun _ _ _ y=>y) (fun c y=>st _ _ y) fun c xs y=>st _ _ y
def Xh (C dx a:Addr):HO:=.ext fun h=>∃ ws sl,h.get? a=some { cls:=.ref C,dict:=some dx,data:=.fields ws,slots:=sl }/\ws[2]?=some .none
theorem An {P:Β} {w:Ξ} {H:Hp} {h:Heap} {C T dx a:Addr} {fl:δ} (x:Exo h a T (.ref C) (some dx) fl):aV P w H h a (Xh C dx a):=by
 obtain ⟨⟨oe,vs,he,hc,hd,hdt,_,h2⟩,_⟩:=x
 obtain ⟨c1,c2,c3,c4⟩:=oe
 simp only at hc hd hdt
 subst hc; subst hd; subst hdt
 exact ⟨⟨_,_,he,h2⟩,⟨_,he⟩,fun _ _ ⟨ws,sl,p,z⟩ k=>⟨ws,sl,k _ p,z⟩⟩
theorem uv {M:Eb} {A:Φ} {E:δ->ι->Prop} {h:Heap} {g:Array BU} {d:Et} {t:Nat} {os:DV} {C D e N N':Addr} {oe:Obj} {nm q nm' q':Str} {bs sub bs' sub':List δ} {sn sn':List Str} {ab ab':Bool} {col col':Option Bool} {dd dd':Option Addr} {k0 k1 k2 k3 k5 j0 j1 j2 j3 j5:Option δ} {nid nid':String} {Q:Bool->ι->Prop}
  (hC:h.get? C=some (excClassObj nm q C N bs (.ref D :: veM) true sn sub ab col dd k0 k1 k2 k3 k5 nid)) (hD:h.get? D=some (excClassObj nm' q' D N' bs' veM true sn' sub' ab' col' dd' j0 j1 j2 j3 j5 nid')) (he:h.get? e=some oe) (hc:oe.cls=.ref C) (hq:Q true ⟨h,g,d,t,os⟩) :
  wpAny M A (excMatches (.ref e) (.ref D)) Q E ⟨h,g,d,t,os⟩:=by
 have b1:(Η D :: veM).contains (.type "BaseException")=true:=bh.up (by decide)
 have b2:(Η C :: .ref D :: veM).contains (.ref D)=true:=by simp
 have f:=tc_notTuple
 unfold excMatches
 repeat (first | (with_reducible refine Ν he ?_; rw [hc]) | with_reducible refine Ν hD ?_ | (with_reducible refine ϥ hD ?_; rw [b1]) | (with_reducible refine ϥ hC ?_; rw [b2]) | wp_step)
 exact hq
def Bu (K:Frag) (D fI:Addr) (i:Nat) (sp:Sp) (t:TA) (ts:Addr->TS):TS:=fun Dn σ H=>t σ H fun vs H1=>sp vs H1 (fun _ H2=>Dn.nx σ H2) fun cv dxo H2=>∃ C dx v,cv=.ref C/\dxo=some dx/\cE K D fI C/\H2 dx=some (.xd [("place",v)]) /\
 ∀ e,H2 e=none->ts e { nx:=fun σ' H'=>Dn.nx (σ'.set i none) H',rt:=Dn.rt,bk:=fun σ' H'=>Dn.bk (σ'.set i none) H',ct:=fun σ' H'=>Dn.ct (σ'.set i none) H' } (σ.set i (some (.ref e))) (upd H2 e (Xh C dx e))
section
variable {X:Cx} {D fI f:Addr} {x xD n:Str} {np cpos epos tp hpos pos:Pos} {e:Expr} {es:List Expr} {t:TA} {k i:Nat} {fd:Μ} {ps:List Str} {sp:Sp} {b₀:Stmt} {suite:List Stmt} {ts:Addr->TS}
theorem ps_try (F:aK X.prog X.w X.K X.mg X.base (CXe X.prog X.w) k f fd ps sp) (hr:bH k X.A) (hg:Gl X x) (hm:X.mg x=some (.ref f)) (hk:keepIn X.K (.ref f)=true) (hb:bG X.K fd ps []) (ha:PA X (e :: es) t) (hx0:∀ v s,X.xe v s->False) (hex:X.ex=[])
  (hT:AN X.K D) (hgD:Gl X xD) (hmD:X.mg xD=some (.ref D)) (hst:X.stack=X.env :: X.outer) (hfr:X.env.frame=some X.env.locals) (hN:X.N.Nodup) (hi:X.N[i]?=some n) (hloc:X.env.scope.names.lookup n=some .local)
  (hsu:∀ e,PSs (pK X e) (b₀ :: suite) (ts e)) (hdb:(x == ("__debug__" : Str))=false:=by decide) (hdD:(xD == ("__debug__" : Str))=false:=by decide)
  (he:starEach (e :: es) X.env=(false,eval e X.env) :: starEach es X.env:=by rfl) (hpl:(backTo cpos (starEach es X.env)).any (·.1)=false:=by rfl) (hsw:swapsWith (.Call (.Name x np) (e :: es) [] cpos) none epos.line X.env=pure false:=by rfl) :
  PS X (.Try [.Expr (.Call (.Name x np) (e :: es) [] cpos) epos] [.ExceptHandler (some (.Name xD tp)) (some n) (b₀ :: suite) hpos] [] [] pos) (Bu X.K D fI i sp t ts):=by
 intro pins s σ H Dn I h
 refine wpAny_Try_except (DL (wpAny_Expr_any (i7 (fz I hg hm ?_ hdb)) I.quiet hsw))
 refine PySem.W.callWith_K (h₀:=X.base) I.ok.mod.kin hk (c9 (ha cpos pins s σ H _ I h) (fun us s1 ⟨vs,H1,I1,r,q⟩=>⟨I1.kIn,?_⟩) fun v s' z=>(hx0 v s' z).elim) he hpl
 have hl:(us ++ []).length=ps.length:=by rw [j9,<- r.length]; exact F.len _ _ _ _ q
 refine CA (u8 (F.run X.A X.stack s1 H1 ⟨us,[]⟩ (us ++ []) vs _ _ hr I1.env0 (hb s1 us I1.kIn hl) (by rw [j9]; exact r) q) fun z s' hq=>?_)
 cases z with
 | ok fl=>
  cases fl with
  | ret u=>
   obtain ⟨v,H2,I2,rv,q2⟩:=I1.after hq
   exact A2 (A2 ⟨σ,H2,I2,q2⟩)
  | next=>exact c_ hq
  | brk=>exact c_ hq
  | cont=>exact c_ hq
 | error ev=>
  obtain ⟨a,T,C0,dx0,H',rfl,os,bare,un,hok,xo,ne,nT,ue,uT,C,dx,v,ec,ed,c,hdx,q2⟩:=hq
  cases ec; cases ed
  have I2:Inv X pins σ H' s':=I1.call' (ch:=[]) os un hok bare fun b z=>absurd z (by simp)
  have old:∀ b:Addr,s1.heap.get? b=none->X.s₀.heap.get? b=none:=fun b hb=>by
   cases z:X.s₀.heap.get? b with
   | none=>rfl
   | some o=>
    obtain ⟨o',z'⟩:=I1.base.there b o z (by rw [hex]; simp)
    rw [hb] at z'; cases z'
  have hfr':X.A.frames=some (X.env :: X.outer):=by rw [<- hst]; exact I2.ok.frames
  have hfun:s'.heap.FunFrames X.base (X.env :: X.outer):=hst▸I2.stack
  have flds:∀ b o vs,s'.heap.get? b=some o->o.data=.fields vs->b≠X.env.locals/\∀ x c,X.env.cells.lookup x=some c->c≠b:=fun b o vs q hd=>by
   refine ⟨fun z=>?_,fun x c qc z=>?_⟩
   ·obtain ⟨m,⟨o',es,ep,ho',hd',_⟩,_⟩:=I2.loc
    rw [<- z,q] at ho'; cases ho'; rw [hd] at hd'; cases hd'
   ·obtain ⟨v,o',ho',hd'⟩:=I2.cell x c qc
    rw [z,q] at ho'; cases ho'; rw [hd] at hd'; cases hd'
  have pin1:∀ b,s1.heap.get? b=none->∀ p∈X.pn ++ pins,p.1≠b:=fun b hb p hp z=>by
   have y:=(I1.pin p hp).1
   rw [z,hb] at y; cases y
  have fe:=let ⟨⟨oe,vs,he,_,_,hd,_⟩,_,_⟩:=xo; flds a oe vs he hd
  have fT:=let ⟨_,⟨oT,ts,hT,hd,_⟩,_⟩:=xo; flds T oT ts hT hd
  refine jD (base:=X.base) (L:=X.env.locals) hfr' hfun hfr xo fun h1 T1 l1 m1 x1=>?_
  refine dS (s:={ s' with heap:=h1 }) x1 fun h2 m2 x2=>?_
  have mm:Mv (frs X.stack) [a,T,T1] s'.heap h2:=by
   rw [hst]
   refine (m1.mono (fun _ z=>z) fun b z=>?_).trans (m2.mono (fun _ z=>absurd z (by simp)) fun b z=>?_)
   ·rcases θ.mp z with z | z
    ·exact θ.mpr (.inl z)
    ·exact ο _ (θ.mpr (.inl (ε.mp z)))
   ·exact ο _ (ο _ z)
  have all3:∀ {p:Addr->Prop},p a->p T->p T1->∀ b∈[a,T,T1],p b:=fun p1 p2 p3 b hb=>by
   rcases θ.mp hb with z | hb
   ·rw [z]; exact p1
   ·rcases θ.mp hb with z | z
    ·rw [z]; exact p2
    ·rw [ε.mp z]; exact p3
  have lt1:∀ b o,s'.heap.get? b=some o->b≠T1:=fun b o q=>Τ (ώ (υ q) l1)
  have g0:=all3 (p:=fun b=>X.s₀.heap.get? b=none) (old a ne) (old T nT) (Ϩ (ϔ I2.sz l1))
  have g1:=all3 (p:=fun b=>H' b=none) ue uT (hok.fresh l1)
  have g2:=all3 (p:=fun b=>b≠X.env.locals) fe.1 fT.1 (i5 (ώ I2.lt l1))
  have g3:=all3 (p:=fun b=>∀ x c,X.env.cells.lookup x=some c->c≠b) fe.2 fT.2 fun x c q=>let ⟨_,o,z,_⟩:=I2.cell x c q; lt1 c o z
  have g4:=all3 (p:=fun b=>∀ p∈X.pn ++ pins,p.1≠b) (pin1 a ne) (pin1 T nT) fun p hp=>lt1 _ _ (I2.pin p hp).1
  have I3:Inv X pins σ H' { s' with heap:=h2 }:=va I2 mm g0 g1 g2 g3 g4
  obtain ⟨nm,q',N,bs,sn,sub,ab,col,dd,k0,k1,k2,k3,k5,lk⟩:=c.obj
  obtain ⟨nm',q'',N',bs',sn',sub',ab',col',dd',j0,j1,j2,j3,j5,lkD⟩:=hT.obj
  refine wpAny_handleBy_cons (codeAny_handlers_test (fz (X:=pK X a) (ni I3 a) hgD hmD ?_ hdD)) (by intro z; cases z)
  obtain ⟨oe,vs,he2,hc2,hd2,_⟩:=x2.obj
  obtain ⟨hp0,g,dr,tk,os0⟩:=s'
  refine uv (I3.kIn _ _ lk) (I3.kIn _ _ lkD) he2 hc2 ?_
  refine codeAny_handlers_suite_as (dS (s:=⟨h2,g,dr,tk,os0⟩) x2 fun h3 m3 x3=>?_)
  have I4:Inv X pins σ H' ⟨h3,g,dr,tk,os0⟩:=va I3 ((m3.mono (fun _ z=>absurd z (by simp)) fun b z=>ο _ (ο _ z)):Mv (frs X.stack) [a,T,T1] h2 h3) g0 g1 g2 g3 g4
  have I5:=sQ (o:=Xh C0 dx0 a) I4 ue (old a ne) fe.1 fe.2 (pin1 a ne) (An x3)
  refine fk (X:=pK X a) (ni I5 a) hN hi (.inl hloc) (v:=.ref a) rfl (fun s6 I6=>?_) (.inr hloc)
  refine c9 (hsu a pins s6 _ _ _ I6 (q2 a ue)) (fun fl s7 h7=>?_) fun _ _ z=>z.elim
  have goes:∀ (σ':St) (H7:Hp) (Q:ι->Prop),Inv (pK X a) pins σ' H7 s7->(∀ s8,Inv X pins (σ'.set i none) H7 s8->Q s8)->wpAny (model X.prog X.w) X.A (do bindName X.env n .none; unbindBehindTheSuite X.env n hpos) (fun _ s8=>Q s8) X.xe s7:=fun σ' H7 Q I7 hQ=>by
   have I7':=pL I.ok I7
   obtain ⟨m7,hn7,hl7⟩:=id I7'.loc
   exact wpAny_nameGoes_keeps hloc hn7 (by rw [I.ok.kind]; rfl) fun h8 v8 n8 s8=>hQ _ (um I7' hN hi s8 n8 hl7)
  cases fl with
  | next=>
   obtain ⟨σ',H7,I7,z⟩:=h7
   exact goes σ' H7 _ I7 fun s8 I8=>⟨_,H7,I8,z⟩
  | brk=>
   obtain ⟨σ',H7,I7,z⟩:=h7
   exact goes σ' H7 _ I7 fun s8 I8=>⟨_,H7,I8,z⟩
  | cont=>
   obtain ⟨σ',H7,I7,z⟩:=h7
   exact goes σ' H7 _ I7 fun s8 I8=>⟨_,H7,I8,z⟩
  | ret u=>
   obtain ⟨v,σ',H7,I7,rv,z⟩:=h7
   exact goes σ' H7 _ I7 fun s8 I8=>⟨v,_,H7,I8,rv,z⟩
end
end L2.EX
namespace L2.EX
open PySem PySem.Spec PyProof.Rows PySem.W
structure yL (K:Frag) (D C:Addr):Prop where
 obj:∃ nm q N bs sn sub ab col dd k0 k1 k2 k3 k5,K.lookup C=some (excClassObj nm q C N bs (.ref D :: veM) true sn sub ab col dd k0 k1 k2 k3 k5 "ValueError.__new__")
 ne:C≠D
theorem cE.sub {K:Frag} {D fI C:Addr} (c:cE K D fI C):yL K D C:=⟨c.obj,c.ne⟩
section
variable {X:Cx} {D fI:Addr}
theorem AC {M:Eb} {h:Heap}:D_ M h (isType (.type "ValueError")) true:=fun A Q E s k q=>ξ q
theorem bd:bU X (.builtin "isinstance") (fun xs H Q=>∃ a C dx c,xs=[.ref a,c]/\H a=some (Xh C dx a)/\cE X.K D fI C/\((∃ C' b,c=.ref C'/\yL X.K D C'/\decide (C'=C)=b/\Q (.bl b) H)\/(c=.ty "ValueError"/\Q (.bl true) H))):=by
 intro pins s σ H xs us Q I r h
 obtain ⟨a,C,dx,c0,rfl,ha,c,h⟩:=h
 obtain ⟨u,w',rfl,rx,rn⟩:=lY r
 obtain rfl:u=Η a:=rx
 obtain ⟨⟨ws,sl,ho,_⟩,_⟩:=I.hok a _ ha
 obtain ⟨nm,q',N,bs,sn,sub,ab,col,dd,k0,k1,k2,k3,k5,lk⟩:=c.obj
 have KX:=I.kIn
 have tk1:=I.tok (s.toks + 1)
 obtain ⟨hh,g,d,tk,os⟩:=s
 rcases h with ⟨C',b,rfl,c',rfl,q⟩ | ⟨rfl,q⟩
 ·obtain rfl:w'=Η C':=rn
  obtain ⟨nm',q'',N',bs',sn',sub',ab',col',dd',j0,j1,j2,j3,j5,lk'⟩:=c'.obj
  have hC':hh.get? C'=_:=KX _ _ lk'
  by_cases z:C'=C
  ·subst z
   rw [decide_eq_true rfl] at q
   exact tZ ho rfl ⟨.bl true,H,I,rfl,q⟩
  ·rw [decide_eq_false z] at q
   have hty:D_ (model X.prog X.w) hh (typeOf (.ref C')) (.type "type"):=fun A Q E s k q=>by
    unfold typeOf
    exact γ (Ei (k _ _ hC') (ξ q))
   have e1:(Η C == Η C')=false:=by simp [ϊ z]
   have e2:(Η D == Η C')=false:=by simp [ϊ c'.ne]
   refine xv F.attrBase_ValueError (KX _ _ lk) ho rfl (by decide) (fP KX c.cl) (fP KX c.ga) (fP KX c.gh) e1 ?_ hty (ym hC') ⟨.bl false,H,tk1,rfl,q⟩
   rw [Du,Du]
   have f1:(Η C' == Η C)=false:=by simp [z]
   have f2:(Η C' == Η D)=false:=by simp [c'.ne]
   rw [f1,f2]; rfl
 ·obtain rfl:w'=v_ "ValueError":=rn
  exact rK (KX _ _ lk) ho rfl rfl (bh.up (bh.up (by decide))) (D_.of_pure qJ) AC ⟨.bl true,H,I,rfl,q⟩
variable {o:Expr} {to:TE} {pos:Pos}
def tXf (K:Frag) (D fI:Addr) (to:TE):TE:=fun σ H Q=>to σ H fun x H1=>∃ a C dx v,x=.ref a/\H1 a=some (Xh C dx a)/\cE K D fI C/\H1 dx=some (.xd [("place",v)])/\Q v H1
theorem pe_xfld (he:PE X o to) (hb:attributeBase o "place" X.env (eval o X.env)=eval o X.env:=by rfl):PE X (.Attribute o "place" pos) (tXf X.K D fI to):=by
 intro pins s σ H Q I h
 refine xq hb (thn (he pins s σ H _ I h) fun u s1 ⟨x,H1,I1,rx,a,C,dx,v,ex,ha,c,hd,q⟩=>?_)
 subst ex
 obtain rfl:u=Η a:=rx
 obtain ⟨⟨ws,sl,ho,_⟩,_⟩:=I1.hok a _ ha
 obtain ⟨mA,hn,rel⟩:=I1.hok dx _ hd
 obtain ⟨nm,q',N,bs,sn,sub,ab,col,dd,k0,k1,k2,k3,k5,lk⟩:=c.obj
 have rp:=rel "place"
 have KX:=I1.kIn
 have tk1:=I1.tok (s1.toks + 1)
 obtain ⟨hh,g,d,tk,os⟩:=s1
 cases em:mA "place" with
 | none=>rw [em] at rp; exact rp.elim
 | some u=>
  rw [em] at rp
  have rp:ay v u:=rp
  exact yP F.attrBase_ValueError (KX _ _ lk) (fP KX c.ga) (fP KX c.gh) (fP KX c.pl) ho hn em (by rw [handedOut_of (sJ rp)]) ⟨v,H1,tk1,rp,q⟩
end
theorem pM:entryFor table "proto.unchain"=some Ϣ.«proto.unchain»:=entryFor_of_fast (by kernel_rfl)
section
variable {prog:Β} {w:Ξ} {A:Φ} {E:δ->ι->Prop} {s:ι} {e:Addr}
theorem oF {α:Type} {a:Addr} {oa oe:Obj} {vs ws:Array δ} {Q:α->ι->Prop} (hh:A.handled=some (.ref e)) (he:s.heap.get? e=some oe) (hde:oe.data=.fields ws) (h2:ws[2]?=some .none) (ha:s.heap.get? a=some oa) (hda:oa.data=.fields vs) (hz:2 < vs.size) (ne:e≠a)
  (h:E (.ref a) { s with heap:=s.heap.update a (CN (·.setIfInBounds 2 (.ref e))) }):wpAny (model prog w) A (raiseNew (.ref a):Sem α) Q E s:=by
 unfold raiseNew
 refine γ (wpAny_handled ?_)
 rw [hh]
 show wpAny _ _ (if (Η e != Η a)=true then _ else _) _ _ _
 rw [if_pos (by simp [ne])]
 refine γ (a7 (Ef (t_ pM ?_)))
 refine γ (ϣ he hde h2 ?_)
 rw [if_pos (by decide)]
 refine γ (ξ (ξ ?_))
 exact γ (B4 ha hda hz (wpAny_throw h))
theorem uW {it l:Addr} {i:Nat} {items:Array δ} {oe:Obj} {ws:Array δ} {Q:Option δ->ι->Prop} (hh:A.handled=some (.ref e)) (he:s.heap.get? e=some oe) (hde:oe.data=.fields ws) (h2:ws[2]?=some .none) (hit:s.heap.IsListIter it l i) (hl:s.heap.IsList l items) (hx:items[i]?=none) (ne:e≠it)
  (hQ:∀ h',Heap.ExtBut it s.heap h'->Q none { s with heap:=h' }):wpAny (model prog w) A (pyNext (.ref it)) Q E s:=by
 obtain ⟨o1,ho1,_,hd1⟩:=id hit
 obtain ⟨o2,ho2,_,n2,hd2⟩:=hl
 unfold pyNext
 refine γ (wpAny_attempt (Ϸ (name:=η "__next__") hit.typeIs slot_listiter_next (a9 slot_listiter_next hit.typeIs entry_listiter_next ?_ (args_listiter_next _))))
 show wpAny (model prog w) A.in1 (field (.ref it) 0 >>= _) _ _ s
 refine γ (ϣ ho1 hd1 (x:=.ref l) rfl ?_)
 show wpAny (model prog w) A.in1 (if (Η l == Ϭ)=true then _ else _) _ _ s
 rw [if_neg (by simp)]
 show wpAny (model prog w) A.in1 (field (.ref it) 1 >>= _) _ _ s
 refine γ (ϣ ho1 hd1 (x:=.int i 0) rfl ?_)
 show wpAny (model prog w) A.in1 (seqItems? (.ref l) >>= _) _ _ s
 refine γ (j7 ho2 hd2 ?_)
 simp only [hx,l_]
 refine γ (o_ (γ (B4 ho1 hd1 (by simp) ?_)))
 show wpAny (model prog w) A.in1 (newExc (.type "StopIteration") [] >>= _) _ _ _
 refine γ ?_
 simp only [newTuple,newExc]
 refine γ (ϖ (γ (m:=firstArgMember _ _) (wpAny_of_eq (a:=Ϭ) (by first | rfl | (simp only [firstArgMember]; rfl)) (ϖ ?_ (by size_fits)))) (by size_fits))
 have x1:=(x_ s.heap it (CN (·.setIfInBounds 0 Ϭ))).extBut
 refine oF (A:=A.in1) hh (ν _ (ν _ (x1 e oe ne he))) hde h2 (Γ _ rfl) rfl (by rw [Array.size_append]; exact ώ (by decide:2 < 6) (k7 6 _)) ?_ ?_
 ·refine Τ ?_
  simp only [ϟ]
  exact j6 (υ (x1 e oe ne he))
 ·refine γ (DM (T:="StopIteration") (b:=true) ⟨_,Ϝ _ (Γ _ rfl) rfl,rfl⟩ isSubtype_stop (ξ (hQ _ fun b o hb z=>?_)))
  have y:=x1 b o hb z
  rw [ύ _ _ (i5 (by simp only [ϟ]; exact j6 (υ y)))]
  exact ν _ (ν _ y)
theorem su {it ax:Addr} {C dx:Addr} (hh:A.handled=some (.ref e)) (hne:ax≠it) (ne:e≠it) (items:Array δ) :
  Eu prog w A it [it,ax,e] [it] items.size (fun i v=>items[i]?=some v) (fun i h=>(h.IsListIter it ax i/\h.IsList ax items)/\∃ ws sl,h.get? e=some { cls:=.ref C,dict:=some dx,data:=.fields ws,slots:=sl }/\ws[2]?=some .none) where
 sub:=fun b hb=>by rw [ε.mp hb]; simp
 frame:=fun _ _ _ st hk=>⟨⟨st.1.1.at fun o q=>hk it (by simp) o q,st.1.2.at fun o q=>hk ax (by simp) o q⟩,let ⟨ws,sl,q,z⟩:=st.2; ⟨ws,sl,hk e (by simp) _ q,z⟩⟩
 item:=fun i s Q E hi st hQ=>by
  refine wpAny_pyNext_list_item st.1.1 st.1.2 (x:=items[i]) (by simp [hi]) fun h' t1 t2=>?_
  obtain ⟨ws,sl,q,z⟩:=st.2
  exact hQ _ h' s.toks (by simp [hi]) ⟨⟨t1,st.1.2.extBut t2.extBut hne⟩,ws,sl,t2.extBut e _ ne q,z⟩ fun b o hb q=>t2.extBut b o (fun y=>hb (by simp [y])) q
 done:=fun s Q E st hQ=>by
  obtain ⟨ws,sl,q,z⟩:=st.2
  exact uW hh q rfl z st.1.1 st.1.2 (by simp) ne fun h' t=>hQ h' s.toks fun b o hb q=>t b o (fun y=>hb (by simp [y])) q
 self:=fun _ _ _ _ st hQ=>wpAny_pyIter_listiter st.1.1 hQ
end
theorem sN {X:Cx} {e:Addr} (hh:X.A.handled=some (.ref e)):bU X (.builtin "any") (fun xs H Q=>∃ (a:Addr) (bs:List Bool) (C dx:Addr),xs=[.ref a]/\H a=some (.lst (bs.map V.bl))/\H e=some (Xh C dx e)/\Q (.bl (bs.any id)) H):=by
 intro pins s σ H xs us Q I r h
 obtain ⟨a,bs,C,dx,rfl,hq,hx,q⟩:=h
 obtain ⟨u,rfl,ru⟩:=cO r
 cases ru
 obtain ⟨its,rv,p,hz⟩:=I.list (SqL.of hq)
 have hl:=p.isList
 have hlt:a < s.heap.objs.size:=by obtain ⟨_,q,_⟩:=hl; exact υ q
 obtain ⟨⟨ws,sl,ho,h2⟩,_⟩:=I.hok e _ hx
 refine call_any_walk (Co hl ?_)
 refine ⟨s.heap.objs.size,_,_,its.toArray.size,_,_,fun i=>(bs[i]?).getD false,rfl,su (A:=X.A.in1) (C:=C) (dx:=dx) hh (Τ hlt) (Τ (υ ho)) its.toArray,
  ⟨⟨⟨_,Γ _ rfl,rfl,rfl⟩,hl.push _⟩,ws,sl,ν _ ho,h2⟩,fun i v s' Q' E' hP hQ=>?_,fun h' tk hk=>?_⟩
 ·obtain ⟨b,z,rfl⟩:=iS rv i v (by simpa using hP)
  have hQ:Q' ((bs[i]?).getD false) s':=hQ
  rw [z] at hQ
  exact ϯ hQ
 ·have hlen:=rv.length
  have z:((Ω its.toArray.size).any fun i=>(bs[i]?).getD false)=bs.any id:=by
   rw [ρ,<- hlen,ζ,i6,a_,a_]
   constructor
   ·rintro ⟨i,hi,z⟩
    have hi':=ϸ.mp hi
    rw [Ζ hi'] at z
    exact ⟨_,k8 hi',z⟩
   ·rintro ⟨b,hb,z⟩
    obtain ⟨i,hi,rfl⟩:=e_ hb
    exact ⟨i,ϸ.mpr hi,by rw [Ζ hi]; exact z⟩
  rw [z]
  exact ⟨.bl _,H,I.kept (fj hk),rfl,q⟩
end L2.EX
namespace L2.EX
open PySem PySem.Spec PyProof.Rows PySem.W
section
variable {P:Β} {w:Ξ} {K:Frag} {mg:Str->Option δ} {base:Heap}
theorem okX {x qual:Str} {st:Stmt} {f:Addr} {fd:Μ} {N ps:List Str} {k:Nat} {sp:Sp} (F:Fun K x qual st f fd) (S:ap N ps (ai st)) (len:∀ vs H Q E,sp vs H Q E->vs.length=ps.length)
  (hbody:∀ (cdv:δ) (A:Φ) (outer:List Env) (s:ι) (H:Hp) (vs:List V) (Q:VK) (E:XK),bH k (A.deeper (envOfC qual (ai st) s.heap.objs.size f cdv))->sp vs H Q E ->
   ∃ t,PSs (de (CXe P w) P w K mg base N qual (ai st) f cdv A outer s H E) (bA st) t/\t { nx:=fun _ H'=>Q .non H',rt:=Q } (en N vs) H):aK P w K mg base (CXe P w) (k + 1) f fd ps sp:=by
 obtain ⟨oc,od,kV,doc,pm,an,cdv,ct,osl,rfl,lk,hcd⟩:=F.ex
 exact vX lk hcd S len fun A outer s H vs Q E hr hsp=>hbody cdv A outer s H vs Q E hr hsp
structure mX (P:Β) (w:Ξ) (K:Frag) (mg:Str->Option δ) (base:Heap) (k:Nat) (x:Str) (ps:List Str) (sp:Sp):Prop where
 ex:∃ f fd,aK P w K mg base (CXe P w) k f fd ps sp/\bG K fd ps []/\keepIn K (.ref f)=true/\mg x=some (.ref f)
theorem mX.up {j k:Nat} {x:Str} {ps:List Str} {sp:Sp} (d:mX P w K mg base j x ps sp) (h:j<=k):mX P w K mg base k x ps sp:=
 let ⟨f,fd,F,b,kp,m⟩:=d.ex
 ⟨f,fd,F.mono h,b,kp,m⟩
variable {N:List Str} {qual:Str} {scope:Cm} {f0:Addr} {cd:δ} {A:Φ} {outer:List Env} {s0:ι} {H0:Hp} {E:XK} {k:Nat} {x:Str} {ps:List Str} {sp:Sp} {p pos:Pos} {e:Expr} {es:List Expr} {t:TA}
theorem pe_defX (d:mX P w K mg base k x ps sp) (hr:bH k (A.deeper (envOfC qual scope s0.heap.objs.size f0 cd))) (hg:Gl (de (CXe P w) P w K mg base N qual scope f0 cd A outer s0 H0 E) x) (ha:PA (de (CXe P w) P w K mg base N qual scope f0 cd A outer s0 H0 E) (e :: es) t) (hdb:(x == ("__debug__" : Str))=false:=by decide)
  (he:starEach (e :: es) (de (CXe P w) P w K mg base N qual scope f0 cd A outer s0 H0 E).env=(false,eval e (de (CXe P w) P w K mg base N qual scope f0 cd A outer s0 H0 E).env) :: starEach es (de (CXe P w) P w K mg base N qual scope f0 cd A outer s0 H0 E).env:=by rfl)
  (hpl:(backTo pos (starEach es (de (CXe P w) P w K mg base N qual scope f0 cd A outer s0 H0 E).env)).any (·.1)=false:=by rfl):PE (de (CXe P w) P w K mg base N qual scope f0 cd A outer s0 H0 E) (.Call (.Name x p) (e :: es) [] pos) (wa sp [] E t):=by
 obtain ⟨f,fd,F,b,kp,m⟩:=d.ex
 exact qL F hr hg m kp b .nil wt ha hdb he hpl
end
end L2.EX
namespace L2
open PySem PySem.Spec PyProof.Rows PySem.W
def txW:δ->Str
 | .str x _=>x
 | _=>default
theorem mZ:∀ {ps:List Str} {its:List δ},au (ps.map V.str) its->its.map txW=ps/\∀ u∈its,∃ t,u=ϲ (txW u) t
 | [],_,.nil=>⟨rfl,by simp⟩
 | p :: ps,u :: its,.cons r t=>by
  obtain ⟨k,rfl⟩:=(show ∃ k,u=ϲ p k from r)
  obtain ⟨h1,h2⟩:=mZ t
  refine ⟨by rw [Ο,h1]; rfl,fun v hv=>?_⟩
  rcases θ.mp hv with rfl | hv
  ·exact ⟨k,rfl⟩
  ·exact h2 v hv
section
variable {X:Cx}
def xb:V->List V->Hp->VK->Prop:=fun x vs H Q=>∃ l xs,∃ (i:Int),∃ y,x=.ref l/\vs=[.int i,y]/\H l=some (.lst xs)/\0<=i/\i<=xs.length/\xs.length < 1000/\Q .non (upd H l (.lst (xs.take i.toNat ++ y :: xs.drop i.toNat)))
theorem jU:MtM X "list.insert" xb:=by
 intro pins s σ H x vs v us Q I rx rv h
 obtain ⟨l,xs,i,y,rfl,rfl,hH,h0,hi,hz,q⟩:=h
 cases rx
 obtain ⟨u,w',rfl,⟨t,rfl⟩,ry⟩:=lY rv
 obtain ⟨z,its,n,r,hl,e⟩:=I.lstM hH
 have fits:¬ (!Builtin.List.listFitsIndex i)=true:=by
  unfold Ϣ.List.listFitsIndex
  have h1:decide (-(2 ^ 63:Int)<=i)=true:=decide_eq_true (by omega)
  have h2:decide (i < 2 ^ 63)=true:=decide_eq_true (by omega)
  rw [h1,h2]; decide
 have sz:its.toArray.size<=sizeLine:=by rw [ρ,<- hl]; exact z
 refine j4 F.slot_list_insert ⟨_,e,rfl⟩ F.entry_list_insert (F.args_list_insert_3 _ _ _) (AutoListH.list_insert_list_int_val_1 l its.toArray n i t w' fits sz) ⟨e,?_⟩
 have vv:au (xs.take i.toNat ++ y :: xs.drop i.toNat) (its.take i.toNat ++ w' :: its.drop i.toNat):=au.append (r.take _) (.cons ry (r.drop _))
 refine ⟨.non,_,I.lset (its':=its.take i.toNat ++ w' :: its.drop i.toNat) hH e ?_ vv ?_,rfl,q⟩
 ·have hk:(if i < 0 then (i + ((its.toArray.size:Nat):Int)).toNat else min i.toNat its.toArray.size)=i.toNat:=by
   rw [if_neg (by omega),ρ]; omega
  show (its.toArray.extract 0 (if i < 0 then (i + ((its.toArray.size:Nat):Int)).toNat else min i.toNat its.toArray.size)).push w' ++ its.toArray.extract (if i < 0 then (i + ((its.toArray.size:Nat):Int)).toNat else min i.toNat its.toArray.size)=_
  rw [hk]
  apply Array.ext'
  simp
  exact m9 (by rw [ϧ]; omega)
 ·rw [ς,Υ,Ρ,ϧ,ψ]; omega
def yG:V->List V->Hp->VK->Prop:=fun x vs H Q=>∃ l,∃ (ps:List Str) (z:Str),x=.ref l/\vs=[.str z]/\H l=some (.lst (ps.map V.str))/\z∈ps/\ps.length<=1000/\Q (.int (ps.idxOf z:Nat)) H
theorem uF:MtM X "list.index" yG:=by
 intro pins s σ H x vs v us Q I rx rv h
 obtain ⟨l,ps,z,rfl,rfl,hH,hm,hz,q⟩:=h
 cases rx
 obtain ⟨u,rfl,t,rfl⟩:=rv.one
 obtain ⟨_,its,n,r,hl,e⟩:=I.lstM hH
 obtain ⟨tx,ty⟩:=mZ r
 have hj:ps.idxOf z < ps.length:=List.idxOf_lt_length_iff.mpr hm
 have hl':its.length=ps.length:=by rw [<- hl,ζ]
 have at_:∀ m (h:m < its.toArray.size),txW its.toArray[m]=ps[m]'(by simp at h; omega):=fun m h=>by
  simp only [<- tx,CF,List.getElem_toArray]
 refine j4 F.slot_list_index ⟨_,e,rfl⟩ F.entry_list_index (F.args_list_index_2 _ _) (SeqAt.list_indexAt l its.toArray n none #[] (.str z t) (fun v=>txW v == z) (ps.idxOf z) (by rw [ρ]; omega) (by omega) ?_ fun m hm2 h2=>?_) ⟨e,fun v hv=>?_,⟨.int (ps.idxOf z:Nat),H,I.tok _,⟨_,rfl⟩,q⟩⟩
 ·rw [at_,List.getElem_idxOf hj]; exact beq_self_eq_true _
 ·rw [at_ m hm2]
  have:=List.not_of_lt_findIdx (p:=(· == z)) (xs:=ps) (by simpa [List.idxOf] using h2)
  simpa using this
 ·obtain ⟨t',e'⟩:=ty v (by simpa using hv)
  rw [e']
  exact Dk _ _ _ _
end
end L2
namespace WR
open PySem L2 L2.EX
structure Bx (p:Prop):Prop where
 h:p
theorem ar {p:Prop} (h:p):autoParam p Lean.Syntax.missing:=h
def okV (N:List Str) (sc:Cm) (i:Nat) (x:Str):Bool:=decide (N[i]?=some x) && ((sc.names.lookup x == some .local || sc.names.lookup x == some .cell || sc.names.lookup x == some .free) && (x == ("__debug__" : Str) || x == ("__classdict__" : Str)) == false)
theorem wv {X:Cx} (i:Nat) {x:Str} {pos:Pos} (h:okV X.N X.env.scope i x=true):Bx (PE X (.Name x pos) (fw i)):=by
 simp only [okV,Θ,CW,decide_eq_true_eq,beq_iff_eq] at h
 obtain ⟨a,b,c⟩:=h
 have c1:=Bool.or_eq_false_iff.mp c
 exact ⟨pv i a (by rcases b with (b | b) | b; exact .inl b; exact .inr (.inl b); exact .inr (.inr b)) c1.1 c1.2⟩
def wab:=fun {v0 v1 v2} (v3:Bx _)=>Bx.mk (@L2.PW.pt v0 v1 v2 v3.h)
def wac:=fun {v0 v1 v2 v3 v4 v5 v6 v7} (v8:Bx _) (v9:Bx _) (v10:Bx _)=>Bx.mk (@L2.pe_ifExp v0 v1 v2 v3 v4 v5 v6 v7 v8.h v9.h v10.h)
def wae:=fun {v0 v1 v2 v3 v4} (v5:Bx _) (v6:Bx _) v7=>Bx.mk (@L2.pa_cons v0 v1 v2 v3 v4 v5.h v6.h (ar v7))
def waf:=fun {v0}=>Bx.mk (@L2.pa_nil v0)
def wag:=fun {v0 v1 v2 v3 v4 v5 v6} (v7:Bx _) (v8:Bx _)=>Bx.mk (@L2.pe_and v0 v1 v2 v3 v4 v5 v6 v7.h v8.h)
def wah:=fun {v0 v1 v2 v3}=>Bx.mk (@L2.pe_bl v0 v1 v2 v3)
def wai:=fun {v0 v1 v3 v4} v2 v5 v6 v7 v8 v9 v10=>Bx.mk (@L2.pe_bltn v0 v1 v2 v3 v4 v5 v6 v7 v8 (ar v9) (ar v10))
def waj:=fun {v0 v1 v2 v3 v4 v5 v6 v7 v8 v9 v10 v11} v12 v13 v14 v15 (v16:Bx _) (v17:Bx _) v18 v19 v20 v21 v22=>Bx.mk (@L2.pe_bm v0 v1 v2 v3 v4 v5 v6 v7 v8 v9 v10 v11 v12 v13 v14 v15 v16.h v17.h (ar v18) (ar v19) (ar v20) (ar v21) (ar v22))
def wak:=fun {v0 v1 v2 v3 v4 v5 v6 v7 v8} v9 v10 v11 v12 (v13:Bx _) v14 v15=>Bx.mk (@L2.pe_bm0 v0 v1 v2 v3 v4 v5 v6 v7 v8 v9 v10 v11 v12 v13.h (ar v14) (ar v15))
def wal:=fun {v0 v1 v2 v3 v4 v5 v6 v7 v8} v9 v10 v11 v12 (v13:Bx _) v14 v15 v16 v17=>Bx.mk (@L2.pe_callB v0 v1 v2 v3 v4 v5 v6 v7 v8 v9 v10 v11 v12 v13.h (ar v14) (ar v15) (ar v16) (ar v17))
def wam:=fun {v0 v1 v2 v3 v4 v5 v6 v7 v8} v9 v10 v11 v12 (v13:Bx _) v14 v15 v16 v17=>Bx.mk (@L2.pe_callTy v0 v1 v2 v3 v4 v5 v6 v7 v8 v9 v10 v11 v12 v13.h (ar v14) (ar v15) (ar v16) (ar v17))
def wan:=fun {v0 v1 v2 v3 v4 v5 v6 v7 v8 v9 v10 v11} v12 v13 v14 v15 v16 (v17:Bx _) v18 v19 v20 v21 v22 v23=>Bx.mk (@L2.pe_callV v0 v1 v2 v3 v4 v5 v6 v7 v8 v9 v10 v11 v12 v13 v14 v15 v16 v17.h (ar v18) (ar v19) (ar v20) (ar v21) (ar v22) (ar v23))
def wao:=fun {v0 v1 v2 v3 v4 v5 v6 v7 v8 v9 v10 v11} v12 v13 (v14:Bx _) (v15:Bx _) (v16:Bx _) v17=>Bx.mk (@L2.pe_chain v0 v1 v2 v3 v4 v5 v6 v7 v8 v9 v10 v11 v12 v13 v14.h v15.h v16.h (ar v17))
def wap:=fun {v0 v1 v2 v3 v4 v5 v6 v7} v8 (v9:Bx _) (v10:Bx _) v11=>Bx.mk (@L2.pe_cmpR v0 v1 v2 v3 v4 v5 v6 v7 v8 v9.h v10.h v11)
def waq:=fun {v0 v1 v2 v3 v4 v5 v6 v7 v8 v9} v10 v11 v12 (v13:Bx _) v14 v15 v16=>Bx.mk (@L2.pe_def v0 v1 v2 v3 v4 v5 v6 v7 v8 v9 v10 v11 v12 v13.h (ar v14) (ar v15) (ar v16))
def waA:=fun {v0 v1}=>Bx.mk (@L2.pe_dnewK v0 v1)
def waB:=fun {v0 v1 v3 v4} v2 v5 v6 v7 v8=>Bx.mk (@L2.pe_glob v0 v1 v2 v3 v4 v5 v6 v7 (ar v8))
def waC:=fun {v0 v1 v2 v3}=>Bx.mk (@L2.pe_int v0 v1 v2 v3)
def waD:=fun {v0 v1 v2 v3 v4 v5 v6} v7 (v8:Bx _) (v9:Bx _) v10=>Bx.mk (@L2.pe_ix v0 v1 v2 v3 v4 v5 v6 v7 v8.h v9.h v10)
def waE:=fun {v0 v1 v4 v5 v6 v7 v8 v9 v10 v11 v12} v2 v3 (v13:Bx _) v14 v15 (v16:∀ x0 x1 x2,Bx _) v17 (v18:∀ x0 x1 x2,Bx _) (v19:∀ x0 x1 x2,Bx _) v20=>Bx.mk (@L2.pe_lc v0 v1 v2 v3 v4 v5 v6 v7 v8 v9 v10 v11 v12 v13.h v14 v15 (fun x0 x1 x2=>(v16 x0 x1 x2).h) v17 (fun x0 x1 x2=>(v18 x0 x1 x2).h) (fun x0 x1 x2=>(v19 x0 x1 x2).h) (ar v20))
def waF:=fun {v0 v1 v2 v3 v4 v5 v6} v7 v8 v9 v10 v11 (v12:Bx _) v13 v14=>Bx.mk (@L2.pe_listrev v0 v1 v2 v3 v4 v5 v6 v7 v8 v9 v10 v11 v12.h (ar v13) (ar v14))
def waM:=fun {v0 v1 v2 v3} (v4:Bx _)=>Bx.mk (@L2.pe_lst v0 v1 v2 v3 v4.h)
def waN:=fun {v0 v1 v2}=>Bx.mk (@L2.pe_non v0 v1 v2)
def waO:=fun {v0 v1 v2 v3} (v4:Bx _)=>Bx.mk (@L2.pe_not v0 v1 v2 v3 v4.h)
def waP:=fun {v0 v1 v2 v3 v4} (v5:Bx _)=>Bx.mk (@L2.pe_one v0 v1 v2 v3 v4 v5.h)
def waQ:=fun {v0 v1 v2 v3 v4 v5 v6 v7} v8 (v9:Bx _) (v10:Bx _)=>Bx.mk (@L2.pe_op v0 v1 v2 v3 v4 v5 v6 v7 v8 v9.h v10.h)
def waR:=fun {v0 v1 v2 v3 v4 v5 v6} (v7:Bx _) (v8:Bx _)=>Bx.mk (@L2.pe_or v0 v1 v2 v3 v4 v5 v6 v7.h v8.h)
def waT:=fun {v0 v1 v2 v3 v4 v5 v6 v7 v8 v9} v10 (v11:Bx _) (v12:Bx _) (v13:Bx _)=>Bx.mk (@L2.pe_slice v0 v1 v2 v3 v4 v5 v6 v7 v8 v9 v10 v11.h v12.h v13.h)
def waV:=fun {v0 v1 v2 v3}=>Bx.mk (@L2.pe_str v0 v1 v2 v3)
def waX:=fun {v0 v1 v2 v3 v4} (v5:Bx _)=>Bx.mk (@L2.pe_tup v0 v1 v2 v3 v4 v5.h)
def waY:=fun {v0 v1 v2 v3 v4 v5} v6 (v7:Bx _)=>Bx.mk (@L2.pe_un v0 v1 v2 v3 v4 v5 v6 v7.h)
def waZ:=fun {v0 v1 v3} v2 v4 v5 v6 v7=>Bx.mk (@L2.pg_name v0 v1 v2 v3 v4 v5 v6 (ar v7))
def wba:=fun {v0 v1 v2 v3 v4 v5 v6} (v7:Bx _) (v8:Bx _) v9 v10=>Bx.mk (@L2.pg_sub v0 v1 v2 v3 v4 v5 v6 v7.h v8.h v9 (ar v10))
def wbb:=fun {v0 v1 v2 v3 v4 v5} v6 (v7:Bx _) v8 v9=>Bx.mk (@L2.pg_tup v0 v1 v2 v3 v4 v5 v6 v7.h (ar v8) (ar v9))
def wbd:=fun {v0 v1 v2 v3 v4} (v5:Bx _) (v6:Bx _) v7=>Bx.mk (@L2.pgs_cons v0 v1 v2 v3 v4 v5.h v6.h (ar v7))
def wbe:=fun {v0}=>Bx.mk (@L2.pgs_nil v0)
def wbg:=fun {v0 v1 v2 v3 v4 v5 v6 v7} v8 v9 (v10:Bx _) v11=>Bx.mk (@L2.pi_enum v0 v1 v2 v3 v4 v5 v6 v7 v8 v9 v10.h (ar v11))
def wbi:=fun {v0 v1 v2 v3} (v4:Bx _)=>Bx.mk (@L2.pi_list v0 v1 v2 v3 v4.h)
def wbk:=fun {v0 v1 v2 v3 v4 v5} v6 v7 (v8:Bx _) v9=>Bx.mk (@L2.pi_range1 v0 v1 v2 v3 v4 v5 v6 v7 v8.h (ar v9))
def wbm:=fun {v0 v1 v2 v3 v4 v5 v6 v7} v8 v9 (v10:Bx _) v11 v12=>Bx.mk (@L2.pi_range3 v0 v1 v2 v3 v4 v5 v6 v7 v8 v9 v10.h (ar v11) (ar v12))
def wbn:=fun {v0 v1 v2 v3} (v4:Bx _)=>Bx.mk (@L2.pi_str v0 v1 v2 v3 v4.h)
def wbo:=fun {v0 v1 v2 v3} (v4:Bx _)=>Bx.mk (@L2.pi_tup v0 v1 v2 v3 v4.h)
def wbs:=fun {v0 v1 v2 v3 v4 v5 v6 v7 v8} v9 v10 (v11:Bx _) v12 v13=>Bx.mk (@L2.pi_zipTT v0 v1 v2 v3 v4 v5 v6 v7 v8 v9 v10 v11.h (ar v12) (ar v13))
def wbu:=fun {v0 v1 v2 v3 v4 v5 v6 v7} v8 (v9:Bx _) (v10:Bx _) v11=>Bx.mk (@L2.pe_getF v0 v1 v2 v3 v4 v5 v6 v7 v8 v9.h v10.h v11)
def wbw:=fun {v0 v1 v2 v3 v4 v5 v6} (v7:Bx _) (v8:Bx _)=>Bx.mk (@L2.pe_revL v0 v1 v2 v3 v4 v5 v6 v7.h v8.h)
def wbx:=fun {v0}=>Bx.mk (@L2.pif_nil v0)
def wbz:=fun {v0}=>Bx.mk (@L2.po_none v0)
def wbA:=fun {v0 v1 v2} (v3:Bx _)=>Bx.mk (@L2.po_some v0 v1 v2 v3.h)
def wbD:=fun {v0 v1 v2 v3 v4 v5} (v6:Bx _) (v7:Bx _) v8 v9 v10=>Bx.mk (@L2.ps_asg v0 v1 v2 v3 v4 v5 v6.h v7.h (ar v8) (ar v9) (ar v10))
def wbE:=fun {v0 v1 v3 v4 v5 v6 v7 v8} v2 v9 v10 v11 (v12:Bx _) v13 v14=>Bx.mk (@L2.ps_aug v0 v1 v2 v3 v4 v5 v6 v7 v8 v9 v10 v11 v12.h v13 (ar v14))
def wbF:=fun {v0 v1 v2 v3 v4 v5 v6 v7 v8} v9 (v10:Bx _) (v11:Bx _) (v12:Bx _) v13=>Bx.mk (@L2.ps_dput v0 v1 v2 v3 v4 v5 v6 v7 v8 v9 v10.h v11.h v12.h v13)
def wbG:=fun {v0 v1 v2 v3} (v4:Bx _) v5=>Bx.mk (@L2.ps_expr v0 v1 v2 v3 v4.h (ar v5))
def wbH:=fun {v0 v1 v2 v3 v4 v5 v6 v7} v8 v9 (v10:Bx _) (v11:Bx _) (v12:Bx _) v13=>Bx.mk (@L2.ps_for v0 v1 v2 v3 v4 v5 v6 v7 v8 v9 v10.h v11.h v12.h (ar v13))
def wbI:=fun {v0 v1 v2 v3 v4 v5 v6 v7} (v8:Bx _) (v9:Bx _) (v10:Bx _)=>Bx.mk (@L2.ps_if v0 v1 v2 v3 v4 v5 v6 v7 v8.h v9.h v10.h)
def wbJ:=fun {v0 v1 v4 v5 v6 v7 v8 v9 v10 v11 v12 v13 v14 v16} v2 v3 v15 v17 v18 v19 (v20:Bx _) v21 v22 (v23:∀ x0 x1 x2,Bx _) v24 (v25:∀ x0 x1 x2,Bx _) (v26:∀ x0 x1 x2,Bx _) v27 v28=>Bx.mk (@L2.ps_lc v0 v1 v2 v3 v4 v5 v6 v7 v8 v9 v10 v11 v12 v13 v14 v15 v16 v17 v18 v19 v20.h v21 v22 (fun x0 x1 x2=>(v23 x0 x1 x2).h) v24 (fun x0 x1 x2=>(v25 x0 x1 x2).h) (fun x0 x1 x2=>(v26 x0 x1 x2).h) (ar v27) (ar v28))
def wbK:=fun {v0 v1 v2 v3} (v4:Bx _)=>Bx.mk (@L2.ps_ret v0 v1 v2 v3 v4.h)
def wbM:=fun {v0 v1 v3 v4 v5 v6} v2 v7 v8 v9 (v10:Bx _) v11 v12=>Bx.mk (@L2.ps_set v0 v1 v2 v3 v4 v5 v6 v7 v8 v9 v10.h (ar v11) (ar v12))
def wbN:=fun {v0 v1 v2 v3 v4 v5} v6 (v7:Bx _) (v8:Bx _)=>Bx.mk (@L2.ps_while v0 v1 v2 v3 v4 v5 v6 v7.h v8.h)
def wbO:=fun {v0 v1 v2 v3 v4} (v5:Bx _) (v6:Bx _)=>Bx.mk (@L2.pss_cons v0 v1 v2 v3 v4 v5.h v6.h)
def wbP:=fun {v0}=>Bx.mk (@L2.pss_nil v0)
def wbQ:=fun {v0 v1 v2} (v3:Bx _)=>Bx.mk (@L2.pss_one v0 v1 v2 v3.h)
def wbR:=fun {v0 v1 v2 v3 v4 v5 v6 v7 v8 v9 v10 v11} v12 v13 (v14:Bx _) (v15:Bx _) (v16:Bx _) v17=>Bx.mk (@L2.pt_chain v0 v1 v2 v3 v4 v5 v6 v7 v8 v9 v10 v11 v12 v13 v14.h v15.h v16.h (ar v17))
def wbS:=fun {v0 v1 v2 v3 v4 v5 v6 v7} v8 (v9:Bx _) (v10:Bx _) v11=>Bx.mk (@L2.pt_cmpR v0 v1 v2 v3 v4 v5 v6 v7 v8 v9.h v10.h v11)
def wbT:=fun {v0 v1 v2 v3} (v4:Bx _)=>Bx.mk (@L2.pt_not v0 v1 v2 v3 v4.h)
def wbU:=fun {v0 v1 v2} (v3:Bx _) v4=>Bx.mk (@L2.pt_truth v0 v1 v2 v3.h v4)
def wbV:=fun {v0 v1 v2} (v3:Bx _) v4=>Bx.mk (@L2.pt_val v0 v1 v2 v3.h (ar v4))
def wbW:=fun {v0 v1 v2 v3 v4 v5 v6} (v7:Bx _) (v8:Bx _)=>Bx.mk (@L2.pw_and v0 v1 v2 v3 v4 v5 v6 v7.h v8.h)
def wbX:=fun {v0 v1 v2 v3} (v4:Bx _)=>Bx.mk (@L2.pw_and1 v0 v1 v2 v3 v4.h)
def wbY:=fun {v0 v1 v2 v3 v4 v5 v6} (v7:Bx _) (v8:Bx _)=>Bx.mk (@L2.pw_or v0 v1 v2 v3 v4 v5 v6 v7.h v8.h)
def wbZ:=fun {v0 v1 v2 v3} (v4:Bx _)=>Bx.mk (@L2.pw_or1 v0 v1 v2 v3 v4.h)
def wca:=fun {v0 v1 v2 v3 v4 v5 v6 v7 v8 v9 v10 v11 v12 v13 v14} v15 v16 v17 v18 v19 v20 v21 (v22:Bx _) v23 v24 v25=>Bx.mk (@L2.EX.ps_raise v0 v1 v2 v3 v4 v5 v6 v7 v8 v9 v10 v11 v12 v13 v14 v15 v16 v17 v18 v19 v20 v21 v22.h (ar v23) (ar v24) (ar v25))
def wcb:=fun {v0 v1 v2 v3 v4 v5 v6 v7 v8 v9 v10 v11 v12 v13 v14 v15 v16 v17 v18 v19 v20 v21 v22 v23} v24 v25 v26 (v27:Bx _) v28 v29 v30=>Bx.mk (@L2.EX.pe_defX v0 v1 v2 v3 v4 v5 v6 v7 v8 v9 v10 v11 v12 v13 v14 v15 v16 v17 v18 v19 v20 v21 v22 v23 v24 v25 v26 v27.h (ar v28) (ar v29) (ar v30))
def wcc:=fun {v0 v3 v4 v5 v6 v7 v8 v9 v10 v11 v12 v13 v14 v15 v16 v18 v19 v20 v21 v22 v23} v1 v2 v17 v24 v25 v26 v27 v28 v29 (v30:Bx _) v31 v32 v33 v34 v35 v36 v37 v38 v39 v40 (v41:∀ x0,Bx _) v42 v43 v44 v45 v46=>Bx.mk (@L2.EX.ps_try v0 v1 v2 v3 v4 v5 v6 v7 v8 v9 v10 v11 v12 v13 v14 v15 v16 v17 v18 v19 v20 v21 v22 v23 v24 v25 v26 v27 v28 v29 v30.h v31 v32 v33 v34 v35 v36 v37 v38 v39 v40 (fun x0=>(v41 x0).h) (ar v42) (ar v43) (ar v44) (ar v45) (ar v46))
def wcd:=fun {v0 v3 v4 v5 v6 v7 v8 v9} v1 v2 v10 v11 v12 (v13:Bx _) v14 v15 v16=>Bx.mk (@L2.EX.pe_vinit v0 v1 v2 v3 v4 v5 v6 v7 v8 v9 v10 v11 v12 v13.h (ar v14) (ar v15) (ar v16))
def wce:=fun {v0 v3 v4 v5 v6 v7 v8} v1 v2 (v9:Bx _) (v10:Bx _) v11=>Bx.mk (@L2.EX.ps_xset v0 v1 v2 v3 v4 v5 v6 v7 v8 v9.h v10.h (ar v11))
def wcf:=fun {v0 v3 v4 v5} v1 v2 (v6:Bx _) v7=>Bx.mk (@L2.EX.pe_xfld v0 v1 v2 v3 v4 v5 v6.h (ar v7))
theorem un {X:Cx} {b:List Stmt} {t:TS} (h:Bx (PSs X b t)):PSs X b t:=h.h
end WR
namespace K28
open PySem L2 KB XB WR
def top (i : Nat) : Stmt := PySem.Challenge.pw_indexwise_k28_first_of_three_faults.main.body.getD i (.Pass ⟨0, 0, 0, 0⟩)
def vK:List Str:=["plus","minus","times","less","same"]
structure Txt (K:PySem.W.Frag) (mg:Str->Option δ):Prop where
 len:mg "len"=none
 isinstance:mg "isinstance"=none
 int:mg "int"=none
 bool:mg "bool"=none
 str:mg "str"=none
 tuple:mg "tuple"=none
 list:mg "list"=none
 all:mg "all"=none
 zip:mg "zip"=none
 range:mg "range"=none
 enumerate:mg "enumerate"=none
 max:mg "max"=none
 set:mg "set"=none
 sorted:mg "sorted"=none
 reversed:mg "reversed"=none
 any:mg "any"=none
 ValueError:mg "ValueError"=none
 lLONGEST_NAME:∃ t,mg "LONGEST_NAME"=some (.int 8 t)
 lGREATEST_SIZE:∃ t,mg "GREATEST_SIZE"=some (.int 12 t)
 lGREATEST_NUMBER:∃ t,mg "GREATEST_NUMBER"=some (.int 99 t)
 lWHOLE_BOUND:∃ t,mg "WHOLE_BOUND"=some (.int 1000000000000 t)
 lMOST_NODES:∃ t,mg "MOST_NODES"=some (.int 40 t)
 lMOST_ABOVE:∃ t,mg "MOST_ABOVE"=some (.int 7 t)
 lMOST_THINGS:∃ t,mg "MOST_THINGS"=some (.int 4 t)
 lMOST_ROWS:∃ t,mg "MOST_ROWS"=some (.int 12 t)
theorem Txt.g_LONGEST_NAME {X:Cx} {pos:Pos} (T:Txt X.K X.mg) (hg:Gl X "LONGEST_NAME"):PE X (.Name "LONGEST_NAME" pos) (tC (.int 8)):=by
 obtain ⟨t,e⟩:=T.lLONGEST_NAME
 exact pe_glob hg e ⟨t,rfl⟩
theorem Txt.g_GREATEST_SIZE {X:Cx} {pos:Pos} (T:Txt X.K X.mg) (hg:Gl X "GREATEST_SIZE"):PE X (.Name "GREATEST_SIZE" pos) (tC (.int 12)):=by
 obtain ⟨t,e⟩:=T.lGREATEST_SIZE
 exact pe_glob hg e ⟨t,rfl⟩
theorem Txt.g_GREATEST_NUMBER {X:Cx} {pos:Pos} (T:Txt X.K X.mg) (hg:Gl X "GREATEST_NUMBER"):PE X (.Name "GREATEST_NUMBER" pos) (tC (.int 99)):=by
 obtain ⟨t,e⟩:=T.lGREATEST_NUMBER
 exact pe_glob hg e ⟨t,rfl⟩
theorem Txt.g_WHOLE_BOUND {X:Cx} {pos:Pos} (T:Txt X.K X.mg) (hg:Gl X "WHOLE_BOUND"):PE X (.Name "WHOLE_BOUND" pos) (tC (.int 1000000000000)):=by
 obtain ⟨t,e⟩:=T.lWHOLE_BOUND
 exact pe_glob hg e ⟨t,rfl⟩
theorem Txt.g_MOST_NODES {X:Cx} {pos:Pos} (T:Txt X.K X.mg) (hg:Gl X "MOST_NODES"):PE X (.Name "MOST_NODES" pos) (tC (.int 40)):=by
 obtain ⟨t,e⟩:=T.lMOST_NODES
 exact pe_glob hg e ⟨t,rfl⟩
theorem Txt.g_MOST_ABOVE {X:Cx} {pos:Pos} (T:Txt X.K X.mg) (hg:Gl X "MOST_ABOVE"):PE X (.Name "MOST_ABOVE" pos) (tC (.int 7)):=by
 obtain ⟨t,e⟩:=T.lMOST_ABOVE
 exact pe_glob hg e ⟨t,rfl⟩
theorem Txt.g_MOST_THINGS {X:Cx} {pos:Pos} (T:Txt X.K X.mg) (hg:Gl X "MOST_THINGS"):PE X (.Name "MOST_THINGS" pos) (tC (.int 4)):=by
 obtain ⟨t,e⟩:=T.lMOST_THINGS
 exact pe_glob hg e ⟨t,rfl⟩
theorem Txt.g_MOST_ROWS {X:Cx} {pos:Pos} (T:Txt X.K X.mg) (hg:Gl X "MOST_ROWS"):PE X (.Name "MOST_ROWS" pos) (tC (.int 12)):=by
 obtain ⟨t,e⟩:=T.lMOST_ROWS
 exact pe_glob hg e ⟨t,rfl⟩
abbrev eL:Stmt:=top 15
abbrev gb:Stmt:=top 16
abbrev gl:Stmt:=top 17
abbrev dR:Stmt:=top 18
abbrev dP:Stmt:=top 19
def bI:Dv->Bool
 | .int _=>true
 | _=>false
def bn:Dv->Bool
 | .str x=>nmB x
 | _=>false
def geD (k:Int):Dv->Bool
 | .int i=>decide (k<=i)
 | _=>false
def eF:Dv->Bool
 | .tup [a,b]=>bn a && (bI b && geD 1 b)
 | _=>false
def headD:Dv->Str
 | .tup (.str x :: _)=>x
 | _=>""
def goD (last:Str):List Dv->Bool
 | []=>true
 | p :: r=>eF p && (decide (last.cps.toList < (headD p).cps.toList) && goD (headD p) r)
def iT:Dv->Bool
 | .tup xs=>goD "" xs
 | _=>false
def nH:Dv->Bool
 | .tup [a,b]=>bI a && (geD 0 a && iT b)
 | _=>false
def spD (f:Dv->Bool):Sp:=fun vs H Q _=>∃ v d,vs=[v]/\Rep H d v/\∀ H',ad H H'->Q (.bl (f d)) H'
section
variable {P:Β} {w:Ξ} {K:PySem.W.Frag} {mg:Str->Option δ} {base:Heap}
theorem nV:ap ["thing"] ["thing"] (ai eL):=⟨rfl,rfl,rfl,by decide +kernel,rfl,by decide +kernel,by decide +kernel⟩
theorem nB {f:Addr} {fd:Μ} (F:Fun K "is_whole" "is_whole" eL f fd) (T:Txt K mg):aK P w K mg base CX0 1 f fd ["thing"] (spD bI):=by
 refine F.ok nV (fun vs H Q E h=>?_) (fun cdv A outer s H vs Q E hr h=>?_)
 ·obtain ⟨v,d,rfl,_⟩:=h
  rfl
 obtain ⟨v,d,rfl,R,q⟩:=h
 refine ⟨_,(@un _ _ _ (wbQ (wbK (wag (wal bo rfl T.isinstance (by decide +kernel) (wae (wv 0 rfl) (wae (wai (.ty "int") rfl T.int (by decide +kernel) rfl (by decide) (by decide)) waf rfl) rfl) (by decide) (by decide) rfl rfl) (waP (waO (wal bo rfl T.isinstance (by decide +kernel) (wae (wv 0 rfl) (wae (wai (.ty "bool") rfl T.bool (by decide +kernel) rfl (by decide) (by decide)) waf rfl) rfl) (by decide) (by decide) rfl rfl))))))),?_⟩
 refine ⟨_,rfl,v,_,_,_,rfl,R.ty,wT K d,_,rfl,?_⟩
 cases d with
 | int i=>exact av ⟨_,rfl,v,_,_,_,rfl,R.ty,oj K _,_,rfl,q H (ad.refl H)⟩
 | bl b=>exact av ⟨_,rfl,v,_,_,_,rfl,R.ty,oj K _,_,rfl,q H (ad.refl H)⟩
 | _=>exact aA (q H (ad.refl H))
end
def spS (f:Dv->Bool):Sp:=fun vs H Q _=>∃ v d,vs=[v]/\Rep H d v/\d.small=true/\∀ H',ad H H'->Q (.bl (f d)) H'
section
variable {P:Β} {w:Ξ} {K:PySem.W.Frag} {mg:Str->Option δ} {base:Heap}
theorem uI (a b:Nat):decide (([a]:List Nat) < [b])=decide (a < b):=by
 by_cases h:a < b
 ·rw [decide_eq_true h]
  exact decide_eq_true (List.cons_lt_cons_iff.mpr (.inl h))
 ·rw [decide_eq_false h]
  exact decide_eq_false fun z=>by
   rcases List.cons_lt_cons_iff.mp z with z | ⟨_,z⟩
   ·exact h z
   ·exact List.not_lt_nil _ z
theorem yJ (x:Str):((Ω x.cps.size).map fun i=>azB (x.cps.getD i 0)).all id=x.cps.toList.all azB:=by
 have e:(Ω x.cps.size).map (fun i=>azB (x.cps.getD i 0))=x.cps.toList.map azB:=by
  apply Cu
  intro i
  rw [Κ,Κ]
  by_cases hi:i < x.cps.size
  ·rw [C6 hi]
   simp [hi]
  ·rw [ϵ (by simpa using hi),ϵ (by simpa using hi)]
   rfl
 rw [e,u9]
 rfl
theorem oO:ap ["thing"] ["thing"] (ai gb):=⟨rfl,rfl,rfl,by decide +kernel,rfl,by decide +kernel,by decide +kernel⟩
theorem oV {f:Addr} {fd:Μ} (F:Fun K "is_name" "is_name" gb f fd) (T:Txt K mg):aK P w K mg base CX0 1 f fd ["thing"] (spS bn):=by
 refine F.ok oO (fun vs H Q E h=>?_) (fun cdv A outer s H vs Q E hr h=>?_)
 ·obtain ⟨v,d,rfl,_⟩:=h
  rfl
 obtain ⟨v,d,rfl,R,hsm,q⟩:=h
 refine ⟨_,(@un _ _ _ (wbO (wbI (wab (wbY (wbT (wbV (wal bo rfl T.isinstance (by decide +kernel) (wae (wv 0 rfl) (wae (wai (.ty "str") rfl T.str (by decide +kernel) rfl (by decide) (by decide)) waf rfl) rfl) (by decide) (by decide) rfl rfl) (by intro _; rfl))) (wbZ (wbT (wbR jP jP waC (wal fL rfl T.len (by decide +kernel) (wae (wv 0 rfl) waf rfl) (by decide) (by decide) rfl rfl) ⟨T.g_LONGEST_NAME rfl⟩ (by with_unfolding_all rfl)))))) (wbQ (wbK wah)) wbP) (wbQ (wbK (wal (fO rfl) rfl T.all (by decide +kernel) (wae (waE ["sign"] [] (wbn (wv 0 rfl)) (.of rfl) rfl (fun _ _ _=>⟨pg_name (i:=0) (cc (l:=["sign"]) ((by decide +kernel)) rfl) rfl (Λ rfl)⟩) (bD (by decide)) (fun _ _ _=>wbx) (fun _ _ _=>(wao gv gv waV (wv 0 rfl) waV (by with_unfolding_all rfl))) (by intro _; rfl)) waf rfl) (by decide) (by decide) rfl rfl))))),?_⟩
 refine ⟨_,rfl,v,_,_,_,rfl,R.ty,lm K d,_,rfl,?_⟩
 cases d with
 | str x=>
  have hx:x.cps.size<=1000:=by simpa [Dv.small] using hsm
  obtain rfl:v=.str x:=R
  refine aA ⟨_,rfl,x,rfl,wU hx,_,_,rfl,rfl,_,rfl,?_⟩
  have no:nmB x=false->Q (.bl false) H:=fun e=>by
   have:=q H (ad.refl H)
   rwa [show bn (.str x)=false from e] at this
  refine aQ (fun h1=>?_) (fun h1=>?_)
  ·refine ⟨_,_,rfl,rfl,_,rfl,?_⟩
   have h1':1<=x.cps.size:=by
    have:=of_decide_eq_true h1
    have e:x.length=x.cps.size:=rfl
    omega
   by_cases h8:x.cps.size<=8
   ·rw [show decide (((x.length:Nat):Int)<=8)=true from decide_eq_true (by have e:x.length=x.cps.size:=rfl; omega)]
    refine aA ?_
    refine ⟨_,rfl,x,rfl,pA (F:=fun i=>V.bl (azB (x.cps.getD i 0))) (fun i ys hi hl=>?_) fun a ha=>⟨a,(Ω x.cps.size).map fun i=>azB (x.cps.getD i 0),rfl,SqL.of ?_,?_⟩⟩
    ·refine bF ⟨_,rfl,_,_,rfl,rfl,_,rfl,?_⟩
     have e1:decide ((⟨#[x.cps.getD i 0]⟩:Str).cps.toList < (η "a").cps.toList)=decide (x.cps.getD i 0 < 97):=uI _ _
     have e2:decide ((η "z").cps.toList < (⟨#[x.cps.getD i 0]⟩:Str).cps.toList)=decide (122 < x.cps.getD i 0):=uI _ _
     rw [e1]
     by_cases c1:x.cps.getD i 0 < 97
     ·rw [decide_eq_true c1]
      refine aA ⟨by rw [hl,ψ]; omega,?_,rfl⟩
      unfold azB
      rw [decide_eq_false (by omega)]
      rfl
     ·rw [decide_eq_false c1]
      refine av ⟨_,_,rfl,rfl,?_⟩
      refine ⟨by rw [hl,ψ]; omega,?_,rfl⟩
      rw [e2]
      unfold azB
      rw [decide_eq_true (show 97<=x.cps.getD i 0 by omega)]
      by_cases c2:122 < x.cps.getD i 0
      ·rw [decide_eq_true c2,decide_eq_false (by omega)]; rfl
      ·rw [decide_eq_false c2,decide_eq_true (by omega)]; rfl
    ·rw [aa,ϋ]
     rfl
    ·rw [yJ]
     have:=q _ (ac ha (.lst ((Ω x.cps.size).map fun i=>V.bl (azB (x.cps.getD i 0)))))
     rwa [show bn (.str x)=x.cps.toList.all azB by
      show nmB x=_
      unfold nmB
      rw [decide_eq_true h1',decide_eq_true h8]
      rfl] at this
   ·rw [show decide (((x.length:Nat):Int)<=8)=false from decide_eq_false (by have e:x.length=x.cps.size:=rfl; omega)]
    refine av (no ?_)
    unfold nmB
    rw [decide_eq_false h8,Ec,Ϻ]
  ·refine ⟨_,rfl,av (no ?_)⟩
   have h1':¬ 1<=x.cps.size:=by
    have:=of_decide_eq_false (A_.mpr h1)
    have e:x.length=x.cps.size:=rfl
    omega
   unfold nmB
   rw [decide_eq_false h1',Ϻ,Ϻ]
 | _=>exact av (av (q H (ad.refl H)))
end
section
variable {P:Β} {w:Ξ} {K:PySem.W.Frag} {mg:Str->Option δ} {base:Heap}
theorem pB (ds:List Dv):(∃ a b,ds=[a,b])\/(∀ a b,ds≠[a,b]):=by
 match ds with
 | []=>exact .inr fun a b e=>nomatch e
 | [_]=>exact .inr fun a b e=>nomatch e
 | [a,b]=>exact .inl ⟨a,b,rfl⟩
 | _ :: _ :: _ :: _=>exact .inr fun a b e=>nomatch e
theorem kr {ds:List Dv} (h:∀ a b,ds≠[a,b]):ds.length≠2:=fun e=>by
 match ds,e with
 | [a,b],_=>exact h a b rfl
theorem vk {ds:List Dv} (h:∀ a b,ds≠[a,b]):eF (.tup ds)=false:=by
 match ds with
 | []=>rfl
 | [_]=>rfl
 | [a,b]=>exact absurd rfl (h a b)
 | _ :: _ :: _ :: _=>rfl
theorem xI {ds:List Dv} (h:∀ a b,ds≠[a,b]):nH (.tup ds)=false:=by
 match ds with
 | []=>rfl
 | [_]=>rfl
 | [a,b]=>exact absurd rfl (h a b)
 | _ :: _ :: _ :: _=>rfl
theorem qi {k:Int} {d:Dv} (h:bI d=true):∃ i,d=.int i/\geD k d=decide (k<=i):=by
 cases d with
 | int i=>exact ⟨i,rfl,rfl⟩
 | _=>cases h
theorem kq {a b:Dv} (h:(Dv.tup [a,b]).small=true):a.small=true/\b.small=true:=by
 simp only [Dv.small,smalls,Θ] at h
 exact ⟨h.1.1,h.1.2.1⟩
theorem oR:ap ["thing"] ["thing"] (ai gl):=⟨rfl,rfl,rfl,by decide +kernel,rfl,by decide +kernel,by decide +kernel⟩
theorem pN {f:Addr} {fd:Μ} {k:Nat} (F:Fun K "is_part" "is_part" gl f fd) (T:Txt K mg) (Dis_whole:Def P w K mg base k "is_whole" ["thing"] (spD bI)) (Dis_name:Def P w K mg base k "is_name" ["thing"] (spS bn)) :
  aK P w K mg base CX0 (k + 1) f fd ["thing"] (spS eF):=by
 refine F.ok oR (fun vs H Q E h=>?_) (fun cdv A outer s H vs Q E hr h=>?_)
 ·obtain ⟨v,d,rfl,_⟩:=h
  rfl
 obtain ⟨v,d,rfl,R,hsm,q⟩:=h
 refine ⟨_,(@un _ _ _ (wbO (wbI (wab (wbY (wbT (wbV (wal bo rfl T.isinstance (by decide +kernel) (wae (wv 0 rfl) (wae (wai (.ty "tuple") rfl T.tuple (by decide +kernel) rfl (by decide) (by decide)) waf rfl) rfl) (by decide) (by decide) rfl rfl) (by intro _; rfl))) (wbZ (wbS fE (wal aq rfl T.len (by decide +kernel) (wae (wv 0 rfl) waf rfl) (by decide) (by decide) rfl rfl) waC (ak _))))) (wbQ (wbK wah)) wbP) (wbQ (wbK (wag (waq Dis_name hr rfl (wae (waD ao (wv 0 rfl) waC (fun _ _=>rfl)) waf rfl) (by decide) rfl rfl) (wag (waq Dis_whole hr rfl (wae (waD ao (wv 0 rfl) waC (fun _ _=>rfl)) waf rfl) (by decide) rfl rfl) (waP (wap yc (waD ao (wv 0 rfl) waC (fun _ _=>rfl)) waC (ak _))))))))),?_⟩
 refine ⟨_,rfl,v,_,_,_,rfl,R.ty,cj K d,_,rfl,?_⟩
 cases d with
 | tup ds=>
  obtain ⟨a,vs,rfl,ha,rs⟩:=Rep.tup_inv R
  have hl:=rs.length
  refine aA ⟨_,rfl,a,vs,rfl,.inr (SqT.of ha),rfl,_,rfl,?_⟩
  rcases pB ds with ⟨d0,d1,rfl⟩ | no
  ·obtain ⟨x,y,rfl,R0,R1⟩:=Reps.two rs
   obtain ⟨z0,z1⟩:=kq hsm
   refine yk rfl ?_
   have qe:∀ c H',ad H H'->eF (.tup [d0,d1])=c->Q (.bl c) H':=fun c H' s1 e=>e▸q H' s1
   refine ⟨_,rfl,a,_,0,x,rfl,rfl,SqT.of ha,af (j:=0) rfl,x,d0,rfl,R0,z0,fun H1 s1=>⟨_,rfl,?_⟩⟩
   cases c0:bn d0 with
   | false=>exact aA (qe _ H1 s1 (by show (bn d0 && _)=false; rw [c0]; rfl))
   | true=>
    refine av ⟨_,rfl,a,_,1,y,rfl,rfl,SqT.of (s1 _ _ ha),af (j:=1) rfl,y,d1,rfl,R1.mono s1,fun H2 s2=>⟨_,rfl,?_⟩⟩
    cases c1:bI d1 with
    | false=>exact aA (qe _ H2 (s1.trans s2) (by show (bn d0 && (bI d1 && _))=false; rw [c0,c1]; rfl))
    | true=>
     obtain ⟨i,rfl,e⟩:=qi (k:=1) c1
     obtain rfl:y=.int i:=R1
     refine av ⟨_,rfl,a,_,1,.int i,rfl,rfl,SqT.of (s2 _ _ (s1 _ _ ha)),af (j:=1) rfl,_,_,rfl,rfl,?_⟩
     refine qe _ H2 (s1.trans s2) ?_
     show (bn d0 && (bI (.int i) && geD 1 (.int i)))=_
     rw [c0,c1,e]
     rfl
  ·have hn:¬ (V.int ((vs.length:Nat):Int)=V.int 2):=fun e=>kr no (by injection e with e; omega)
   rw [decide_eq_false hn]
   refine av ?_
   have:=q H (ad.refl H)
   rwa [vk no] at this
 | _=>exact av (av (q H (ad.refl H)))
theorem kH:ap ["thing"] ["thing"] (ai dP):=⟨rfl,rfl,rfl,by decide +kernel,rfl,by decide +kernel,by decide +kernel⟩
theorem lM {f:Addr} {fd:Μ} {k:Nat} (F:Fun K "is_length" "is_length" dP f fd) (T:Txt K mg) (Dis_whole:Def P w K mg base k "is_whole" ["thing"] (spD bI)) (Dare_parts:Def P w K mg base k "are_parts" ["thing"] (spS iT)) :
  aK P w K mg base CX0 (k + 1) f fd ["thing"] (spS nH):=by
 refine F.ok kH (fun vs H Q E h=>?_) (fun cdv A outer s H vs Q E hr h=>?_)
 ·obtain ⟨v,d,rfl,_⟩:=h
  rfl
 obtain ⟨v,d,rfl,R,hsm,q⟩:=h
 refine ⟨_,(@un _ _ _ (wbO (wbI (wab (wbY (wbT (wbV (wal bo rfl T.isinstance (by decide +kernel) (wae (wv 0 rfl) (wae (wai (.ty "tuple") rfl T.tuple (by decide +kernel) rfl (by decide) (by decide)) waf rfl) rfl) (by decide) (by decide) rfl rfl) (by intro _; rfl))) (wbZ (wbS fE (wal aq rfl T.len (by decide +kernel) (wae (wv 0 rfl) waf rfl) (by decide) (by decide) rfl rfl) waC (ak _))))) (wbQ (wbK wah)) wbP) (wbQ (wbK (wag (waq Dis_whole hr rfl (wae (waD ao (wv 0 rfl) waC (fun _ _=>rfl)) waf rfl) (by decide) rfl rfl) (wag (wap yc (waD ao (wv 0 rfl) waC (fun _ _=>rfl)) waC (ak _)) (waP (waq Dare_parts hr rfl (wae (waD ao (wv 0 rfl) waC (fun _ _=>rfl)) waf rfl) (by decide) rfl rfl)))))))),?_⟩
 refine ⟨_,rfl,v,_,_,_,rfl,R.ty,cj K d,_,rfl,?_⟩
 cases d with
 | tup ds=>
  obtain ⟨a,vs,rfl,ha,rs⟩:=Rep.tup_inv R
  have hl:=rs.length
  refine aA ⟨_,rfl,a,vs,rfl,.inr (SqT.of ha),rfl,_,rfl,?_⟩
  rcases pB ds with ⟨d0,d1,rfl⟩ | no
  ·obtain ⟨x,y,rfl,R0,R1⟩:=Reps.two rs
   obtain ⟨z0,z1⟩:=kq hsm
   refine yk rfl ?_
   have qe:∀ c H',ad H H'->nH (.tup [d0,d1])=c->Q (.bl c) H':=fun c H' s1 e=>e▸q H' s1
   refine ⟨_,rfl,a,_,0,x,rfl,rfl,SqT.of ha,af (j:=0) rfl,x,d0,rfl,R0,fun H1 s1=>⟨_,rfl,?_⟩⟩
   cases c0:bI d0 with
   | false=>exact aA (qe _ H1 s1 (by show (bI d0 && _)=false; rw [c0]; rfl))
   | true=>
    obtain ⟨i,rfl,e⟩:=qi (k:=0) c0
    obtain rfl:x=.int i:=R0
    refine av ⟨_,rfl,a,_,0,.int i,rfl,rfl,SqT.of (s1 _ _ ha),af (j:=0) rfl,_,_,rfl,rfl,_,rfl,?_⟩
    by_cases c1:0<=i
    ·rw [decide_eq_true c1]
     refine av ⟨_,rfl,a,_,1,y,rfl,rfl,SqT.of (s1 _ _ ha),af (j:=1) rfl,y,d1,rfl,R1.mono s1,z1,fun H2 s2=>?_⟩
     refine qe _ H2 (s1.trans s2) ?_
     show (bI (.int i) && (geD 0 (.int i) && iT d1))=_
     rw [c0,e,decide_eq_true c1]
     rfl
    ·rw [decide_eq_false c1]
     refine aA (qe _ H1 s1 ?_)
     show (bI (.int i) && (geD 0 (.int i) && iT d1))=_
     rw [c0,e,decide_eq_false c1]
     rfl
  ·have hn:¬ (V.int ((vs.length:Nat):Int)=V.int 2):=fun e=>kr no (by injection e with e; omega)
   rw [decide_eq_false hn]
   refine av ?_
   have:=q H (ad.refl H)
   rwa [xI no] at this
 | _=>exact av (av (q H (ad.refl H)))
end
section
variable {P:Β} {w:Ξ} {K:PySem.W.Frag} {mg:Str->Option δ} {base:Heap}
theorem iZ {d:Dv} (h:eF d=true):∃ nm b,d=.tup [.str nm,.int b]/\headD d=nm/\nmB nm=true/\1<=b:=by
 match d,h with
 | .tup [a,b],h=>
  simp only [eF,Θ] at h
  obtain ⟨h1,h2,h3⟩:=h
  cases a with
  | str x=>
   cases b with
   | int i=>exact ⟨x,i,rfl,rfl,h1,of_decide_eq_true h3⟩
   | _=>cases h2
  | _=>cases h1
theorem fR:ap ["thing","last","part"] ["thing"] (ai dR):=⟨rfl,rfl,rfl,by decide +kernel,rfl,by decide +kernel,by decide +kernel⟩
theorem kB {f:Addr} {fd:Μ} {k:Nat} (F:Fun K "are_parts" "are_parts" dR f fd) (T:Txt K mg) (Dis_part:Def P w K mg base k "is_part" ["thing"] (spS eF)) :
  aK P w K mg base CX0 (k + 1) f fd ["thing"] (spS iT):=by
 have nd:(["thing","last","part"]:List Str).Nodup:=fR.nd
 refine F.ok fR (fun vs H Q E h=>?_) (fun cdv A outer s H vs Q E hr h=>?_)
 ·obtain ⟨v,d,rfl,_⟩:=h
  rfl
 obtain ⟨v,d,rfl,R,hsm,q⟩:=h
 refine ⟨_,(@un _ _ _ (wbO (wbI (wbT (wbV (wal bo rfl T.isinstance (by decide +kernel) (wae (wv 0 rfl) (wae (wai (.ty "tuple") rfl T.tuple (by decide +kernel) rfl (by decide) (by decide)) waf rfl) rfl) (by decide) (by decide) rfl rfl) (by intro _; rfl))) (wbQ (wbK wah)) wbP) (wbO (wbM 1 nd rfl (Λ rfl) waV rfl (by trivial)) (wbO (wbH ϝ rfl (wbo (wv 0 rfl)) (waZ 2 nd rfl (Λ rfl) (by trivial)) (wbO (wbI (wab (wbY (wbT (wbV (waq Dis_part hr rfl (wae (wv 2 rfl) waf rfl) (by decide) rfl rfl) (by intro _; rfl))) (wbZ (wbS gv (waD ao (wv 2 rfl) waC (fun _ _=>rfl)) (wv 1 rfl) (ak _))))) (wbQ (wbK wah)) wbP) (wbQ (wbM 1 nd rfl (Λ rfl) (waD ao (wv 2 rfl) waC (fun _ _=>rfl)) rfl (by trivial)))) (by intro _; rfl)) (wbQ (wbK wah)))))),?_⟩
 refine ⟨_,rfl,v,_,_,_,rfl,R.ty,cj K d,_,rfl,?_⟩
 cases d with
 | tup ds=>
  obtain ⟨a,vs,rfl,ha,rs⟩:=Rep.tup_inv R
  have hl:=rs.length
  have hds:smalls ds=true:=by
   simp only [Dv.small,Θ] at hsm
   exact hsm.1
  refine aA ?_
  refine ⟨_,rfl,a,rfl,⟨vs,SqT.of ha⟩,qa (xs:=vs) (fun i σ H'=>∃ (last:Str) (pv:Option V),σ=[some (.ref a),some (.str last),pv]/\ad H H'/\goD last (ds.drop i)=goD "" ds)
   ⟨"",none,rfl,ad.refl H,rfl⟩ (fun i σ H' _ ⟨_,_,_,s1,_⟩=>SqT.of (s1 _ _ ha)) ?_ ?_⟩
  ·rintro i x σ H1 hi ⟨last,pv,rfl,s1,hg⟩
   obtain ⟨d,hd,Rd⟩:=rs.get hi
   have hdi:ds.drop i=d :: ds.drop (i + 1):=by
    obtain ⟨h1,h2⟩:=π.mp hd
    rw [j_ h1,h2]
   have hsd:=ck hds hd
   rw [hdi] at hg
   refine ⟨_,rfl,x,d,rfl,Rd.mono s1,hsd,fun H2 s2=>⟨_,rfl,?_⟩⟩
   have no:goD last (d :: ds.drop (i + 1))=false->∀ H',ad H H'->Q (.bl false) H':=fun e H' s'=>by
    have:=q H' s'
    rwa [show iT (.tup ds)=false by show goD "" ds=false; rw [<- hg,e]] at this
   cases c:eF d with
   | false=>
    refine av (av (no ?_ H2 (s1.trans s2)))
    simp only [goD,c,Ϻ]
   | true=>
    obtain ⟨nm,b,rfl,hh,_⟩:=iZ c
    obtain ⟨p,us,rfl,hp,ru⟩:=Rep.tup_inv Rd
    obtain ⟨y,z,rfl,R0,R1⟩:=Reps.two ru
    obtain rfl:y=.str nm:=R0
    have hp2:H2 p=some (.tup [.str nm,z]):=s2 _ _ (s1 _ _ hp)
    refine aA ⟨_,rfl,p,_,0,.str nm,rfl,rfl,SqT.of hp2,af (j:=0) rfl,_,rfl,_,_,rfl,rfl,_,rfl,?_⟩
    by_cases lt:last.cps.toList < nm.cps.toList
    ·rw [decide_eq_true lt]
     refine aA ⟨_,rfl,p,_,0,.str nm,rfl,rfl,SqT.of hp2,af (j:=0) rfl,nm,_,rfl,s1.trans s2,?_⟩
     rw [<- hg]
     simp only [goD,c,hh,ϓ]
     rw [decide_eq_true lt,ϓ]
    ·rw [decide_eq_false lt]
     refine av (no ?_ H2 (s1.trans s2))
     simp only [goD,c,hh,ϓ]
     rw [decide_eq_false lt,Ϻ]
  ·rintro σ H1 ⟨last,pv,rfl,s1,hg⟩
   have:=q H1 s1
   rw [show iT (.tup ds)=true by
    show goD "" ds=true
    rw [<- hg,hl,DP]
    rfl] at this
   exact this
 | _=>exact av (q H (ad.refl H))
end
abbrev eW:Stmt:=top 24
abbrev eO:Stmt:=top 25
abbrev eR:Stmt:=top 26
abbrev bT:Stmt:=top 27
def eV:Dv->Int
 | .tup [_,.int n]=>n
 | _=>0
def BH:Dv->Int
 | .tup (.int c :: _)=>c
 | _=>0
def xr:Dv->List Dv
 | .tup [_,.tup ps]=>ps
 | _=>[]
def slD (d:Dv):Bool:=nH d && (decide (BH d<=99) && (xr d).all fun p=>decide (eV p<=99))
def dO:Dv->Bool
 | .tup (.str _ :: _)=>true
 | _=>false
def cm:Dv->Bool
 | .tup [.str x]=>decide (x="whole")
 | .tup [.str x,l]=>decide (x="place") && slD l
 | .tup [.str x,a,_]=>(decide (x="row") && slD a) || decide (x="pair")
 | _=>false
def kids {α:Type} (x:Str) (r:List α):List α:=if x="row" then r.drop 1 else if x="pair" then r else []
theorem sT {d:Dv} (h:nH d=true):∃ c ps,d=.tup [.int c,.tup ps]/\0<=c/\goD "" ps=true:=by
 match d,h with
 | .tup [a,b],h=>
  simp only [nH,Θ] at h
  obtain ⟨h1,h2,h3⟩:=h
  cases a with
  | int i=>
   cases b with
   | tup ps=>exact ⟨i,ps,rfl,of_decide_eq_true h2,h3⟩
   | _=>cases h3
  | _=>cases h1
theorem mE:∀ {l:Str} {ps:List Dv},goD l ps=true->∀ p∈ps,eF p=true
 | _,[],_,p,hp=>by cases hp
 | l,x :: ps,h,p,hp=>by
  simp only [goD,Θ] at h
  rcases θ.mp hp with rfl | hp
  ·exact h.1
  ·exact mE h.2.2 p hp
def yj:Sp:=fun vs H Q _=>∃ (a:Addr) (x:Str) (us:List V),vs=[.ref a]/\H a=some (.tup (.str x :: us))/\(x="row"->us.length=2)/\(x="pair"->us.length=2)/\∀ (l:Addr),H l=none->Q (.ref l) (upd H l (.lst (kids x us)))
theorem br (x y:Str):decide (V.str x=V.str y)=decide (x=y):=by
 by_cases h:x=y
 ·rw [decide_eq_true h,decide_eq_true (by rw [h])]
 ·rw [decide_eq_false h,decide_eq_false (fun z=>h (by injection z))]
section
variable {P:Β} {w:Ξ} {K:PySem.W.Frag} {mg:Str->Option δ} {base:Heap}
theorem mP:ap ["thing"] ["thing"] (ai eW):=⟨rfl,rfl,rfl,by decide +kernel,rfl,by decide +kernel,by decide +kernel⟩
theorem om {f:Addr} {fd:Μ} {k:Nat} (F:Fun K "is_small_length" "is_small_length" eW f fd) (T:Txt K mg) (Dis_length:Def P w K mg base k "is_length" ["thing"] (spS nH)) :
  aK P w K mg base CX0 (k + 1) f fd ["thing"] (spS slD):=by
 refine F.ok mP (fun vs H Q E h=>?_) (fun cdv A outer s H vs Q E hr h=>?_)
 ·obtain ⟨v,d,rfl,_⟩:=h
  rfl
 obtain ⟨v,d,rfl,R,hsm,q⟩:=h
 refine ⟨_,(@un _ _ _ (wbO (wbI (wab (wbY (wbT (wbV (waq Dis_length hr rfl (wae (wv 0 rfl) waf rfl) (by decide) rfl rfl) (by intro _; rfl))) (wbZ (wbS gK (waD ao (wv 0 rfl) waC (fun _ _=>rfl)) ⟨T.g_GREATEST_NUMBER rfl⟩ (ak _))))) (wbQ (wbK wah)) wbP) (wbQ (wbK (wal (fO rfl) rfl T.all (by decide +kernel) (wae (waE (["name","times"]) [] (wbo (waD ao (wv 0 rfl) waC (fun _ _=>rfl))) (.of rfl) rfl (fun _ _ _=>⟨pg_tup rfl (pgs_cons (pg_name (i:=0) (cc (l:=["name","times"]) ((by decide +kernel)) rfl) rfl (Λ rfl)) (pgs_cons (pg_name (i:=1) (cc (l:=["name","times"]) ((by decide +kernel)) rfl) rfl (Λ rfl)) pgs_nil))⟩) (oH (by decide) (by decide)) (fun _ _ _=>wbx) (fun _ _ _=>(wap jP (wv 1 rfl) ⟨T.g_GREATEST_NUMBER rfl⟩ (ak _))) (by intro _; rfl)) waf rfl) (by decide) (by decide) rfl rfl))))),?_⟩
 refine ⟨_,rfl,v,d,rfl,R,hsm,fun H1 s1=>⟨_,rfl,?_⟩⟩
 cases c0:nH d with
 | false=>
  refine av ?_
  have:=q H1 s1
  rwa [show slD d=false by unfold slD; rw [c0]; rfl] at this
 | true=>
  refine aA ?_
  obtain ⟨c,ps,rfl,hc,hg⟩:=sT c0
  obtain ⟨a,vs,rfl,ha,rs⟩:=Rep.tup_inv R
  obtain ⟨x,y,rfl,R0,R1⟩:=Reps.two rs
  obtain rfl:x=.int c:=R0
  obtain ⟨b,us,rfl,hb,ru⟩:=Rep.tup_inv R1
  have hps:ps.length<=1000:=by
   have:=(kq hsm).2
   simp only [Dv.small,Θ,decide_eq_true_eq] at this
   exact this.2
  have hl:=ru.length
  have e0:slD (.tup [.int c,.tup ps])=(decide (c<=99) && ps.all fun p=>decide (eV p<=99)):=by
   unfold slD; rw [c0]; rfl
  refine ⟨_,rfl,a,_,0,.int c,rfl,rfl,SqT.of (s1 _ _ ha),af (j:=0) rfl,_,_,rfl,rfl,_,rfl,?_⟩
  refine aQ (fun h=>?_) (fun h=>?_)
  ·have h':99 < c:=of_decide_eq_true h
   have:=q H1 s1
   rw [e0,decide_eq_false (by omega),Ϻ] at this
   exact this
  have h':c<=99:=by have:=of_decide_eq_false (A_.mpr h); omega
  have hb1:=s1 _ _ hb
  refine ⟨_,rfl,a,_,1,.ref b,rfl,rfl,SqT.of (s1 _ _ ha),af (j:=1) rfl,b,rfl,⟨us,SqT.of hb1⟩,gi (xs:=us) (fun i ys H'=>H'=H1/\ys=(ps.take i).map fun p=>V.bl (decide (eV p<=99))) ⟨rfl,rfl⟩ (fun i ys H' _ p=>by rw [p.1]; exact SqT.of hb1) ?_ ?_⟩
  ·rintro i ys H' x hx ⟨rfl,rfl⟩
   obtain ⟨d,hd,Rd⟩:=ru.get hx
   obtain ⟨hi,ed⟩:=π.mp hd
   obtain ⟨nm,t,rfl,hh,_⟩:=iZ (mE hg d (Α hd))
   obtain ⟨p,zs,rfl,hp,rz⟩:=Rep.tup_inv Rd
   obtain ⟨y,z,rfl,Ry,Rz⟩:=Reps.two rz
   obtain rfl:y=.str nm:=Ry
   obtain rfl:z=.int t:=Rz
   refine iu (s1 _ _ hp) ⟨_,rfl,_,_,rfl,rfl,?_,rfl,?_⟩
   ·rw [ζ,Ρ,ψ]; omega
   ·rw [Ϡ,hd,ω]
    rfl
  ·rintro ys H' ⟨rfl,rfl⟩ r hr'
   rw [hl,ϛ]
   refine ⟨r,ps.map fun p=>decide (eV p<=99),rfl,SqL.of (by rw [aa,ϋ]; rfl),?_⟩
   have:=q _ (s1.trans (ac hr' (.lst (ps.map fun p=>V.bl (decide (eV p<=99))))))
   rw [e0,decide_eq_true h',ϓ] at this
   rw [u9]
   exact this
theorem lP:ap ["thing"] ["thing"] (ai eO):=⟨rfl,rfl,rfl,by decide +kernel,rfl,by decide +kernel,by decide +kernel⟩
theorem nq {f:Addr} {fd:Μ} (F:Fun K "has_word" "has_word" eO f fd) (T:Txt K mg):aK P w K mg base CX0 1 f fd ["thing"] (spD dO):=by
 refine F.ok lP (fun vs H Q E h=>?_) (fun cdv A outer s H vs Q E hr h=>?_)
 ·obtain ⟨v,d,rfl,_⟩:=h
  rfl
 obtain ⟨v,d,rfl,R,q⟩:=h
 refine ⟨_,(@un _ _ _ (wbQ (wbK (wag (wal bo rfl T.isinstance (by decide +kernel) (wae (wv 0 rfl) (wae (wai (.ty "tuple") rfl T.tuple (by decide +kernel) rfl (by decide) (by decide)) waf rfl) rfl) (by decide) (by decide) rfl rfl) (wag (wap gK (wal aq rfl T.len (by decide +kernel) (wae (wv 0 rfl) waf rfl) (by decide) (by decide) rfl rfl) waC (ak _)) (waP (wal bo rfl T.isinstance (by decide +kernel) (wae (waD ao (wv 0 rfl) waC (fun _ _=>rfl)) (wae (wai (.ty "str") rfl T.str (by decide +kernel) rfl (by decide) (by decide)) waf rfl) rfl) (by decide) (by decide) rfl rfl))))))),?_⟩
 refine ⟨_,rfl,v,_,_,_,rfl,R.ty,cj K d,_,rfl,?_⟩
 cases d with
 | tup ds=>
  obtain ⟨a,vs,rfl,ha,rs⟩:=Rep.tup_inv R
  refine av ⟨_,rfl,a,vs,rfl,.inr (SqT.of ha),_,_,rfl,rfl,_,rfl,?_⟩
  cases ds with
  | nil=>
   simp only [Reps] at rs
   subst rs
   exact aA (q H (ad.refl H))
  | cons d0 ds=>
   simp only [Reps] at rs
   obtain ⟨x,r,rfl,R0,rr⟩:=rs
   rw [show decide (((0:Int)) < (((x :: r).length:Nat):Int))=true from decide_eq_true (by rw [Υ]; omega)]
   refine av ⟨_,rfl,a,_,0,x,rfl,rfl,SqT.of ha,af (j:=0) rfl,x,_,_,_,rfl,R0.ty,lm K d0,?_⟩
   have:=q H (ad.refl H)
   cases d0 <;> exact this
 | _=>exact aA (q H (ad.refl H))
end
section
variable {P:Β} {w:Ξ} {K:PySem.W.Frag} {mg:Str->Option δ} {base:Heap}
theorem eX {d:Dv} (h:dO d=true):∃ x r,d=.tup (.str x :: r):=by
 match d,h with
 | .tup (.str x :: r),_=>exact ⟨x,r,rfl⟩
theorem oU {d:Dv} (h:dO d=false):cm d=false:=by
 match d,h with
 | .tup [.str x],h=>cases h
 | .tup [.str x,l],h=>cases h
 | .tup [.str x,a,b],h=>cases h
 | .tup (.str x :: a :: b :: c :: r),h=>cases h
 | .tup [],_=>rfl
 | .tup (.non :: r),_=>rfl
 | .tup (.bl _ :: r),_=>rfl
 | .tup (.int _ :: r),_=>rfl
 | .tup (.tup _ :: r),_=>rfl
 | .tup (.lst _ :: r),_=>rfl
 | .tup (.dct :: r),_=>rfl
 | .non,_=>rfl
 | .bl _,_=>rfl
 | .int _,_=>rfl
 | .str _,_=>rfl
 | .lst _,_=>rfl
 | .dct,_=>rfl
theorem w1:(η "whole")≠(η "place"):=by decide +kernel
theorem w2:(η "whole")≠(η "row"):=by decide +kernel
theorem w3:(η "whole")≠(η "pair"):=by decide +kernel
theorem w4:(η "place")≠(η "row"):=by decide +kernel
theorem w5:(η "place")≠(η "pair"):=by decide +kernel
theorem w6:(η "row")≠(η "pair"):=by decide +kernel
theorem wc {r:List Dv}:cm (.tup (.str "whole" :: r))=decide (r.length=0):=by
 match r with
 | []=>show decide (η "whole"=η "whole")=_; rw [decide_eq_true rfl]; rfl
 | [l]=>show (decide (η "whole"=η "place") && slD l)=_; rw [decide_eq_false w1]; rfl
 | [a,b]=>show ((decide (η "whole"=η "row") && slD a) || decide (η "whole"=η "pair"))=_; rw [decide_eq_false w2,decide_eq_false w3]; rfl
 | a :: b :: c :: r=>rfl
theorem rb {r:List Dv}:cm (.tup (.str "place" :: r))=(decide (r.length=1) && slD (r.headD .non)):=by
 match r with
 | []=>show decide (η "place"=η "whole")=_; rw [decide_eq_false (ϊ w1)]; rfl
 | [l]=>show (decide (η "place"=η "place") && slD l)=_; rw [decide_eq_true rfl]; rfl
 | [a,b]=>show ((decide (η "place"=η "row") && slD a) || decide (η "place"=η "pair"))=_; rw [decide_eq_false w4,decide_eq_false w5]; rfl
 | a :: b :: c :: r=>
  rw [decide_eq_false (by simp)]; rfl
theorem yu {r:List Dv}:cm (.tup (.str "row" :: r))=(decide (r.length=2) && slD (r.headD .non)):=by
 match r with
 | []=>show decide (η "row"=η "whole")=_; rw [decide_eq_false (ϊ w2)]; rfl
 | [l]=>show (decide (η "row"=η "place") && slD l)=_; rw [decide_eq_false (ϊ w4)]; rfl
 | [a,b]=>show ((decide (η "row"=η "row") && slD a) || decide (η "row"=η "pair"))=_; rw [decide_eq_true rfl,decide_eq_false w6,Bool.or_false]; rfl
 | a :: b :: c :: r=>
  rw [decide_eq_false (by simp)]; rfl
theorem zd {x:Str} {r:List Dv} (h1:x≠"whole") (h2:x≠"place") (h3:x≠"row"):cm (.tup (.str x :: r))=(decide (r.length=2) && decide (x="pair")):=by
 match r with
 | []=>show decide (x="whole")=_; rw [decide_eq_false h1]; rfl
 | [l]=>show (decide (x="place") && slD l)=_; rw [decide_eq_false h2]; rfl
 | [a,b]=>show ((decide (x="row") && slD a) || decide (x="pair"))=_; rw [decide_eq_false h3,Ϻ,x5]; rfl
 | a :: b :: c :: r=>
  rw [decide_eq_false (by simp)]; rfl
theorem eh {vs:List V} {r:List Dv} {x:V} (h:vs.length=r.length) (n m:Nat) (e:m=n + 1):decide (V.int (((x :: vs).length:Nat):Int)=V.int (m:Int))=decide (r.length=n):=by
 by_cases z:r.length=n
 ·rw [decide_eq_true z,decide_eq_true (by rw [Υ,h,z,e])]
 ·rw [decide_eq_false z,decide_eq_false (fun y=>z (by injection y with y; rw [Υ,h] at y; omega))]
theorem lZ:ap ["thing"] ["thing"] (ai eR):=⟨rfl,rfl,rfl,by decide +kernel,rfl,by decide +kernel,by decide +kernel⟩
theorem nQ {f:Addr} {fd:Μ} {k:Nat} (F:Fun K "is_point" "is_point" eR f fd) (T:Txt K mg) (Dhas_word:Def P w K mg base k "has_word" ["thing"] (spD dO)) (Dis_small_length:Def P w K mg base k "is_small_length" ["thing"] (spS slD)) :
  aK P w K mg base CX0 (k + 1) f fd ["thing"] (spS cm):=by
 refine F.ok lZ (fun vs H Q E h=>?_) (fun cdv A outer s H vs Q E hr h=>?_)
 ·obtain ⟨v,d,rfl,_⟩:=h
  rfl
 obtain ⟨v,d,rfl,R,hsm,q⟩:=h
 refine ⟨_,(@un _ _ _ (wbO (wbI (wbT (wbV (waq Dhas_word hr rfl (wae (wv 0 rfl) waf rfl) (by decide) rfl rfl) (by intro _; rfl))) (wbQ (wbK wah)) wbP) (wbO (wbI (wbS aG (waD ao (wv 0 rfl) waC (fun _ _=>rfl)) waV (ak _)) (wbQ (wbK (wap aG (wal aq rfl T.len (by decide +kernel) (wae (wv 0 rfl) waf rfl) (by decide) (by decide) rfl rfl) waC (ak _)))) wbP) (wbO (wbI (wbS aG (waD ao (wv 0 rfl) waC (fun _ _=>rfl)) waV (ak _)) (wbQ (wbK (wag (wap aG (wal aq rfl T.len (by decide +kernel) (wae (wv 0 rfl) waf rfl) (by decide) (by decide) rfl rfl) waC (ak _)) (waP (waq Dis_small_length hr rfl (wae (waD ao (wv 0 rfl) waC (fun _ _=>rfl)) waf rfl) (by decide) rfl rfl))))) wbP) (wbO (wbI (wbS aG (waD ao (wv 0 rfl) waC (fun _ _=>rfl)) waV (ak _)) (wbQ (wbK (wag (wap aG (wal aq rfl T.len (by decide +kernel) (wae (wv 0 rfl) waf rfl) (by decide) (by decide) rfl rfl) waC (ak _)) (waP (waq Dis_small_length hr rfl (wae (waD ao (wv 0 rfl) waC (fun _ _=>rfl)) waf rfl) (by decide) rfl rfl))))) wbP) (wbQ (wbK (wag (wap aG (wal aq rfl T.len (by decide +kernel) (wae (wv 0 rfl) waf rfl) (by decide) (by decide) rfl rfl) waC (ak _)) (waP (wap aG (waD ao (wv 0 rfl) waC (fun _ _=>rfl)) waV (ak _))))))))))),?_⟩
 refine ⟨_,rfl,v,d,rfl,R,fun H1 s1=>⟨_,rfl,?_⟩⟩
 cases c0:dO d with
 | false=>
  refine av ?_
  have:=q H1 s1
  rwa [oU c0] at this
 | true=>
  refine aA ?_
  obtain ⟨x,r,rfl⟩:=eX c0
  obtain ⟨a,vs,rfl,ha,rs⟩:=Rep.tup_inv (R.mono s1)
  simp only [Reps] at rs
  obtain ⟨y,us,rfl,R0,ru⟩:=rs
  obtain rfl:y=.str x:=R0
  have hl:=ru.length
  refine ⟨_,rfl,a,_,0,.str x,rfl,rfl,SqT.of ha,af (j:=0) rfl,rfl,_,rfl,?_⟩
  show if decide (V.str x=V.str "whole")=true then _ else _
  rw [br]
  by_cases h1:x="whole"
  ·subst h1
   rw [decide_eq_true rfl]
   refine av ⟨_,rfl,a,_,rfl,.inr (SqT.of ha),rfl,?_⟩
   have:=q H1 s1
   rw [wc,<- eh (x:=.str "whole") hl 0 1 rfl] at this
   exact this
  rw [decide_eq_false h1]
  refine aA ⟨_,rfl,a,_,0,.str x,rfl,rfl,SqT.of ha,af (j:=0) rfl,rfl,_,rfl,?_⟩
  show if decide (V.str x=V.str "place")=true then _ else _
  rw [br]
  by_cases h2:x="place"
  ·subst h2
   rw [decide_eq_true rfl]
   refine av ⟨_,rfl,a,_,rfl,.inr (SqT.of ha),rfl,_,rfl,?_⟩
   show if decide (V.int _=V.int ((2:Nat):Int))=true then _ else _
   rw [eh (x:=.str "place") hl 1 2 rfl]
   by_cases z:r.length=1
   ·rw [decide_eq_true z]
    match r,us,z,ru with
    | [l],us,_,ru=>
     simp only [Reps] at ru
     obtain ⟨u,rest,rfl,Ru,rfl⟩:=ru
     refine av ⟨_,rfl,a,_,1,u,rfl,rfl,SqT.of ha,af (j:=1) rfl,u,l,rfl,Ru,ck (i:=1) (ds:=[.str "place",l]) (by simp only [Dv.small,Θ] at hsm; exact hsm.1) rfl,fun H2 s2=>?_⟩
     have:=q H2 (s1.trans s2)
     rw [rb] at this
     exact this
   ·rw [decide_eq_false z]
    refine aA ?_
    have:=q H1 s1
    rw [rb,decide_eq_false z] at this
    exact this
  rw [decide_eq_false h2]
  refine aA ⟨_,rfl,a,_,0,.str x,rfl,rfl,SqT.of ha,af (j:=0) rfl,rfl,_,rfl,?_⟩
  show if decide (V.str x=V.str "row")=true then _ else _
  rw [br]
  by_cases h3:x="row"
  ·subst h3
   rw [decide_eq_true rfl]
   refine av ⟨_,rfl,a,_,rfl,.inr (SqT.of ha),rfl,_,rfl,?_⟩
   show if decide (V.int _=V.int ((3:Nat):Int))=true then _ else _
   rw [eh (x:=.str "row") hl 2 3 rfl]
   by_cases z:r.length=2
   ·rw [decide_eq_true z]
    match r,us,z,ru with
    | [l,m],us,_,ru=>
     obtain ⟨u,u',rfl,Ru,Ru'⟩:=Reps.two ru
     refine av ⟨_,rfl,a,_,1,u,rfl,rfl,SqT.of ha,af (j:=1) rfl,u,l,rfl,Ru,ck (i:=1) (ds:=[.str "row",l,m]) (by simp only [Dv.small,Θ] at hsm; exact hsm.1) rfl,fun H2 s2=>?_⟩
     have:=q H2 (s1.trans s2)
     rw [yu] at this
     exact this
   ·rw [decide_eq_false z]
    refine aA ?_
    have:=q H1 s1
    rw [yu,decide_eq_false z] at this
    exact this
  rw [decide_eq_false h3]
  refine aA ⟨_,rfl,a,_,rfl,.inr (SqT.of ha),rfl,_,rfl,?_⟩
  show if decide (V.int _=V.int ((3:Nat):Int))=true then _ else _
  rw [eh (x:=.str x) hl 2 3 rfl]
  have qq:=q H1 s1
  rw [zd h1 h2 h3] at qq
  by_cases z:r.length=2
  ·rw [decide_eq_true z] at qq ⊢
   refine av ⟨_,rfl,a,_,0,.str x,rfl,rfl,SqT.of ha,af (j:=0) rfl,rfl,?_⟩
   rw [ϓ,<- br] at qq
   exact qq
  ·rw [decide_eq_false z] at qq ⊢
   exact aA qq
theorem pr:ap ["point"] ["point"] (ai bT):=⟨rfl,rfl,rfl,by decide +kernel,rfl,by decide +kernel,by decide +kernel⟩
theorem pz {f:Addr} {fd:Μ} (F:Fun K "things_of" "things_of" bT f fd) (T:Txt K mg):aK P w K mg base CX0 1 f fd ["point"] yj:=by
 refine F.ok pr (fun vs H Q E h=>?_) (fun cdv A outer s H vs Q E hr h=>?_)
 ·obtain ⟨a,x,us,rfl,_⟩:=h
  rfl
 obtain ⟨a,x,us,rfl,ha,hr2,hp2,q⟩:=h
 refine ⟨_,(@un _ _ _ (wbO (wbI (wbS aG (waD ao (wv 0 rfl) waC (fun _ _=>rfl)) waV (ak _)) (wbQ (wbK (waM (wae (waD ao (wv 0 rfl) waC (fun _ _=>rfl)) waf rfl)))) wbP) (wbO (wbI (wbS aG (waD ao (wv 0 rfl) waC (fun _ _=>rfl)) waV (ak _)) (wbQ (wbK (waM (wae (waD ao (wv 0 rfl) waC (fun _ _=>rfl)) (wae (waD ao (wv 0 rfl) waC (fun _ _=>rfl)) waf rfl) rfl)))) wbP) (wbQ (wbK (waM waf)))))),?_⟩
 refine ⟨_,rfl,a,_,0,.str x,rfl,rfl,SqT.of ha,af (j:=0) rfl,rfl,_,rfl,?_⟩
 show if decide (V.str x=V.str "row")=true then _ else _
 rw [br]
 by_cases h1:x="row"
 ·subst h1
  have hl:=hr2 rfl
  match us,hl with
  | [u,u'],_=>
   rw [decide_eq_true rfl]
   refine av ⟨_,rfl,a,_,2,u',rfl,rfl,SqT.of ha,af (j:=2) rfl,z1,fun l hl=>q l hl⟩
 rw [decide_eq_false h1]
 refine aA ⟨_,rfl,a,_,0,.str x,rfl,rfl,SqT.of ha,af (j:=0) rfl,rfl,_,rfl,?_⟩
 show if decide (V.str x=V.str "pair")=true then _ else _
 rw [br]
 by_cases h2:x="pair"
 ·subst h2
  have hl:=hp2 rfl
  match us,hl with
  | [u,u'],_=>
   rw [decide_eq_true rfl]
   refine av ⟨_,rfl,a,_,1,u,rfl,rfl,SqT.of ha,af (j:=1) rfl,_,rfl,a,_,2,u',rfl,rfl,SqT.of ha,af (j:=2) rfl,z2,fun l hl=>?_⟩
   have:=q l hl
   rw [show kids (η "pair") [u,u']=[u,u'] by unfold kids; rw [if_neg (ϊ w6),if_pos rfl]] at this
   exact this
 rw [decide_eq_false h2]
 refine aA ⟨Χ _,fun l hl=>?_⟩
 have:=q l hl
 rw [show kids x us=[] by unfold kids; rw [if_neg h1,if_neg h2]] at this
 exact this
end
abbrev gz:Stmt:=top 29
def aF:Dv->Nat
 | .tup [.str x]=>if x="whole" then 1 else 99
 | .tup [.str x,l]=>if x="place"/\slD l=true then 1 else 99
 | .tup [.str x,a,b]=>if x="pair" then 1 + aF a + aF b else if x="row"/\slD a=true then 1 + aF b else 99
 | _=>99
termination_by d=>sizeOf d
decreasing_by all_goals simp_wf; omega
theorem qI {d:Dv} (h:cm d=false):aF d=99:=by
 match d,h with
 | .tup [.str x],h=>
  rw [aF,if_neg (of_decide_eq_false h)]
 | .tup [.str x,l],h=>
  rw [aF,if_neg (fun z=>by
   have h':(decide (x="place") && slD l)=false:=h
   rw [decide_eq_true z.1,z.2] at h'; cases h')]
 | .tup [.str x,a,b],h=>
  have h':((decide (x="row") && slD a) || decide (x="pair"))=false:=h
  rw [Bool.or_eq_false_iff] at h'
  rw [aF,if_neg (of_decide_eq_false h'.2),if_neg (fun z=>by
   have h2:=h'.1
   rw [decide_eq_true z.1,z.2] at h2; cases h2)]
 | .tup (.str x :: a :: b :: c :: r),_=>rw [aF] <;> simp
 | .tup [],_=>rw [aF] <;> simp
 | .tup (.non :: r),_=>rw [aF] <;> simp
 | .tup (.bl _ :: r),_=>rw [aF] <;> simp
 | .tup (.int _ :: r),_=>rw [aF] <;> simp
 | .tup (.tup _ :: r),_=>rw [aF] <;> simp
 | .tup (.lst _ :: r),_=>rw [aF] <;> simp
 | .tup (.dct :: r),_=>rw [aF] <;> simp
 | .non,_=>rw [aF] <;> simp
 | .bl _,_=>rw [aF] <;> simp
 | .int _,_=>rw [aF] <;> simp
 | .str _,_=>rw [aF] <;> simp
 | .lst _,_=>rw [aF] <;> simp
 | .dct,_=>rw [aF] <;> simp
theorem gN {d:Dv} (h:cm d=true):∃ x r,d=.tup (.str x :: r)/\(x="row"->r.length=2)/\(x="pair"->r.length=2)/\aF d=1 + ((kids x r).map aF).sum:=by
 match d,h with
 | .tup [.str x],h=>
  have h':x="whole":=of_decide_eq_true h
  subst h'
  exact ⟨_,_,rfl,fun z=>absurd z w2,fun z=>absurd z w3,by rw [aF,if_pos rfl]; unfold kids; rw [if_neg w2,if_neg w3]; rfl⟩
 | .tup [.str x,l],h=>
  have h':(decide (x="place") && slD l)=true:=h
  rw [Θ] at h'
  have e:x="place":=of_decide_eq_true h'.1
  subst e
  exact ⟨_,_,rfl,fun z=>absurd z w4,fun z=>absurd z w5,by rw [aF,if_pos ⟨rfl,h'.2⟩]; unfold kids; rw [if_neg w4,if_neg w5]; rfl⟩
 | .tup [.str x,a,b],h=>
  have h':((decide (x="row") && slD a) || decide (x="pair"))=true:=h
  rw [CW,Θ] at h'
  refine ⟨x,_,rfl,fun _=>rfl,fun _=>rfl,?_⟩
  rw [aF]
  rcases h' with ⟨h1,h2⟩ | h1
  ·have e:x="row":=of_decide_eq_true h1
   subst e
   rw [if_neg w6,if_pos ⟨rfl,h2⟩]
   unfold kids
   rw [if_pos rfl]
   simp
  ·have e:x="pair":=of_decide_eq_true h1
   subst e
   rw [if_pos rfl]
   unfold kids
   rw [if_neg (ϊ w6),if_pos rfl]
   simp [Nat.add_assoc]
theorem size_pos (d:Dv):1<=aF d:=by
 cases h:cm d with
 | false=>rw [qI h]; decide
 | true=>obtain ⟨x,r,_,_,_,e⟩:=gN h; rw [e]; omega
theorem si {H:Hp} {x:Str} {r:List Dv} {us:List V} (h:Reps H r us):Reps H (kids x r) (kids x us):=by
 unfold kids
 split
 ·match r,us,h with
  | [],us,h=>simp only [Reps] at h; subst h; simp only [List.drop_nil,Reps]
  | d :: r,us,h=>simp only [Reps] at h; obtain ⟨v,q,rfl,_,h2⟩:=h; exact h2
 ·split
  ·exact h
  ·simp only [Reps]
theorem pc {x:Str} {r:List Dv} (h:smalls r=true):smalls (kids x r)=true:=by
 unfold kids
 split
 ·match r,h with
  | [],_=>rfl
  | d :: r,h=>simp only [smalls,Θ] at h; exact h.2
 ·split
  ·exact h
  ·rfl
theorem nU {α:Type} {x:Str} {r:List α} (h1:x="row"->r.length=2) (h2:x="pair"->r.length=2):(kids x r).length<=2:=by
 unfold kids
 split
 ·rename_i e; rw [ϧ,h1 e]; decide
 ·split
  ·rename_i e; rw [h2 e]; exact τ _
  ·exact Χ _
theorem iD:∀ {xs ys:List Dv},smalls xs=true->smalls ys=true->smalls (xs ++ ys)=true
 | [],_,_,h=>h
 | x :: xs,ys,g,h=>by
  simp only [smalls,Θ,CG] at g ⊢
  exact ⟨g.1,iD g.2 h⟩
theorem gO:∀ {xs:List Dv} {y:Dv},smalls (xs ++ [y])=true->smalls xs=true/\y.small=true
 | [],y,h=>by simpa [smalls] using h
 | x :: xs,y,h=>by
  simp only [smalls,Θ,CG] at h ⊢
  have:=gO h.2
  exact ⟨⟨h.1,this.1⟩,this.2⟩
theorem lA {H:Hp} {l:Addr} {o:HO}:ad (ba H l) (ba (upd H l o) l):=fun b u h=>by
 unfold ba at h ⊢
 split at h
 ·cases h
 ·rename_i e; rw [if_neg e,ag e]; exact h
def iA:Sp:=spS fun d=>decide (aF d<=12)
section
variable {P:Β} {w:Ξ} {K:PySem.W.Frag} {mg:Str->Option δ} {base:Heap}
theorem ir:ap ["thing","size","waiting","point"] ["thing"] (ai gz):=⟨rfl,rfl,rfl,by decide +kernel,rfl,by decide +kernel,by decide +kernel⟩
theorem pI {f:Addr} {fd:Μ} {k:Nat} (F:Fun K "is_kind" "is_kind" gz f fd) (T:Txt K mg) (Dis_point:Def P w K mg base k "is_point" ["thing"] (spS cm)) (Dthings_of:Def P w K mg base k "things_of" ["point"] yj) :
  aK P w K mg base CX0 (k + 1) f fd ["thing"] iA:=by
 have nd:(["thing","size","waiting","point"]:List Str).Nodup:=ir.nd
 refine F.ok ir (fun vs H Q E h=>?_) (fun cdv A outer s H vs Q E hr h=>?_)
 ·obtain ⟨v,d,rfl,_⟩:=h
  rfl
 obtain ⟨v,d,rfl,R,hsm,q⟩:=h
 replace q:∀ (H':Hp),ad H H'->Q (V.bl (decide (aF d<=12))) H':=q
 refine ⟨_,(@un _ _ _ (wbO (wbM 1 nd rfl (Λ rfl) waC rfl (by trivial)) (wbO (wbM 2 nd rfl (Λ rfl) (waM (wae (wv 0 rfl) waf rfl)) rfl (by trivial)) (wbO (wbN ϝ (wbU (wv 2 rfl) (fun _=>rfl)) (wbO (wbM 3 nd rfl (Λ rfl) (wak PySem.F.plainAttrs_list PySem.F.slot_list_pop PySem.F.type_list_pop ia (wv 2 rfl) rfl rfl) rfl (by trivial)) (wbO (wbE 1 nd rfl (Λ rfl) waC vh (by trivial)) (wbO (wbI (wab (wbY (wbS gK (wv 1 rfl) ⟨T.g_GREATEST_SIZE rfl⟩ (ak _)) (wbZ (wbT (wbV (waq Dis_point hr rfl (wae (wv 3 rfl) waf rfl) (by decide) rfl rfl) (by intro _; rfl)))))) (wbQ (wbK wah)) wbP) (wbQ (wbG (waj PySem.F.plainAttrs_list PySem.F.slot_list_extend PySem.F.type_list_extend gj (wv 2 rfl) (wae (waq Dthings_of hr rfl (wae (wv 3 rfl) waf rfl) (by decide) rfl rfl) waf rfl) rfl rfl rfl rfl rfl) rfl)))))) (wbQ (wbK wah)))))),?_⟩
 refine ⟨_,rfl,z1,fun W1 hW=>?_⟩
 have q1:=ac hW (.lst [v])
 refine mH (fun m σ H'=>∃ (o3:Option V) (sz:Nat) (ws:List Dv) (vs:List V),σ=[some v,some (.int sz),some (.ref W1),o3]/\ad H (ba H' W1)/\H' W1=some (.lst vs)/\Reps (ba H' W1) ws vs/\smalls ws=true/\(sz + (ws.map aF).sum<=12↔aF d<=12)/\m=12 - sz/\sz<=12/\ws.length<=1 + sz) 12
  ⟨_,0,[d],[v],rfl,fo q1 hW,aa,aP (R.mono (fo q1 hW)),by simp only [smalls,hsm,Bool.and_self],by simp,rfl,by decide,τ _⟩ ?_ eM
 rintro m σ H1 D1 gR gD ⟨o3,sz,ws,vs,rfl,s1,w1,R1,sm,eq,rfl,s12,lw⟩
 have s01:ad H H1:=s1.trans bx
 refine ⟨_,rfl,_,.inl ⟨vs,SqL.of w1,rfl⟩,?_⟩
 by_cases ne:ws=[]
 ·subst ne
  have e:vs=[]:=by simpa only [Reps] using R1
  subst e
  refine aA ?_
  have:=q H1 s01
  rw [decide_eq_true (eq.mp (by simpa using s12))] at this
  exact this
 ·obtain ⟨w0,x,rfl⟩:=fJ ne
  obtain ⟨v0,u,rfl,Ra,Ru⟩:=cf R1
  have e:(!(v0 ++ [u]).isEmpty)=true:=by simp
  rw [e]
  refine av ?_
  rw [ω,u7,Ο,ϡ,CO,List.sum_nil] at eq
  rw [ς,ϐ] at lw
  obtain ⟨sm0,smx⟩:=gO sm
  refine ⟨_,rfl,.inl ⟨rfl,_,SqL.of w1⟩,W1,_,_,rfl,rfl,w1,dy _ _,?_⟩
  rw [u_]
  have t2:ad (ba H1 W1) (ba (upd H1 W1 (.lst v0)) W1):=lA
  have w2:upd H1 W1 (.lst v0) W1=some (.lst v0):=aa
  have s02:ad H _:=s1.trans (t2.trans bx)
  generalize upd H1 W1 (.lst v0)=H2 at t2 w2 s02 ⊢
  have xp:=size_pos x
  refine ⟨_,rfl,_,_,rfl,rfl,?_⟩
  refine ⟨_,rfl,_,_,rfl,rfl,_,rfl,?_⟩
  refine aQ (fun h=>?_) (fun h=>?_)
  ·have h':(12:Int) < (sz:Int) + 1:=of_decide_eq_true h
   have:=q H2 s02
   rw [decide_eq_false (fun z=>by have:=eq.mpr z; omega)] at this
   exact av (gR _ _ this)
  have h':sz + 1<=12:=by have z:¬ ((12:Int) < (sz:Int) + 1):=of_decide_eq_false (A_.mpr h); omega
  refine ⟨_,rfl,u,x,rfl,Ru.mono (t2.trans bx),smx,fun H3 s3=>⟨_,rfl,?_⟩⟩
  have s03:=s02.trans s3
  cases c:cm x with
  | false=>
   have:=q H3 s03
   rw [decide_eq_false (fun z=>by have:=eq.mpr z; rw [qI c] at this; omega)] at this
   exact av (gR _ _ this)
  | true=>
   refine aA ?_
   obtain ⟨wd,r,rfl,k1,k2,es⟩:=gN c
   have Rx:Rep (ba H3 W1) (.tup (.str wd :: r)) u:=Ru.mono (t2.trans (bu s3))
   obtain ⟨a,us,rfl,ha,rs⟩:=Rep.tup_inv Rx
   simp only [Reps] at rs
   obtain ⟨y,ur,rfl,R0,ru⟩:=rs
   obtain rfl:y=.str wd:=R0
   have hl:=ru.length
   have w3:=s3 _ _ w2
   have lk:(kids wd ur).length<=2:=nU (fun z=>by rw [hl]; exact k1 z) (fun z=>by rw [hl]; exact k2 z)
   have lv:v0.length<=12:=by rw [Ra.length]; omega
   refine ⟨_,rfl,.inl ⟨rfl,_,SqL.of w3⟩,_,rfl,a,wd,ur,rfl,bx _ _ ha,fun z=>by rw [hl]; exact k1 z,fun z=>by rw [hl]; exact k2 z,fun l hl4=>?_⟩
   have q4:=ac hl4 (.lst (kids wd ur))
   refine ⟨W1,l,_,_,rfl,rfl,q4 _ _ w3,aa,by rw [ψ]; omega,?_⟩
   have t5:ad (ba H3 W1) (ba (upd (upd H3 l (.lst (kids wd ur))) W1 (.lst (v0 ++ kids wd ur))) W1):=(bu q4).trans lA
   have t15:=t2.trans ((bu s3).trans t5)
   refine gD (12 - (sz + 1)) _ _ (by omega) ⟨_,sz + 1,w0 ++ kids wd r,v0 ++ kids wd ur,rfl,s1.trans t15,aa,Reps.append (Ra.mono t15) ((si ru).mono t5),iD sm0 (pc (by simp only [Dv.small,smalls,Θ] at smx; exact smx.1.2)),?_,rfl,h',?_⟩
   ·rw [<- eq,es,ω,u7]
    constructor <;> intro z <;> omega
   ·have:=nU (α:=Dv) k1 k2
    rw [ς]; omega
end
abbrev eJ:Stmt:=top 32
abbrev cG:Stmt:=top 40
abbrev iR:Stmt:=top 41
abbrev ox:Stmt:=top 42
def tT (b:Int):Dv->Bool
 | .int i=>decide (0<=i) && decide (i < b)
 | _=>false
def gk (b:Int):Dv->Bool
 | .tup ds=>decide (b<=(ds.length:Int)) && decide ((ds.length:Int)<=4)
 | _=>false
def gL (x:Str):Bool:=inV (.str x) (vK.map V.str)
def dj (x:Str):Bool:=WT.any fun p=>decide (p.1=x)
def eP:Dv->Bool
 | .str x=>nmB x && (!dj x && !gL x)
 | _=>false
def Am:Dv->Bool
 | .str x=>gL x
 | _=>false
def vq:So->Dv->Bool
 | .n,d=>tT 1000000000000 d
 | .x,d=>bn d
 | .y,d=>bn d
 | .l,d=>slD d
 | .k,d=>decide (aF d<=12)
 | .w,d=>Am d
 | .f,d=>eP d
 | .a,d=>gk 0 d
 | .r,d=>gk 1 d
 | .e,_=>true
def rj:Sp:=fun vs H Q _=>∃ (v:V) (d:Dv) (b:Int),vs=[v,.int b]/\Rep H d v/\∀ H',ad H H'->Q (.bl (tT b d)) H'
def qr:Sp:=fun vs H Q _=>∃ (v:V) (d:Dv) (b:Int),vs=[v,.int b]/\Rep H d v/\∀ H',ad H H'->Q (.bl (gk b d)) H'
def uS:Sp:=fun vs H Q _=>∃ (s:So) (v:V) (d:Dv),vs=[.str (srt s),v]/\Rep H d v/\d.small=true/\∀ H',ad H H'->Q (.bl (vq s d)) H'
section
variable {P:Β} {w:Ξ} {K:PySem.W.Frag} {mg:Str->Option δ} {base:Heap}
theorem mU:ap ["thing","bound"] ["thing","bound"] (ai eJ):=⟨rfl,rfl,rfl,by decide +kernel,rfl,by decide +kernel,by decide +kernel⟩
theorem mI {f:Addr} {fd:Μ} {k:Nat} (F:Fun K "is_below" "is_below" eJ f fd) (T:Txt K mg) (Dis_whole:Def P w K mg base k "is_whole" ["thing"] (spD bI)):aK P w K mg base CX0 (k + 1) f fd ["thing","bound"] rj:=by
 refine F.ok mU (fun vs H Q E h=>?_) (fun cdv A outer s H vs Q E hr h=>?_)
 ·obtain ⟨v,d,b,rfl,_⟩:=h
  rfl
 obtain ⟨v,d,b,rfl,R,q⟩:=h
 refine ⟨_,(@un _ _ _ (wbQ (wbK (wag (waq Dis_whole hr rfl (wae (wv 0 rfl) waf rfl) (by decide) rfl rfl) (waP (wao jP uB waC (wv 0 rfl) (wv 1 rfl) (by with_unfolding_all rfl))))))),?_⟩
 refine ⟨_,rfl,v,d,rfl,R,fun H1 s1=>⟨_,rfl,?_⟩⟩
 have qq:=q H1 s1
 cases d with
 | int i=>
  obtain rfl:v=.int i:=R
  refine av ⟨_,rfl,_,_,rfl,rfl,_,rfl,?_⟩
  have qq':Q (.bl (decide (0<=i) && decide (i < b))) H1:=qq
  by_cases h:0<=i
  ·rw [decide_eq_true h] at qq' ⊢
   exact av ⟨_,rfl,_,_,rfl,rfl,qq'⟩
  ·rw [decide_eq_false h] at qq' ⊢
   exact aA qq'
 | _=>exact aA qq
theorem sL:ap ["thing","least"] ["thing","least"] (ai iR):=⟨rfl,rfl,rfl,by decide +kernel,rfl,by decide +kernel,by decide +kernel⟩
theorem rR {f:Addr} {fd:Μ} (F:Fun K "is_few" "is_few" iR f fd) (T:Txt K mg):aK P w K mg base CX0 1 f fd ["thing","least"] qr:=by
 refine F.ok sL (fun vs H Q E h=>?_) (fun cdv A outer s H vs Q E hr h=>?_)
 ·obtain ⟨v,d,b,rfl,_⟩:=h
  rfl
 obtain ⟨v,d,b,rfl,R,q⟩:=h
 refine ⟨_,(@un _ _ _ (wbQ (wbK (wag (wal bo rfl T.isinstance (by decide +kernel) (wae (wv 0 rfl) (wae (wai (.ty "tuple") rfl T.tuple (by decide +kernel) rfl (by decide) (by decide)) waf rfl) rfl) (by decide) (by decide) rfl rfl) (waP (wao jP jP (wv 1 rfl) (wal aq rfl T.len (by decide +kernel) (wae (wv 0 rfl) waf rfl) (by decide) (by decide) rfl rfl) ⟨T.g_MOST_THINGS rfl⟩ (by with_unfolding_all rfl))))))),?_⟩
 have qq:=q H (ad.refl H)
 refine ⟨_,rfl,v,_,_,_,rfl,R.ty,cj K d,_,rfl,?_⟩
 cases d with
 | tup ds=>
  obtain ⟨a,vs,rfl,ha,rs⟩:=Rep.tup_inv R
  have hl:=rs.length
  refine av ⟨_,rfl,_,rfl,a,vs,rfl,.inr (SqT.of ha),_,_,rfl,rfl,_,rfl,?_⟩
  have qq':Q (.bl (decide (b<=(ds.length:Int)) && decide ((ds.length:Int)<=4))) H:=qq
  rw [<- hl] at qq'
  by_cases h:b<=(vs.length:Int)
  ·rw [decide_eq_true h] at qq' ⊢
   exact av ⟨_,_,rfl,rfl,qq'⟩
  ·rw [decide_eq_false h] at qq' ⊢
   exact aA qq'
 | _=>exact aA qq
theorem ij:ap ["thing"] ["thing"] (ai cG):=⟨rfl,rfl,rfl,by decide +kernel,rfl,by decide +kernel,by decide +kernel⟩
theorem iI {f gS gR:Addr} {fd:Μ} {k:Nat} (F:Fun K "is_def_name" "is_def_name" cG f fd) (T:Txt K mg) (S:Shp P w K gS) (GS:mg "SHAPES"=some (.ref gS)) (GR:mg "RECKONS"=some (.ref gR)) (hR:∀ H,SqT K H gR (vK.map V.str)) (Dis_name:Def P w K mg base k "is_name" ["thing"] (spS bn)):aK P w K mg base CX0 (k + 1) f fd ["thing"] (spS eP):=by
 refine F.ok ij (fun vs H Q E h=>?_) (fun cdv A outer s H vs Q E hr h=>?_)
 ·obtain ⟨v,d,rfl,_⟩:=h
  rfl
 obtain ⟨v,d,rfl,R,sm,q⟩:=h
 obtain ⟨kvs,FS,_,hS⟩:=S.ex
 refine ⟨_,(@un _ _ _ (wbQ (wbK (wag (waq Dis_name hr rfl (wae (wv 0 rfl) waf rfl) (by decide) rfl rfl) (wag (wap (jL FS) (wv 0 rfl) (waB (.ref gS) rfl GS rfl (by decide)) (by with_unfolding_all rfl)) (waP (wap lb (wv 0 rfl) (waB (.ref gR) rfl GR rfl (by decide)) (by with_unfolding_all rfl)))))))),?_⟩
 refine ⟨_,rfl,v,d,rfl,R,sm,fun H1 s1=>⟨_,rfl,?_⟩⟩
 have qq:=q H1 s1
 cases d with
 | str x=>
  obtain rfl:v=.str x:=R
  have qq':Q (.bl (nmB x && (!dj x && !gL x))) H1:=qq
  show if nmB x=true then _ else _
  cases hn:nmB x with
  | false=>rw [hn] at qq'; exact aA qq'
  | true=>
   rw [hn] at qq'
   refine av ⟨_,rfl,x,rfl,rfl,_,rfl,?_⟩
   rw [hS x]
   show if xor true (dj x)=true then _ else _
   cases hw:dj x with
   | true=>rw [hw] at qq'; exact aA qq'
   | false=>
    rw [hw] at qq'
    exact av ⟨_,rfl,gR,_,rfl,.inr (hR _),rfl,by decide +kernel,qq'⟩
 | _=>exact aA qq
theorem xE:ap ["sort","thing"] ["sort","thing"] (ai ox):=⟨rfl,rfl,rfl,by decide +kernel,rfl,by decide +kernel,by decide +kernel⟩
theorem wL {f gR:Addr} {fd:Μ} {k:Nat} (F:Fun K "fits" "fits" ox f fd) (T:Txt K mg) (GR:mg "RECKONS"=some (.ref gR)) (hR:∀ H,SqT K H gR (vK.map V.str)) (Dis_below:Def P w K mg base k "is_below" ["thing","bound"] rj) (Dis_name:Def P w K mg base k "is_name" ["thing"] (spS bn)) (Dis_small_length:Def P w K mg base k "is_small_length" ["thing"] (spS slD)) (Dis_kind:Def P w K mg base k "is_kind" ["thing"] iA) (Dis_def_name:Def P w K mg base k "is_def_name" ["thing"] (spS eP)) (Dis_few:Def P w K mg base k "is_few" ["thing","least"] qr):aK P w K mg base CX0 (k + 1) f fd ["sort","thing"] uS:=by
 refine F.ok xE (fun vs H Q E h=>?_) (fun cdv A outer s H vs Q E hr h=>?_)
 ·obtain ⟨s,v,d,rfl,_⟩:=h
  rfl
 obtain ⟨so,v,d,rfl,R,sm,q⟩:=h
 refine ⟨_,(@un _ _ _ (wbO (wbI (wbS aG (wv 0 rfl) waV (ak _)) (wbQ (wbK (waq Dis_below hr rfl (wae (wv 1 rfl) (wae ⟨T.g_WHOLE_BOUND rfl⟩ waf rfl) rfl) (by decide) rfl rfl))) wbP) (wbO (wbI (wbS aG (wv 0 rfl) waV (ak _)) (wbQ (wbK (waq Dis_name hr rfl (wae (wv 1 rfl) waf rfl) (by decide) rfl rfl))) wbP) (wbO (wbI (wbS aG (wv 0 rfl) waV (ak _)) (wbQ (wbK (waq Dis_small_length hr rfl (wae (wv 1 rfl) waf rfl) (by decide) rfl rfl))) wbP) (wbO (wbI (wbS aG (wv 0 rfl) waV (ak _)) (wbQ (wbK (waq Dis_kind hr rfl (wae (wv 1 rfl) waf rfl) (by decide) rfl rfl))) wbP) (wbO (wbI (wbS aG (wv 0 rfl) waV (ak _)) (wbQ (wbK (wag (wal bo rfl T.isinstance (by decide +kernel) (wae (wv 1 rfl) (wae (wai (.ty "str") rfl T.str (by decide +kernel) rfl (by decide) (by decide)) waf rfl) rfl) (by decide) (by decide) rfl rfl) (waP (wap ka (wv 1 rfl) (waB (.ref gR) rfl GR rfl (by decide)) (by with_unfolding_all rfl)))))) wbP) (wbO (wbI (wbS aG (wv 0 rfl) waV (ak _)) (wbQ (wbK (waq Dis_def_name hr rfl (wae (wv 1 rfl) waf rfl) (by decide) rfl rfl))) wbP) (wbO (wbI (wbS aG (wv 0 rfl) waV (ak _)) (wbQ (wbK (waq Dis_few hr rfl (wae (wv 1 rfl) (wae waC waf rfl) rfl) (by decide) rfl rfl))) wbP) (wbO (wbI (wbS aG (wv 0 rfl) waV (ak _)) (wbQ (wbK (waq Dis_few hr rfl (wae (wv 1 rfl) (wae waC waf rfl) rfl) (by decide) rfl rfl))) wbP) (wbQ (wbK wah))))))))))),?_⟩
 refine ⟨_,rfl,rfl,_,rfl,aQ (fun h=>?_) (fun h1=>?_)⟩
 ·have e:=(yp so).mp (of_decide_eq_true h)
  subst e
  exact ⟨_,rfl,v,d,_,rfl,R,q⟩
 refine ⟨_,rfl,rfl,_,rfl,aQ (fun h=>?_) (fun h2=>?_)⟩
 ·rcases (vD so).mp (of_decide_eq_true h) with e | e
  ·subst e; exact ⟨_,rfl,v,d,rfl,R,sm,q⟩
  ·subst e; exact ⟨_,rfl,v,d,rfl,R,sm,q⟩
 refine ⟨_,rfl,rfl,_,rfl,aQ (fun h=>?_) (fun h3=>?_)⟩
 ·have e:=(xW so).mp (of_decide_eq_true h)
  subst e
  exact ⟨_,rfl,v,d,rfl,R,sm,q⟩
 refine ⟨_,rfl,rfl,_,rfl,aQ (fun h=>?_) (fun h4=>?_)⟩
 ·have e:=(yz so).mp (of_decide_eq_true h)
  subst e
  exact ⟨_,rfl,v,d,rfl,R,sm,q⟩
 refine ⟨_,rfl,rfl,_,rfl,aQ (fun h=>?_) (fun h5=>?_)⟩
 ·have e:=(xY so).mp (of_decide_eq_true h)
  subst e
  refine ⟨_,rfl,v,_,_,_,rfl,R.ty,lm K d,_,rfl,?_⟩
  have qq:=q H (ad.refl H)
  cases d with
  | str x=>
   obtain rfl:v=.str x:=R
   exact av ⟨_,rfl,gR,_,rfl,.inr (hR _),rfl,by decide +kernel,qq⟩
  | _=>exact aA qq
 refine ⟨_,rfl,rfl,_,rfl,aQ (fun h=>?_) (fun h6=>?_)⟩
 ·have e:=(yv so).mp (of_decide_eq_true h)
  subst e
  exact ⟨_,rfl,v,d,rfl,R,sm,q⟩
 refine ⟨_,rfl,rfl,_,rfl,aQ (fun h=>?_) (fun h7=>?_)⟩
 ·have e:=(mQ so).mp (of_decide_eq_true h)
  subst e
  exact ⟨_,rfl,v,d,_,rfl,R,q⟩
 refine ⟨_,rfl,rfl,_,rfl,aQ (fun h=>?_) (fun h8=>?_)⟩
 ·have e:=(mi so).mp (of_decide_eq_true h)
  subst e
  exact ⟨_,rfl,v,d,_,rfl,R,q⟩
 have e:so=.e:=by
  cases so with
  | e=>rfl
  | n=>exact absurd (decide_eq_true ((yp .n).mpr rfl)) h1
  | x=>exact absurd (decide_eq_true ((vD .x).mpr (.inl rfl))) h2
  | y=>exact absurd (decide_eq_true ((vD .y).mpr (.inr rfl))) h2
  | l=>exact absurd (decide_eq_true ((xW .l).mpr rfl)) h3
  | k=>exact absurd (decide_eq_true ((yz .k).mpr rfl)) h4
  | w=>exact absurd (decide_eq_true ((xY .w).mpr rfl)) h5
  | f=>exact absurd (decide_eq_true ((yv .f).mpr rfl)) h6
  | a=>exact absurd (decide_eq_true ((mQ .a).mpr rfl)) h7
  | r=>exact absurd (decide_eq_true ((mi .r).mpr rfl)) h8
 subst e
 exact q H (ad.refl H)
end
abbrev gc:Stmt:=top 43
abbrev fi:Stmt:=top 44
def qG:Sp:=fun vs H Q _=>∃ (v:V) (d:Dv) (G:Hp),vs=[v]/\ad G H/\Rep G d v/\yF d/\∀ (H':Hp) (l:Addr) (us:List V),ad H H'->H l=none->H' l=some (.lst us)->Reps G (bN d) us->Q (.ref l) H'
def okF:List So->List Dv->Bool
 | [],[]=>true
 | s :: ss,d :: ds=>vq s d && okF ss ds
 | _,_=>false
def kc:List Dv->Bool
 | .str x :: _ :: .str y :: _=>decide (x≠y)
 | _=>false
def dw:Dv->Bool
 | .tup (.str w :: ds)=>match WT.find? (fun q=>decide (q.1=w)) with
  | some p=>okF p.2.2 ds && (decide (w≠"fold") || kc ds)
  | none=>false
 | _=>false
theorem rF {d:Dv} (h:dO d=false):dw d=false:=by
 match d,h with
 | .tup (.str x :: r),h=>cases h
 | .tup [],_=>rfl
 | .tup (.non :: r),_=>rfl
 | .tup (.bl _ :: r),_=>rfl
 | .tup (.int _ :: r),_=>rfl
 | .tup (.tup _ :: r),_=>rfl
 | .tup (.lst _ :: r),_=>rfl
 | .tup (.dct :: r),_=>rfl
 | .non,_=>rfl
 | .bl _,_=>rfl
 | .int _,_=>rfl
 | .str _,_=>rfl
 | .lst _,_=>rfl
 | .dct,_=>rfl
theorem qE {x:Str} {ds:List Dv} (h:dj x=false):dw (.tup (.str x :: ds))=false:=by
 have e:WT.find? (fun q=>decide (q.1=x))=none:=by
  rw [Do]
  intro p hp
  have:=Cp.mp h p hp
  exact this
 show (match WT.find? (fun q=>decide (q.1=x)) with | some p'=>okF p'.2.2 ds && (decide (x≠"fold") || kc ds) | none=>false)=_
 rw [e]
theorem qH {x:Str} (h:dj x=true):∃ p∈WT,p.1=x:=by
 obtain ⟨p,hp,e⟩:=a_.mp h
 exact ⟨p,hp,of_decide_eq_true e⟩
theorem fv {p:Wd} (hp:p∈WT) (ds:List Dv):dw (.tup (.str p.1 :: ds))=(okF p.2.2 ds && (decide (p.1≠"fold") || kc ds)):=by
 show (match WT.find? (fun q=>decide (q.1=p.1)) with | some p'=>okF p'.2.2 ds && (decide (p.1≠"fold") || kc ds) | none=>false)=_
 rw [rk yn hp]
theorem lJ:∀ {ss:List So} {ds:List Dv},okF ss ds=true->ds.length=ss.length
 | [],[],_=>rfl
 | s :: ss,d :: ds,h=>by
  simp only [okF,Θ] at h
  rw [Υ,Υ,lJ h.2]
 | [],_ :: _,h=>by cases h
 | _ :: _,[],h=>by cases h
theorem vW {ss:List So} {ds:List Dv} {i:Nat} {s:So} {d:Dv} (hs:ss[i]?=some s) (hd:ds[i]?=some d):okF (ss.drop i) (ds.drop i)=(vq s d && okF (ss.drop (i + 1)) (ds.drop (i + 1))):=by
 obtain ⟨h1,rfl⟩:=π.mp hs
 obtain ⟨h2,rfl⟩:=π.mp hd
 rw [j_ h1,j_ h2]
 rfl
theorem qV {b:Int} {d:Dv} (h:gk b d=true):∃ es,d=.tup es/\b<=(es.length:Int)/\es.length<=4:=by
 cases d with
 | tup es=>
  simp only [gk,Θ,decide_eq_true_eq] at h
  exact ⟨es,rfl,h.1,by omega⟩
 | _=>cases h
theorem tU:∀ {ss:List So} {ds:List Dv},okF ss ds=true->F2 (Fld (fun _=>True) (fun _ _=>True)) ss ds
 | [],[],_=>.nil
 | s :: ss,d :: ds,h=>by
  simp only [okF,Θ] at h
  refine .cons ?_ (tU h.2)
  cases s with
  | a=>obtain ⟨es,rfl,_,h4⟩:=qV (b:=0) h.1; exact ⟨es,rfl,h4,fun _ _=>trivial⟩
  | r=>obtain ⟨es,rfl,h1,h4⟩:=qV (b:=1) h.1; exact ⟨es,rfl,by omega,h4,fun _ _=>trivial⟩
  | e=>trivial
  | _=>trivial
 | [],_ :: _,h=>by cases h
 | _ :: _,[],h=>by cases h
theorem rO {d:Dv} (h:dw d=true):yF d:=by
 match d,h with
 | .tup (.str x :: ds),h=>
  cases hw:dj x with
  | false=>rw [qE hw] at h; cases h
  | true=>
   obtain ⟨p,hp,rfl⟩:=qH hw
   rw [fv hp,Θ] at h
   exact ⟨p,ds,hp,rfl,tU h.1⟩
 | .tup [],h=>cases h
 | .tup (.non :: r),h=>cases h
 | .tup (.bl _ :: r),h=>cases h
 | .tup (.int _ :: r),h=>cases h
 | .tup (.tup _ :: r),h=>cases h
 | .tup (.lst _ :: r),h=>cases h
 | .tup (.dct :: r),h=>cases h
 | .non,h=>cases h
 | .bl _,h=>cases h
 | .int _,h=>cases h
 | .str _,h=>cases h
 | .lst _,h=>cases h
 | .dct,h=>cases h
theorem BA {ds:List Dv} (h:ds.length=5):∃ a b c d e,ds=[a,b,c,d,e]:=by
 match ds,h with
 | [a,b,c,d,e],_=>exact ⟨a,b,c,d,e,rfl⟩
theorem wE:∀ p∈WT,p.1="fold"->p.2.2=[.x,.l,.y,.e,.e]:=by decide +kernel
theorem nZ {d:Dv} (h:bn d=true):∃ x,d=.str x:=by
 cases d with
 | str x=>exact ⟨x,rfl⟩
 | _=>cases h
section
variable {P:Β} {w:Ξ} {K:PySem.W.Frag} {mg:Str->Option δ} {base:Heap}
theorem gX:ap ["node","parts","sort","given"] ["node"] (ai fi):=⟨rfl,rfl,rfl,by decide +kernel,rfl,by decide +kernel,by decide +kernel⟩
theorem nC {f gS:Addr} {fd:Μ} (F:Fun K "parts_of" "parts_of" fi f fd) (T:Txt K mg) (S:Shp P w K gS) (GS:mg "SHAPES"=some (.ref gS)):aK P w K mg base CX0 1 f fd ["node"] qG:=by
 have nd:(["node","parts","sort","given"]:List Str).Nodup:=gX.nd
 refine F.ok gX (fun vs H Q E h=>?_) (fun cdv A outer s H vs Q E hr h=>?_)
 ·obtain ⟨v,d,G,rfl,_⟩:=h
  rfl
 obtain ⟨v,d,G,rfl,sG,R,⟨p,ds,hp,rfl,hf⟩,q⟩:=h
 obtain ⟨kvs,FS,hS,_⟩:=S.ex
 obtain ⟨a,vs,rfl,haG,rs⟩:=Rep.tup_inv R
 obtain ⟨v0,ws,rfl,R0,rw'⟩:=cJ rs
 have ha:=sG _ _ haG
 obtain rfl:v0=.str p.1:=R0
 obtain ⟨b,hb,hbT⟩:=hS p hp
 have lds:=hf.length
 have lws:=rw'.length
 have h5:=qK p hp
 refine ⟨_,(@un _ _ _ (wbO (wbM 1 nd rfl (Λ rfl) (waM waf) rfl (by trivial)) (wbO (wbH ϝ rfl (wbs rfl T.zip (wae (wbu FS (waB (.ref gS) rfl GS rfl (by decide)) (waD ao (wv 0 rfl) waC (fun _ _=>rfl)) (fun _ _=>rfl)) (wae (waT qP (wv 0 rfl) (wbA waC) wbz) waf rfl) rfl) rfl rfl) (wbb rfl (wbd (waZ 2 nd rfl (Λ rfl) (by trivial)) (wbd (waZ 3 nd rfl (Λ rfl) (by trivial)) wbe rfl) rfl) rfl rfl) (wbO (wbI (wbS aG (wv 2 rfl) waV (ak _)) (wbQ (wbG (waj PySem.F.plainAttrs_list PySem.F.slot_list_append PySem.F.type_list_append bg (wv 1 rfl) (wae (wv 3 rfl) waf rfl) rfl rfl rfl rfl rfl) rfl)) wbP) (wbQ (wbI (wab (wbY (wbS aG (wv 2 rfl) waV (ak _)) (wbZ (wbS aG (wv 2 rfl) waV (ak _))))) (wbQ (wbG (waj PySem.F.plainAttrs_list PySem.F.slot_list_extend PySem.F.type_list_extend xC (wv 1 rfl) (wae (wv 3 rfl) waf rfl) rfl rfl rfl rfl rfl) rfl)) wbP))) (by intro _; rfl)) (wbQ (wbK (wv 1 rfl)))))),?_⟩
 refine ⟨Χ _,fun l hl=>?_⟩
 have q1:=ac hl (.lst [])
 have l1:upd H l (.lst []) l=some (.lst []):=aa
 generalize upd H l (.lst [])=H1 at q1 l1 ⊢
 refine gnm ?_
 dsimp only
 refine ⟨_,rfl,a,_,0,.str p.1,rfl,rfl,SqT.of (q1 _ _ ha),af (j:=0) rfl,p.1,b,rfl,rfl,hb,?_⟩
 refine ⟨_,rfl,1,rfl,?_⟩
 dsimp only [kz]
 refine qw (q1 _ _ ha) fun H2 t s2 ht=>?_
 have ec:aJ (V.str p.1 :: ws) (some 1) none=ws:=cL (V.str p.1 :: ws) 1
 rw [ec] at ht
 have s02:=q1.trans s2
 have l2:=s2 _ _ l1
 refine ⟨b,t,rfl,⟨_,hbT _⟩,⟨_,SqT.of ht⟩,gT (D:={ nx:=xc (fw 1) { nx:=fun x H'=>Q V.non H',rt:=Q },rt:=Q }) (xs:=p.2.2.map fun s=>V.str (srt s)) (ys:=ws) (fun i σ H'=>∃ (o2 o3:Option V) (us:List V),σ=[some (.ref a),some (.ref l),o2,o3]/\ad H H'/\H' t=some (.tup ws)/\H' l=some (.lst us)/\Reps G (bc (p.2.2.take i) (ds.take i)) us/\us.length<=4 * i) ⟨_,_,[],rfl,s02,ht,l2,by simp [bc,Reps],τ _⟩ (fun i σ H' ⟨_,_,_,_,_,h,_⟩=>⟨hbT _,SqT.of h⟩) ?T1 ?_⟩
 case T1=>
  rintro i x y σ H3 t3 D1 gR gD hx hy ⟨o2,o3,us,rfl,s3,ht3,l3,R3,lu⟩ hp3
  rw [Κ] at hx
  obtain ⟨so,hso,rfl⟩:=Ϙ.mp hx
  have hi:i < p.2.2.length:=(π.mp hso).1
  obtain ⟨d,hd,hfd⟩:=hf.get hso
  obtain ⟨y',hy',Ry⟩:=sA rw' hd
  rw [hy] at hy'
  cases hy'
  have q4:=ac hp3 (.tup [.str (srt so),y])
  have ht4:upd H3 t3 (.tup [.str (srt so),y]) t3=some (.tup [.str (srt so),y]):=aa
  have s4:=s3.trans q4
  have l4:=q4 _ _ l3
  have t4:=q4 _ _ ht3
  generalize upd H3 t3 (.tup [.str (srt so),y])=H4 at ht4 s4 l4 t4 ⊢
  refine ⟨t3,_,rfl,SqT.of ht4,rfl,_,_,rfl,_,_,rfl,rfl,?_⟩
  have put:∀ (us':List V),Reps G (ptD so d) us'->us'.length<=4->(∃ (o2 o3:Option V) (us2:List V),[some (V.ref a),some (.ref l),some (.str (srt so)),some y]=[some (.ref a),some (.ref l),o2,o3]/\ad H (upd H4 l (.lst (us ++ us')))/\upd H4 l (.lst (us ++ us')) t=some (.tup ws)/\upd H4 l (.lst (us ++ us')) l=some (.lst us2)/\Reps G (bc (p.2.2.take (i + 1)) (ds.take (i + 1))) us2/\us2.length<=4 * (i + 1)):=fun us' Ru lu'=>by
   refine ⟨_,_,us ++ us',rfl,fun g o e=>?_,?_,aa,?_,by rw [ς]; omega⟩
   ·rw [ag (ae e hl)]; exact s4 g o e
   ·rw [ag (fun e=>by rw [e,l4] at t4; cases t4)]; exact t4
   ·rw [jI _ _ _ hso hd]
    exact Reps.append R3 Ru
  have same:ptD so d=[]->(∃ (o2 o3:Option V) (us2:List V),[some (V.ref a),some (.ref l),some (.str (srt so)),some y]=[some (.ref a),some (.ref l),o2,o3]/\ad H H4/\H4 t=some (.tup ws)/\H4 l=some (.lst us2)/\Reps G (bc (p.2.2.take (i + 1)) (ds.take (i + 1))) us2/\us2.length<=4 * (i + 1)):=fun e=>by
   refine ⟨_,_,us,rfl,s4,t4,l4,?_,by omega⟩
   rw [jI _ _ _ hso hd,e,j9]
   exact R3
  replace put:=fun us' h1 h2=>gD _ _ (put us' h1 h2)
  replace same:=fun e=>gD _ _ (same e)
  refine ⟨_,rfl,rfl,_,rfl,aQ (fun h=>?_) (fun h=>?_)⟩
  ·have e:=(xS so).mp (of_decide_eq_true h)
   subst e
   refine ⟨_,rfl,.inl ⟨rfl,_,SqL.of l4⟩,_,rfl,l,_,_,rfl,rfl,l4,by rw [ψ]; omega,?_⟩
   have fin:=put [y] (aP Ry) (by show 1<=4; decide)
   refine ⟨_,rfl,rfl,_,rfl,aQ (fun h2=>absurd ((mQ .e).mp (of_decide_eq_true h2)) (by decide)) (fun _=>⟨_,rfl,rfl,_,rfl,?_⟩)⟩
   rw [show decide (V.str (srt .e)=V.str "things")=false from decide_eq_false fun h2=>absurd ((mi .e).mp h2) (by decide)]
   exact aA fin
  ·have ne:so≠.e:=fun e=>h (decide_eq_true ((xS so).mpr e))
   by_cases har:so=.a\/so=.r
   ·obtain ⟨es,rfl,l4e⟩:∃ es,d=.tup es/\es.length<=4:=by
     rcases har with e | e
     ·subst e; obtain ⟨es,h1,h2,_⟩:=hfd; exact ⟨es,h1,h2⟩
     ·subst e; obtain ⟨es,h1,_,h2,_⟩:=hfd; exact ⟨es,h1,h2⟩
    have ek:ptD so (.tup es)=es:=by rcases har with e | e <;> subst e <;> rfl
    obtain ⟨b2,zs,rfl,hb2,rz⟩:=Rep.tup_inv Ry
    have lz:=rz.length
    refine tnx ?_
    dsimp only
    refine zO (av ?_) fun qT=>?_
    ·refine ⟨_,rfl,.inl ⟨rfl,_,SqL.of l4⟩,_,rfl,l,b2,_,zs,rfl,rfl,l4,SqT.of (s4 _ _ (sG _ _ hb2)),by rw [ψ]; omega,put zs (by rw [ek]; exact rz) (by omega)⟩
    ·rcases har with e | e
     ·exact ⟨_,rfl,rfl,_,rfl,aQ (fun _=>qT) (fun h2=>absurd (decide_eq_true ((mQ so).mpr e)) h2)⟩
     ·refine ⟨_,rfl,rfl,_,rfl,aQ (fun _=>qT) (fun _=>⟨_,rfl,rfl,_,rfl,?_⟩)⟩
      rw [decide_eq_true ((mi so).mpr e)]
      exact qT
   ·have na:so≠.a:=fun e=>har (.inl e)
    have nr:so≠.r:=fun e=>har (.inr e)
    refine tnx ⟨_,rfl,rfl,_,rfl,aQ (fun h2=>absurd ((mQ so).mp (of_decide_eq_true h2)) na) (fun _=>⟨_,rfl,rfl,_,rfl,?_⟩)⟩
    rw [show decide (V.str (srt so)=V.str "things")=false from decide_eq_false fun h2=>nr ((mi so).mp h2)]
    refine aA (same ?_)
    cases so with
    | e=>exact absurd rfl ne
    | a=>exact absurd rfl na
    | r=>exact absurd rfl nr
    | _=>rfl
 rintro σ H3 ⟨o2,o3,us,rfl,s3,ht3,l3,R3,lu⟩
 refine ⟨_,rfl,q H3 l us s3 hl l3 ?_⟩
 rw [ζ,u6 (by omega),ϛ,<- lds,ϛ] at R3
 rw [parts_of hp]
 exact R3
theorem iU:ap ["thing","shape","sort","given"] ["thing"] (ai gc):=⟨rfl,rfl,rfl,by decide +kernel,rfl,by decide +kernel,by decide +kernel⟩
theorem oJ {f gS:Addr} {fd:Μ} {k:Nat} (F:Fun K "is_node" "is_node" gc f fd) (T:Txt K mg) (S:Shp P w K gS) (GS:mg "SHAPES"=some (.ref gS)) (Dhas_word:Def P w K mg base k "has_word" ["thing"] (spD dO)) (Dfits:Def P w K mg base k "fits" ["sort","thing"] uS):aK P w K mg base CX0 (k + 1) f fd ["thing"] (spS dw):=by
 have nd:(["thing","shape","sort","given"]:List Str).Nodup:=iU.nd
 refine F.ok iU (fun vs H Q E h=>?_) (fun cdv A outer s H vs Q E hr h=>?_)
 ·obtain ⟨v,d,rfl,_⟩:=h
  rfl
 obtain ⟨v,d,rfl,R,hsm,q⟩:=h
 obtain ⟨kvs,FS,hS,hS2⟩:=S.ex
 refine ⟨_,(@un _ _ _ (wbO (wbI (wab (wbY (wbT (wbV (waq Dhas_word hr rfl (wae (wv 0 rfl) waf rfl) (by decide) rfl rfl) (by intro _; rfl))) (wbZ (wbS (jL FS) (waD ao (wv 0 rfl) waC (fun _ _=>rfl)) (waB (.ref gS) rfl GS rfl (by decide)) (by with_unfolding_all rfl))))) (wbQ (wbK wah)) wbP) (wbO (wbM 1 nd rfl (Λ rfl) (wbu FS (waB (.ref gS) rfl GS rfl (by decide)) (waD ao (wv 0 rfl) waC (fun _ _=>rfl)) (fun _ _=>rfl)) rfl (by trivial)) (wbO (wbI (wbS fE (wal aq rfl T.len (by decide +kernel) (wae (wv 0 rfl) waf rfl) (by decide) (by decide) rfl rfl) (waQ bE (wal aq rfl T.len (by decide +kernel) (wae (wv 1 rfl) waf rfl) (by decide) (by decide) rfl rfl) waC) (ak _)) (wbQ (wbK wah)) wbP) (wbO (wbH ϝ rfl (wbs rfl T.zip (wae (wv 1 rfl) (wae (waT qP (wv 0 rfl) (wbA waC) wbz) waf rfl) rfl) rfl rfl) (wbb rfl (wbd (waZ 2 nd rfl (Λ rfl) (by trivial)) (wbd (waZ 3 nd rfl (Λ rfl) (by trivial)) wbe rfl) rfl) rfl rfl) (wbQ (wbI (wbT (wbV (waq Dfits hr rfl (wae (wv 2 rfl) (wae (wv 3 rfl) waf rfl) rfl) (by decide) rfl rfl) (by intro _; rfl))) (wbQ (wbK wah)) wbP)) (by intro _; rfl)) (wbQ (wbK (waR (wap fE (waD ao (wv 0 rfl) waC (fun _ _=>rfl)) waV (ak _)) (waP (wap fE (waD ao (wv 0 rfl) waC (fun _ _=>rfl)) (waD ao (wv 0 rfl) waC (fun _ _=>rfl)) (ak _))))))))))),?_⟩
 refine ⟨_,rfl,v,d,rfl,R,fun H1 s1=>⟨_,rfl,?_⟩⟩
 cases c0:dO d with
 | false=>
  refine av (av ?_)
  have:=q H1 s1
  rwa [rF c0] at this
 | true=>
  refine aA ?_
  obtain ⟨x,ds,rfl⟩:=eX c0
  obtain ⟨a,vs,rfl,ha,rs⟩:=Rep.tup_inv (R.mono s1)
  obtain ⟨y,ws,rfl,R0,ru⟩:=cJ rs
  obtain rfl:y=.str x:=R0
  have lws:=ru.length
  have hds:smalls ds=true:=by
   simp only [Dv.small,smalls,Θ] at hsm
   exact hsm.1.2
  refine ⟨_,rfl,a,_,0,.str x,rfl,rfl,SqT.of ha,af (j:=0) rfl,x,rfl,rfl,_,rfl,?_⟩
  rw [hS2 x]
  show if xor true (dj x)=true then _ else _
  cases hw:dj x with
  | false=>
   refine av ?_
   have:=q H1 s1
   rwa [qE hw] at this
  | true=>
   refine aA ?_
   obtain ⟨p,hp,rfl⟩:=qH hw
   obtain ⟨b,hb,hbT⟩:=hS p hp
   have h5:=qK p hp
   refine ⟨_,rfl,a,_,0,.str p.1,rfl,rfl,SqT.of ha,af (j:=0) rfl,p.1,b,rfl,rfl,hb,?_⟩
   refine ⟨_,rfl,a,_,rfl,.inr (SqT.of ha),_,rfl,b,_,rfl,.inr (hbT _),_,_,rfl,rfl,rfl,_,rfl,?_⟩
   by_cases hl:ds.length=p.2.2.length
   ·rw [show (!decide (V.int (((V.str p.1 :: ws).length:Nat):Int)=V.int ((((p.2.2.map fun s=>V.str (srt s)).length:Nat):Int) + 1)))=false by
     rw [Υ,lws,hl,ζ,show ((p.2.2.length + 1:Nat):Int)=(p.2.2.length:Int) + 1 by omega,decide_eq_true rfl]; rfl]
    refine aA ?_
    refine ⟨_,rfl,_,rfl,1,rfl,?_⟩
    dsimp only [kz]
    refine qw ha fun H2 t s2 ht=>?_
    have ec:aJ (V.str p.1 :: ws) (some 1) none=ws:=cL (V.str p.1 :: ws) 1
    rw [ec] at ht
    have s02:=s1.trans s2
    refine ⟨b,t,rfl,⟨_,hbT _⟩,⟨_,SqT.of ht⟩,gT (D:={ nx:=xc (AF (tOp rNe (tOp (tH K) (fw 0) (tC (V.int 0))) (tC (V.str (η "fold")))) (tOp rNe (tOp (tH K) (fw 0) (tC (V.int 1))) (tOp (tH K) (fw 0) (tC (V.int 3))))) { nx:=fun x H'=>Q V.non H',rt:=Q },rt:=Q }) (xs:=p.2.2.map fun s=>V.str (srt s)) (ys:=ws) (fun i σ H'=>∃ (o2 o3:Option V),σ=[some (.ref a),some (.ref b),o2,o3]/\ad H2 H'/\okF p.2.2 ds=okF (p.2.2.drop i) (ds.drop i)) ⟨_,_,rfl,ad.refl _,rfl⟩ (fun i σ H' ⟨_,_,_,h,_⟩=>⟨hbT _,SqT.of (h _ _ ht)⟩) ?T1 ?_⟩
    case T1=>
     rintro i x y σ H3 t3 D1 gR gD hx hy ⟨o2,o3,rfl,s3,ok3⟩ hp3
     rw [Κ] at hx
     obtain ⟨so,hso,rfl⟩:=Ϙ.mp hx
     obtain ⟨d,hd,Ry⟩:=ru.get hy
     have q4:=ac hp3 (.tup [.str (srt so),y])
     have ht4:upd H3 t3 (.tup [.str (srt so),y]) t3=some (.tup [.str (srt so),y]):=aa
     have s4:=s2.trans (s3.trans q4)
     have s24:=s3.trans q4
     generalize upd H3 t3 (.tup [.str (srt so),y])=H4 at ht4 s4 s24 ⊢
     refine ⟨t3,_,rfl,SqT.of ht4,rfl,_,_,rfl,_,_,rfl,rfl,?_⟩
     refine ⟨_,rfl,_,rfl,so,y,d,rfl,Ry.mono s4,ck hds hd,fun H5 s5=>⟨_,rfl,?_⟩⟩
     rw [vW hso hd] at ok3
     cases hfit:vq so d with
     | false=>
      refine av ?_
      have:=q H5 (s1.trans (s4.trans s5))
      rw [fv hp,ok3,hfit] at this
      exact gR _ _ this
     | true=>
      refine aA (gD _ _ ⟨_,_,rfl,s24.trans s5,?_⟩)
      rw [ok3,hfit,ϓ]
    rintro σ H3 ⟨o2,o3,rfl,s3,ok3⟩
    have okk:okF p.2.2 ds=true:=by
     rw [ok3,ζ,u6 (by omega),DP,<- hl,DP]
     rfl
    have s23:=s2.trans s3
    have qq:=q H3 (s1.trans s23)
    rw [fv hp,okk,ϓ] at qq
    refine ⟨_,rfl,a,_,0,.str p.1,rfl,rfl,SqT.of (s23 _ _ ha),af (j:=0) rfl,rfl,_,rfl,?_⟩
    show if (!decide (V.str p.1=V.str "fold"))=true then _ else _
    rw [br]
    by_cases hf:p.1="fold"
    ·rw [decide_eq_true hf]
     refine aA ?_
     have hss:=wE p hp hf
     rw [hss] at okk
     have l5:ds.length=5:=by rw [hl,hss]; rfl
     obtain ⟨d1,d2,d3,d4,d5,rfl⟩:=BA l5
     ·simp only [okF,vq,Θ] at okk
      obtain ⟨x1,rfl⟩:=nZ okk.1
      obtain ⟨x3,rfl⟩:=nZ okk.2.2.1
      obtain ⟨u1,r1,rfl,R1,ru⟩:=cJ ru
      obtain ⟨u2,r2,rfl,R2,ru⟩:=cJ ru
      obtain ⟨u3,r3,rfl,R3,ru⟩:=cJ ru
      obtain rfl:u1=.str x1:=R1
      obtain rfl:u3=.str x3:=R3
      refine ⟨_,rfl,a,_,1,.str x1,rfl,rfl,SqT.of (s23 _ _ ha),af (j:=1) rfl,_,rfl,a,_,3,.str x3,rfl,rfl,SqT.of (s23 _ _ ha),af (j:=3) rfl,rfl,?_⟩
      show Q (.bl (!decide (V.str x1=V.str x3))) H3
      rw [br]
      rw [show decide (p.1≠"fold")=false from decide_eq_false (fun z=>z hf),x5] at qq
      have e:kc [.str x1,d2,.str x3,d4,d5]=!decide (x1=x3):=by
       show decide (x1≠x3)=_
       by_cases h:x1=x3
       ·rw [decide_eq_true h,decide_eq_false (fun z=>z h)]; rfl
       ·rw [decide_eq_false h,decide_eq_true h]; rfl
      rw [e] at qq
      exact qq
    ·rw [decide_eq_false hf]
     refine av ?_
     rw [decide_eq_true hf,Bool.true_or] at qq
     exact qq
   ·rw [show (!decide (V.int (((V.str p.1 :: ws).length:Nat):Int)=V.int ((((p.2.2.map fun s=>V.str (srt s)).length:Nat):Int) + 1)))=true by
     rw [decide_eq_false fun z=>hl (by injection z with z; rw [Υ,lws,ζ] at z; omega)]; rfl]
    refine av ?_
    have:=q H1 s1
    rw [fv hp] at this
    cases ho:okF p.2.2 ds with
    | true=>exact absurd (lJ ho) hl
    | false=>rw [ho] at this; exact this
end
abbrev gs:Stmt:=top 45
def exN:Nat->Dv->Nat
 | 0,_=>99
 | n + 1,d=>if dw d=true then 1 + ((bN d).map (exN n)).sum else 99
def nE:Sp:=spS fun d=>decide (exN 8 d<=40)
theorem xy (n:Nat) (d:Dv):1<=exN n d:=by
 cases n with
 | zero=>show 1<=99; decide
 | succ n=>unfold exN; split <;> omega
def prD (p:Dv×Nat):Dv:=.tup [p.1,.int p.2]
def ii (ws:List (Dv×Nat)):Nat:=(ws.map fun p=>exN (8 - p.2) p.1).sum
theorem mJ (xs ys:List (Dv×Nat)):ii (xs ++ ys)=ii xs + ii ys:=by unfold ii; rw [ω,u7]
theorem oX {ds:List Dv} (h:smalls ds=true):∀ d∈ds,d.small=true:=by
 induction ds with
 | nil=>intro d hd; cases hd
 | cons x ds ih=>
  simp only [smalls,Θ] at h
  intro d hd
  rcases θ.mp hd with rfl | hd
  ·exact h.1
  ·exact ih h.2 d hd
theorem cq {ds:List Dv} (h:(Dv.tup ds).small=true):∀ d∈ds,d.small=true:=by
 simp only [Dv.small,Θ] at h
 exact oX h.1
theorem gG {d:Dv} (h:d.small=true):∀ e∈qm d,e.small=true:=by
 cases d with
 | tup ds=>exact cq h
 | _=>intro e he; cases he
theorem jV:∀ (ss:List So) (ds:List Dv),(∀ d∈ds,d.small=true)->∀ e∈bc ss ds,e.small=true
 | [],_,_,e,he=>by simp [bc] at he
 | _ :: _,[],_,e,he=>by simp [bc] at he
 | s :: ss,d :: ds,h,e,he=>by
  rcases Ψ.mp (show e∈ptD s d ++ bc ss ds from he) with h1 | h1
  ·cases s with
   | e=>rw [ε.mp h1]; exact h d Ε
   | a=>exact gG (h d Ε) e h1
   | r=>exact gG (h d Ε) e h1
   | _=>cases h1
  ·exact jV ss ds (fun x hx=>h x (ο _ hx)) e h1
theorem mq {d:Dv} (h:d.small=true):∀ e∈bN d,e.small=true:=by
 match d,h with
 | .tup (.str w :: ds),h=>exact jV _ ds fun x hx=>cq h x (ο _ hx)
 | .tup [],_=>intro e he; cases he
 | .tup (.non :: r),_=>intro e he; cases he
 | .tup (.bl _ :: r),_=>intro e he; cases he
 | .tup (.int _ :: r),_=>intro e he; cases he
 | .tup (.tup _ :: r),_=>intro e he; cases he
 | .tup (.lst _ :: r),_=>intro e he; cases he
 | .tup (.dct :: r),_=>intro e he; cases he
 | .non,_=>intro e he; cases he
 | .bl _,_=>intro e he; cases he
 | .int _,_=>intro e he; cases he
 | .str _,_=>intro e he; cases he
 | .lst _,_=>intro e he; cases he
 | .dct,_=>intro e he; cases he
theorem mS {d:Dv} (h:yF d):(bN d).length<=4:=by
 obtain ⟨p,ds,hp,rfl,hf⟩:=h
 rw [XB.parts_of hp]
 exact ϔ (dY hf).2 (xa p hp)
section
variable {P:Β} {w:Ξ} {K:PySem.W.Frag} {mg:Str->Option δ} {base:Heap}
theorem ic:ap ["thing","count","waiting","found","node","above"] ["thing"] (ai gs):=⟨rfl,rfl,rfl,by decide +kernel,rfl,by decide +kernel,by decide +kernel⟩
theorem pJ {f:Addr} {fd:Μ} {k:Nat} (F:Fun K "is_expression" "is_expression" gs f fd) (T:Txt K mg) (Dis_node:Def P w K mg base k "is_node" ["thing"] (spS dw)) (Dparts_of:Def P w K mg base k "parts_of" ["node"] qG):aK P w K mg base CX0 (k + 1) f fd ["thing"] nE:=by
 have nd:(["thing","count","waiting","found","node","above"]:List Str).Nodup:=ic.nd
 refine F.ok ic (fun vs H Q E h=>?_) (fun cdv A outer s H vs Q E hr h=>?_)
 ·obtain ⟨v,d,rfl,_⟩:=h
  rfl
 obtain ⟨v,d,rfl,R,hsm,q⟩:=h
 replace q:∀ (H':Hp),ad H H'->Q (V.bl (decide (exN 8 d<=40))) H':=q
 refine ⟨_,(@un _ _ _ (wbO (wbM 1 nd rfl (Λ rfl) waC rfl (by trivial)) (wbO (wbM 2 nd rfl (Λ rfl) (waM (wae (waX (wae (wv 0 rfl) (wae waC waf rfl) rfl)) waf rfl)) rfl (by trivial)) (wbO (wbN ϝ (wbU (wv 2 rfl) (fun _=>rfl)) (wbO (wbM 3 nd rfl (Λ rfl) (wak PySem.F.plainAttrs_list PySem.F.slot_list_pop PySem.F.type_list_pop ia (wv 2 rfl) rfl rfl) rfl (by trivial)) (wbO (wbM 4 nd rfl (Λ rfl) (waD ao (wv 3 rfl) waC (fun _ _=>rfl)) rfl (by trivial)) (wbO (wbM 5 nd rfl (CV rfl) (waD ao (wv 3 rfl) waC (fun _ _=>rfl)) rfl (by trivial)) (wbO (wbE 1 nd rfl (Λ rfl) waC vh (by trivial)) (wbO (wbI (wab (wbY (wbS gK (wv 1 rfl) ⟨T.g_MOST_NODES rfl⟩ (ak _)) (wbY (wbS gK (wv 5 rfl) ⟨T.g_MOST_ABOVE rfl⟩ (ak _)) (wbZ (wbT (wbV (waq Dis_node hr rfl (wae (wv 4 rfl) waf rfl) (by decide) rfl rfl) (by intro _; rfl))))))) (wbQ (wbK wah)) wbP) (wbQ (wbG (waj PySem.F.plainAttrs_list PySem.F.slot_list_extend PySem.F.type_list_extend gj (wv 2 rfl) (wae (waE ["part"] [5] (wbi (waq Dparts_of hr rfl (wae (wv 4 rfl) waf rfl) (by decide) rfl rfl)) (.of rfl) rfl (fun _ _ _=>⟨pg_name (i:=0) (cc (l:=["part","above"]) ((by decide +kernel)) rfl) rfl (Λ rfl)⟩) (bD (by decide)) (fun _ _ _=>wbx) (fun _ _ _=>(waX (wae (wv 0 rfl) (wae (waQ bE (wv 1 rfl) waC) waf rfl) rfl))) (by intro _; rfl)) waf rfl) rfl rfl rfl rfl rfl) rfl)))))))) (wbQ (wbK wah)))))),?_⟩
 refine ⟨_,rfl,z2,fun t0 ht0=>⟨z1,fun W1 hW=>?_⟩⟩
 have q0:=ac ht0 (.tup [v,.int 0])
 have q1:=ac hW (.lst [.ref t0])
 have r0:Rep (upd H t0 (.tup [v,.int 0])) (prD (d,0)) (.ref t0):=by
  unfold prD
  rw [Rep]
  exact ⟨t0,_,rfl,aa,by simp only [Reps]; exact ⟨_,_,rfl,R.mono q0,_,_,rfl,by simp only [Rep]; rfl,rfl⟩⟩
 refine mH (fun m σ H'=>∃ (o3 o4 o5:Option V) (cnt:Nat) (ws:List (Dv×Nat)) (vs:List V),σ=[some v,some (.int cnt),some (.ref W1),o3,o4,o5]/\ad H (ba H' W1)/\H' W1=some (.lst vs)/\Reps (ba H' W1) (ws.map prD) vs/\(∀ p∈ws,p.1.small=true/\p.2<=8)/\(cnt + ii ws<=40↔exN 8 d<=40)/\m=40 - cnt/\cnt<=40/\ws.length<=1 + 4 * cnt) 40
  ⟨_,_,_,0,[(d,0)],[.ref t0],rfl,q0.trans (fo q1 hW),aa,aP (r0.mono (fo q1 hW)),fun p hp=>by rw [ε.mp hp]; exact ⟨hsm,Χ _⟩,by simp [ii],rfl,by decide,τ _⟩ ?_ eM
 rintro m σ H1 D1 gR gD ⟨o3,o4,o5,cnt,ws,vs,rfl,s1,w1,R1,sm,eq,rfl,c40,lw⟩
 have s01:ad H H1:=s1.trans bx
 refine ⟨_,rfl,_,.inl ⟨vs,SqL.of w1,rfl⟩,?_⟩
 by_cases ne:ws=[]
 ·subst ne
  have e:vs=[]:=by simpa only [ϡ,Reps] using R1
  subst e
  refine aA ?_
  have:=q H1 s01
  rw [decide_eq_true (eq.mp (by simpa [ii] using c40))] at this
  exact this
 ·obtain ⟨w0,x,rfl⟩:=fJ ne
  rw [ω] at R1
  obtain ⟨v0,u,rfl,Ra,Ru⟩:=cf R1
  have e:(!(v0 ++ [u]).isEmpty)=true:=by simp
  rw [e]
  refine av ?_
  rw [mJ] at eq
  have wx:ii [x]=exN (8 - x.2) x.1:=by simp [ii]
  rw [wx] at eq
  rw [ς,ϐ] at lw
  obtain ⟨smx,x8⟩:=sm x (by simp)
  refine ⟨_,rfl,.inl ⟨rfl,_,SqL.of w1⟩,W1,_,_,rfl,rfl,w1,dy _ _,?_⟩
  rw [u_]
  have t2:ad (ba H1 W1) (ba (upd H1 W1 (.lst v0)) W1):=lA
  have w2:upd H1 W1 (.lst v0) W1=some (.lst v0):=aa
  have s02:ad H _:=s1.trans (t2.trans bx)
  generalize upd H1 W1 (.lst v0)=H2 at t2 w2 s02 ⊢
  obtain ⟨t,us,rfl,ht,ru⟩:=Rep.tup_inv (show Rep (ba H1 W1) (.tup [x.1,.int x.2]) u from Ru)
  obtain ⟨y,z,rfl,Ry,Rz⟩:=Reps.two ru
  obtain rfl:z=.int x.2:=Rz
  have ht2:=bx _ _ (t2 _ _ ht)
  have xp:=xy (8 - x.2) x.1
  refine ⟨_,rfl,t,_,0,y,rfl,rfl,SqT.of ht2,af (j:=0) rfl,?_⟩
  refine ⟨_,rfl,t,_,1,.int x.2,rfl,rfl,SqT.of ht2,af (j:=1) rfl,?_⟩
  refine ⟨_,rfl,_,_,rfl,rfl,?_⟩
  refine ⟨_,rfl,_,_,rfl,rfl,_,rfl,?_⟩
  refine aQ (fun h=>?_) (fun h=>?_)
  ·have h':(40:Int) < (cnt:Int) + 1:=of_decide_eq_true h
   have:=q H2 s02
   rw [decide_eq_false (fun z=>by have:=eq.mpr z; omega)] at this
   exact av (gR _ _ this)
  have h':cnt + 1<=40:=by have z:¬ ((40:Int) < (cnt:Int) + 1):=of_decide_eq_false (A_.mpr h); omega
  refine ⟨_,rfl,_,_,rfl,rfl,_,rfl,?_⟩
  refine aQ (fun h2=>?_) (fun h2=>?_)
  ·have h2':(7:Int) < (x.2:Int):=of_decide_eq_true h2
   have:=q H2 s02
   rw [decide_eq_false (fun z=>by
    have:=eq.mpr z
    rw [show 8 - x.2=0 by omega] at this
    have e99:exN 0 x.1=99:=rfl
    omega)] at this
   exact av (gR _ _ this)
  have h2':x.2<=7:=by have z:¬ ((7:Int) < (x.2:Int)):=of_decide_eq_false (A_.mpr h2); omega
  obtain ⟨j,hj⟩:∃ j,8 - x.2=j + 1:=⟨7 - x.2,by omega⟩
  refine ⟨_,rfl,y,x.1,rfl,Ry.mono (t2.trans bx),smx,fun H3 s3=>⟨_,rfl,?_⟩⟩
  have s03:=s02.trans s3
  cases c:dw x.1 with
  | false=>
   have:=q H3 s03
   rw [decide_eq_false (fun z=>by
    have:=eq.mpr z
    have e99:exN (8 - x.2) x.1=99:=by rw [hj]; unfold exN; rw [c]; rfl
    omega)] at this
   exact av (gR _ _ this)
  | true=>
   refine aA ?_
   have w3:=s3 _ _ w2
   have t3:=t2.trans (bu (l:=W1) s3)
   have hW3:H3 W1≠none:=by rw [w3]; exact nofun
   have nn:=rO c
   have p4:=mS nn
   have exj:exN (8 - x.2) x.1=1 + ((bN x.1).map (exN j)).sum:=by rw [hj]; show (if dw x.1=true then _ else _)=_; rw [c]; rfl
   refine tnx ⟨_,rfl,.inl ⟨rfl,_,SqL.of w3⟩,_,rfl,y,x.1,ba H3 W1,rfl,bx,Ry.mono t3,nn,fun H4 l ks s4 hl h4 R4=>⟨l,rfl,⟨_,SqL.of h4⟩,ki (xs:=ks) (fun i ys H'=>ad H4 H'/\Reps (ba H' W1) (((bN x.1).take i).map fun e=>prD (e,x.2 + 1)) ys) ⟨ad.refl _,by simp [Reps]⟩ (fun i ys H' _ p=>SqL.of (p.1 _ _ h4)) ?_ ?_⟩⟩
   ·rintro i ys H5 pv hpv ⟨s5,R5⟩
    obtain ⟨e,he,Re⟩:=R4.get hpv
    have hi:i < (bN x.1).length:=(π.mp he).1
    refine bF ⟨_,rfl,_,rfl,_,_,rfl,rfl,z2,fun p hp=>⟨?_,s5.trans (ac hp _),?_⟩⟩
    ·rw [R5.length,ζ,Ρ,ψ]; omega
    ·have hW5:H5 W1≠none:=by rw [s5 _ _ (s4 _ _ w3)]; exact nofun
     obtain ⟨e1,e2⟩:=sX (o:=.tup [pv,.int ((x.2:Int) + 1)]) hW5 hp
     rw [Ϡ,he,ω]
     refine Reps.append (R5.mono e2) ?_
     refine aP (show Rep _ (.tup [e,.int ((x.2 + 1:Nat):Int)]) (.ref p) from ?_)
     rw [Rep]
     refine ⟨p,_,rfl,e1,?_⟩
     simp only [Reps]
     exact ⟨_,_,rfl,(Re.mono (bu (s4.trans s5))).mono e2,_,_,rfl,by simp only [Rep]; rfl,rfl⟩
   ·rintro ys H5 ⟨s5,R5⟩ r hr'
    have q6:=ac hr' (.lst ys)
    have lk:=R4.length
    rw [lk,ϛ] at R5
    have lys:=R5.length
    rw [ζ] at lys
    have w5:=q6 _ _ (s5 _ _ (s4 _ _ w3))
    have lv:=Ra.length
    rw [ζ] at lv
    refine ⟨W1,r,_,_,rfl,rfl,w5,aa,by rw [ψ]; omega,?_⟩
    have hW5:H5 W1≠none:=by rw [s5 _ _ (s4 _ _ w3)]; exact nofun
    have t6:ad (ba H5 W1) (ba (upd (upd H5 r (.lst ys)) W1 (.lst (v0 ++ ys))) W1):=(bu q6).trans lA
    have t16:=t3.trans ((bu (s4.trans s5)).trans t6)
    refine gD (40 - (cnt + 1)) _ _ (by omega) ⟨_,_,_,cnt + 1,w0 ++ (bN x.1).map fun e=>(e,x.2 + 1),v0 ++ ys,rfl,s1.trans t16,aa,?_,?_,?_,rfl,h',?_⟩
    ·rw [ω]
     refine Reps.append (Ra.mono t16) ?_
     rw [ϋ]
     exact R5.mono t6
    ·intro p hp
     rcases Ψ.mp hp with h1 | h1
     ·exact sm p (Ϲ _ h1)
     ·obtain ⟨e,he,rfl⟩:=Δ.mp h1
      exact ⟨mq smx e he,by show x.2 + 1<=8; omega⟩
    ·rw [<- eq,mJ,exj]
     have e7:ii ((bN x.1).map fun e=>(e,x.2 + 1))=((bN x.1).map (exN j)).sum:=by
      unfold ii
      rw [ϋ]
      congr 1
      refine m6 fun e _=>?_
      show exN (8 - (x.2 + 1)) e=exN j e
      rw [show 8 - (x.2 + 1)=j by omega]
     rw [e7]
     constructor <;> intro z <;> omega
    ·rw [ς,ζ]; omega
end
theorem Af {x:Str}:aF (.tup [.str x])=if x="whole" then 1 else 99:=by rw [aF]
theorem BJ {x:Str} {l:Dv}:aF (.tup [.str x,l])=if x="place"/\slD l=true then 1 else 99:=by rw [aF]
theorem AG {x:Str} {a b:Dv}:aF (.tup [.str x,a,b])=if x="pair" then 1 + aF a + aF b else if x="row"/\slD a=true then 1 + aF b else 99:=by rw [aF]
def SL (c:Int) (ps:List Pr):Prop:=slD (bt c ps)=true/\(bt c ps).small=true
theorem mf:∀ {ps:List Pr} {l:Str},ps.Pairwise (fun p q=>p.1.cps.toList < q.1.cps.toList)->(∀ p∈ps,1<=p.2)->(∀ p∈ps,nmB p.1=true)->(∀ p∈ps,l.cps.toList < p.1.cps.toList)->goD l (aL ps)=true
 | [],_,_,_,_,_=>rfl
 | p :: ps,l,h1,h2,h3,h4=>by
  have e:aL (p :: ps)=.tup [.str p.1,.int p.2] :: aL ps:=rfl
  rw [e,goD]
  have h1':=List.pairwise_cons.mp h1
  show (eF _ && (decide (l.cps.toList < p.1.cps.toList) && goD p.1 (aL ps)))=true
  rw [mf h1'.2 (fun q hq=>h2 q (ο _ hq)) (fun q hq=>h3 q (ο _ hq)) (fun q hq=>h1'.1 q hq)]
  show ((nmB p.1 && (true && decide (1<=p.2))) && (decide (l.cps.toList < p.1.cps.toList) && true))=true
  rw [h3 p Ε,decide_eq_true (h2 p Ε),decide_eq_true (h4 p Ε)]
  rfl
theorem fq:∀ {ps:List Pr},(∀ p∈ps,p.1.cps.size<=8)->smalls (aL ps)=true
 | [],_=>rfl
 | p :: ps,h=>by
  simp only [aL,Ο,smalls,Dv.small,Θ,decide_eq_true_eq]
  refine ⟨⟨⟨by have:=h p Ε; omega,trivial,trivial⟩,by simp⟩,fq fun q hq=>h q (ο _ hq)⟩
theorem kP {x:Str} (h:nmB x=true):1<=x.cps.size/\x.cps.size<=8:=by
 unfold nmB at h
 simp only [Θ,decide_eq_true_eq] at h
 exact h.1
theorem tN {x:Str} (h:nmB x=true):(η "").cps.toList < x.cps.toList:=by
 have:=(kP h).1
 have e:(η "").cps.toList=[]:=by decide +kernel
 rw [e]
 cases hx:x.cps.toList with
 | nil=>
  have:x.cps.toList.length=x.cps.size:=by simp
  rw [hx] at this; simp at this; omega
 | cons c cs=>exact List.nil_lt_cons c cs
theorem kD {c:Int} {ps:List Pr} (c0:0<=c) (c1:c<=99) (can:jG ps) (hl:ps.length<=900) (hn':∀ p∈ps,nmB p.1=true/\p.2<=99):SL c ps:=by
 constructor
 ·show ((true && (decide (0<=c) && goD "" (aL ps))) && (decide (c<=99) && (aL ps).all fun p=>decide (eV p<=99)))=true
  rw [mf can.1 can.2 (fun p hp=>(hn' p hp).1) (fun p hp=>tN (hn' p hp).1),decide_eq_true c0,decide_eq_true c1]
  rw [show ((aL ps).all fun p=>decide (eV p<=99))=true by
   rw [Ϯ]
   intro d hd
   obtain ⟨p,hp,rfl⟩:=Δ.mp hd
   exact decide_eq_true (hn' p hp).2]
  rfl
 ·have h8:∀ p∈ps,p.1.cps.size<=8:=fun p hp=>(kP (hn' p hp).1).2
  have h1:=fq h8
  have h2:(Dv.tup (aL ps)).small=true:=by
   simp only [Dv.small,h1,ϓ]
   exact decide_eq_true (by rw [show (aL ps).length=ps.length from ζ _]; omega)
  show (Dv.tup [.int c,.tup (aL ps)]).small=true
  simp only [Dv.small,smalls] at h2 ⊢
  simp only [h2,ϓ,DJ]
  rfl
theorem aY {ds:List Dv} (h:∀ d∈ds,d.small=true) (hl:ds.length<=1000):(Dv.tup ds).small=true:=by
 have:∀ ds:List Dv,(∀ d∈ds,d.small=true)->smalls ds=true:=by
  intro ds
  induction ds with
  | nil=>intro _; rfl
  | cons d ds ih=>intro h; simp only [smalls,Θ]; exact ⟨h d Ε,ih fun e he=>h e (ο _ he)⟩
 simp only [Dv.small,this ds h,ϓ]
 exact decide_eq_true hl
theorem dB:∀ {k:Kd},k.All SL->k.dv.small=true
 | .whole,_=>by decide +kernel
 | .place c ps,h=>aY (fun d hd=>by
   rcases θ.mp hd with rfl | hd
   ·decide +kernel
   ·rw [ε.mp hd]; exact h.2) (by show 2<=1000; decide)
 | .row c ps k,h=>aY (fun d hd=>by
   rcases θ.mp hd with rfl | hd
   ·decide +kernel
   ·rcases θ.mp hd with rfl | hd
    ·exact h.1.2
    ·rw [ε.mp hd]; exact dB h.2) (by show 3<=1000; decide)
 | .pair i j,h=>aY (fun d hd=>by
   rcases θ.mp hd with rfl | hd
   ·decide +kernel
   ·rcases θ.mp hd with rfl | hd
    ·exact dB h.1
    ·rw [ε.mp hd]; exact dB h.2) (by show 3<=1000; decide)
theorem fC:∀ {k:Kd},k.All SL->aF k.dv=k.size
 | .whole,_=>by show aF (.tup [.str "whole"])=1; rw [Af,if_pos rfl]
 | .place c ps,h=>by show aF (.tup [.str "place",bt c ps])=1; rw [BJ,if_pos ⟨rfl,h.1⟩]
 | .row c ps k,h=>by show aF (.tup [.str "row",bt c ps,k.dv])=k.size + 1; rw [AG,if_neg w6,if_pos ⟨rfl,h.1.1⟩,fC h.2]; omega
 | .pair i j,h=>by show aF (.tup [.str "pair",i.dv,j.dv])=i.size + j.size + 1; rw [AG,if_pos rfl,fC h.1,fC h.2]; omega
abbrev kF:Stmt:=top 59
abbrev lj:Stmt:=top 60
theorem le4:4<=sizeLine:=by rw [ψ]; decide
def Dr (H:Hp) (a:Addr) (n:Nat):Prop:=∃ ns:List Int,H a=some (.lst (ns.map V.int))/\ns.length=n/\∀ x∈ns,0<=x/\x < 10 ^ 14
theorem Dr.b {H H':Hp} {a b:Addr} {n:Nat} (h:Dr H a n) (s:aE b H H') (ne:a≠b):Dr H' a n:=let ⟨i,e,r⟩:=h; ⟨i,s _ _ ne e,r⟩
theorem Dr.m {H H':Hp} {a:Addr} {n:Nat} (h:Dr H a n) (s:ad H H'):Dr H' a n:=let ⟨i,e,r⟩:=h; ⟨i,s _ _ e,r⟩
theorem Dr.tups {H H':Hp} {a:Addr} {n:Nat} (h:Dr H a n) (s:aE a H H'):cu H H':=let ⟨_,e,_⟩:=h; s.tups e
theorem Dr.some {H:Hp} {a:Addr} {n:Nat} (h:Dr H a n):H a≠none:=let ⟨_,e,_⟩:=h; fun z=>by rw [e] at z; cases z
def lH (K:PySem.W.Frag):Sp:=fun vs H Q _=>∃ (c:Addr) (m:Int) (cells:List Int),vs=[.ref c,.int m]/\SqL K H c (cells.map V.int)/\1<=cells.length/\cells.length<=9/\0<=m/\m<=1000/\∀ (H':Hp) (a:Addr),ad H H'->H a=none->Dr H' a m.toNat->Q (.ref a) H'
def eQ:Sp:=fun vs H Q _=>∃ (a:Addr) (n:Nat),vs=[.ref a]/\Dr H a n/\∀ (H':Hp) (x:Int),aE a H H'->Dr H' a (n - 1)->0<=x->x < 10 ^ 14->Q (.int x) H'
section
variable {P:Β} {w:Ξ} {K:PySem.W.Frag} {mg:Str->Option δ} {base:Heap}
theorem ma:ap ["_law_cells","_law_many","_law_rests","_law_found","_law_k","_law_j","_law_number"] ["_law_cells","_law_many"] (ai kF):=⟨rfl,rfl,rfl,by decide +kernel,rfl,by decide +kernel,by decide +kernel⟩
theorem vB {f:Addr} {fd:Μ} (F:Fun K "_law_draws" "_law_draws" kF f fd) (T:Txt K mg):aK P w K mg base CX0 1 f fd ["_law_cells","_law_many"] (lH K):=by
 have nd:(["_law_cells","_law_many","_law_rests","_law_found","_law_k","_law_j","_law_number"]:List Str).Nodup:=ma.nd
 refine F.ok ma (fun vs H Q E h=>?_) (fun cdv A outer s H vs Q E hr h=>?_)
 ·obtain ⟨c,m,cells,rfl,_⟩:=h
  rfl
 obtain ⟨c,m,cells,rfl,hS,l0,l9,m0,m1,q⟩:=h
 refine ⟨_,(@un _ _ _ (wbO (wbJ ["_law_cell"] [] 2 nd rfl rfl (wbi (wv 0 rfl)) (.of rfl) rfl (fun _ _ _=>⟨pg_name (i:=0) (cc (l:=["_law_cell"]) ((by decide +kernel)) rfl) rfl (Λ rfl)⟩) (bD (by decide)) (fun _ _ _=>wbx) (fun _ _ _=>(waQ cn (wv 0 rfl) waC)) rfl (by intro _; rfl)) (wbO (wbM 3 nd rfl (Λ rfl) (waM waf) rfl (by trivial)) (wbO (wbH ϝ rfl (wbk rfl T.range (wae (wv 1 rfl) waf rfl) rfl) (waZ 4 nd rfl (Λ rfl) (by trivial)) (wbO (wbM 5 nd rfl (Λ rfl) (waQ aB (wv 4 rfl) (wal aq rfl T.len (by decide +kernel) (wae (wv 0 rfl) waf rfl) (by decide) (by decide) rfl rfl)) rfl (by trivial)) (wbQ (wbI (wab (wbW (wbS aG (waQ aB (waD aH (wv 0 rfl) (wv 5 rfl) (fun _ _=>rfl)) waC) waC (ak _)) (wbX (wbS gK (waD aH (wv 2 rfl) (wv 5 rfl) (fun _ _=>rfl)) waC (ak _))))) (wbO (wbG (waj PySem.F.plainAttrs_list PySem.F.slot_list_append PySem.F.type_list_append bg (wv 3 rfl) (wae (waQ aB (waD aH (wv 2 rfl) (wv 5 rfl) (fun _ _=>rfl)) (waQ kT waC waC)) waf rfl) rfl rfl rfl rfl rfl) rfl) (wbQ (wbD (waQ cn (waD aH (wv 2 rfl) (wv 5 rfl) (fun _ _=>rfl)) (waQ kT waC waC)) (wba (wv 2 rfl) (wv 5 rfl) vT (by intro _; rfl)) rfl rfl rfl))) (wbO (wbM 6 nd rfl (Λ rfl) (waQ aB (waQ ig (waQ bE (waQ bE (waQ aB (waD aH (wv 0 rfl) (wv 5 rfl) (fun _ _=>rfl)) (waQ kT waC waC)) (waQ ig waC (wv 4 rfl))) waC) waC) waC) rfl (by trivial)) (wbQ (wbG (waj PySem.F.plainAttrs_list PySem.F.slot_list_append PySem.F.type_list_append bg (wv 3 rfl) (wae (waQ aB (waQ ig (waQ ig (wv 6 rfl) (wv 6 rfl)) waC) waC) waf rfl) rfl rfl rfl rfl rfl) rfl)))))) (by intro _; rfl)) (wbQ (wbK (wbw (wv 3 rfl) (wbA (waY gr waC))))))))),?_⟩
 have p14:wp 10 14:=⟨by decide,by decide,by decide⟩
 have p30:wp 10 30:=⟨by decide,by decide,by decide⟩
 refine ⟨_,rfl,c,rfl,⟨_,hS⟩,ki (xs:=cells.map V.int) (fun i ys H'=>H'=H/\∃ rs:List Int,ys=rs.map V.int/\rs.length=i) ⟨rfl,[],rfl,rfl⟩ (fun i ys H' _ p=>by rw [p.1]; exact hS) ?_ ?_⟩
 ·rintro i ys H' x hx ⟨rfl,rs,rfl,lr⟩
  have hi:i < 9:=by have:=(π.mp hx).1; rw [ζ] at this; omega
  rw [Κ] at hx
  obtain ⟨y,_,rfl⟩:=Ϙ.mp hx
  refine bF ⟨_,rfl,_,_,rfl,rfl,⟨by decide,by decide⟩,?_,rfl,rs ++ [y / 2],by simp,by simp [lr]⟩
  rw [ζ,ψ]; omega
 rintro ys H1 ⟨rfl,rs,rfl,lr⟩ R hR
 rw [ζ] at lr
 refine ⟨Χ _,fun Fo hF=>?_⟩
 have q1:=ac hR (.lst (rs.map V.int))
 have q2:=ac hF (.lst [])
 have hRF:R≠Fo:=ae (aa (H:=H1) (a:=R) (o:=.lst (rs.map V.int))) hF
 have hFn:H1 Fo=none:=q1.free hF
 have e1:=q2 _ _ (aa (H:=H1) (a:=R) (o:=.lst (rs.map V.int)))
 have e2:upd (upd H1 R (.lst (rs.map V.int))) Fo (.lst []) Fo=some (.lst []):=aa
 have s2:=q1.trans q2
 generalize upd (upd H1 R (.lst (rs.map V.int))) Fo (.lst [])=H2 at e1 e2 s2 ⊢
 refine ⟨_,rfl,m,rfl,by omega,by omega,gH (n:=m.toNat) (fun i σ H'=>∃ (o4 o5 o6:Option V) (rs ns:List Int),σ=[some (.ref c),some (.int m),some (.ref R),some (.ref Fo),o4,o5,o6]/\ad H1 H'/\H' R=some (.lst (rs.map V.int))/\rs.length=cells.length/\H' Fo=some (.lst (ns.map V.int))/\ns.length=i/\∀ x∈ns,0<=x/\x < 10 ^ 14) ⟨_,_,_,rs,[],rfl,s2,e1,lr,e2,rfl,by simp⟩ ?T1 ?_⟩
 case T1=>
  rintro i σ H3 D1 gD hi ⟨o4,o5,o6,rs,ns,rfl,s3,r3,lr,f3,ln,hb⟩
  have ci:∃ y,atI (cells.map V.int) ((0 + (i:Int)) % ((cells.map V.int).length:Int))=some (.int y)/\True:=by
   obtain ⟨b0,b1⟩:=aN (a:=(0 + (i:Int))) ((cells.map V.int).length:Int) (by rw [ζ]; omega)
   rw [ζ] at b0 b1 ⊢
   obtain ⟨v,hv⟩:=qX (ns:=cells) b0 b1
   exact ⟨v,hv,trivial⟩
  have ri:∃ y,atI (rs.map V.int) ((0 + (i:Int)) % ((cells.map V.int).length:Int))=some (.int y):=by
   obtain ⟨b0,b1⟩:=aN (a:=(0 + (i:Int))) ((cells.map V.int).length:Int) (by rw [ζ]; omega)
   rw [ζ] at b0 b1 ⊢
   exact qX (ns:=rs) b0 (by omega)
  have rn:∃ j,ixN (rs.map V.int).length ((0 + (i:Int)) % ((cells.map V.int).length:Int))=some j:=by
   obtain ⟨b0,b1⟩:=aN (a:=(0 + (i:Int))) ((cells.map V.int).length:Int) (by rw [ζ]; omega)
   rw [ζ] at b0 b1
   rw [ζ,ζ]
   refine ⟨((0 + (i:Int)) % (cells.length:Int)).toNat,?_⟩
   unfold ixN
   rw [if_pos b0,if_pos (by omega)]
  obtain ⟨y,hy,_⟩:=ci
  obtain ⟨z,hz⟩:=ri
  obtain ⟨j,hj⟩:=rn
  refine ⟨_,rfl,_,rfl,c,_,rfl,.inl (s3.seq hS),_,_,rfl,rfl,?_,?_⟩
  ·show (0:Int) < ((cells.map V.int).length:Int)
   rw [ζ]; omega
  refine gnm ?_
  dsimp only
  generalize (0 + (i:Int)) % ((cells.map V.int).length:Int)=jj at hy hz hj
  have hRc:∀ (H':Hp) ,aE R H3 H'->ad H1 H':=fun H' s g o e=>s g o (ae e hR) (s3 g o e)
  refine pZ True (fun _=>av ?TT) (aA ?EE) (fun qT qF=>⟨_,rfl,_,rfl,c,_,jj,.int y,rfl,rfl,s3.seq hS,hy,_,_,rfl,rfl,(by show (0:Int) < 2; decide),rfl,_,rfl,aQ (fun _=>⟨_,rfl,_,rfl,R,_,jj,.int z,rfl,rfl,SqL.of r3,hz,_,_,rfl,rfl,_,rfl,(by generalize decide ((0:Int) < z)=b; cases b; exact qF; exact qT trivial)⟩) (fun _=>qF)⟩)
  case TT=>
   have m1:=aN (a:=z) ((10:Int) ^ (14:Int).toNat) (by decide)
   refine ⟨_,rfl,.inl ⟨rfl,_,SqL.of f3⟩,_,rfl,_,rfl,R,_,jj,.int z,rfl,rfl,SqL.of r3,hz,_,_,rfl,rfl,p14,_,_,rfl,rfl,(by show (0:Int) < 10 ^ (14:Int).toNat; decide),Fo,_,_,rfl,rfl,f3,by rw [ζ,ψ]; omega,?_⟩
   have r4:upd H3 Fo (.lst (ns.map V.int ++ [.int (z % 10 ^ (14:Int).toNat)])) R=some (.lst (rs.map V.int)):=by rw [ag hRF]; exact r3
   refine ⟨_,rfl,_,rfl,R,_,jj,.int z,rfl,rfl,SqL.of r4,hz,_,_,rfl,rfl,p14,_,_,rfl,rfl,⟨by decide,by decide⟩,_,rfl,_,rfl,R,_,jj,j,rfl,rfl,r4,hj,?_⟩
   refine gD _ _ ⟨_,_,_,rs.set j (z / 10 ^ (14:Int).toNat),ns ++ [z % 10 ^ (14:Int).toNat],rfl,fun g o e=>?_,?_,?_,?_,?_,?_⟩
   ·rw [ag (ae e hR),ag (ae e hFn)]; exact s3 g o e
   ·rw [aa,List.map_set]
   ·rw [List.length_set]; exact lr
   ·rw [ag (ϊ hRF),aa,ω]; rfl
   ·rw [ς,ln]; rfl
   ·intro x hx
    rcases Ψ.mp hx with h | h
    ·exact hb x h
    ·rw [ε.mp h]; exact m1
  case EE=>
   refine ⟨_,rfl,_,rfl,c,_,jj,.int y,rfl,rfl,s3.seq hS,hy,_,_,rfl,rfl,p30,_,_,rfl,rfl,(by show (0:Int) < 10 ^ (30:Int).toNat; decide),_,rfl,_,_,rfl,rfl,.inl ⟨by decide,by decide⟩,_,_,rfl,rfl,_,_,rfl,rfl,_,_,rfl,rfl,.inr ⟨by decide,by decide⟩,_,_,rfl,rfl,(by show (0:Int) < 2147483647; decide),?_⟩
   obtain ⟨u0,u1⟩:=aN (a:=(y % 10 ^ (30:Int).toNat + 7919 * (0 + (i:Int)) + 3) * 69621) 2147483647 (by decide)
   refine gnm ?_
   dsimp only
   generalize (y % 10 ^ (30:Int).toNat + 7919 * (0 + (i:Int)) + 3) * 69621 % 2147483647=u at u0 u1
   obtain ⟨v0,v1⟩:=aN (a:=u * u * 48271) 99999999999973 (by decide)
   refine ⟨_,rfl,.inl ⟨rfl,_,SqL.of f3⟩,_,rfl,_,rfl,_,_,rfl,rfl,.inl ⟨by omega,by omega⟩,_,_,rfl,rfl,.inr ⟨by decide,by decide⟩,_,_,rfl,rfl,(by show (0:Int) < 99999999999973; decide),Fo,_,_,rfl,rfl,f3,by rw [ζ,ψ]; omega,?_⟩
   refine gD _ _ ⟨_,_,_,rs,ns ++ [u * u * 48271 % 99999999999973],rfl,fun g o e=>?_,?_,lr,?_,?_,?_⟩
   ·rw [ag (ae e hFn)]; exact s3 g o e
   ·rw [ag hRF]; exact r3
   ·rw [aa,ω]; rfl
   ·rw [ς,ln]; rfl
   ·intro x hx
    rcases Ψ.mp hx with h | h
    ·exact hb x h
    ·rw [ε.mp h]; exact ⟨v0,by omega⟩
 rintro σ H3 ⟨o4,o5,o6,rs,ns,rfl,s3,r3,lr,f3,ln,hb⟩
 refine ⟨_,rfl,1,rfl,_,rfl,Fo,_,rfl,rfl,SqL.of f3,fun p hp=>?_⟩
 have q3:=ac hp (.lst (ns.map V.int).reverse)
 refine q _ p (s3.trans q3) (s3.free hp) ⟨ns.reverse,by rw [aa,CJ],by rw [Ϥ]; exact ln,fun x hx=>hb x (List.mem_reverse.mp hx)⟩
theorem wW:ap ["_law_draws_here"] ["_law_draws_here"] (ai lj):=⟨rfl,rfl,rfl,by decide +kernel,rfl,by decide +kernel,by decide +kernel⟩
theorem xB {f:Addr} {fd:Μ} (F:Fun K "_law_next" "_law_next" lj f fd) (T:Txt K mg):aK P w K mg base CX0 1 f fd ["_law_draws_here"] eQ:=by
 refine F.ok wW (fun vs H Q E h=>?_) (fun cdv A outer s H vs Q E hr h=>?_)
 ·obtain ⟨a,n,rfl,_⟩:=h
  rfl
 obtain ⟨a,n,rfl,⟨ns,ha,ln,hb⟩,q⟩:=h
 have huL:(A.deeper (Cb "_law_next" (ai lj) s.heap.objs.size f cdv)).units < cLine:=Dl (k7 _ 150) (iX hr)
 refine ⟨_,(@un _ _ _ (wbO (wbI (wbS (uu huL) (wv 0 rfl) (waM waf) (ak _)) (wbQ (wbK waC)) wbP) (wbQ (wbK (wak PySem.F.plainAttrs_list PySem.F.slot_list_pop PySem.F.type_list_pop ia (wv 0 rfl) rfl rfl))))),?_⟩
 refine ⟨_,rfl,Χ _,fun e he=>⟨a,e,_,rfl,rfl,SqL.of (ac he _ _ _ ha),SqL.of aa,_,rfl,?_⟩⟩
 have q1:=ac he (.lst [])
 generalize upd H e (.lst [])=H1 at q1 ⊢
 have h1:=q1 _ _ ha
 by_cases c:ns=[]
 ·subst c
  refine av (q H1 0 (ad.b a q1) ⟨[],h1,by rw [<- ln]; rfl,by simp⟩ (by decide) (by decide))
 ·obtain ⟨n0,x,rfl⟩:=fJ c
  rw [show (Ee V.int (n0 ++ [x])).isEmpty=false by simp]
  refine aA ⟨_,rfl,.inl ⟨rfl,_,SqL.of h1⟩,a,_,.int x,rfl,rfl,h1,by rw [ω]; exact dy _ _,?_⟩
  obtain ⟨x0,x1⟩:=hb x (by simp)
  refine q _ x ((ad.b a q1).trans (aE.upd _ _ _)) ⟨n0,?_,?_,fun y hy=>hb y (Ϲ _ hy)⟩ x0 x1
  ·rw [aa,ω,Ο,ϡ,u_]
  ·rw [<- ln,ς,ϐ]; rfl
end
abbrev kG:Stmt:=top 61
def zB (x:Str):Prop:=∃ j,1<=j/\x.cps.toList[j]?=some 122
structure Nms (xs:List Str):Prop where
 len:xs.length=5
 nm:∀ x∈xs,nmB x=true
 nd:xs.Nodup
 z:∀ x∈xs,zB x
def nmf (pre post:Str) (t:Int) (k:Nat):Str:=pre ++ ⟨#[97 + ((t + 5 * (k:Int)) % 26).toNat]⟩ ++ η "z" ++ post
theorem yC:(η "z").cps.toList=[122]:=by decide +kernel
theorem nk (pre post:Str) (t:Int) (k:Nat):(nmf pre post t k).cps.toList=pre.cps.toList ++ ((97 + ((t + 5 * (k:Int)) % 26).toNat) :: 122 :: post.cps.toList):=by
 unfold nmf
 rw [PySem.W.KT.app_list,PySem.W.KT.app_list,PySem.W.KT.app_list,yC]
 simp
theorem zr:Az (η "z") 1:=⟨by rw [yC]; rfl,fun c hc=>by rw [yC,ε] at hc; rw [hc]; rfl⟩
theorem hZ (t:Int):azB (97 + (t % 26).toNat)=true:=by
 obtain ⟨b0,b1⟩:=aN (a:=t) 26 (by decide)
 unfold azB
 rw [decide_eq_true (by omega),decide_eq_true (by omega)]
 rfl
theorem we {pre post:Str} {n m:Nat} (h1:Az pre n) (h2:Az post m) (h6:n + m<=6) (t:Int):Nms ((Ω 5).map (nmf pre post t)):=by
 refine ⟨rfl,fun x hx=>?_,?_,fun x hx=>?_⟩
 ·obtain ⟨k,_,rfl⟩:=Δ.mp hx
  exact AR (gC (gC (gC h1 (iC (hZ _))) zr) h2) (by omega) (by omega)
 ·have inj:∀ i j:Nat,i < 5->j < 5->nmf pre post t i=nmf pre post t j->i=j:=fun i j hi hj e=>by
   have e1:=congrArg (fun x:Str=>x.cps.toList) e
   simp only [nk] at e1
   have e2:=List.append_cancel_left e1
   injection e2 with e3 _
   obtain ⟨b0,b1⟩:=aN (a:=t + 5 * (i:Int)) 26 (by decide)
   obtain ⟨c0,c1⟩:=aN (a:=t + 5 * (j:Int)) 26 (by decide)
   omega
  rw [B6]
  refine DH.map (R:=fun i j=>i < 5/\j < 5/\i≠j) _ (fun i j h e=>h.2.2 (inj i j h.1 h.2.1 e)) ?_
  decide
 ·obtain ⟨k,_,rfl⟩:=Δ.mp hx
  refine ⟨n + 1,by omega,?_⟩
  rw [nk,n_ (by rw [h1.1]; omega),h1.1]
  simp
theorem qk {i:Int} (h0:0<=i) (h1:i < 26):atI (η "abcdefghijklmnopqrstuvwxyz").cps.toList i=some (97 + i.toNat):=by
 have h:∀ j,j < 26->(η "abcdefghijklmnopqrstuvwxyz").cps.toList[j]?=some (97 + j):=by decide +kernel
 have q:=af (h i.toNat (by omega))
 rwa [show ((i.toNat:Nat):Int)=i by omega] at q
def qb:Sp:=fun vs H Q _=>∃ c:Int,vs=[.int c]/\0<=c/\∀ (H':Hp) (r:Addr) (xs:List Str),ad H H'->H r=none->H' r=some (.lst (xs.map V.str))->Nms xs->Q (.ref r) H'
section
variable {P:Β} {w:Ξ} {K:PySem.W.Frag} {mg:Str->Option δ} {base:Heap}
theorem mF:ap ["_law_cell","_law_some","_law_stem","_law_k","_law_at"] ["_law_cell"] (ai kG):=⟨rfl,rfl,rfl,by decide +kernel,rfl,by decide +kernel,by decide +kernel⟩
theorem uR {f:Addr} {fd:Μ} (F:Fun K "_law_names" "_law_names" kG f fd) (T:Txt K mg):aK P w K mg base CX0 1 f fd ["_law_cell"] qb:=by
 have nd:(["_law_cell","_law_some","_law_stem","_law_k","_law_at"]:List Str).Nodup:=mF.nd
 refine F.ok mF (fun vs H Q E h=>?_) (fun cdv A outer s H vs Q E hr h=>?_)
 ·obtain ⟨c,rfl,_⟩:=h
  rfl
 obtain ⟨c,rfl,c0,q⟩:=h
 refine ⟨_,(@un _ _ _ (wbO (wbM 1 nd rfl (CV rfl) waV rfl (by trivial)) (wbO (wbM 2 nd rfl (CV rfl) waV rfl (by trivial)) (wbO (wbH ϝ rfl (wbk rfl T.range (wae (waQ aB (wv 0 rfl) waC) waf rfl) rfl) (waZ 3 nd rfl (Λ rfl) (by trivial)) (wbQ (wbM 2 nd rfl (CV rfl) (waQ bv (wv 2 rfl) (waD pQ (wv 1 rfl) (waQ aB (waQ cn (wv 0 rfl) (waD aH (waM (wae waC (wae waC (wae waC (wae waC (wae waC (wae waC waf rfl) rfl) rfl) rfl) rfl) rfl)) (wv 3 rfl) (fun _ _=>rfl))) waC) (fun _ _=>rfl))) rfl (by trivial))) (by intro _; rfl)) (wbO (wbM 4 nd rfl (CV rfl) (waQ aB (waQ cn (wv 0 rfl) waC) (waQ bE (wal fL rfl T.len (by decide +kernel) (wae (wv 2 rfl) waf rfl) (by decide) (by decide) rfl rfl) waC)) rfl (by trivial)) (wbQ (wbK (waE ["_law_k"] ([0,1,2,4]) (wbk rfl T.range (wae waC waf rfl) rfl) (.of rfl) rfl (fun _ _ _=>⟨pg_name (i:=0) (cc (l:=["_law_k","_law_cell","_law_some","_law_stem","_law_at"]) ((by decide +kernel)) rfl) rfl (Λ rfl)⟩) (bD (by decide)) (fun _ _ _=>wbx) (fun _ _ _=>(waQ bv (waQ bv (waQ bv (waT vg (wv 3 rfl) wbz (wbA (wv 4 rfl))) (waD pQ (wv 2 rfl) (waQ aB (waQ bE (waQ cn (wv 1 rfl) waC) (waQ ig waC (wv 0 rfl))) waC) (fun _ _=>rfl))) waV) (waT vg (wv 3 rfl) (wbA (wv 4 rfl)) wbz))) (by intro _; rfl))))))))),?_⟩
 have abc:(η "abcdefghijklmnopqrstuvwxyz").length<=sizeLine:=by rw [ψ]; decide +kernel
 obtain ⟨m0,m1⟩:=aN (a:=c) 7 (by decide)
 refine ⟨_,rfl,_,_,rfl,rfl,(by show (0:Int) < 7; decide),_,rfl,by omega,by omega,gH (n:=(c % 7).toNat) (fun i σ H'=>∃ (stem:Str) (o3:Option V),σ=[some (.int c),some (.str "abcdefghijklmnopqrstuvwxyz"),some (.str stem),o3,none]/\ad H H'/\Az stem i) ⟨_,_,rfl,ad.refl _,vn⟩ ?T1 ?_⟩
 case T1=>
  rintro i σ H2 D1 gD hi ⟨stem,o1,rfl,s2,az⟩
  have h6:∃ d,atI [V.int 7,.int 182,.int 4732,.int 123032,.int 3198832,.int 83169632] (0 + (i:Int))=some (.int d)/\0 < d/\d < 10 ^ 60:=by
   have e:i=0\/i=1\/i=2\/i=3\/i=4\/i=5:=by omega
   rcases e with e | e | e | e | e | e <;> subst e
   ·exact ⟨_,rfl,by decide,by decide⟩
   ·exact ⟨_,rfl,by decide,by decide⟩
   ·exact ⟨_,rfl,by decide,by decide⟩
   ·exact ⟨_,rfl,by decide,by decide⟩
   ·exact ⟨_,rfl,by decide,by decide⟩
   ·exact ⟨_,rfl,by decide,by decide⟩
  obtain ⟨d,hd,d0,d1⟩:=h6
  obtain ⟨b0,b1⟩:=aN (a:=c / d) 26 (by decide)
  refine ⟨_,rfl,_,rfl,_,rfl,(by show 6<=sizeLine; rw [ψ]; decide),fun p hp=>⟨_,rfl,p,_,_,.int d,rfl,rfl,SqL.of aa,hd,_,_,rfl,rfl,⟨d0,d1⟩,_,_,rfl,rfl,(by show (0:Int) < 26; decide),_,_,_,rfl,rfl,abc,qk b0 b1,_,_,rfl,rfl,?_,?_⟩⟩
  ·rw [az.len,(iC (hZ _)).len,ψ]; omega
  ·exact gD _ _ ⟨_,_,rfl,s2.trans (ac hp _),gC az (iC (hZ _))⟩
 rintro σ H2 ⟨stem,o1,rfl,s2,az⟩
 have ln:=az.len
 have stl:stem.length<=sizeLine:=by rw [ln,ψ]; omega
 refine ⟨_,rfl,_,_,rfl,rfl,⟨by decide,by decide⟩,_,rfl,_,rfl,stl,_,_,rfl,rfl,_,_,rfl,rfl,(by show (0:Int) < (stem.length:Int) + 1; omega),?_⟩
 obtain ⟨y0,y1⟩:=aN (a:=c / 2162410432) ((stem.length:Int) + 1) (by omega)
 refine gnm ?_
 dsimp only
 generalize c / 2162410432 % ((stem.length:Int) + 1)=y at y0 y1
 have at1:y<=(c % 7).toNat:=by rw [ln] at y1; omega
 have zf:=wy az y0 at1
 have zt:=Ar az y0 at1
 refine ⟨_,rfl,by decide,by decide,tm (lo:=0) (n:=5) (fun i ys H'=>H'=H2/\ys=((Ω i).map (nmf (Txt.slice stem none (some y)) (Txt.slice stem (some y) none) (c / 15136873024))).map V.str) ⟨rfl,rfl⟩ ?_ ?_⟩
 ·rintro i ys H5 hi ⟨rfl,rfl⟩
  obtain ⟨b0,b1⟩:=aN (a:=c / 15136873024 + 5 * ((0:Int) + (i:Int))) 26 (by decide)
  have e1:=gC zt (iC (hZ (c / 15136873024 + 5 * ((0:Int) + (i:Int)))))
  have e2:=gC e1 zr
  refine bF ⟨_,rfl,_,rfl,_,rfl,_,rfl,stl,_,rfl,_,rfl,_,_,rfl,rfl,⟨by decide,by decide⟩,_,rfl,_,_,rfl,rfl,.inl ⟨by decide,by decide⟩,_,_,rfl,rfl,_,_,rfl,rfl,(by show (0:Int) < 26; decide),_,_,_,rfl,rfl,abc,qk b0 b1,_,_,rfl,rfl,?_,_,_,rfl,rfl,?_,_,rfl,_,rfl,_,rfl,_,rfl,stl,_,_,rfl,rfl,?_,?_,rfl,?_⟩
  ·rw [zt.len,(iC (hZ _)).len,ψ]; omega
  ·rw [e1.len,zr.len,ψ]; omega
  ·rw [e2.len,zf.len,ψ]; omega
  ·rw [ζ,ζ,List.length_range,ψ]; omega
  ·rw [Ci,ω,ω]
   rw [show (0:Int) + (i:Int)=(i:Int) by omega]
   rfl
 ·rintro ys H5 ⟨rfl,rfl⟩ r hr'
  exact q _ r _ (s2.trans (ac hr' _)) (s2.free hr') aa (we zt zf (by omega) _)
end
abbrev dQ:Stmt:=top 28
abbrev fh:Stmt:=top 30
abbrev dM:Stmt:=top 31
def mB:Sp:=fun vs H Q _=>∃ (v:V) (k:Kd),vs=[v]/\Rep H k.dv v/\∀ (H':Hp) (l:Addr) (us:List V),ad H H'->H l=none->H' l=some (.lst us)->Reps H' (k.kids.map Kd.dv) us->Q (.ref l) H'
def qv:Sp:=fun vs H Q _=>∃ (v:V) (k:Kd),vs=[v]/\Rep H k.dv v/\∀ u,Rep H (sO k.len?) u->Q u H
def jF (fT:Addr):Sp:=fun vs H Q _=>∃ (v:V) (k:Kd),vs=[v,.ref fT]/\Rep H k.dv v/\k.size<=40/\∀ (H':Hp) (l:Addr) (us:List V),ad H H'->H l=none->H' l=some (.lst us)->Reps H' (k.pts.map Kd.dv) us->Q (.ref l) H'
def iq:Sp:=fun vs H Q _=>∃ (v:V) (k:Kd),vs=[v]/\Rep H k.dv v/\k.size<=40/\∀ (H':Hp) (l:Addr) (us:List V),ad H H'->H l=none->H' l=some (.lst us)->Reps H' (k.pts.map Kd.dv) us->Q (.ref l) H'
section
variable {P:Β} {w:Ξ} {K:PySem.W.Frag} {mg:Str->Option δ} {base:Heap}
theorem kg:ap ["point"] ["point"] (ai bT):=⟨rfl,rfl,rfl,by decide +kernel,rfl,by decide +kernel,by decide +kernel⟩
theorem kJ {f:Addr} {fd:Μ} (F:Fun K "things_of" "things_of" bT f fd) (T:Txt K mg):aK P w K mg base CX0 1 f fd ["point"] mB:=by
 refine F.ok kg (fun vs H Q E h=>?_) (fun cdv A outer s H vs Q E hr h=>?_)
 ·obtain ⟨v,k,rfl,_⟩:=h
  rfl
 obtain ⟨v,k,rfl,R,q⟩:=h
 refine ⟨_,(@un _ _ _ (wbO (wbI (wbS aG (waD ao (wv 0 rfl) waC (fun _ _=>rfl)) waV (ak _)) (wbQ (wbK (waM (wae (waD ao (wv 0 rfl) waC (fun _ _=>rfl)) waf rfl)))) wbP) (wbO (wbI (wbS aG (waD ao (wv 0 rfl) waC (fun _ _=>rfl)) waV (ak _)) (wbQ (wbK (waM (wae (waD ao (wv 0 rfl) waC (fun _ _=>rfl)) (wae (waD ao (wv 0 rfl) waC (fun _ _=>rfl)) waf rfl) rfl)))) wbP) (wbQ (wbK (waM waf)))))),?_⟩
 obtain ⟨a,vs,rfl,ha,hv⟩:=Kd.inv R
 refine ⟨_,rfl,a,_,0,.str k.word,rfl,rfl,SqT.of ha,af (j:=0) rfl,rfl,_,rfl,?_⟩
 cases k with
 | whole=>
  refine aQ (fun h=>absurd (of_decide_eq_true h) (wne Bg)) (fun _=>⟨_,rfl,a,_,0,.str "whole",rfl,rfl,SqT.of ha,af (j:=0) rfl,rfl,_,rfl,aQ (fun h=>absurd (of_decide_eq_true h) (wne BB)) (fun _=>⟨Χ _,fun l hl=>?_⟩)⟩)
  exact q _ l [] (ac hl _) hl aa (by simp only [Kd.kids,ϡ,Reps])
 | place c ps=>
  refine aQ (fun h=>absurd (of_decide_eq_true h) (wne Ao)) (fun _=>⟨_,rfl,a,_,0,.str "place",rfl,rfl,SqT.of ha,af (j:=0) rfl,rfl,_,rfl,aQ (fun h=>absurd (of_decide_eq_true h) (wne zX)) (fun _=>⟨Χ _,fun l hl=>?_⟩)⟩)
  exact q _ l [] (ac hl _) hl aa (by simp only [Kd.kids,ϡ,Reps])
 | row c ps j=>
  obtain ⟨l1,u,rfl,_,Ru⟩:=hv
  refine aQ (fun _=>⟨_,rfl,a,_,2,u,rfl,rfl,SqT.of ha,af (j:=2) rfl,z1,fun l hl=>?_⟩) (fun h=>absurd (decide_eq_true rfl) h)
  exact q _ l [u] (ac hl _) hl aa (aP (Ru.mono (ac hl _)))
 | pair i j=>
  obtain ⟨u,w',rfl,Ru,Rw⟩:=hv
  refine aQ (fun h=>absurd (of_decide_eq_true h) (wne (ϊ Au))) (fun _=>⟨_,rfl,a,_,0,.str "pair",rfl,rfl,SqT.of ha,af (j:=0) rfl,rfl,_,rfl,aQ (fun _=>⟨_,rfl,a,_,1,u,rfl,rfl,SqT.of ha,af (j:=1) rfl,_,rfl,a,_,2,w',rfl,rfl,SqT.of ha,af (j:=2) rfl,z2,fun l hl=>?_⟩) (fun h=>absurd (decide_eq_true rfl) h)⟩)
  exact q _ l [u,w'] (ac hl _) hl aa (Reps.append (aP (Ru.mono (ac hl _))) (aP (Rw.mono (ac hl _))))
theorem kN:ap ["point"] ["point"] (ai dQ):=⟨rfl,rfl,rfl,by decide +kernel,rfl,by decide +kernel,by decide +kernel⟩
theorem lK {f:Addr} {fd:Μ} (F:Fun K "length_at" "length_at" dQ f fd) (T:Txt K mg):aK P w K mg base CX0 1 f fd ["point"] qv:=by
 refine F.ok kN (fun vs H Q E h=>?_) (fun cdv A outer s H vs Q E hr h=>?_)
 ·obtain ⟨v,k,rfl,_⟩:=h
  rfl
 obtain ⟨v,k,rfl,R,q⟩:=h
 refine ⟨_,(@un _ _ _ (wbO (wbI (wab (wbY (wbS aG (waD ao (wv 0 rfl) waC (fun _ _=>rfl)) waV (ak _)) (wbZ (wbS aG (waD ao (wv 0 rfl) waC (fun _ _=>rfl)) waV (ak _))))) (wbQ (wbK (waD ao (wv 0 rfl) waC (fun _ _=>rfl)))) wbP) (wbQ (wbK waN)))),?_⟩
 obtain ⟨a,vs,rfl,ha,hv⟩:=Kd.inv R
 refine ⟨_,rfl,a,_,0,.str k.word,rfl,rfl,SqT.of ha,af (j:=0) rfl,rfl,_,rfl,?_⟩
 cases k with
 | whole=>
  refine aQ (fun h=>absurd (of_decide_eq_true h) (wne BE)) (fun _=>⟨_,rfl,a,_,0,.str "whole",rfl,rfl,SqT.of ha,af (j:=0) rfl,rfl,_,rfl,aQ (fun h=>absurd (of_decide_eq_true h) (wne Bg)) (fun _=>?_)⟩)
  exact q .non (by simp only [Kd.len?,sO,Rep])
 | place c ps=>
  obtain ⟨l1,rfl,Rl⟩:=hv
  exact aQ (fun _=>av ⟨_,rfl,a,_,1,l1,rfl,rfl,SqT.of ha,af (j:=1) rfl,q l1 Rl⟩) (fun h=>absurd (decide_eq_true rfl) h)
 | row c ps j=>
  obtain ⟨l1,u,rfl,Rl,Ru⟩:=hv
  refine aQ (fun h=>absurd (of_decide_eq_true h) (wne (ϊ Ao))) (fun _=>⟨_,rfl,a,_,0,.str "row",rfl,rfl,SqT.of ha,af (j:=0) rfl,rfl,_,rfl,aQ (fun _=>⟨_,rfl,a,_,1,l1,rfl,rfl,SqT.of ha,af (j:=1) rfl,q l1 Rl⟩) (fun h=>absurd (decide_eq_true rfl) h)⟩)
 | pair i j=>
  refine aQ (fun h=>absurd (of_decide_eq_true h) (wne (ϊ zX))) (fun _=>⟨_,rfl,a,_,0,.str "pair",rfl,rfl,SqT.of ha,af (j:=0) rfl,rfl,_,rfl,aQ (fun h=>absurd (of_decide_eq_true h) (wne (ϊ Au))) (fun _=>?_)⟩)
  exact q .non (by simp only [Kd.len?,sO,Rep])
theorem gF:ap ["whole","parts_of","points","waiting","point"] ["whole","parts_of"] (ai fh):=⟨rfl,rfl,rfl,by decide +kernel,rfl,by decide +kernel,by decide +kernel⟩
theorem oi {f fT:Addr} {fd fdT:Μ} {k0:Nat} (F:Fun K "in_order" "in_order" fh f fd) (T:Txt K mg) (FV:aK P w K mg base CX0 k0 fT fdT ["point"] mB) (KV:PySem.W.keepIn K (.ref fT)=true) (BV:bG K fdT ["point"] []):aK P w K mg base CX0 (k0 + 1) f fd ["whole","parts_of"] (jF fT):=by
 have nd:(["whole","parts_of","points","waiting","point"]:List Str).Nodup:=gF.nd
 refine F.ok gF (fun vs H Q E h=>?_) (fun cdv A outer s H vs Q E hr h=>?_)
 ·obtain ⟨v,k,rfl,_⟩:=h
  rfl
 obtain ⟨v,k,rfl,R,k40,q⟩:=h
 refine ⟨_,(@un _ _ _ (wbO (wbM 2 nd rfl (Λ rfl) (waM waf) rfl (by trivial)) (wbO (wbM 3 nd rfl (Λ rfl) (waM (wae (wv 0 rfl) waf rfl)) rfl (by trivial)) (wbO (wbN ϝ (wbU (wv 3 rfl) (fun _=>rfl)) (wbO (wbM 4 nd rfl (Λ rfl) (wak PySem.F.plainAttrs_list PySem.F.slot_list_pop PySem.F.type_list_pop ia (wv 3 rfl) rfl rfl) rfl (by trivial)) (wbO (wbG (waj PySem.F.plainAttrs_list PySem.F.slot_list_append PySem.F.type_list_append bg (wv 2 rfl) (wae (wv 4 rfl) waf rfl) rfl rfl rfl rfl rfl) rfl) (wbQ (wbG (waj PySem.F.plainAttrs_list PySem.F.slot_list_extend PySem.F.type_list_extend gj (wv 3 rfl) (wae (waF rfl T.list rfl T.reversed rfl (wan 1 FV hr KV BV (wae (wv 4 rfl) waf rfl) rfl (by trivial) (by decide) (by decide) rfl rfl) rfl rfl) waf rfl) rfl rfl rfl rfl rfl) rfl))))) (wbQ (wbK (wv 2 rfl))))))),?_⟩
 refine ⟨Χ _,fun P1 hP=>?_⟩
 refine ⟨_,rfl,z1,fun W1 hW=>?_⟩
 have q1:=ac hP (.lst [])
 have q2:=ac hW (.lst [v])
 have hPW:P1≠W1:=ae (aa (H:=H) (a:=P1) (o:=.lst [])) hW
 have hWn:H W1=none:=q1.free hW
 refine qu (fun m σ H'=>∃ (o4:Option V) (dn ws:List Kd) (us vs:List V),σ=[some v,some (.ref fT),some (.ref P1),some (.ref W1),o4]/\ad H H'/\H' P1=some (.lst us)/\H' W1=some (.lst vs)/\Reps H' (dn.map Kd.dv) us/\Reps H' (ws.map Kd.dv) vs/\k.pts=dn ++ ws.reverse.flatMap Kd.pts/\m=(ws.map Kd.size).sum/\m<=40) k.size
  ⟨_,[],[k],[],[v],rfl,q1.trans q2,q2 _ _ aa,aa,by simp only [ϡ,Reps],aP ((R.mono q1).mono q2),by simp,by simp,k40⟩ ?_ eM
 rintro m σ H1 ⟨o4,dn,ws,us,vs,rfl,s1,p1,w1,R1,R2,ep,rfl,m40⟩
 refine ⟨_,rfl,_,.inl ⟨vs,SqL.of w1,rfl⟩,?_⟩
 have ldn:us.length<=40:=by
  have h1:=R1.length
  have h2:=congrArg List.length ep
  rw [Kd.pts_len,ς] at h2
  rw [ζ] at h1
  omega
 by_cases ne:ws=[]
 ·subst ne
  have e:vs=[]:=by simpa only [ϡ,Reps] using R2
  subst e
  refine aA ⟨_,rfl,q H1 P1 us s1 hP p1 ?_⟩
  rw [ep]
  simpa using R1
 ·obtain ⟨w0,x,rfl⟩:=fJ ne
  rw [ω] at R2
  obtain ⟨v0,u,rfl,Ra,Ru⟩:=cf R2
  have e:(!(v0 ++ [u]).isEmpty)=true:=by simp
  rw [e]
  refine av ?_
  have lv0:v0.length<=40:=by
   have h1:=Ra.length
   rw [ζ] at h1
   have h2:∀ l:List Kd,l.length<=(l.map Kd.size).sum:=by
    intro l
    induction l with
    | nil=>simp
    | cons y l ih=>rw [Υ,Ο,CO]; have:=y.size_pos; omega
   have h3:=h2 w0
   rw [ω,u7] at m40
   omega
  refine ⟨_,rfl,.inl ⟨rfl,_,SqL.of w1⟩,W1,_,_,rfl,rfl,w1,dy _ _,?_⟩
  rw [u_]
  have s2:=aE.upd H1 W1 (.lst v0)
  have w2:upd H1 W1 (.lst v0) W1=some (.lst v0):=aa
  have p2:=s2 _ _ hPW p1
  have t2:cu H1 _:=s2.tups w1
  generalize upd H1 W1 (.lst v0)=H2 at s2 w2 p2 t2 ⊢
  refine ⟨_,rfl,.inl ⟨rfl,_,SqL.of p2⟩,_,rfl,P1,_,_,rfl,rfl,p2,by rw [ψ]; omega,?_⟩
  have s3:=aE.upd H2 P1 (.lst (us ++ [u]))
  have p3:upd H2 P1 (.lst (us ++ [u])) P1=some (.lst (us ++ [u])):=aa
  have w3:=s3 _ _ (ϊ hPW) w2
  have t3:cu H1 _:=t2.trans (s3.tups p2)
  generalize upd H2 P1 (.lst (us ++ [u]))=H3 at s3 p3 w3 t3 ⊢
  refine ⟨_,rfl,.inl ⟨rfl,_,SqL.of w3⟩,rfl,_,rfl,u,x,rfl,Kd.tupS t3 Ru,fun H4 l ks s4 hl h4 R4=>⟨l,ks,rfl,SqL.of h4,fun a ha=>?_⟩⟩
  have s5:=s4.trans (ac ha (.lst ks.reverse))
  have lks:ks.length<=2:=by
   have h1:=R4.length
   rw [ζ] at h1
   rw [h1]
   cases x <;> simp [Kd.kids]
  refine ⟨W1,a,_,_,rfl,rfl,s5 _ _ w3,aa,by rw [Ϥ,ψ]; omega,?_⟩
  have R5:Reps (upd H4 a (.lst ks.reverse)) (x.kids.reverse.map Kd.dv) ks.reverse:=by
   have R4':=R4.mono (ac ha (.lst ks.reverse))
   cases x with
   | whole=>simp only [Kd.kids,ϡ,Reps] at R4' ⊢; subst R4'; simp [Kd.kids,Reps]
   | place c ps=>simp only [Kd.kids,ϡ,Reps] at R4' ⊢; subst R4'; simp [Kd.kids,Reps]
   | row c ps j=>
    simp only [Kd.kids,Ο,ϡ,Reps] at R4'
    obtain ⟨y,r,rfl,hy,rfl⟩:=R4'
    exact aP hy
   | pair i j=>
    simp only [Kd.kids,Ο,ϡ,Reps] at R4'
    obtain ⟨y,r,rfl,hy,z,r2,rfl,hz,rfl⟩:=R4'
    exact Reps.append (aP hz) (aP hy)
  have s6:=aE.upd (upd H4 a (.lst ks.reverse)) W1 (.lst (v0 ++ ks.reverse))
  have t6:cu H1 _:=t3.trans ((ad.tups s5).trans (s6.tups (s5 _ _ w3)))
  refine ⟨_,?_,_,dn ++ [x],w0 ++ x.kids.reverse,us ++ [u],v0 ++ ks.reverse,rfl,?_,s6 _ _ hPW (s5 _ _ p3),aa,?_,?_,?_,rfl,?_⟩
  ·rw [ω,u7,ω,u7]
   have h1:=x.size_kids
   have h2:(x.kids.reverse.map Kd.size).sum=(x.kids.map Kd.size).sum:=by rw [CJ,List.sum_reverse]
   simp only [Ο,ϡ,CO,List.sum_nil]
   omega
  ·exact fun g o e=>s6 g o (fun z=>by rw [z,hWn] at e; cases e) (s5 _ _ (s3 g o (ae e hP) (s2 g o (fun z=>by rw [z,hWn] at e; cases e) (s1 g o e))))
  ·rw [ω]
   exact Reps.append (aU (fun d hd v r=>by obtain ⟨y,_,rfl⟩:=Δ.mp hd; exact Kd.tupS t6 r) R1) (aP (Kd.tupS t6 Ru))
  ·rw [ω]
   exact Reps.append (aU (fun d hd v r=>by obtain ⟨y,_,rfl⟩:=Δ.mp hd; exact Kd.tupS t6 r) Ra) (aU (fun d hd v r=>by obtain ⟨y,_,rfl⟩:=Δ.mp hd; exact Kd.tupS (s6.tups (s5 _ _ w3)) r) R5)
  ·rw [ep]
   simp only [List.reverse_append,DA,List.reverse_nil,CT,List.reverse_reverse,ϴ,ϰ,List.flatMap_nil,j9,List.singleton_append,DB]
   rw [x.pts_kids]
   simp
  ·rw [ω,u7] at m40 ⊢
   have h1:=x.size_kids
   have h2:(x.kids.reverse.map Kd.size).sum=(x.kids.map Kd.size).sum:=by rw [CJ,List.sum_reverse]
   simp only [Ο,ϡ,CO,List.sum_nil] at m40
   omega
theorem kI:ap ["kind"] ["kind"] (ai dM):=⟨rfl,rfl,rfl,by decide +kernel,rfl,by decide +kernel,by decide +kernel⟩
theorem km {f fthings_of:Addr} {fd:Μ} {k0:Nat} (F:Fun K "points_of" "points_of" dM f fd) (T:Txt K mg) (Din_order:Def P w K mg base k0 "in_order" ["whole","parts_of"] (jF fthings_of)) (Gthings_of:mg "things_of"=some (.ref fthings_of)):aK P w K mg base CX0 (k0 + 1) f fd ["kind"] iq:=by
 refine F.ok kI (fun vs H Q E h=>?_) (fun cdv A outer s H vs Q E hr h=>?_)
 ·obtain ⟨v,k,rfl,_⟩:=h
  rfl
 obtain ⟨v,k,rfl,R,k40,q⟩:=h
 refine ⟨_,(@un _ _ _ (wbQ (wbK (waq Din_order hr rfl (wae (wv 0 rfl) (wae (waB (.ref fthings_of) rfl Gthings_of rfl (by decide)) waf rfl) rfl) (by decide) rfl rfl)))),?_⟩
 exact ⟨_,rfl,v,k,rfl,R,k40,q⟩
end
abbrev fX:Stmt:=top 51
abbrev cx:Stmt:=top 52
abbrev dI:Stmt:=top 53
def bdK (bs:List Str):List (Key×V):=bs.map fun x=>(Ϗ x,V.bl true)
theorem lB:∀ (bs:List Str) (x:Str),(dm (bdK bs) (Ϗ x)).isSome=decide (x∈bs)
 | [],x=>by rw [decide_eq_false (by simp)]; rfl
 | b :: bs,x=>by
  by_cases h:b=x
  ·have e:dm (bdK (b :: bs)) (Ϗ x)=some (V.bl true):=fS (p:=(Ϗ b,V.bl true)) (by rw [h])
   rw [e,decide_eq_true (by simp [h])]; rfl
  ·have e:dm (bdK (b :: bs)) (Ϗ x)=dm (bdK bs) (Ϗ x):=fH (p:=(Ϗ b,V.bl true)) (fun z=>h (by injection z))
   rw [e,lB bs x]
   by_cases h2:x∈bs
   ·rw [decide_eq_true h2,decide_eq_true (ο _ h2)]
   ·rw [decide_eq_false h2,decide_eq_false (fun z=>by rcases θ.mp z with z | z; exact h z.symm; exact h2 z)]
def bB (bs:List Str) (ps:List Pr):List Pr:=ps.filter fun p=>!decide (p.1∈bs)
def ya:Sp:=fun vs H Q _=>∃ (v:V) (b:Addr) (c:Int) (ps:List Pr) (bs:List Str),vs=[v,.ref b]/\Rep H (bt c ps) v/\ps.length<=40/\H b=some (.dK (bdK bs)) /\
 ∀ (H':Hp) (l:Addr) (us:List V),ad H H'->H l=none->H' l=some (.lst us)->Reps H' (aL (bB bs ps)) us->Q (.ref l) H'
section
variable {P:Β} {w:Ξ} {K:PySem.W.Frag} {mg:Str->Option δ} {base:Heap}
theorem oo:ap ["length","bound"] ["length","bound"] (ai fX):=⟨rfl,rfl,rfl,by decide +kernel,rfl,by decide +kernel,by decide +kernel⟩
theorem pf {f:Addr} {fd:Μ} (F:Fun K "unbound" "unbound" fX f fd) (T:Txt K mg):aK P w K mg base CX0 1 f fd ["length","bound"] ya:=by
 refine F.ok oo (fun vs H Q E h=>?_) (fun cdv A outer s H vs Q E hr h=>?_)
 ·obtain ⟨v,b,c,ps,bs,rfl,_⟩:=h
  rfl
 obtain ⟨v,b,c,ps,bs,rfl,R,h40,hb,q⟩:=h
 have hu:=nX hr
 obtain ⟨a,a1,us,rfl,ha,ha1,ru,lu⟩:=wH R
 refine ⟨_,(@un _ _ _ (wbQ (wbK (waE ["part"] [1] (wbo (waD ao (wv 0 rfl) waC (fun _ _=>rfl))) (.of rfl) rfl (fun _ _ _=>⟨pg_name (i:=0) (cc (l:=["part","bound"]) ((by decide +kernel)) rfl) rfl (Λ rfl)⟩) (bD (by decide)) (fun _ _ _=>⟨qA (pt_cmpR (sH hu) (pe_ix (wg K rfl) (pv 0) pe_int (fun _ _=>rfl)) (pv 1) (by with_unfolding_all rfl))⟩) (fun _ _ _=>(wv 0 rfl)) (by intro _; rfl))))),?_⟩
 refine ⟨_,rfl,a,_,1,.ref a1,rfl,rfl,SqT.of ha,af (j:=1) rfl,a1,rfl,⟨us,SqT.of ha1⟩,gi (xs:=us) (fun i ys H'=>H'=H/\ys.length<=i/\Reps H (aL (bB bs (ps.take i))) ys) ⟨rfl,τ _,by simp [bB,Reps]⟩ (fun i ys H' _ p=>by rw [p.1]; exact SqT.of ha1) ?_ ?_⟩
 ·rintro i ys H' x hx ⟨rfl,ly,Ry⟩
  obtain ⟨p,e,hp,rfl,he⟩:=rC ru hx
  have hi:i < us.length:=(π.mp hx).1
  have hti:ps.take (i + 1)=ps.take i ++ [p]:=by rw [Ϡ,hp]; rfl
  refine rh ⟨_,rfl,e,_,0,.str p.1,rfl,rfl,SqT.of he,af (j:=0) rfl,_,rfl,b,_,rfl,pC.k (k:=Ϗ p.1) hb,?_⟩
  refine ⟨_,rfl,?_⟩
  show if (!(dm (bdK bs) (Ϗ p.1)).isSome)=true then _ else _
  rw [lB]
  by_cases h:p.1∈bs
  ·rw [decide_eq_true h]
   refine aA ⟨rfl,by omega,?_⟩
   have:bB bs (ps.take (i + 1))=bB bs (ps.take i):=by unfold bB; rw [hti,i8]; simp [h]
   rw [this]; exact Ry
  ·rw [decide_eq_false h]
   refine av ⟨_,rfl,by rw [ψ]; omega,rfl,by rw [ς,ϐ]; omega,?_⟩
   have:bB bs (ps.take (i + 1))=bB bs (ps.take i) ++ [p]:=by unfold bB; rw [hti,i8]; simp [h]
   rw [this,show aL (bB bs (ps.take i) ++ [p])=aL (bB bs (ps.take i)) ++ aL [p] from ω]
   refine Reps.append Ry (aP ?_)
   rw [Rep]
   exact ⟨e,_,rfl,he,by simp only [Reps]; exact ⟨_,_,rfl,by simp only [Rep],_,_,rfl,by simp only [Rep],rfl⟩⟩
 ·rintro ys H' ⟨rfl,ly,Ry⟩ r hr'
  rw [lu,ϛ] at Ry
  exact q _ r ys (ac hr' _) hr' aa (Ry.mono (ac hr' _))
end
def kn (k:Kd) (fs:List Pr) (ns:List Str):Bool:=fs.isEmpty || (decide (k.word="row") && (decide (fs.length=1) && (fs.map fun p=>decide (p∈ns.map fun x=>(x,(1:Int)))).headD false))
def yw:Sp:=fun vs H Q _=>∃ (v u:V) (l:Addr) (k:Kd) (fs:List Pr) (us:List V) (ns:List Str),vs=[v,.ref l,u]/\Rep H k.dv v/\H l=some (.lst us)/\Reps H (aL fs) us/\Rep H (.tup (ns.map Dv.str)) u/\ns.length<=40/\∀ H',ad H H'->Q (.bl (kn k fs ns)) H'
theorem pW {p q:Pr} (h:Dv.tup [.str p.1,.int p.2]=.tup [.str q.1,.int q.2]):p=q:=by
 injection h with h; injection h with h1 h2; injection h2 with h2 _; injection h1 with h1; injection h2 with h2
 exact Prod.ext h1 h2
section
variable {P:Β} {w:Ξ} {K:PySem.W.Frag} {mg:Str->Option δ} {base:Heap}
theorem kt:ap ["point","fresh","names"] ["point","fresh","names"] (ai cx):=⟨rfl,rfl,rfl,by decide +kernel,rfl,by decide +kernel,by decide +kernel⟩
theorem lq {f:Addr} {fd:Μ} (F:Fun K "may_stand" "may_stand" cx f fd) (T:Txt K mg):aK P w K mg base CX0 1 f fd ["point","fresh","names"] yw:=by
 refine F.ok kt (fun vs H Q E h=>?_) (fun cdv A outer s H vs Q E hr h=>?_)
 ·obtain ⟨v,u,l,k,fs,us,ns,rfl,_⟩:=h
  rfl
 obtain ⟨v,u,l,k,fs,us,ns,rfl,R,hl,Rf,Rn,n40,q⟩:=h
 have hu9:=iX hr
 have huL:(A.deeper (Cb (η "may_stand") (ai cx) s.heap.objs.size f cdv)).units < cLine:=by omega
 obtain ⟨a,vs,rfl,ha⟩:=xR R
 obtain ⟨b,ws,rfl,hb,Rw⟩:=Rep.tup_inv Rn
 have lf:us.length=fs.length:=by have:=Rf.length; rwa [ζ] at this
 refine ⟨_,(@un _ _ _ (wbO (wbI (wbS (uu huL) (wv 1 rfl) (waM waf) (ak _)) (wbQ (wbK wah)) wbP) (wbQ (wbK (wag (wap aG (waD ao (wv 0 rfl) waC (fun _ _=>rfl)) waV (ak _)) (wag (wap aG (wal aq rfl T.len (by decide +kernel) (wae (wv 1 rfl) waf rfl) (by decide) (by decide) rfl rfl) waC (ak _)) (waP (wap (yI hu9) (waD aH (wv 1 rfl) waC (fun _ _=>rfl)) (waE ["name"] [] (wbo (wv 2 rfl)) (.of rfl) rfl (fun _ _ _=>⟨pg_name (i:=0) (cc (l:=["name"]) ((by decide +kernel)) rfl) rfl (Λ rfl)⟩) (bD (by decide)) (fun _ _ _=>wbx) (fun _ _ _=>(waX (wae (wv 0 rfl) (wae waC waf rfl) rfl))) (by intro _; rfl)) (by with_unfolding_all rfl))))))))),?_⟩
 refine ⟨_,rfl,Χ _,fun e he=>?_⟩
 have s1:=ac he (.lst [])
 refine ⟨l,e,us,rfl,rfl,SqL.of (s1 _ _ hl),SqL.of aa,_,rfl,?_⟩
 cases fs with
 | nil=>
  obtain rfl:us=[]:=l8 lf
  exact av (q _ s1)
 | cons p fs=>
  obtain ⟨y,us,rfl⟩:∃ y z,us=y :: z:=by cases us with | nil=>cases lf | cons y z=>exact ⟨y,z,rfl⟩
  refine aA ?_
  have qq:=fun H' (s:ad H H')=>q H' s
  simp only [kn,List.isEmpty_cons,x5,Ο,List.headD_cons] at qq
  refine ⟨_,rfl,a,_,0,.str k.word,rfl,rfl,SqT.of (s1 _ _ ha),af (j:=0) rfl,rfl,_,rfl,?_⟩
  show if decide (V.str k.word=V.str "row")=true then _ else _
  rw [br]
  by_cases hw:k.word="row"
  ·rw [decide_eq_true hw]
   refine av ⟨_,rfl,l,_,rfl,.inl (SqL.of (s1 _ _ hl)),rfl,_,rfl,?_⟩
   simp only [decide_eq_true hw,ϓ] at qq
   by_cases h1:us.length=0
   ·obtain rfl:us=[]:=l8 h1
    have ef:fs=[]:=l8 (by simpa using lf.symm)
    subst ef
    refine av ⟨_,rfl,l,_,0,y,rfl,rfl,SqL.of (s1 _ _ hl),af (j:=0) rfl,?_⟩
    simp only [ϐ,decide_true,ϓ] at qq
    have Ry:Rep H (.tup [.str p.1,.int p.2]) y:=by
     simp only [Ο,ϡ,Reps] at Rf
     obtain ⟨z,r,e1,Rz,_⟩:=Rf
     cases e1; exact Rz
    refine ⟨_,rfl,b,rfl,⟨ws,SqT.of (s1 _ _ hb)⟩,gi (xs:=ws) (fun i ys H'=>ad (upd H e (.lst [])) H'/\Reps H' (aL ((ns.take i).map fun x=>(x,(1:Int)))) ys) ⟨ad.refl _,by simp [Reps]⟩ (fun i ys H' _ p=>SqT.of (p.1 _ _ (s1 _ _ hb))) ?_ ?_⟩
    ·rintro i ys H2 x hx ⟨s2,R2⟩
     obtain ⟨n,hn,Rx⟩:=cQ Rw hx
     have ex:x=.str n:=by simpa only [Rep] using Rx
     subst ex
     have hi:i < ws.length:=(π.mp hx).1
     have lw:ws.length=ns.length:=by have:=Rw.length; rwa [ζ] at this
     refine bF ⟨_,rfl,z2,fun t ht=>⟨?_,s2.trans (ac ht _),?_⟩⟩
     ·rw [R2.length,ζ,ζ,Ρ,ψ]; omega
     ·have s3:=ac ht (.tup [.str n,.int 1])
      rw [Ϡ,hn,ω,show aL (Ee (fun x=>(x,(1:Int))) (ns.take i) ++ Ee (fun x=>(x,(1:Int))) (some n).toList)=aL (Ee (fun x=>(x,(1:Int))) (ns.take i)) ++ aL [(n,1)] from ω]
      refine Reps.append (R2.mono s3) (aP ?_)
      rw [Rep]
      exact ⟨t,_,rfl,aa,by simp only [Reps]; exact ⟨_,_,rfl,by simp only [Rep],_,_,rfl,by simp only [Rep],rfl⟩⟩
    ·rintro ys H2 ⟨s2,R2⟩ r hr'
     have lw:ws.length=ns.length:=by have:=Rw.length; rwa [ζ] at this
     rw [lw,ϛ] at R2
     have s3:=ac hr' (.lst ys)
     have plp:∀ p:Pr,L2.Pl 1 (.tup [.str p.1,.int p.2]):=fun p=>.tup fun d hd=>by
      rcases θ.mp hd with rfl | hd
      ·exact .str
      ·rw [ε.mp hd]; exact .int
     refine ⟨r,ys,1,_,_,rfl,SqL.of aa,R2.mono s3,fun d hd=>?_,plp p,by decide,((Ry.mono s1).mono s2).mono s3,fun c hc=>?_⟩
     ·obtain ⟨z,_,rfl⟩:=Δ.mp hd
      exact plp z
     ·have e2:c=decide (p∈ns.map fun x=>(x,(1:Int))):=by
       rw [i6,hc,decide_eq_true_iff]
       exact ⟨fun z=>by obtain ⟨y,hy,e⟩:=Δ.mp z; rw [<- pW e]; exact hy,fun z=>f_ (f:=fun p:Pr=>Dv.tup [.str p.1,.int p.2]) z⟩
      rw [e2]
      exact qq _ (s1.trans (s2.trans s3))
   ·have:¬ V.int (((y :: us).length:Nat):Int)=V.int 1:=fun z=>h1 (by injection z with z; simp at z; omega)
    rw [decide_eq_false this]
    have h2:¬ (p :: fs).length=1:=fun z=>h1 (by rw [Υ] at z; rw [Υ,Υ] at lf; omega)
    simp only [decide_eq_false h2,Ϻ] at qq
    exact aA (qq _ s1)
  ·rw [decide_eq_false hw]
   simp only [decide_eq_false hw,Ϻ] at qq
   exact aA (qq _ s1)
end
def bK (bs:List Str) (k:Kd):List Pr:=match k.len? with | none=>[] | some p=>bB bs p.2
def bJ (ns bs:List Str) (k:Kd):Option (List Str):=if kn k (bK bs k) ns=true then some (bs ++ (bK bs k).map (·.1)) else none
def bp (ns:List Str):List Str->List Kd->Option (List Str)
 | bs,[]=>some bs
 | bs,k :: ks=>match bJ ns bs k with | none=>none | some cs=>bp ns cs ks
theorem bw (ns:List Str):∀ (xs ys:List Kd) (bs:List Str),bp ns bs (xs ++ ys)=match bp ns bs xs with | none=>none | some cs=>bp ns cs ys
 | [],_,_=>rfl
 | x :: xs,ys,bs=>by
  show (match bJ ns bs x with | none=>none | some cs=>bp ns cs (xs ++ ys))=match (match bJ ns bs x with | none=>none | some cs=>bp ns cs xs) with | none=>none | some cs=>bp ns cs ys
  cases bJ ns bs x with
  | none=>rfl
  | some cs=>exact bw ns xs ys cs
abbrev Prm:=Str×Kd
def cP (p:Prm):Dv:=.tup [.str p.1,p.2.dv]
def iL (ns:List Str) (ps:List Prm):Bool:=match bp ns [] (ps.flatMap fun p=>p.2.pts) with | none=>false | some bs=>decide (bs.length=ns.length)
def L40 (_:Int) (ps:List Pr):Prop:=ps.length<=40
def rd:Sp:=fun vs H Q _=>∃ (v u:V) (ns:List Str) (ps:List Prm),vs=[v,u]/\Rep H (.tup (ns.map Dv.str)) v/\Rep H (.tup (ps.map cP)) u/\ns.length<=4/\ps.length<=4/\(∀ p∈ps,p.2.size<=12/\p.2.All L40)/\∀ H',ad H H'->Q (.bl (iL ns ps)) H'
theorem nI {H:Hp} {p:Prm} {v:V} (R:Rep H (cP p) v):∃ a u,v=.ref a/\H a=some (.tup [.str p.1,u])/\Rep H p.2.dv u:=by
 obtain ⟨a,vs,rfl,ha,rs⟩:=Rep.tup_inv R
 obtain ⟨x,y,rfl,r1,r2⟩:=Reps.two rs
 simp only [Rep] at r1
 subst r1
 exact ⟨a,y,rfl,ha,r2⟩
theorem qj {k:Kd} {fs:List Pr} {ns:List Str} (h:kn k fs ns=true):fs=[]\/∃ x,fs=[(x,1)]:=by
 unfold kn at h
 match fs,h with
 | [],_=>exact .inl rfl
 | [p],h=>
  refine .inr ?_
  simp only [List.isEmpty_cons,x5,Ο,ϡ,List.headD_cons,Θ,decide_eq_true_eq] at h
  obtain ⟨x,_,e⟩:=Δ.mp h.2.2
  exact ⟨x,by rw [<- e]⟩
 | p :: q :: r,h=>simp at h
theorem rT {bs:List Str} {k:Kd} {p:Pr} (h:p∈bK bs k):p.1∉bs:=by
 unfold bK at h
 cases e:k.len? with
 | none=>rw [e] at h; cases h
 | some q=>
  rw [e] at h
  have:=(j8.mp h).2
  simpa using this
theorem tD {bs:List Str} {x:Str} (h:x∉bs):cK (bdK bs) (Ϗ x) (.bl true)=bdK (bs ++ [x]):=by
 have:cK (bdK bs) (Ϗ x) (.bl true)=bdK bs ++ [(Ϗ x,.bl true)]:=by
  unfold cK
  rw [if_neg]
  have:=lB bs x
  rw [decide_eq_false h] at this
  intro z
  rw [a_] at z
  obtain ⟨p,hp,e⟩:=z
  obtain ⟨y,hy,rfl⟩:=Δ.mp hp
  have e':(Ϗ y:Key)=Ϗ x:=of_decide_eq_true e
  injection e' with e'
  exact h (e'▸hy)
 rw [this]
 unfold bdK
 rw [ω]; rfl
theorem dY {P:Int->List Pr->Prop}:∀ {k:Kd},k.All P->∀ j∈k.pts,∀ c ps,j.len?=some (c,ps)->P c ps
 | .whole,_,j,hj,c,ps,e=>by
  rw [ε.mp hj] at e; cases e
 | .place c ps,h,j,hj,c',ps',e=>by
  rw [ε.mp hj] at e; cases e; exact h
 | .row c ps k,h,j,hj,c',ps',e=>by
  rcases θ.mp hj with rfl | hj
  ·cases e; exact h.1
  ·exact dY h.2 j hj c' ps' e
 | .pair a b,h,j,hj,c',ps',e=>by
  rcases θ.mp hj with rfl | hj
  ·cases e
  ·rcases Ψ.mp hj with hj | hj
   ·exact dY h.1 j hj c' ps' e
   ·exact dY h.2 j hj c' ps' e
theorem ww {ns bs cs:List Str} {ps:List Prm} {i j:Nat} {p:Prm} {k:Kd} (hp:ps[i]?=some p) (hj:p.2.pts[j]?=some k) (e1:bp ns [] ((ps.take i).flatMap fun p=>p.2.pts)=some bs) (e3:bp ns bs (p.2.pts.take j)=some cs) (h:bJ ns cs k=none):bp ns [] (ps.flatMap fun p=>p.2.pts)=none:=by
 obtain ⟨hi,hpe⟩:=π.mp hp
 obtain ⟨hj',hje⟩:=π.mp hj
 have e:ps=ps.take i ++ p :: ps.drop (i + 1):=by rw [<- hpe,<- j_ hi,h_]
 have e':p.2.pts=p.2.pts.take j ++ k :: p.2.pts.drop (j + 1):=by rw [<- hje,<- j_ hj',h_]
 have h1:ps.flatMap (fun p=>p.2.pts)=((ps.take i).flatMap fun p=>p.2.pts) ++ (p.2.pts ++ (ps.drop (i + 1)).flatMap fun p=>p.2.pts):=by
  conv=>lhs; rw [e]
  rw [ϴ,ϰ]
 have h2:bp ns bs p.2.pts=none:=by
  rw [e',bw,e3]
  show (match bJ ns cs k with | none=>none | some c=>bp ns c _)=none
  rw [h]
 rw [h1,bw,e1]
 show bp ns bs _=none
 rw [bw,h2]
section
variable {P:Β} {w:Ξ} {K:PySem.W.Frag} {mg:Str->Option δ} {base:Heap}
theorem fF:ap ["names","params","bound","x","kind","point","fresh","name","times"] ["names","params"] (ai dI):=⟨rfl,rfl,rfl,by decide +kernel,rfl,by decide +kernel,by decide +kernel⟩
theorem kx {f:Addr} {fd:Μ} {k:Nat} (F:Fun K "are_bound" "are_bound" dI f fd) (T:Txt K mg) (Dpoints_of:Def P w K mg base k "points_of" ["kind"] iq) (Dlength_at:Def P w K mg base k "length_at" ["point"] qv) (Dunbound:Def P w K mg base k "unbound" ["length","bound"] ya) (Dmay_stand:Def P w K mg base k "may_stand" ["point","fresh","names"] yw) :
  aK P w K mg base CX0 (k + 1) f fd ["names","params"] rd:=by
 have nd:(["names","params","bound","x","kind","point","fresh","name","times"]:List Str).Nodup:=fF.nd
 refine F.ok fF (fun vs H Q E h=>?_) (fun cdv A outer s H vs Q E hr h=>?_)
 ·obtain ⟨v,u,ns,ps,rfl,_⟩:=h
  rfl
 obtain ⟨v,u,ns,ps,rfl,Rn,Rp,n4,p4,hk,q⟩:=h
 have hu:=nX hr
 obtain ⟨b,ws,rfl,hb,Rw⟩:=Rep.tup_inv Rn
 obtain ⟨a,us,rfl,ha,Ru⟩:=Rep.tup_inv Rp
 have lu:us.length=ps.length:=by have:=Ru.length; rwa [ζ] at this
 have lw:ws.length=ns.length:=by have:=Rw.length; rwa [ζ] at this
 refine ⟨_,(@un _ _ _ (wbO (wbM 2 nd rfl (Λ rfl) waA rfl (by trivial)) (wbO (wbH ϝ rfl (wbo (wv 1 rfl)) (wbb rfl (wbd (waZ 3 nd rfl (Λ rfl) (by trivial)) (wbd (waZ 4 nd rfl (Λ rfl) (by trivial)) wbe rfl) rfl) rfl rfl) (wbQ (wbH ϝ rfl (wbi (waq Dpoints_of hr rfl (wae (wv 4 rfl) waf rfl) (by decide) rfl rfl)) (waZ 5 nd rfl (Λ rfl) (by trivial)) (wbO (wbM 6 nd rfl (Λ rfl) (wac (wbS yN (waq Dlength_at hr rfl (wae (wv 5 rfl) waf rfl) (by decide) rfl rfl) waN (ak _)) (waM waf) (waq Dunbound hr rfl (wae (waq Dlength_at hr rfl (wae (wv 5 rfl) waf rfl) (by decide) rfl rfl) (wae (wv 2 rfl) waf rfl) rfl) (by decide) rfl rfl)) rfl (by trivial)) (wbO (wbI (wbT (wbV (waq Dmay_stand hr rfl (wae (wv 5 rfl) (wae (wv 6 rfl) (wae (wv 0 rfl) waf rfl) rfl) rfl) (by decide) rfl rfl) (by intro _; rfl))) (wbQ (wbK wah)) wbP) (wbQ (wbH ϝ rfl (wbi (wv 6 rfl)) (wbb rfl (wbd (waZ 7 nd rfl (Λ rfl) (by trivial)) (wbd (waZ 8 nd rfl (Λ rfl) (by trivial)) wbe rfl) rfl) rfl rfl) (wbQ (wbF hu (wv 2 rfl) (wv 7 rfl) wah rfl)) (by intro _; rfl))))) (by intro _; rfl))) (by intro _; rfl)) (wbQ (wbK (wap aG (wal sD rfl T.len (by decide +kernel) (wae (wv 2 rfl) waf rfl) (by decide) (by decide) rfl rfl) (wal aq rfl T.len (by decide +kernel) (wae (wv 0 rfl) waf rfl) (by decide) (by decide) rfl rfl) (ak _))))))),?_⟩
 intro d hd
 have s0:ad H (upd H d (.dK [])):=ac hd _
 have d0:upd H d (.dK []) d=some (.dK (bdK [])):=aa
 generalize upd H d (.dK [])=H0 at s0 d0 ⊢
 refine ⟨_,rfl,a,rfl,⟨us,SqT.of (s0 _ _ ha)⟩,qa (xs:=us) (fun i σ H'=>∃ (o1 o2 o3 o4 o5 o6:Option V) (bs:List Str),σ=[some (.ref b),some (.ref a),some (.ref d),o1,o2,o3,o4,o5,o6]/\ad H H'/\H' d=some (.dK (bdK bs))/\bp ns [] ((ps.take i).flatMap fun p=>p.2.pts)=some bs/\bs.length<=12 * i)
  ⟨_,_,_,_,_,_,[],rfl,s0,d0,rfl,by simp⟩ (fun i σ H' _ ⟨_,_,_,_,_,_,_,_,s1,_⟩=>SqT.of (s1 _ _ ha)) ?T1 ?_⟩
 case T1=>
  rintro i x σ H1 hx ⟨o1,o2,o3,o4,o5,o6,bs,rfl,s1,d1,e1,l1⟩
  obtain ⟨p,hp,Rx⟩:=cQ (f:=cP) Ru hx
  obtain ⟨e,z,rfl,he,Rz⟩:=nI Rx
  have hi:i < us.length:=(π.mp hx).1
  have hti:ps.take (i + 1)=ps.take i ++ [p]:=by rw [Ϡ,hp]; rfl
  obtain ⟨k12,kA⟩:=hk p (Α hp)
  refine ⟨e,_,rfl,SqT.of (s1 _ _ he),rfl,_,_,rfl,_,_,rfl,rfl,?_⟩
  refine ⟨_,rfl,z,p.2,rfl,Rz.mono s1,by omega,fun H2 g ks s2 hg0 hg Rg=>?_⟩
  have lk:ks.length=p.2.pts.length:=by have:=Rg.length; rwa [ζ] at this
  have gd:g≠d:=fun z=>by rw [z,d1] at hg0; cases hg0
  have lp:=Kd.pts_len p.2
  refine ⟨g,rfl,⟨ks,SqL.of hg⟩,mj (xs:=ks) (fun j σ H'=>∃ (o3 o4 o5 o6:Option V) (cs:List Str),σ=[some (.ref b),some (.ref a),some (.ref d),some (.str p.1),some z,o3,o4,o5,o6]/\aE d H2 H'/\H' d=some (.dK (bdK cs))/\bp ns bs (p.2.pts.take j)=some cs/\cs.length<=12 * i + j)
   ⟨_,_,_,_,bs,rfl,aE.refl _ _,s2 _ _ d1,rfl,by omega⟩ (fun j σ H' _ ⟨_,_,_,_,_,_,sx,_⟩=>SqL.of (sx _ _ gd hg)) ?T2 ?_⟩
  case T2=>
   rintro j y σ H3 hy ⟨o3,o4,o5,o6,cs,rfl,s3,d3,e3,l3⟩
   obtain ⟨kj,hj,Ry⟩:=cQ Rg hy
   have hjm:=Α hj
   have hjl:j < ks.length:=(π.mp hy).1
   have htj:p.2.pts.take (j + 1)=p.2.pts.take j ++ [kj]:=by rw [Ϡ,hj]; rfl
   have t3:cu H2 H3:=s3.tupsD (s2 _ _ d1)
   have Ry3:=Kd.tupS t3 Ry
   have s03:ad H H3:=fun x o e=>s3 x o (ae e hd) (s2 _ _ (s1 _ _ e))
   refine fW (fun σ' H4=>∃ (l:Addr) (zs:List V),σ'=[some (.ref b),some (.ref a),some (.ref d),some (.str p.1),some z,some y,some (.ref l),o5,o6]/\ad H3 H4/\H3 l=none/\H4 l=some (.lst zs)/\Reps H4 (aL (bK cs kj)) zs) ?N1 (fun nx=>?_)
   case N1=>
    rintro _ H4 ⟨l,zs,rfl,s4,hl0,hl,Rz'⟩
    have lz:zs.length=(bK cs kj).length:=by have:=Rz'.length; rwa [ζ] at this
    refine ⟨_,rfl,_,rfl,_,rfl,y,.ref b,l,kj,bK cs kj,zs,ns,rfl,Ry3.mono s4,hl,Rz',by rw [Rep]; exact ⟨b,ws,rfl,s4 _ _ (s03 _ _ hb),Rw.mono (s03.trans s4)⟩,by omega,fun H5 s5=>⟨_,rfl,?_⟩⟩
    cases hm:kn kj (bK cs kj) ns with
    | false=>
     refine av ?_
     have hf:iL ns ps=false:=by
      unfold iL
      rw [ww hp hj e1 e3 (by unfold bJ; rw [hm]; rfl)]
     exact hf▸q H5 (s03.trans (s4.trans s5))
    | true=>
     refine aA ?_
     have d5:=s5 _ _ (s4 _ _ d3)
     have ld:l≠d:=fun z=>by rw [z,d3] at hl0; cases hl0
     refine ⟨_,rfl,l,rfl,⟨zs,SqL.of (s5 _ _ hl)⟩,mj (xs:=zs) (fun m σ H'=>∃ (o5 o6:Option V),σ=[some (.ref b),some (.ref a),some (.ref d),some (.str p.1),some z,some y,some (.ref l),o5,o6]/\aE d H5 H'/\H' d=some (.dK (bdK (cs ++ ((bK cs kj).take m).map (·.1)))))
      ⟨_,_,rfl,aE.refl _ _,by rw [d5]; simp⟩ (fun m σ H' _ ⟨_,_,_,sx,_⟩=>SqL.of (sx _ _ ld (s5 _ _ hl))) ?T3 ?_⟩
     case T3=>
      rintro m c σ H6 hc ⟨o5,o6,rfl,s6,d6⟩
      obtain ⟨r,e,hr',rfl,he'⟩:=rC Rz' hc
      have ed:e≠d:=fun z=>by have:=s5 _ _ he'; rw [z,d5] at this; cases this
      refine ⟨e,_,rfl,SqT.of (s6 _ _ ed (s5 _ _ he')),rfl,_,_,rfl,_,_,rfl,rfl,?_⟩
      rcases qj hm with hn | ⟨x,hn⟩
      ·rw [hn] at hr'; simp at hr'
      rw [hn] at hr'
      obtain rfl:m=0:=by cases m with | zero=>rfl | succ m=>simp at hr'
      obtain rfl:(x,(1:Int))=r:=by simpa using hr'
      have xn:x∉cs:=rT (p:=(x,1)) (by rw [hn]; exact ε.mpr rfl)
      rw [hn] at d6 ⊢
      simp only [List.take_zero,ϡ,j9] at d6
      refine ⟨_,rfl,_,rfl,d,_,rfl,lW.k (k:=Ϗ x) d6 ?_,?_⟩
      ·rw [show (bdK cs).length=cs.length from ζ _,ψ]; omega
      ·refine ⟨_,_,rfl,s6.trans (aE.upd _ _ _),?_⟩
       rw [aa,tD xn]
       rfl
     rintro σ H6 ⟨o5,o6,rfl,s6,d6⟩
     rw [lz,ϛ] at d6
     have lf:(bK cs kj).length<=1:=by rcases qj hm with hn | ⟨x,hn⟩ <;> rw [hn] <;> simp
     refine ⟨_,_,_,_,_,rfl,s3.trans ((ad.b d (s4.trans s5)).trans s6),d6,?_,?_⟩
     ·rw [htj,bw,e3]
      show (match bJ ns cs kj with | none=>none | some c=>bp ns c [])=_
      unfold bJ
      rw [hm]; rfl
     ·rw [ς,ζ]; omega
   refine ⟨_,rfl,y,kj,rfl,Ry3,fun w1 Rw1=>⟨rfl,_,rfl,?_⟩⟩
   rcases vJ Rw1 with ⟨e,rfl⟩ | ⟨r,ds,e,ed,Rd⟩
   ·refine av ⟨Χ _,fun l hl=>gnm (nx _ _ ⟨l,[],rfl,ac hl _,hl,aa,?_⟩)⟩
    unfold bK
    rw [e]
    simp [Reps]
   ·have hw:w1≠.non:=fun z=>by subst z; simp only [Rep] at Rd; obtain ⟨_,_,z,_⟩:=Rd; cases z
    rw [show decide (w1=V.non)=false by simp [hw]]
    refine aA ⟨_,rfl,y,kj,rfl,Ry3,fun w2 Rw2=>⟨_,rfl,w2,d,r.1,r.2,cs,rfl,by rw [e] at Rw2; exact Rw2,dY kA kj hjm r.1 r.2 e,d3,fun H4 l zs s4 hl0 hl Rz'=>gnm (nx _ _ ⟨l,zs,rfl,s4,hl0,hl,?_⟩)⟩⟩
    unfold bK
    rw [e]
    exact Rz'
  rintro σ H3 ⟨o3,o4,o5,o6,cs,rfl,s3,d3,e3,l3⟩
  rw [lk,ϛ] at e3
  refine ⟨_,_,_,_,_,_,cs,rfl,fun x o e=>s3 x o (ae e hd) (s2 _ _ (s1 _ _ e)),d3,?_,by omega⟩
  rw [hti,ϴ,bw,e1]
  show bp ns bs (p.2.pts ++ [])=_
  rw [j9]; exact e3
 rintro σ H1 ⟨o1,o2,o3,o4,o5,o6,bs,rfl,s1,d1,e1,l1⟩
 rw [lu,ϛ] at e1
 refine ⟨_,rfl,d,_,rfl,d1,_,rfl,b,ws,rfl,.inr (SqT.of (s1 _ _ hb)),rfl,?_⟩
 have qq:=q H1 s1
 have e:iL ns ps=decide (V.int ((bdK bs).length:Nat)=V.int (ws.length:Nat)):=by
  unfold iL
  rw [e1,show (bdK bs).length=bs.length from ζ _,lw]
  show decide (bs.length=ns.length)=_
  by_cases z:bs.length=ns.length
  ·rw [decide_eq_true z,decide_eq_true (by rw [z])]
  ·rw [decide_eq_false z,decide_eq_false (fun y=>z (by injection y with y; omega))]
 exact e▸qq
end
abbrev dF:Stmt:=top 46
abbrev eS:Stmt:=top 47
abbrev dc:Stmt:=top 48
abbrev iY:Stmt:=top 49
def dJ:Dv->Bool
 | .tup ds=>gk 0 (.tup ds) && ds.all bn
 | _=>false
def cR:Dv->Bool
 | .tup [a,b]=>bn a && decide (aF b<=12)
 | _=>false
def cz:Dv->Bool
 | .tup ds=>gk 0 (.tup ds) && ds.all cR
 | _=>false
def exD (d:Dv):Bool:=decide (exN 8 d<=40)
def BO:List Dv->Bool
 | [e]=>exD e
 | _=>false
def dfD:List Dv->Bool
 | [a,b,c,e]=>eP a && (dJ b && (cz c && exD e))
 | _=>false
def be:Dv->Bool
 | .tup (.str x :: r)=>if x="ask" then BO r else decide (x="def") && dfD r
 | _=>false
theorem qy (e:Dv):be (.tup [.str "ask",e])=exD e:=by rw [be,if_pos rfl]; rfl
theorem le (a b c e:Dv):be (.tup [.str "def",a,b,c,e])=(eP a && (dJ b && (cz c && exD e))):=by
 have h:¬ η "def"=η "ask":=by decide +kernel
 rw [be,if_neg h,decide_eq_true rfl,ϓ]; rfl
theorem wF {d:Dv} (h:dO d=false):be d=false:=by
 match d,h with
 | .tup (.str x :: r),h=>cases h
 | .tup [],_=>rfl
 | .tup (.non :: r),_=>rfl
 | .tup (.bl _ :: r),_=>rfl
 | .tup (.int _ :: r),_=>rfl
 | .tup (.tup _ :: r),_=>rfl
 | .tup (.lst _ :: r),_=>rfl
 | .tup (.dct :: r),_=>rfl
 | .non,_=>rfl
 | .bl _,_=>rfl
 | .int _,_=>rfl
 | .str _,_=>rfl
 | .lst _,_=>rfl
 | .dct,_=>rfl
theorem sd {ds:List Dv} (h:∀ a b,ds≠[a,b]):cR (.tup ds)=false:=by
 match ds with
 | []=>rfl
 | [_]=>rfl
 | [a,b]=>exact absurd rfl (h a b)
 | _ :: _ :: _ :: _=>rfl
theorem qg {ds:List Dv} (h:gk 0 (.tup ds)=true):ds.length<=4:=by
 simp only [gk,Θ,decide_eq_true_eq] at h
 omega
section
variable {P:Β} {w:Ξ} {K:PySem.W.Frag} {mg:Str->Option δ} {base:Heap}
theorem kK:ap ["thing"] ["thing"] (ai dF):=⟨rfl,rfl,rfl,by decide +kernel,rfl,by decide +kernel,by decide +kernel⟩
theorem kE {f:Addr} {fd:Μ} {k:Nat} (F:Fun K "are_names" "are_names" dF f fd) (T:Txt K mg) (Dis_few:Def P w K mg base k "is_few" ["thing","least"] qr) (Dis_name:Def P w K mg base k "is_name" ["thing"] (spS bn)):aK P w K mg base CX0 (k + 1) f fd ["thing"] (spS dJ):=by
 refine F.ok kK (fun vs H Q E h=>?_) (fun cdv A outer s H vs Q E hr h=>?_)
 ·obtain ⟨v,d,rfl,_⟩:=h
  rfl
 obtain ⟨v,d,rfl,R,sm,q⟩:=h
 refine ⟨_,(@un _ _ _ (wbQ (wbK (wag (waq Dis_few hr rfl (wae (wv 0 rfl) (wae waC waf rfl) rfl) (by decide) rfl rfl) (waP (wal (fO rfl) rfl T.all (by decide +kernel) (wae (waE ["name"] [] (wbo (wv 0 rfl)) (.of rfl) rfl (fun _ _ _=>⟨pg_name (i:=0) (cc (l:=["name"]) ((by decide +kernel)) rfl) rfl (Λ rfl)⟩) (bD (by decide)) (fun _ _ _=>wbx) (fun _ _ _=>(waq Dis_name hr rfl (wae (wv 0 rfl) waf rfl) (by decide) rfl rfl)) (by intro _; rfl)) waf rfl) (by decide) (by decide) rfl rfl)))))),?_⟩
 refine ⟨_,rfl,v,d,0,rfl,R,fun H1 s1=>⟨_,rfl,?_⟩⟩
 have qq:=q H1 s1
 cases d with
 | tup ds=>
  have qd:∀ b H',ad H H'->(gk 0 (.tup ds) && ds.all bn)=b->Q (.bl b) H':=fun b H' s' e=>e▸q H' s'
  cases c0:gk 0 (.tup ds) with
  | false=>exact aA (qd _ H1 s1 (by rw [c0]; rfl))
  | true=>
   obtain ⟨a,us,rfl,ha,ru⟩:=Rep.tup_inv R
   have hl:=ru.length
   have l4:=qg c0
   refine av ⟨_,rfl,a,rfl,⟨us,SqT.of (s1 _ _ ha)⟩,gi (xs:=us) (fun i ys H'=>ad H H'/\ys=(ds.take i).map fun p=>V.bl (bn p)) ⟨s1,rfl⟩ (fun i ys H' _ p=>SqT.of (p.1 _ _ ha)) ?_ ?_⟩
   ·rintro i ys H2 x hx ⟨s2,rfl⟩
    obtain ⟨d,hd,Rd⟩:=ru.get hx
    have hi:=(π.mp hd).1
    refine bF ⟨_,rfl,x,d,rfl,Rd.mono s2,cq sm d (Α hd),fun H3 s3=>⟨?_,s2.trans s3,?_⟩⟩
    ·rw [ζ,Ρ,ψ]; omega
    ·rw [Ϡ,hd,ω]; rfl
   ·rintro ys H2 ⟨s2,rfl⟩ r hr'
    rw [hl,ϛ]
    refine ⟨r,ds.map bn,rfl,SqL.of (by rw [aa,ϋ]; rfl),?_⟩
    exact qd _ _ (s2.trans (ac hr' _)) (by rw [c0,u9]; rfl)
 | _=>exact aA qq
theorem mx:ap ["thing"] ["thing"] (ai eS):=⟨rfl,rfl,rfl,by decide +kernel,rfl,by decide +kernel,by decide +kernel⟩
theorem lO {f:Addr} {fd:Μ} {k:Nat} (F:Fun K "is_param" "is_param" eS f fd) (T:Txt K mg) (Dis_name:Def P w K mg base k "is_name" ["thing"] (spS bn)) (Dis_kind:Def P w K mg base k "is_kind" ["thing"] iA):aK P w K mg base CX0 (k + 1) f fd ["thing"] (spS cR):=by
 refine F.ok mx (fun vs H Q E h=>?_) (fun cdv A outer s H vs Q E hr h=>?_)
 ·obtain ⟨v,d,rfl,_⟩:=h
  rfl
 obtain ⟨v,d,rfl,R,sm,q⟩:=h
 refine ⟨_,(@un _ _ _ (wbQ (wbK (wag (wal bo rfl T.isinstance (by decide +kernel) (wae (wv 0 rfl) (wae (wai (.ty "tuple") rfl T.tuple (by decide +kernel) rfl (by decide) (by decide)) waf rfl) rfl) (by decide) (by decide) rfl rfl) (wag (wap aG (wal aq rfl T.len (by decide +kernel) (wae (wv 0 rfl) waf rfl) (by decide) (by decide) rfl rfl) waC (ak _)) (wag (waq Dis_name hr rfl (wae (waD ao (wv 0 rfl) waC (fun _ _=>rfl)) waf rfl) (by decide) rfl rfl) (waP (waq Dis_kind hr rfl (wae (waD ao (wv 0 rfl) waC (fun _ _=>rfl)) waf rfl) (by decide) rfl rfl)))))))),?_⟩
 refine ⟨_,rfl,v,_,_,_,rfl,R.ty,cj K d,_,rfl,?_⟩
 have qq:=q H (ad.refl H)
 cases d with
 | tup ds=>
  obtain ⟨a,vs,rfl,ha,rs⟩:=Rep.tup_inv R
  have hl:=rs.length
  refine av ⟨_,rfl,a,vs,rfl,.inr (SqT.of ha),rfl,_,rfl,?_⟩
  rcases pB ds with ⟨d0,d1,rfl⟩ | no
  ·obtain ⟨x,y,rfl,R0,R1⟩:=Reps.two rs
   obtain ⟨z0,z1⟩:=kq sm
   have qe:∀ c H',ad H H'->(bn d0 && decide (aF d1<=12))=c->Q (.bl c) H':=fun c H' s1 e=>e▸q H' s1
   refine av ⟨_,rfl,a,_,0,x,rfl,rfl,SqT.of ha,af (j:=0) rfl,x,d0,rfl,R0,z0,fun H1 s1=>⟨_,rfl,?_⟩⟩
   cases c0:bn d0 with
   | false=>exact aA (qe _ H1 s1 (by rw [c0]; rfl))
   | true=>exact av ⟨_,rfl,a,_,1,y,rfl,rfl,SqT.of (s1 _ _ ha),af (j:=1) rfl,y,d1,rfl,R1.mono s1,z1,fun H2 s2=>qe _ H2 (s1.trans s2) (by rw [c0]; rfl)⟩
  ·have hn:¬ (V.int ((vs.length:Nat):Int)=V.int 2):=fun e=>kr no (by injection e with e; omega)
   rw [decide_eq_false hn]
   rw [sd no] at qq
   exact aA qq
 | _=>exact aA qq
theorem jn:ap ["thing"] ["thing"] (ai dc):=⟨rfl,rfl,rfl,by decide +kernel,rfl,by decide +kernel,by decide +kernel⟩
theorem jc {f:Addr} {fd:Μ} {k:Nat} (F:Fun K "are_params" "are_params" dc f fd) (T:Txt K mg) (Dis_few:Def P w K mg base k "is_few" ["thing","least"] qr) (Dis_param:Def P w K mg base k "is_param" ["thing"] (spS cR)):aK P w K mg base CX0 (k + 1) f fd ["thing"] (spS cz):=by
 refine F.ok jn (fun vs H Q E h=>?_) (fun cdv A outer s H vs Q E hr h=>?_)
 ·obtain ⟨v,d,rfl,_⟩:=h
  rfl
 obtain ⟨v,d,rfl,R,sm,q⟩:=h
 refine ⟨_,(@un _ _ _ (wbQ (wbK (wag (waq Dis_few hr rfl (wae (wv 0 rfl) (wae waC waf rfl) rfl) (by decide) rfl rfl) (waP (wal (fO rfl) rfl T.all (by decide +kernel) (wae (waE ["param"] [] (wbo (wv 0 rfl)) (.of rfl) rfl (fun _ _ _=>⟨pg_name (i:=0) (cc (l:=["param"]) ((by decide +kernel)) rfl) rfl (Λ rfl)⟩) (bD (by decide)) (fun _ _ _=>wbx) (fun _ _ _=>(waq Dis_param hr rfl (wae (wv 0 rfl) waf rfl) (by decide) rfl rfl)) (by intro _; rfl)) waf rfl) (by decide) (by decide) rfl rfl)))))),?_⟩
 refine ⟨_,rfl,v,d,0,rfl,R,fun H1 s1=>⟨_,rfl,?_⟩⟩
 have qq:=q H1 s1
 cases d with
 | tup ds=>
  have qd:∀ b H',ad H H'->(gk 0 (.tup ds) && ds.all cR)=b->Q (.bl b) H':=fun b H' s' e=>e▸q H' s'
  cases c0:gk 0 (.tup ds) with
  | false=>exact aA (qd _ H1 s1 (by rw [c0]; rfl))
  | true=>
   obtain ⟨a,us,rfl,ha,ru⟩:=Rep.tup_inv R
   have hl:=ru.length
   have l4:=qg c0
   refine av ⟨_,rfl,a,rfl,⟨us,SqT.of (s1 _ _ ha)⟩,gi (xs:=us) (fun i ys H'=>ad H H'/\ys=(ds.take i).map fun p=>V.bl (cR p)) ⟨s1,rfl⟩ (fun i ys H' _ p=>SqT.of (p.1 _ _ ha)) ?_ ?_⟩
   ·rintro i ys H2 x hx ⟨s2,rfl⟩
    obtain ⟨d,hd,Rd⟩:=ru.get hx
    have hi:=(π.mp hd).1
    refine bF ⟨_,rfl,x,d,rfl,Rd.mono s2,cq sm d (Α hd),fun H3 s3=>⟨?_,s2.trans s3,?_⟩⟩
    ·rw [ζ,Ρ,ψ]; omega
    ·rw [Ϡ,hd,ω]; rfl
   ·rintro ys H2 ⟨s2,rfl⟩ r hr'
    rw [hl,ϛ]
    refine ⟨r,ds.map cR,rfl,SqL.of (by rw [aa,ϋ]; rfl),?_⟩
    exact qd _ _ (s2.trans (ac hr' _)) (by rw [c0,u9]; rfl)
 | _=>exact aA qq
theorem rP:ap ["thing"] ["thing"] (ai iY):=⟨rfl,rfl,rfl,by decide +kernel,rfl,by decide +kernel,by decide +kernel⟩
theorem rJ {f:Addr} {fd:Μ} {k:Nat} (F:Fun K "is_row" "is_row" iY f fd) (T:Txt K mg) (Dhas_word:Def P w K mg base k "has_word" ["thing"] (spD dO)) (Dis_expression:Def P w K mg base k "is_expression" ["thing"] nE) (Dis_def_name:Def P w K mg base k "is_def_name" ["thing"] (spS eP)) (Dare_names:Def P w K mg base k "are_names" ["thing"] (spS dJ)) (Dare_params:Def P w K mg base k "are_params" ["thing"] (spS cz)):aK P w K mg base CX0 (k + 1) f fd ["thing"] (spS be):=by
 refine F.ok rP (fun vs H Q E h=>?_) (fun cdv A outer s H vs Q E hr h=>?_)
 ·obtain ⟨v,d,rfl,_⟩:=h
  rfl
 obtain ⟨v,d,rfl,R,sm,q⟩:=h
 refine ⟨_,(@un _ _ _ (wbO (wbI (wbT (wbV (waq Dhas_word hr rfl (wae (wv 0 rfl) waf rfl) (by decide) rfl rfl) (by intro _; rfl))) (wbQ (wbK wah)) wbP) (wbO (wbI (wbS aG (waD ao (wv 0 rfl) waC (fun _ _=>rfl)) waV (ak _)) (wbQ (wbK (wag (wap aG (wal aq rfl T.len (by decide +kernel) (wae (wv 0 rfl) waf rfl) (by decide) (by decide) rfl rfl) waC (ak _)) (waP (waq Dis_expression hr rfl (wae (waD ao (wv 0 rfl) waC (fun _ _=>rfl)) waf rfl) (by decide) rfl rfl))))) wbP) (wbO (wbI (wab (wbY (wbS fE (waD ao (wv 0 rfl) waC (fun _ _=>rfl)) waV (ak _)) (wbZ (wbS fE (wal aq rfl T.len (by decide +kernel) (wae (wv 0 rfl) waf rfl) (by decide) (by decide) rfl rfl) waC (ak _))))) (wbQ (wbK wah)) wbP) (wbQ (wbK (wag (waq Dis_def_name hr rfl (wae (waD ao (wv 0 rfl) waC (fun _ _=>rfl)) waf rfl) (by decide) rfl rfl) (wag (waq Dare_names hr rfl (wae (waD ao (wv 0 rfl) waC (fun _ _=>rfl)) waf rfl) (by decide) rfl rfl) (wag (waq Dare_params hr rfl (wae (waD ao (wv 0 rfl) waC (fun _ _=>rfl)) waf rfl) (by decide) rfl rfl) (waP (waq Dis_expression hr rfl (wae (waD ao (wv 0 rfl) waC (fun _ _=>rfl)) waf rfl) (by decide) rfl rfl))))))))))),?_⟩
 refine ⟨_,rfl,v,d,rfl,R,fun H1 s1=>⟨_,rfl,?_⟩⟩
 cases c0:dO d with
 | false=>
  refine av ?_
  have:=q H1 s1
  rwa [wF c0] at this
 | true=>
  refine aA ?_
  obtain ⟨x,r,rfl⟩:=eX c0
  obtain ⟨a,vs,rfl,ha,rs⟩:=Rep.tup_inv (R.mono s1)
  simp only [Reps] at rs
  obtain ⟨y,us,rfl,R0,ru⟩:=rs
  obtain rfl:y=.str x:=R0
  have hl:=ru.length
  have sr:∀ d∈r,d.small=true:=fun d hd=>cq sm d (ο _ hd)
  have qd:∀ b H',ad H1 H'->be (.tup (.str x :: r))=b->Q (.bl b) H':=fun b H' s' e=>e▸q H' (s1.trans s')
  refine ⟨_,rfl,a,_,0,.str x,rfl,rfl,SqT.of ha,af (j:=0) rfl,rfl,_,rfl,?_⟩
  show if decide (V.str x=V.str "ask")=true then _ else _
  rw [br]
  by_cases h1:x="ask"
  ·subst h1
   rw [decide_eq_true rfl]
   refine av ⟨_,rfl,a,_,rfl,.inr (SqT.of ha),rfl,_,rfl,?_⟩
   show if decide (V.int _=V.int ((2:Nat):Int))=true then _ else _
   rw [eh (x:=.str "ask") hl 1 2 rfl]
   by_cases z:r.length=1
   ·rw [decide_eq_true z]
    match r,us,z,ru,sr,qd with
    | [e],us,_,ru,sr,qd=>
     simp only [Reps] at ru
     obtain ⟨u,rest,rfl,Ru,rfl⟩:=ru
     exact av ⟨_,rfl,a,_,1,u,rfl,rfl,SqT.of ha,af (j:=1) rfl,u,e,rfl,Ru,sr e Ε,fun H2 s2=>qd _ H2 s2 (qy e)⟩
   ·rw [decide_eq_false z]
    refine aA (qd _ H1 (ad.refl _) ?_)
    rw [be,if_pos rfl]
    match r,z with
    | [],_=>rfl
    | [e],z=>exact absurd rfl z
    | _ :: _ :: _,_=>rfl
  rw [decide_eq_false h1]
  refine aA ⟨_,rfl,a,_,0,.str x,rfl,rfl,SqT.of ha,af (j:=0) rfl,rfl,_,rfl,?_⟩
  show if (!decide (V.str x=V.str "def"))=true then _ else _
  rw [br]
  by_cases h2:x="def"
  ·subst h2
   rw [decide_eq_true rfl]
   refine aA ⟨_,rfl,a,_,rfl,.inr (SqT.of ha),rfl,_,rfl,?_⟩
   show if (!decide (V.int _=V.int ((5:Nat):Int)))=true then _ else _
   rw [eh (x:=.str "def") hl 4 5 rfl]
   by_cases z:r.length=4
   ·rw [decide_eq_true z]
    match r,us,z,ru,sr,qd with
    | [d1,d2,d3,d4],us,_,ru,sr,qd=>
     simp only [Reps] at ru
     obtain ⟨u1,_,rfl,R1,u2,_,rfl,R2,u3,_,rfl,R3,u4,_,rfl,R4,rfl⟩:=ru
     have qf:∀ b H',ad H1 H'->(eP d1 && (dJ d2 && (cz d3 && exD d4)))=b->Q (.bl b) H':=fun b H' s' e=>qd b H' s' ((le _ _ _ _).trans e)
     refine aA ⟨_,rfl,a,_,1,u1,rfl,rfl,SqT.of ha,af (j:=1) rfl,u1,d1,rfl,R1,sr d1 (by simp),fun H2 s2=>⟨_,rfl,?_⟩⟩
     cases c1:eP d1 with
     | false=>exact aA (qf _ H2 s2 (by rw [c1]; rfl))
     | true=>
      refine av ⟨_,rfl,a,_,2,u2,rfl,rfl,SqT.of (s2 _ _ ha),af (j:=2) rfl,u2,d2,rfl,R2.mono s2,sr d2 (by simp),fun H3 s3=>⟨_,rfl,?_⟩⟩
      cases c2:dJ d2 with
      | false=>exact aA (qf _ H3 (s2.trans s3) (by rw [c1,c2]; rfl))
      | true=>
       refine av ⟨_,rfl,a,_,3,u3,rfl,rfl,SqT.of (s3 _ _ (s2 _ _ ha)),af (j:=3) rfl,u3,d3,rfl,R3.mono (s2.trans s3),sr d3 (by simp),fun H4 s4=>⟨_,rfl,?_⟩⟩
       cases c3:cz d3 with
       | false=>exact aA (qf _ H4 (s2.trans (s3.trans s4)) (by rw [c1,c2,c3]; rfl))
       | true=>exact av ⟨_,rfl,a,_,4,u4,rfl,rfl,SqT.of (s4 _ _ (s3 _ _ (s2 _ _ ha))),af (j:=4) rfl,u4,d4,rfl,R4.mono (s2.trans (s3.trans s4)),sr d4 (by simp),fun H5 s5=>qf _ H5 (s2.trans (s3.trans (s4.trans s5))) (by rw [c1,c2,c3]; rfl)⟩
   ·rw [decide_eq_false z]
    refine av (qd _ H1 (ad.refl _) ?_)
    rw [be,if_neg h1,decide_eq_true rfl,ϓ]
    match r,z with
    | [],_=>rfl
    | [_],_=>rfl
    | [_,_],_=>rfl
    | [_,_,_],_=>rfl
    | [_,_,_,_],z=>exact absurd rfl z
    | _ :: _ :: _ :: _ :: _ :: _,_=>rfl
  rw [decide_eq_false h2]
  refine av (av (qd _ H1 (ad.refl _) ?_))
  rw [be,if_neg h1,decide_eq_false h2]; rfl
end
abbrev eI:Stmt:=top 50
abbrev dC:Stmt:=top 54
abbrev dN:Stmt:=top 55
abbrev cZ:Stmt:=top 56
abbrev gq:Stmt:=top 57
theorem qR:∀ {ys:List Str},¬ ys.Nodup->∃ zs:List Str,zs.length < ys.length/\∀ x∈ys,x∈zs
 | [],h=>absurd List.nodup_nil h
 | y :: ys,h=>by
  by_cases hy:y∈ys
  ·exact ⟨ys,B9 _,fun x hx=>by rcases θ.mp hx with rfl | hx; exact hy; exact hx⟩
  ·obtain ⟨zs,h1,h2⟩:=qR (ys:=ys) fun z=>h (ϱ.mpr ⟨hy,z⟩)
   exact ⟨y :: zs,Nat.succ_lt_succ h1,fun x hx=>by
    rcases θ.mp hx with rfl | hx
    ·exact Ε
    ·exact ο _ (h2 x hx)⟩
theorem uh {zs ys:List Str} (nd:zs.Nodup) (h:∀ x,x∈zs↔x∈ys):decide ((zs.length:Int) < (ys.length:Int))=!decide ys.Nodup:=by
 by_cases n:ys.Nodup
 ·have:=C5 ys zs n fun x hx=>(h x).mpr hx
  rw [decide_eq_true n,decide_eq_false (by omega)]; rfl
 ·obtain ⟨xs,h1,h2⟩:=qR n
  have:=C5 zs xs nd fun x hx=>h2 x ((h x).mp hx)
  rw [decide_eq_false n,decide_eq_true (by omega)]; rfl
def rm (K:PySem.W.Frag):Sp:=fun vs H Q _=>∃ (l:Addr) (ys:List Str),vs=[.ref l]/\(SqL K H l (ys.map V.str)\/SqT K H l (ys.map V.str))/\ys.length<=1000/\∀ H',ad H H'->Q (.bl (!decide ys.Nodup)) H'
inductive Rw where
 | ask (e:Dv)
 | df (f:Str) (ns:List Str) (ps:List Prm) (e:Dv)
def Rw.dv:Rw->Dv
 | .ask e=>.tup [.str "ask",e]
 | .df f ns ps e=>.tup [.str "def",.str f,.tup (ns.map Dv.str),.tup (ps.map cP),e]
def Rw.f?:Rw->List Str
 | .ask _=>[]
 | .df f _ _ _=>[f]
def Rw.Ok:Rw->Prop
 | .ask _=>True
 | .df _ ns ps _=>ns.Nodup/\(ps.map (·.1)).Nodup/\iL ns ps=true/\ns.length<=4/\ps.length<=4/\∀ p∈ps,p.2.size<=12/\p.2.All L40
structure zG (rs:List Rw):Prop where
 len:rs.length<=12
 row:∀ r∈rs,be r.dv=true/\r.dv.small=true
 ok:∀ r∈rs,r.Ok
 nd:(rs.flatMap Rw.f?).Nodup
theorem qZ:¬ (V.str (η "ask")=V.str (η "def")):=wne (by decide +kernel)
theorem Rw.inv {H:Hp} {r:Rw} {v:V} (R:Rep H r.dv v):∃ a,v=.ref a/\match r with
  | .ask _=>∃ u,H a=some (.tup [.str "ask",u])
  | .df f ns ps _=>∃ b c u,H a=some (.tup [.str "def",.str f,.ref b,.ref c,u])/\Rep H (.tup (ns.map Dv.str)) (.ref b)/\Rep H (.tup (ps.map cP)) (.ref c):=by
 cases r with
 | ask e=>
  obtain ⟨a,vs,rfl,ha,rs⟩:=Rep.tup_inv (show Rep H (.tup [.str "ask",e]) v from R)
  obtain ⟨x,y,rfl,r1,r2⟩:=Reps.two rs
  simp only [Rep] at r1
  subst r1
  exact ⟨a,rfl,y,ha⟩
 | df f ns ps e=>
  obtain ⟨a,vs,rfl,ha,rs⟩:=Rep.tup_inv (show Rep H (.tup [.str "def",.str f,.tup (ns.map Dv.str),.tup (ps.map cP),e]) v from R)
  simp only [Reps] at rs
  obtain ⟨u1,_,rfl,R1,u2,_,rfl,R2,u3,_,rfl,R3,u4,_,rfl,R4,u5,_,rfl,R5,rfl⟩:=rs
  simp only [Rep] at R1 R2
  subst R1; subst R2
  obtain ⟨b,_,rfl,_⟩:=Rep.tup_inv R3
  obtain ⟨c,_,rfl,_⟩:=Rep.tup_inv R4
  exact ⟨a,rfl,b,c,u5,ha,R3,R4⟩
theorem cU {H:Hp}:∀ {ns:List Str} {ws:List V},Reps H (ns.map Dv.str) ws->ws=ns.map V.str
 | [],ws,h=>by simpa only [ϡ,Reps] using h
 | n :: ns,ws,h=>by
  simp only [Ο,Reps] at h
  obtain ⟨v,r,rfl,h1,h2⟩:=h
  simp only [Rep] at h1
  rw [h1,cU h2]; rfl
theorem ad.seqT {K:PySem.W.Frag} {H H':Hp} {a:Addr} {xs:List V} (e:ad H H') (h:SqT K H a xs):SqT K H' a xs:=by
 rcases h with h | h
 ·exact .inl (h.imp (fun z=>e _ _ z) fun ⟨o,z⟩=>⟨o,e _ _ z⟩)
 ·exact .inr h
section
variable {P:Β} {w:Ξ} {K:PySem.W.Frag} {mg:Str->Option δ} {base:Heap}
theorem mO:ap ["things"] ["things"] (ai eI):=⟨rfl,rfl,rfl,by decide +kernel,rfl,by decide +kernel,by decide +kernel⟩
theorem nJ {f:Addr} {fd:Μ} (F:Fun K "is_twice" "is_twice" eI f fd) (T:Txt K mg):aK P w K mg base CX0 1 f fd ["things"] (rm K):=by
 refine F.ok mO (fun vs H Q E h=>?_) (fun cdv A outer s H vs Q E hr h=>?_)
 ·obtain ⟨l,ys,rfl,_⟩:=h
  rfl
 obtain ⟨l,ys,rfl,hs,hl,q⟩:=h
 refine ⟨_,(@un _ _ _ (wbQ (wbK (wap uB (wal sV rfl T.len (by decide +kernel) (wae (wam (sK rfl) rfl T.set (by decide +kernel) (wae (wv 0 rfl) waf rfl) (by decide) (by decide) rfl rfl) waf rfl) (by decide) (by decide) rfl rfl) (wal aq rfl T.len (by decide +kernel) (wae (wv 0 rfl) waf rfl) (by decide) (by decide) rfl rfl) (ak _))))),?_⟩
 refine ⟨_,rfl,l,ys,rfl,hs,hl,fun a zs ha nd mz lz=>⟨a,zs,rfl,aa,?_⟩⟩
 have s1:=ac ha (SetO P w a zs)
 have hs1:SqL K (upd H a (SetO P w a zs)) l (ys.map V.str)\/SqT K (upd H a (SetO P w a zs)) l (ys.map V.str):=hs.imp (fun h=>s1.seq h) (fun h=>ad.seqT s1 h)
 refine ⟨_,rfl,l,_,rfl,hs1,_,_,rfl,rfl,?_⟩
 show Q (.bl (decide ((zs.length:Int) < ((ys.map V.str).length:Nat)))) _
 rw [ζ,uh nd mz]
 exact q _ s1
end
abbrev cS:Stmt:=top 62
def Xp (h c:Nat) (d:Dv):Prop:=d.small=true/\∀ m,h < m->exN m d<=c
theorem uE {c:Nat}:∀ {l:List Nat},(∀ x∈l,x<=c)->l.sum<=l.length * c
 | [],_=>by simp
 | x :: l,h=>by
  have h1:=h x Ε
  have h2:=uE (l:=l) fun y hy=>h y (ο _ hy)
  rw [CO,Υ,Nat.succ_mul]; omega
theorem uf:∀ p∈WT,(Dv.str p.1).small=true:=by decide +kernel
theorem eA (x z:String) (ss:List So) (hp:((η x,η z,ss):Wd)∈WT) {ds:List Dv} (hok:okF ss ds=true) (hf:(decide (η x≠"fold") || kc ds)=true) (hsm:∀ d∈ds,d.small=true) {h c k:Nat} (hall:∀ e∈bc ss ds,Xp h c e) (hk:(bc ss ds).length<=k):Xp (h + 1) (1 + k * c) (.tup (.str x :: ds)):=by
 have hl:=lJ hok
 have hn:dw (.tup (.str x :: ds))=true:=by rw [show (Dv.str (η x))=.str ((η x,η z,ss):Wd).1 from rfl,fv hp,hok,hf]; rfl
 have l9:ss.length<=9:=(by decide +kernel:∀ p∈WT,p.2.2.length<=9) _ hp
 refine ⟨aY (fun d hd=>?_) (by rw [Υ]; omega),fun m hm=>?_⟩
 ·rcases θ.mp hd with rfl | hd
  ·exact uf _ hp
  ·exact hsm d hd
 ·obtain ⟨m,rfl⟩:∃ j,m=j + 1:=⟨m - 1,by omega⟩
  have e1:exN (m + 1) (.tup (.str x :: ds))=1 + ((bN (.tup (.str x :: ds))).map (exN m)).sum:=by show (if dw _=true then _ else _)=_; rw [hn]; rfl
  rw [e1,show bN (.tup (.str x :: ds))=bc ss ds from XB.parts_of hp ds]
  have h1:=uE (c:=c) (l:=(bc ss ds).map (exN m)) fun y hy=>by
   obtain ⟨e,he,rfl⟩:=Δ.mp hy
   exact (hall e he).2 m (by omega)
  rw [ζ] at h1
  have h2:=Nat.mul_le_mul_right c hk
  omega
theorem tG {h c:Nat} {d:Dv} (x:Xp h c d) (a:h<=7) (b:c<=40):exD d=true:=decide_eq_true (ϔ (x.2 8 (by omega)) b)
theorem cp {x:Str} (h:nmB x=true):(Dv.str x).small=true:=by
 simp only [Dv.small]; exact decide_eq_true (by have:=(kP h).2; omega)
theorem Ad {x y:Str} (h:zB x) (hy:(y.cps.toList.drop 1).all (fun c=>decide (c≠122))=true):y≠x:=fun e=>by
 subst e
 obtain ⟨j,hj,hz⟩:=h
 have hm:(122:Nat)∈y.cps.toList.drop 1:=by
  refine Α (i:=j - 1) ?_
  rw [List.getElem?_drop,show 1 + (j - 1)=j by omega]
  exact hz
 have:=Ϯ.mp hy 122 hm
 simp at this
theorem noz:∀ p∈WT,(p.1.cps.toList.drop 1).all (fun c=>decide (c≠122))=true:=by decide +kernel
theorem Bh:∀ x∈vK,(x.cps.toList.drop 1).all (fun c=>decide (c≠122))=true:=by decide +kernel
theorem At {x:Str} (hn:nmB x=true) (hz:zB x):eP (.str x)=true:=by
 have h1:dj x=false:=by
  unfold dj
  rw [Cp]
  intro p hp
  simpa using Ad hz (noz p hp)
 have h2:gL x=false:=by
  unfold gL inV
  rw [Cp]
  intro y hy
  obtain ⟨z,hz',rfl⟩:=Δ.mp hy
  have:=Ad hz (Bh z hz')
  simpa [eqV] using this
 show (nmB x && (!dj x && !gL x))=true
 rw [hn,h1,h2]
 rfl
section
variable {σ:St} {H:Hp} {ds:List Dv} {ta ti:TE} {d:Dv}
theorem ko {i:Int} (h:∀ H1 (Q:VK),Q (.int i) H1->ta σ H1 Q):fY ta σ H (.int i):=fun H1 _ Q q=>h H1 Q (q H1 _ (ad.refl _) (by simp [Rep]))
theorem gZ {K:PySem.W.Frag} {i:Nat} {r:Addr} {xs:List Str} {y:Str} {j:Int} (hv:σ[i]?=some (some (.ref r))) (hr:H r=some (.lst (xs.map V.str))) (hi:∀ H1 (Q:VK),Q (.int j) H1->ti σ H1 Q) (h0:0<=j) (hy:xs[j.toNat]?=some y):fY (tOp (oM K) (fw i) ti) σ H (.str y):=fun H1 s Q q=>
 ⟨_,hv,hi H1 _ ⟨r,_,j,.str y,rfl,rfl,SqL.of (s _ _ hr),by
  have:=af (show (xs.map V.str)[j.toNat]?=some (V.str y) by rw [Κ,hy]; rfl)
  rwa [show ((j.toNat:Nat):Int)=j by omega] at this,q H1 _ (ad.refl _) (by simp only [Rep])⟩⟩
theorem rV {K:PySem.W.Frag} {ys:List Str} {y:Str} {j:Int} (h:fY ta σ H (.lst (ys.map Dv.str))) (hi:∀ H1 (Q:VK),Q (.int j) H1->ti σ H1 Q) (h0:0<=j) (hy:ys[j.toNat]?=some y):fY (tOp (oM K) ta ti) σ H (.str y):=fun H1 s Q q=>
 h H1 s _ fun H2 v s2 R=>hi H2 _ (by
  rw [Rep] at R
  obtain ⟨a,us,rfl,ha,ru⟩:=R
  have e:us=ys.map V.str:=cU ru
  subst e
  exact ⟨a,_,j,.str y,rfl,rfl,SqL.of ha,by
   have:=af (show (ys.map V.str)[j.toNat]?=some (V.str y) by rw [Κ,hy]; rfl)
   rwa [show ((j.toNat:Nat):Int)=j by omega] at this,q H2 _ s2 (by simp only [Rep])⟩)
theorem lV {α:Type} (k:Nat) (v:α):(χ k [v]).flatten=χ k v:=by
 induction k with
 | zero=>rfl
 | succ k ih=>rw [d_,A7,ih]; rfl
theorem nu {v:V} (R:Rep H d v):∀ k:Nat,Reps H (χ k d) (χ k v)
 | 0=>by simp [Reps]
 | k + 1=>by rw [d_,d_,Reps]; exact ⟨v,_,rfl,R,nu R k⟩
theorem uw {K:PySem.W.Frag} {j:Int} (h:fY ta σ H (.tup [d])) (hi:∀ H1 (Q:VK),Q (.int j) H1->ti σ H1 Q) (h0:0<=j) (h1:j<=1000):fY (tOp (yy K) ta ti) σ H (.tup (χ j.toNat d)):=fun H1 s Q q=>
 h H1 s _ fun H2 v s2 R=>hi H2 _ (by
  rw [Rep] at R
  obtain ⟨a,us,rfl,ha,ru⟩:=R
  simp only [Reps] at ru
  obtain ⟨u,_,rfl,Ru,rfl⟩:=ru
  refine ⟨a,j,[u],rfl,rfl,SqT.of ha,by simp,h0,h1,by simp; omega,fun e=>?_,fun e p hp=>?_⟩
  ·subst e
   exact q H2 _ s2 (by rw [Rep]; exact ⟨a,[u],rfl,ha,by simp only [Int.toNat_one,List.replicate_one,Reps]; exact ⟨u,_,rfl,Ru,rfl⟩⟩)
  ·have s3:=ac hp (.tup (χ j.toNat [u]).flatten)
   exact q _ _ (s2.trans s3) (by rw [Rep]; exact ⟨p,_,rfl,aa,(lV j.toNat u).symm▸nu (Ru.mono s3) _⟩))
end
def pX:Sp:=fun vs H Q _=>∃ (a r:Addr) (n:Nat) (xs:List Str),vs=[.ref a,.ref r]/\Dr H a n/\H r=some (.lst (xs.map V.str))/\r≠a/\Nms xs/\∀ (H':Hp) (v:V) (d:Dv),aE a H H'->Dr H' a (n - 1 - 1)->Rep H' d v->exD d=true->d.small=true->L2.Pl 8 d->Q v H'
theorem jo {n:Nat} {ds:List Dv} (h:∀ d∈ds,L2.Pl n d):L2.Pl (n + 1) (.tup ds):=.tup h
section
variable {P:Β} {w:Ξ} {K:PySem.W.Frag} {mg:Str->Option δ} {base:Heap}
theorem eC:ap ["_law_draws_here","_law_names_here","_law_cell","_law_more","_law_x","_law_way"] ["_law_draws_here","_law_names_here"] (ai cS):=⟨rfl,rfl,rfl,by decide +kernel,rfl,by decide +kernel,by decide +kernel⟩
theorem jf {f:Addr} {fd:Μ} {k:Nat} (F:Fun K "_law_expression" "_law_expression" cS f fd) (T:Txt K mg) (D_law_next:Def P w K mg base k "_law_next" ["_law_draws_here"] eQ):aK P w K mg base CX0 (k + 1) f fd ["_law_draws_here","_law_names_here"] pX:=by
 have nd:(["_law_draws_here","_law_names_here","_law_cell","_law_more","_law_x","_law_way"]:List Str).Nodup:=eC.nd
 refine F.ok eC (fun vs H Q E h=>?_) (fun cdv A outer s H vs Q E hr h=>?_)
 ·obtain ⟨a,r,n,xs,rfl,_⟩:=h
  rfl
 obtain ⟨a,r,n,xs,rfl,hD,hR,ra,nms,q⟩:=h
 have p12:wp 10 12:=⟨by decide,by decide,by decide⟩
 have lx:=nms.len
 have pick:∀ j:Int,0<=j->j < 5->∃ y,xs[j.toNat]?=some y/\y∈xs:=fun j h0 h1=>by
  have hlt:j.toNat < xs.length:=by omega
  exact ⟨xs[j.toNat],Ζ hlt,k8 hlt⟩
 refine ⟨_,(@un _ _ _ (wbO (wbM 2 nd rfl (Λ rfl) (waq D_law_next hr rfl (wae (wv 0 rfl) waf rfl) (by decide) rfl rfl) rfl (by trivial)) (wbO (wbM 3 nd rfl (Λ rfl) (waq D_law_next hr rfl (wae (wv 0 rfl) waf rfl) (by decide) rfl rfl) rfl (by trivial)) (wbO (wbM 4 nd rfl (Λ rfl) (waX (wae waV (wae (waD aH (wv 1 rfl) (waQ aB (waQ bC (wv 2 rfl) waC) waC) (fun _ _=>rfl)) waf rfl) rfl)) rfl (by trivial)) (wbO (wbM 5 nd rfl (Λ rfl) (waQ aB (wv 2 rfl) waC) rfl (by trivial)) (wbO (wbI (wbS aG (wv 5 rfl) waC (ak _)) (wbQ (wbK (wv 4 rfl))) wbP) (wbO (wbI (wbS aG (wv 5 rfl) waC (ak _)) (wbQ (wbK (waX (wae waV (wae (waQ aB (wv 3 rfl) (waQ kT waC waC)) waf rfl) rfl)))) wbP) (wbO (wbI (wbS aG (wv 5 rfl) waC (ak _)) (wbQ (wbK (waX (wae waV (wae (waX (wae (waQ aB (wv 3 rfl) waC) (wae (waX (wae (waX (wae (waD aH (wv 1 rfl) (waQ aB (waQ bC (wv 3 rfl) waC) waC) (fun _ _=>rfl)) (wae (waQ bE waC (waQ aB (waQ bC (wv 3 rfl) waC) waC)) waf rfl) rfl)) waf rfl)) waf rfl) rfl)) waf rfl) rfl)))) wbP) (wbO (wbI (wbS aG (wv 5 rfl) waC (ak _)) (wbQ (wbK (waX (wae waV (wae (waD aH (waM (wae waV (wae waV waf rfl) rfl)) (waQ aB (wv 3 rfl) waC) (fun _ _=>rfl)) (wae (wv 4 rfl) (wae (wv 4 rfl) waf rfl) rfl) rfl) rfl)))) wbP) (wbO (wbI (wbS aG (wv 5 rfl) waC (ak _)) (wbQ (wbK (waX (wae waV (wae (waD aH (wv 1 rfl) (waQ aB (wv 3 rfl) waC) (fun _ _=>rfl)) (wae (waQ wm (waX (wae (wv 4 rfl) waf rfl)) (waQ aB (waQ bC (wv 3 rfl) waC) waC)) waf rfl) rfl) rfl)))) wbP) (wbO (wbI (wbS aG (wv 5 rfl) waC (ak _)) (wbQ (wbK (waX (wae waV (wae (waD aH (wv 1 rfl) (waQ aB (wv 3 rfl) waC) (fun _ _=>rfl)) (wae (waX (wae (waQ aB (waQ bC (wv 3 rfl) waC) waC) (wae (waX waf) waf rfl) rfl)) (wae (waX (wae waV (wae (wv 4 rfl) (wae (wv 4 rfl) waf rfl) rfl) rfl)) waf rfl) rfl) rfl) rfl)))) wbP) (wbQ (wbK (waX (wae waV (wae (waX (wae waV waf rfl)) waf rfl) rfl))))))))))))))),?_⟩
 refine ⟨_,rfl,a,n,rfl,hD,fun H1 c s1 D1 c0 c1=>?_⟩
 refine ⟨_,rfl,a,n - 1,rfl,D1,fun H2 m s2 D2 m0 m1=>?_⟩
 have r2:=(s1.trans s2) _ _ ra hR
 obtain ⟨b0,b1⟩:=aN (a:=c / 7) 5 (by decide)
 obtain ⟨y,hy,my⟩:=pick _ b0 b1
 have ny:=nms.nm y my
 have q2:∀ (H':Hp) (v:V) (d:Dv),ad H2 H'->Rep H' d v->exD d=true->d.small=true->L2.Pl 8 d->Q v H':=fun H' v d s R e sm pl=>q H' v d ((s1.trans s2).trans (ad.b a s)) (D2.m s) R e sm pl
 refine vL (d:=.tup [.str "name",.str y]) (aT (aj bf (aj (gZ (j:=c / 7 % 5) rfl r2 (fun H1 Q q=>⟨_,rfl,_,_,rfl,rfl,⟨by decide,by decide⟩,_,_,rfl,rfl,(by show (0:Int) < 5; decide),q⟩) b0 hy) aI)) (μ rfl)) fun H3 vx s3 Rx=>?_
 have xx:Xp 1 1 (.tup [.str "name",.str y]):=eA "name" "x" [.x] (by decide +kernel) (h:=0) (c:=0) (k:=0) (by show (nmB y && true)=true; rw [ny]; rfl) rfl (fun d hd=>by rw [ε.mp hd]; exact cp ny) (fun e he=>by simp [bc,XB.ptD] at he) (by simp [bc,XB.ptD])
 have px:L2.Pl 4 (.tup [.str "name",.str y]):=jo fun d hd=>by
  rcases θ.mp hd with rfl | hd
  ·exact .str
  ·rw [ε.mp hd]; exact .str
 have sx:=xx.1
 have q3:∀ (H':Hp) (v:V) (d:Dv) {h c:Nat},ad H3 H'->Rep H' d v->Xp h c d->h<=7->c<=40->L2.Pl 8 d->Q v H':=fun H' v d h c s R x a b pl=>q2 H' v d (s3.trans s) R (tG x a b) x.1 pl
 have r3:=s3 _ _ r2
 refine ⟨_,rfl,_,_,rfl,rfl,(by show (0:Int) < 7; decide),?_⟩
 refine ⟨_,rfl,rfl,_,rfl,aQ (fun _=>?_) (fun _=>?_)⟩
 ·exact ⟨_,rfl,q3 H3 vx _ (ad.refl _) Rx xx (by decide) (by decide) (px.up (by decide))⟩
 refine ⟨_,rfl,rfl,_,rfl,aQ (fun _=>?_) (fun _=>?_)⟩
 ·obtain ⟨d0,d1⟩:=aN (a:=m) (10 ^ (12:Int).toNat) (by decide)
  refine aT (ds:=[.str "number",.int (m % 10 ^ (12:Int).toNat)]) (aj bf (aj (ko fun H1 Q q=>⟨_,rfl,_,_,rfl,rfl,p12,_,_,rfl,rfl,(by show (0:Int) < 10 ^ (12:Int).toNat; decide),q⟩) aI)) (μ rfl) H3 (ad.refl _) _ fun H4 v s4 R=>?_
  refine q3 H4 v _ s4 R (eA "number" "n" [.n] (by decide +kernel) (h:=0) (c:=0) (k:=0) ?_ rfl (fun d hd=>by rw [ε.mp hd]; rfl) (fun e he=>by simp [bc,XB.ptD] at he) (by simp [bc,XB.ptD])) (by decide) (by decide) ?_
  ·show ((decide (0<=m % 10 ^ (12:Int).toNat) && decide (m % 10 ^ (12:Int).toNat < 1000000000000)) && true)=true
   rw [decide_eq_true d0,decide_eq_true (show m % 10 ^ (12:Int).toNat < 1000000000000 from d1)]; rfl
  ·exact (jo (n:=0) fun d hd=>by
    rcases θ.mp hd with rfl | hd
    ·exact .str
    ·rw [ε.mp hd]; exact .int).up (by decide)
 refine ⟨_,rfl,rfl,_,rfl,aQ (fun _=>?_) (fun _=>?_)⟩
 ·obtain ⟨e0,e1⟩:=aN (a:=m) 100 (by decide)
  obtain ⟨f0,f1⟩:=aN (a:=m / 100) 5 (by decide)
  obtain ⟨g0,g1⟩:=aN (a:=m / 500) 99 (by decide)
  obtain ⟨z,hz,mz⟩:=pick _ f0 f1
  have nz:=nms.nm z mz
  have sl:SL (m % 100) [(z,1 + m / 500 % 99)]:=kD e0 (by omega) ⟨List.pairwise_singleton _ _,fun p hp=>by rw [ε.mp hp]; show 1<=1 + m / 500 % 99; omega⟩ (by show 1<=900; decide) fun p hp=>by rw [ε.mp hp]; exact ⟨nz,by show 1 + m / 500 % 99<=99; omega⟩
  refine aT (ds:=[.str "length",bt (m % 100) [(z,1 + m / 500 % 99)]]) (aj bf (aj (aT (aj (ko fun H1 Q q=>⟨_,rfl,_,_,rfl,rfl,(by show (0:Int) < 100; decide),q⟩) (aj (aT (aj (aT (aj (gZ (j:=m / 100 % 5) rfl r3 (fun H1 Q q=>⟨_,rfl,_,_,rfl,rfl,⟨by decide,by decide⟩,_,_,rfl,rfl,(by show (0:Int) < 5; decide),q⟩) f0 hz) (aj (ko fun H1 Q q=>⟨_,rfl,_,_,rfl,rfl,⟨by decide,by decide⟩,_,_,rfl,rfl,(by show (0:Int) < 99; decide),_,_,rfl,rfl,q⟩) aI)) (μ rfl)) aI) (μ rfl)) aI)) (μ rfl)) aI)) (μ rfl) H3 (ad.refl _) _ fun H4 v s4 R=>?_
  refine q3 H4 v _ s4 R (eA "length" "l" [.l] (by decide +kernel) (h:=0) (c:=0) (k:=0) (by show (slD (bt _ _) && true)=true; rw [sl.1]; rfl) rfl (fun d hd=>by rw [ε.mp hd]; exact sl.2) (fun e he=>by simp [bc,XB.ptD] at he) (by simp [bc,XB.ptD])) (by decide) (by decide) ?_
  exact (jo (n:=3) fun d hd=>by
    rcases θ.mp hd with rfl | hd
    ·exact .str
    ·rw [ε.mp hd]; exact gt _ _).up (by decide)
 refine ⟨_,rfl,rfl,_,rfl,aQ (fun _=>?_) (fun _=>?_)⟩
 ·obtain ⟨f0,f1⟩:=aN (a:=m) 2 (by decide)
  obtain ⟨z,hz,mz⟩:∃ z:Str,[η "plus",η "less"][(m % 2).toNat]?=some z/\gL z=true/\(Dv.str z).small=true:=by
   rcases (by omega:m % 2=0\/m % 2=1) with e | e
   ·rw [e]; exact ⟨η "plus",rfl,by decide +kernel,by decide +kernel⟩
   ·rw [e]; exact ⟨η "less",rfl,by decide +kernel,by decide +kernel⟩
  refine aT (ds:=[.str "reckon",.str z,.tup [.str "name",.str y],.tup [.str "name",.str y]]) (aj bf (aj (rV (ys:=[η "plus",η "less"]) (uk (aj bf (aj bf aI)) (μ rfl)) (fun H1 Q q=>⟨_,rfl,_,_,rfl,rfl,(by show (0:Int) < 2; decide),q⟩) f0 hz) (aj (dz rfl Rx) (aj (dz rfl Rx) aI)))) (μ rfl) H3 (ad.refl _) _ fun H4 v s4 R=>?_
  refine q3 H4 v _ s4 R (eA "reckon" "wee" [.w,.e,.e] (by decide +kernel) (h:=1) (c:=1) (k:=2) (by show (gL z && (true && (true && true)))=true; rw [mz.1]; rfl) rfl (fun d hd=>?_) (fun e he=>?_) (by simp [bc,XB.ptD])) (by decide) (by decide) ?_
  ·rcases θ.mp hd with rfl | hd
   ·exact mz.2
   rcases θ.mp hd with rfl | hd
   ·exact sx
   ·rw [ε.mp hd]; exact sx
  ·have:e=.tup [.str "name",.str y]:=by simpa [bc,XB.ptD] using he
   rw [this]; exact xx
  ·exact (jo (n:=4) fun d hd=>by
    rcases θ.mp hd with rfl | hd
    ·exact .str
    rcases θ.mp hd with rfl | hd
    ·exact .str
    rcases θ.mp hd with rfl | hd
    ·exact px
    ·rw [ε.mp hd]; exact px).up (by decide)
 refine ⟨_,rfl,rfl,_,rfl,aQ (fun _=>?_) (fun _=>?_)⟩
 ·obtain ⟨f0,f1⟩:=aN (a:=m) 5 (by decide)
  obtain ⟨g0,g1⟩:=aN (a:=m / 5) 5 (by decide)
  obtain ⟨z,hz,mz⟩:=pick _ f0 f1
  have nz:=nms.nm z mz
  have lr:(χ (m / 5 % 5).toNat (Dv.tup [.str "name",.str y])).length<=4:=by rw [k4]; omega
  refine aT (ds:=[.str "call",.str z,.tup (χ (m / 5 % 5).toNat (.tup [.str "name",.str y]))]) (aj bf (aj (gZ (j:=m % 5) rfl r3 (fun H1 Q q=>⟨_,rfl,_,_,rfl,rfl,(by show (0:Int) < 5; decide),q⟩) f0 hz) (aj (uw (j:=m / 5 % 5) (aT (aj (dz rfl Rx) aI) (μ rfl)) (fun H1 Q q=>⟨_,rfl,_,_,rfl,rfl,⟨by decide,by decide⟩,_,_,rfl,rfl,(by show (0:Int) < 5; decide),q⟩) g0 (by omega)) aI))) (μ rfl) H3 (ad.refl _) _ fun H4 v s4 R=>?_
  refine q3 H4 v _ s4 R (eA "call" "fa" [.f,.a] (by decide +kernel) (h:=1) (c:=1) (k:=4) ?_ rfl (fun d hd=>?_) (fun e he=>?_) ?_) (by decide) (by decide) ?_
  ·show (eP (.str z) && ((decide ((0:Int)<=((χ (m / 5 % 5).toNat (Dv.tup [.str "name",.str y])).length:Int)) && decide (((χ (m / 5 % 5).toNat (Dv.tup [.str "name",.str y])).length:Int)<=4)) && true))=true
   rw [At nz (nms.z z mz),decide_eq_true (by omega),decide_eq_true (by omega)]; rfl
  ·rcases θ.mp hd with rfl | hd
   ·exact cp nz
   ·rw [ε.mp hd]; exact aY (fun d hd=>by rw [Ce hd]; exact sx) (by omega)
  ·have:e∈χ (m / 5 % 5).toNat (Dv.tup [.str "name",.str y]):=by simpa [bc,XB.ptD,qm] using he
   rw [Ce this]; exact xx
  ·show (XB.ptD .f (.str z) ++ (χ (m / 5 % 5).toNat (Dv.tup [.str "name",.str y]) ++ [])).length<=4
   rw [ς,ς]; simp only [XB.ptD,Cg]; omega
  ·exact (jo (n:=5) fun d hd=>by
    rcases θ.mp hd with rfl | hd
    ·exact .str
    rcases θ.mp hd with rfl | hd
    ·exact .str
    ·rw [ε.mp hd]; exact jo fun d hd=>by rw [Ce hd]; exact px).up (by decide)
 refine ⟨_,rfl,rfl,_,rfl,aQ (fun _=>?_) (fun _=>?_)⟩
 ·obtain ⟨f0,f1⟩:=aN (a:=m) 5 (by decide)
  obtain ⟨g0,g1⟩:=aN (a:=m / 5) 100 (by decide)
  obtain ⟨z,hz,mz⟩:=pick _ f0 f1
  have nz:=nms.nm z mz
  have sl:SL (m / 5 % 100) []:=kD g0 (by omega) ⟨.nil,by simp⟩ (by show 0<=900; decide) (by simp)
  have xp:Xp 2 3 (.tup [.str "pair",.tup [.str "name",.str y],.tup [.str "name",.str y]]):=eA "pair" "ee" [.e,.e] (by decide +kernel) (h:=1) (c:=1) (k:=2) rfl rfl (fun d hd=>by
    rcases θ.mp hd with rfl | hd
    ·exact sx
    ·rw [ε.mp hd]; exact sx) (fun e he=>by
    have:e=.tup [.str "name",.str y]:=by simpa [bc,XB.ptD] using he
    rw [this]; exact xx) (by simp [bc,XB.ptD])
  refine aT (ds:=[.str "loop",.str z,bt (m / 5 % 100) [],.tup [.str "pair",.tup [.str "name",.str y],.tup [.str "name",.str y]]]) (aj bf (aj (gZ (j:=m % 5) rfl r3 (fun H1 Q q=>⟨_,rfl,_,_,rfl,rfl,(by show (0:Int) < 5; decide),q⟩) f0 hz) (aj (aT (aj (ko fun H1 Q q=>⟨_,rfl,_,_,rfl,rfl,⟨by decide,by decide⟩,_,_,rfl,rfl,(by show (0:Int) < 100; decide),q⟩) (aj (aT aI (μ rfl)) aI)) (μ rfl)) (aj (aT (aj bf (aj (dz rfl Rx) (aj (dz rfl Rx) aI))) (μ rfl)) aI)))) (μ rfl) H3 (ad.refl _) _ fun H4 v s4 R=>?_
  refine q3 H4 v _ s4 R (eA "loop" "xle" [.x,.l,.e] (by decide +kernel) (h:=2) (c:=3) (k:=1) (by show (nmB z && (slD (bt _ _) && (true && true)))=true; rw [nz,sl.1]; rfl) rfl (fun d hd=>?_) (fun e he=>?_) (by simp [bc,XB.ptD])) (by decide) (by decide) ?_
  ·rcases θ.mp hd with rfl | hd
   ·exact cp nz
   rcases θ.mp hd with rfl | hd
   ·exact sl.2
   ·rw [ε.mp hd]; exact xp.1
  ·have:e=.tup [.str "pair",.tup [.str "name",.str y],.tup [.str "name",.str y]]:=by simpa [bc,XB.ptD] using he
   rw [this]; exact xp
  ·exact (jo (n:=5) fun d hd=>by
    rcases θ.mp hd with rfl | hd
    ·exact .str
    rcases θ.mp hd with rfl | hd
    ·exact .str
    rcases θ.mp hd with rfl | hd
    ·exact (gt _ _).up (by decide)
    ·rw [ε.mp hd]; exact jo fun d hd=>by
      rcases θ.mp hd with rfl | hd
      ·exact .str
      rcases θ.mp hd with rfl | hd
      ·exact px
      ·rw [ε.mp hd]; exact px).up (by decide)
 refine aT (ds:=[.str "none",.tup [.str "whole"]]) (aj bf (aj (aT (aj bf aI) (μ rfl)) aI)) (μ rfl) H3 (ad.refl _) _ fun H4 v s4 R=>?_
 refine q3 H4 v _ s4 R (eA "none" "k" [.k] (by decide +kernel) (h:=0) (c:=0) (k:=0) ?_ rfl (fun d hd=>by rw [ε.mp hd]; decide +kernel) (fun e he=>by simp [bc,XB.ptD] at he) (by simp [bc,XB.ptD])) (by decide) (by decide) ?_
 ·show (decide (aF (.tup [.str "whole"])<=12) && true)=true
  rw [Af,if_pos rfl]; rfl
 ·exact (jo (n := 1) fun d hd => by
    rcases θ.mp hd with rfl | hd
    ·exact .str
    ·rw [ε.mp hd]; exact jo fun d hd=>by rw [ε.mp hd]; exact .str).up (by decide)
end
abbrev uN:Stmt:=top 63
structure Sm (ns:List Str) (x:Str) (c:Int) (ps:List Pr):Prop where
 c0:0<=c
 c1:c<=99
 can:jG ps
 len:ps.length<=5
 all:∀ p∈ps,p.2<=99/\(p.1∈ns\/(x≠""/\p=(x,1)))
 new:x≠""->(x,(1:Int))∈ps
def yf:Sp:=fun vs H Q _=>∃ (a t:Addr) (n:Nat) (ns:List Str) (x:Str),vs=[.ref a,.ref t,.str x]/\Dr H a n/\H t=some (.lst (ns.map V.str))/\t≠a/\ns.length<=4/\x∉ns /\
 ∀ (H':Hp) (v:V) (c:Int) (ps:List Pr),aE a H H'->Dr H' a (n - 1)->Rep H' (bt c ps) v->Sm ns x c ps->Q v H'
theorem yD {i:Nat} (h:i < 4):∃ n:Int,atI ([V.int 16,V.int 1584,V.int 156816,V.int 15524784]:List V) (i:Int)=some (.int n)/\0 < n/\n < 10 ^ 9:=by
 rcases (by omega:i=0\/i=1\/i=2\/i=3) with rfl | rfl | rfl | rfl
 ·exact ⟨16,af (j:=0) rfl,by decide⟩
 ·exact ⟨1584,af (j:=1) rfl,by decide⟩
 ·exact ⟨156816,af (j:=2) rfl,by decide⟩
 ·exact ⟨15524784,af (j:=3) rfl,by decide⟩
section
variable {P:Β} {w:Ξ} {K:PySem.W.Frag} {mg:Str->Option δ} {base:Heap}
theorem tE:ap ["_law_draws_here","_law_told","_law_new","_law_cell","_law_parts","_law_k","_law_name"] ["_law_draws_here","_law_told","_law_new"] (ai uN):=⟨rfl,rfl,rfl,by decide +kernel,rfl,by decide +kernel,by decide +kernel⟩
theorem yE {f:Addr} {fd:Μ} {k:Nat} (F:Fun K "_law_sum" "_law_sum" uN f fd) (T:Txt K mg) (D_law_next:Def P w K mg base k "_law_next" ["_law_draws_here"] eQ):aK P w K mg base CX0 (k + 1) f fd ["_law_draws_here","_law_told","_law_new"] yf:=by
 have nd:(["_law_draws_here","_law_told","_law_new","_law_cell","_law_parts","_law_k","_law_name"]:List Str).Nodup:=tE.nd
 refine F.ok tE (fun vs H Q E h=>?_) (fun cdv A outer s H vs Q E hr h=>?_)
 ·obtain ⟨a,t,n,ns,x,rfl,_⟩:=h
  rfl
 obtain ⟨a,t,n,ns,x,rfl,hD,hT,ta,l4,xn,q⟩:=h
 have hu:=nX hr
 refine ⟨_,(@un _ _ _ (wbO (wbM 3 nd rfl (Λ rfl) (waq D_law_next hr rfl (wae (wv 0 rfl) waf rfl) (by decide) rfl rfl) rfl (by trivial)) (wbO (wbM 4 nd rfl (Λ rfl) waA rfl (by trivial)) (wbO (wbH ϝ rfl (wbg rfl T.enumerate (wae (wv 1 rfl) waf rfl) rfl) (wbb rfl (wbd (waZ 5 nd rfl (Λ rfl) (by trivial)) (wbd (waZ 6 nd rfl (Λ rfl) (by trivial)) wbe rfl) rfl) rfl rfl) (wbQ (wbI (wbS aG (waQ ua (waQ ug (wv 3 rfl) (wv 5 rfl)) waC) waC (ak _)) (wbQ (wbF hu (wv 4 rfl) (wv 6 rfl) (waQ bE waC (waQ aB (waQ cn (wv 3 rfl) (waD aH (waM (wae waC (wae waC (wae waC (wae waC waf rfl) rfl) rfl) rfl)) (wv 5 rfl) (fun _ _=>rfl))) waC)) rfl)) wbP)) (by intro _; rfl)) (wbO (wbI (wbS fE (wv 2 rfl) waV (ak _)) (wbQ (wbF hu (wv 4 rfl) (wv 2 rfl) waC rfl)) wbP) (wbQ (wbK (waX (wae (waQ aB (waQ cn (wv 3 rfl) waC) waC) (wae (wam cD rfl T.tuple (by decide +kernel) (wae (wal (lC rfl) rfl T.sorted (by decide +kernel) (wae (wak PySem.F.plainAttrs_dict PySem.F.slot_dict_items PySem.F.type_dict_items vE (wv 4 rfl) rfl rfl) waf rfl) (by decide) (by decide) rfl rfl) waf rfl) (by decide) (by decide) rfl rfl) waf rfl) rfl))))))))),?_⟩
 refine ⟨_,rfl,a,n,rfl,hD,fun H1 c s1 D1 c0 c1=>?_⟩
 intro d hd
 have da:d≠a:=fun e=>D1.some (e▸hd)
 have t1:=s1 _ _ ta hT
 have dt:t≠d:=ae t1 hd
 have s2:=ac hd (.dK [])
 have d2:upd H1 d (.dK []) d=some (.dK (dk [])):=aa
 have D2:=D1.m s2
 have t2:=s2 _ _ t1
 generalize upd H1 d (.dK [])=H2 at s2 d2 D2 t2 ⊢
 refine ⟨_,rfl,t,rfl,⟨_,SqL.of t2⟩,dE (xs:=ns.map V.str) (fun i σ H'=>∃ (kvs:List Pr) (o1 o2:Option V),σ=[some (.ref a),some (.ref t),some (.str x),some (.int c),some (.ref d),o1,o2]/\ad H1 H'/\H' d=some (.dK (dk kvs))/\(kvs.map (·.1)).Nodup/\kvs.length<=i/\∀ p∈kvs,p.1∈ns/\1<=p.2/\p.2<=99)
  ⟨[],_,_,rfl,s2,d2,by simp,by simp,by simp⟩ (fun i σ H' _ ⟨_,_,_,_,sx,_⟩=>SqL.of (sx _ _ t1)) ?T1 ?_⟩
 case T1=>
  rintro i y σ H3 p hx ⟨kvs,o1,o2,rfl,s3,d3,ndk,lk,hall⟩ hp
  rw [Κ] at hx
  obtain ⟨z,hz,rfl⟩:=Ϙ.mp hx
  have hi:i < ns.length:=(π.mp hz).1
  have zm:=Α hz
  have s4:=s3.trans (ac hp (.tup [.int i,.str z]))
  have d4:=ac hp (.tup [.int i,.str z]) _ _ d3
  refine ⟨p,_,rfl,SqT.of aa,rfl,_,_,rfl,_,_,rfl,rfl,?_⟩
  generalize upd H3 p (.tup [.int i,.str z])=H4 at s4 d4 ⊢
  refine ⟨_,rfl,_,rfl,_,_,rfl,rfl,(by show (0:Int)<=(i:Int); omega),_,_,rfl,rfl,rfl,_,rfl,aQ (fun _=>?_) (fun _=>⟨kvs,_,_,rfl,s4,d4,ndk,by omega,hall⟩)⟩
  obtain ⟨m,hm,m0,m1⟩:=yD (i:=i) (by omega)
  refine ⟨_,rfl,le4,fun l hl=>?_⟩
  have s5:=ac hl (.lst [V.int 16,.int 1584,.int 156816,.int 15524784])
  have d5:=s5 _ _ d4
  obtain ⟨g0,g1⟩:=aN (a:=c / m) 99 (by decide)
  refine ⟨_,rfl,l,_,_,.int m,rfl,rfl,SqL.of aa,hm,_,_,rfl,rfl,⟨m0,by omega⟩,_,_,rfl,rfl,(by show (0:Int) < 99; decide),_,_,rfl,rfl,_,rfl,_,rfl,d,_,rfl,lW.k (k:=Ϗ z) d5 ?_,?_⟩
  ·rw [show (dk kvs).length=kvs.length from ζ _,ψ]; omega
  refine ⟨iV kvs z (1 + c / m % 99),_,_,rfl,fun e o he=>?_,?_,sI ndk,ϔ (ut _ _ _) (by omega),tQ (R:=fun p=>p.1∈ns/\1<=p.2/\p.2<=99) hall ⟨zm,by show 1<=1 + c / m % 99; omega,by show 1 + c / m % 99<=99; omega⟩⟩
  ·rw [ag (ae he hd)]; exact s5 _ _ (s4 _ _ he)
  ·rw [aa,vo]
 rintro σ H3 ⟨kvs,o1,o2,rfl,s3,d3,ndk,lk,hall⟩
 rw [ζ] at lk
 have s03:aE a H H3:=s1.trans (ad.b a s3)
 have D3:=D1.m s3
 obtain ⟨g0,g1⟩:=aN (a:=c / 1536953616) 100 (by decide)
 have fin:∀ (H4:Hp) (kv:List Pr),aE a H H4->Dr H4 a (n - 1)->H4 d=some (.dK (dk kv))->kv.length<=5->(∀ p∈kv,1<=p.2)->(∀ p∈kv,p.2<=99/\(p.1∈ns\/(x≠""/\p=(x,1))))->(x≠""->(x,(1:Int))∈kv)->∀ v,H4 v=none->∀ (H5:Hp) (l:Addr) (qs:List TK),ad (upd H4 v (gU v d)) H5->(∀ r∈qs,H5 r.1=some (.tup (.str r.2.1 :: r.2.2))/\upd H4 v (gU v d) r.1=none)->H5 l=some (.lst (qs.map fun r=>V.ref r.1))->(qs.map (·.2)).Perm ((kv.map fun p=>(p.1,V.int p.2)).map fun p=>(p.1,[p.2]))->qs.Pairwise ux ->
   ∀ t,H5 t=none->2<=sizeLine/\∀ p,upd H5 t (.tup (qs.map fun r=>V.ref r.1)) p=none->Q (.ref p) (upd (upd H5 t (.tup (qs.map fun r=>V.ref r.1))) p (.tup [.int (c / 1536953616 % 100),.ref t])):=fun H4 kv s4 D4 d4 l5 ge all new v hv H5 l qs s5 hq hl pq pw t ht=>by
  obtain ⟨perm,can,rep⟩:=mD hq pq pw ge
  refine ⟨z2,fun p hp=>?_⟩
  have s6:=(ac hv (gU v d)).trans (s5.trans (ac ht (.tup (qs.map fun r=>V.ref r.1))))
  have s7:=ac hp (.tup [.int (c / 1536953616 % 100),.ref t])
  exact q _ _ _ _ (s4.trans (ad.b a (s6.trans s7))) (D4.m (s6.trans s7)) (vQ aa ((rep t ht).mono s7)) ⟨g0,by omega,can,by rw [perm.length_eq]; exact l5,fun p hp=>all p (perm.mem_iff.mp hp),fun e=>perm.mem_iff.mpr (new e)⟩
 have two:∀ (H4:Hp) (kv:List Pr) (v:Addr),H4 d=some (.dK (dk kv))->H4 v=none->upd H4 v (gU v d) d=some (.dK ((kv.map fun p=>(p.1,V.int p.2)).map fun p=>((Ϗ p.1:Key),p.2))):=fun H4 kv v d4 hv=>by rw [ag (ae d4 hv),d4,ϋ]; rfl
 refine ⟨_,rfl,rfl,_,rfl,?_⟩
 show if (!decide (V.str x=V.str ""))=true then _ else _
 rw [br]
 by_cases hx:x=""
 ·rw [decide_eq_true hx]
  refine aA ⟨_,rfl,_,_,rfl,rfl,⟨by decide,by decide⟩,_,_,rfl,rfl,(by show (0:Int) < 100; decide),?_⟩
  refine ⟨_,rfl,.inr (.inr (.inl ⟨rfl,.inl ⟨_,d3⟩⟩)),d,_,rfl,rfl,d3,fun v hv=>?_⟩
  refine ⟨v,d,kvs.map fun p=>(p.1,V.int p.2),rfl,aa,two H3 kvs v d3 hv,by rw [ζ]; omega,fun H4 l4 qs s4 _ hq hl4 pq pw=>⟨l4,_,rfl,.inl ⟨SqL.of hl4,fun t ht=>?_⟩⟩⟩
  exact fin H3 kvs s03 D3 d3 (by omega) (fun p hp=>(hall p hp).2.1) (fun p hp=>⟨(hall p hp).2.2,.inl (hall p hp).1⟩) (fun z=>absurd hx z) v hv H4 l4 qs s4 hq hl4 pq pw t ht
 ·rw [decide_eq_false hx]
  have xk:x∉kvs.map (·.1):=fun z=>by obtain ⟨p,hp,e⟩:=Δ.mp z; exact xn (e▸(hall p hp).1)
  refine av ⟨_,rfl,_,rfl,d,_,rfl,lW.k (k:=Ϗ x) d3 ?_,?_⟩
  ·rw [show (dk kvs).length=kvs.length from ζ _,ψ]; omega
  have d4:upd H3 d (.dK (cK (dk kvs) (Ϗ x) (.int 1))) d=some (.dK (dk (kvs ++ [(x,1)]))):=by rw [aa,<- vo,vt xk]
  have s4:aE a H (upd H3 d (.dK (cK (dk kvs) (Ϗ x) (.int 1)))):=fun g o hg e=>by
   by_cases z:g=d
   ·subst z
    rw [s1 _ _ hg e] at hd; cases hd
   ·rw [ag z]; exact s03 g o hg e
  have D4:=D3.b (aE.upd H3 d (.dK (cK (dk kvs) (Ϗ x) (.int 1)))) (ϊ da)
  generalize upd H3 d (.dK (cK (dk kvs) (Ϗ x) (.int 1)))=H4 at d4 s4 D4 ⊢
  refine ⟨_,rfl,_,_,rfl,rfl,⟨by decide,by decide⟩,_,_,rfl,rfl,(by show (0:Int) < 100; decide),?_⟩
  refine ⟨_,rfl,.inr (.inr (.inl ⟨rfl,.inl ⟨_,d4⟩⟩)),d,_,rfl,rfl,d4,fun v hv=>?_⟩
  refine ⟨v,d,(kvs ++ [(x,1)]).map fun p:Pr=>(p.1,V.int p.2),rfl,aa,two H4 _ v d4 hv,by rw [ζ,ς,ϐ]; omega,fun H5 l4 qs s5 _ hq hl4 pq pw=>⟨l4,_,rfl,.inl ⟨SqL.of hl4,fun t ht=>?_⟩⟩⟩
  refine fin H4 _ s4 D4 d4 (by rw [ς,ϐ]; omega) (fun p hp=>?_) (fun p hp=>?_) (fun _=>by simp) v hv H5 l4 qs s5 hq hl4 pq pw t ht
  ·rcases Ψ.mp hp with h | h
   ·exact (hall p h).2.1
   ·rw [ε.mp h]; exact Int.le_refl 1
  ·rcases Ψ.mp hp with h | h
   ·exact ⟨(hall p h).2.2,.inl (hall p h).1⟩
   ·rw [ε.mp h]; exact ⟨by show (1:Int)<=99; decide,.inr ⟨hx,rfl⟩⟩
end
theorem zM {α:Type} {l:List α} {a:α} (nd:l.Nodup) (ha:a∈l) (h:∀ x∈l,x=a):l=[a]:=by
 match l,nd,ha,h with
 | [x],_,_,h=>rw [h x Ε]
 | x :: y :: r,nd,_,h=>
  have h1:=h x Ε
  have h2:=h y (ο _ Ε)
  exact absurd (ϱ.mp nd).1 (fun z=>z (by rw [h1,<- h2]; exact Ε))
theorem zw {ps:List Pr} (h:jG ps):ps.Nodup:=by
 have h2:=mh h.pw
 rw [List.Nodup,A9] at h2
 exact h2.imp fun z e=>z (by rw [e])
theorem sW {bs:List Str} {x:Str} {c:Int} {ps:List Pr} (h:Sm bs x c ps) (hx:x∉bs) (h0:x≠""):bB bs ps=[(x,1)]:=by
 refine zM ((List.filter_sublist).nodup (zw h.can)) (j8.mpr ⟨h.new h0,by simp [hx]⟩) fun p hp=>?_
 obtain ⟨h1,h2⟩:=j8.mp hp
 rcases (h.all p h1).2 with z | z
 ·simp [z] at h2
 ·exact z.2
theorem jE {bs:List Str} {ps:List Pr} (h:∀ p∈ps,p.1∈bs):bB bs ps=[]:=by
 unfold bB
 rw [List.filter_eq_nil_iff]
 intro p hp
 simp [h p hp]
theorem pY {bs:List Str} {c:Int} {ps:List Pr} (h:Sm bs "" c ps):∀ p∈ps,p.1∈bs:=fun p hp=>by
 rcases (h.all p hp).2 with z | z
 ·exact z
 ·exact absurd rfl z.1
theorem cV {ns bs:List Str} {k:Kd} (h:bK bs k=[]):bJ ns bs k=some bs:=by
 unfold bJ
 rw [h,if_pos (by rfl)]
 simp
theorem xz {ns bs:List Str} {x:Str} {c:Int} {ps:List Pr} {j:Kd} (h:bB bs ps=[(x,1)]) (hx:x∈ns):bJ ns bs (.row c ps j)=some (bs ++ [x]):=by
 have e:bK bs (.row c ps j)=[(x,1)]:=h
 unfold bJ
 rw [e,if_pos]
 ·rfl
 ·show (false || (decide (η "row"=η "row") && (decide (1=1) && decide ((x,(1:Int))∈ns.map fun x=>(x,(1:Int))))))=true
  rw [decide_eq_true rfl,decide_eq_true rfl,decide_eq_true (Δ.mpr ⟨x,hx,rfl⟩)]; rfl
def jw (bs:List Str):Kd->Prop
 | .whole=>True
 | .place _ ps=>∀ p∈ps,p.1∈bs
 | _=>False
theorem jt {ns bs:List Str} {k:Kd} (h:jw bs k):bp ns bs k.pts=some bs:=by
 cases k with
 | whole=>
  show (match bJ ns bs .whole with | none=>none | some cs=>bp ns cs [])=_
  rw [cV rfl]; rfl
 | place c ps=>
  show (match bJ ns bs (.place c ps) with | none=>none | some cs=>bp ns cs [])=_
  rw [cV (k:=.place c ps) (jE h)]; rfl
 | row c ps j=>exact h.elim
 | pair i j=>exact h.elim
structure SmK (os:List Str) (c:Int) (ps:List Pr):Prop where
 c0:0<=c
 c1:c<=99
 can:jG ps
 len:ps.length<=5
 all:∀ p∈ps,p.2<=99/\p.1∈os
theorem Sm.k {os ns:List Str} {x:Str} {c:Int} {ps:List Pr} (h:Sm ns x c ps) (hs:∀ y∈ns,y∈os) (hx:x≠""->x∈os):SmK os c ps:=⟨h.c0,h.c1,h.can,h.len,fun p hp=>⟨(h.all p hp).1,by
 rcases (h.all p hp).2 with z | z
 ·exact hs _ z
 ·rw [z.2]; exact hx z.1⟩⟩
theorem vR {k:Kd} (h:k.word="row"):∃ c ps j,k=.row c ps j:=by
 cases k with
 | whole=>exact absurd h (by decide +kernel)
 | place c ps=>exact absurd (show η "place"=η "row" from h) (by decide +kernel)
 | row c ps j=>exact ⟨c,ps,j,rfl⟩
 | pair i j=>exact absurd (show η "pair"=η "row" from h) (by decide +kernel)
structure nK (os:List Str) (i:Nat) (ks:List Kd):Prop where
 bnd:bp os [] (ks.flatMap Kd.pts)=some (os.take i)
 last:∀ ks0 c ps j,ks=ks0 ++ [.row c ps j]->j.word≠η "row"->∃ bs,bp os [] (ks0.flatMap Kd.pts)=some bs/\bJ os bs (.row c ps j)=some (os.take i)
 all:∀ k∈ks,k.size<=4/\k.All (SmK os)
 len:ks.length<=i
theorem bO {ns bs cs:List Str} {k:Kd} {ks:List Kd} (h:bJ ns bs k=some cs):bp ns bs (k :: ks)=bp ns cs ks:=by
 show (match bJ ns bs k with | none=>none | some cs=>bp ns cs ks)=_
 rw [h]
theorem dX (ks:List Kd) (k:Kd):(ks ++ [k]).flatMap Kd.pts=ks.flatMap Kd.pts ++ k.pts:=by rw [ϴ]; simp
section
variable {os:List Str} {i:Nat} {x:Str} {c:Int} {ps:List Pr} {j:Kd} {ks:List Kd}
theorem jQ (h:os[i]?=some x):os.take (i + 1)=os.take i ++ [x]:=by rw [Ϡ,h]; rfl
theorem nv (nd:os.Nodup) (h:os[i]?=some x):x∉os.take i:=fun z=>by
 have h1:(os.take (i + 1)).Nodup:=(Cq _ _).nodup nd
 rw [jQ h,g_] at h1
 exact h1.2.2 x z x (by simp) rfl
theorem mT (h:os[i]?=some x) (nd:os.Nodup) (x0:x≠"") (sm:Sm (os.take i) x c ps):bJ os (os.take i) (.row c ps j)=some (os.take (i + 1)):=by
 rw [xz (sW sm (nv nd h) x0) (Α h),jQ h]
theorem kC (h:os[i]?=some x) (nd:os.Nodup) (x0:x≠"") (sm:Sm (os.take i) x c ps) (st:jw (os.take (i + 1)) j):bp os (os.take i) (Kd.row c ps j).pts=some (os.take (i + 1)):=by
 show bp os (os.take i) (.row c ps j :: j.pts)=_
 rw [bO (mT h nd x0 sm),jt st]
theorem uz (I:nK os i ks) (h:os[i]?=some x) (nd:os.Nodup) (x0:x≠"") (sm:Sm (os.take i) x c ps) (st:jw (os.take (i + 1)) j) (sz:j.size<=1) (al:j.All (SmK os)):nK os (i + 1) (ks ++ [.row c ps j]):=by
 refine ⟨?_,fun ks0 c' ps' j' e _=>?_,fun k hk=>?_,by rw [ς,ϐ]; have:=I.len; omega⟩
 ·rw [dX,bw,I.bnd]
  exact kC h nd x0 sm st
 ·obtain ⟨e1,e2⟩:=DQ e rfl
  injection e2 with e2 _
  injection e2 with e3 e4 e5
  subst e1; subst e3; subst e4; subst e5
  exact ⟨_,I.bnd,mT h nd x0 sm⟩
 ·rcases Ψ.mp hk with hk | hk
  ·exact I.all k hk
  ·rw [ε.mp hk]
   exact ⟨by show j.size + 1<=4; omega,sm.k (fun y hy=>Ϛ hy) (fun _=>Α h),al⟩
theorem tf {c1:Int} {p1:List Pr} (I:nK os i ks) (h:os[i]?=some x) (nd:os.Nodup) (x0:x≠"") (sm:Sm (os.take i) x c ps) (st:jw (os.take (i + 1)) j) (sz:j.size<=1) (al:j.All (SmK os)) (s1:Sm (os.take i) "" c1 p1):nK os (i + 1) (ks ++ [.pair (.place c1 p1) (.row c ps j)]):=by
 refine ⟨?_,fun ks0 c' ps' j' e _=>?_,fun k hk=>?_,by rw [ς,ϐ]; have:=I.len; omega⟩
 ·rw [dX,bw,I.bnd]
  show bp os (os.take i) (.pair (.place c1 p1) (.row c ps j) :: ((Kd.place c1 p1).pts ++ (Kd.row c ps j).pts))=_
  rw [bO (cV rfl),bw,jt (k:=.place c1 p1) (pY s1)]
  exact kC h nd x0 sm st
 ·obtain ⟨_,e2⟩:=DQ e rfl
  injection e2 with e2 _
  cases e2
 ·rcases Ψ.mp hk with hk | hk
  ·exact I.all k hk
  ·rw [ε.mp hk]
   exact ⟨by show 1 + (j.size + 1) + 1<=4; omega,s1.k (fun y hy=>Ϛ hy) (fun z=>absurd rfl z),sm.k (fun y hy=>Ϛ hy) (fun _=>Α h),al⟩
theorem wR {c0:Int} {p0:List Pr} {j0:Kd} (I:nK os i (ks ++ [.row c0 p0 j0])) (hj:j0.word≠η "row") (h:os[i]?=some x) (nd:os.Nodup) (x0:x≠"") (sm:Sm (os.take i) x c ps) (st:jw (os.take (i + 1)) j) (sz:j.size<=1) (al:j.All (SmK os)):nK os (i + 1) (ks ++ [.row c0 p0 (.row c ps j)]):=by
 obtain ⟨bs,h1,h2⟩:=I.last ks c0 p0 j0 rfl hj
 have h2':bJ os bs (.row c0 p0 (.row c ps j))=some (os.take i):=h2
 refine ⟨?_,fun ks0 c' ps' j' e hn=>?_,fun k hk=>?_,by have:=I.len; rw [ς,ϐ] at this ⊢; omega⟩
 ·rw [dX,bw,h1]
  show bp os bs (.row c0 p0 (.row c ps j) :: (Kd.row c ps j).pts)=_
  rw [bO h2']
  exact kC h nd x0 sm st
 ·obtain ⟨_,e2⟩:=DQ e rfl
  injection e2 with e2 _
  injection e2 with _ _ e5
  subst e5
  exact absurd rfl hn
 ·rcases Ψ.mp hk with hk | hk
  ·exact I.all k (Ϲ _ hk)
  ·rw [ε.mp hk]
   have:=I.all (.row c0 p0 j0) (by simp)
   exact ⟨by show (j.size + 1) + 1<=4; omega,this.2.1,sm.k (fun y hy=>Ϛ hy) (fun _=>Α h),al⟩
end
structure BK (os:List Str) (ks:List Kd):Prop where
 bnd:bp os [] (ks.flatMap Kd.pts)=some os
 all:∀ k∈ks,k.size<=4/\k.All (SmK os)
 len:ks.length<=4
theorem xt {os:List Str} {ks:List Kd} {c:Int} {ps:List Pr} (h:BK os ks) (l3:ks.length < 4) (sm:Sm os "" c ps):BK os (ks ++ [.row c ps (.pair .whole .whole)]):=by
 refine ⟨?_,fun k hk=>?_,by rw [ς,ϐ]; omega⟩
 ·rw [dX,bw,h.bnd]
  show bp os os [.row c ps (.pair .whole .whole),.pair .whole .whole,.whole,.whole]=_
  rw [bO (cV (k:=.row c ps (.pair .whole .whole)) (jE (pY sm))),bO (cV rfl),bO (cV rfl),bO (cV rfl)]
  rfl
 ·rcases Ψ.mp hk with hk | hk
  ·exact h.all k hk
  ·rw [ε.mp hk]
   exact ⟨by show 4<=4; decide,sm.k (fun y hy=>hy) (fun z=>absurd rfl z),trivial,trivial⟩
theorem sC {ns os:List Str} (h:∀ x,x∈ns↔x∈os) (k:Kd) (fs:List Pr):kn k fs ns=kn k fs os:=by
 have e:∀ p:Pr,decide (p∈ns.map fun x=>(x,(1:Int)))=decide (p∈os.map fun x=>(x,(1:Int))):=fun p=>by
  rw [i6,decide_eq_true_iff,decide_eq_true_iff,Δ,Δ]
  exact ⟨fun ⟨y,hy,e⟩=>⟨y,(h y).mp hy,e⟩,fun ⟨y,hy,e⟩=>⟨y,(h y).mpr hy,e⟩⟩
 unfold kn
 rw [show (fs.map fun p=>decide (p∈ns.map fun x=>(x,(1:Int))))=fs.map fun p=>decide (p∈os.map fun x=>(x,(1:Int))) from m6 fun p _=>e p]
theorem jZ {ns os:List Str} (h:∀ x,x∈ns↔x∈os):∀ (ks:List Kd) (bs:List Str),bp ns bs ks=bp os bs ks
 | [],_=>rfl
 | k :: ks,bs=>by
  show (match bJ ns bs k with | none=>none | some cs=>bp ns cs ks)=match bJ os bs k with | none=>none | some cs=>bp os cs ks
  have:bJ ns bs k=bJ os bs k:=by unfold bJ; rw [sC h]
  rw [this]
  cases bJ os bs k with
  | none=>rfl
  | some cs=>exact jZ h ks cs
abbrev bS:Stmt:=top 64
theorem iQ (os:List Str) (n:Nat) (h:n<=os.length):aJ (os.map V.str) none (some (n:Int))=(os.take n).map V.str:=by
 rw [yV _ n (by rw [ζ]; exact h),k_]
theorem rE (os:List Str) (n:Nat) (h:n + 1<=os.length):aJ (os.map V.str) none (some ((n:Int) + 1))=(os.take (n + 1)).map V.str:=iQ os (n + 1) h
theorem xQ {x:Str} (h:nmB x=true):x≠η "":=fun e=>by
 subst e
 exact absurd h (by decide +kernel)
def AQ:Sp:=fun vs H Q _=>∃ (o a:Addr) (n:Nat) (os:List Str),vs=[.ref o,.ref a]/\Dr H a n/\H o=some (.lst (os.map V.str))/\o≠a/\os.Nodup/\os.length<=4/\(∀ x∈os,nmB x=true) /\
 ∀ (H':Hp) (l:Addr) (us:List V) (ks:List Kd) (n':Nat),aE a H H'->Dr H' a n'->H l=none->l≠a->H' l=some (.lst us)->Reps H' (ks.map Kd.dv) us->BK os ks->Q (.ref l) H'
section
variable {P:Β} {w:Ξ} {K:PySem.W.Frag} {mg:Str->Option δ} {base:Heap}
theorem dH:ap ["_law_order","_law_draws_here","_law_kinds","_law_k","_law_name","_law_length","_law_cell","_law_inner","_law_one","_law_way"] ["_law_order","_law_draws_here"] (ai bS):=⟨rfl,rfl,rfl,by decide +kernel,rfl,by decide +kernel,by decide +kernel⟩
theorem ik {f:Addr} {fd:Μ} {k:Nat} (F:Fun K "_law_bound_kinds" "_law_bound_kinds" bS f fd) (T:Txt K mg) (D_law_next:Def P w K mg base k "_law_next" ["_law_draws_here"] eQ) (D_law_sum:Def P w K mg base k "_law_sum" ["_law_draws_here","_law_told","_law_new"] yf):aK P w K mg base CX0 (k + 1) f fd ["_law_order","_law_draws_here"] AQ:=by
 have nd:(["_law_order","_law_draws_here","_law_kinds","_law_k","_law_name","_law_length","_law_cell","_law_inner","_law_one","_law_way"]:List Str).Nodup:=dH.nd
 refine F.ok dH (fun vs H Q E h=>?_) (fun cdv A outer s H vs Q E hr h=>?_)
 ·obtain ⟨o,a,n,os,rfl,_⟩:=h
  rfl
 obtain ⟨o,a,n,os,rfl,hD,hO,oa,ndo,l4,nmo,q⟩:=h
 have hu:=nX hr
 have huL:(A.deeper (Cb (η "_law_bound_kinds") (ai bS) s.heap.objs.size f cdv)).units < cLine:=by omega
 have emp:η ""∉os:=fun z=>xQ (nmo _ z) rfl
 refine ⟨_,(@un _ _ _ (wbO (wbM 2 nd rfl (Λ rfl) (waM waf) rfl (by trivial)) (wbO (wbH ϝ rfl (wbg rfl T.enumerate (wae (wv 0 rfl) waf rfl) rfl) (wbb rfl (wbd (waZ 3 nd rfl (Λ rfl) (by trivial)) (wbd (waZ 4 nd rfl (Λ rfl) (by trivial)) wbe rfl) rfl) rfl rfl) (wbO (wbM 5 nd rfl (Λ rfl) (waq D_law_sum hr rfl (wae (wv 1 rfl) (wae (waT bz (wv 0 rfl) wbz (wbA (wv 3 rfl))) (wae (wv 4 rfl) waf rfl) rfl) rfl) (by decide) rfl rfl) rfl (by trivial)) (wbO (wbM 6 nd rfl (Λ rfl) (waq D_law_next hr rfl (wae (wv 1 rfl) waf rfl) (by decide) rfl rfl) rfl (by trivial)) (wbO (wbM 7 nd rfl (Λ rfl) (waX (wae waV waf rfl)) rfl (by trivial)) (wbO (wbI (wbS aG (waQ aB (wv 6 rfl) waC) waC (ak _)) (wbQ (wbM 7 nd rfl (Λ rfl) (waX (wae waV (wae (waq D_law_sum hr rfl (wae (wv 1 rfl) (wae (waT bz (wv 0 rfl) wbz (wbA (waQ bE (wv 3 rfl) waC))) (wae waV waf rfl) rfl) rfl) (by decide) rfl rfl) waf rfl) rfl)) rfl (by trivial))) wbP) (wbO (wbM 8 nd rfl (Λ rfl) (waX (wae waV (wae (wv 5 rfl) (wae (wv 7 rfl) waf rfl) rfl) rfl)) rfl (by trivial)) (wbO (wbM 9 nd rfl (Λ rfl) (waQ aB (waQ bC (wv 6 rfl) waC) waC) rfl (by trivial)) (wbO (wbI (wab (wbW (wbS aG (wv 9 rfl) waC (ak _)) (wbX (wbS gK (wv 3 rfl) waC (ak _))))) (wbQ (wbM 8 nd rfl (Λ rfl) (waX (wae waV (wae (waX (wae waV (wae (waq D_law_sum hr rfl (wae (wv 1 rfl) (wae (waT bz (wv 0 rfl) wbz (wbA (wv 3 rfl))) (wae waV waf rfl) rfl) rfl) (by decide) rfl rfl) waf rfl) rfl)) (wae (wv 8 rfl) waf rfl) rfl) rfl)) rfl (by trivial))) wbP) (wbO (wbI (wab (wbW (wbS aG (wv 9 rfl) waC (ak _)) (wbW (wbS (zD huL) (wv 2 rfl) (waM waf) (ak _)) (wbW (wbS aG (waD ao (waD aH (wv 2 rfl) (waY gr waC) (fun _ _=>rfl)) waC (fun _ _=>rfl)) waV (ak _)) (wbX (wbS fE (waD ao (waD ao (waD aH (wv 2 rfl) (waY gr waC) (fun _ _=>rfl)) waC (fun _ _=>rfl)) waC (fun _ _=>rfl)) waV (ak _))))))) (wbO (wbM 8 nd rfl (Λ rfl) (waX (wae (waD ao (waD aH (wv 2 rfl) (waY gr waC) (fun _ _=>rfl)) waC (fun _ _=>rfl)) (wae (waD ao (waD aH (wv 2 rfl) (waY gr waC) (fun _ _=>rfl)) waC (fun _ _=>rfl)) (wae (wv 8 rfl) waf rfl) rfl) rfl)) rfl (by trivial)) (wbQ (wbG (wak PySem.F.plainAttrs_list PySem.F.slot_list_pop PySem.F.type_list_pop ia (wv 2 rfl) rfl rfl) rfl))) wbP) (wbQ (wbG (waj PySem.F.plainAttrs_list PySem.F.slot_list_append PySem.F.type_list_append bg (wv 2 rfl) (wae (wv 8 rfl) waf rfl) rfl rfl rfl rfl rfl) rfl)))))))))) (by intro _; rfl)) (wbO (wbI (wab (wbW (wbS uB (wal aq rfl T.len (by decide +kernel) (wae (wv 2 rfl) waf rfl) (by decide) (by decide) rfl rfl) waC (ak _)) (wbX (wbS aG (waQ aB (waq D_law_next hr rfl (wae (wv 1 rfl) waf rfl) (by decide) rfl rfl) waC) waC (ak _))))) (wbQ (wbG (waj PySem.F.plainAttrs_list PySem.F.slot_list_append PySem.F.type_list_append bg (wv 2 rfl) (wae (waX (wae waV (wae (waq D_law_sum hr rfl (wae (wv 1 rfl) (wae (wv 0 rfl) (wae waV waf rfl) rfl) rfl) (by decide) rfl rfl) (wae (waX (wae waV (wae (waX (wae waV waf rfl)) (wae (waX (wae waV waf rfl)) waf rfl) rfl) rfl)) waf rfl) rfl) rfl)) waf rfl) rfl rfl rfl rfl rfl) rfl)) wbP) (wbQ (wbK (wv 2 rfl))))))),?_⟩
 refine ⟨Χ _,fun L hL=>?_⟩
 have s0:=ac hL (.lst [])
 have h0:upd H L (.lst []) L=some (.lst []):=aa
 have D0:=hD.m s0
 have La:L≠a:=fun e=>hD.some (e▸hL)
 generalize upd H L (.lst [])=H0 at s0 h0 D0 ⊢
 refine ⟨_,rfl,o,rfl,⟨_,SqL.of (s0 _ _ hO)⟩,dE (xs:=os.map V.str) (fun i σ H'=>∃ (o3 o4 o5 o6 o7 o8 o9:Option V) (ks:List Kd) (us:List V) (n':Nat),σ=[some (.ref o),some (.ref a),some (.ref L),o3,o4,o5,o6,o7,o8,o9]/\aE a H H'/\Dr H' a n'/\H' L=some (.lst us)/\Reps H' (ks.map Kd.dv) us/\nK os i ks)
  ⟨_,_,_,_,_,_,_,[],[],n,rfl,ad.b a s0,D0,h0,by simp [Reps],⟨rfl,fun ks0 _ _ _ e=>by simp at e,by simp,Χ _⟩⟩ (fun i σ H' _ ⟨_,_,_,_,_,_,_,_,_,_,_,sx,_⟩=>SqL.of (sx _ _ oa hO)) ?T1 ?_⟩
 case T1=>
  rintro i y σ H1 p hx ⟨o3,o4,o5,o6,o7,o8,o9,ks,us,n1,rfl,s1,D1,L1,R1,I1⟩ hp
  rw [Κ] at hx
  obtain ⟨x,hx',rfl⟩:=Ϙ.mp hx
  have hi:i < os.length:=(π.mp hx').1
  have xm:=Α hx'
  have x0:=xQ (nmo x xm)
  have xn:=nv ndo hx'
  have p1:=ac hp (.tup [.int i,.str x])
  refine ⟨p,_,rfl,SqT.of aa,rfl,_,_,rfl,_,_,rfl,rfl,?_⟩
  have s2:=s1.trans (ad.b a p1)
  have D2:=D1.m p1
  have L2':=p1 _ _ L1
  have R2:=R1.mono p1
  generalize upd H1 p (.tup [.int i,.str x])=H2 at s2 D2 L2' R2 ⊢
  refine ⟨_,rfl,_,rfl,_,rfl,_,rfl,o,_,rfl,SqL.of (s2 _ _ oa hO),fun t ht=>?_⟩
  rw [iQ os i (by omega)]
  have p2:=ac ht (.lst ((os.take i).map V.str))
  have ta:t≠a:=fun e=>D2.some (e▸ht)
  refine ⟨_,rfl,a,t,n1,os.take i,x,rfl,D2.m p2,aa,ta,by rw [Ρ]; omega,xn,fun H3 v c ps s3 D3 Rv sm=>?_⟩
  have s03:aE a H H3:=s2.trans ((ad.b a p2).trans s3)
  have t3:cu H2 H3:=(ad.tups p2).trans ((D2.m p2).tups s3)
  have L3:H3 L=some (.lst us):=s3 _ _ La (p2 _ _ L2')
  have R3:=aU (fun d hd v r=>by obtain ⟨y,_,rfl⟩:=Δ.mp hd; exact Kd.tupS t3 r) R2
  refine gnm ?_
  dsimp only
  clear t3 R2 R1 p1
  refine ⟨_,rfl,a,_,rfl,D3,fun H4 cell s4 D4 cl0 cl1=>?_⟩
  have t4:cu H3 H4:=D3.tups s4
  have s04:=s03.trans s4
  have L4:=s4 _ _ La L3
  have R4:=aU (fun d hd v r=>by obtain ⟨y,_,rfl⟩:=Δ.mp hd; exact Kd.tupS t4 r) R3
  have Rv4:=cM t4 (gt c ps) Rv
  refine gnm ?_
  dsimp only
  refine ⟨z1,fun e he=>?_⟩
  have p5:=ac he (.tup [.str "whole"])
  have W5:Rep (upd H4 e (.tup [.str "whole"])) Kd.whole.dv (.ref e):=gm aa
  have s05:=s04.trans (ad.b a p5)
  have D5:=D4.m p5
  have L5:=p5 _ _ L4
  have R5:=R4.mono p5
  have Rv5:=Rv4.mono p5
  generalize upd H4 e (.tup [.str "whole"])=H5 at W5 s05 D5 L5 R5 Rv5 ⊢
  refine gnm ?_
  dsimp only
  clear R4 Rv4 D4 L4 s04 D3 L3 R3 Rv s03
  refine fW (fun σ' H6=>∃ (j:Kd) (vj:V) (n6:Nat),σ'=[some (.ref o),some (.ref a),some (.ref L),some (.int i),some (.str x),some v,some (.int cell),some vj,o8,o9]/\aE a H H6/\Dr H6 a n6/\H6 L=some (.lst us)/\Reps H6 (ks.map Kd.dv) us/\Rep H6 (bt c ps) v/\Rep H6 j.dv vj/\jw (os.take (i + 1)) j/\j.size<=1/\j.All (SmK os)) ?N1 (fun nx=>?_)
  case N1=>
   rintro _ H6 ⟨j,vj,n6,rfl,s06,D6,L6,R6,Rv6,Rj,st,js,jA⟩
   refine ⟨_,rfl,_,rfl,z3,fun g hg=>?_⟩
   have p7:=ac hg (.tup [.str "row",v,vj])
   have R7:Rep (upd H6 g (.tup [.str "row",v,vj])) (Kd.row c ps j).dv (.ref g):=lg aa (Rv6.mono p7) (Rj.mono p7)
   have s07:=s06.trans (ad.b a p7)
   have D7:=D6.m p7
   have L7:=p7 _ _ L6
   have Rk7:=R6.mono p7
   generalize upd H6 g (.tup [.str "row",v,vj])=H7 at R7 s07 D7 L7 Rk7 ⊢
   refine gnm ?_
   dsimp only
   refine ⟨_,rfl,_,_,rfl,rfl,⟨by decide,by decide⟩,_,_,rfl,rfl,(by show (0:Int) < 4; decide),?_⟩
   refine gnm ?_
   dsimp only
   generalize cell / 2 % 4=way
   refine fW (fun σ' H8=>∃ (k1:Kd) (v1:V) (n8:Nat),σ'=[some (.ref o),some (.ref a),some (.ref L),some (.int i),some (.str x),some v,some (.int cell),some vj,some v1,some (.int way)]/\aE a H H8/\Dr H8 a n8/\H8 L=some (.lst us)/\Reps H8 (ks.map Kd.dv) us/\Rep H8 k1.dv v1/\(k1=.row c ps j\/(way=0/\∃ c1 p1,Sm (os.take i) "" c1 p1/\k1=.pair (.place c1 p1) (.row c ps j)))) ?N2 (fun nx2=>?_)
   case N2=>
    rintro _ H8 ⟨k1,v1,n8,rfl,s08,D8,L8,R8,Rk1,ho⟩
    refine fW (fun σ' H9=>∃ (k2:Kd) (v2:V) (ks':List Kd) (us':List V) (n9:Nat),σ'=[some (.ref o),some (.ref a),some (.ref L),some (.int i),some (.str x),some v,some (.int cell),some vj,some v2,some (.int way)]/\aE a H H9/\Dr H9 a n9/\H9 L=some (.lst us')/\Reps H9 (ks'.map Kd.dv) us'/\Rep H9 k2.dv v2/\nK os (i + 1) (ks' ++ [k2])) ?N3 (fun nx3=>?_)
    case N3=>
     rintro _ H9 ⟨k2,v2,ks',us',n9,rfl,s09,D9,L9,R9,Rk2,I9⟩
     have lu:us'.length=ks'.length:=by have:=R9.length; rwa [ζ] at this
     have lk:=I9.len
     rw [ς,ϐ] at lk
     refine ⟨_,rfl,.inl ⟨rfl,_,SqL.of L9⟩,_,rfl,L,_,_,rfl,rfl,L9,by rw [ψ]; omega,?_⟩
     have sB:=aE.upd H9 L (.lst (us' ++ [v2]))
     refine ⟨_,_,_,_,_,_,_,ks' ++ [k2],us' ++ [v2],n9,rfl,fun g ob hg e=>sB g ob (ae e hL) (s09 g ob hg e),D9.b sB (ϊ La),aa,?_,I9⟩
     have tB:=sB.tups L9
     rw [ω]
     exact Reps.append (aU (fun d hd v r=>by obtain ⟨y,_,rfl⟩:=Δ.mp hd; exact Kd.tupS tB r) R9) (aP (Kd.tupS tB Rk2))
    have lus:us.length=ks.length:=by have:=R8.length; rwa [ζ] at this
    refine zc (way=1/\∃ ks0 c0 p0 j0,ks=ks0 ++ [Kd.row c0 p0 j0]/\j0.word≠η "row") ?A1 ?A0 (fun qT qF=>?_)
    case A0=>
     intro H9 p9
     refine aA (nx3 _ _ ⟨k1,v1,ks,us,n8,rfl,s08.trans (ad.b a p9),D8.m p9,p9 _ _ L8,R8.mono p9,Rk1.mono p9,?_⟩)
     rcases ho with rfl | ⟨_,c1,p1,sm1,rfl⟩
     ·exact uz I1 hx' ndo x0 sm st js jA
     ·exact tf I1 hx' ndo x0 sm st js jA sm1
    case A1=>
     rintro ⟨w1,ks0,c0,p0,j0,e0,hj0⟩ H9 p9
     subst e0
     have k1e:k1=.row c ps j:=by
      rcases ho with h | ⟨h,_⟩
      ·exact h
      ·omega
     subst k1e
     have R9:=R8.mono p9
     rw [ω] at R9
     obtain ⟨u0,ul,rfl,Ra,Rl⟩:=cf R9
     obtain ⟨al,vs,rfl,hal,hv⟩:=Kd.inv Rl
     obtain ⟨vl,uj,rfl,Rvl,Ruj⟩:=hv
     have L9:=p9 _ _ L8
     refine av ?_
     refine ⟨_,rfl,1,rfl,L,_,_,_,rfl,rfl,SqL.of L9,fK _ _,al,_,0,.str "row",rfl,rfl,SqT.of hal,af (j:=0) rfl,_,rfl,1,rfl,L,_,_,_,rfl,rfl,SqL.of L9,fK _ _,al,_,1,vl,rfl,rfl,SqT.of hal,af (j:=1) rfl,_,rfl,z3,fun m hm=>?_⟩
     have p10:=ac hm (.tup [.str "row",vl,v1])
     have R10:Rep (upd H9 m (.tup [.str "row",vl,v1])) (Kd.row c0 p0 (.row c ps j)).dv (.ref m):=lg aa (Rvl.mono p10) ((Rk1.mono p9).mono p10)
     have s10:=s08.trans (ad.b a (p9.trans p10))
     have D10:=D8.m (p9.trans p10)
     have L10:=p10 _ _ L9
     have Ra10:=Ra.mono p10
     generalize upd H9 m (.tup [.str "row",vl,v1])=H10 at R10 s10 D10 L10 Ra10 ⊢
     refine gnm ?_
     dsimp only
     refine ⟨_,rfl,.inl ⟨rfl,_,SqL.of L10⟩,L,_,_,rfl,rfl,L10,dy _ _,?_⟩
     rw [u_]
     have sB:=aE.upd H10 L (.lst u0)
     have tB:=sB.tups L10
     refine nx3 _ _ ⟨.row c0 p0 (.row c ps j),.ref m,ks0,u0,n8,rfl,fun g ob hg e=>sB g ob (ae e hL) (s10 g ob hg e),D10.b sB (ϊ La),aa,aU (fun d hd v r=>by obtain ⟨y,_,rfl⟩:=Δ.mp hd; exact Kd.tupS tB r) Ra10,Kd.tupS tB R10,wR I1 hj0 hx' ndo x0 sm st js jA⟩
    refine ⟨_,rfl,rfl,_,rfl,aQ (fun h1=>?_) (fun _=>qF H8 (ad.refl _))⟩
    have w1:=eqI h1
    refine ⟨_,rfl,Χ _,fun b hb=>⟨L,b,us,rfl,rfl,SqL.of (ac hb _ _ _ L8),SqL.of aa,_,rfl,?_⟩⟩
    have p9:=ac hb (.lst [])
    by_cases ne:ks=[]
    ·have e:us=[]:=l8 (by rw [lus,ne]; rfl)
     rw [e]
     exact aA (qF _ p9)
    obtain ⟨ks0,kl,e0⟩:=fJ ne
    have R9:=R8.mono p9
    rw [e0,ω] at R9
    obtain ⟨u0,ul,eu,Ra,Rl⟩:=cf R9
    subst eu
    obtain ⟨al,vs,rfl,hal,hv⟩:=Kd.inv Rl
    have L9:=p9 _ _ L8
    have ee:(!(u0 ++ [V.ref al]).isEmpty)=true:=by simp
    rw [ee]
    refine av ⟨_,rfl,1,rfl,L,_,_,_,rfl,rfl,SqL.of L9,fK _ _,al,_,0,.str kl.word,rfl,rfl,SqT.of hal,af (j:=0) rfl,rfl,_,rfl,aQ (fun h2=>?_) (fun _=>qF _ p9)⟩
    have hw:kl.word=η "row":=V.str.inj (of_decide_eq_true h2)
    obtain ⟨c0,p0,j0,ek⟩:=vR hw
    subst ek
    obtain ⟨vl,uj,rfl,Rvl,Ruj⟩:=hv
    obtain ⟨bj,vj',rfl,hbj⟩:=xR Ruj
    refine ⟨_,rfl,1,rfl,L,_,_,_,rfl,rfl,SqL.of L9,fK _ _,al,_,2,.ref bj,rfl,rfl,SqT.of hal,af (j:=2) rfl,bj,_,0,.str j0.word,rfl,rfl,SqT.of hbj,af (j:=0) rfl,rfl,_,rfl,?_⟩
    by_cases hj:j0.word=η "row"
    ·rw [show (!decide (V.str j0.word=V.str (η "row")))=false by rw [br,decide_eq_true hj]; rfl]
     exact aA (qF _ p9)
    ·rw [show (!decide (V.str j0.word=V.str (η "row")))=true by rw [br,decide_eq_false hj]; rfl]
     exact av (qT ⟨w1,ks0,c0,p0,j0,e0,hj⟩ _ p9)
   refine pZ (way=0/\0 < (i:Int)) ?A1 ?A0 (fun qT qF=>⟨_,rfl,rfl,_,rfl,aQ (fun h1=>⟨_,rfl,_,_,rfl,rfl,_,rfl,aQ (fun h2=>ifT (qT ⟨eqI h1,of_decide_eq_true h2⟩)) (fun _=>ifF qF)⟩) (fun _=>qF)⟩)
   case A0=>exact aA (nx2 _ _ ⟨.row c ps j,.ref g,n6,rfl,s07,D7,L7,Rk7,R7,.inl rfl⟩)
   case A1=>
    rintro ⟨w0,i0⟩
    refine av ⟨_,rfl,_,rfl,_,rfl,_,rfl,o,_,rfl,SqL.of (s07 _ _ oa hO),fun t' ht'=>?_⟩
    rw [iQ os i (by omega)]
    have p8:=ac ht' (.lst ((os.take i).map V.str))
    have ta':t'≠a:=fun e=>D7.some (e▸ht')
    refine ⟨a,t',n6,os.take i,_,rfl,D7.m p8,aa,ta',by rw [Ρ]; omega,fun z=>emp (Ϛ z),fun H8 u c1 p1 s8 D8 Ru sm1=>?_⟩
    have t8:cu H7 H8:=(ad.tups p8).trans ((D7.m p8).tups s8)
    refine ⟨z2,fun m hm=>⟨_,rfl,z3,fun m2 hm2=>?_⟩⟩
    have p9:=ac hm (.tup [.str "place",u])
    have p10:=ac hm2 (.tup [.str "pair",.ref m,.ref g])
    have t10:=t8.trans (ad.tups (p9.trans p10))
    refine gnm (nx2 _ _ ⟨.pair (.place c1 p1) (.row c ps j),.ref m2,_,rfl,s07.trans ((ad.b a p8).trans (s8.trans (ad.b a (p9.trans p10)))),D8.m (p9.trans p10),p10 _ _ (p9 _ _ (s8 _ _ La (p8 _ _ L7))),aU (fun d hd v r=>by obtain ⟨y,_,rfl⟩:=Δ.mp hd; exact Kd.tupS t10 r) Rk7,nt aa ((jX aa (Ru.mono p9)).mono p10) (Kd.tupS t10 R7),.inr ⟨w0,c1,p1,sm1,rfl⟩⟩)
  refine ⟨_,rfl,_,_,rfl,rfl,(by show (0:Int) < 2; decide),rfl,_,rfl,aQ (fun _=>?_) (fun _=>nx _ _ ⟨.whole,.ref e,_,rfl,s05,D5,L5,R5,Rv5,W5,trivial,by decide,trivial⟩)⟩
  refine ⟨_,rfl,_,rfl,_,rfl,_,_,rfl,rfl,_,rfl,o,_,rfl,SqL.of (s05 _ _ oa hO),fun t' ht'=>?_⟩
  rw [rE os i (by omega)]
  have p6:=ac ht' (.lst ((os.take (i + 1)).map V.str))
  have ta':t'≠a:=fun e=>D5.some (e▸ht')
  refine ⟨a,t',_,os.take (i + 1),_,rfl,D5.m p6,aa,ta',by rw [Ρ]; omega,fun z=>emp (Ϛ z),fun H8 u c1 p1 s8 D8 Ru sm1=>?_⟩
  have t8:cu H5 H8:=(ad.tups p6).trans ((D5.m p6).tups s8)
  refine ⟨z2,fun m hm=>?_⟩
  have p9:=ac hm (.tup [.str "place",u])
  have t9:=t8.trans (ad.tups p9)
  refine gnm (nx _ _ ⟨.place c1 p1,.ref m,_,rfl,s05.trans ((ad.b a p6).trans (s8.trans (ad.b a p9))),D8.m p9,p9 _ _ (s8 _ _ La (p6 _ _ L5)),aU (fun d hd v r=>by obtain ⟨y,_,rfl⟩:=Δ.mp hd; exact Kd.tupS t9 r) R5,cM t9 (gt c ps) Rv5,jX aa (Ru.mono p9),pY sm1,by show 1<=1; decide,sm1.k (fun y hy=>Ϛ hy) (fun z=>absurd rfl z)⟩)
 rintro σ H1 ⟨o3,o4,o5,o6,o7,o8,o9,ks,us,n1,rfl,s1,D1,L1,R1,I1⟩
 have bk:BK os ks:=⟨by have:=I1.bnd; rwa [ζ,ϛ] at this,I1.all,by have:=I1.len; rw [ζ] at this; omega⟩
 have lus:us.length=ks.length:=by have:=R1.length; rwa [ζ] at this
 dsimp only
 refine fW (fun σ' H6=>∃ (ks:List Kd) (us:List V) (n6:Nat),σ'=[some (.ref o),some (.ref a),some (.ref L),o3,o4,o5,o6,o7,o8,o9]/\aE a H H6/\Dr H6 a n6/\H6 L=some (.lst us)/\Reps H6 (ks.map Kd.dv) us/\BK os ks) ?N4 (fun nx=>?_)
 case N4=>
  rintro _ H6 ⟨ks,us,n6,rfl,s6,D6,L6,R6,bk⟩
  exact ⟨_,rfl,q H6 L us ks n6 s6 D6 hL La L6 R6 bk⟩
 refine ⟨_,rfl,L,us,rfl,.inl (SqL.of L1),_,_,rfl,rfl,_,rfl,aQ (fun h1=>?_) (fun _=>aA (nx _ _ ⟨ks,us,n1,rfl,s1,D1,L1,R1,bk⟩))⟩
 have l3:us.length < 4:=by have:((us.length:Nat):Int) < 4:=of_decide_eq_true h1; omega
 refine ⟨_,rfl,a,_,rfl,D1,fun H2 z s2 D2 _ _=>?_⟩
 have t2:cu H1 H2:=D1.tups s2
 have R2:=aU (fun d hd v r=>by obtain ⟨y,_,rfl⟩:=Δ.mp hd; exact Kd.tupS t2 r) R1
 have s02:=s1.trans s2
 have L2':=s2 _ _ La L1
 refine ⟨_,_,rfl,rfl,(by show (0:Int) < 3; decide),rfl,_,rfl,aQ (fun _=>?_) (fun _=>nx _ _ ⟨ks,us,_,rfl,s02,D2,L2',R2,bk⟩)⟩
 refine ⟨_,rfl,.inl ⟨rfl,_,SqL.of L2'⟩,_,rfl,_,rfl,a,o,_,os,_,rfl,D2,s02 _ _ oa hO,oa,l4,emp,fun H3 u c ps s3 D3 Ru sm=>?_⟩
 have t3:cu H2 H3:=D2.tups s3
 have R3:=aU (fun d hd v r=>by obtain ⟨y,_,rfl⟩:=Δ.mp hd; exact Kd.tupS t3 r) R2
 refine ⟨z1,fun m1 hm1=>⟨z1,fun m2 hm2=>⟨z3,fun m3 hm3=>⟨z3,fun m4 hm4=>?_⟩⟩⟩⟩
 have p1:=ac hm1 (.tup [.str "whole"])
 have p2:=ac hm2 (.tup [.str "whole"])
 have p3:=ac hm3 (.tup [.str "pair",.ref m1,.ref m2])
 have p4:=ac hm4 (.tup [.str "row",u,.ref m3])
 have p14:=p1.trans (p2.trans (p3.trans p4))
 have Rr:Rep _ (Kd.row c ps (.pair .whole .whole)).dv (.ref m4):=lg aa (Ru.mono p14) (Rep.mono p4 (nt aa ((gm (p2 _ _ aa)).mono p3) ((gm aa).mono p3)))
 have L4:=p14 _ _ (s3 _ _ La L2')
 have R4:=R3.mono p14
 have s04:=(s02.trans s3).trans (ad.b a p14)
 have D4:=D3.m p14
 generalize upd _ m4 (.tup [.str "row",u,.ref m3])=H4 at Rr L4 R4 s04 D4 ⊢
 refine ⟨L,_,_,rfl,rfl,L4,by rw [ψ]; omega,?_⟩
 have sB:=aE.upd H4 L (.lst (us ++ [.ref m4]))
 have tB:=sB.tups L4
 refine nx _ _ ⟨ks ++ [.row c ps (.pair .whole .whole)],us ++ [.ref m4],_,rfl,fun g ob hg e=>sB g ob (ae e hL) (s04 g ob hg e),D4.b sB (ϊ La),aa,?_,xt bk (by omega) sm⟩
 rw [ω]
 exact Reps.append (aU (fun d hd v r=>by obtain ⟨y,_,rfl⟩:=Δ.mp hd; exact Kd.tupS tB r) R4) (aP (Kd.tupS tB Rr))
end
abbrev tu:Stmt:=top 65
theorem wO {k:Nat} {ix:List Nat} {g:TG} {tt:TT} {te:TE} {σ:St} {H1:Hp} {Q:List V->Hp->Prop} {K:PySem.W.Frag} {a:Addr} {xs:List V} (Pv:Nat->List V->Hp->Prop) (h0:Pv 0 [] H1) (hl:∀ i zs H,Pv i zs H->SqL K H a xs)
  (hs:∀ i zs H x p,xs[i]?=some x->Pv i zs H->H p=none->cC k ix g tt te σ (.ref p) zs (upd H p (.tup [.int i,x])) (Pv (i + 1))) (hd:∀ zs H,Pv xs.length zs H->Q zs H):rLC (Ite K a) k ix g tt te σ H1 Q:=by
 refine qo (n:=xs.length) Pv h0 (fun i zs H h p=>?_) (fun zs H p=>?_) (fun i zs H x H' h p y=>?_) hd
 ·exact ⟨xs,xs[i],hl i zs H p,by simp [h]⟩
 ·exact ⟨xs,hl _ zs H p,τ _⟩
 ·obtain ⟨c,x',hb,e1,e2,hx⟩:=y
  subst e1 e2
  exact hs i zs H x' c (hx xs (hl i zs H p)) p hb
theorem cL (xs:List V) (n:Nat):aJ xs (some (n:Int)) none=xs.drop n:=by
 unfold aJ
 rw [HT.sIx_none,HT.sIx_nat]
 rcases Nat.le_total n xs.length with h | h
 ·rw [u6 h]
  exact m9 (by rw [ϧ]; omega)
 ·rw [DO h,List.drop_eq_nil_of_le (τ _),List.drop_eq_nil_of_le h,List.take_nil]
def nmA (xs:List Str) (c:Int) (k:Nat):Str:=xs.getD ((c + (k:Int)) % 5).toNat default
theorem fA {xs:List Str} (nms:Nms xs) (c:Int) (k:Nat):xs[((c + (k:Int)) % 5).toNat]?=some (nmA xs c k):=by
 obtain ⟨b0,b1⟩:=aN (a:=c + (k:Int)) 5 (by decide)
 have hl:=nms.len
 have hlt:((c + (k:Int)) % 5).toNat < xs.length:=by omega
 unfold nmA
 rw [Ζ hlt]
 simp [t7,hlt]
theorem qN {xs:List Str} (nms:Nms xs) (c:Int) (k:Nat):nmA xs c k∈xs:=Α (fA nms c k)
theorem tF {xs:List Str} (nms:Nms xs) (c:Int) {m:Nat} (hm:m<=5):((Ω m).map (nmA xs c)).Nodup:=by
 rw [B6,A9]
 have:∀ i j:Nat,i < 5->j < 5->i≠j->nmA xs c i≠nmA xs c j:=fun i j hi hj hij e=>by
  have h1:=fA nms c i
  have h2:=fA nms c j
  rw [<- e] at h2
  obtain ⟨l1,e1⟩:=π.mp h1
  obtain ⟨l2,e2⟩:=π.mp h2
  have:=(B8 nms.nd).mp (e1.trans e2.symm)
  obtain ⟨b0,b1⟩:=aN (a:=c + (i:Int)) 5 (by decide)
  obtain ⟨d0,d1⟩:=aN (a:=c + (j:Int)) 5 (by decide)
  omega
 refine DH.imp_of_mem (fun {i j} hi hj hij=>this i j (by have:=ϸ.mp hi; omega) (by have:=ϸ.mp hj; omega) hij) (B6.mp List.nodup_range)
structure yX (xs os:List Str):Prop where
 nd:os.Nodup
 len:os.length<=4
 mem:∀ x∈os,x∈xs
theorem Kd.All.imp {P Q:Int->List Pr->Prop} (h:∀ c ps,P c ps->Q c ps):∀ {k:Kd},k.All P->k.All Q
 | .whole,_=>trivial
 | .place _ _,x=>h _ _ x
 | .row _ _ _,x=>⟨h _ _ x.1,Kd.All.imp h x.2⟩
 | .pair _ _,x=>⟨Kd.All.imp h x.1,Kd.All.imp h x.2⟩
theorem uV {xs os ns:List Str} {ks:List Kd} {ps:List Prm} {x:Str} {e:Dv} (nms:Nms xs) (O:yX xs os) (bk:BK os ks) (hn:ns.Perm os) (hp:ps.map (·.2)=ks) (nd:(ps.map (·.1)).Nodup) (hx:∀ p∈ps,p.1∈xs) (df:eP (.str x)=true) (sx:(Dv.str x).small=true) (ex:exD e=true) (se:e.small=true) (pe:L2.Pl 8 e):be (Rw.df x ns ps e).dv=true/\(Rw.df x ns ps e).dv.small=true/\(Rw.df x ns ps e).Ok/\L2.Pl 12 (Rw.df x ns ps e).dv:=by
 have lp:ps.length<=4:=by have:=bk.len; rw [<- hp,ζ] at this; exact this
 have ln:ns.length<=4:=by rw [hn.length_eq]; exact O.len
 have mn:∀ y∈ns,nmB y=true:=fun y hy=>nms.nm y (O.mem y (hn.mem_iff.mp hy))
 have kA:∀ p∈ps,p.2.size<=4/\p.2.All (SmK os):=fun p hp'=>bk.all p.2 (by rw [<- hp]; exact f_ hp')
 have kS:∀ p∈ps,p.2.All SL:=fun p hp'=>Kd.All.imp (fun c qs h=>kD h.c0 h.c1 h.can (by have:=h.len; omega) fun q hq=>⟨nms.nm _ (O.mem _ (h.all q hq).2),(h.all q hq).1⟩) (kA p hp').2
 refine ⟨?_,?_,?_,?_⟩
 ·show be (.tup [.str "def",.str x,.tup (ns.map Dv.str),.tup (ps.map cP),e])=true
  rw [le,df,ex,DJ]
  have h1:dJ (.tup (ns.map Dv.str))=true:=by
   show ((decide ((0:Int)<=((ns.map Dv.str).length:Int)) && decide (((ns.map Dv.str).length:Int)<=4)) && (ns.map Dv.str).all bn)=true
   rw [ζ,decide_eq_true (by omega),decide_eq_true (by omega),ϓ,ϓ,u9,Ϯ]
   exact fun y hy=>mn y hy
  have h2:cz (.tup (ps.map cP))=true:=by
   show ((decide ((0:Int)<=((ps.map cP).length:Int)) && decide (((ps.map cP).length:Int)<=4)) && (ps.map cP).all cR)=true
   rw [ζ,decide_eq_true (by omega),decide_eq_true (by omega),ϓ,ϓ,u9,Ϯ]
   intro p hp'
   show (nmB p.1 && decide (aF p.2.dv<=12))=true
   rw [nms.nm _ (hx p hp'),fC (kS p hp'),decide_eq_true (by have:=(kA p hp').1; omega)]; rfl
  rw [h1,h2]; rfl
 ·refine aY (fun d hd=>?_) (by show 5<=1000; decide)
  rcases θ.mp hd with rfl | hd
  ·decide +kernel
  rcases θ.mp hd with rfl | hd
  ·exact sx
  rcases θ.mp hd with rfl | hd
  ·exact aY (fun d hd=>by obtain ⟨y,hy,rfl⟩:=Δ.mp hd; exact cp (mn y hy)) (by rw [ζ]; omega)
  rcases θ.mp hd with rfl | hd
  ·refine aY (fun d hd=>?_) (by rw [ζ]; omega)
   obtain ⟨p,hp',rfl⟩:=Δ.mp hd
   refine aY (fun d hd=>?_) (by show 2<=1000; decide)
   rcases θ.mp hd with rfl | hd
   ·exact cp (nms.nm _ (hx p hp'))
   ·rw [ε.mp hd]; exact dB (kS p hp')
  ·rw [ε.mp hd]; exact se
 ·refine ⟨hn.nodup_iff.mpr O.nd,nd,?_,ln,lp,fun p hp'=>⟨by have:=(kA p hp').1; omega,Kd.All.imp (fun c qs h=>by have:=h.len; show qs.length<=40; omega) (kA p hp').2⟩⟩
  unfold iL
  rw [show ps.flatMap (fun p=>p.2.pts)=ks.flatMap Kd.pts by rw [<- hp,List.flatMap_map],jZ (os:=os) (fun y=>hn.mem_iff),bk.bnd]
  exact decide_eq_true hn.length_eq.symm
 ·refine .tup fun d hd=>?_
  rcases θ.mp hd with rfl | hd
  ·exact .str
  rcases θ.mp hd with rfl | hd
  ·exact .str
  rcases θ.mp hd with rfl | hd
  ·exact .tup fun d hd=>by obtain ⟨y,hy,rfl⟩:=Δ.mp hd; exact .str
  rcases θ.mp hd with rfl | hd
  ·refine .tup fun d hd=>?_
   obtain ⟨p,hp',rfl⟩:=Δ.mp hd
   refine .tup fun d hd=>?_
   rcases θ.mp hd with rfl | hd
   ·exact .str
   ·rw [ε.mp hd]; exact p.2.pl.up (by have:=(kA p hp').1; omega)
  ·rw [ε.mp hd]; exact pe.up (by decide)
theorem vz (os:List Str) (n:Nat):(os.drop n ++ os.take n).Perm os:=(List.perm_append_comm).trans (by rw [h_])
theorem jq {H:Hp}:∀ ns:List Str,Reps H (ns.map Dv.str) (ns.map V.str)
 | []=>by simp [Reps]
 | n :: ns=>by simp only [Ο,Reps]; exact ⟨_,_,rfl,by simp only [Rep],jq ns⟩
def yt:Sp:=fun vs H Q _=>∃ (x:Str) (a r:Addr) (n:Nat) (xs:List Str),vs=[.str x,.ref a,.ref r]/\Dr H a n/\H r=some (.lst (xs.map V.str))/\r≠a/\Nms xs/\eP (.str x)=true/\(Dv.str x).small=true /\
 ∀ (H':Hp) (v:V) (ns:List Str) (ps:List Prm) (e:Dv) (n':Nat),aE a H H'->Dr H' a n'->Rep H' (Rw.df x ns ps e).dv v->be (Rw.df x ns ps e).dv=true->(Rw.df x ns ps e).dv.small=true->(Rw.df x ns ps e).Ok->L2.Pl 12 (Rw.df x ns ps e).dv->Q v H'
section
variable {P:Β} {w:Ξ} {K:PySem.W.Frag} {mg:Str->Option δ} {base:Heap}
theorem tM:ap ["_law_f","_law_draws_here","_law_names_here","_law_cell","_law_order","_law_kinds","_law_params","_law_told"] ["_law_f","_law_draws_here","_law_names_here"] (ai tu):=⟨rfl,rfl,rfl,by decide +kernel,rfl,by decide +kernel,by decide +kernel⟩
theorem yT {f:Addr} {fd:Μ} {k:Nat} (F:Fun K "_law_def" "_law_def" tu f fd) (T:Txt K mg) (D_law_next:Def P w K mg base k "_law_next" ["_law_draws_here"] eQ) (D_law_bound_kinds:Def P w K mg base k "_law_bound_kinds" ["_law_order","_law_draws_here"] AQ) (D_law_expression:Def P w K mg base k "_law_expression" ["_law_draws_here","_law_names_here"] pX):aK P w K mg base CX0 (k + 1) f fd ["_law_f","_law_draws_here","_law_names_here"] yt:=by
 have nd:(["_law_f","_law_draws_here","_law_names_here","_law_cell","_law_order","_law_kinds","_law_params","_law_told"]:List Str).Nodup:=tM.nd
 refine F.ok tM (fun vs H Q E h=>?_) (fun cdv A outer s H vs Q E hr h=>?_)
 ·obtain ⟨x,a,r,n,xs,rfl,_⟩:=h
  rfl
 obtain ⟨x,a,r,n,xs,rfl,hD,hR,ra,nms,df,sx,q⟩:=h
 refine ⟨_,(@un _ _ _ (wbO (wbM 3 nd rfl (CV rfl) (waq D_law_next hr rfl (wae (wv 1 rfl) waf rfl) (by decide) rfl rfl) rfl (by trivial)) (wbO (wbJ ["_law_k"] ([2,3]) 4 nd rfl rfl (wbk rfl T.range (wae (waQ aB (waQ bC (wv 3 rfl) waC) waC) waf rfl) rfl) (.of rfl) rfl (fun _ _ _=>⟨pg_name (i:=0) (cc (l:=["_law_k","_law_names_here","_law_cell"]) ((by decide +kernel)) rfl) rfl (Λ rfl)⟩) (bD (by decide)) (fun _ _ _=>wbx) (fun _ _ _=>(waD (md K rfl) (wv 1 rfl) (waQ aB (waQ bE (wv 2 rfl) (wv 0 rfl)) waC) (fun _ _=>rfl))) rfl (by intro _; rfl)) (wbO (wbI (wbS aG (waQ aB (waQ bC (wv 3 rfl) waC) waC) waC (ak _)) (wbQ (wbG (wak PySem.F.plainAttrs_list PySem.F.slot_list_reverse PySem.F.type_list_reverse oN (wv 4 rfl) rfl rfl) rfl)) wbP) (wbO (wbM 5 nd rfl (Λ rfl) (waq D_law_bound_kinds hr rfl (wae (wv 4 rfl) (wae (wv 1 rfl) waf rfl) rfl) (by decide) rfl rfl) rfl (by trivial)) (wbO (wbJ (["_law_k","_law_kind"]) ([2,3]) 6 nd rfl rfl (wbg rfl T.enumerate (wae (wv 5 rfl) waf rfl) rfl) (.of rfl) rfl (fun _ _ _=>⟨pg_tup rfl (pgs_cons (pg_name (i:=0) (cc (l:=["_law_k","_law_kind","_law_names_here","_law_cell"]) ((by decide +kernel)) rfl) rfl (Λ rfl)) (pgs_cons (pg_name (i:=1) (cc (l:=["_law_k","_law_kind","_law_names_here","_law_cell"]) ((by decide +kernel)) rfl) rfl (Λ rfl)) pgs_nil))⟩) (oH (by decide) (by decide)) (fun _ _ _=>wbx) (fun _ _ _=>(waX (wae (waD (md K rfl) (wv 2 rfl) (waQ aB (waQ bE (waQ bC (wv 3 rfl) waC) (wv 0 rfl)) waC) (fun _ _=>rfl)) (wae (wv 1 rfl) waf rfl) rfl))) rfl (by intro _; rfl)) (wbO (wbM 7 nd rfl (Λ rfl) (waQ gA (waT bz (wv 4 rfl) (wbA (waQ aB (waQ bC (wv 3 rfl) waC) waC)) wbz) (waT bz (wv 4 rfl) wbz (wbA (waQ aB (waQ bC (wv 3 rfl) waC) waC)))) rfl (by trivial)) (wbQ (wbK (waX (wae waV (wae (wv 0 rfl) (wae (wam cD rfl T.tuple (by decide +kernel) (wae (wv 7 rfl) waf rfl) (by decide) (by decide) rfl rfl) (wae (wam cD rfl T.tuple (by decide +kernel) (wae (wv 6 rfl) waf rfl) (by decide) (by decide) rfl rfl) (wae (waq D_law_expression hr rfl (wae (wv 1 rfl) (wae (wv 2 rfl) waf rfl) rfl) (by decide) rfl rfl) waf rfl) rfl) rfl) rfl) rfl))))))))))),?_⟩
 refine ⟨_,rfl,a,n,rfl,hD,fun H1 c s1 D1 c0 c1=>?_⟩
 have r1:=s1 _ _ ra hR
 refine gnm ?_
 dsimp only
 obtain ⟨m0,m1⟩:=aN (a:=c / 5) 5 (by decide)
 refine ⟨_,rfl,_,_,rfl,rfl,⟨by decide,by decide⟩,_,_,rfl,rfl,(by show (0:Int) < 5; decide),c / 5 % 5,rfl,by omega,by omega,kW (F:=fun k=>V.str (nmA xs c k)) (n:=(c / 5 % 5).toNat) (fun i ys hi ly=>bF ?_) ?_⟩
 ·refine ⟨_,rfl,_,rfl,_,rfl,_,_,rfl,rfl,_,_,rfl,rfl,(by show (0:Int) < 5; decide),r,_,_,.str (nmA xs c i),rfl,rfl,SqL.of r1,?_,by rw [ly,ψ]; omega,rfl,rfl⟩
  obtain ⟨b0,b1⟩:=aN (a:=c + (i:Int)) 5 (by decide)
  have:=af (show (xs.map V.str)[((c + (i:Int)) % 5).toNat]?=some (V.str (nmA xs c i)) by rw [Κ,fA nms c i]; rfl)
  rw [show ((((c + (i:Int)) % 5).toNat:Nat):Int)=(c + (i:Int)) % 5 by omega] at this
  simpa using this
 intro o ho
 have O0:yX xs ((Ω (c / 5 % 5).toNat).map (nmA xs c)):=⟨tF nms c (by omega),by rw [ζ,List.length_range]; omega,fun y hy=>by obtain ⟨j,_,rfl⟩:=Δ.mp hy; exact qN nms c j⟩
 have o2:upd H1 o (.lst ((Ω (c / 5 % 5).toNat).map fun k=>V.str (nmA xs c k))) o=some (.lst (((Ω (c / 5 % 5).toNat).map (nmA xs c)).map V.str)):=by rw [aa,ϋ]; rfl
 have p2:=ac ho (.lst ((Ω (c / 5 % 5).toNat).map fun k=>V.str (nmA xs c k)))
 have oa:o≠a:=fun e=>D1.some (e▸ho)
 have hO:H o=none:=by
  cases e:H o with
  | none=>rfl
  | some u=>rw [s1 _ _ oa e] at ho; cases ho
 have s2:=s1.trans (ad.b a p2)
 have D2:=D1.m p2
 generalize (Ω (c / 5 % 5).toNat).map (nmA xs c)=os0 at O0 o2
 generalize upd H1 o (.lst ((Ω (c / 5 % 5).toNat).map fun k=>V.str (nmA xs c k)))=H2 at o2 s2 D2 p2 ⊢
 refine gnm ?_
 dsimp only
 refine fW (fun σ' H3=>∃ os:List Str,σ'=[some (.str x),some (.ref a),some (.ref r),some (.int c),some (.ref o),none,none,none]/\aE a H H3/\Dr H3 a (n - 1)/\H3 o=some (.lst (os.map V.str))/\yX xs os) ?N1 (fun nx=>?_)
 case N1=>
  rintro _ H3 ⟨os,rfl,s3,D3,o3,O⟩
  have r3:=s3 _ _ ra hR
  refine ⟨_,rfl,_,rfl,o,a,_,os,rfl,D3,o3,oa,O.nd,O.len,fun y hy=>nms.nm y (O.mem y hy),fun H4 l us ks n4 s4 D4 hl la Hl Rk bk=>?_⟩
  have s04:=s3.trans s4
  have r4:=s04 _ _ ra hR
  have o4:=s4 _ _ oa o3
  have lus:us.length=ks.length:=by have:=Rk.length; rwa [ζ] at this
  have lk:=bk.len
  refine gnm ?_
  dsimp only
  refine ⟨_,rfl,l,rfl,⟨us,SqL.of Hl⟩,wO (xs:=us) (fun i zs H'=>ad H4 H'/\∃ pl:List Prm,zs.length=i/\Reps H' (pl.map cP) zs/\pl.map (·.2)=ks.take i/\pl.map (·.1)=(Ω i).map (nmA xs (c / 50))) ⟨ad.refl _,[],rfl,by simp [Reps],rfl,rfl⟩ (fun i zs H' p=>SqL.of (p.1 _ _ Hl)) ?L1 ?_⟩
  case L1=>
   rintro i zs H5 u p hu ⟨s5,pl,lz,Rz,e1,e2⟩ hp
   obtain ⟨kd,hkd,Ru⟩:=cQ Rk hu
   have hi:i < us.length:=(π.mp hu).1
   have p6:=ac hp (.tup [.int i,u])
   have s6:=s5.trans p6
   refine iu aa ⟨_,rfl,_,rfl,_,_,rfl,rfl,⟨by decide,by decide⟩,_,rfl,_,_,rfl,rfl,_,_,rfl,rfl,(by show (0:Int) < 5; decide),r,_,_,.str (nmA xs (c / 50) i),rfl,rfl,SqL.of (s6 _ _ r4),?_,_,rfl,z2,fun t ht=>⟨by rw [lz,ψ]; omega,?_⟩⟩
   ·obtain ⟨b0,b1⟩:=aN (a:=c / 50 + (i:Int)) 5 (by decide)
    have:=af (show (xs.map V.str)[((c / 50 + (i:Int)) % 5).toNat]?=some (V.str (nmA xs (c / 50) i)) by rw [Κ,fA nms (c / 50) i]; rfl)
    rwa [show ((((c / 50 + (i:Int)) % 5).toNat:Nat):Int)=(c / 50 + (i:Int)) % 5 by omega] at this
   ·have p7:=ac ht (.tup [.str (nmA xs (c / 50) i),u])
    refine ⟨s6.trans p7,pl ++ [(nmA xs (c / 50) i,kd)],by rw [ς,lz]; rfl,?_,?_,?_⟩
    ·rw [ω]
     refine Reps.append (Rz.mono (p6.trans p7)) (aP (show Rep _ (.tup [.str (nmA xs (c / 50) i),kd.dv]) (.ref t) from ?_))
     rw [Rep]
     exact ⟨t,_,rfl,aa,by simp only [Reps]; exact ⟨_,_,rfl,by simp only [Rep],_,_,rfl,(Ru.mono s6).mono p7,rfl⟩⟩
    ·rw [ω,e1,Ϡ,hkd]; rfl
    ·rw [ω,e2,Ci,ω]; rfl
  rintro zs H5 ⟨s5,ps,lz,Rz,e1,e2⟩ pp hpp
  rw [lus,ϛ] at e1
  rw [lus] at e2
  have p6:=ac hpp (.lst zs)
  have h6:upd H5 pp (.lst zs) pp=some (.lst zs):=aa
  have s46:=s5.trans p6
  have R6:=Rz.mono p6
  have pa:pp≠a:=fun e=>(D4.m s5).some (e▸hpp)
  generalize upd H5 pp (.lst zs)=H6 at h6 s46 R6 p6 ⊢
  refine gnm ?_
  dsimp only
  obtain ⟨g0,g1⟩:=aN (a:=c / 250) 5 (by decide)
  obtain ⟨gn,hgn⟩:∃ gn:Nat,c / 250 % 5=(gn:Int):=⟨(c / 250 % 5).toNat,by omega⟩
  refine ⟨_,rfl,_,rfl,_,_,rfl,rfl,⟨by decide,by decide⟩,_,_,rfl,rfl,(by show (0:Int) < 5; decide),_,rfl,o,_,rfl,SqL.of (s46 _ _ o4),fun t1 ht1=>?_⟩
  have p7:=ac ht1 (.lst (aJ (os.map V.str) (some (c / 250 % 5)) none))
  refine ⟨_,rfl,_,rfl,_,_,rfl,rfl,⟨by decide,by decide⟩,_,_,rfl,rfl,(by show (0:Int) < 5; decide),_,rfl,o,_,rfl,SqL.of (p7 _ _ (s46 _ _ o4)),fun t2 ht2=>?_⟩
  have p8:=ac ht2 (.lst (aJ (os.map V.str) none (some (c / 250 % 5))))
  refine ⟨t1,t2,_,_,rfl,rfl,p8 _ _ aa,aa,?_,fun t3 ht3=>?_⟩
  ·rw [hgn,cL,cW,ϧ,Ρ,ζ,ψ]; have:=O.len; omega
  have p9:=ac ht3 (.lst (aJ (os.map V.str) (some (c / 250 % 5)) none ++ aJ (os.map V.str) none (some (c / 250 % 5))))
  have e9:aJ (os.map V.str) (some (c / 250 % 5)) none ++ aJ (os.map V.str) none (some (c / 250 % 5))=(os.drop gn ++ os.take gn).map V.str:=by rw [hgn,cL,cW,ω,DK,k_]
  have h9:=aa (H:=upd (upd H6 t1 (.lst (aJ (os.map V.str) (some (c / 250 % 5)) none))) t2 (.lst (aJ (os.map V.str) none (some (c / 250 % 5))))) (a:=t3) (o:=.lst (aJ (os.map V.str) (some (c / 250 % 5)) none ++ aJ (os.map V.str) none (some (c / 250 % 5))))
  have s69:=p7.trans (p8.trans p9)
  rw [e9] at h9 s69
  rw [e9]
  generalize upd _ t3 _=H9 at h9 s69 ⊢
  refine gnm ?_
  dsimp only
  have s49:=s46.trans s69
  refine ⟨_,rfl,_,rfl,t3,_,rfl,.inl ⟨SqL.of h9,fun u1 hu1=>?_⟩⟩
  have p10:=ac hu1 (.tup ((os.drop gn ++ os.take gn).map V.str))
  refine ⟨_,rfl,pp,_,rfl,.inl ⟨SqL.of (p10 _ _ (s69 _ _ h6)),fun u2 hu2=>?_⟩⟩
  have p11:=ac hu2 (.tup zs)
  have q1:=p11 _ _ (aa (H:=H9) (a:=u1) (o:=.tup ((os.drop gn ++ os.take gn).map V.str)))
  have q2:=aa (H:=upd H9 u1 (.tup ((os.drop gn ++ os.take gn).map V.str))) (a:=u2) (o:=.tup zs)
  have s411:=s49.trans (p10.trans p11)
  have R11:=R6.mono (s69.trans (p10.trans p11))
  generalize upd (upd H9 u1 (.tup ((os.drop gn ++ os.take gn).map V.str))) u2 (.tup zs)=H11 at q1 q2 s411 R11 ⊢
  refine ⟨_,rfl,_,rfl,a,r,n4,xs,rfl,D4.m s411,s411 _ _ r4,ra,nms,fun H12 ve e s12 D12 Re ee se pe=>⟨by rw [ψ]; show 5<=16777216; decide,fun w0 hw0=>?_⟩⟩
  have t12:=(D4.m s411).tups s12
  have p13:=ac hw0 (.tup [.str "def",.str x,.ref u1,.ref u2,ve])
  have pse:∀ p∈ps,p.1∈xs:=fun p hp=>by
   have:p.1∈ps.map (·.1):=f_ hp
   rw [e2] at this
   obtain ⟨j,_,hj⟩:=Δ.mp this
   rw [<- hj]; exact qN nms _ j
  obtain ⟨g1',g2',g3',g4'⟩:=uV (ns:=os.drop gn ++ os.take gn) nms O bk (vz os gn) e1 (by rw [e2]; exact tF nms _ (by omega)) pse df sx ee se pe
  refine q _ _ _ ps e _ ((s04.trans (ad.b a s411)).trans (s12.trans (ad.b a p13))) (D12.m p13) ?_ g1' g2' g3' g4'
  show Rep _ (.tup [.str "def",.str x,.tup ((os.drop gn ++ os.take gn).map Dv.str),.tup (ps.map cP),e]) (.ref w0)
  rw [Rep]
  refine ⟨w0,_,rfl,aa,?_⟩
  have h1:Rep (upd H12 w0 (.tup [.str "def",.str x,.ref u1,.ref u2,ve])) (.tup ((os.drop gn ++ os.take gn).map Dv.str)) (.ref u1):=by
   rw [Rep]; exact ⟨u1,_,rfl,p13 _ _ (t12 _ _ q1),jq _⟩
  have h2:Rep (upd H12 w0 (.tup [.str "def",.str x,.ref u1,.ref u2,ve])) (.tup (ps.map cP)) (.ref u2):=by
   rw [Rep]
   refine ⟨u2,zs,rfl,p13 _ _ (t12 _ _ q2),?_⟩
   refine aU (fun d hd v rr=>?_) R11
   obtain ⟨p,hp,rfl⟩:=Δ.mp hd
   exact cM (t12.trans (ad.tups p13)) (n:=p.2.size + 4) (.tup fun d hd=>by
    rcases θ.mp hd with rfl | hd
    ·exact .str
    ·rw [ε.mp hd]; exact p.2.pl) rr
  simp only [Reps]
  exact ⟨_,_,rfl,by simp only [Rep],_,_,rfl,by simp only [Rep],_,_,rfl,h1,_,_,rfl,h2,_,_,rfl,Re.mono p13,rfl⟩
 refine ⟨_,rfl,_,_,rfl,rfl,⟨by decide,by decide⟩,_,_,rfl,rfl,(by show (0:Int) < 2; decide),rfl,_,rfl,aQ (fun _=>?_) (fun _=>nx _ _ ⟨os0,rfl,s2,D2,o2,O0⟩)⟩
 refine ⟨_,rfl,.inl ⟨rfl,_,SqL.of o2⟩,o,_,rfl,rfl,o2,?_⟩
 have sB:=aE.upd H2 o (.lst (os0.map V.str).reverse)
 refine nx _ _ ⟨os0.reverse,rfl,fun g ob hg e=>sB g ob (ae e hO) (s2 g ob hg e),D2.b sB (ϊ oa),by rw [aa,CJ],⟨(List.reverse_perm os0).nodup_iff.mpr O0.nd,by rw [Ϥ]; exact O0.len,fun y hy=>O0.mem y (List.mem_reverse.mp hy)⟩⟩
end
abbrev fZ:Stmt:=top 66
def fN (i:Nat):Str:=η "f" ++ ⟨#[97 + i]⟩
theorem Ay:∀ i,i < 12->eP (.str (fN i))=true/\(Dv.str (fN i)).small=true:=by decide +kernel
theorem zk:∀ i,i < 12->∀ j,j < 12->fN i=fN j->i=j:=by decide +kernel
theorem BD {i:Nat} (h1:i < 12):atI (η "abcdefghijkl").cps.toList ((i:Int) % 12)=some (97 + i):=by
 have h:∀ j,j < 12->(η "abcdefghijkl").cps.toList[j]?=some (97 + j):=by decide +kernel
 rw [Int.emod_eq_of_lt (by omega) (by omega)]
 exact af (h i h1)
structure jk (i:Nat) (rs:List Rw):Prop where
 len:rs.length=i
 row:∀ r∈rs,be r.dv=true/\r.dv.small=true
 ok:∀ r∈rs,r.Ok
 pl:∀ r∈rs,L2.Pl 12 r.dv
 nd:(rs.flatMap Rw.f?).Nodup
 fs:∀ x∈rs.flatMap Rw.f?,∃ j,j < i/\x=fN j
theorem jk.ask {i:Nat} {rs:List Rw} {e:Dv} (I:jk i rs) (ex:exD e=true) (se:e.small=true) (pe:L2.Pl 8 e):jk (i + 1) (rs ++ [.ask e]):=by
 have ef:(rs ++ [Rw.ask e]).flatMap Rw.f?=rs.flatMap Rw.f?:=by rw [ϴ]; simp [Rw.f?]
 refine ⟨by rw [ς,I.len]; rfl,fun r hr=>?_,fun r hr=>?_,fun r hr=>?_,by rw [ef]; exact I.nd,fun x hx=>by rw [ef] at hx; obtain ⟨j,hj,e⟩:=I.fs x hx; exact ⟨j,by omega,e⟩⟩
 ·rcases Ψ.mp hr with h | h
  ·exact I.row r h
  ·rw [ε.mp h]
   exact ⟨by show be (.tup [.str "ask",e])=true; rw [qy]; exact ex,aY (fun d hd=>by
    rcases θ.mp hd with rfl | hd
    ·decide +kernel
    ·rw [ε.mp hd]; exact se) (by show 2<=1000; decide)⟩
 ·rcases Ψ.mp hr with h | h
  ·exact I.ok r h
  ·rw [ε.mp h]; exact trivial
 ·rcases Ψ.mp hr with h | h
  ·exact I.pl r h
  ·rw [ε.mp h]
   exact .tup fun d hd=>by
    rcases θ.mp hd with rfl | hd
    ·exact .str
    ·rw [ε.mp hd]; exact pe.up (by decide)
theorem jk.df {i:Nat} {rs:List Rw} {ns:List Str} {ps:List Prm} {e:Dv} (I:jk i rs) (hi:i < 12) (h1:be (Rw.df (fN i) ns ps e).dv=true) (h2:(Rw.df (fN i) ns ps e).dv.small=true) (h3:(Rw.df (fN i) ns ps e).Ok) (h4:L2.Pl 12 (Rw.df (fN i) ns ps e).dv):jk (i + 1) (rs ++ [.df (fN i) ns ps e]):=by
 have ef:(rs ++ [Rw.df (fN i) ns ps e]).flatMap Rw.f?=rs.flatMap Rw.f? ++ [fN i]:=by rw [ϴ]; simp [Rw.f?]
 refine ⟨by rw [ς,I.len]; rfl,fun r hr=>?_,fun r hr=>?_,fun r hr=>?_,?_,fun x hx=>?_⟩
 ·rcases Ψ.mp hr with h | h
  ·exact I.row r h
  ·rw [ε.mp h]; exact ⟨h1,h2⟩
 ·rcases Ψ.mp hr with h | h
  ·exact I.ok r h
  ·rw [ε.mp h]; exact h3
 ·rcases Ψ.mp hr with h | h
  ·exact I.pl r h
  ·rw [ε.mp h]; exact h4
 ·rw [ef]
  refine g_.mpr ⟨I.nd,by simp,fun x hx y hy e=>?_⟩
  rw [ε.mp hy] at e
  obtain ⟨j,hj,e2⟩:=I.fs x hx
  have:=zk j (by omega) i hi (e2.symm.trans e)
  omega
 ·rw [ef] at hx
  rcases Ψ.mp hx with h | h
  ·obtain ⟨j,hj,e⟩:=I.fs x h; exact ⟨j,by omega,e⟩
  ·exact ⟨i,by omega,ε.mp h⟩
theorem jk.pg {i:Nat} {rs:List Rw} (I:jk i rs) (h:i<=12):zG rs:=⟨by rw [I.len]; exact h,I.row,I.ok,I.nd⟩
theorem lN (ns:List Int) (lo hi:Option Int):∃ ms:List Int,aJ (ns.map V.int) lo hi=ms.map V.int/\ms.length<=ns.length:=by
 unfold aJ
 rw [ζ]
 refine ⟨(ns.drop (HT.sIx ns.length 0 lo)).take (HT.sIx ns.length ns.length hi - HT.sIx ns.length 0 lo),by rw [k_,DK],?_⟩
 rw [Ρ,ϧ]
 omega
theorem rs6 (n:Nat) (h:n<=63):(ϑ 0 (if (n:Int) > 1 then (n:Int) else 1) 6).toNat<=12:=by
 unfold ϑ
 split <;> (repeat' split) <;> omega
def vC (K:PySem.W.Frag):Sp:=fun vs H Q _=>∃ (sc r:Addr) (ns:List Int) (xs:List Str),vs=[.ref sc,.ref r]/\SqL K H sc (ns.map V.int)/\ns.length<=63/\H r=some (.lst (xs.map V.str))/\Nms xs /\
 ∀ (H':Hp) (l:Addr) (us:List V) (rs:List Rw),ad H H'->H l=none->H' l=some (.lst us)->Reps H' (rs.map Rw.dv) us->zG rs->(∀ r∈rs,L2.Pl 12 r.dv)->(∀ x∈rs.flatMap Rw.f?,∃ j,j < 12/\x=fN j)->Q (.ref l) H'
section
variable {P:Β} {w:Ξ} {K:PySem.W.Frag} {mg:Str->Option δ} {base:Heap}
theorem im:ap ["_law_script","_law_names_here","_law_rows","_law_begin","_law_draws_here","_law_way"] ["_law_script","_law_names_here"] (ai fZ):=⟨rfl,rfl,rfl,by decide +kernel,rfl,by decide +kernel,by decide +kernel⟩
theorem oQ {f:Addr} {fd:Μ} {k:Nat} (F:Fun K "_law_program" "_law_program" fZ f fd) (T:Txt K mg) (D_law_draws:Def P w K mg base k "_law_draws" ["_law_cells","_law_many"] (lH K)) (D_law_next:Def P w K mg base k "_law_next" ["_law_draws_here"] eQ) (D_law_expression:Def P w K mg base k "_law_expression" ["_law_draws_here","_law_names_here"] pX) (D_law_def:Def P w K mg base k "_law_def" ["_law_f","_law_draws_here","_law_names_here"] yt):aK P w K mg base CX0 (k + 1) f fd ["_law_script","_law_names_here"] (vC K):=by
 have nd:(["_law_script","_law_names_here","_law_rows","_law_begin","_law_draws_here","_law_way"]:List Str).Nodup:=im.nd
 refine F.ok im (fun vs H Q E h=>?_) (fun cdv A outer s H vs Q E hr h=>?_)
 ·obtain ⟨sc,r,ns,xs,rfl,_⟩:=h
  rfl
 obtain ⟨sc,r,ns,xs,rfl,hS,h63,hR,nms,q⟩:=h
 refine ⟨_,(@un _ _ _ (wbO (wbM 2 nd rfl (Λ rfl) (waM waf) rfl (by trivial)) (wbO (wbH ϝ rfl (wbm rfl T.range (wae waC (wae (wal (jO rfl) rfl T.max (by decide +kernel) (wae waC (wae (wal aq rfl T.len (by decide +kernel) (wae (wv 0 rfl) waf rfl) (by decide) (by decide) rfl rfl) waf rfl) rfl) (by decide) (by decide) rfl rfl) (wae waC waf rfl) rfl) rfl) rfl rfl) (waZ 3 nd rfl (Λ rfl) (by trivial)) (wbO (wbM 4 nd rfl (Λ rfl) (waq D_law_draws hr rfl (wae (waT bz (waQ gA (waT bz (wv 0 rfl) (wbA (wv 3 rfl)) (wbA (waQ bE (wv 3 rfl) waC))) (waQ oC (waM (wae waC waf rfl)) waC)) wbz (wbA waC)) (wae waC waf rfl) rfl) (by decide) rfl rfl) rfl (by trivial)) (wbO (wbM 5 nd rfl (Λ rfl) (waq D_law_next hr rfl (wae (wv 4 rfl) waf rfl) (by decide) rfl rfl) rfl (by trivial)) (wbQ (wbI (wbS aG (waQ aB (wv 5 rfl) waC) waC (ak _)) (wbQ (wbG (waj PySem.F.plainAttrs_list PySem.F.slot_list_append PySem.F.type_list_append bg (wv 2 rfl) (wae (waX (wae waV (wae (waq D_law_expression hr rfl (wae (wv 4 rfl) (wae (wv 1 rfl) waf rfl) rfl) (by decide) rfl rfl) waf rfl) rfl)) waf rfl) rfl rfl rfl rfl rfl) rfl)) (wbQ (wbG (waj PySem.F.plainAttrs_list PySem.F.slot_list_append PySem.F.type_list_append bg (wv 2 rfl) (wae (waq D_law_def hr rfl (wae (waQ bv waV (waD pQ waV (waQ aB (wal aq rfl T.len (by decide +kernel) (wae (wv 2 rfl) waf rfl) (by decide) (by decide) rfl rfl) waC) (fun _ _=>rfl))) (wae (wv 4 rfl) (wae (wv 1 rfl) waf rfl) rfl) rfl) (by decide) rfl rfl) waf rfl) rfl rfl rfl rfl rfl) rfl)))))) (by intro _; rfl)) (wbQ (wbK (waT bz (wv 2 rfl) wbz (wbA waC))))))),?_⟩
 refine ⟨Χ _,fun L hL=>?_⟩
 have s0:=ac hL (.lst [])
 have h0:upd H L (.lst []) L=some (.lst []):=aa
 generalize upd H L (.lst [])=H0 at s0 h0 ⊢
 have B2:(if ((ns.map V.int).length:Int) > 1 then ((ns.map V.int).length:Int) else 1) < (1000000:Int):=by
  rw [ζ]
  split <;> omega
 refine ⟨_,rfl,sc,_,rfl,.inl (s0.seq hS),_,_,rfl,0,_,6,rfl,⟨by decide,by decide,by decide,by decide,?B1,B2⟩,jJ (fun i σ H'=>∃ (o3 o4 o5:Option V) (rs:List Rw) (us:List V),σ=[some (.ref sc),some (.ref r),some (.ref L),o3,o4,o5]/\ad H H'/\H' L=some (.lst us)/\Reps H' (rs.map Rw.dv) us/\jk i rs) ⟨_,_,_,[],[],rfl,s0,h0,by simp [Reps],⟨rfl,by simp,by simp,by simp,by simp,by simp⟩⟩ ?T1 ?_⟩
 case B1=>
  show (-1000000:Int)<=(if ((ns.map V.int).length:Int) > 1 then ((ns.map V.int).length:Int) else 1)
  split <;> omega
 case T1=>
  rintro i σ H2 D1 go1 hi ⟨o3,o4,o5,rs,us,rfl,s2,L2',R2,I2⟩
  have s02:=s2
  have i12:i < 12:=by have:=rs6 ns.length h63; rw [ζ] at hi; omega
  obtain ⟨ms,hms,lms⟩:=lN ns (some (0 + (i:Int) * 6)) (some (0 + (i:Int) * 6 + 6))
  refine ⟨_,rfl,_,rfl,_,rfl,_,rfl,_,_,rfl,rfl,_,rfl,sc,_,rfl,s02.seq hS,fun e1 he1=>⟨z1,fun e2 he2=>⟨e2,6,_,rfl,rfl,aa,by decide,by decide,by rw [ψ]; decide,fun e3 he3=>?_⟩⟩⟩
  have c1:=ac he1 (.lst (aJ (ns.map V.int) (some (0 + (i:Int) * 6)) (some (0 + (i:Int) * 6 + 6))))
  have c2:=ac he2 (.lst [.int 0])
  have c3:=ac he3 (.lst (χ (6:Int).toNat [V.int 0]).flatten)
  have f1:=c3 _ _ (c2 _ _ (aa (H:=H2) (a:=e1) (o:=.lst (aJ (ns.map V.int) (some (0 + (i:Int) * 6)) (some (0 + (i:Int) * 6 + 6))))))
  refine ⟨e1,e3,_,_,rfl,rfl,f1,aa,?_,fun e4 he4=>?_⟩
  ·rw [hms,ζ,ψ]
   have:(χ (6:Int).toNat [V.int 0]).flatten.length=6:=by decide
   omega
  have c4:=ac he4 (.lst (aJ (ns.map V.int) (some (0 + (i:Int) * 6)) (some (0 + (i:Int) * 6 + 6)) ++ (χ (6:Int).toNat [V.int 0]).flatten))
  refine ⟨6,rfl,e4,_,rfl,SqL.of aa,fun e5 he5=>?_⟩
  have c5:=ac he5 (.lst (aJ (aJ (ns.map V.int) (some (0 + (i:Int) * 6)) (some (0 + (i:Int) * 6 + 6)) ++ (χ (6:Int).toNat [V.int 0]).flatten) none (some 6)))
  have hcells:∃ cells:List Int,aJ (aJ (ns.map V.int) (some (0 + (i:Int) * 6)) (some (0 + (i:Int) * 6 + 6)) ++ (χ (6:Int).toNat [V.int 0]).flatten) none (some 6)=cells.map V.int/\cells.length=6:=by
   refine ⟨(ms ++ χ 6 0).take 6,?_,by rw [Ρ,ς,k4]; omega⟩
   have e:=cW (aJ (ns.map V.int) (some (0 + (i:Int) * 6)) (some (0 + (i:Int) * 6 + 6)) ++ (χ (6:Int).toNat [V.int 0]).flatten) 6
   rw [k_,ω,<- hms]
   exact e
  obtain ⟨cells,hc,lc⟩:=hcells
  have s5:=c1.trans (c2.trans (c3.trans (c4.trans c5)))
  have f5:=aa (H:=upd (upd (upd (upd H2 e1 (.lst (aJ (ns.map V.int) (some (0 + (i:Int) * 6)) (some (0 + (i:Int) * 6 + 6))))) e2 (.lst [.int 0])) e3 (.lst (χ (6:Int).toNat [V.int 0]).flatten)) e4 (.lst (aJ (ns.map V.int) (some (0 + (i:Int) * 6)) (some (0 + (i:Int) * 6 + 6)) ++ (χ (6:Int).toNat [V.int 0]).flatten))) (a:=e5) (o:=.lst (aJ (aJ (ns.map V.int) (some (0 + (i:Int) * 6)) (some (0 + (i:Int) * 6 + 6)) ++ (χ (6:Int).toNat [V.int 0]).flatten) none (some 6)))
  rw [hc] at f5 s5
  rw [hc]
  generalize upd _ e5 _=H3 at f5 s5 ⊢
  clear c1 c2 c3 c4 c5 f1 he1 he2 he3 he4 he5
  refine ⟨e5,36,cells,rfl,SqL.of f5,by omega,by omega,by decide,by decide,fun H4 dA s4 hdA d4=>?_⟩
  have s24:=s5.trans s4
  have dAn:H2 dA=none:=s5.free hdA
  refine gnm ?_
  dsimp only
  refine ⟨_,rfl,dA,_,rfl,d4,fun H5 x s5' d5 x0 x1=>?_⟩
  have s25:ad H2 H5:=fun g o e=>s5' g o (ae e dAn) (s24 _ _ e)
  have s05:=s02.trans s25
  have L5:=s25 _ _ L2'
  have LA:L≠dA:=ae L2' dAn
  have rA:r≠dA:=ae (s02 _ _ hR) dAn
  have r5:=s05 _ _ hR
  have lus:us.length=rs.length:=by have:=R2.length; rwa [ζ] at this
  have lrs:=I2.len
  have rr:∀ {G G':Hp} {vs:List V},cu G G'->Reps G (rs.map Rw.dv) vs->Reps G' (rs.map Rw.dv) vs:=fun t R=>aU (fun d hd v r=>by obtain ⟨y,hy,rfl⟩:=Δ.mp hd; exact cM t (I2.pl y hy) r) R
  have R5:=R2.mono s25
  have hAn:H dA=none:=by
   cases e:H dA with
   | none=>rfl
   | some u=>rw [s02 _ _ e] at dAn; cases dAn
  refine gnm ?_
  dsimp only
  have fin:∀ (H6:Hp) (v:V) (rw':Rw),aE dA H5 H6->cu H5 H6->Rep H6 rw'.dv v->jk (i + 1) (rs ++ [rw'])->H6 L=some (.lst us)/\us.length < sizeLine/\D1.nx [some (.ref sc),some (.ref r),some (.ref L),some (.int (0 + (i:Int) * 6)),some (.ref dA),some (.int x)] (upd H6 L (.lst (us ++ [v]))):=fun H6 v rw' s6 t6 Rv I6=>by
   have L6:=s6 _ _ LA L5
   have sB:=aE.upd H6 L (.lst (us ++ [v]))
   have tB:=sB.tups L6
   refine ⟨L6,by rw [ψ]; omega,go1 _ _ ⟨_,_,_,rs ++ [rw'],us ++ [v],rfl,fun g o e=>sB g o (ae e hL) (s6 g o (ae e hAn) (s05 _ _ e)),aa,?_,I6⟩⟩
   rw [ω]
   exact Reps.append (rr (t6.trans tB) R5) (aP (cM tB (I6.pl rw' (by simp)) Rv))
  refine ⟨_,rfl,_,_,rfl,rfl,(by show (0:Int) < 4; decide),rfl,_,rfl,aQ (fun _=>?_) (fun _=>?_)⟩
  ·refine ⟨_,rfl,.inl ⟨rfl,_,SqL.of L5⟩,_,rfl,_,rfl,dA,r,_,xs,rfl,d5,r5,rA,nms,fun H6 v e s6 D6 Re ee se pe=>⟨z2,fun t ht=>?_⟩⟩
   have p7:=ac ht (.tup [.str "ask",v])
   have Ra:Rep (upd H6 t (.tup [.str "ask",v])) (Rw.ask e).dv (.ref t):=by
    show Rep _ (.tup [.str "ask",e]) _
    rw [Rep]
    exact ⟨t,_,rfl,aa,by simp only [Reps]; exact ⟨_,_,rfl,by simp only [Rep],_,_,rfl,Re.mono p7,rfl⟩⟩
   obtain ⟨g1,g2,g3⟩:=fin _ (.ref t) (.ask e) (s6.trans (ad.b dA p7)) ((d5.tups s6).trans (ad.tups p7)) Ra (I2.ask ee se pe)
   exact ⟨L,_,_,rfl,rfl,g1,g2,g3⟩
  ·obtain ⟨k1,k2⟩:=Ay i i12
   have hl:(((us.length:Nat):Int) % 12)=((i:Int) % 12):=by rw [lus,lrs]
   have hat:atI (η "abcdefghijkl").cps.toList (((us.length:Nat):Int) % 12)=some (97 + i):=by rw [hl]; exact BD i12
   refine ⟨_,rfl,.inl ⟨rfl,_,SqL.of L5⟩,_,rfl,L,us,rfl,.inl (SqL.of L5),_,_,rfl,rfl,(by show (0:Int) < 12; decide),_,_,_,rfl,rfl,(by rw [ψ]; decide +kernel),hat,_,_,rfl,rfl,?_,_,rfl,_,rfl,fN i,dA,r,_,xs,rfl,d5,r5,rA,nms,k1,k2,fun H6 v qs ps e n6 s6 D6 Rv h1 h2 h3 h4=>?_⟩
   ·rw [ψ]; show _<=16777216; exact ϔ (show (η "f").length + 1<=2 by decide +kernel) (by decide)
   ·obtain ⟨g1,g2,g3⟩:=fin H6 v (.df (fN i) qs ps e) s6 (d5.tups s6) Rv (I2.df i12 h1 h2 h3 h4)
    exact ⟨L,_,_,rfl,rfl,g1,g2,g3⟩
 rintro σ H2 ⟨o3,o4,o5,rs,us,rfl,s2,L2',R2,I2⟩
 have n12:=rs6 ns.length h63
 rw [ζ] at I2
 have lus:us.length=rs.length:=by have:=R2.length; rwa [ζ] at this
 have lrs:=I2.len
 refine ⟨_,rfl,12,rfl,L,us,rfl,SqL.of L2',fun l hl=>?_⟩
 have e:aJ us none (some 12)=us:=by
  rw [show (12:Int)=((12:Nat):Int) from rfl,cW]
  exact m9 (by omega)
 rw [e]
 have p3:=ac hl (.lst us)
 exact q _ l us rs (s2.trans p3) (s2.free hl) aa (R2.mono p3) (I2.pg (by omega)) I2.pl fun x hx=>let ⟨j,hj,e⟩:=I2.fs x hx; ⟨j,by omega,e⟩
end
open PySem L2 KB XB L2.EX WR
def Ax (s:Stmt) (i:Nat):Stmt:=match s with | .ClassDef _ _ _ body _ _ _ _ _ _ _=>body.getD i (.Pass ⟨0,0,0,0⟩) | _=>.Pass ⟨0,0,0,0⟩
abbrev dU:Stmt:=Ax (top 1) 0
def Thr (E:XK) (H:Hp) (C:Addr) (i:Nat):Prop:=∀ (H':Hp) (dx p:Addr),ad H H'->H' dx=some (.xd [("place",.ref p)])->H' p=some (.tup [.int i,.int 0])->E (.ref C) (some dx) H'
theorem Thr.same {E:XK} {H H1:Hp} {C:Addr} {i:Nat} (h:Thr E H C i) (s:ad H H1):Thr E H1 C i:=fun H' dx p s1 h1 h2=>h H' dx p (s.trans s1) h1 h2
theorem Thr.at_ {E:XK} {H H1:Hp} {C p:Addr} {i:Nat} (h:Thr E H C i) (s:ad H H1) (hp:H1 p=none):∀ dx,upd H1 p (.tup [.int (i:Int),.int 0]) dx=none->E (.ref C) (some dx) (upd (upd H1 p (.tup [.int (i:Int),.int 0])) dx (.xd [("place",.ref p)])):=fun dx hd=>
 h _ dx p (s.trans ((ac hp _).trans (ac hd _))) aa (ac hd _ _ _ aa)
def Rw.Fit:Rw->Prop
 | .ask _=>True
 | .df _ ns ps _=>ns.length<=4/\ps.length<=4/\∀ p∈ps,p.2.size<=12/\p.2.All L40
def twB (rs:List Rw) (i:Nat):Prop:=∃ f ns ps e,rs[i]?=some (.df f ns ps e)/\(f∈(rs.take i).flatMap Rw.f?\/¬ ns.Nodup\/¬ (ps.map (·.1)).Nodup)
def nbB (rs:List Rw) (i:Nat):Prop:=∃ f ns ps e,rs[i]?=some (.df f ns ps e)/\iL ns ps=false
def AE (c:Addr):Sp:=fun vs H Q E=>∃ (l:Addr) (us:List V) (ds:List Dv),vs=[.ref l]/\H l=some (.lst us)/\Reps H ds us/\(∀ d∈ds,d.small=true)/\ds.length<=12/\((∀ d∈ds,be d=true)->∀ H',ad H H'->Q .non H') /\
 ∀ i d,ds[i]?=some d->be d=false->(∀ j d',j < i->ds[j]?=some d'->be d'=true)->Thr E H c i
def wV (bad:List Rw->Nat->Prop) (c:Addr):Sp:=fun vs H Q E=>∃ (l:Addr) (us:List V) (rs:List Rw),vs=[.ref l]/\H l=some (.lst us)/\Reps H (rs.map Rw.dv) us/\(∀ r∈rs,r.Fit)/\rs.length<=12/\((∀ i,¬ bad rs i)->∀ H',ad H H'->Q .non H') /\
 ∀ i,bad rs i->(∀ j,j < i->¬ bad rs j)->Thr E H c i
section
variable {P:Β} {w:Ξ} {K:PySem.W.Frag} {mg:Str->Option δ} {base:Heap}
theorem tX:ap ["self","place"] ["self","place"] (ai dU):=⟨rfl,rfl,rfl,by decide +kernel,rfl,by decide +kernel,by decide +kernel⟩
theorem uy {D fI:Addr} {fd:Μ} {dV:δ} (F:sR K "__init__" "IndexwiseError.__init__" dU fI fd dV) (T:Txt K mg):aK P w K mg base CX0 1 fI fd ["self","place"] (eT K D fI):=by
 refine F.ok tX (fun vs H Q E h=>?_) (fun cdv A outer s H vs Q E hr h=>?_)
 ·obtain ⟨e,C,t,v,rfl,_⟩:=h
  rfl
 obtain ⟨e,C,t,v,rfl,he,c,q⟩:=h
 refine ⟨_,(@un _ _ _ (wbO (wbG (wcd D fI rfl T.ValueError (by decide +kernel) (wae (wv 0 rfl) (wae (wv 1 rfl) waf rfl) rfl) rfl rfl rfl) rfl) (wbQ (wce D fI (wv 0 rfl) (wv 1 rfl) rfl)))),?_⟩
 refine ⟨_,rfl,_,rfl,e,C,t,v,rfl,he,c,fun t'=>⟨_,rfl,_,rfl,e,C,t',rfl,aa,c,fun dx hd hne=>?_⟩⟩
 have hd':H dx=none:=by rw [ag hne] at hd; exact hd
 have z:=q dx t' hd' hne
 have y:upd (upd (upd H e (Xr C t' e)) dx (.xd [("place",v)])) e (Xo C t' dx e)=upd (upd H dx (.xd [("place",v)])) e (Xo C t' dx e):=by
  funext b
  by_cases hb:b=e
  ·rw [hb,aa,aa]
  ·rw [ag hb,ag hb]
   by_cases hx:b=dx
   ·rw [hx,aa,aa]
   ·rw [ag hx,ag hx,ag hb]
 show Q .non (upd (upd (upd H e (Xr C t' e)) dx (.xd [("place",v)])) e (Xo C t' dx e))
 rw [y]; exact z
theorem et:ap ["rows","number","row"] ["rows"] (ai dC):=⟨rfl,rfl,rfl,by decide +kernel,rfl,by decide +kernel,by decide +kernel⟩
theorem jm {f D fI aNoProgram:Addr} {fd fdI:Μ} {psI:List Str} {k:Nat} (F:Fun K "hold_rows" "hold_rows" dC f fd) (T:Txt K mg) (c_NoProgram:cE K D fI aNoProgram) (G_NoProgram:mg "NoProgram"=some (.ref aNoProgram)) (FI:aK P w K mg base CX0 k fI fdI psI (eT K D fI)) (BI:bG K fdI psI [])
  (Dis_row:Def P w K mg base (k + 1) "is_row" ["thing"] (spS be)):aK P w K mg base (CXe P w) (k + 2) f fd ["rows"] (AE aNoProgram):=by
 have nd:(["rows","number","row"]:List Str).Nodup:=et.nd
 refine okX F et (fun vs H Q E h=>?_) (fun cdv A outer s H vs Q E hr h=>?_)
 ·obtain ⟨l,us,rs,rfl,_⟩:=h
  rfl
 obtain ⟨l,us,ds,rfl,hl,Ru,sm,l12,q,bad⟩:=h
 refine ⟨_,(@un _ _ _ (wbQ (wbH DF rfl (wbg rfl T.enumerate (wae (wv 0 rfl) waf rfl) rfl) (wbb rfl (wbd (waZ 1 nd rfl (Λ rfl) (by trivial)) (wbd (waZ 2 nd rfl (Λ rfl) (by trivial)) wbe rfl) rfl) rfl rfl) (wbQ (wbI (wbT (wbV (waq Dis_row hr rfl (wae (wv 2 rfl) waf rfl) (by decide) rfl rfl) (by intro _; rfl))) (wbQ (wca c_NoProgram FI hr BI rfl G_NoProgram dW (wae (waX (wae (wv 1 rfl) (wae waC waf rfl) rfl)) waf rfl) (by decide) rfl rfl)) wbP)) (by intro _; rfl)))),?_⟩
 have lu:us.length=ds.length:=Ru.length
 refine ⟨_,rfl,l,rfl,⟨us,SqL.of hl⟩,dE (xs:=us) (fun i σ H'=>∃ (o1 o2:Option V),σ=[some (.ref l),o1,o2]/\ad H H'/\∀ j d',j < i->ds[j]?=some d'->be d'=true) ⟨_,_,rfl,ad.refl _,fun j _ h=>absurd h (A3 _)⟩ (fun i σ H' _ ⟨_,_,_,s1,_⟩=>SqL.of (s1 _ _ hl)) ?T1 ?_⟩
 case T1=>
  rintro i x σ H1 p hx ⟨o1,o2,rfl,s1,g1⟩ hp
  obtain ⟨d,hd,Rx⟩:=Ru.get hx
  have s2:=s1.trans (ac hp (.tup [.int i,x]))
  refine ⟨p,_,rfl,SqT.of aa,rfl,_,_,rfl,_,_,rfl,rfl,?_⟩
  refine ⟨_,rfl,x,_,rfl,Rx.mono s2,sm d (Α hd),fun H2 s3=>⟨_,rfl,?_⟩⟩
  cases hr:be d with
  | true=>exact aA ⟨_,_,rfl,s2.trans s3,fun j d' hj h'=>by
    rcases Cf.mp hj with z | z
    ·exact g1 j d' z h'
    ·rw [z,hd] at h'; cases h'; exact hr⟩
  | false=>exact av ⟨_,rfl,z2,fun p2 hp2=>⟨_,rfl,(bad i d hd hr g1).at_ (s2.trans s3) hp2⟩⟩
 rintro σ H1 ⟨o1,o2,rfl,s1,g1⟩
 refine q (fun d hd=>?_) H1 s1
 obtain ⟨j,hj,e⟩:=e_ hd
 exact g1 j d (by omega) (by rw [<- e]; simp)
end
inductive oz | ok | np (i:Nat) | tw (i:Nat) | nb (i:Nat)
def iE (ds:List Dv):oz->Prop
 | .np i=>∃ d,ds[i]?=some d/\be d=false/\∀ j d',j < i->ds[j]?=some d'->be d'=true
 | .tw i=>∃ rs:List Rw,ds=rs.map Rw.dv/\(∀ r∈rs,be r.dv=true/\r.Fit)/\twB rs i/\∀ j,j < i->¬ twB rs j
 | .nb i=>∃ rs:List Rw,ds=rs.map Rw.dv/\(∀ r∈rs,be r.dv=true/\r.Fit)/\(∀ j,¬ twB rs j)/\nbB rs i/\∀ j,j < i->¬ nbB rs j
 | .ok=>∃ rs:List Rw,ds=rs.map Rw.dv/\(∀ r∈rs,be r.dv=true/\r.Fit)/\(∀ j,¬ twB rs j)/\∀ j,¬ nbB rs j
def yl (cN cT cB:Addr) (H:Hp) (Q:VK) (E:XK):oz->Prop
 | .np i=>Thr E H cN i
 | .tw i=>Thr E H cT i
 | .nb i=>Thr E H cB i
 | .ok=>∀ v H',ad H H'->Q v H'
def yr (cN cT cB:Addr):Sp:=fun vs H Q E=>∃ (l:Addr) (us:List V) (ds:List Dv) (ft:oz),vs=[.ref l]/\H l=some (.lst us)/\Reps H ds us/\(∀ d∈ds,d.small=true)/\ds.length<=12/\iE ds ft/\yl cN cT cB H Q E ft
theorem bQ {j i:Nat} {p:Nat->Prop} (h:j < i + 1) (h1:∀ j,j < i->p j) (h2:p i):p j:=by
 rcases Cf.mp h with z | z
 ·exact h1 j z
 ·rw [z]; exact h2
section
variable {P:Β} {w:Ξ} {K:PySem.W.Frag} {mg:Str->Option δ} {base:Heap}
theorem eE:ap ["rows","seen","number","row"] ["rows"] (ai dN):=⟨rfl,rfl,rfl,by decide +kernel,rfl,by decide +kernel,by decide +kernel⟩
theorem je {f D fI aTwice:Addr} {fd fdI:Μ} {psI:List Str} {k:Nat} (F:Fun K "hold_once" "hold_once" dN f fd) (T:Txt K mg) (c_Twice:cE K D fI aTwice) (G_Twice:mg "Twice"=some (.ref aTwice)) (FI:aK P w K mg base CX0 k fI fdI psI (eT K D fI)) (BI:bG K fdI psI [])
  (Dis_twice:Def P w K mg base (k + 1) "is_twice" ["things"] (rm K)):aK P w K mg base (CXe P w) (k + 2) f fd ["rows"] (wV twB aTwice):=by
 have nd:(["rows","seen","number","row"]:List Str).Nodup:=eE.nd
 refine okX F eE (fun vs H Q E h=>?_) (fun cdv A outer s H vs Q E hr h=>?_)
 ·obtain ⟨l,us,rs,rfl,_⟩:=h
  rfl
 obtain ⟨l,us,rs,rfl,hl,Ru,hC,l12,q,bad⟩:=h
 have hu:=nX hr
 have lu:us.length=rs.length:=by have:=Ru.length; rwa [ζ] at this
 refine ⟨_,(@un _ _ _ (wbO (wbM 1 nd rfl (Λ rfl) waA rfl (by trivial)) (wbQ (wbH DF rfl (wbg rfl T.enumerate (wae (wv 0 rfl) waf rfl) rfl) (wbb rfl (wbd (waZ 2 nd rfl (Λ rfl) (by trivial)) (wbd (waZ 3 nd rfl (Λ rfl) (by trivial)) wbe rfl) rfl) rfl rfl) (wbQ (wbI (wbS aG (waD ao (wv 3 rfl) waC (fun _ _=>rfl)) waV (ak _)) (wbO (wbI (wab (wbY (wbS (yB hu) (waD ao (wv 3 rfl) waC (fun _ _=>rfl)) (wv 1 rfl) (by with_unfolding_all rfl)) (wbY (wbV (waq Dis_twice hr rfl (wae (waD ao (wv 3 rfl) waC (fun _ _=>rfl)) waf rfl) (by decide) rfl rfl) (by intro _; rfl)) (wbZ (wbV (waq Dis_twice hr rfl (wae (waE (["x","kind"]) [] (wbo (waD ao (wv 3 rfl) waC (fun _ _=>rfl))) (.of rfl) rfl (fun _ _ _=>⟨pg_tup rfl (pgs_cons (pg_name (i:=0) (cc (l:=["x","kind"]) ((by decide +kernel)) rfl) rfl (Λ rfl)) (pgs_cons (pg_name (i:=1) (cc (l:=["x","kind"]) ((by decide +kernel)) rfl) rfl (Λ rfl)) pgs_nil))⟩) (oH (by decide) (by decide)) (fun _ _ _=>wbx) (fun _ _ _=>(wv 0 rfl)) (by intro _; rfl)) waf rfl) (by decide) rfl rfl) (by intro _; rfl)))))) (wbQ (wca c_Twice FI hr BI rfl G_Twice dW (wae (waX (wae (wv 2 rfl) (wae waC waf rfl) rfl)) waf rfl) (by decide) rfl rfl)) wbP) (wbQ (wbF hu (wv 1 rfl) (waD ao (wv 3 rfl) waC (fun _ _=>rfl)) wah rfl))) wbP)) (by intro _; rfl))))),?_⟩
 intro d hd
 have s0:ad H (upd H d (.dK [])):=ac hd _
 have d0:upd H d (.dK []) d=some (.dK (bdK [])):=aa
 generalize upd H d (.dK [])=H0 at s0 d0 ⊢
 refine ⟨_,rfl,l,rfl,⟨us,SqL.of (s0 _ _ hl)⟩,dE (xs:=us) (fun i σ H'=>∃ (o1 o2:Option V),σ=[some (.ref l),some (.ref d),o1,o2]/\ad H H'/\H' d=some (.dK (bdK ((rs.take i).flatMap Rw.f?)))/\∀ j,j < i->¬ twB rs j) ⟨_,_,rfl,s0,d0,fun j h=>absurd h (A3 _)⟩ (fun i σ H' _ ⟨_,_,_,s1,_⟩=>SqL.of (s1 _ _ hl)) ?T1 ?_⟩
 case T1=>
  rintro i x σ H1 p hx ⟨o1,o2,rfl,s1,d1,g1⟩ hp
  obtain ⟨r,hr',Rx⟩:=cQ (f:=Rw.dv) Ru hx
  have hi:i < us.length:=(π.mp hx).1
  have ok:=hC r (Α hr')
  have hti:rs.take (i + 1)=rs.take i ++ [r]:=by rw [Ϡ,hr']; rfl
  have lf:((rs.take i).flatMap Rw.f?).length<=12:=by
   have h1:∀ l:List Rw,(l.flatMap Rw.f?).length<=l.length:=by
    intro l
    induction l with
    | nil=>simp
    | cons y l ih=>rw [ϰ,ς,Υ]; have:y.f?.length<=1:=(by cases y <;> simp [Rw.f?]); omega
   have h2:=h1 (rs.take i)
   rw [Ρ] at h2
   omega
  have s2:=s1.trans (ac hp (.tup [.int i,x]))
  have d2:=ac hp (.tup [.int i,x]) _ _ d1
  refine ⟨p,_,rfl,SqT.of aa,rfl,_,_,rfl,_,_,rfl,rfl,?_⟩
  generalize upd H1 p (.tup [.int i,x])=H2 at s2 d2 ⊢
  obtain ⟨a,rfl,inv⟩:=Rw.inv (Rx.mono s2)
  cases r with
  | ask e=>
   obtain ⟨u,ha⟩:=inv
   refine ⟨_,rfl,a,_,0,.str "ask",rfl,rfl,SqT.of ha,af (j:=0) rfl,rfl,_,rfl,aQ (fun h=>absurd (of_decide_eq_true h) qZ) (fun _=>?_)⟩
   refine ⟨_,_,rfl,s2,?_,fun j hj=>bQ (p:=fun j=>¬ twB rs j) hj g1 fun ⟨f,ns,ps,e',h',_⟩=>by rw [hr'] at h'; cases h'⟩
   rw [hti,ϴ]
   simpa [Rw.f?] using d2
  | df g ns ps e=>
   obtain ⟨b,c,u,ha,Rn,Rp⟩:=inv
   obtain ⟨n4,p4,_⟩:=ok
   refine ⟨_,rfl,a,_,0,.str "def",rfl,rfl,SqT.of ha,af (j:=0) rfl,rfl,_,rfl,aQ (fun _=>?_) (fun h=>absurd (decide_eq_true rfl) h)⟩
   refine ⟨_,rfl,a,_,1,.str g,rfl,rfl,SqT.of ha,af (j:=1) rfl,_,rfl,d,_,rfl,pC.k (k:=Ϗ g) d2,_,rfl,?_⟩
   show if (dm (bdK ((rs.take i).flatMap Rw.f?)) (Ϗ g)).isSome=true then _ else _
   rw [lB]
   refine aQ (fun h=>av ⟨_,rfl,z2,fun p2 hp2=>⟨_,rfl,(bad i ⟨g,ns,ps,e,hr',.inl (of_decide_eq_true h)⟩ g1).at_ s2 hp2⟩⟩) (fun h=>?_)
   have gn:g∉(rs.take i).flatMap Rw.f?:=fun z=>h (decide_eq_true z)
   obtain ⟨b',ws,e1,hb,Rw'⟩:=Rep.tup_inv Rn
   cases e1
   obtain ⟨c',zs,e2,hc,Rz⟩:=Rep.tup_inv Rp
   cases e2
   have ew:ws=ns.map V.str:=cU Rw'
   subst ew
   refine ⟨_,rfl,a,_,2,.ref b,rfl,rfl,SqT.of ha,af (j:=2) rfl,b,ns,rfl,.inr (SqT.of hb),by omega,fun H3 s3=>⟨_,rfl,?_⟩⟩
   refine aQ (fun h=>av ⟨_,rfl,z2,fun p2 hp2=>⟨_,rfl,(bad i ⟨g,ns,ps,e,hr',.inr (.inl fun z=>by rw [decide_eq_true z] at h; cases h)⟩ g1).at_ (s2.trans s3) hp2⟩⟩) (fun h=>?_)
   have n1:ns.Nodup:=Dx fun z=>h (by rw [decide_eq_false z]; rfl)
   have lz:zs.length=ps.length:=by have:=Rz.length; rwa [ζ] at this
   refine ⟨_,rfl,a,_,3,.ref c,rfl,rfl,SqT.of (s3 _ _ ha),af (j:=3) rfl,c,rfl,⟨zs,SqT.of (s3 _ _ hc)⟩,gi (xs:=zs) (fun i ys H'=>H'=H3/\ys=(ps.take i).map fun p=>V.str p.1) ⟨rfl,rfl⟩ (fun i ys H' _ p=>by rw [p.1]; exact SqT.of (s3 _ _ hc)) ?_ ?_⟩
   ·rintro i ys H' x hx ⟨rfl,rfl⟩
    obtain ⟨p,hp,Rx⟩:=cQ (f:=cP) Rz hx
    obtain ⟨e,z,rfl,he,_⟩:=nI Rx
    refine iu (s3 _ _ he) ⟨_,rfl,?_,rfl,?_⟩
    ·rw [ζ,Ρ,ψ]; omega
    ·rw [Ϡ,hp,ω]; rfl
   ·rintro ys H' ⟨rfl,rfl⟩ r hr''
    rw [lz,ϛ]
    have s4:=ac hr'' (.lst (ps.map fun p=>V.str p.1))
    refine ⟨r,ps.map (·.1),rfl,.inl (SqL.of (by rw [aa,ϋ]; rfl)),by rw [ζ]; omega,fun H5 s5=>⟨_,rfl,?_⟩⟩
    have s25:=s3.trans (s4.trans s5)
    refine aQ (fun h=>⟨_,rfl,z2,fun p2 hp2=>⟨_,rfl,(bad i ⟨g,ns,ps,e,hr',.inr (.inr fun z=>by rw [decide_eq_true z] at h; cases h)⟩ g1).at_ (s2.trans s25) hp2⟩⟩) (fun h=>?_)
    have n2:(ps.map (·.1)).Nodup:=Dx fun z=>h (by rw [decide_eq_false z]; rfl)
    refine ⟨_,rfl,_,rfl,a,_,1,.str g,rfl,rfl,SqT.of (s25 _ _ ha),af (j:=1) rfl,d,_,rfl,lW.k (k:=Ϗ g) (s25 _ _ d2) ?_,?_⟩
    ·rw [show (bdK ((rs.take i).flatMap Rw.f?)).length=((rs.take i).flatMap Rw.f?).length from ζ _,ψ]; omega
    ·refine ⟨_,_,rfl,fun x o e=>by rw [ag (ae e hd)]; exact s25 _ _ (s2 _ _ e),?_,fun j hj=>bQ (p:=fun j=>¬ twB rs j) hj g1 fun ⟨f,ns',ps',e',h',z⟩=>?_⟩
     ·rw [aa,tD gn,hti,ϴ]
      rfl
     ·rw [hr'] at h'
      cases h'
      rcases z with z | z | z
      ·exact gn z
      ·exact z n1
      ·exact z n2
 rintro σ H1 ⟨o1,o2,rfl,s1,_,g1⟩
 refine q (fun i z=>?_) H1 s1
 obtain ⟨f,ns,ps,e,h,_⟩:=id z
 exact g1 i (by rw [lu]; exact (π.mp h).1) z
theorem du:ap ["rows","number","row"] ["rows"] (ai cZ):=⟨rfl,rfl,rfl,by decide +kernel,rfl,by decide +kernel,by decide +kernel⟩
theorem ie {f D fI aNoBind:Addr} {fd fdI:Μ} {psI:List Str} {k:Nat} (F:Fun K "hold_bound" "hold_bound" cZ f fd) (T:Txt K mg) (c_NoBind:cE K D fI aNoBind) (G_NoBind:mg "NoBind"=some (.ref aNoBind)) (FI:aK P w K mg base CX0 k fI fdI psI (eT K D fI)) (BI:bG K fdI psI [])
  (Dare_bound:Def P w K mg base (k + 1) "are_bound" ["names","params"] rd):aK P w K mg base (CXe P w) (k + 2) f fd ["rows"] (wV nbB aNoBind):=by
 have nd:(["rows","number","row"]:List Str).Nodup:=du.nd
 refine okX F du (fun vs H Q E h=>?_) (fun cdv A outer s H vs Q E hr h=>?_)
 ·obtain ⟨l,us,rs,rfl,_⟩:=h
  rfl
 obtain ⟨l,us,rs,rfl,hl,Ru,hC,l12,q,bad⟩:=h
 have lu:us.length=rs.length:=by have:=Ru.length; rwa [ζ] at this
 refine ⟨_,(@un _ _ _ (wbQ (wbH DF rfl (wbg rfl T.enumerate (wae (wv 0 rfl) waf rfl) rfl) (wbb rfl (wbd (waZ 1 nd rfl (Λ rfl) (by trivial)) (wbd (waZ 2 nd rfl (Λ rfl) (by trivial)) wbe rfl) rfl) rfl rfl) (wbQ (wbI (wab (wbW (wbS aG (waD ao (wv 2 rfl) waC (fun _ _=>rfl)) waV (ak _)) (wbX (wbT (wbV (waq Dare_bound hr rfl (wae (waD ao (wv 2 rfl) waC (fun _ _=>rfl)) (wae (waD ao (wv 2 rfl) waC (fun _ _=>rfl)) waf rfl) rfl) (by decide) rfl rfl) (by intro _; rfl)))))) (wbQ (wca c_NoBind FI hr BI rfl G_NoBind dW (wae (waX (wae (wv 1 rfl) (wae waC waf rfl) rfl)) waf rfl) (by decide) rfl rfl)) wbP)) (by intro _; rfl)))),?_⟩
 refine ⟨_,rfl,l,rfl,⟨us,SqL.of hl⟩,dE (xs:=us) (fun i σ H'=>∃ (o1 o2:Option V),σ=[some (.ref l),o1,o2]/\ad H H'/\∀ j,j < i->¬ nbB rs j) ⟨_,_,rfl,ad.refl _,fun j h=>absurd h (A3 _)⟩ (fun i σ H' _ ⟨_,_,_,s1,_⟩=>SqL.of (s1 _ _ hl)) ?T1 ?_⟩
 case T1=>
  rintro i x σ H1 p hx ⟨o1,o2,rfl,s1,g1⟩ hp
  obtain ⟨r,hr',Rx⟩:=cQ (f:=Rw.dv) Ru hx
  have ok:=hC r (Α hr')
  have s2:=s1.trans (ac hp (.tup [.int i,x]))
  refine ⟨p,_,rfl,SqT.of aa,rfl,_,_,rfl,_,_,rfl,rfl,?_⟩
  generalize upd H1 p (.tup [.int i,x])=H2 at s2 ⊢
  obtain ⟨a,rfl,inv⟩:=Rw.inv (Rx.mono s2)
  cases r with
  | ask e=>
   obtain ⟨u,ha⟩:=inv
   exact ⟨_,rfl,a,_,0,.str "ask",rfl,rfl,SqT.of ha,af (j:=0) rfl,rfl,_,rfl,aQ (fun h=>absurd (of_decide_eq_true h) qZ) (fun _=>aA ⟨_,_,rfl,s2,fun j hj=>bQ (p:=fun j=>¬ nbB rs j) hj g1 fun ⟨f,ns,ps,e',h',_⟩=>by rw [hr'] at h'; cases h'⟩)⟩
  | df g ns ps e=>
   obtain ⟨b,c,u,ha,Rn,Rp⟩:=inv
   obtain ⟨n4,p4,pk⟩:=ok
   refine ⟨_,rfl,a,_,0,.str "def",rfl,rfl,SqT.of ha,af (j:=0) rfl,rfl,_,rfl,aQ (fun _=>?_) (fun h=>absurd (decide_eq_true rfl) h)⟩
   refine ⟨_,rfl,a,_,2,.ref b,rfl,rfl,SqT.of ha,af (j:=2) rfl,_,rfl,a,_,3,.ref c,rfl,rfl,SqT.of ha,af (j:=3) rfl,.ref b,.ref c,ns,ps,rfl,Rn,Rp,n4,p4,pk,fun H3 s3=>⟨_,rfl,?_⟩⟩
   cases hb:iL ns ps with
   | true=>exact aA ⟨_,_,rfl,s2.trans s3,fun j hj=>bQ (p:=fun j=>¬ nbB rs j) hj g1 fun ⟨f,ns',ps',e',h',z⟩=>by rw [hr'] at h'; cases h'; rw [hb] at z; cases z⟩
   | false=>exact av ⟨_,rfl,z2,fun p2 hp2=>⟨_,rfl,(bad i ⟨g,ns,ps,e,hr',hb⟩ g1).at_ (s2.trans s3) hp2⟩⟩
 rintro σ H1 ⟨o1,o2,rfl,s1,g1⟩
 refine q (fun i z=>?_) H1 s1
 obtain ⟨f,ns,ps,e,h,_⟩:=id z
 exact g1 i (by rw [lu]; exact (π.mp h).1) z
theorem gQ:ap ["thing","rows"] ["thing"] (ai gq):=⟨rfl,rfl,rfl,by decide +kernel,rfl,by decide +kernel,by decide +kernel⟩
theorem nO {f D fI aNoProgram cT cB:Addr} {fd fdI:Μ} {psI:List Str} {k:Nat} (F:Fun K "checked" "checked" gq f fd) (T:Txt K mg) (c_NoProgram:cE K D fI aNoProgram) (G_NoProgram:mg "NoProgram"=some (.ref aNoProgram)) (FI:aK P w K mg base CX0 k fI fdI psI (eT K D fI)) (BI:bG K fdI psI [])
  (Dhold_rows:mX P w K mg base (k + 1) "hold_rows" ["rows"] (AE aNoProgram)) (Dhold_once:mX P w K mg base (k + 1) "hold_once" ["rows"] (wV twB cT)) (Dhold_bound:mX P w K mg base (k + 1) "hold_bound" ["rows"] (wV nbB cB)):aK P w K mg base (CXe P w) (k + 2) f fd ["thing"] (yr aNoProgram cT cB):=by
 have nd:(["thing","rows"]:List Str).Nodup:=gQ.nd
 refine okX F gQ (fun vs H Q E h=>?_) (fun cdv A outer s H vs Q E hr h=>?_)
 ·obtain ⟨l,us,rs,ft,rfl,_⟩:=h
  rfl
 obtain ⟨l,us,ds,ft,rfl,hl,Ru,sm,l12,ff,fe⟩:=h
 have lu:us.length=ds.length:=Ru.length
 have Rl:Rep H (.lst ds) (.ref l):=by rw [Rep]; exact ⟨l,us,rfl,hl,Ru⟩
 refine ⟨_,(@un _ _ _ (wbO (wbI (wab (wbY (wbT (wbV (wal bo rfl T.isinstance (by decide +kernel) (wae (wv 0 rfl) (wae (wai (.ty "list") rfl T.list (by decide +kernel) rfl (by decide) (by decide)) waf rfl) rfl) (by decide) (by decide) rfl rfl) (by intro _; rfl))) (wbZ (wbS gK (wal aq rfl T.len (by decide +kernel) (wae (wv 0 rfl) waf rfl) (by decide) (by decide) rfl rfl) ⟨T.g_MOST_ROWS rfl⟩ (ak _))))) (wbQ (wca c_NoProgram FI hr BI rfl G_NoProgram dW (wae (waX (wae waC (wae waC waf rfl) rfl)) waf rfl) (by decide) rfl rfl)) wbP) (wbO (wbM 1 nd rfl (Λ rfl) (wam fG rfl T.list (by decide +kernel) (wae (wv 0 rfl) waf rfl) (by decide) (by decide) rfl rfl) rfl (by trivial)) (wbO (wbG (wcb Dhold_rows hr rfl (wae (wv 1 rfl) waf rfl) (by decide) rfl rfl) rfl) (wbO (wbG (wcb Dhold_once hr rfl (wae (wv 1 rfl) waf rfl) (by decide) rfl rfl) rfl) (wbO (wbG (wcb Dhold_bound hr rfl (wae (wv 1 rfl) waf rfl) (by decide) rfl rfl) rfl) (wbQ (wbK (wv 1 rfl))))))))),?_⟩
 refine ⟨_,rfl,_,_,_,_,rfl,Rl.ty,vb K _,_,rfl,?_⟩
 refine aA ⟨_,rfl,l,us,rfl,.inl (SqL.of hl),_,_,rfl,rfl,_,rfl,?_⟩
 rw [decide_eq_false (by omega)]
 refine aA ⟨_,rfl,l,us,rfl,.inl (SqL.of hl),fun r hr'=>?_⟩
 have s1:=ac hr' (.lst us)
 have h1:upd H r (.lst us) r=some (.lst us):=aa
 generalize upd H r (.lst us)=H1 at s1 h1 ⊢
 have no:∀ {rs:List Rw},ds=rs.map Rw.dv->(∀ r∈rs,be r.dv=true/\r.Fit)->∀ i d,ds[i]?=some d->be d=false->False:=fun e ok i d hd hf=>by
  subst e
  obtain ⟨y,hy,rfl⟩:=Δ.mp (Α hd)
  rw [(ok y hy).1] at hf; cases hf
 have l12':∀ {rs:List Rw},ds=rs.map Rw.dv->rs.length<=12:=fun e=>by subst e; rwa [ζ] at l12
 refine ⟨_,rfl,r,us,ds,rfl,h1,Ru.mono s1,sm,l12,fun all H2 s2=>?_,fun i d hd hf hj=>?_⟩
 ·have R2:=Ru.mono (s1.trans s2)
  have h2:=s2 _ _ h1
  have s02:=s1.trans s2
  cases ft with
  | np i=>
   obtain ⟨d,hd,hf,_⟩:=ff
   rw [all d (Α hd)] at hf; cases hf
  | tw i=>
   obtain ⟨rs,e,ok,tw,tj⟩:=ff
   refine ⟨_,rfl,r,us,rs,rfl,h2,by rw [<- e]; exact R2,fun r hr=>(ok r hr).2,l12' e,fun z=>absurd tw (z i),fun j z zj=>?_⟩
   have:j=i:=by
    rcases DG j i with y | y | y
    ·exact absurd z (tj j y)
    ·exact y
    ·exact absurd tw (zj i y)
   rw [this]; exact Thr.same fe s02
  | nb i=>
   obtain ⟨rs,e,ok,tw,nb,nj⟩:=ff
   refine ⟨_,rfl,r,us,rs,rfl,h2,by rw [<- e]; exact R2,fun r hr=>(ok r hr).2,l12' e,fun _ H3 s3=>?_,fun j z _=>absurd z (tw j)⟩
   refine ⟨_,rfl,r,us,rs,rfl,s3 _ _ h2,by rw [<- e]; exact R2.mono s3,fun r hr=>(ok r hr).2,l12' e,fun z=>absurd nb (z i),fun j z zj=>?_⟩
   have:j=i:=by
    rcases DG j i with y | y | y
    ·exact absurd z (nj j y)
    ·exact y
    ·exact absurd nb (zj i y)
   rw [this]; exact Thr.same fe (s02.trans s3)
  | ok=>
   obtain ⟨rs,e,ok,tw,nb⟩:=ff
   refine ⟨_,rfl,r,us,rs,rfl,h2,by rw [<- e]; exact R2,fun r hr=>(ok r hr).2,l12' e,fun _ H3 s3=>?_,fun j z _=>absurd z (tw j)⟩
   refine ⟨_,rfl,r,us,rs,rfl,s3 _ _ h2,by rw [<- e]; exact R2.mono s3,fun r hr=>(ok r hr).2,l12' e,fun _ H4 s4=>?_,fun j z _=>absurd z (nb j)⟩
   exact ⟨_,rfl,fe _ H4 (s02.trans (s3.trans s4))⟩
 ·cases ft with
  | np i'=>
   obtain ⟨d',hd',hf',hj'⟩:=ff
   have:i=i':=by
    rcases DG i i' with y | y | y
    ·rw [hj' i d y hd] at hf; cases hf
    ·exact y
    ·rw [hj i' d' y hd'] at hf'; cases hf'
   rw [this]; exact Thr.same fe s1
  | tw i'=>obtain ⟨rs,e,ok,_⟩:=ff; exact (no e ok i d hd hf).elim
  | nb i'=>obtain ⟨rs,e,ok,_⟩:=ff; exact (no e ok i d hd hf).elim
  | ok=>obtain ⟨rs,e,ok,_⟩:=ff; exact (no e ok i d hd hf).elim
end
abbrev gy:Stmt:=top 67
structure yW (K:PySem.W.Frag) (mg:Str->Option δ) (D fI aNoProgram aTwice aNoBind aNoName aUnlike aParts aTooGreat aTooLong aNoValue aNoWords aNoLine:Addr):Prop where
 top:AN K D
 gD:mg "IndexwiseError"=some (.ref D)
 cN:cE K D fI aNoProgram
 cT:cE K D fI aTwice
 cB:cE K D fI aNoBind
 oth:∀ b∈[aNoName,aUnlike,aParts,aTooGreat,aTooLong,aNoValue,aNoWords,aNoLine],yL K D b
 gNoProgram:mg "NoProgram"=some (.ref aNoProgram)
 gTwice:mg "Twice"=some (.ref aTwice)
 gNoBind:mg "NoBind"=some (.ref aNoBind)
 gNoName:mg "NoName"=some (.ref aNoName)
 gUnlike:mg "Unlike"=some (.ref aUnlike)
 gParts:mg "Parts"=some (.ref aParts)
 gTooGreat:mg "TooGreat"=some (.ref aTooGreat)
 gTooLong:mg "TooLong"=some (.ref aTooLong)
 gNoValue:mg "NoValue"=some (.ref aNoValue)
 gNoWords:mg "NoWords"=some (.ref aNoWords)
 gNoLine:mg "NoLine"=some (.ref aNoLine)
 nd:[aNoProgram,aTwice,aNoBind,aNoName,aUnlike,aParts,aTooGreat,aTooLong,aNoValue,aNoWords,aNoLine].Nodup
def vy:oz->Dv
 | .ok=>.tup [.str "taken",.non]
 | .np i=>.tup [.str "program",.tup [.int i,.int 0]]
 | .tw i=>.tup [.str "twice",.tup [.int i,.int 0]]
 | .nb i=>.tup [.str "bind",.tup [.int i,.int 0]]
def yq:Sp:=fun vs H Q _=>∃ (l:Addr) (us:List V) (ds:List Dv) (ft:oz),vs=[.ref l]/\H l=some (.lst us)/\Reps H ds us/\(∀ d∈ds,d.small=true)/\ds.length<=12/\iE ds ft/\∀ H' v,ad H H'->Rep H' (vy ft) v->Q v H'
def iO (b1 b2 b3:Bool):Str:=(Txt.mul "program" (if b1 then 1 else 0) ++ Txt.mul "twice" (if b2 then 1 else 0)) ++ Txt.mul "bind" (if b3 then 1 else 0) ++ Txt.mul "-" (if false then 1 else 0)
theorem Ak:iO true false false="program":=by decide +kernel
theorem Aq:iO false true false="twice":=by decide +kernel
theorem AS:iO false false true="bind":=by decide +kernel
theorem tY:∀ b1 b2 b3:Bool,(Txt.mul "program" (if b1 then 1 else 0)).length + (Txt.mul "twice" (if b2 then 1 else 0)).length<=12/\(Txt.mul "program" (if b1 then 1 else 0) ++ Txt.mul "twice" (if b2 then 1 else 0)).length + (Txt.mul "bind" (if b3 then 1 else 0)).length<=16/\((Txt.mul "program" (if b1 then 1 else 0) ++ Txt.mul "twice" (if b2 then 1 else 0)) ++ Txt.mul "bind" (if b3 then 1 else 0)).length + (Txt.mul "-" (if false then 1 else 0)).length<=17:=by decide +kernel
theorem wA {K:PySem.W.Frag} {mg:Str->Option δ} {D fI aNoProgram aTwice aNoBind aNoName aUnlike aParts aTooGreat aTooLong aNoValue aNoWords aNoLine:Addr} {H H0:Hp} {Q Q':VK} {E:XK} {ft:oz} (Er:yW K mg D fI aNoProgram aTwice aNoBind aNoName aUnlike aParts aTooGreat aTooLong aNoValue aNoWords aNoLine) (q:∀ H' v,ad H H'->Rep H' (vy ft) v->Q v H') (h0:ft=.ok->∀ v H',ad H0 H'->Q' v H')
  (key:∀ (C:Addr) (b1 b2 b3:Bool),cE K D fI C->(∀ b∈[aNoName,aUnlike,aParts,aTooGreat,aTooLong,aNoValue,aNoWords,aNoLine],decide (b=C)=false)->decide (aNoProgram=C)=b1->decide (aTwice=C)=b2->decide (aNoBind=C)=b3->∀ i:Nat,(∀ H' v,ad H H'->Rep H' (.tup [.str (iO b1 b2 b3),.tup [.int i,.int 0]]) v->Q v H')->Thr E H0 C i):yl aNoProgram aTwice aNoBind H0 Q' E ft:=by
 have all:∀ {C:Addr},C∉[aNoName,aUnlike,aParts,aTooGreat,aTooLong,aNoValue,aNoWords,aNoLine]->∀ b∈[aNoName,aUnlike,aParts,aTooGreat,aTooLong,aNoValue,aNoWords,aNoLine],decide (b=C)=false:=fun h b hb=>decide_eq_false fun z=>h (z▸hb)
 have n1:=ϱ.mp Er.nd
 have n2:=ϱ.mp n1.2
 have n3:=ϱ.mp n2.2
 have e12:aNoProgram≠aTwice:=fun z=>n1.1 (by rw [z]; simp)
 have e13:aNoProgram≠aNoBind:=fun z=>n1.1 (by rw [z]; simp)
 have e23:aTwice≠aNoBind:=fun z=>n2.1 (by rw [z]; simp)
 cases ft with
 | ok=>exact h0 rfl
 | np i=>exact key aNoProgram true false false Er.cN (all fun z=>n1.1 (ο _ (ο _ z))) (decide_eq_true rfl) (decide_eq_false (ϊ e12)) (decide_eq_false (ϊ e13)) i (by rw [Ak]; exact q)
 | tw i=>exact key aTwice false true false Er.cT (all fun z=>n2.1 (ο _ z)) (decide_eq_false e12) (decide_eq_true rfl) (decide_eq_false (ϊ e23)) i (by rw [Aq]; exact q)
 | nb i=>exact key aNoBind false false true Er.cB (all n3.1) (decide_eq_false e13) (decide_eq_false e23) (decide_eq_true rfl) i (by rw [AS]; exact q)
theorem zle {n m:Nat} (h:n<=m) (hm:m<=1000):n<=sizeLine:=by rw [ψ]; omega
section
variable {P:Β} {w:Ξ} {K:PySem.W.Frag} {mg:Str->Option δ} {base:Heap}
theorem il:ap ["_law_thing","_law_told","_law_e","_law_others","_law_word"] ["_law_thing"] (ai gy):=⟨rfl,rfl,rfl,by decide +kernel,rfl,by decide +kernel,by decide +kernel⟩
theorem oq {f fc D fI aNoProgram aTwice aNoBind aNoName aUnlike aParts aTooGreat aTooLong aNoValue aNoWords aNoLine:Addr} {fd fdc:Μ} {k:Nat} (F:Fun K "_law_refused" "_law_refused" gy f fd) (T:Txt K mg) (Er:yW K mg D fI aNoProgram aTwice aNoBind aNoName aUnlike aParts aTooGreat aTooLong aNoValue aNoWords aNoLine)
  (F_checked:aK P w K mg base (CXe P w) k fc fdc ["thing"] (yr aNoProgram aTwice aNoBind)) (G_checked:mg "checked"=some (.ref fc)) (K_checked:PySem.W.keepIn K (.ref fc)=true) (B_checked:bG K fdc ["thing"] []):aK P w K mg base CX0 (k + 1) f fd ["_law_thing"] yq:=by
 have nd:(["_law_thing","_law_told","_law_e","_law_others","_law_word"]:List Str).Nodup:=il.nd
 have G_NoProgram:=Er.gNoProgram
 have G_Twice:=Er.gTwice
 have G_NoBind:=Er.gNoBind
 have G_NoName:=Er.gNoName
 have G_Unlike:=Er.gUnlike
 have G_Parts:=Er.gParts
 have G_TooGreat:=Er.gTooGreat
 have G_TooLong:=Er.gTooLong
 have G_NoValue:=Er.gNoValue
 have G_NoWords:=Er.gNoWords
 have G_NoLine:=Er.gNoLine
 have G_IndexwiseError:=Er.gD
 have XT:=Er.top
 refine F.ok il (fun vs H Q E h=>?_) (fun cdv A outer s H vs Q E hr h=>?_)
 ·obtain ⟨l,us,ds,ft,rfl,_⟩:=h
  rfl
 obtain ⟨l,us,ds,ft,rfl,hl,Ru,sm,l12,ff,q⟩:=h
 refine ⟨_,(@un _ _ _ (wbO (wbM 1 nd rfl (Λ rfl) (waX (wae waV (wae waN waf rfl) rfl)) rfl (by trivial)) (wbO (wcc D fI 2 F_checked hr rfl G_checked K_checked B_checked (wae (wv 0 rfl) waf rfl) (fun _ _ z=>z) rfl XT rfl G_IndexwiseError rfl rfl nd rfl rfl (fun eH=>(wbO (wbM 3 nd rfl (Λ rfl) (waM (wae (wal (bd (D:=D) (fI:=fI)) rfl T.isinstance (by decide +kernel) (wae (wv 2 rfl) (wae (waB (.ref aNoName) rfl G_NoName rfl (by decide)) waf rfl) rfl) (by decide) (by decide) rfl rfl) (wae (wal (bd (D:=D) (fI:=fI)) rfl T.isinstance (by decide +kernel) (wae (wv 2 rfl) (wae (waB (.ref aUnlike) rfl G_Unlike rfl (by decide)) waf rfl) rfl) (by decide) (by decide) rfl rfl) (wae (wal (bd (D:=D) (fI:=fI)) rfl T.isinstance (by decide +kernel) (wae (wv 2 rfl) (wae (waB (.ref aParts) rfl G_Parts rfl (by decide)) waf rfl) rfl) (by decide) (by decide) rfl rfl) (wae (wal (bd (D:=D) (fI:=fI)) rfl T.isinstance (by decide +kernel) (wae (wv 2 rfl) (wae (waB (.ref aTooGreat) rfl G_TooGreat rfl (by decide)) waf rfl) rfl) (by decide) (by decide) rfl rfl) waf rfl) rfl) rfl) rfl)) rfl (by trivial)) (wbO (wbM 3 nd rfl (Λ rfl) (waQ gA (wv 3 rfl) (waM (wae (wal (bd (D:=D) (fI:=fI)) rfl T.isinstance (by decide +kernel) (wae (wv 2 rfl) (wae (waB (.ref aTooLong) rfl G_TooLong rfl (by decide)) waf rfl) rfl) (by decide) (by decide) rfl rfl) (wae (wal (bd (D:=D) (fI:=fI)) rfl T.isinstance (by decide +kernel) (wae (wv 2 rfl) (wae (waB (.ref aNoValue) rfl G_NoValue rfl (by decide)) waf rfl) rfl) (by decide) (by decide) rfl rfl) (wae (wal (bd (D:=D) (fI:=fI)) rfl T.isinstance (by decide +kernel) (wae (wv 2 rfl) (wae (waB (.ref aNoWords) rfl G_NoWords rfl (by decide)) waf rfl) rfl) (by decide) (by decide) rfl rfl) waf rfl) rfl) rfl))) rfl (by trivial)) (wbO (wbG (waj PySem.F.plainAttrs_list PySem.F.slot_list_append PySem.F.type_list_append bg (wv 3 rfl) (wae (wal (bd (D:=D) (fI:=fI)) rfl T.isinstance (by decide +kernel) (wae (wv 2 rfl) (wae (waB (.ref aNoLine) rfl G_NoLine rfl (by decide)) waf rfl) rfl) (by decide) (by decide) rfl rfl) waf rfl) rfl rfl rfl rfl rfl) rfl) (wbO (wbM 4 nd rfl (Λ rfl) (waQ bv (waQ cX waV (wam dZ rfl T.int (by decide +kernel) (wae (wal (bd (D:=D) (fI:=fI)) rfl T.isinstance (by decide +kernel) (wae (wv 2 rfl) (wae (waB (.ref aNoProgram) rfl G_NoProgram rfl (by decide)) waf rfl) rfl) (by decide) (by decide) rfl rfl) waf rfl) (by decide) (by decide) rfl rfl)) (waQ cX waV (wam dZ rfl T.int (by decide +kernel) (wae (wal (bd (D:=D) (fI:=fI)) rfl T.isinstance (by decide +kernel) (wae (wv 2 rfl) (wae (waB (.ref aTwice) rfl G_Twice rfl (by decide)) waf rfl) rfl) (by decide) (by decide) rfl rfl) waf rfl) (by decide) (by decide) rfl rfl))) rfl (by trivial)) (wbO (wbM 4 nd rfl (Λ rfl) (waQ bv (waQ bv (wv 4 rfl) (waQ cX waV (wam dZ rfl T.int (by decide +kernel) (wae (wal (bd (D:=D) (fI:=fI)) rfl T.isinstance (by decide +kernel) (wae (wv 2 rfl) (wae (waB (.ref aNoBind) rfl G_NoBind rfl (by decide)) waf rfl) rfl) (by decide) (by decide) rfl rfl) waf rfl) (by decide) (by decide) rfl rfl))) (waQ cX waV (wam dZ rfl T.int (by decide +kernel) (wae (waR (wal (sN (e:=eH) rfl) rfl T.any (by decide +kernel) (wae (wv 3 rfl) waf rfl) (by decide) (by decide) rfl rfl) (waP (waO (wal (bd (D:=D) (fI:=fI)) rfl T.isinstance (by decide +kernel) (wae (wv 2 rfl) (wae (wai (.ty "ValueError") rfl T.ValueError (by decide +kernel) rfl (by decide) (by decide)) waf rfl) rfl) (by decide) (by decide) rfl rfl)))) waf rfl) (by decide) (by decide) rfl rfl))) rfl (by trivial)) (wbQ (wbM 1 nd rfl (Λ rfl) (waX (wae (wv 4 rfl) (wae (wcf D fI (wv 2 rfl) rfl) waf rfl) rfl)) rfl (by trivial))))))))) (by decide) (by decide) rfl rfl rfl) (wbQ (wbK (wv 1 rfl)))))),?_⟩
 refine ⟨z2,fun p0 hp0=>?_⟩
 have s0:=ac hp0 (.tup [.str "taken",.non])
 have h0:upd H p0 (.tup [.str "taken",.non]) p0=some (.tup [.str "taken",.non]):=aa
 generalize upd H p0 (.tup [.str "taken",.non])=H0 at s0 h0 ⊢
 refine ⟨_,rfl,l,us,ds,ft,rfl,s0 _ _ hl,Ru.mono s0,sm,l12,ff,?_⟩
 refine wA Er q (fun e v H' s'=>?m0) ?key
 case m0=>
  rw [e] at q
  refine ⟨_,rfl,q H' (.ref p0) (s0.trans s') ?_⟩
  show Rep H' (.tup [.str "taken",.non]) _
  rw [Rep]
  exact ⟨p0,_,rfl,s' _ _ h0,by simp only [Reps]; exact ⟨_,_,rfl,by simp only [Rep],_,_,rfl,by simp only [Rep],rfl⟩⟩
 case key=>
  intro C b1 b2 b3 c ho g1 g2 g3 i hq H1 dx p s1 hdx hp
  refine ⟨C,dx,.ref p,rfl,rfl,c,hdx,fun e he=>?_⟩
  have t1:=s0.trans (s1.trans (ac he (Xh C dx e)))
  have hX:upd H1 e (Xh C dx e) e=some (Xh C dx e):=aa
  have hd1:=ac he (Xh C dx e) _ _ hdx
  have hp1:=ac he (Xh C dx e) _ _ hp
  generalize upd H1 e (Xh C dx e)=H2 at t1 hX hd1 hp1 ⊢
  refine ⟨_,rfl,e,C,dx,_,rfl,hX,c,.inl ⟨_,_,rfl,(Er.oth aNoName (by simp)),(ho aNoName (by simp)),⟨_,rfl,e,C,dx,_,rfl,hX,c,.inl ⟨_,_,rfl,(Er.oth aUnlike (by simp)),(ho aUnlike (by simp)),⟨_,rfl,e,C,dx,_,rfl,hX,c,.inl ⟨_,_,rfl,(Er.oth aParts (by simp)),(ho aParts (by simp)),⟨_,rfl,e,C,dx,_,rfl,hX,c,.inl ⟨_,_,rfl,(Er.oth aTooGreat (by simp)),(ho aTooGreat (by simp)),⟨zle (τ 4) (by decide),fun q1 hq1=>?_⟩⟩⟩⟩⟩⟩⟩⟩⟩
  have t2:=ac hq1 (.lst [.bl false,.bl false,.bl false,.bl false])
  have hX:=t2 _ _ hX
  have w2:upd H2 q1 (.lst [.bl false,.bl false,.bl false,.bl false]) q1=some (.lst [.bl false,.bl false,.bl false,.bl false]):=aa
  generalize upd H2 q1 (.lst [.bl false,.bl false,.bl false,.bl false])=H3 at t2 hX w2 ⊢
  refine ⟨_,rfl,⟨_,rfl,e,C,dx,_,rfl,hX,c,.inl ⟨_,_,rfl,(Er.oth aTooLong (by simp)),(ho aTooLong (by simp)),⟨_,rfl,e,C,dx,_,rfl,hX,c,.inl ⟨_,_,rfl,(Er.oth aNoValue (by simp)),(ho aNoValue (by simp)),⟨_,rfl,e,C,dx,_,rfl,hX,c,.inl ⟨_,_,rfl,(Er.oth aNoWords (by simp)),(ho aNoWords (by simp)),⟨zle (τ 3) (by decide),fun q2 hq2=>?_⟩⟩⟩⟩⟩⟩⟩⟩
  have t3:=ac hq2 (.lst [.bl false,.bl false,.bl false])
  refine ⟨q1,q2,_,_,rfl,rfl,t3 _ _ w2,aa,zle (τ 7) (by decide),fun q3 hq3=>?_⟩
  have t4:=t3.trans (ac hq3 (.lst [.bl false,.bl false,.bl false,.bl false,.bl false,.bl false,.bl false]))
  have hX:=t4 _ _ hX
  have w4:upd (upd H3 q2 (.lst [.bl false,.bl false,.bl false])) q3 (.lst ([.bl false,.bl false,.bl false,.bl false] ++ [.bl false,.bl false,.bl false])) q3=some (.lst [.bl false,.bl false,.bl false,.bl false,.bl false,.bl false,.bl false]):=aa
  have n3:H3 q3=none:=t3.free hq3
  replace t4:ad H3 (upd (upd H3 q2 (.lst [.bl false,.bl false,.bl false])) q3 (.lst ([.bl false,.bl false,.bl false,.bl false] ++ [.bl false,.bl false,.bl false]))):=t4
  replace hX:upd (upd H3 q2 (.lst [.bl false,.bl false,.bl false])) q3 (.lst ([.bl false,.bl false,.bl false,.bl false] ++ [.bl false,.bl false,.bl false])) e=some (Xh C dx e):=hX
  generalize upd (upd H3 q2 (.lst [.bl false,.bl false,.bl false])) q3 (.lst ([.bl false,.bl false,.bl false,.bl false] ++ [.bl false,.bl false,.bl false]))=H4 at t4 hX w4 ⊢
  refine ⟨_,rfl,.inl ⟨rfl,_,SqL.of w4⟩,_,rfl,e,C,dx,_,rfl,hX,c,.inl ⟨_,_,rfl,(Er.oth aNoLine (by simp)),(ho aNoLine (by simp)),⟨q3,_,_,rfl,rfl,w4,by rw [ψ]; show 7 < 16777216; decide,?_⟩⟩⟩
  have t5:ad H3 (upd H4 q3 (.lst (([false,false,false,false,false,false,false,false]:List Bool).map V.bl))):=fun g o z=>by rw [ag (ae z n3)]; exact t4 _ _ z
  have w5:upd H4 q3 (.lst (([false,false,false,false,false,false,false,false]:List Bool).map V.bl)) q3=some (.lst (([false,false,false,false,false,false,false,false]:List Bool).map V.bl)):=aa
  have ne3:e≠q3:=fun z=>by rw [z] at hX; rw [hX] at w4; cases w4
  have hX:upd H4 q3 (.lst (([false,false,false,false,false,false,false,false]:List Bool).map V.bl)) e=some (Xh C dx e):=by rw [ag ne3]; exact hX
  show lD _ _ _ _ (upd H4 q3 (.lst (([false,false,false,false,false,false,false,false]:List Bool).map V.bl)))
  generalize upd H4 q3 (.lst (([false,false,false,false,false,false,false,false]:List Bool).map V.bl))=H5 at t5 hX w5 ⊢
  obtain ⟨l1,l2,l3⟩:=tY b1 b2 b3
  refine ⟨_,rfl,e,C,dx,_,rfl,hX,c,.inl ⟨_,_,rfl,Er.cN.sub,g1,(.inr ⟨_,rfl,_,_,rfl,rfl,by decide +kernel,by cases b1 <;> decide,by cases b1 <;> decide,?_⟩)⟩⟩
  refine ⟨_,rfl,e,C,dx,_,rfl,hX,c,.inl ⟨_,_,rfl,Er.cT.sub,g2,(.inr ⟨_,rfl,_,_,rfl,rfl,by decide +kernel,by cases b2 <;> decide,by cases b2 <;> decide,?_⟩)⟩⟩
  refine ⟨_,_,rfl,rfl,zle l1 (by decide),?_⟩
  refine ⟨_,rfl,⟨_,rfl,e,C,dx,_,rfl,hX,c,.inl ⟨_,_,rfl,Er.cB.sub,g3,(.inr ⟨_,rfl,_,_,rfl,rfl,by decide +kernel,by cases b3 <;> decide,by cases b3 <;> decide,?_⟩)⟩⟩⟩
  refine ⟨_,_,rfl,rfl,zle l2 (by decide),?_⟩
  refine ⟨_,rfl,q3,_,C,dx,rfl,w5,hX,false,rfl,aA ⟨_,rfl,e,C,dx,_,rfl,hX,c,.inr ⟨rfl,_,rfl,.inr ⟨_,rfl,_,_,rfl,rfl,by decide +kernel,by decide,by decide,?_⟩⟩⟩⟩
  refine ⟨_,_,rfl,rfl,zle l3 (by decide),?_⟩
  refine ⟨_,rfl,_,rfl,e,C,dx,_,rfl,hX,c,t5 _ _ (t2 _ _ hd1),z2,fun q9 hq9=>?_⟩
  have t6:=ac hq9 (.tup [.str (iO b1 b2 b3),.ref p])
  refine ⟨_,rfl,hq _ (.ref q9) (t1.trans (t2.trans (t5.trans t6))) ?_⟩
  rw [Rep]
  refine ⟨q9,_,rfl,aa,?_⟩
  simp only [Reps]
  refine ⟨_,_,rfl,by simp only [Rep]; rfl,_,_,rfl,?_,rfl⟩
  rw [Rep]
  exact ⟨p,_,rfl,t6 _ _ (t5 _ _ (t2 _ _ hp1)),by simp only [Reps]; exact ⟨_,_,rfl,by simp only [Rep],_,_,rfl,by simp only [Rep],rfl⟩⟩
end
inductive It | row (r:Rw) | np (d:Dv) | tw (r:Rw) | nb (r:Rw)
def It.dv:It->Dv | .row r=>r.dv | .np d=>d | .tw r=>r.dv | .nb r=>r.dv
def It.mark:It->Str | .row _=>"row" | .np _=>"program" | .tw _=>"twice" | .nb _=>"bind"
def It.rw:It->Rw | .row r=>r | .np _=>.ask .non | .tw r=>r | .nb r=>r
def It.row?:It->Option Rw | .row r=>some r | _=>none
def It.isNb:It->Bool | .nb _=>true | _=>false
def N3:List Str:=["fzd","fze","fzf"]
structure vd (r:Rw):Prop where
 ok:r.Ok
 row:be r.dv=true
 small:r.dv.small=true
structure TwR (r:Rw):Prop where
 fit:r.Fit
 row:be r.dv=true
 small:r.dv.small=true
 tw:∃ f ns ps e,r=.df f ns ps e/\(f="fza"\/¬ ns.Nodup\/¬ (ps.map (·.1)).Nodup)
structure NbR (r:Rw):Prop where
 fit:r.Fit
 row:be r.dv=true
 small:r.dv.small=true
 nb:∃ f ns ps e,r=.df f ns ps e/\f∈N3/\ns.Nodup/\(ps.map (·.1)).Nodup/\iL ns ps=false
def bq (xs:List It):List Rw:=xs.filterMap It.row?
def fza:Rw:=.df "fza" [] [] (.tup [.str "number",.int 1])
structure Mix (xs:List It):Prop where
 head:xs[0]?=some (.row fza)
 rows:∀ r,It.row r∈xs->vd r
 nd:((bq xs).flatMap Rw.f?).Nodup
 n3:∀ x∈(bq xs).flatMap Rw.f?,x∉N3
 np:∀ d,It.np d∈xs->be d=false/\d.small=true
 tw:∀ r,It.tw r∈xs->TwR r
 nb:∀ r,It.nb r∈xs->NbR r
 nb1:(xs.filter It.isNb).length<=1
theorem Rw.Ok.fit {r:Rw} (h:r.Ok):r.Fit:=by
 cases r with
 | ask e=>trivial
 | df f ns ps e=>exact ⟨h.2.2.2.1,h.2.2.2.2.1,h.2.2.2.2.2⟩
theorem AZ {ys:List It} {r:Rw} {x:Str} (h:It.row r∈ys) (hx:x∈r.f?):x∈(bq ys).flatMap Rw.f?:=CK.mpr ⟨r,y8.mpr ⟨_,h,rfl⟩,hx⟩
theorem nF {α β:Type} {f:α->List β} {l1 l2:List α} (h:l1.Sublist l2):(l1.flatMap f).Sublist (l2.flatMap f):=by
 induction h with
 | slnil=>exact Cv _
 | cons a _ ih=>rw [ϰ]; exact ih.trans (List.sublist_append_right _ _)
 | cons_cons a _ ih=>rw [ϰ,ϰ]; exact (Cv _).append ih
theorem iw:∀ {ys:List It},(∀ i∈ys,(∃ r,i=.row r)\/∃ r,i=.nb r)->((bq ys).flatMap Rw.f?).Nodup->(∀ x∈(bq ys).flatMap Rw.f?,x∉N3)->(ys.filter It.isNb).length<=1->(∀ r,It.nb r∈ys->NbR r)->((ys.map It.rw).flatMap Rw.f?).Nodup
 | [],_,_,_,_,_=>by simp
 | y :: ys,h,nd,n3,n1,nb=>by
  have sub:∀ {z:Str},z∈(ys.map It.rw).flatMap Rw.f?->z∈(bq ys).flatMap Rw.f?\/∃ r,It.nb r∈ys/\z∈r.f?:=fun {z} hz=>by
   obtain ⟨r,hr,hz⟩:=CK.mp hz
   obtain ⟨i,hi,rfl⟩:=Δ.mp hr
   rcases h i (ο _ hi) with ⟨r,rfl⟩ | ⟨r,rfl⟩
   ·exact .inl (AZ hi hz)
   ·exact .inr ⟨r,hi,hz⟩
  have isN3:∀ {r:Rw} {z:Str},NbR r->z∈r.f?->z∈N3:=fun {r z} n hz=>by
   obtain ⟨f,ns,ps,e,rfl,hf,_⟩:=n.nb
   rw [ε.mp hz]; exact hf
  rcases h y Ε with ⟨r,rfl⟩ | ⟨r,rfl⟩
  ·have e:bq (.row r :: ys)=r :: bq ys:=rfl
   rw [e,ϰ] at nd n3
   have nd':=g_.mp nd
   have ih:=iw (fun i hi=>h i (ο _ hi)) nd'.2.1 (fun x hx=>n3 x (ϒ _ hx)) n1 (fun r hr=>nb r (ο _ hr))
   rw [Ο,ϰ]
   refine g_.mpr ⟨nd'.1,ih,fun a ha b hb z=>?_⟩
   rcases sub hb with g | ⟨r',g,g'⟩
   ·exact nd'.2.2 a ha b g z
   ·exact n3 a (Ϲ _ ha) (z▸isN3 (nb r' (ο _ g)) g')
  ·have e:bq (.nb r :: ys)=bq ys:=rfl
   rw [e] at nd n3
   have n0:(ys.filter It.isNb).length=0:=by
    have:(It.nb r :: ys).filter It.isNb=.nb r :: ys.filter It.isNb:=rfl
    rw [this,Υ] at n1; omega
   have ih:=iw (fun i hi=>h i (ο _ hi)) nd n3 (by omega) (fun r hr=>nb r (ο _ hr))
   rw [Ο,ϰ]
   have hr:=nb r Ε
   refine g_.mpr ⟨?_,ih,fun a ha b hb z=>?_⟩
   ·obtain ⟨f,ns,ps,e,rfl,_⟩:=hr.nb
    show [f].Nodup
    simp
   ·rcases sub hb with g | ⟨r',g,_⟩
    ·exact n3 b g (z▸isN3 hr ha)
    ·have:It.nb r'∈ys.filter It.isNb:=j8.mpr ⟨g,rfl⟩
     rw [Cl.mp n0] at this
     cases this
theorem AB {ys:List It} (h:∀ i∈ys,(∃ r,i=.row r)\/∃ r,i=.nb r) (g:∀ r,It.row r∈ys->r.Ok) (nb:∀ r,It.nb r∈ys->NbR r) (nd:((ys.map It.rw).flatMap Rw.f?).Nodup):∀ j,¬ twB (ys.map It.rw) j:=by
 rintro j ⟨f,ns,ps,e,hj,z⟩
 rw [Κ] at hj
 obtain ⟨i,hi,he⟩:=Ϙ.mp hj
 have hm:=Α hi
 have ok:ns.Nodup/\(ps.map (·.1)).Nodup:=by
  rcases h i hm with ⟨r,rfl⟩ | ⟨r,rfl⟩
  ·have he:r=.df f ns ps e:=he
   have:=g r hm
   rw [he] at this
   exact ⟨this.1,this.2.1⟩
  ·obtain ⟨f',ns',ps',e',hr,_,n1,n2,_⟩:=(nb r hm).nb
   have he:r=.df f ns ps e:=he
   rw [hr] at he
   cases he
   exact ⟨n1,n2⟩
 rcases z with z | z | z
 ·have hl:j < ys.length:=(π.mp hi).1
  have e1:ys.map It.rw=(ys.map It.rw).take j ++ (ys.map It.rw).drop j:=(h_ _ _).symm
  rw [e1,ϴ,g_] at nd
  refine nd.2.2 f z f ?_ rfl
  refine CK.mpr ⟨.df f ns ps e,?_,ε.mpr rfl⟩
  refine Α (i:=0) ?_
  rw [List.getElem?_drop,Nat.add_zero,Κ,hi,<- he]; rfl
 ·exact z ok.1
 ·exact z ok.2
theorem pi {xs:List It} {m:Str} (h:m∈xs.map It.mark):∃ i,xs[(xs.map It.mark).idxOf m]?=some i/\i.mark=m/\∀ j i',j < (xs.map It.mark).idxOf m->xs[j]?=some i'->i'.mark≠m:=by
 have hl:(xs.map It.mark).idxOf m < (xs.map It.mark).length:=List.idxOf_lt_length_iff.mpr h
 have hl':(xs.map It.mark).idxOf m < xs.length:=by rwa [ζ] at hl
 refine ⟨xs[(xs.map It.mark).idxOf m],Ζ hl',?_,fun j i' hj hi e=>?_⟩
 ·have:=List.getElem_idxOf hl
  rwa [CF] at this
 ·have h2:=List.not_of_lt_findIdx (p:=(· == m)) (xs:=xs.map It.mark) (i:=j) (by simpa [List.idxOf] using hj)
  have hj':j < xs.length:=Nat.lt_trans hj hl'
  rw [Ζ hj'] at hi
  cases hi
  simp only [CF] at h2
  rw [e] at h2
  simp at h2
theorem xN {i:It} (h:i.mark="program"):∃ d,i=.np d:=by
 cases i with
 | row r=>exact absurd (show η "row"=η "program" from h) (by decide +kernel)
 | np d=>exact ⟨d,rfl⟩
 | tw r=>exact absurd (show η "twice"=η "program" from h) (by decide +kernel)
 | nb r=>exact absurd (show η "bind"=η "program" from h) (by decide +kernel)
theorem wj {i:It} (h:i.mark="twice"):∃ r,i=.tw r:=by
 cases i with
 | row r=>exact absurd (show η "row"=η "twice" from h) (by decide +kernel)
 | np d=>exact absurd (show η "program"=η "twice" from h) (by decide +kernel)
 | tw r=>exact ⟨r,rfl⟩
 | nb r=>exact absurd (show η "bind"=η "twice" from h) (by decide +kernel)
theorem xF {i:It} (h:i.mark="bind"):∃ r,i=.nb r:=by
 cases i with
 | row r=>exact absurd (show η "row"=η "bind" from h) (by decide +kernel)
 | np d=>exact absurd (show η "program"=η "bind" from h) (by decide +kernel)
 | tw r=>exact absurd (show η "twice"=η "bind" from h) (by decide +kernel)
 | nb r=>exact ⟨r,rfl⟩
section
variable {xs:List It}
theorem Mix.goodD (M:Mix xs) {i:It} (hi:i∈xs) (hn:∀ d,i≠.np d):be i.dv=true/\i.rw.Fit/\i.dv=i.rw.dv:=by
 cases i with
 | row r=>exact ⟨(M.rows r hi).row,(M.rows r hi).ok.fit,rfl⟩
 | np d=>exact absurd rfl (hn d)
 | tw r=>exact ⟨(M.tw r hi).row,(M.tw r hi).fit,rfl⟩
 | nb r=>exact ⟨(M.nb r hi).row,(M.nb r hi).fit,rfl⟩
theorem Mix.small (M:Mix xs):∀ d∈xs.map It.dv,d.small=true:=fun d hd=>by
 obtain ⟨i,hi,rfl⟩:=Δ.mp hd
 cases i with
 | row r=>exact (M.rows r hi).small
 | np d=>exact (M.np d hi).2
 | tw r=>exact (M.tw r hi).small
 | nb r=>exact (M.nb r hi).small
theorem Mix.fate_np (M:Mix xs) (h:η "program"∈xs.map It.mark):iE (xs.map It.dv) (.np ((xs.map It.mark).idxOf (η "program"))):=by
 obtain ⟨i,hi,hm,hj⟩:=pi h
 obtain ⟨d,rfl⟩:=xN hm
 refine ⟨d,by rw [Κ,hi]; rfl,(M.np d (Α hi)).1,fun j d' hlt hd=>?_⟩
 rw [Κ] at hd
 obtain ⟨i',hi',rfl⟩:=Ϙ.mp hd
 exact (M.goodD (Α hi') fun d z=>hj j i' hlt hi' (by rw [z]; rfl)).1
theorem fU {m:Str} {i:It} (h:m∉xs.map It.mark) (hi:i∈xs):i.mark≠m:=fun z=>h (Δ.mpr ⟨i,hi,z⟩)
theorem Mix.rws (M:Mix xs) (h:η "program"∉xs.map It.mark):xs.map It.dv=(xs.map It.rw).map Rw.dv/\∀ r∈xs.map It.rw,be r.dv=true/\r.Fit:=by
 have g:∀ i∈xs,be i.dv=true/\i.rw.Fit/\i.dv=i.rw.dv:=fun i hi=>M.goodD hi fun d z=>fU h hi (by rw [z]; rfl)
 refine ⟨by rw [ϋ]; exact m6 fun i hi=>(g i hi).2.2,fun r hr=>?_⟩
 obtain ⟨i,hi,rfl⟩:=Δ.mp hr
 obtain ⟨a,b,c⟩:=g i hi
 exact ⟨by rw [<- c]; exact a,b⟩
theorem Mix.pre (M:Mix xs) {ys:List It} (hs:ys.Sublist xs) (h:∀ i∈ys,(∃ r,i=.row r)\/∃ r,i=.nb r):∀ j,¬ twB (ys.map It.rw) j:=by
 have hm:∀ i∈ys,i∈xs:=fun i hi=>hs.subset hi
 have s2:((bq ys).flatMap Rw.f?).Sublist ((bq xs).flatMap Rw.f?):=nF (hs.filterMap _)
 refine AB h (fun r hr=>(M.rows r (hm _ hr)).ok) (fun r hr=>M.nb r (hm _ hr)) (iw h (s2.nodup M.nd) (fun x hx=>M.n3 x (s2.subset hx)) (ϔ (hs.filter _).length_le M.nb1) fun r hr=>M.nb r (hm _ hr))
theorem gf {i:It} (h1:i.mark≠"program") (h2:i.mark≠"twice"):(∃ r,i=.row r)\/∃ r,i=.nb r:=by
 cases i with
 | row r=>exact .inl ⟨r,rfl⟩
 | np d=>exact absurd rfl h1
 | tw r=>exact absurd rfl h2
 | nb r=>exact .inr ⟨r,rfl⟩
theorem Mix.fate_tw (M:Mix xs) (h1:η "program"∉xs.map It.mark) (h:η "twice"∈xs.map It.mark):iE (xs.map It.dv) (.tw ((xs.map It.mark).idxOf (η "twice"))):=by
 obtain ⟨i,hi,hm,hj⟩:=pi h
 obtain ⟨r,rfl⟩:=wj hm
 obtain ⟨e,g⟩:=M.rws h1
 refine ⟨xs.map It.rw,e,g,?_,fun j hlt z=>?_⟩
 ·obtain ⟨f,ns,ps,e,rfl,z⟩:=(M.tw r (Α hi)).tw
  refine ⟨f,ns,ps,e,by rw [Κ,hi]; rfl,?_⟩
  rcases z with z | z
  ·refine .inl (CK.mpr ⟨fza,?_,by rw [z]; exact ε.mpr rfl⟩)
   have h0:=M.head
   have lt:0 < (xs.map It.mark).idxOf (η "twice"):=Nat.pos_of_ne_zero fun z=>by
    rw [z,h0] at hi; cases hi
   refine Α (i:=0) ?_
   rw [x4 lt,Κ,h0]; rfl
  ·exact .inr z
 ·have hp:=M.pre (Cq ((xs.map It.mark).idxOf (η "twice")) xs) (fun i' hi'=>by
   obtain ⟨j',hj',e'⟩:=e_ hi'
   have lt:j' < (xs.map It.mark).idxOf (η "twice"):=by rw [Ρ] at hj'; omega
   have he:xs[j']?=some i':=by rw [<- e',List.getElem_take]; exact Ζ _
   exact gf (fU h1 (Ϛ hi')) (hj j' i' lt he)) j
  apply hp
  obtain ⟨f,ns,ps,e,h',z⟩:=z
  rw [k_]
  exact ⟨f,ns,ps,e,by rw [x4 hlt]; exact h',by rw [List.take_take,u6 (k9 hlt)]; exact z⟩
theorem Mix.fate_nb (M:Mix xs) (h1:η "program"∉xs.map It.mark) (h2:η "twice"∉xs.map It.mark) (h:η "bind"∈xs.map It.mark):iE (xs.map It.dv) (.nb ((xs.map It.mark).idxOf (η "bind"))):=by
 obtain ⟨i,hi,hm,hj⟩:=pi h
 obtain ⟨r,rfl⟩:=xF hm
 obtain ⟨e,g⟩:=M.rws h1
 refine ⟨xs.map It.rw,e,g,M.pre (Cv _) fun i hi=>gf (fU h1 hi) (fU h2 hi),?_,fun j hlt z=>?_⟩
 ·obtain ⟨f,ns,ps,e,rfl,_,_,_,z⟩:=(M.nb r (Α hi)).nb
  exact ⟨f,ns,ps,e,by rw [Κ,hi]; rfl,z⟩
 ·obtain ⟨f,ns,ps,e,h',z⟩:=z
  rw [Κ] at h'
  obtain ⟨i',hi',he⟩:=Ϙ.mp h'
  have hm':=Α hi'
  rcases gf (fU h1 hm') (fU h2 hm') with ⟨r',rfl⟩ | ⟨r',rfl⟩
  ·have he:r'=.df f ns ps e:=he
   have ok:=(M.rows r' hm').ok
   rw [he] at ok
   rw [ok.2.2.1] at z; cases z
  ·exact hj j _ hlt hi' rfl
theorem Mix.fate_ok (M:Mix xs) (h:∀ i∈xs,∃ r,i=.row r):iE (xs.map It.dv) .ok:=by
 have n:∀ m:Str,m≠"row"->m∉xs.map It.mark:=fun m hm z=>by
  obtain ⟨i,hi,rfl⟩:=Δ.mp z
  obtain ⟨r,rfl⟩:=h i hi
  exact hm rfl
 obtain ⟨e,g⟩:=M.rws (n _ (by decide +kernel))
 refine ⟨xs.map It.rw,e,g,M.pre (Cv _) fun i hi=>.inl (h i hi),fun j ⟨f,ns,ps,e,h',z⟩=>?_⟩
 rw [Κ] at h'
 obtain ⟨i',hi',he⟩:=Ϙ.mp h'
 have hm':=Α hi'
 obtain ⟨r',rfl⟩:=h i' hm'
 have he:r'=.df f ns ps e:=he
 have ok:=(M.rows r' hm').ok
 rw [he] at ok
 rw [ok.2.2.1] at z; cases z
theorem Mix.ins (M:Mix xs) {n:Nat} {it:It} (hn:1<=n) (hr:∀ r,it≠.row r) (h1:∀ d,it=.np d->be d=false/\d.small=true) (h2:∀ r,it=.tw r->TwR r) (h3:∀ r,it=.nb r->NbR r/\xs.filter It.isNb=[]):Mix (xs.take n ++ it :: xs.drop n):=by
 have hm:∀ {i},i∈xs.take n ++ it :: xs.drop n->i=it\/i∈xs:=fun {i} h=>by
  rcases Ψ.mp h with z | z
  ·exact .inr (Ϛ z)
  ·rcases θ.mp z with z | z
   ·exact .inl z
   ·exact .inr (CS z)
 have er:bq (xs.take n ++ it :: xs.drop n)=bq xs:=by
  have hn0:it.row?=none:=by
   cases it with
   | row r=>exact absurd rfl (hr r)
   | _=>rfl
  have e0:bq xs=bq (xs.take n ++ xs.drop n):=by rw [h_]
  rw [e0]
  show (xs.take n ++ it :: xs.drop n).filterMap It.row?=(xs.take n ++ xs.drop n).filterMap It.row?
  rw [List.filterMap_append,List.filterMap_append,c6,hn0]
 refine ⟨?_,fun r h=>?_,by rw [er]; exact M.nd,by rw [er]; exact M.n3,fun d h=>?_,fun r h=>?_,fun r h=>?_,?_⟩
 ·have h0:=M.head
  have l0:0 < xs.length:=(π.mp h0).1
  rw [B_ (by rw [Ρ]; omega),x4 (by omega)]
  exact h0
 ·rcases hm h with z | z
  ·exact absurd z.symm (hr r)
  ·exact M.rows r z
 ·rcases hm h with z | z
  ·exact h1 d z.symm
  ·exact M.np d z
 ·rcases hm h with z | z
  ·exact h2 r z.symm
  ·exact M.tw r z
 ·rcases hm h with z | z
  ·exact (h3 r z.symm).1
  ·exact M.nb r z
 ·have el:((xs.take n).filter It.isNb).length + ((xs.drop n).filter It.isNb).length=(xs.filter It.isNb).length:=by
   rw [<- ς,<- i8,h_]
  rw [i8,b_,ς]
  by_cases hb:it.isNb=true
  ·cases it with
   | nb r=>
    rw [(h3 r rfl).2,Cg] at el
    rw [if_pos hb,Υ]; omega
   | row r=>cases hb
   | np d=>cases hb
   | tw r=>cases hb
  ·rw [if_neg hb]
   have:=M.nb1
   omega
end
abbrev lF:Stmt:=top 68
def nw (B H:Hp):Hp:=fun b=>if (B b).isSome=true then none else H b
theorem hU {B H H':Hp} (s:ad H H'):ad (nw B H) (nw B H'):=fun b o h=>by
 unfold nw at h ⊢
 split at h
 ·cases h
 ·next z=>rw [if_neg z]; exact s b o h
def Cov (B H:Hp):Prop:=∀ p,H p=none->B p=none
theorem Cov.up {B H H':Hp} (c:Cov B H) (s:ad H H'):Cov B H':=fun p hp=>c p (s.free hp)
theorem ud {B H:Hp} {p:Addr} {o:HO} (s:Cov B H) (hp:H p=none):nw B (upd H p o) p=some o:=by
 unfold nw
 rw [s p hp,if_neg (by simp),aa]
theorem yZ {B H:Hp}:ad (nw B H) H:=fun b o h=>by
 unfold nw at h
 split at h
 ·cases h
 ·exact h
def dl (B:Hp) (t:TE) (σ:St) (H:Hp) (d:Dv):Prop:=∀ H1,ad H H1->∀ Q:VK,(∀ H' v,ad H1 H'->Rep (nw B H') d v->Q v H')->t σ H1 Q
def gE (B:Hp) (t:TA) (σ:St) (H:Hp) (ds:List Dv):Prop:=∀ H1,ad H H1->∀ Q:List V->Hp->Prop,(∀ H' vs,ad H1 H'->Reps (nw B H') ds vs->Q vs H')->t σ H1 Q
section
variable {B H:Hp} {σ:St} {d:Dv} {ds:List Dv} {ta:TE} {t:TA}
theorem aw:gE B wK σ H []:=fun H1 _ Q q=>q H1 [] (ad.refl _) (by simp [Reps])
theorem ah (h1:dl B ta σ H d) (h2:gE B t σ H ds):gE B (rB ta t) σ H (d :: ds):=fun H1 s Q q=>
 h1 H1 s _ fun H2 v s2 R=>h2 H2 (s.trans s2) _ fun H3 vs s3 Rs=>q H3 (v :: vs) (s2.trans s3) (by simp only [Reps]; exact ⟨v,vs,rfl,R.mono (hU s3),Rs⟩)
theorem aD (b:Cov B H) (h:gE B t σ H ds) (hz:ds.length<=1000):dl B (zh t) σ H (.tup ds):=fun H1 s Q q=>
 h H1 s _ fun H2 vs s2 Rs=>⟨by rw [Rs.length]; exact gu hz,fun p hp=>q _ (.ref p) (s2.trans (ac hp _)) (by simp only [Rep]; exact ⟨p,vs,rfl,ud (b.up (s.trans s2)) hp,Rs.mono (hU (ac hp _))⟩)⟩
theorem vN (b:Cov B H) (h:gE B t σ H ds) (hz:ds.length<=1000):dl B (tS t) σ H (.lst ds):=fun H1 s Q q=>
 h H1 s _ fun H2 vs s2 Rs=>⟨by rw [Rs.length]; exact gu hz,fun p hp=>q _ (.ref p) (s2.trans (ac hp _)) (by simp only [Rep]; exact ⟨p,vs,rfl,ud (b.up (s.trans s2)) hp,Rs.mono (hU (ac hp _))⟩)⟩
theorem kY {i:Int}:dl B (tC (.int i)) σ H (.int i):=fun H1 _ Q q=>q H1 _ (ad.refl _) (by simp [Rep])
theorem aX {x:Str}:dl B (tC (.str x)) σ H (.str x):=fun H1 _ Q q=>q H1 _ (ad.refl _) (by simp [Rep])
theorem yY:dl B (tC .non) σ H .non:=fun H1 _ Q q=>q H1 _ (ad.refl _) (by simp [Rep])
theorem eN {i:Nat} {v:V} (hv:σ[i]?=some (some v)) (R:Rep (nw B H) d v):dl B (fw i) σ H d:=fun H1 s Q q=>⟨v,hv,q H1 v (ad.refl _) (R.mono (hU s))⟩
theorem AI {i:Int} (h:∀ H1 Q,Q (.int i) H1->ta σ H1 Q):dl B ta σ H (.int i):=fun H1 _ Q q=>h H1 Q (q H1 _ (ad.refl _) (by simp [Rep]))
theorem jR {K:PySem.W.Frag} {i j:Nat} {r:Addr} {xs:List Str} {x:Str} (hv:σ[i]?=some (some (.ref r))) (hr:H r=some (.lst (xs.map V.str))) (hx:xs[j]?=some x):dl B (tOp (oM K) (fw i) (tC (.int (j:Int)))) σ H (.str x):=fun H1 s Q q=>
 ⟨_,hv,r,_,(j:Int),.str x,rfl,rfl,SqL.of (s _ _ hr),af (by rw [Κ,hx]; rfl),q H1 _ (ad.refl _) (by simp [Rep])⟩
variable {i:Nat} {u:TS} {D:bV} {S:Addr} {vs:List V}
theorem BP (h:dl B ta σ H d) (k:∀ H' v,ad H H'->Rep (nw B H') d v->u D (σ.set i (some v)) H'):lD (oA ta (cb i)) u D σ H:=h H (ad.refl H) _ k
theorem mL (h:gE B t σ H ds) (hz:ds.length<=1000) (k:∀ H2 vs S,ad H H2->Reps (nw B H2) ds vs->H2 S=none->u D (σ.set i (some (.ref S))) (upd H2 S (.lst vs))):lD (oA (tS t) (cb i)) u D σ H:=
 h H (ad.refl H) _ fun H2 vs s2 Rs=>⟨by rw [Rs.length]; exact gu hz,fun p hp=>k H2 vs p s2 Rs hp⟩
theorem Ag {K:PySem.W.Frag} (hv:σ[i]?=some (some (.ref S))) (hS:H S=some (.lst vs)) (h:dl B ta σ H d) (hz:vs.length < 1000) (k:∀ H' v,ad H H'->Rep (nw B H') d v->u D σ (upd H' S (.lst (vs ++ [v])))):lD (yg (tBM K "list" qY (fw i) (rB ta wK))) u D σ H:=
 ⟨_,hv,.inl ⟨rfl,_,SqL.of hS⟩,h H (ad.refl H) _ fun H' v s R=>⟨S,_,_,rfl,rfl,s _ _ hS,by rw [ψ]; omega,k H' v s R⟩⟩
theorem za {K:PySem.W.Frag} {ti:TE} (h:dl B ta σ H (.lst ds)) (k:∀ H' p vs,ad H H'->H' p=some (.lst vs)->Reps (nw B H') ds vs->ti σ H' fun y H2=>oM K (.ref p) y H2 D.rt):xc (tOp (oM K) ta ti) D σ H:=h H (ad.refl H) _ fun H' v s R=>by
 simp only [Rep] at R
 obtain ⟨p,vs,rfl,hp,Rs⟩:=R
 exact k H' p vs s (yZ _ _ hp) Rs
end
def eD (c:Int):Dv:=.tup [.str "number",.int (c % 9)]
theorem zQ (c:Int):exD (eD c)=true/\(eD c).small=true:=by
 obtain ⟨d0,d1⟩:=aN (a:=c) 9 (by decide)
 have x:Xp (0 + 1) (1 + 0 * 0) (.tup (.str "number" :: [.int (c % 9)])):=eA "number" "n" [.n] (by decide +kernel) (h:=0) (c:=0) (k:=0) (by
  show ((decide (0<=c % 9) && decide (c % 9 < 1000000000000)) && true)=true
  rw [decide_eq_true d0,decide_eq_true (by omega)]; rfl) rfl (fun d hd=>by rw [ε.mp hd]; rfl) (fun e he=>by simp [bc,XB.ptD] at he) (by simp [bc,XB.ptD])
 exact ⟨tG x (by decide) (by decide),x.1⟩
theorem fg {f:Str} {ns:List Str} {ps:List Prm} {e:Dv} (df:eP (.str f)=true) (sf:(Dv.str f).small=true) (ln:ns.length<=4) (mn:∀ y∈ns,nmB y=true) (lp:ps.length<=4) (mp:∀ p∈ps,nmB p.1=true/\p.2.All SL/\p.2.size<=12) (ex:exD e=true) (se:e.small=true):be (Rw.df f ns ps e).dv=true/\(Rw.df f ns ps e).dv.small=true:=by
 refine ⟨?_,?_⟩
 ·show be (.tup [.str "def",.str f,.tup (ns.map Dv.str),.tup (ps.map cP),e])=true
  rw [le,df,ex,DJ]
  have h1:dJ (.tup (ns.map Dv.str))=true:=by
   show ((decide ((0:Int)<=((ns.map Dv.str).length:Int)) && decide (((ns.map Dv.str).length:Int)<=4)) && (ns.map Dv.str).all bn)=true
   rw [ζ,decide_eq_true (by omega),decide_eq_true (by omega),ϓ,ϓ,u9,Ϯ]
   exact fun y hy=>mn y hy
  have h2:cz (.tup (ps.map cP))=true:=by
   show ((decide ((0:Int)<=((ps.map cP).length:Int)) && decide (((ps.map cP).length:Int)<=4)) && (ps.map cP).all cR)=true
   rw [ζ,decide_eq_true (by omega),decide_eq_true (by omega),ϓ,ϓ,u9,Ϯ]
   intro p hp'
   obtain ⟨a,b,c⟩:=mp p hp'
   show (nmB p.1 && decide (aF p.2.dv<=12))=true
   rw [a,fC b,decide_eq_true (by omega)]; rfl
  rw [h1,h2]; rfl
 ·refine aY (fun d hd=>?_) (by show 5<=1000; decide)
  rcases θ.mp hd with rfl | hd
  ·decide +kernel
  rcases θ.mp hd with rfl | hd
  ·exact sf
  rcases θ.mp hd with rfl | hd
  ·exact aY (fun d hd=>by obtain ⟨y,hy,rfl⟩:=Δ.mp hd; exact cp (mn y hy)) (by rw [ζ]; omega)
  rcases θ.mp hd with rfl | hd
  ·refine aY (fun d hd=>?_) (by rw [ζ]; omega)
   obtain ⟨p,hp',rfl⟩:=Δ.mp hd
   refine aY (fun d hd=>?_) (by show 2<=1000; decide)
   rcases θ.mp hd with rfl | hd
   ·exact cp (mp p hp').1
   ·rw [ε.mp hd]; exact dB (mp p hp').2.1
  ·rw [ε.mp hd]; exact se
theorem iK:∀ f∈[η "fza","fzb","fzc","fzd","fze","fzf"],eP (.str f)=true/\(Dv.str f).small=true:=by decide +kernel
theorem zK:nmB "x"=true:=by decide +kernel
section
variable {xs:List Str} {x0 x1:Str} (c:Int)
def Ab (c:Int):List Dv:=[.non,.tup [.str "ask",.tup [.str "number",.int (-1)]],.tup [.str "def",.str "fz",.tup [],.tup []],.lst [.str "ask",eD c]]
theorem wl:be (.tup [.str "ask",.tup [.str "number",.int (-1)]])=false:=by decide +kernel
theorem wk:be (.tup [.str "def",.str "fz",.tup [],.tup []])=false:=by decide +kernel
theorem wN:∀ d∈Ab c,be d=false/\d.small=true:=fun d hd=>by
 have he:=(zQ c).2
 rcases θ.mp hd with rfl | hd
 ·exact ⟨rfl,rfl⟩
 rcases θ.mp hd with rfl | hd
 ·exact ⟨wl,by decide +kernel⟩
 rcases θ.mp hd with rfl | hd
 ·exact ⟨wk,by decide +kernel⟩
 ·rw [ε.mp hd]
  refine ⟨rfl,?_⟩
  simp only [Dv.small,smalls,he,ϓ,DJ]
  rw [decide_eq_true (by decide +kernel),decide_eq_true (by show 2<=1000; decide)]; rfl
def tV (x1:Str) (c:Int):List Rw:=[.df "fza" [] [] (eD c),.df "fzb" [x1,x1] [] (eD c),.df "fzc" [] [("x",.whole),("x",.whole)] (eD c)]
theorem rW (h1:nmB x1=true):∀ r∈tV x1 c,TwR r:=fun r hr=>by
 obtain ⟨ex,se⟩:=zQ c
 have W:∀ p∈[((η "x",Kd.whole):Prm),("x",.whole)],nmB p.1=true/\p.2.All SL/\p.2.size<=12:=fun p hp=>by
  simp at hp
  rw [hp]; exact ⟨zK,trivial,by decide⟩
 rcases θ.mp hr with rfl | hr
 ·obtain ⟨a,b⟩:=iK "fza" (by simp)
  obtain ⟨p,q⟩:=fg (ns:=[]) (ps:=[]) a b (by simp) (by simp) (by simp) (by simp) ex se
  exact ⟨⟨by simp,by simp,by simp⟩,p,q,_,_,_,_,rfl,.inl rfl⟩
 rcases θ.mp hr with rfl | hr
 ·obtain ⟨a,b⟩:=iK "fzb" (by simp)
  obtain ⟨p,q⟩:=fg (ns:=[x1,x1]) (ps:=[]) a b (by simp) (by simp [h1]) (by simp) (by simp) ex se
  exact ⟨⟨by simp,by simp,by simp⟩,p,q,_,_,_,_,rfl,.inr (.inl (by simp))⟩
 ·rw [ε.mp hr]
  obtain ⟨a,b⟩:=iK "fzc" (by simp)
  obtain ⟨p,q⟩:=fg (ns:=[]) (ps:=[("x",.whole),("x",.whole)]) a b (by simp) (by simp) (by simp) W ex se
  exact ⟨⟨by simp,by simp,fun p hp=>⟨by simp at hp; rw [hp]; decide,by simp at hp; rw [hp]; trivial⟩⟩,p,q,_,_,_,_,rfl,.inr (.inr (by simp))⟩
def nP (x0:Str) (c:Int):List Rw:=[.df "fzd" [x0] [] (eD c),.df "fze" [] [("x",.place 0 [(x0,1)])] (eD c),.df "fzf" [x0] [("x",.row 0 [(x0,2)] .whole)] (eD c)]
theorem yM {x:Str} {n:Int} (h:1<=n):jG [(x,n)]:=⟨by simp,by simpa using h⟩
theorem zW:iL [x0] [("x",.row 0 [(x0,2)] .whole)]=false:=by
 have hb:bJ [x0] [] (.row 0 [(x0,2)] .whole)=none:=by
  unfold bJ
  rw [if_neg]
  show ¬ (false || (decide (η "row"=η "row") && (decide (1=1) && decide ((x0,(2:Int))∈[x0].map fun x=>(x,(1:Int))))))=true
  rw [decide_eq_false (show ¬ (x0,(2:Int))∈[x0].map fun x=>(x,(1:Int)) by simp)]
  simp
 show (match (match bJ [x0] [] (.row 0 [(x0,2)] .whole) with | none=>none | some cs=>bp [x0] cs [.whole]) with | none=>false | some bs=>decide (bs.length=[x0].length))=false
 rw [hb]
theorem ml (h1:nmB x0=true):∀ r∈nP x0 c,NbR r:=fun r hr=>by
 obtain ⟨ex,se⟩:=zQ c
 have sl:∀ n:Int,1<=n->n<=99->SL 0 [(x0,n)]:=fun n a b=>kD (by decide) (by decide) (yM a) (by simp) (by simpa using ⟨h1,b⟩)
 rcases θ.mp hr with rfl | hr
 ·obtain ⟨a,b⟩:=iK "fzd" (by simp)
  obtain ⟨p,q⟩:=fg (ns:=[x0]) (ps:=[]) a b (by simp) (by simpa using h1) (by simp) (by simp) ex se
  exact ⟨⟨by simp,by simp,by simp⟩,p,q,_,_,_,_,rfl,by simp [N3],by simp,by simp,rfl⟩
 rcases θ.mp hr with rfl | hr
 ·obtain ⟨a,b⟩:=iK "fze" (by simp)
  obtain ⟨p,q⟩:=fg (ns:=[]) (ps:=[("x",.place 0 [(x0,1)])]) a b (by simp) (by simp) (by simp) (fun p hp=>by rw [ε.mp hp]; exact ⟨zK,sl 1 (by decide) (by decide),by show 1<=12; decide⟩) ex se
  exact ⟨⟨by simp,by simp,fun p hp=>by rw [ε.mp hp]; exact ⟨by show 1<=12; decide,by show 1<=40; decide⟩⟩,p,q,_,_,_,_,rfl,by simp [N3],by simp,by simp,rfl⟩
 ·rw [ε.mp hr]
  obtain ⟨a,b⟩:=iK "fzf" (by simp)
  obtain ⟨p,q⟩:=fg (ns:=[x0]) (ps:=[("x",.row 0 [(x0,2)] .whole)]) a b (by simp) (by simpa using h1) (by simp) (fun p hp=>by rw [ε.mp hp]; exact ⟨zK,⟨sl 2 (by decide) (by decide),trivial⟩,by show 2<=12; decide⟩) ex se
  exact ⟨⟨by simp,by simp,fun p hp=>by rw [ε.mp hp]; exact ⟨by show 2<=12; decide,by show 1<=40; decide,trivial⟩⟩,p,q,_,_,_,_,rfl,by simp [N3],by simp,by simp,zW⟩
end
def oK (n:Nat) (it:It):Prop:=match n with | 0=>∃ d,it=.np d/\be d=false/\d.small=true | 1=>∃ r,it=.tw r/\TwR r | _=>∃ r,it=.nb r/\NbR r
def qh:Sp:=fun vs H Q _=>∃ (n:Nat) (c:Int) (r:Addr) (xs:List Str),vs=[.int n,.int c,.ref r]/\n < 3/\H r=some (.lst (xs.map V.str))/\Nms xs/\∀ (H':Hp) (v:V) (it:It),ad H H'->Rep (nw H H') it.dv v->oK n it->Q v H'
theorem ip {H:Hp} {ds:List Dv} {vs:List V} {m:Nat} (c:Int) (hm:0 < m) (hl:ds.length=m) (R:Reps H ds vs):∃ v d,atI vs (c % (m:Int))=some v/\d∈ds/\Rep H d v:=by
 have h0:0<=c % (m:Int):=Ea _ (by omega)
 have h1:c % (m:Int) < m:=Dt _ (by omega)
 obtain ⟨j,hj⟩:∃ j:Nat,c % (m:Int)=j:=⟨(c % (m:Int)).toNat,by omega⟩
 have lv:vs.length=m:=by rw [R.length,hl]
 have hv:j < vs.length:=by omega
 obtain ⟨d,hd,Rd⟩:=R.get (Ζ hv)
 exact ⟨vs[j],d,by rw [hj]; exact af (Ζ hv),Α hd,Rd⟩
theorem xZ {H H2 H4:Hp} {S:Addr} {ds:List Dv} {d:Dv} {vs:List V} {v:V} (Rs:Reps (nw H H2) ds vs) (hS:H2 S=none) (s:ad (upd H2 S (.lst vs)) H4) (R:Rep (nw (upd H S (.lst [])) H4) d v):Reps (nw H (upd H4 S (.lst (vs ++ [v])))) (ds ++ [d]) (vs ++ [v]):=by
 refine Reps.append (Rs.mono fun b o h=>?_) (aP (R.mono fun b o h=>?_))
 ·unfold nw at h ⊢
  split at h
  ·cases h
  ·next z=>
   have hb:b≠S:=fun y=>by rw [y,hS] at h; cases h
   rw [if_neg z,ag hb]
   exact s b o (by rw [ag hb]; exact h)
 ·unfold nw at h ⊢
  split at h
  ·cases h
  ·next z=>
   have hb:b≠S:=fun y=>z (by rw [y,aa]; rfl)
   rw [ag hb] at z
   rw [if_neg z,ag hb]
   exact h
theorem dv0 (x1:Str) (c:Int):(tV x1 c).map Rw.dv=[.tup [.str "def",.str "fza",.tup [],.tup [],eD c],.tup [.str "def",.str "fzb",.tup [.str x1,.str x1],.tup [],eD c]] ++ [.tup [.str "def",.str "fzc",.tup [],.tup [.tup [.str "x",.tup [.str "whole"]],.tup [.str "x",.tup [.str "whole"]]],eD c]]:=rfl
theorem dv1 (x0:Str) (c:Int):(nP x0 c).map Rw.dv=[.tup [.str "def",.str "fzd",.tup [.str x0],.tup [],eD c],.tup [.str "def",.str "fze",.tup [],.tup [.tup [.str "x",.tup [.str "place",.tup [.int 0,.tup [.tup [.str x0,.int 1]]]]]],eD c]] ++ [.tup [.str "def",.str "fzf",.tup [.str x0],.tup [.tup [.str "x",.tup [.str "row",.tup [.int 0,.tup [.tup [.str x0,.int 2]]],.tup [.str "whole"]]]],eD c]]:=rfl
section
variable {P:Β} {w:Ξ} {K:PySem.W.Frag} {mg:Str->Option δ} {base:Heap}
theorem mN:ap ["_law_which","_law_cell","_law_names_here","_law_e","_law_some"] ["_law_which","_law_cell","_law_names_here"] (ai lF):=⟨rfl,rfl,rfl,by decide +kernel,rfl,by decide +kernel,by decide +kernel⟩
theorem vH {f:Addr} {fd:Μ} (F:Fun K "_law_fault" "_law_fault" lF f fd) (T:Txt K mg):aK P w K mg base CX0 1 f fd ["_law_which","_law_cell","_law_names_here"] qh:=by
 have nd:(["_law_which","_law_cell","_law_names_here","_law_e","_law_some"]:List Str).Nodup:=mN.nd
 refine F.ok mN (fun vs H Q E h=>?_) (fun cdv A outer s H vs Q E hr h=>?_)
 ·obtain ⟨n,c,r,xs,rfl,_⟩:=h
  rfl
 obtain ⟨n,c,r,xs,rfl,hn,hr0,nms,q⟩:=h
 obtain ⟨x0,x1,hx0,hx1⟩:∃ x0 x1,xs[0]?=some x0/\xs[1]?=some x1:=by
  have:=nms.len
  exact ⟨_,_,Ζ (by omega),Ζ (by omega)⟩
 have m0:=nms.nm x0 (Α hx0)
 have m1:=nms.nm x1 (Α hx1)
 refine ⟨_,(@un _ _ _ (wbO (wbM 3 nd rfl (Λ rfl) (waX (wae waV (wae (waQ aB (wv 1 rfl) waC) waf rfl) rfl)) rfl (by trivial)) (wbO (wbI (wbS aG (wv 0 rfl) waC (ak _)) (wbQ (wbK (waD aH (waM (wae waN (wae (waX (wae waV (wae (waX (wae waV (wae (waY gr waC) waf rfl) rfl)) waf rfl) rfl)) (wae (waX (wae waV (wae waV (wae (waX waf) (wae (waX waf) waf rfl) rfl) rfl) rfl)) (wae (waM (wae waV (wae (wv 3 rfl) waf rfl) rfl)) waf rfl) rfl) rfl) rfl)) (waQ aB (wv 1 rfl) waC) (fun _ _=>rfl)))) wbP) (wbO (wbI (wbS aG (wv 0 rfl) waC (ak _)) (wbO (wbM 4 nd rfl (Λ rfl) (waM (wae (waX (wae waV (wae waV (wae (waX waf) (wae (waX waf) (wae (wv 3 rfl) waf rfl) rfl) rfl) rfl) rfl)) (wae (waX (wae waV (wae waV (wae (waX (wae (waD aH (wv 2 rfl) waC (fun _ _=>rfl)) (wae (waD aH (wv 2 rfl) waC (fun _ _=>rfl)) waf rfl) rfl)) (wae (waX waf) (wae (wv 3 rfl) waf rfl) rfl) rfl) rfl) rfl)) waf rfl) rfl)) rfl (by trivial)) (wbO (wbG (waj PySem.F.plainAttrs_list PySem.F.slot_list_append PySem.F.type_list_append bg (wv 4 rfl) (wae (waX (wae waV (wae waV (wae (waX waf) (wae (waX (wae (waX (wae waV (wae (waX (wae waV waf rfl)) waf rfl) rfl)) (wae (waX (wae waV (wae (waX (wae waV waf rfl)) waf rfl) rfl)) waf rfl) rfl)) (wae (wv 3 rfl) waf rfl) rfl) rfl) rfl) rfl)) waf rfl) rfl rfl rfl rfl rfl) rfl) (wbQ (wbK (waD aH (wv 4 rfl) (waQ aB (wv 1 rfl) waC) (fun _ _=>rfl)))))) wbP) (wbO (wbM 4 nd rfl (Λ rfl) (waM (wae (waX (wae waV (wae waV (wae (waX (wae (waD aH (wv 2 rfl) waC (fun _ _=>rfl)) waf rfl)) (wae (waX waf) (wae (wv 3 rfl) waf rfl) rfl) rfl) rfl) rfl)) (wae (waX (wae waV (wae waV (wae (waX waf) (wae (waX (wae (waX (wae waV (wae (waX (wae waV (wae (waX (wae waC (wae (waX (wae (waX (wae (waD aH (wv 2 rfl) waC (fun _ _=>rfl)) (wae waC waf rfl) rfl)) waf rfl)) waf rfl) rfl)) waf rfl) rfl)) waf rfl) rfl)) waf rfl)) (wae (wv 3 rfl) waf rfl) rfl) rfl) rfl) rfl)) waf rfl) rfl)) rfl (by trivial)) (wbO (wbG (waj PySem.F.plainAttrs_list PySem.F.slot_list_append PySem.F.type_list_append bg (wv 4 rfl) (wae (waX (wae waV (wae waV (wae (waX (wae (waD aH (wv 2 rfl) waC (fun _ _=>rfl)) waf rfl)) (wae (waX (wae (waX (wae waV (wae (waX (wae waV (wae (waX (wae waC (wae (waX (wae (waX (wae (waD aH (wv 2 rfl) waC (fun _ _=>rfl)) (wae waC waf rfl) rfl)) waf rfl)) waf rfl) rfl)) (wae (waX (wae waV waf rfl)) waf rfl) rfl) rfl)) waf rfl) rfl)) waf rfl)) (wae (wv 3 rfl) waf rfl) rfl) rfl) rfl) rfl)) waf rfl) rfl rfl rfl rfl rfl) rfl) (wbQ (wbK (waD aH (wv 4 rfl) (waQ aB (wv 1 rfl) waC) (fun _ _=>rfl)))))))))),?_⟩
 refine BP (B:=H) (aD (ds:=[.str "number",.int (c % 9)]) (fun _ h=>h) (ah aX (ah (AI fun H1 Q q=>⟨_,rfl,_,_,rfl,rfl,(by show (0:Int) < 9; decide),q⟩) aw)) (μ rfl)) fun H1 ve s1 Re=>?_
 have Re:Rep (nw H H1) (eD c) ve:=Re
 have c1:Cov H H1:=Cov.up (fun _ h=>h) s1
 have r1:=s1 _ _ hr0
 match n,hn with
 | 0,_=>
  refine ⟨_,rfl,rfl,_,rfl,aQ (fun _=>?_) (fun h=>absurd (decide_eq_true rfl) h)⟩
  refine za (vN (B:=H) (ds:=Ab c) c1 (ah yY (ah (aD c1 (ah aX (ah (aD c1 (ah aX (ah (AI fun H1 Q q=>⟨1,rfl,q⟩) aw)) (μ rfl)) aw)) (μ rfl)) (ah (aD c1 (ah aX (ah aX (ah (aD c1 aw (μ rfl)) (ah (aD c1 aw (μ rfl)) aw)))) (μ rfl)) (ah (vN c1 (ah aX (ah (eN rfl Re) aw)) (μ rfl)) aw)))) (μ rfl)) fun H2 p vs s2 hp Rs=>?_
  obtain ⟨v,d,hv,hd,Rd⟩:=ip c (m:=4) (by decide) rfl Rs
  exact ⟨_,rfl,_,_,rfl,rfl,(by show (0:Int) < 4; decide),p,vs,_,v,rfl,rfl,SqL.of hp,hv,q H2 v (.np d) (s1.trans s2) Rd ⟨d,rfl,wN c d hd⟩⟩
 | 1,_=>
  refine ⟨_,rfl,rfl,_,rfl,aQ (fun h=>absurd (of_decide_eq_true h) (by simp)) (fun _=>?_)⟩
  refine ⟨_,rfl,rfl,_,rfl,aQ (fun _=>?_) (fun h=>absurd (decide_eq_true rfl) h)⟩
  refine mL (B:=H) (ds:=[.tup [.str "def",.str "fza",.tup [],.tup [],eD c],.tup [.str "def",.str "fzb",.tup [.str x1,.str x1],.tup [],eD c]]) (ah (aD c1 (ah aX (ah aX (ah (aD c1 aw (μ rfl)) (ah (aD c1 aw (μ rfl)) (ah (eN rfl Re) aw))))) (μ rfl)) (ah (aD c1 (ah aX (ah aX (ah (aD c1 (ah (jR (j:=1) rfl r1 hx1) (ah (jR (j:=1) rfl r1 hx1) aw)) (μ rfl)) (ah (aD c1 aw (μ rfl)) (ah (eN rfl Re) aw))))) (μ rfl)) aw)) (μ rfl) fun H2 vs S s2 Rs hS=>?_
  have s3:=s2.trans (ac hS (.lst vs))
  have lv:vs.length=2:=Rs.length
  have hS3:upd H2 S (.lst vs) S=some (.lst vs):=aa
  have c3:Cov (upd H S (.lst [])) (upd H2 S (.lst vs)):=fun p hp=>by
   by_cases z:p=S
   ·rw [z,aa] at hp; cases hp
   ·rw [ag z] at hp ⊢; exact c1.up s2 p hp
  have r3:=s3 _ _ r1
  have Re3:Rep (nw (upd H S (.lst [])) (upd H2 S (.lst vs))) (eD c) ve:=Re.mono fun b o h=>by
   unfold nw at h ⊢
   split at h
   ·cases h
   ·next z=>
    have h2:=s2 b o h
    have hb:b≠S:=fun y=>by rw [y,hS] at h2; cases h2
    rw [ag hb,if_neg z,ag hb]
    exact h2
  refine Ag (d:=.tup [.str "def",.str "fzc",.tup [],.tup [.tup [.str "x",.tup [.str "whole"]],.tup [.str "x",.tup [.str "whole"]]],eD c]) rfl hS3 (aD c3 (ah aX (ah aX (ah (aD c3 aw (μ rfl)) (ah (aD c3 (ah (aD c3 (ah aX (ah (aD c3 (ah aX aw) (μ rfl)) aw)) (μ rfl)) (ah (aD c3 (ah aX (ah (aD c3 (ah aX aw) (μ rfl)) aw)) (μ rfl)) aw)) (μ rfl)) (ah (eN rfl Re3) aw))))) (μ rfl)) (by omega) fun H4 v s4 R=>?_
  have R3:=xZ Rs hS s4 R
  rw [<- dv0 x1 c] at R3
  have w5:upd H4 S (.lst (vs ++ [v])) S=some (.lst (vs ++ [v])):=aa
  have s5:ad H (upd H4 S (.lst (vs ++ [v]))):=fun b o h=>by
   have hb:b≠S:=fun y=>by rw [y,(s1.trans s2).free hS] at h; cases h
   rw [ag hb]
   exact s4 b o (s3 b o (s1 b o h))
  obtain ⟨v',d,hv,hd,Rd⟩:=ip c (m:=3) (by decide) rfl R3
  obtain ⟨r',hr',rfl⟩:=Δ.mp hd
  exact ⟨_,rfl,_,rfl,_,_,rfl,rfl,(by show (0:Int) < 3; decide),S,_,_,v',rfl,rfl,SqL.of w5,hv,q _ v' (.tw r') s5 Rd ⟨r',rfl,rW c m1 r' hr'⟩⟩
 | 2,_=>
  refine ⟨_,rfl,rfl,_,rfl,aQ (fun h=>absurd (of_decide_eq_true h) (by simp)) (fun _=>?_)⟩
  refine ⟨_,rfl,rfl,_,rfl,aQ (fun h=>absurd (of_decide_eq_true h) (by simp)) (fun _=>?_)⟩
  refine mL (B:=H) (ds:=[.tup [.str "def",.str "fzd",.tup [.str x0],.tup [],eD c],.tup [.str "def",.str "fze",.tup [],.tup [.tup [.str "x",.tup [.str "place",.tup [.int 0,.tup [.tup [.str x0,.int 1]]]]]],eD c]]) (ah (aD c1 (ah aX (ah aX (ah (aD c1 (ah (jR (j:=0) rfl r1 hx0) aw) (μ rfl)) (ah (aD c1 aw (μ rfl)) (ah (eN rfl Re) aw))))) (μ rfl)) (ah (aD c1 (ah aX (ah aX (ah (aD c1 aw (μ rfl)) (ah (aD c1 (ah (aD c1 (ah aX (ah (aD c1 (ah aX (ah (aD c1 (ah kY (ah (aD c1 (ah (aD c1 (ah (jR (j:=0) rfl r1 hx0) (ah kY aw)) (μ rfl)) aw) (μ rfl)) aw)) (μ rfl)) aw)) (μ rfl)) aw)) (μ rfl)) aw) (μ rfl)) (ah (eN rfl Re) aw))))) (μ rfl)) aw)) (μ rfl) fun H2 vs S s2 Rs hS=>?_
  have s3:=s2.trans (ac hS (.lst vs))
  have lv:vs.length=2:=Rs.length
  have hS3:upd H2 S (.lst vs) S=some (.lst vs):=aa
  have c3:Cov (upd H S (.lst [])) (upd H2 S (.lst vs)):=fun p hp=>by
   by_cases z:p=S
   ·rw [z,aa] at hp; cases hp
   ·rw [ag z] at hp ⊢; exact c1.up s2 p hp
  have r3:=s3 _ _ r1
  have Re3:Rep (nw (upd H S (.lst [])) (upd H2 S (.lst vs))) (eD c) ve:=Re.mono fun b o h=>by
   unfold nw at h ⊢
   split at h
   ·cases h
   ·next z=>
    have h2:=s2 b o h
    have hb:b≠S:=fun y=>by rw [y,hS] at h2; cases h2
    rw [ag hb,if_neg z,ag hb]
    exact h2
  refine Ag (d:=.tup [.str "def",.str "fzf",.tup [.str x0],.tup [.tup [.str "x",.tup [.str "row",.tup [.int 0,.tup [.tup [.str x0,.int 2]]],.tup [.str "whole"]]]],eD c]) rfl hS3 (aD c3 (ah aX (ah aX (ah (aD c3 (ah (jR (j:=0) rfl r3 hx0) aw) (μ rfl)) (ah (aD c3 (ah (aD c3 (ah aX (ah (aD c3 (ah aX (ah (aD c3 (ah kY (ah (aD c3 (ah (aD c3 (ah (jR (j:=0) rfl r3 hx0) (ah kY aw)) (μ rfl)) aw) (μ rfl)) aw)) (μ rfl)) (ah (aD c3 (ah aX aw) (μ rfl)) aw))) (μ rfl)) aw)) (μ rfl)) aw) (μ rfl)) (ah (eN rfl Re3) aw))))) (μ rfl)) (by omega) fun H4 v s4 R=>?_
  have R3:=xZ Rs hS s4 R
  rw [<- dv1 x0 c] at R3
  have w5:upd H4 S (.lst (vs ++ [v])) S=some (.lst (vs ++ [v])):=aa
  have s5:ad H (upd H4 S (.lst (vs ++ [v]))):=fun b o h=>by
   have hb:b≠S:=fun y=>by rw [y,(s1.trans s2).free hS] at h; cases h
   rw [ag hb]
   exact s4 b o (s3 b o (s1 b o h))
  obtain ⟨v',d,hv,hd,Rd⟩:=ip c (m:=3) (by decide) rfl R3
  obtain ⟨r',hr',rfl⟩:=Δ.mp hd
  exact ⟨_,rfl,_,rfl,_,_,rfl,rfl,(by show (0:Int) < 3; decide),S,_,_,v',rfl,rfl,SqL.of w5,hv,q _ v' (.nb r') s5 Rd ⟨r',rfl,ml c m0 r' hr'⟩⟩
end
def ls (a b c:Addr) (H:Hp):Hp:=fun x=>if x=a\/x=b\/x=c then none else H x
section
variable {a b c:Addr} {H H':Hp} {o:HO}
theorem iW {x:Addr} {u:HO} (h:ls a b c H x=some u):x≠a/\x≠b/\x≠c/\H x=some u:=by
 unfold ls at h
 split at h
 ·cases h
 ·next z=>exact ⟨fun y=>z (.inl y),fun y=>z (.inr (.inl y)),fun y=>z (.inr (.inr y)),h⟩
theorem gB {x:Addr} {u:HO} (h:x≠a/\x≠b/\x≠c/\H x=some u):ls a b c H x=some u:=by
 unfold ls
 rw [if_neg (fun z=>by rcases z with z | z | z; exact h.1 z; exact h.2.1 z; exact h.2.2.1 z)]
 exact h.2.2.2
theorem zH:ad (ls a b c H) H:=fun x u h=>(iW h).2.2.2
theorem qS (s:ad H H'):ad (ls a b c H) (ls a b c H'):=fun x u h=>let ⟨p,q,r,z⟩:=iW h; gB ⟨p,q,r,s x u z⟩
theorem Bv (s:aE a H H'):ad (ls a b c H) (ls a b c H'):=fun x u h=>let ⟨p,q,r,z⟩:=iW h; gB ⟨p,q,r,s x u p z⟩
theorem Bq (s:aE b H H'):ad (ls a b c H) (ls a b c H'):=fun x u h=>let ⟨p,q,r,z⟩:=iW h; gB ⟨p,q,r,s x u q z⟩
theorem BM (s:aE c H H'):ad (ls a b c H) (ls a b c H'):=fun x u h=>let ⟨p,q,r,z⟩:=iW h; gB ⟨p,q,r,s x u r z⟩
theorem AU (ha:H a≠none) (hb:H b≠none) (hc:H c≠none):ad (nw H H') (ls a b c H'):=fun x u h=>by
 unfold nw at h
 split at h
 ·cases h
 ·next z=>
  have nx:∀ y,H y≠none->x≠y:=fun y hy e=>z (by rw [e]; exact Option.isSome_iff_ne_none.mpr hy)
  exact gB ⟨nx a ha,nx b hb,nx c hc,h⟩
theorem zJ (s:ad H H') (ha:H a=none) (hb:H b=none) (hc:H c=none):ad H (ls a b c H'):=fun x u h=>gB ⟨ae h ha,ae h hb,ae h hc,s x u h⟩
end
def W3:List Str:=["program","twice","bind"]
theorem iM {n:Nat} {it:It} (hn:n < 3) (h:oK n it):W3[n]?=some it.mark/\∀ r,it≠.row r:=by
 match n,hn,h with
 | 0,_,⟨d,e,_⟩=>subst e; exact ⟨rfl,fun r z=>by cases z⟩
 | 1,_,⟨d,e,_⟩=>subst e; exact ⟨rfl,fun r z=>by cases z⟩
 | 2,_,⟨d,e,_⟩=>subst e; exact ⟨rfl,fun r z=>by cases z⟩
theorem Mix.fault {xs:List It} (M:Mix xs) {n k:Nat} {it:It} (hk:1<=k) (hn:n < 3) (h:oK n it) (hb:xs.filter It.isNb=[]):Mix (xs.take k ++ it :: xs.drop k)/\(n < 2->(xs.take k ++ it :: xs.drop k).filter It.isNb=[]):=by
 have e:(xs.take k).filter It.isNb=[]/\(xs.drop k).filter It.isNb=[]:=by
  have:(xs.take k).filter It.isNb ++ (xs.drop k).filter It.isNb=[]:=by rw [<- i8,h_]; exact hb
  exact List.append_eq_nil_iff.mp this
 refine ⟨M.ins hk (iM hn h).2 (fun d z=>?_) (fun r z=>?_) (fun r z=>?_),fun n2=>?_⟩
 ·match n,hn,h with
  | 0,_,⟨d',e,g⟩=>rw [e] at z; cases z; exact g
  | 1,_,⟨r,e,g⟩=>rw [e] at z; cases z
  | 2,_,⟨r,e,g⟩=>rw [e] at z; cases z
 ·match n,hn,h with
  | 0,_,⟨d',e,g⟩=>rw [e] at z; cases z
  | 1,_,⟨r,e,g⟩=>rw [e] at z; cases z; exact g
  | 2,_,⟨r,e,g⟩=>rw [e] at z; cases z
 ·match n,hn,h with
  | 0,_,⟨d',e,g⟩=>rw [e] at z; cases z
  | 1,_,⟨r,e,g⟩=>rw [e] at z; cases z
  | 2,_,⟨r,e,g⟩=>rw [e] at z; cases z; exact ⟨g,hb⟩
 ·rw [i8,b_,e.1,e.2]
  match n,n2,h with
  | 0,_,⟨d',e,g⟩=>subst e; rfl
  | 1,_,⟨r,e,g⟩=>subst e; rfl
def xX (ms:List Str):List Str:=W3.filter fun m=>decide (m∈ms)
theorem pj {xs:List It} (M:Mix xs) (h:∃ m∈W3,m∈xs.map It.mark):∃ (w:Str) (ft:oz) (rest:List Str),xX (xs.map It.mark)=w :: rest/\w∈xs.map It.mark/\iE (xs.map It.dv) ft/\vy ft=.tup [.str w,.tup [.int ((xs.map It.mark).idxOf w:Nat),.int 0]]:=by
 have e:xX (xs.map It.mark)=([η "program","twice","bind"]:List Str).filter fun m=>decide (m∈xs.map It.mark):=rfl
 by_cases h1:η "program"∈xs.map It.mark
 ·exact ⟨"program",_,_,by rw [e,b_,if_pos (decide_eq_true h1)],h1,M.fate_np h1,rfl⟩
 by_cases h2:η "twice"∈xs.map It.mark
 ·exact ⟨"twice",_,_,by rw [e,b_,if_neg (by simpa using h1),b_,if_pos (decide_eq_true h2)],h2,M.fate_tw h1 h2,rfl⟩
 by_cases h3:η "bind"∈xs.map It.mark
 ·exact ⟨"bind",_,_,by rw [e,b_,if_neg (by simpa using h1),b_,if_neg (by simpa using h2),b_,if_pos (decide_eq_true h3)],h3,M.fate_nb h1 h2 h3,rfl⟩
 ·obtain ⟨m,hm,z⟩:=h
  simp [W3] at hm
  rcases hm with rfl | rfl | rfl
  ·exact absurd z h1
  ·exact absurd z h2
  ·exact absurd z h3
theorem vZ:vd fza:=by
 have x:Xp (0 + 1) (1 + 0 * 0) (.tup (.str "number" :: [.int 1])):=eA "number" "n" [.n] (by decide +kernel) (h:=0) (c:=0) (k:=0) (by decide) rfl (fun d hd=>by rw [ε.mp hd]; rfl) (fun e he=>by simp [bc,XB.ptD] at he) (by simp [bc,XB.ptD])
 obtain ⟨a,b⟩:=iK "fza" (by simp)
 obtain ⟨p,q⟩:=fg (f:="fza") (ns:=[]) (ps:=[]) (e:=.tup [.str "number",.int 1]) a b (by simp) (by simp) (by simp) (by simp) (tG x (by decide) (by decide)) x.1
 exact ⟨⟨by simp,by simp,rfl,by simp,by simp,by simp⟩,p,q⟩
theorem Al:∀ j,j < 12->fN j≠"fza"/\fN j∉N3:=by decide +kernel
theorem zb:(η "fza")∉N3:=by decide +kernel
theorem lS (rs:List Rw):(rs.map It.row).map It.dv=rs.map Rw.dv/\(rs.map It.row).map It.mark=χ rs.length (η "row")/\bq (rs.map It.row)=rs/\(rs.map It.row).filter It.isNb=[]:=by
 refine ⟨by rw [ϋ]; rfl,?_,?_,?_⟩
 ·rw [ϋ,List.eq_replicate_iff]
  exact ⟨by rw [ζ],fun b hb=>by obtain ⟨r,_,rfl⟩:=Δ.mp hb; rfl⟩
 ·unfold bq
  rw [Di]
  exact List.filterMap_some
 ·rw [List.filter_eq_nil_iff]
  intro i hi
  obtain ⟨r,_,rfl⟩:=Δ.mp hi
  exact fun z=>by cases z
theorem Bn {rs:List Rw} (ok:zG rs) (fs:∀ x∈rs.flatMap Rw.f?,∃ j,j < 12/\x=fN j) (n:Nat):Mix ((fza :: rs.take n).map It.row):=by
 obtain ⟨_,_,e3,e4⟩:=lS (fza :: rs.take n)
 have good:∀ r∈fza :: rs.take n,vd r:=fun r hr=>by
  rcases θ.mp hr with rfl | hr
  ·exact vZ
  ·have:=Ϛ hr
   exact ⟨ok.ok r this,(ok.row r this).1,(ok.row r this).2⟩
 have sub:((rs.take n).flatMap Rw.f?).Sublist (rs.flatMap Rw.f?):=nF (Cq _ _)
 have fs':∀ x∈(rs.take n).flatMap Rw.f?,x≠"fza"/\x∉N3:=fun x hx=>by
  obtain ⟨j,hj,rfl⟩:=fs x (sub.subset hx)
  exact Al j hj
 refine ⟨rfl,fun r hr=>?_,?_,?_,fun d hd=>?_,fun r hr=>?_,fun r hr=>?_,by rw [e4]; exact Χ _⟩
 ·obtain ⟨r',h',z⟩:=Δ.mp hr
  cases z; exact good r h'
 ·rw [e3,ϰ]
  refine g_.mpr ⟨by show [η "fza"].Nodup; simp,sub.nodup ok.nd,fun x hx y hy z=>?_⟩
  rw [ε.mp hx] at z
  exact (fs' y hy).1 z.symm
 ·rw [e3,ϰ]
  intro x hx
  rcases Ψ.mp hx with h | h
  ·rw [ε.mp h]; exact zb
  ·exact (fs' x h).2
 ·obtain ⟨r',h',z⟩:=Δ.mp hd
  cases z
 ·obtain ⟨r',h',z⟩:=Δ.mp hr
  cases z
 ·obtain ⟨r',h',z⟩:=Δ.mp hr
  cases z
theorem vU:∀ n:Nat,n < 7->∃ k,k < 3/\De ((1 + (n:Int)) / 2 ^ k) 1=1:=by decide +kernel
theorem vi {m:Str}:∀ ms:List Str,inV (.str m) (ms.map V.str)=decide (m∈ms)
 | []=>rfl
 | y :: ms=>by
  have ih:=vi (m:=m) ms
  show (eqV (.str y) (.str m) || inV (.str m) (ms.map V.str))=_
  rw [ih]
  by_cases h:y=m
  ·subst h
   rw [decide_eq_true (Ε)]
   simp [eqV]
  ·have e1:eqV (.str y) (.str m)=false:=by simp [eqV,h]
   rw [e1,x5]
   by_cases z:m∈ms
   ·rw [decide_eq_true z,decide_eq_true (ο _ z)]
   ·rw [decide_eq_false z,decide_eq_false (fun q=>(θ.mp q).elim (fun q=>h q.symm) z)]
theorem sP (ms:List Str):(ms.map V.str).all fM=true:=by rw [u9,Ϯ]; intro x _; rfl
theorem wX {X:Cx} (K:PySem.W.Frag) (e:X.K=K):OpR X (compareOp .In) (rIn K false):=by subst e; exact ka
abbrev ju:Stmt:=top 69
def rq (K:PySem.W.Frag):Sp:=fun vs H Q _=>∃ (a:Addr) (ns:List Int),vs=[.ref a]/\SqL K H a (ns.map V.int)/\ns.length<=63/\∀ H',Q (.bl true) H'
theorem fB:L2.Pl 2 (.tup [.str "taken",.non]):=.tup fun d hd=>by
 rcases θ.mp hd with rfl | hd
 ·exact .str
 ·rw [ε.mp hd]; exact .non
theorem rf {w:Str} {i:Int}:L2.Pl 2 (.tup [.str w,.tup [.int i,.int 0]]):=.tup fun d hd=>by
 rcases θ.mp hd with rfl | hd
 ·exact .str
 ·rw [ε.mp hd]; exact .tup fun d hd=>by
   rcases θ.mp hd with rfl | hd
   ·exact .int
   ·rw [ε.mp hd]; exact .int
theorem jB {H:Hp} {t:Addr} (h:H t=some (.tup [.str "taken",.non])):Rep H (.tup [.str "taken",.non]) (.ref t):=by
 rw [Rep]
 exact ⟨t,_,rfl,h,by simp only [Reps]; exact ⟨_,_,rfl,by simp only [Rep],_,_,rfl,by simp only [Rep],rfl⟩⟩
theorem yi {b:Bool} {ds:List Dv} (h:b=true↔ds≠ds):b=false:=by
 cases b with
 | false=>rfl
 | true=>exact absurd rfl (h.mp rfl)
theorem uo {σ:St} {H:Hp} {ds:List Dv} {t:TA} {tb:TE} {i:Nat} {u:TS} {D:bV} (h:jz t σ H ds) (hz:ds.length<=1000) (k:∀ H' vs p,ad H H'->Reps H' ds vs->H' p=none->tb σ (upd H' p (.lst vs)) fun y H2=>yS (.ref p) y H2 fun x H3=>u D (σ.set i (some x)) H3):lD (oA (tOp yS (tS t) tb) (cb i)) u D σ H:=
 h H (ad.refl H) _ fun H' vs s R=>⟨by rw [R.length]; exact gu hz,fun p hp=>k H' vs p s R hp⟩
theorem iB {H:Hp}:∀ (n:Nat) {ds:List Dv} {vs:List V},Reps H ds vs->Reps H (ds.drop n) (vs.drop n)
 | 0,_,_,h=>h
 | n + 1,[],vs,h=>by
  simp only [Reps] at h
  subst h
  simp [Reps]
 | n + 1,d :: ds,vs,h=>by
  simp only [Reps] at h
  obtain ⟨v,r,rfl,_,h2⟩:=h
  exact iB n h2
structure St3 (HR H:Hp) (dA S M:Addr) (xs:List It) (vs:List V):Prop where
 old:ad HR H
 na:HR dA=none
 ns:HR S=none
 nm:HR M=none
 as_:dA≠S
 am:dA≠M
 sm:S≠M
 dr:∃ n,Dr H dA n
 s:H S=some (.lst vs)
 m:H M=some (.lst ((xs.map It.mark).map V.str))
 rep:Reps (ls dA S M H) (xs.map It.dv) vs
 mix:Mix xs
section
variable {P:Β} {w:Ξ} {K:PySem.W.Frag} {mg:Str->Option δ} {base:Heap}
theorem tq:ap ["_law_script","_law_names_here","_law_rows","_law_begin","_law_draws_here","_law_cell","_law_some","_law_wanted","_law_marks","_law_which","_law_more","_law_at","_law_word"] ["_law_script"] (ai ju):=⟨rfl,rfl,rfl,by decide +kernel,rfl,by decide +kernel,by decide +kernel⟩
theorem zL {f:Addr} {fd:Μ} {k0:Nat} (F:Fun K "law" "law" ju f fd) (T:Txt K mg) (D_law_draws:Def P w K mg base k0 "_law_draws" ["_law_cells","_law_many"] (lH K)) (D_law_next:Def P w K mg base k0 "_law_next" ["_law_draws_here"] eQ) (D_law_names:Def P w K mg base k0 "_law_names" ["_law_cell"] qb) (D_law_program:Def P w K mg base k0 "_law_program" ["_law_script","_law_names_here"] (vC K)) (D_law_refused:Def P w K mg base k0 "_law_refused" ["_law_thing"] yq) (D_law_fault:Def P w K mg base k0 "_law_fault" ["_law_which","_law_cell","_law_names_here"] qh) :
  aK P w K mg base CX0 (k0 + 1) f fd ["_law_script"] (rq K):=by
 have nd:(["_law_script","_law_names_here","_law_rows","_law_begin","_law_draws_here","_law_cell","_law_some","_law_wanted","_law_marks","_law_which","_law_more","_law_at","_law_word"]:List Str).Nodup:=tq.nd
 refine F.ok tq (fun vs H Q E h=>?_) (fun cdv A outer s H vs Q E hr h=>?_)
 ·obtain ⟨a,ns,rfl,_⟩:=h
  rfl
 obtain ⟨sc,ns,rfl,hS,h63,q⟩:=h
 have hu9:=iX hr
 refine ⟨_,(@un _ _ _ (wbO (wbM 1 nd rfl (Λ rfl) (waq D_law_names hr rfl (wae (waD aH (waq D_law_draws hr rfl (wae (waT bz (waQ gA (waT bz (wv 0 rfl) wbz (wbA waC)) (waM (wae waC waf rfl))) wbz (wbA waC)) (wae waC waf rfl) rfl) (by decide) rfl rfl) waC (fun _ _=>rfl)) waf rfl) (by decide) rfl rfl) rfl (by trivial)) (wbO (wbM 2 nd rfl (Λ rfl) (waQ gA (waM (wae (waX (wae waV (wae waV (wae (waX waf) (wae (waX waf) (wae (waX (wae waV (wae waC waf rfl) rfl)) waf rfl) rfl) rfl) rfl) rfl)) waf rfl)) (waT bz (waq D_law_program hr rfl (wae (wv 0 rfl) (wae (wv 1 rfl) waf rfl) rfl) (by decide) rfl rfl) wbz (wbA waC))) rfl (by trivial)) (wbO (wbI (wbS (uO hu9) (waq D_law_refused hr rfl (wae (wv 2 rfl) waf rfl) (by decide) rfl rfl) (waX (wae waV (wae waN waf rfl) rfl)) (ak _)) (wbQ (wbK wah)) wbP) (wbO (wbH ϝ rfl (wbm rfl T.range (wae waC (wae (wal (jO rfl) rfl T.max (by decide +kernel) (wae waC (wae (wal aq rfl T.len (by decide +kernel) (wae (wv 0 rfl) waf rfl) (by decide) (by decide) rfl rfl) waf rfl) rfl) (by decide) (by decide) rfl rfl) (wae waC waf rfl) rfl) rfl) rfl rfl) (waZ 3 nd rfl (Λ rfl) (by trivial)) (wbO (wbM 4 nd rfl (Λ rfl) (waq D_law_draws hr rfl (wae (waT bz (waQ gA (waT bz (wv 0 rfl) (wbA (wv 3 rfl)) (wbA (waQ bE (wv 3 rfl) waC))) (waQ oC (waM (wae waC waf rfl)) waC)) wbz (wbA waC)) (wae waC waf rfl) rfl) (by decide) rfl rfl) rfl (by trivial)) (wbO (wbM 5 nd rfl (Λ rfl) (waq D_law_next hr rfl (wae (wv 4 rfl) waf rfl) (by decide) rfl rfl) rfl (by trivial)) (wbO (wbM 6 nd rfl (Λ rfl) (wam fG rfl T.list (by decide +kernel) (wae (wv 2 rfl) waf rfl) (by decide) (by decide) rfl rfl) rfl (by trivial)) (wbO (wbM 7 nd rfl (Λ rfl) (waQ bE waC (waQ aB (wv 5 rfl) waC)) rfl (by trivial)) (wbO (wbM 8 nd rfl (CV rfl) (waQ oC (waM (wae waV waf rfl)) (wal aq rfl T.len (by decide +kernel) (wae (wv 2 rfl) waf rfl) (by decide) (by decide) rfl rfl)) rfl (by trivial)) (wbO (wbH ϝ rfl (wbk rfl T.range (wae waC waf rfl) rfl) (waZ 9 nd rfl (Λ rfl) (by trivial)) (wbQ (wbI (wbS aG (waQ ua (waQ ug (wv 7 rfl) (wv 9 rfl)) waC) waC (ak _)) (wbO (wbM 10 nd rfl (Λ rfl) (waq D_law_next hr rfl (wae (wv 4 rfl) waf rfl) (by decide) rfl rfl) rfl (by trivial)) (wbO (wbM 11 nd rfl (Λ rfl) (waQ bE waC (waQ aB (wv 10 rfl) (wal aq rfl T.len (by decide +kernel) (wae (wv 6 rfl) waf rfl) (by decide) (by decide) rfl rfl))) rfl (by trivial)) (wbO (wbG (waj PySem.F.plainAttrs_list PySem.F.slot_list_insert PySem.F.type_list_insert jU (wv 6 rfl) (wae (wv 11 rfl) (wae (waq D_law_fault hr rfl (wae (wv 9 rfl) (wae (waQ bC (wv 10 rfl) waC) (wae (wv 1 rfl) waf rfl) rfl) rfl) (by decide) rfl rfl) waf rfl) rfl) rfl rfl rfl rfl rfl) rfl) (wbQ (wbG (waj PySem.F.plainAttrs_list PySem.F.slot_list_insert PySem.F.type_list_insert jU (wv 8 rfl) (wae (wv 11 rfl) (wae (waD aH (waM (wae waV (wae waV (wae waV waf rfl) rfl) rfl)) (wv 9 rfl) (fun _ _=>rfl)) waf rfl) rfl) rfl rfl rfl rfl rfl) rfl))))) wbP)) (by intro _; rfl)) (wbO (wbM 12 nd rfl (Λ rfl) (waD aH (waE ["_law_one"] [8] (wbi (waM (wae waV (wae waV (wae waV waf rfl) rfl) rfl))) (.of rfl) rfl (fun _ _ _=>⟨pg_name (i:=0) (cc (l:=["_law_one","_law_marks"]) ((by decide +kernel)) rfl) rfl (Λ rfl)⟩) (bD (by decide)) (fun _ _ _=>⟨qA (pt_cmpR (wX K rfl) (pv 0) (pv 1) (by with_unfolding_all rfl))⟩) (fun _ _ _=>(wv 0 rfl)) (by intro _; rfl)) waC (fun _ _=>rfl)) rfl (by trivial)) (wbQ (wbI (wbS (uO hu9) (waq D_law_refused hr rfl (wae (wv 6 rfl) waf rfl) (by decide) rfl rfl) (waX (wae (wv 12 rfl) (wae (waX (wae (waj PySem.F.plainAttrs_list PySem.F.slot_list_index PySem.F.type_list_index uF (wv 8 rfl) (wae (wv 12 rfl) waf rfl) rfl rfl rfl rfl rfl) (wae waC waf rfl) rfl)) waf rfl) rfl)) (ak _)) (wbQ (wbK wah)) wbP))))))))) (by intro _; rfl)) (wbQ (wbK (wap (zF hu9) (waq D_law_refused hr rfl (wae (wv 2 rfl) waf rfl) (by decide) rfl rfl) (waX (wae waV (wae waN waf rfl) rfl)) (ak _))))))))),?_⟩
 obtain ⟨ms,hms,lms⟩:=lN ns none (some 1)
 refine ⟨_,rfl,1,rfl,sc,_,rfl,hS,fun e1 he1=>⟨z1,fun e2 he2=>?_⟩⟩
 have c1:=ac he1 (.lst (aJ (ns.map V.int) none (some 1)))
 have c2:=ac he2 (.lst [.int 0])
 refine ⟨e1,e2,_,_,rfl,rfl,c2 _ _ aa,aa,by rw [hms,ζ,ψ]; show ms.length + 1<=16777216; omega,fun e3 he3=>?_⟩
 have c3:=ac he3 (.lst (aJ (ns.map V.int) none (some 1) ++ [.int 0]))
 refine ⟨1,rfl,e3,_,rfl,SqL.of aa,fun e4 he4=>?_⟩
 have c4:=ac he4 (.lst (aJ (aJ (ns.map V.int) none (some 1) ++ [.int 0]) none (some 1)))
 have hcells:∃ cells:List Int,aJ (aJ (ns.map V.int) none (some 1) ++ [.int 0]) none (some 1)=cells.map V.int/\cells.length=1:=by
  refine ⟨(ms ++ [0]).take 1,?_,by rw [Ρ,ς,ϐ]; omega⟩
  have e:=cW (aJ (ns.map V.int) none (some 1) ++ [.int 0]) 1
  rw [k_,ω,<- hms]
  exact e
 obtain ⟨cells,hc,lc⟩:=hcells
 have s1:=c1.trans (c2.trans (c3.trans c4))
 have f1:=aa (H:=upd (upd (upd H e1 (.lst (aJ (ns.map V.int) none (some 1)))) e2 (.lst [.int 0])) e3 (.lst (aJ (ns.map V.int) none (some 1) ++ [.int 0]))) (a:=e4) (o:=.lst (aJ (aJ (ns.map V.int) none (some 1) ++ [.int 0]) none (some 1)))
 rw [hc] at f1 s1
 rw [hc]
 generalize upd _ e4 _=H1 at f1 s1 ⊢
 clear c1 c2 c3 c4
 refine ⟨e4,3,cells,rfl,SqL.of f1,by omega,by omega,by decide,by decide,fun H2 dA s2 hdA d2=>?_⟩
 obtain ⟨is,hdl,lis,his⟩:=d2
 obtain ⟨y,ys,rfl⟩:∃ y z,is=y :: z:=by cases is with | nil=>cases lis | cons y z=>exact ⟨y,z,rfl⟩
 refine ⟨dA,_,0,.int y,rfl,rfl,SqL.of hdl,af (j:=0) rfl,y,rfl,(his y Ε).1,fun H3 r xs s3 hrn hr3 nms=>?_⟩
 have s03:=s1.trans (s2.trans s3)
 refine gnm ?_
 dsimp only
 refine uo (ds:=[fza.dv]) (aj (aT (ds:=[.str "def",.str "fza",.tup [],.tup [],.tup [.str "number",.int 1]]) (aj bf (aj bf (aj (aT aI (μ rfl)) (aj (aT aI (μ rfl)) (aj (aT (aj bf (aj uH aI)) (μ rfl)) aI))))) (μ rfl)) aI) (μ rfl) fun H4 vf1 e5 s4 Rf1 he5=>?_
 obtain ⟨vf,rfl,Rf⟩:∃ v,vf1=[v]/\Rep H4 fza.dv v:=by
  simp only [Reps] at Rf1
  obtain ⟨v,r,rfl,h,rfl⟩:=Rf1
  exact ⟨v,rfl,h⟩
 have p5:=ac he5 (.lst [vf])
 have h5:upd H4 e5 (.lst [vf]) e5=some (.lst [vf]):=aa
 generalize upd H4 e5 (.lst [vf])=H5 at p5 h5 ⊢
 have s05:=s03.trans (s4.trans p5)
 have r5:=p5 _ _ (s4 _ _ hr3)
 refine ⟨_,rfl,_,rfl,sc,r,ns,xs,rfl,s05.seq hS,h63,r5,nms,fun H6 L us rs s6 hLn hL R6 ok pl fs=>?_⟩
 refine ⟨8,rfl,L,us,rfl,SqL.of hL,fun e7 he7=>?_⟩
 have e8:aJ us none (some 8)=us.take 8:=cW us 8
 rw [e8]
 have p7:=ac he7 (.lst (us.take 8))
 have lus:us.length=rs.length:=by have:=R6.length; rwa [ζ] at this
 refine ⟨e5,e7,_,_,rfl,rfl,p7 _ _ (s6 _ _ h5),aa,by rw [ψ,Ρ]; show 1 + _<=_; omega,fun Rr hRr=>?_⟩
 have p8:=ac hRr (.lst ([vf] ++ us.take 8))
 have hR:upd (upd H6 e7 (.lst (us.take 8))) Rr (.lst ([vf] ++ us.take 8)) Rr=some (.lst ([vf] ++ us.take 8)):=aa
 have t8:=p5.trans (s6.trans (p7.trans p8))
 have R8:Reps (upd (upd H6 e7 (.lst (us.take 8))) Rr (.lst ([vf] ++ us.take 8))) ((fza :: rs.take 8).map Rw.dv) ([vf] ++ us.take 8):=by
  have a:=aP (Rf.mono t8)
  have b:=XB.reps_take 8 (R6.mono (p7.trans p8))
  rw [<- k_] at b
  exact Reps.append a b
 have s08:=s03.trans (s4.trans t8)
 have r8:=(s4.trans t8) _ _ hr3
 generalize upd (upd H6 e7 (.lst (us.take 8))) Rr (.lst ([vf] ++ us.take 8))=HR at hR R8 s08 r8 ⊢
 clear p7 p8 t8 hRr he7 s6 hL R6 hLn r5 s05 h5 p5 he5 s4 Rf s03 hr3
 have M0:=Bn ok fs 8
 obtain ⟨m1,m2,_,m4⟩:=lS (fza :: rs.take 8)
 have F0:=M0.fate_ok fun i hi=>by obtain ⟨r,_,rfl⟩:=Δ.mp hi; exact ⟨r,rfl⟩
 have sm0:=M0.small
 rw [m1] at F0 sm0
 have l9:(fza :: rs.take 8).length<=9:=by rw [Υ,Ρ]; omega
 have lv9:([vf] ++ us.take 8).length=(fza :: rs.take 8).length:=by have:=R8.length; rwa [ζ] at this
 generalize ([vf] ++ us.take 8)=v0 at hR R8 lv9 ⊢
 generalize hrs0:(fza :: rs.take 8)=rs0 at R8 M0 m1 m2 m4 F0 sm0 l9 lv9 ⊢
 have hS0:=s08.seq hS
 refine gnm ?_
 dsimp only
 refine ⟨_,rfl,Rr,v0,_,.ok,rfl,hR,R8,sm0,by rw [ζ]; omega,F0,fun H9 v9 s9 R9=>⟨z2,fun t9 ht9=>?_⟩⟩
 refine ⟨2,_,_,fB,fB,by decide,R9.mono (ac ht9 _),jB aa,fun b hb=>?_⟩
 rw [yi hb]
 refine ⟨_,rfl,aA ?_⟩
 refine tnx ?_
 dsimp only
 have s9':=s9.trans (ac ht9 (.tup [.str "taken",.non]))
 generalize upd H9 t9 (.tup [.str "taken",.non])=H9' at s9' ⊢
 have B2:(if ((ns.map V.int).length:Int) > 1 then ((ns.map V.int).length:Int) else 1) < (1000000:Int):=by
  rw [ζ]
  split <;> omega
 refine ⟨_,rfl,sc,_,rfl,.inl (s9'.seq hS0),_,_,rfl,0,_,6,rfl,⟨by decide,by decide,by decide,by decide,?B1,B2⟩,jJ (fun i σ H'=>∃ (o3 o4 o5 o6 o7 o8 o9 o10 o11 o12:Option V),σ=[some (.ref sc),some (.ref r),some (.ref Rr),o3,o4,o5,o6,o7,o8,o9,o10,o11,o12]/\ad HR H') ⟨_,_,_,_,_,_,_,_,_,_,rfl,s9'⟩ ?T1 ?_⟩
 case B1=>
  show (-1000000:Int)<=(if ((ns.map V.int).length:Int) > 1 then ((ns.map V.int).length:Int) else 1)
  split <;> omega
 case T1=>
  rintro i σ H2 D1 go1 hi ⟨o3,o4,o5,o6,o7,o8,o9,o10,o11,o12,rfl,s2⟩
  obtain ⟨ms,hms,lms⟩:=lN ns (some (0 + (i:Int) * 6)) (some (0 + (i:Int) * 6 + 6))
  refine ⟨_,rfl,_,rfl,_,rfl,_,rfl,_,_,rfl,rfl,_,rfl,sc,_,rfl,s2.seq hS0,fun e1 he1=>⟨z1,fun e2 he2=>⟨e2,6,_,rfl,rfl,aa,by decide,by decide,by rw [ψ]; decide,fun e3 he3=>?_⟩⟩⟩
  have c1:=ac he1 (.lst (aJ (ns.map V.int) (some (0 + (i:Int) * 6)) (some (0 + (i:Int) * 6 + 6))))
  have c2:=ac he2 (.lst [.int 0])
  have c3:=ac he3 (.lst (χ (6:Int).toNat [V.int 0]).flatten)
  have f1:=c3 _ _ (c2 _ _ (aa (H:=H2) (a:=e1) (o:=.lst (aJ (ns.map V.int) (some (0 + (i:Int) * 6)) (some (0 + (i:Int) * 6 + 6))))))
  refine ⟨e1,e3,_,_,rfl,rfl,f1,aa,?_,fun e4 he4=>?_⟩
  ·rw [hms,ζ,ψ]
   have:(χ (6:Int).toNat [V.int 0]).flatten.length=6:=by decide
   omega
  have c4:=ac he4 (.lst (aJ (ns.map V.int) (some (0 + (i:Int) * 6)) (some (0 + (i:Int) * 6 + 6)) ++ (χ (6:Int).toNat [V.int 0]).flatten))
  refine ⟨6,rfl,e4,_,rfl,SqL.of aa,fun e5 he5=>?_⟩
  have c5:=ac he5 (.lst (aJ (aJ (ns.map V.int) (some (0 + (i:Int) * 6)) (some (0 + (i:Int) * 6 + 6)) ++ (χ (6:Int).toNat [V.int 0]).flatten) none (some 6)))
  have hcells:∃ cells:List Int,aJ (aJ (ns.map V.int) (some (0 + (i:Int) * 6)) (some (0 + (i:Int) * 6 + 6)) ++ (χ (6:Int).toNat [V.int 0]).flatten) none (some 6)=cells.map V.int/\cells.length=6:=by
   refine ⟨(ms ++ χ 6 0).take 6,?_,by rw [Ρ,ς,k4]; omega⟩
   have e:=cW (aJ (ns.map V.int) (some (0 + (i:Int) * 6)) (some (0 + (i:Int) * 6 + 6)) ++ (χ (6:Int).toNat [V.int 0]).flatten) 6
   rw [k_,ω,<- hms]
   exact e
  obtain ⟨cells,hc,lc⟩:=hcells
  have s5:=c1.trans (c2.trans (c3.trans (c4.trans c5)))
  have f5:=aa (H:=upd (upd (upd (upd H2 e1 (.lst (aJ (ns.map V.int) (some (0 + (i:Int) * 6)) (some (0 + (i:Int) * 6 + 6))))) e2 (.lst [.int 0])) e3 (.lst (χ (6:Int).toNat [V.int 0]).flatten)) e4 (.lst (aJ (ns.map V.int) (some (0 + (i:Int) * 6)) (some (0 + (i:Int) * 6 + 6)) ++ (χ (6:Int).toNat [V.int 0]).flatten))) (a:=e5) (o:=.lst (aJ (aJ (ns.map V.int) (some (0 + (i:Int) * 6)) (some (0 + (i:Int) * 6 + 6)) ++ (χ (6:Int).toNat [V.int 0]).flatten) none (some 6)))
  rw [hc] at f5 s5
  rw [hc]
  generalize upd _ e5 _=H3 at f5 s5 ⊢
  clear c1 c2 c3 c4 c5 f1 he1 he2 he3 he4 he5
  refine ⟨e5,24,cells,rfl,SqL.of f5,by omega,by omega,by decide,by decide,fun H4 dA s4 hdA d4=>?_⟩
  have s24:=s2.trans (s5.trans s4)
  have nA:HR dA=none:=(s2.trans s5).free hdA
  refine gnm ?_
  dsimp only
  refine ⟨_,rfl,dA,_,rfl,d4,fun H5 x s5' d5 x0 x1=>?_⟩
  have s25:ad HR H5:=fun g o e=>s5' g o (ae e nA) (s24 _ _ e)
  refine gnm ?_
  dsimp only
  refine ⟨_,rfl,Rr,v0,rfl,.inl (SqL.of (s25 _ _ hR)),fun S hSn=>?_⟩
  have p6:=ac hSn (.lst v0)
  have S6:upd H5 S (.lst v0) S=some (.lst v0):=aa
  have d6:=d5.m p6
  have s26:=s25.trans p6
  have nS:HR S=none:=s25.free hSn
  have aS:dA≠S:=fun z=>d5.some (z▸hSn)
  generalize upd H5 S (.lst v0)=H6' at p6 S6 d6 s26 ⊢
  refine gnm ?_
  dsimp only
  obtain ⟨g0,g1⟩:=aN (a:=x) 7 (by decide)
  obtain ⟨n7,hn7,ln7⟩:∃ n:Nat,x % 7=n/\n < 7:=⟨(x % 7).toNat,by omega,by omega⟩
  refine ⟨_,rfl,_,_,rfl,rfl,(by show (0:Int) < 7; decide),_,_,rfl,rfl,?_⟩
  rw [hn7]
  refine gnm ?_
  dsimp only
  refine ⟨z1,fun e7 he7=>?_⟩
  have p7:=ac he7 (.lst [.str "row"])
  have s27:=s26.trans p7
  refine ⟨_,rfl,Rr,v0,rfl,.inl (SqL.of (s27 _ _ hR)),e7,_,_,rfl,rfl,aa,by omega,by omega,by rw [ψ]; show 1 * _<=_; omega,fun M hMn=>?_⟩
  have em:(χ (((v0.length:Nat):Int)).toNat [V.str "row"]).flatten=((rs0.map It.row).map It.mark).map V.str:=by
   rw [m2,List.map_replicate,l_,lv9]
   exact lV _ _
  rw [em]
  have p8:=p7.trans (ac hMn (.lst (((rs0.map It.row).map It.mark).map V.str)))
  have M8:upd (upd H6' e7 (.lst [.str "row"])) M (.lst (((rs0.map It.row).map It.mark).map V.str)) M=some (.lst (((rs0.map It.row).map It.mark).map V.str)):=aa
  have nM:HR M=none:=s27.free hMn
  have aM:dA≠M:=fun z=>(d6.m p7).some (z▸hMn)
  have sM:S≠M:=ae (p7 _ _ S6) hMn
  have d8:=d6.m p8
  have S8:=p8 _ _ S6
  have s28:=s26.trans p8
  generalize upd (upd H6' e7 (.lst [.str "row"])) M (.lst (((rs0.map It.row).map It.mark).map V.str))=H8 at p8 M8 d8 S8 s28 ⊢
  refine gnm ?_
  dsimp only
  have T0:St3 HR H8 dA S M (rs0.map It.row) v0:=⟨s28,nA,nS,nM,aS,aM,sM,⟨_,d8⟩,S8,M8,by rw [m1]; exact R8.mono (zJ s28 nA nS nM),M0⟩
  refine ⟨3,rfl,by decide,by decide,jY (n:=3) (fun k σ H'=>∃ (o9 o10 o11 o12:Option V) (ys:List It) (vs:List V),σ=[some (.ref sc),some (.ref r),some (.ref Rr),some (.int (0 + (i:Int) * 6)),some (.ref dA),some (.int x),some (.ref S),some (.int (1 + (n7:Int))),some (.ref M),o9,o10,o11,o12]/\St3 HR H' dA S M ys vs/\ys.length<=9 + k/\(k<=2->ys.filter It.isNb=[])/\(∀ j,j < k->De ((1 + (n7:Int)) / 2 ^ j) 1=1->∃ m∈W3,m∈ys.map It.mark)) ⟨_,_,_,_,_,_,rfl,T0,by rw [ζ]; omega,fun _=>m4,fun j h=>absurd h (A3 _)⟩ ?T2 ?_⟩
  case T2=>
   rintro k σ H' hk ⟨o9,o10,o11,o12,ys,vs,rfl,T3,ly,nb,bits⟩
   refine gnm ?_
   dsimp only
   have ek:(0 + (k:Int)).toNat=k:=by omega
   refine ⟨_,rfl,_,rfl,_,_,rfl,rfl,(by show (0:Int)<=0 + (k:Int); omega),_,_,rfl,rfl,rfl,_,rfl,?_⟩
   rw [ek]
   refine aQ (fun hb=>?_) (fun hb=>?_)
   ·obtain ⟨n,d⟩:=T3.dr
    refine ⟨_,rfl,dA,_,rfl,d,fun H1 y s1 d1 y0 y1=>?_⟩
    refine gnm ?_
    dsimp only
    have S1:=s1 _ _ (ϊ T3.as_) T3.s
    have M1:=s1 _ _ (ϊ T3.am) T3.m
    have lvs:vs.length=ys.length:=by have:=T3.rep.length; rwa [ζ] at this
    have l0:0 < ys.length:=(π.mp T3.mix.head).1
    have yb0:0<=y % (vs.length:Int):=Ea _ (by omega)
    have yb1:y % (vs.length:Int) < vs.length:=Dt _ (by omega)
    refine ⟨_,rfl,_,rfl,S,vs,rfl,.inl (SqL.of S1),_,_,rfl,rfl,(by show (0:Int) < vs.length; omega),_,_,rfl,rfl,?_⟩
    refine gnm ?_
    dsimp only
    obtain ⟨a,ha⟩:∃ a:Nat,1 + y % (vs.length:Int)=a:=⟨(1 + y % (vs.length:Int)).toNat,by omega⟩
    rw [ha]
    have o1:ad HR H1:=fun g o e=>s1 g o (ae e T3.na) (T3.old _ _ e)
    refine ⟨_,rfl,.inl ⟨rfl,_,SqL.of S1⟩,_,rfl,_,rfl,_,rfl,_,_,rfl,rfl,⟨by decide,by decide⟩,_,rfl,k,y / 12,r,xs,by rw [Int.zero_add]; rfl,hk,o1 _ _ r8,nms,fun H3 v it s3 Rv fn=>?_⟩
    obtain ⟨mk,nrow⟩:=iM hk fn
    have S3:=s3 _ _ S1
    refine ⟨S,vs,_,v,rfl,rfl,S3,by omega,by omega,by omega,?_⟩
    rw [l_]
    have b4:=aE.upd H3 S (.lst (vs.take a ++ v :: vs.drop a))
    have S4:upd H3 S (.lst (vs.take a ++ v :: vs.drop a)) S=some (.lst (vs.take a ++ v :: vs.drop a)):=aa
    have M4:=b4 _ _ (ϊ T3.sm) (s3 _ _ M1)
    have d4':=(d1.m s3).b b4 T3.as_
    generalize upd H3 S (.lst (vs.take a ++ v :: vs.drop a))=H4' at b4 S4 M4 d4' ⊢
    refine ⟨_,rfl,.inl ⟨rfl,_,SqL.of M4⟩,_,rfl,z3,fun t ht=>?_⟩
    have p5:=ac ht (.lst [.str "program",.str "twice",.str "bind"])
    refine ⟨_,rfl,t,_,_,.str it.mark,rfl,rfl,SqL.of aa,?_,?_⟩
    ·have e1:(W3.map V.str)[k]?=some (.str it.mark):=by rw [Κ,mk]; rfl
     rw [Int.zero_add]
     exact af e1
    have M5:=p5 _ _ M4
    have S5:=p5 _ _ S4
    have d5':=d4'.m p5
    generalize upd H4' t (.lst [.str "program",.str "twice",.str "bind"])=H5' at p5 M5 S5 d5' ⊢
    refine ⟨M,_,_,_,rfl,rfl,M5,by omega,by rw [ζ,ζ]; omega,by rw [ζ,ζ]; omega,?_⟩
    rw [l_]
    have em2:((ys.map It.mark).map V.str).take a ++ .str it.mark :: ((ys.map It.mark).map V.str).drop a=((ys.take a ++ it :: ys.drop a).map It.mark).map V.str:=by
     simp only [ω,Ο,k_,DK]
    rw [em2]
    have b6:=aE.upd H5' M (.lst (((ys.take a ++ it :: ys.drop a).map It.mark).map V.str))
    obtain ⟨M',nb'⟩:=T3.mix.fault (k:=a) (by omega) hk fn (nb (by omega))
    have lsA:ad (ls dA S M H3) (ls dA S M (upd H5' M (.lst (((ys.take a ++ it :: ys.drop a).map It.mark).map V.str)))):=(Bq b4).trans ((qS p5).trans (BM b6))
    have T':St3 HR (upd H5' M (.lst (((ys.take a ++ it :: ys.drop a).map It.mark).map V.str))) dA S M (ys.take a ++ it :: ys.drop a) (vs.take a ++ v :: vs.drop a):=by
     refine ⟨fun g o e=>b6 g o (ae e T3.nm) (p5 g o (b4 g o (ae e T3.ns) (s3 g o (o1 g o e)))),T3.na,T3.ns,T3.nm,T3.as_,T3.am,T3.sm,⟨_,d5'.b b6 T3.am⟩,b6 _ _ T3.sm S5,aa,?_,M'⟩
     have Ro:=T3.rep.mono ((Bv s1).trans ((qS s3).trans lsA))
     have Rn:=Rv.mono ((AU d1.some (by rw [S1]; simp) (by rw [M1]; simp)).trans lsA)
     have ed:(ys.take a ++ it :: ys.drop a).map It.dv=(ys.map It.dv).take a ++ it.dv :: (ys.map It.dv).drop a:=by simp only [ω,Ο,k_,DK]
     rw [ed]
     exact Reps.append (XB.reps_take a Ro) (Reps.append (aP Rn) (iB a Ro))
    refine ⟨_,_,_,_,_,_,rfl,T',?_,fun h=>nb' (by omega),fun j hj _=>⟨it.mark,Α mk,?_⟩⟩
    ·rw [ς,Υ,Ρ,ϧ]; omega
    ·exact Δ.mpr ⟨it,by simp,rfl⟩
   ·refine ⟨_,_,_,_,ys,vs,rfl,T3,by omega,fun h=>nb (by omega),fun j hj hbit=>?_⟩
    rcases Cf.mp hj with z | z
    ·exact bits j z hbit
    ·rw [z] at hbit
     exact absurd (decide_eq_true (show V.int (De ((1 + (n7:Int)) / 2 ^ k) 1)=V.int 1 by rw [hbit])) hb
  rintro σ H' ⟨o9,o10,o11,o12,ys,vs,rfl,T3,ly,_,bits⟩
  obtain ⟨kb,hkb,hbit⟩:=vU n7 ln7
  obtain ⟨wd,ft,rest,hpk,hw,ff,hfd⟩:=pj T3.mix (bits kb hkb hbit)
  refine ⟨z3,fun t ht=>?_⟩
  have p1:=ac ht (.lst [.str "program",.str "twice",.str "bind"])
  have t1:upd H' t (.lst [.str "program",.str "twice",.str "bind"]) t=some (.lst (W3.map V.str)):=aa
  have M1:=p1 _ _ T3.m
  have S1:=p1 _ _ T3.s
  have R1:=(T3.rep.mono zH).mono p1
  have o1:=T3.old.trans p1
  generalize upd H' t (.lst [.str "program",.str "twice",.str "bind"])=H1 at p1 t1 M1 S1 R1 o1 ⊢
  refine ⟨t,rfl,⟨_,SqL.of t1⟩,ki (xs:=W3.map V.str) (fun i zs H''=>H''=H1/\zs=((W3.take i).filter fun m=>decide (m∈ys.map It.mark)).map V.str) ⟨rfl,rfl⟩ (fun i zs H'' _ p=>by rw [p.1]; exact SqL.of t1) ?_ ?_⟩
  ·rintro i zs H'' x hx ⟨rfl,rfl⟩
   rw [Κ] at hx
   obtain ⟨one,hone,rfl⟩:=Ϙ.mp hx
   have hti:W3.take (i + 1)=W3.take i ++ [one]:=by rw [Ϡ,hone]; rfl
   refine rh ⟨_,rfl,_,rfl,M,_,rfl,.inl (SqL.of M1),rfl,sP _,?_⟩
   refine ⟨_,rfl,?_⟩
   show if (inV (.str one) ((ys.map It.mark).map V.str))=true then _ else _
   rw [vi]
   have ll:((W3.take i).filter fun m=>decide (m∈ys.map It.mark)).length<=3:=ϔ (List.length_filter_le _ _) (by rw [Ρ]; exact Nat.min_le_right _ _)
   refine aQ (fun h=>⟨_,rfl,by rw [ζ,ψ]; omega,rfl,?_⟩) (fun h=>⟨rfl,?_⟩)
   ·rw [hti,i8,ω,b_,if_pos h]; rfl
   ·rw [hti,i8,b_,if_neg h]; simp
  ·rintro zs H'' ⟨rfl,rfl⟩ p hp
   have hzs:((W3.take (W3.map V.str).length).filter fun m=>decide (m∈ys.map It.mark))=wd :: rest:=hpk
   rw [hzs]
   have p2:=ac hp (.lst ((wd :: rest).map V.str))
   refine ⟨p,_,0,.str wd,rfl,rfl,SqL.of aa,af (j:=0) rfl,?_⟩
   refine gnm ?_
   dsimp only
   have M2:=p2 _ _ M1
   have S2:=p2 _ _ S1
   have R2:=R1.mono p2
   have o2:=o1.trans p2
   generalize upd H1 p (.lst ((wd :: rest).map V.str))=H2' at p2 M2 S2 R2 o2 ⊢
   refine ⟨_,rfl,S,vs,_,ft,rfl,S2,R2,T3.mix.small,by rw [ζ]; omega,ff,fun H3 v3 s3 R3=>?_⟩
   have M3:=s3 _ _ M2
   refine ⟨_,rfl,_,rfl,.inl ⟨rfl,_,SqL.of M3⟩,_,rfl,M,_,wd,rfl,rfl,M3,hw,by rw [ζ]; omega,z2,fun t1' ht1=>⟨z2,fun t2' ht2=>?_⟩⟩
   have p4:=ac ht1 (.tup [.int ((ys.map It.mark).idxOf wd:Nat),.int 0])
   have p5:=ac ht2 (.tup [.str wd,.ref t1'])
   rw [hfd] at R3
   refine ⟨2,_,[.str wd,.tup [.int ((ys.map It.mark).idxOf wd:Nat),.int 0]],rf,rf,by decide,R3.mono (p4.trans p5),?_,fun b hb=>?_⟩
   ·rw [Rep]
    refine ⟨t2',_,rfl,aa,?_⟩
    simp only [Reps]
    refine ⟨_,_,rfl,by simp only [Rep],_,_,rfl,?_,rfl⟩
    rw [Rep]
    exact ⟨t1',_,rfl,p5 _ _ aa,by simp only [Reps]; exact ⟨_,_,rfl,by simp only [Rep],_,_,rfl,by simp only [Rep],rfl⟩⟩
   ·rw [yi hb]
    exact ⟨_,rfl,aA (go1 _ _ ⟨_,_,_,_,_,_,_,_,_,_,rfl,o2.trans (s3.trans (p4.trans p5))⟩)⟩
 rintro σ H' ⟨o3,o4,o5,o6,o7,o8,o9,o10,o11,o12,rfl,s2⟩
 refine ⟨_,rfl,Rr,v0,_,.ok,rfl,s2 _ _ hR,R8.mono s2,sm0,by rw [ζ]; omega,F0,fun H3' v3 s3 R3=>⟨z2,fun t3 ht3=>?_⟩⟩
 refine ⟨2,_,_,fB,fB,by decide,R3.mono (ac ht3 _),jB aa,fun b hb=>?_⟩
 rw [hb.mpr rfl]
 exact q _
end
open PySem L2 KB XB L2.EX
theorem us1 {p:List δ->Prop} (h:∀ x0,p [x0]):∀ us:List δ,us.length=1->p us
 | [x0],_=>h x0
theorem us2 {p:List δ->Prop} (h:∀ x0 x1,p [x0,x1]):∀ us:List δ,us.length=2->p us
 | [x0,x1],_=>h x0 x1
theorem us3 {p:List δ->Prop} (h:∀ x0 x1 x2,p [x0,x1,x2]):∀ us:List δ,us.length=3->p us
 | [x0,x1,x2],_=>h x0 x1 x2
structure Df (K:PySem.W.Frag) (x:Str) (st:Stmt) (f:Addr) (fd:Μ):Prop where
 a:PySem.W.nsIn K mainGlobals x=some (some (.ref f))
 F:Fun K x x st f fd
theorem df_mk {K:PySem.W.Frag} {x:Str} {st:Stmt} {f:Addr} {oc:δ} {od an:Option Addr} {osl:Array (Option δ)} {kV doc pm cdv ct:δ} (a:PySem.W.nsIn K mainGlobals x=some (some (.ref f))) (l:K.lookup f=some ⟨oc,od,.func (PySem.W.fnOf x x (bR st) (bA st) (ai st) .none kV doc pm an cdv ct),osl⟩)
  (c:PySem.W.codeIn K cdv x=true) (k:PySem.W.keepIn K (.ref f)=true):Df K x st f (PySem.W.fnOf x x (bR st) (bA st) (ai st) .none kV doc pm an cdv ct):=⟨a,yH l c k⟩
theorem Df.d {P:Β} {w:Ξ} {K:PySem.W.Frag} {mg:Str->Option δ} {base h:Heap} {x:Str} {st:Stmt} {f:Addr} {fd:Μ} {k:Nat} {ps:List Str} {sp:Sp} (d:Df K x st f fd) (X:K.In h) (G:h.Ns mainGlobals mg) (b:bG K fd ps []) (F:aK P w K mg base CX0 k f fd ps sp):Def P w K mg base k x ps sp:=⟨f,fd,F,b,d.F.kp,PySem.W.mg_of X G d.a⟩
theorem Df.x {P:Β} {w:Ξ} {K:PySem.W.Frag} {mg:Str->Option δ} {base h:Heap} {x:Str} {st:Stmt} {f:Addr} {fd:Μ} {k:Nat} {ps:List Str} {sp:Sp} (d:Df K x st f fd) (X:K.In h) (G:h.Ns mainGlobals mg) (b:bG K fd ps []) (F:aK P w K mg base (CXe P w) k f fd ps sp):mX P w K mg base k x ps sp:=⟨f,fd,F,b,d.F.kp,PySem.W.mg_of X G d.a⟩
theorem all_mk {l:PySem.W.OpenLaw} {w:Ξ} {K:PySem.W.Frag} {h:Heap} {mg:Str->Option δ} {fa f1 f2 f3 f4 f5 f6 f7 f8 f9 f10 f11 f12 f13 f14 f15 f16 f17 f18 f19 f20 f21 f22 f23 f24 f25 f26 f27 f28 f29 f30 f31 f32 f33 f34 f35 f36 f37 f38 f39 f40 f41 f42 f43:Addr} {g1 g2 g3 g4 g5 g6 g7 g8 g9 g10 g11 g12 g13 g14 g15 g16 g17 g18 g19 g20 g21 g22 g23 g24 g25 g26 g27 g28 g29 g30 g31 g32 g33 g34 g35 g36 g37 g38 g39 g40 g41 g42 g43:Μ} (X:K.In h) (G:h.Ns mainGlobals mg) (hfa:mg "law"=some (.ref fa))
  (d1:Df K "is_whole" eL f1 g1)
  (d2:Df K "is_name" gb f2 g2)
  (d3:Df K "is_part" gl f3 g3)
  (d4:Df K "are_parts" dR f4 g4)
  (d5:Df K "is_length" dP f5 g5)
  (d6:Df K "is_small_length" eW f6 g6)
  (d7:Df K "has_word" eO f7 g7)
  (d8:Df K "is_point" eR f8 g8)
  (d9:Df K "things_of" bT f9 g9)
  (d10:Df K "is_kind" gz f10 g10)
  (d11:Df K "is_below" eJ f11 g11)
  (d12:Df K "is_def_name" cG f12 g12)
  (d13:Df K "is_few" iR f13 g13)
  (d14:Df K "fits" ox f14 g14)
  (d15:Df K "is_node" gc f15 g15)
  (d16:Df K "parts_of" fi f16 g16)
  (d17:Df K "is_expression" gs f17 g17)
  (d18:Df K "length_at" dQ f18 g18)
  (d19:Df K "in_order" fh f19 g19)
  (d20:Df K "points_of" dM f20 g20)
  (d21:Df K "are_names" dF f21 g21)
  (d22:Df K "is_param" eS f22 g22)
  (d23:Df K "are_params" dc f23 g23)
  (d24:Df K "is_row" iY f24 g24)
  (d25:Df K "is_twice" eI f25 g25)
  (d26:Df K "unbound" fX f26 g26)
  (d27:Df K "may_stand" cx f27 g27)
  (d28:Df K "are_bound" dI f28 g28)
  (d29:Df K "hold_rows" dC f29 g29)
  (d30:Df K "hold_once" dN f30 g30)
  (d31:Df K "hold_bound" cZ f31 g31)
  (d32:Df K "checked" gq f32 g32)
  (d33:Df K "_law_draws" kF f33 g33)
  (d34:Df K "_law_next" lj f34 g34)
  (d35:Df K "_law_names" kG f35 g35)
  (d36:Df K "_law_expression" cS f36 g36)
  (d37:Df K "_law_sum" uN f37 g37)
  (d38:Df K "_law_bound_kinds" bS f38 g38)
  (d39:Df K "_law_def" tu f39 g39)
  (d40:Df K "_law_program" fZ f40 g40)
  (d41:Df K "_law_refused" gy f41 g41)
  (d42:Df K "_law_fault" lF f42 g42)
  (d43:Df K "law" ju f43 g43)
  (z1:PySem.W.nsIn K mainGlobals "len"=some none)
  (z2:PySem.W.nsIn K mainGlobals "isinstance"=some none)
  (z3:PySem.W.nsIn K mainGlobals "int"=some none)
  (z4:PySem.W.nsIn K mainGlobals "bool"=some none)
  (z5:PySem.W.nsIn K mainGlobals "str"=some none)
  (z6:PySem.W.nsIn K mainGlobals "tuple"=some none)
  (z7:PySem.W.nsIn K mainGlobals "list"=some none)
  (z8:PySem.W.nsIn K mainGlobals "all"=some none)
  (z9:PySem.W.nsIn K mainGlobals "zip"=some none)
  (z10:PySem.W.nsIn K mainGlobals "range"=some none)
  (z11:PySem.W.nsIn K mainGlobals "enumerate"=some none)
  (z12:PySem.W.nsIn K mainGlobals "max"=some none)
  (z13:PySem.W.nsIn K mainGlobals "set"=some none)
  (z14:PySem.W.nsIn K mainGlobals "sorted"=some none)
  (z15:PySem.W.nsIn K mainGlobals "reversed"=some none)
  (z16:PySem.W.nsIn K mainGlobals "any"=some none)
  (z17:PySem.W.nsIn K mainGlobals "ValueError"=some none)
  {tg0 tg1 tg2 tg3 tg4 tg5 tg6 tg7:Tok}
  (zg0:PySem.W.nsIn K mainGlobals "LONGEST_NAME"=some (some (.int 8 tg0)))
  (zg1:PySem.W.nsIn K mainGlobals "GREATEST_SIZE"=some (some (.int 12 tg1)))
  (zg2:PySem.W.nsIn K mainGlobals "GREATEST_NUMBER"=some (some (.int 99 tg2)))
  (zg3:PySem.W.nsIn K mainGlobals "WHOLE_BOUND"=some (some (.int 1000000000000 tg3)))
  (zg4:PySem.W.nsIn K mainGlobals "MOST_NODES"=some (some (.int 40 tg4)))
  (zg5:PySem.W.nsIn K mainGlobals "MOST_ABOVE"=some (some (.int 7 tg5)))
  (zg6:PySem.W.nsIn K mainGlobals "MOST_THINGS"=some (some (.int 4 tg6)))
  (zg7:PySem.W.nsIn K mainGlobals "MOST_ROWS"=some (some (.int 12 tg7)))
  {gR:Addr} {odR:Option Addr} {nR:Nat} {slR:Array (Option δ)} {tr0 tr1 tr2 tr3 tr4:Tok}
  (zR:PySem.W.nsIn K mainGlobals "RECKONS"=some (some (.ref gR)))
  (lR:K.lookup gR=some ⟨.type "tuple",odR,.seq #[.str "plus" tr0,.str "minus" tr1,.str "times" tr2,.str "less" tr3,.str "same" tr4] nR,slR⟩)
  {gS:Addr}
  (zS:PySem.W.nsIn K mainGlobals "SHAPES"=some (some (.ref gS)))
  (sS:XB.Shp l.prog w K gS)
  {D fI gI aNoProgram aTwice aNoBind aNoName aUnlike aParts aTooGreat aTooLong aNoValue aNoWords aNoLine:Addr}
  {ocI kVI dcI pmI cdI ctI ocg:δ} {odI anI odg:Option Addr} {slI slg:Array (Option δ)} {ng:Nat}
  (lI:K.lookup fI=some ⟨ocI,odI,.func (PySem.W.fnOf "__init__" "IndexwiseError.__init__" (bR dU) (bA dU) (ai dU) (.ref gI) kVI dcI pmI anI cdI ctI),slI⟩)
  (cI:PySem.W.codeIn K cdI "IndexwiseError.__init__"=true) (lgI:K.lookup gI=some ⟨ocg,odg,.seq #[.none] ng,slg⟩) (tI:PySem.W.typeIn K (.ref fI)=some (.type "function"))
  {nmD qD:Str} {ND:Addr} {bsD subD:List δ} {snD:List Str} {abD:Bool} {colD:Option Bool} {ddD:Option Addr} {j0D j1D j2D j3D j5D:Option δ}
  (oD:PySem.W.nsIn K mainGlobals "IndexwiseError"=some (some (.ref D)))
  (xD:K.lookup D=some (excClassObj nmD qD D ND bsD veM true snD subD abD colD ddD j0D j1D j2D j3D j5D "ValueError.__new__"))
  {nmNoProgram qNoProgram:Str} {NNoProgram:Addr} {bsNoProgram subNoProgram:List δ} {snNoProgram:List Str} {abNoProgram:Bool} {colNoProgram:Option Bool} {ddNoProgram:Option Addr} {j0NoProgram j1NoProgram j2NoProgram j3NoProgram j5NoProgram:Option δ}
  (oNoProgram:PySem.W.nsIn K mainGlobals "NoProgram"=some (some (.ref aNoProgram)))
  (xNoProgram:K.lookup aNoProgram=some (excClassObj nmNoProgram qNoProgram aNoProgram NNoProgram bsNoProgram (.ref D :: veM) true snNoProgram subNoProgram abNoProgram colNoProgram ddNoProgram j0NoProgram j1NoProgram j2NoProgram j3NoProgram j5NoProgram "ValueError.__new__"))
  {nmTwice qTwice:Str} {NTwice:Addr} {bsTwice subTwice:List δ} {snTwice:List Str} {abTwice:Bool} {colTwice:Option Bool} {ddTwice:Option Addr} {j0Twice j1Twice j2Twice j3Twice j5Twice:Option δ}
  (oTwice:PySem.W.nsIn K mainGlobals "Twice"=some (some (.ref aTwice)))
  (xTwice:K.lookup aTwice=some (excClassObj nmTwice qTwice aTwice NTwice bsTwice (.ref D :: veM) true snTwice subTwice abTwice colTwice ddTwice j0Twice j1Twice j2Twice j3Twice j5Twice "ValueError.__new__"))
  {nmNoBind qNoBind:Str} {NNoBind:Addr} {bsNoBind subNoBind:List δ} {snNoBind:List Str} {abNoBind:Bool} {colNoBind:Option Bool} {ddNoBind:Option Addr} {j0NoBind j1NoBind j2NoBind j3NoBind j5NoBind:Option δ}
  (oNoBind:PySem.W.nsIn K mainGlobals "NoBind"=some (some (.ref aNoBind)))
  (xNoBind:K.lookup aNoBind=some (excClassObj nmNoBind qNoBind aNoBind NNoBind bsNoBind (.ref D :: veM) true snNoBind subNoBind abNoBind colNoBind ddNoBind j0NoBind j1NoBind j2NoBind j3NoBind j5NoBind "ValueError.__new__"))
  {nmNoName qNoName:Str} {NNoName:Addr} {bsNoName subNoName:List δ} {snNoName:List Str} {abNoName:Bool} {colNoName:Option Bool} {ddNoName:Option Addr} {j0NoName j1NoName j2NoName j3NoName j5NoName:Option δ}
  (oNoName:PySem.W.nsIn K mainGlobals "NoName"=some (some (.ref aNoName)))
  (xNoName:K.lookup aNoName=some (excClassObj nmNoName qNoName aNoName NNoName bsNoName (.ref D :: veM) true snNoName subNoName abNoName colNoName ddNoName j0NoName j1NoName j2NoName j3NoName j5NoName "ValueError.__new__"))
  {nmUnlike qUnlike:Str} {NUnlike:Addr} {bsUnlike subUnlike:List δ} {snUnlike:List Str} {abUnlike:Bool} {colUnlike:Option Bool} {ddUnlike:Option Addr} {j0Unlike j1Unlike j2Unlike j3Unlike j5Unlike:Option δ}
  (oUnlike:PySem.W.nsIn K mainGlobals "Unlike"=some (some (.ref aUnlike)))
  (xUnlike:K.lookup aUnlike=some (excClassObj nmUnlike qUnlike aUnlike NUnlike bsUnlike (.ref D :: veM) true snUnlike subUnlike abUnlike colUnlike ddUnlike j0Unlike j1Unlike j2Unlike j3Unlike j5Unlike "ValueError.__new__"))
  {nmParts qParts:Str} {NParts:Addr} {bsParts subParts:List δ} {snParts:List Str} {abParts:Bool} {colParts:Option Bool} {ddParts:Option Addr} {j0Parts j1Parts j2Parts j3Parts j5Parts:Option δ}
  (oParts:PySem.W.nsIn K mainGlobals "Parts"=some (some (.ref aParts)))
  (xParts:K.lookup aParts=some (excClassObj nmParts qParts aParts NParts bsParts (.ref D :: veM) true snParts subParts abParts colParts ddParts j0Parts j1Parts j2Parts j3Parts j5Parts "ValueError.__new__"))
  {nmTooGreat qTooGreat:Str} {NTooGreat:Addr} {bsTooGreat subTooGreat:List δ} {snTooGreat:List Str} {abTooGreat:Bool} {colTooGreat:Option Bool} {ddTooGreat:Option Addr} {j0TooGreat j1TooGreat j2TooGreat j3TooGreat j5TooGreat:Option δ}
  (oTooGreat:PySem.W.nsIn K mainGlobals "TooGreat"=some (some (.ref aTooGreat)))
  (xTooGreat:K.lookup aTooGreat=some (excClassObj nmTooGreat qTooGreat aTooGreat NTooGreat bsTooGreat (.ref D :: veM) true snTooGreat subTooGreat abTooGreat colTooGreat ddTooGreat j0TooGreat j1TooGreat j2TooGreat j3TooGreat j5TooGreat "ValueError.__new__"))
  {nmTooLong qTooLong:Str} {NTooLong:Addr} {bsTooLong subTooLong:List δ} {snTooLong:List Str} {abTooLong:Bool} {colTooLong:Option Bool} {ddTooLong:Option Addr} {j0TooLong j1TooLong j2TooLong j3TooLong j5TooLong:Option δ}
  (oTooLong:PySem.W.nsIn K mainGlobals "TooLong"=some (some (.ref aTooLong)))
  (xTooLong:K.lookup aTooLong=some (excClassObj nmTooLong qTooLong aTooLong NTooLong bsTooLong (.ref D :: veM) true snTooLong subTooLong abTooLong colTooLong ddTooLong j0TooLong j1TooLong j2TooLong j3TooLong j5TooLong "ValueError.__new__"))
  {nmNoValue qNoValue:Str} {NNoValue:Addr} {bsNoValue subNoValue:List δ} {snNoValue:List Str} {abNoValue:Bool} {colNoValue:Option Bool} {ddNoValue:Option Addr} {j0NoValue j1NoValue j2NoValue j3NoValue j5NoValue:Option δ}
  (oNoValue:PySem.W.nsIn K mainGlobals "NoValue"=some (some (.ref aNoValue)))
  (xNoValue:K.lookup aNoValue=some (excClassObj nmNoValue qNoValue aNoValue NNoValue bsNoValue (.ref D :: veM) true snNoValue subNoValue abNoValue colNoValue ddNoValue j0NoValue j1NoValue j2NoValue j3NoValue j5NoValue "ValueError.__new__"))
  {nmNoWords qNoWords:Str} {NNoWords:Addr} {bsNoWords subNoWords:List δ} {snNoWords:List Str} {abNoWords:Bool} {colNoWords:Option Bool} {ddNoWords:Option Addr} {j0NoWords j1NoWords j2NoWords j3NoWords j5NoWords:Option δ}
  (oNoWords:PySem.W.nsIn K mainGlobals "NoWords"=some (some (.ref aNoWords)))
  (xNoWords:K.lookup aNoWords=some (excClassObj nmNoWords qNoWords aNoWords NNoWords bsNoWords (.ref D :: veM) true snNoWords subNoWords abNoWords colNoWords ddNoWords j0NoWords j1NoWords j2NoWords j3NoWords j5NoWords "ValueError.__new__"))
  {nmNoLine qNoLine:Str} {NNoLine:Addr} {bsNoLine subNoLine:List δ} {snNoLine:List Str} {abNoLine:Bool} {colNoLine:Option Bool} {ddNoLine:Option Addr} {j0NoLine j1NoLine j2NoLine j3NoLine j5NoLine:Option δ}
  (oNoLine:PySem.W.nsIn K mainGlobals "NoLine"=some (some (.ref aNoLine)))
  (xNoLine:K.lookup aNoLine=some (excClassObj nmNoLine qNoLine aNoLine NNoLine bsNoLine (.ref D :: veM) true snNoLine subNoLine abNoLine colNoLine ddNoLine j0NoLine j1NoLine j2NoLine j3NoLine j5NoLine "ValueError.__new__"))
  (inNoProgram:PySem.W.findIn K (.ref aNoProgram) "__init__"=some (some (.ref fI)))
  (saNoProgram:PySem.W.findIn K (.ref aNoProgram) "__setattr__"=some (some (.builtin "object.__setattr__")))
  (plNoProgram:PySem.W.findIn K (.ref aNoProgram) "place"=some none)
  (gaNoProgram:PySem.W.findIn K (.ref aNoProgram) "__getattribute__"=some (some (.builtin "BaseException.__getattribute__")))
  (ghNoProgram:PySem.W.findIn K (.ref aNoProgram) "__getattr__"=some none)
  (clNoProgram:PySem.W.findIn K (.ref aNoProgram) "__class__"=some (some (.builtin "object.__class__")))
  (kpNoProgram:PySem.W.keepIn K (.ref aNoProgram)=true)
  (inTwice:PySem.W.findIn K (.ref aTwice) "__init__"=some (some (.ref fI)))
  (saTwice:PySem.W.findIn K (.ref aTwice) "__setattr__"=some (some (.builtin "object.__setattr__")))
  (plTwice:PySem.W.findIn K (.ref aTwice) "place"=some none)
  (gaTwice:PySem.W.findIn K (.ref aTwice) "__getattribute__"=some (some (.builtin "BaseException.__getattribute__")))
  (ghTwice:PySem.W.findIn K (.ref aTwice) "__getattr__"=some none)
  (clTwice:PySem.W.findIn K (.ref aTwice) "__class__"=some (some (.builtin "object.__class__")))
  (kpTwice:PySem.W.keepIn K (.ref aTwice)=true)
  (inNoBind:PySem.W.findIn K (.ref aNoBind) "__init__"=some (some (.ref fI)))
  (saNoBind:PySem.W.findIn K (.ref aNoBind) "__setattr__"=some (some (.builtin "object.__setattr__")))
  (plNoBind:PySem.W.findIn K (.ref aNoBind) "place"=some none)
  (gaNoBind:PySem.W.findIn K (.ref aNoBind) "__getattribute__"=some (some (.builtin "BaseException.__getattribute__")))
  (ghNoBind:PySem.W.findIn K (.ref aNoBind) "__getattr__"=some none)
  (clNoBind:PySem.W.findIn K (.ref aNoBind) "__class__"=some (some (.builtin "object.__class__")))
  (kpNoBind:PySem.W.keepIn K (.ref aNoBind)=true)
  (ndC:(D :: [aNoProgram,aTwice,aNoBind,aNoName,aUnlike,aParts,aTooGreat,aTooLong,aNoValue,aNoWords,aNoLine]).Nodup)
  :
  ∃ fd:Μ,(∀ (s:ι) (v:δ),Ek s fd ⟨[v],[]⟩ [("_law_script",v)])/\∀ base:Heap,K.In base->base.Ns mainGlobals mg->aK l.prog w K mg base CX0 15 fa fd ["_law_script"] (rq K):=by
 have e:=hfa.symm.trans (PySem.W.mg_of X G d43.a)
 cases e
 have T:Txt K mg:=⟨PySem.W.mg_none_of X G z1,PySem.W.mg_none_of X G z2,PySem.W.mg_none_of X G z3,PySem.W.mg_none_of X G z4,PySem.W.mg_none_of X G z5,PySem.W.mg_none_of X G z6,PySem.W.mg_none_of X G z7,PySem.W.mg_none_of X G z8,PySem.W.mg_none_of X G z9,PySem.W.mg_none_of X G z10,PySem.W.mg_none_of X G z11,PySem.W.mg_none_of X G z12,PySem.W.mg_none_of X G z13,PySem.W.mg_none_of X G z14,PySem.W.mg_none_of X G z15,PySem.W.mg_none_of X G z16,PySem.W.mg_none_of X G z17,⟨tg0,PySem.W.mg_of X G zg0⟩,⟨tg1,PySem.W.mg_of X G zg1⟩,⟨tg2,PySem.W.mg_of X G zg2⟩,⟨tg3,PySem.W.mg_of X G zg3⟩,⟨tg4,PySem.W.mg_of X G zg4⟩,⟨tg5,PySem.W.mg_of X G zg5⟩,⟨tg6,PySem.W.mg_of X G zg6⟩,⟨tg7,PySem.W.mg_of X G zg7⟩⟩
 have b1:=d1.F.binds (ps:=["thing"]) fun _ _ _ _ _ _=>us1 fun _=>rfl
 have b2:=d2.F.binds (ps:=["thing"]) fun _ _ _ _ _ _=>us1 fun _=>rfl
 have b3:=d3.F.binds (ps:=["thing"]) fun _ _ _ _ _ _=>us1 fun _=>rfl
 have b4:=d4.F.binds (ps:=["thing"]) fun _ _ _ _ _ _=>us1 fun _=>rfl
 have b5:=d5.F.binds (ps:=["thing"]) fun _ _ _ _ _ _=>us1 fun _=>rfl
 have b6:=d6.F.binds (ps:=["thing"]) fun _ _ _ _ _ _=>us1 fun _=>rfl
 have b7:=d7.F.binds (ps:=["thing"]) fun _ _ _ _ _ _=>us1 fun _=>rfl
 have b8:=d8.F.binds (ps:=["thing"]) fun _ _ _ _ _ _=>us1 fun _=>rfl
 have b9:=d9.F.binds (ps:=["point"]) fun _ _ _ _ _ _=>us1 fun _=>rfl
 have b10:=d10.F.binds (ps:=["thing"]) fun _ _ _ _ _ _=>us1 fun _=>rfl
 have b11:=d11.F.binds (ps:=["thing","bound"]) fun _ _ _ _ _ _=>us2 fun _ _=>rfl
 have b12:=d12.F.binds (ps:=["thing"]) fun _ _ _ _ _ _=>us1 fun _=>rfl
 have b13:=d13.F.binds (ps:=["thing","least"]) fun _ _ _ _ _ _=>us2 fun _ _=>rfl
 have b14:=d14.F.binds (ps:=["sort","thing"]) fun _ _ _ _ _ _=>us2 fun _ _=>rfl
 have b15:=d15.F.binds (ps:=["thing"]) fun _ _ _ _ _ _=>us1 fun _=>rfl
 have b16:=d16.F.binds (ps:=["node"]) fun _ _ _ _ _ _=>us1 fun _=>rfl
 have b17:=d17.F.binds (ps:=["thing"]) fun _ _ _ _ _ _=>us1 fun _=>rfl
 have b18:=d18.F.binds (ps:=["point"]) fun _ _ _ _ _ _=>us1 fun _=>rfl
 have b19:=d19.F.binds (ps:=["whole","parts_of"]) fun _ _ _ _ _ _=>us2 fun _ _=>rfl
 have b20:=d20.F.binds (ps:=["kind"]) fun _ _ _ _ _ _=>us1 fun _=>rfl
 have b21:=d21.F.binds (ps:=["thing"]) fun _ _ _ _ _ _=>us1 fun _=>rfl
 have b22:=d22.F.binds (ps:=["thing"]) fun _ _ _ _ _ _=>us1 fun _=>rfl
 have b23:=d23.F.binds (ps:=["thing"]) fun _ _ _ _ _ _=>us1 fun _=>rfl
 have b24:=d24.F.binds (ps:=["thing"]) fun _ _ _ _ _ _=>us1 fun _=>rfl
 have b25:=d25.F.binds (ps:=["things"]) fun _ _ _ _ _ _=>us1 fun _=>rfl
 have b26:=d26.F.binds (ps:=["length","bound"]) fun _ _ _ _ _ _=>us2 fun _ _=>rfl
 have b27:=d27.F.binds (ps:=["point","fresh","names"]) fun _ _ _ _ _ _=>us3 fun _ _ _=>rfl
 have b28:=d28.F.binds (ps:=["names","params"]) fun _ _ _ _ _ _=>us2 fun _ _=>rfl
 have b29:=d29.F.binds (ps:=["rows"]) fun _ _ _ _ _ _=>us1 fun _=>rfl
 have b30:=d30.F.binds (ps:=["rows"]) fun _ _ _ _ _ _=>us1 fun _=>rfl
 have b31:=d31.F.binds (ps:=["rows"]) fun _ _ _ _ _ _=>us1 fun _=>rfl
 have b32:=d32.F.binds (ps:=["thing"]) fun _ _ _ _ _ _=>us1 fun _=>rfl
 have b33:=d33.F.binds (ps:=["_law_cells","_law_many"]) fun _ _ _ _ _ _=>us2 fun _ _=>rfl
 have b34:=d34.F.binds (ps:=["_law_draws_here"]) fun _ _ _ _ _ _=>us1 fun _=>rfl
 have b35:=d35.F.binds (ps:=["_law_cell"]) fun _ _ _ _ _ _=>us1 fun _=>rfl
 have b36:=d36.F.binds (ps:=["_law_draws_here","_law_names_here"]) fun _ _ _ _ _ _=>us2 fun _ _=>rfl
 have b37:=d37.F.binds (ps:=["_law_draws_here","_law_told","_law_new"]) fun _ _ _ _ _ _=>us3 fun _ _ _=>rfl
 have b38:=d38.F.binds (ps:=["_law_order","_law_draws_here"]) fun _ _ _ _ _ _=>us2 fun _ _=>rfl
 have b39:=d39.F.binds (ps:=["_law_f","_law_draws_here","_law_names_here"]) fun _ _ _ _ _ _=>us3 fun _ _ _=>rfl
 have b40:=d40.F.binds (ps:=["_law_script","_law_names_here"]) fun _ _ _ _ _ _=>us2 fun _ _=>rfl
 have b41:=d41.F.binds (ps:=["_law_thing"]) fun _ _ _ _ _ _=>us1 fun _=>rfl
 have b42:=d42.F.binds (ps:=["_law_which","_law_cell","_law_names_here"]) fun _ _ _ _ _ _=>us3 fun _ _ _=>rfl
 obtain ⟨_,_,kV,doc,pm,an,cdv,ct,_,rfl,_⟩:=id d43.F.ex
 refine ⟨PySem.W.fnOf "law" "law" (bR ju) (bA ju) (ai ju) .none kV doc pm an cdv ct,fun s v=>.of_eq rfl,fun base _ _=>?_⟩
 have hRK:∀ H,SqT K H gR (vK.map V.str):=fun H=>.inr ⟨_,_,_,lR,rfl,rfl,(by show 5<=sizeLine; rw [ψ]; decide),.cons ⟨_,rfl⟩ (.cons ⟨_,rfl⟩ (.cons ⟨_,rfl⟩ (.cons ⟨_,rfl⟩ (.cons ⟨_,rfl⟩ .nil))))⟩
 have D1:=d1.d X G b1 (nB d1.F T (P:=l.prog) (w:=w) (base:=base))
 have D2:=d2.d X G b2 (oV d2.F T (P:=l.prog) (w:=w) (base:=base))
 have D3:=d3.d X G b3 (pN (k:=1) d3.F T (D1.up (by decide)) (D2.up (by decide)))
 have D4:=d4.d X G b4 (kB (k:=2) d4.F T (D3.up (by decide)))
 have D5:=d5.d X G b5 (lM (k:=3) d5.F T (D1.up (by decide)) (D4.up (by decide)))
 have D6:=d6.d X G b6 (om (k:=4) d6.F T (D5.up (by decide)))
 have D7:=d7.d X G b7 (nq d7.F T (P:=l.prog) (w:=w) (base:=base))
 have D8:=d8.d X G b8 (nQ (k:=5) d8.F T (D7.up (by decide)) (D6.up (by decide)))
 have D9:=d9.d X G b9 (pz (P:=l.prog) (w:=w) (base:=base) d9.F T)
 have D10:=d10.d X G b10 (pI (k:=6) d10.F T (D8.up (by decide)) (D9.up (by decide)))
 have D11:=d11.d X G b11 (mI (k:=1) d11.F T (D1.up (by decide)))
 have D13:=d13.d X G b13 (rR d13.F T (P:=l.prog) (w:=w) (base:=base))
 have D12:=d12.d X G b12 (iI (k:=1) d12.F T sS (PySem.W.mg_of X G zS) (PySem.W.mg_of X G zR) hRK (D2.up (by decide)))
 have D14:=d14.d X G b14 (wL (k:=7) d14.F T (PySem.W.mg_of X G zR) hRK (D11.up (by decide)) (D2.up (by decide)) (D6.up (by decide)) (D10.up (by decide)) (D12.up (by decide)) (D13.up (by decide)))
 have D15:=d15.d X G b15 (oJ (k:=8) d15.F T sS (PySem.W.mg_of X G zS) (D7.up (by decide)) (D14.up (by decide)))
 have D16:=d16.d X G b16 (nC d16.F T sS (PySem.W.mg_of X G zS) (P:=l.prog) (w:=w) (base:=base))
 have D17:=d17.d X G b17 (pJ (k:=9) d17.F T (D15.up (by decide)) (D16.up (by decide)))
 have D18:=d18.d X G b18 (lK d18.F T (P:=l.prog) (w:=w) (base:=base))
 have D19:=d19.d X G b19 (oi (k0:=1) d19.F T (kJ (P:=l.prog) (w:=w) (base:=base) d9.F T) d9.F.kp b9)
 have D20:=d20.d X G b20 (km (k0:=2) d20.F T D19 (PySem.W.mg_of X G d9.a))
 have D21:=d21.d X G b21 (kE (k:=1) d21.F T (D13.up (by decide)) (D2.up (by decide)))
 have D22:=d22.d X G b22 (lO (k:=7) d22.F T (D2.up (by decide)) (D10.up (by decide)))
 have D23:=d23.d X G b23 (jc (k:=8) d23.F T (D13.up (by decide)) (D22.up (by decide)))
 have D24:=d24.d X G b24 (rJ (k:=10) d24.F T (D7.up (by decide)) (D17.up (by decide)) (D12.up (by decide)) (D21.up (by decide)) (D23.up (by decide)))
 have D25:=d25.d X G b25 (nJ d25.F T (P:=l.prog) (w:=w) (base:=base))
 have D26:=d26.d X G b26 (pf d26.F T (P:=l.prog) (w:=w) (base:=base))
 have D27:=d27.d X G b27 (lq d27.F T (P:=l.prog) (w:=w) (base:=base))
 have D28:=d28.d X G b28 (kx (k:=3) d28.F T (D20.up (by decide)) (D18.up (by decide)) (D26.up (by decide)) (D27.up (by decide)))
 have FxI:sR K "__init__" "IndexwiseError.__init__" dU fI _ (.ref gI):=⟨⟨_,_,_,_,_,_,_,_,_,rfl,lI,cI⟩⟩
 have BI:=FxI.binds (ps:=["self","place"]) (ds:=[]) lgI rfl fun _ _ _ _ _ _ us hl=>match us,(show us.length=2 by simpa using hl) with | [_,_],_=>⟨_,rfl,rfl⟩
 have FI:aK l.prog w K mg base CX0 1 fI _ ["self","place"] (eT K D fI):=uy FxI T
 have ndA:=ϱ.mp ndC
 have neD:∀ b∈[aNoProgram,aTwice,aNoBind,aNoName,aUnlike,aParts,aTooGreat,aTooLong,aNoValue,aNoWords,aNoLine],b≠D:=fun b hb z=>ndA.1 (z▸hb)
 have CNoProgram:cE K D fI aNoProgram:=⟨⟨_,_,_,_,_,_,_,_,_,_,_,_,_,_,xNoProgram⟩,inNoProgram,tI,saNoProgram,plNoProgram,gaNoProgram,ghNoProgram,clNoProgram,kpNoProgram,neD _ (by simp)⟩
 have CTwice:cE K D fI aTwice:=⟨⟨_,_,_,_,_,_,_,_,_,_,_,_,_,_,xTwice⟩,inTwice,tI,saTwice,plTwice,gaTwice,ghTwice,clTwice,kpTwice,neD _ (by simp)⟩
 have CNoBind:cE K D fI aNoBind:=⟨⟨_,_,_,_,_,_,_,_,_,_,_,_,_,_,xNoBind⟩,inNoBind,tI,saNoBind,plNoBind,gaNoBind,ghNoBind,clNoBind,kpNoBind,neD _ (by simp)⟩
 have Er:yW K mg D fI aNoProgram aTwice aNoBind aNoName aUnlike aParts aTooGreat aTooLong aNoValue aNoWords aNoLine:=⟨⟨_,_,_,_,_,_,_,_,_,_,_,_,_,_,xD⟩,PySem.W.mg_of X G oD,CNoProgram,CTwice,CNoBind,fun b hb=>by
  simp only [θ,ϳ,or_false] at hb
  rcases hb with rfl | rfl | rfl | rfl | rfl | rfl | rfl | rfl
  ·exact ⟨⟨_,_,_,_,_,_,_,_,_,_,_,_,_,_,xNoName⟩,neD _ (by simp)⟩
  ·exact ⟨⟨_,_,_,_,_,_,_,_,_,_,_,_,_,_,xUnlike⟩,neD _ (by simp)⟩
  ·exact ⟨⟨_,_,_,_,_,_,_,_,_,_,_,_,_,_,xParts⟩,neD _ (by simp)⟩
  ·exact ⟨⟨_,_,_,_,_,_,_,_,_,_,_,_,_,_,xTooGreat⟩,neD _ (by simp)⟩
  ·exact ⟨⟨_,_,_,_,_,_,_,_,_,_,_,_,_,_,xTooLong⟩,neD _ (by simp)⟩
  ·exact ⟨⟨_,_,_,_,_,_,_,_,_,_,_,_,_,_,xNoValue⟩,neD _ (by simp)⟩
  ·exact ⟨⟨_,_,_,_,_,_,_,_,_,_,_,_,_,_,xNoWords⟩,neD _ (by simp)⟩
  ·exact ⟨⟨_,_,_,_,_,_,_,_,_,_,_,_,_,_,xNoLine⟩,neD _ (by simp)⟩,PySem.W.mg_of X G oNoProgram,PySem.W.mg_of X G oTwice,PySem.W.mg_of X G oNoBind,PySem.W.mg_of X G oNoName,PySem.W.mg_of X G oUnlike,PySem.W.mg_of X G oParts,PySem.W.mg_of X G oTooGreat,PySem.W.mg_of X G oTooLong,PySem.W.mg_of X G oNoValue,PySem.W.mg_of X G oNoWords,PySem.W.mg_of X G oNoLine,ndA.2⟩
 have D29:=d29.x X G b29 (jm (k:=10) d29.F T CNoProgram (PySem.W.mg_of X G oNoProgram) (FI.mono (by decide)) BI (D24.up (by decide)))
 have D30:=d30.x X G b30 (je (k:=1) d30.F T CTwice (PySem.W.mg_of X G oTwice) (FI.mono (by decide)) BI (D25.up (by decide)))
 have D31:=d31.x X G b31 (ie (k:=3) d31.F T CNoBind (PySem.W.mg_of X G oNoBind) (FI.mono (by decide)) BI (D28.up (by decide)))
 have Fck:=nO (k:=11) d32.F T CNoProgram (PySem.W.mg_of X G oNoProgram) (FI.mono (by decide)) BI (D29.up (by decide)) (D30.up (by decide)) (D31.up (by decide))
 have D41:=d41.d X G b41 (oq (k:=13) d41.F T Er Fck (PySem.W.mg_of X G d32.a) d32.F.kp b32)
 have D33:=d33.d X G b33 (vB d33.F T (P:=l.prog) (w:=w) (base:=base))
 have D34:=d34.d X G b34 (xB d34.F T (P:=l.prog) (w:=w) (base:=base))
 have D35:=d35.d X G b35 (uR d35.F T (P:=l.prog) (w:=w) (base:=base))
 have D36:=d36.d X G b36 (jf (k:=1) d36.F T (D34.up (by decide)))
 have D37:=d37.d X G b37 (yE (k:=1) d37.F T (D34.up (by decide)))
 have D38:=d38.d X G b38 (ik (k:=2) d38.F T (D34.up (by decide)) (D37.up (by decide)))
 have D39:=d39.d X G b39 (yT (k:=3) d39.F T (D34.up (by decide)) (D38.up (by decide)) (D36.up (by decide)))
 have D40:=d40.d X G b40 (oQ (k:=4) d40.F T (D33.up (by decide)) (D34.up (by decide)) (D36.up (by decide)) (D39.up (by decide)))
 have D42:=d42.d X G b42 (vH d42.F T (P:=l.prog) (w:=w) (base:=base))
 exact zL (k0:=14) d43.F T (D33.up (by decide)) (D34.up (by decide)) (D35.up (by decide)) (D40.up (by decide)) (D41.up (by decide)) (D42.up (by decide))
theorem walk {l:PySem.W.OpenLaw} {q:Β} {loose:List Str} {XP:(Str->Option δ)->Heap->Prop} {YP:Ξ->Heap->Prop} {d:DefRec} {K:Params->PySem.W.Frag} (hn:l.most=some 63) (hdf:d.params.defaults=[])
  (hY:∀ (w:Ξ) (h:Heap),YP w h->(K w.params).In h)
  (F:∀ (w:Ξ) (mg:Str->Option δ) (fa:Addr) (h:Heap),(K w.params).In h->h.Ns mainGlobals mg->mg d.name=some (.ref fa) ->
   ∃ fd:Μ,(∀ (s:ι) (u:δ),Ek s fd ⟨[u],[]⟩ [("_law_script",u)])/\∀ base:Heap,(K w.params).In base->base.Ns mainGlobals mg->aK l.prog w (K w.params) mg base CX0 15 fa fd ["_law_script"] (rq (K w.params))) :
  PySem.W.WalkO q loose XP YP l.row.toRowW d [] (fun f vs=>PySem.call f vs):=
 L2.walk_of (n:=63) (k:=15) (x:="_law_script") (CX:=fun _=>CX0) (sp:=fun w=>rq (K w.params)) hn (by decide) hdf ⟨rfl,by decide,by decide⟩ hY F (fun _ _ a ns hl _ hS=>⟨a,ns,rfl,hS,hl,fun _=>rfl⟩) fun _ _ _ _ _ z=>z
end K28
def PySem.W.Fast.tw7658719236314919852:Nat:=0
def PySem.W.Fast.tw10191334229095555325:Nat:=0
def PySem.W.Fast.tw7491116973406975577:Nat:=0
def PySem.W.Fast.tw2732723560542459707:Nat:=0
def PySem.W.Fast.tw11976311470874786002:Nat:=0
def PySem.W.Fast.tw11642933092879896664:Nat:=0
def PySem.W.Fast.tw10413041402455673130:Nat:=0
def PySem.W.Fast.tw9061229666412603966:Nat:=0
def PySem.W.Fast.tw54707467172108582:Nat:=0
def PySem.W.Fast.tw13445373796813994426:Nat:=0
def PySem.W.Fast.tw11538534643877476215:Nat:=0
def PySem.W.Fast.tw17271169839589021375:Nat:=0
def PySem.W.Fast.tw16124231597301783437:Nat:=0
def PySem.W.Fast.tw12992558780099111577:Nat:=0
def PySem.W.Fast.tw310669943517559415:Nat:=0
def PySem.W.Fast.tw16007221391082612475:Nat:=0
def PySem.W.Fast.tw6517797513116919646:Nat:=0
def PySem.W.Fast.tw7362221112203329349:Nat:=0
def PySem.W.Fast.tw5662791466861863325:Nat:=0
def PySem.W.Fast.tw10128036110645252775:Nat:=0
def PySem.W.Fast.tw2164397101232379790:Nat:=0
def PySem.W.Fast.tw3681101787626088224:Nat:=0
def PySem.W.Fast.tw4302326594371880849:Nat:=0
def PySem.W.Fast.tw3237132652249890295:Nat:=0
def PySem.W.Fast.tw17347684914005434188:Nat:=0
def PySem.W.Fast.tw13391247955572883964:Nat:=0
def PySem.W.Fast.tw211146052206621593:Nat:=0
def PySem.W.Fast.tw10582186145618166536:Nat:=0
def PySem.W.Fast.tw16903846801189220832:Nat:=0
def PySem.W.Fast.tw3548974236383214348:Nat:=0
def PySem.W.Fast.tw4737671025132038590:Nat:=0
def PySem.W.Fast.tw1549931913438673527:Nat:=0
def PySem.W.Fast.tw673660160615614224:Nat:=0
def PySem.W.Fast.tw5907991277511833143:Nat:=0
def PySem.W.Fast.tw11213342653202860361:Nat:=0
def PySem.W.Fast.tw8302643101765024839:Nat:=0
def PySem.W.Fast.tw10892020198880198909:Nat:=0
def PySem.W.Fast.tw12866717341722120992:Nat:=0
def PySem.W.Fast.tw3402990683396202545:Nat:=0
def PySem.W.Fast.tw17769878428886789908:Nat:=0
def PySem.W.Fast.tw13370024703083119588:Nat:=0
def PySem.W.Fast.tw1768353766060573384:Nat:=0
def PySem.W.Fast.tw12426694669304213244:Nat:=0
def PySem.W.Fast.tw13989628974853164813:Nat:=0
def PySem.W.Fast.tw7080479145722460338:Nat:=0
def PySem.W.Fast.tw11621333685983082583:Nat:=0
def PySem.W.Fast.tw5803793500465343263:Nat:=0
def PySem.W.Fast.tw15409237127150151919:Nat:=0
def PySem.W.Fast.tw6881611071389491472:Nat:=0
def PySem.W.Fast.tw11251627273644437597:Nat:=0
def PySem.W.Fast.tw7620727428606406938:Nat:=0
def PySem.W.Fast.tw15154568519059174530:Nat:=0
def PySem.W.Fast.tw7795124418663803280:Nat:=0
def PySem.W.Fast.tw4539757306369524059:Nat:=0
def PySem.W.Fast.tw379709460597995403:Nat:=0
def PySem.W.Fast.tw9014722758502659160:Nat:=0
def PySem.W.Fast.tw15343926749532296485:Nat:=0
def PySem.W.Fast.tw5232550497468283282:Nat:=0
def PySem.W.Fast.tw2017837030968607477:Nat:=0
def PySem.W.Fast.tw13238937013980373221:Nat:=0
def PySem.W.Fast.tw1476125605070360646:Nat:=0
def PySem.W.Fast.tw8965771221830425944:Nat:=0
def PySem.W.Fast.tw16266763303095322293:Nat:=0
def PySem.W.Fast.tw3369980626750898591:Nat:=0
open PySem PySem.W PyProof.Rows
set_option maxRecDepth 100000 in
set_option maxHeartbeats 0 in
theorem PySem.Challenge.cw_indexwise_k28_first_of_three_faults_holds : PySem.Challenge.rw_indexwise_k28_first_of_three_faults.Holds := by
 w_on; o_law; k_head; (case hw=>w_witness2)
 k_fill
 refine K28.walk (l := PySem.Challenge.rw_indexwise_k28_first_of_three_faults) rfl rfl (fun w h Y => PySem.W.kIn_of Y) ?F
 case F=>
  intro w mg fa h KX G hmg
  refine' K28.all_mk KX G hmg ?d1 ?d2 ?d3 ?d4 ?d5 ?d6 ?d7 ?d8 ?d9 ?d10 ?d11 ?d12 ?d13 ?d14 ?d15 ?d16 ?d17 ?d18 ?d19 ?d20 ?d21 ?d22 ?d23 ?d24 ?d25 ?d26 ?d27 ?d28 ?d29 ?d30 ?d31 ?d32 ?d33 ?d34 ?d35 ?d36 ?d37 ?d38 ?d39 ?d40 ?d41 ?d42 ?d43 ?z1 ?z2 ?z3 ?z4 ?z5 ?z6 ?z7 ?z8 ?z9 ?z10 ?z11 ?z12 ?z13 ?z14 ?z15 ?z16 ?z17 ?zg0 ?zg1 ?zg2 ?zg3 ?zg4 ?zg5 ?zg6 ?zg7 ?zR ?lR ?zS ?sS ?lI ?cI ?lgI ?tI ?oD ?xD ?oNoProgram ?xNoProgram ?oTwice ?xTwice ?oNoBind ?xNoBind ?oNoName ?xNoName ?oUnlike ?xUnlike ?oParts ?xParts ?oTooGreat ?xTooGreat ?oTooLong ?xTooLong ?oNoValue ?xNoValue ?oNoWords ?xNoWords ?oNoLine ?xNoLine ?inNoProgram ?saNoProgram ?plNoProgram ?gaNoProgram ?ghNoProgram ?clNoProgram ?kpNoProgram ?inTwice ?saTwice ?plTwice ?gaTwice ?ghTwice ?clTwice ?kpTwice ?inNoBind ?saNoBind ?plNoBind ?gaNoBind ?ghNoBind ?clNoBind ?kpNoBind ?ndC
  all_goals try (refine' K28.df_mk ?a ?l ?c ?k; (case a=>k_is); (case l=>k_is); (case c=>k_is); (case k=>k_is))
  (case z1=>k_is); (case z2=>k_is); (case z3=>k_is); (case z4=>k_is); (case z5=>k_is); (case z6=>k_is); (case z7=>k_is); (case z8=>k_is); (case z9=>k_is); (case z10=>k_is); (case z11=>k_is); (case z12=>k_is); (case z13=>k_is); (case z14=>k_is); (case z15=>k_is); (case z16=>k_is); (case z17=>k_is)
  (case zg0=>k_is)
  (case zg1=>k_is)
  (case zg2=>k_is)
  (case zg3=>k_is)
  (case zg4=>k_is)
  (case zg5=>k_is)
  (case zg6=>k_is)
  (case zg7=>k_is)
  (case zR=>k_is)
  (case lR=>k_is)
  (case zS=>k_is)
  (case oD=>k_is)
  (case xD=>k_is)
  (case oNoProgram=>k_is)
  (case xNoProgram=>k_is)
  (case oTwice=>k_is)
  (case xTwice=>k_is)
  (case oNoBind=>k_is)
  (case xNoBind=>k_is)
  (case oNoName=>k_is)
  (case xNoName=>k_is)
  (case oUnlike=>k_is)
  (case xUnlike=>k_is)
  (case oParts=>k_is)
  (case xParts=>k_is)
  (case oTooGreat=>k_is)
  (case xTooGreat=>k_is)
  (case oTooLong=>k_is)
  (case xTooLong=>k_is)
  (case oNoValue=>k_is)
  (case xNoValue=>k_is)
  (case oNoWords=>k_is)
  (case xNoWords=>k_is)
  (case oNoLine=>k_is)
  (case xNoLine=>k_is)
  (case inNoProgram=>k_is)
  (case lI=>k_is)
  (case cI=>k_is)
  (case lgI=>k_is)
  (case tI=>k_is)
  (case saNoProgram=>k_is)
  (case plNoProgram=>k_is)
  (case gaNoProgram=>k_is)
  (case ghNoProgram=>k_is)
  (case clNoProgram=>k_is)
  (case kpNoProgram=>k_is)
  (case inTwice=>k_is)
  (case saTwice=>k_is)
  (case plTwice=>k_is)
  (case gaTwice=>k_is)
  (case ghTwice=>k_is)
  (case clTwice=>k_is)
  (case kpTwice=>k_is)
  (case inNoBind=>k_is)
  (case saNoBind=>k_is)
  (case plNoBind=>k_is)
  (case gaNoBind=>k_is)
  (case ghNoBind=>k_is)
  (case clNoBind=>k_is)
  (case kpNoBind=>k_is)
  (case ndC=>decide)
  case sS=>
   refine' XB.shp_mk ?xShl ?xSlo ?xShe ?xSht
   (case xShl=>k_is)
   (case xSlo=>decide)
   (case xShe=>repeat (first | exact XB.Ents.nil | refine XB.Ents.cons ?_))
   case xSht=>
    refine' (XB.TupsK.cons ?xSa1 ?xSb1 (XB.TupsK.cons ?xSa2 ?xSb2 (XB.TupsK.cons ?xSa3 ?xSb3 (XB.TupsK.cons ?xSa4 ?xSb4 (XB.TupsK.cons ?xSa5 ?xSb5 (XB.TupsK.cons ?xSa6 ?xSb6 (XB.TupsK.cons ?xSa7 ?xSb7 (XB.TupsK.cons ?xSa8 ?xSb8 (XB.TupsK.cons ?xSa9 ?xSb9 (XB.TupsK.cons ?xSa10 ?xSb10 (XB.TupsK.cons ?xSa11 ?xSb11 (XB.TupsK.cons ?xSa12 ?xSb12 (XB.TupsK.cons ?xSa13 ?xSb13 (XB.TupsK.cons ?xSa14 ?xSb14 (XB.TupsK.cons ?xSa15 ?xSb15 (XB.TupsK.cons ?xSa16 ?xSb16 (XB.TupsK.cons ?xSa17 ?xSb17 (XB.TupsK.cons ?xSa18 ?xSb18 (XB.TupsK.cons ?xSa19 ?xSb19 (XB.TupsK.cons ?xSa20 ?xSb20 (XB.TupsK.cons ?xSa21 ?xSb21 (XB.TupsK.cons ?xSa22 ?xSb22 (XB.TupsK.cons ?xSa23 ?xSb23 (XB.TupsK.cons ?xSa24 ?xSb24 (XB.TupsK.cons ?xSa25 ?xSb25 (XB.TupsK.cons ?xSa26 ?xSb26 (XB.TupsK.cons ?xSa27 ?xSb27 XB.TupsK.nil)))))))))))))))))))))))))))
    (case xSa1=>k_is); (case xSb1=>repeat (first | exact XB.AreS.nil | refine XB.AreS.cons ?_))
    (case xSa2=>k_is); (case xSb2=>repeat (first | exact XB.AreS.nil | refine XB.AreS.cons ?_))
    (case xSa3=>k_is); (case xSb3=>repeat (first | exact XB.AreS.nil | refine XB.AreS.cons ?_))
    (case xSa4=>k_is); (case xSb4=>repeat (first | exact XB.AreS.nil | refine XB.AreS.cons ?_))
    (case xSa5=>k_is); (case xSb5=>repeat (first | exact XB.AreS.nil | refine XB.AreS.cons ?_))
    (case xSa6=>k_is); (case xSb6=>repeat (first | exact XB.AreS.nil | refine XB.AreS.cons ?_))
    (case xSa7=>k_is); (case xSb7=>repeat (first | exact XB.AreS.nil | refine XB.AreS.cons ?_))
    (case xSa8=>k_is); (case xSb8=>repeat (first | exact XB.AreS.nil | refine XB.AreS.cons ?_))
    (case xSa9=>k_is); (case xSb9=>repeat (first | exact XB.AreS.nil | refine XB.AreS.cons ?_))
    (case xSa10=>k_is); (case xSb10=>repeat (first | exact XB.AreS.nil | refine XB.AreS.cons ?_))
    (case xSa11=>k_is); (case xSb11=>repeat (first | exact XB.AreS.nil | refine XB.AreS.cons ?_))
    (case xSa12=>k_is); (case xSb12=>repeat (first | exact XB.AreS.nil | refine XB.AreS.cons ?_))
    (case xSa13=>k_is); (case xSb13=>repeat (first | exact XB.AreS.nil | refine XB.AreS.cons ?_))
    (case xSa14=>k_is); (case xSb14=>repeat (first | exact XB.AreS.nil | refine XB.AreS.cons ?_))
    (case xSa15=>k_is); (case xSb15=>repeat (first | exact XB.AreS.nil | refine XB.AreS.cons ?_))
    (case xSa16=>k_is); (case xSb16=>repeat (first | exact XB.AreS.nil | refine XB.AreS.cons ?_))
    (case xSa17=>k_is); (case xSb17=>repeat (first | exact XB.AreS.nil | refine XB.AreS.cons ?_))
    (case xSa18=>k_is); (case xSb18=>repeat (first | exact XB.AreS.nil | refine XB.AreS.cons ?_))
    (case xSa19=>k_is); (case xSb19=>repeat (first | exact XB.AreS.nil | refine XB.AreS.cons ?_))
    (case xSa20=>k_is); (case xSb20=>repeat (first | exact XB.AreS.nil | refine XB.AreS.cons ?_))
    (case xSa21=>k_is); (case xSb21=>repeat (first | exact XB.AreS.nil | refine XB.AreS.cons ?_))
    (case xSa22=>k_is); (case xSb22=>repeat (first | exact XB.AreS.nil | refine XB.AreS.cons ?_))
    (case xSa23=>k_is); (case xSb23=>repeat (first | exact XB.AreS.nil | refine XB.AreS.cons ?_))
    (case xSa24=>k_is); (case xSb24=>repeat (first | exact XB.AreS.nil | refine XB.AreS.cons ?_))
    (case xSa25=>k_is); (case xSb25=>repeat (first | exact XB.AreS.nil | refine XB.AreS.cons ?_))
    (case xSa26=>k_is); (case xSb26=>repeat (first | exact XB.AreS.nil | refine XB.AreS.cons ?_))
    (case xSa27=>k_is); (case xSb27=>repeat (first | exact XB.AreS.nil | refine XB.AreS.cons ?_))
