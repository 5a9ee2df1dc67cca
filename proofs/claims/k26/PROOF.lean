import PyProof.Rows.All
import Wide.All
import OpenK.AllK
import Wide.FinOn
import Lean
import PyProof.EqAt
import PyProof.EqKinds
import PyProof.TupleCall
import PySem.Challenge.RW_indexwise_k26_told_twice
set_option Elab.async false
set_option linter.all false
set_option maxRecDepth 100000
set_option maxHeartbeats 3200000
local macro_rules | `(tactic| trivial) => `(tactic| first | exact .inl rfl | exact .inr (.inl rfl) | exact .inr (.inr rfl) | exact .inr rfl | assumption | exact True.intro | exact ⟨rfl,rfl,rfl,by decide +kernel,rfl,by decide +kernel,by decide +kernel⟩)
local macro_rules | `(∅) => `(by first | omega | decide +kernel | trivial | (intro _; rfl) | simp)
open Array renaming length_toList→ϗ,perm_iff_toList_perm→p_,getElem?_eq_some_iff→A4,getD_eq_getD_getElem?→Cn,getElem?_eq_none→Dc,getElem?_toList→Dh,getD→Eg,toList_push→EC,size_append→EF
open Bool renaming and_eq_true→Ε,false_ne_true→Θ,true_and→Ϧ,false_and→i6,eq_iff_iff→s_,false_eq_true→y_,false_or→BR,eq_false_iff→Cp,or_eq_true→DH,and_false→Ee,or_false→EJ
open Classical renaming byContradiction→A9
open False renaming elim→k8
open ForInStep renaming yield→Ce
open Int renaming toNat_natCast→ϭ,fdiv_eq_ediv_of_nonneg→Cr,emod_lt_of_pos→En,emod_nonneg→E_
open List renaming length_map→ε,mem_singleton→θ,mem_cons→ν,getElem?_eq_some_iff→ο,mem_cons_of_mem→ρ,size_toArray→ς,length_append→ψ,map_append→ω,replicate→Α,mem_cons_self→Δ,getElem?_eq_getElem→Ζ,mem_map→Κ,mem_of_getElem?→Λ,map_cons→Υ,range→Φ,getElem?_map→Ψ,length_take→ϊ,length_cons→ό,mem_append→ϒ,map_map→ϓ,mem_append_right→ϝ,take_add_one→ϣ,take_length→Ϥ,length_singleton→ϧ,mem_map_of_mem→ϯ,map_nil→ϰ,length_reverse→ϲ,all_eq_true→ϵ,not_mem_nil→Ϸ,mem_range→ϸ,getElem?_eq_none→b_,flatMap_append→c6,length_drop→c_,lookup_cons→d_,eq_nil_of_length_eq_zero→f_,mem_filter→i3,nodup_cons→j4,find?_cons→j6,getElem_mem→j9,any_eq_true→j_,replicate_succ→k9,append_nil→m5,mem_append_left→m9,mem_of_mem_take→n_,filterMap_cons→r6,getElem_of_mem→r9,drop_eq_getElem_cons→u7,length_replicate→u8,getD→u9,length_nil→u_,getElem?_append_right→y9,sum_append→BM,getElem?_set_ne→BN,dropLast_concat→BP,getElem_inj→B4,getElem?_set_self→B8,take_of_length_le→Cb,length_set→Cd,getElem?_reverse→Ci,flatten_cons→Ck,append_assoc→Cm,nodup_iff_pairwise_ne→CB,cons_append→CD,all_map→CG,map_congr_left→CJ,any_cons→CM,eq_of_mem_replicate→CO,map_take→CP,nil_append→CQ,range_succ→CS,mem_filterMap→CT,pairwise_singleton→CY,any_eq_false→C3,ext_getElem?→C8,nodup_append→Da,flatMap_cons→De,take_append_drop→Dl,map_reverse→Dw,sum_cons→DC,mem_of_mem_drop→DE,getElem?_range→DQ,length_pos_iff→DR,find?_eq_none→Eh,length_eraseIdx_of_lt→Ei,contains_cons→Ep,getElem?_append_left→Et,mem_or_eq_of_mem_set→Ev,reverse_cons→Ez,lookup→EA,pairwise_map→EB,length_range→ED,Pairwise→EK,drop_length→ET,foldl→EV,map_set→E1,of_mem_zip→E3,forIn_cons→E6,map→Fd,Perm→Fm
open List.Perm renaming mem_iff→C7,refl→C_
open Nat renaming le_refl→π,ne_of_lt→Ρ,zero_le→Ω,le_of_ble_eq_true→ϑ,lt_of_lt_of_le→ϔ,le_trans→ϟ,ne_of_gt→j7,le_add_right→j8,lt_succ_of_lt→k_,le_succ→t_,le_of_lt→x5,lt_irrefl→y6,lt_succ_self→y8,not_lt_zero→BJ,lt_of_le_of_lt→B_,min_eq_left→Cg,lt_trichotomy→Dg,min_eq_right→ES,not_lt→EW
open Ne renaming symm→ώ
open Option renaming map_eq_some_iff→k4,isSome_map→Cj
open Option.some renaming inj→Ϝ
open Or renaming inl→Ι,inr→Ef
open PyProof.Rows renaming callWith_type1→a9,slot_tuple_getitem→a_,envOfC→x4,entry_list_sort→Cf,slot_list_sort→Cw,args_list_sort→Cy,AllBare→DS,call_isinstance_of→Es,get?_update_seq→E7,Subscript_→Fq,IsTup→Fy
open PyProof.Rows.F renaming plain_set_update_loop→CZ
open PyProof.Rows.IsTup renaming new→EN
open PySem renaming wpAny_bind→γ,Value→δ,Shared→ζ,wpAny_pure→μ,sizeLine_eq→υ,Program→Β,FuncData→Μ,World→Ν,wpAny_loadPart_at→Ξ,Around→Χ,wpAny_newObj_type→Ϗ,wpAny_call_entry→ϙ,Builtin→Ϡ,wpAny_callSpecial?_slot→ϥ,wpAny_field→ϱ,wpAny_isSubtype_exc→ϳ,wpAny_mono→Ϻ,wpAny_holding→ϻ,strKind→a7,codeAny_builtin→c9,wpAny_truthy_bool→e_,wpAny_setField_rec→h_,wpAny_seqItems→i8,wpAny_Call_Name_kw→m8,codeAny_call_builtin→n5,SetTable→q_,wpAny_ite_split→u6,call_meets→v_,wpAny_rule→w_,codeAny_mono→x9,wpAny_setField→A2,wpAny_binaryOp_repeat_ref→A8,wpAny_passesOwn→A_,wpAny_updateSeq→BL,wpAny_setState_of→BO,plainId_quiet→BS,IsPair→BW,mem_of_lookup→B0,wpAny_setEntries_of→B3,wpAny_getItem_str_slice→B5,wpAny_askSetting→B7,wpAny_typeOf→B9,wpAny_execs_nil→Cc,wpAny_attempt→Ch,GenState→Cq,NameKind→Cs,typeIs_int→Cv,wpAny_isInstance→CF,wpAny_pyIter_tuple→CU,Scope→C1,wpAny_pyIter_list→C2,wpAny_runValue→Db,builtinLookup_eq_fast→Di,DictEntry→Dm,wpAny_call→Do,wpAny_standAt→Dx,wpAny_newList→Dy,wpAny_onRaise→Dz,wpAny_updateSeq_pair→DD,wpAny_specialOf→DF,post_val_or_str→DI,codeAny_of_tree→DJ,length_le_of_nodup_of_subset→DN,ExcBaseFacts→DV,Drawn→DY,Result→Ea,tupleKind_room_in1→Eb,wpAny_fieldsOf→Ej,IsZip→El,slot_list_getitem→Ey,ExcAttrBase→EH,wpAny_execs_cons→EL,noFill_tuple_add→EM,OsState→EZ,typeLookup_type→E9,Model→Fa,wpAny_newTuple→Fc,wpAny_of_eq→Fe,isSubtype_type→Ff,isSubtype_stop→Fg,wpAny_letGo→Fh,ZipApart→Fi,wpAny_loadPart→Fj,BindsTo→Fl,wpAny_load→Fp,IsPart→Fs,Walks→Ft
open PySem.Around renaming under_plainId→m_
open PySem.AutoSeq1 renaming wpAny_loadPart'→a8,sub_tuple_tuple→BX,idx_int→Dt
open PySem.Builtin.Frozenset renaming updateFrom→DK
open PySem.Builtin.List renaming listExtendWith→ϩ,listTooLong→l8,listLengthHint→x_,listSameRef→BU
open PySem.Builtin.ObjectAttr renaming storeInDict→Du
open PySem.Builtin.Range renaming rangeSize→ϖ
open PySem.Builtin.Slice renaming slicePlaces→A7,sliceApplied→Cu,sliceAdjust→CH
open PySem.Builtin.SmallTypes renaming nextOf→ϴ,ownedTupleIsFree→l_,ownedTupleHandOut→CK
open PySem.Builtin.Tuple renaming tupleExact→Ϟ,tupleTooMany→CA,tupleItemsOf→Ec,tupleIsExact→Ek
open PySem.Calls renaming call_function_entry→CI,callWith_builtin→C5,Name_function_global→DZ,spliced_cons→D_,spliced_nil→Ex
open PySem.Code renaming quiet_builtin→z_
open PySem.Data renaming cell→Fk
open PySem.F renaming plainAttrs_list→Ο,called_set→ϛ,slot_list_append→ϫ,type_list_append→Ϭ,plain_extend_loop→g_,slot_int_rmul→w9,slot_tuple_iterator_next→A3,slot_list_pop→A5,type_list_pop→A6,slot_list_extend→BY,type_list_extend→BZ,args_tuple_add_2→CN,entry_tuple_add→CW,slot_tuple_add→C4,args_int_rmul_2→C6,typeOf_object_class→Dk,slot_int_index→Dp,entry_int_rmul→Dq,fills_int_mul→DG,args_tuple_iterator_next_1→DL,slot_zip_next→DM,slot_enumerate_iter→DT,entry_tuple_iterator_next→DU,args_tuple_mul_2→Em,entry_extend_loop→Eu,entry_tuple_mul→EG,slot_tuple_mul→ER
open PySem.Heap renaming get?_push_of_some→η,get?_push_size→τ,lt_size→χ,get?_update_other→ύ,get?_update_self→Ϛ,size_push→Ϩ,get?_none_of_le→Ϲ,SameBut→x6,get?_push_ne→Co,size_update→Ds,get?_update_ne→DP
open PySem.Heap.SameBut renaming update→r_
open PySem.NameKind renaming free→ϐ,cell→o0
open PySem.Obj renaming mapSeq→i5,data_mapFields→Ca,isFreed_of_fields→Dj,mapFields→DB,putSet→EY
open PySem.PassesOwn renaming never→Ϯ,leaving→EI
open PySem.SeqAt renaming EqAt→Ϣ,RcNeAt→Fx
open PySem.SeqAt.EqAt renaming int_str→DW,str_int→DX,str_str→Ed,same→E4
open PySem.SeqAt.RcNeAt renaming lists_lengths→Eo
open PySem.SetTable renaming grown→B6,below→Cz
open PySem.SetTable.below renaming go→Dd
open PySem.Str renaming ofString→ξ
open PySem.Value renaming ref→Η,none→Ϫ,str→i4,type→k7,builtin→y7,int→CC,isStrOf_shape→DO,bool→Fn
open PySem.Value.type renaming inj→i9
open PySem.W renaming Frag→ι,nsIn→Τ,mg_of→ϋ,mg_none_of→Ϙ,findIn→ϡ,kitOne→i7,kia_one→i_,keepIn→l7,fnOf→o_,codeIn→Ct,callWith_K→CV,kitCls→C9,methodObj→Ew,kas_tail3→EO,kas_place→EQ,instObj→E2,OpenLaw→E5,Looks→E8,lookIn→Fb,kas_rev→Fv,kas_bin→Fw
open PySem.W.KT renaming app_list→CL
open PySem.W.KasT renaming kasWp_bind→m6,ret→Fu
open Sum renaming inr→ϕ,inl→EU
open True renaming intro→BQ
namespace L2
open PySem PySem.Spec PyProof.Rows
abbrev Key:=Sum Int Str
def jy:Key->δ->Bool
 | .inl k,v=>δ.isInt k v
 | .inr x,v=>δ.isStrOf x v
def Bf (w:Ν):Key->Int
 | .inl k=>hashInt k
 | .inr x=>hashStr w x
theorem aQ:∀ {k:Key} {v:δ},jy k v=true->(∃ i t,k=EU i/\v=CC i t)\/(∃ x t,k=ϕ x/\v=i4 x t)
 | .inl i,v,h=>by
  obtain ⟨t,e⟩:=δ.isInt_shape (k:=i) (v:=v) h
  exact .inl ⟨i,t,rfl,e⟩
 | .inr x,v,h=>by
  obtain ⟨t,e⟩:=DO (x:=x) (v:=v) h
  exact .inr ⟨x,t,rfl,e⟩
theorem rT (i:Int) (t:Tok):jy (.inl i) (.int i t)=true:=by simp [jy,δ.isInt]
theorem sM (x:Str) (t:Tok):jy (.inr x) (.str x t)=true:=by simp [jy,δ.isStrOf]
theorem yJ (a b:Int):decide ((EU a:Key)=EU b)=(a == b):=by
 by_cases e:a=b
 ·subst e; simp
 ·have h:¬ (EU a:Key)=EU b:=λq=>e (EU.inj q)
  rw [decide_eq_false h]
  exact (beq_eq_false_iff_ne.mpr e).symm
theorem yU (a b:Str):decide ((ϕ a:Key)=ϕ b)=decide (a=b):=by
 by_cases e:a=b
 ·subst e; simp
 ·have h:¬ (ϕ a:Key)=ϕ b:=λq=>e (ϕ.inj q)
  rw [decide_eq_false h,decide_eq_false e]
theorem yx (a:Int) (b:Str):decide ((EU a:Key)=ϕ b)=false:=decide_eq_false (λq=>nomatch q)
theorem yz (a:Str) (b:Int):decide ((ϕ a:Key)=EU b)=false:=decide_eq_false (λq=>nomatch q)
def aK (prog:Β) (w:Ν):PySem.KeyKind prog w Key where
 is:=jy
 hash:=Bf w
 inj:=λv a b ha hb=>by
  rcases aQ ha with ⟨i,t,rfl,rfl⟩ | ⟨x,t,rfl,rfl⟩
  ·rcases aQ hb with ⟨j,u,rfl,e⟩ | ⟨y,u,rfl,e⟩
   ·injection e with e1 _; rw [e1]
   ·exact nomatch e
  ·rcases aQ hb with ⟨j,u,rfl,e⟩ | ⟨y,u,rfl,e⟩
   ·exact nomatch e
   ·injection e with e1 _; rw [e1]
 byValue:=λk v h=>by
   rcases aQ h with ⟨i,t,rfl,rfl⟩ | ⟨x,t,rfl,rfl⟩ <;> rfl
 pyHash:=λhv h=>by
  rcases aQ hv with ⟨i,t,rfl,rfl⟩ | ⟨x,t,rfl,rfl⟩
  ·exact wpAny_pyHash_int h
  ·exact wpAny_pyHash_str h
 eqBool:=λhu hv h=>by
  rcases aQ hu with ⟨i,t,rfl,rfl⟩ | ⟨x,t,rfl,rfl⟩
  ·rcases aQ hv with ⟨j,u,rfl,rfl⟩ | ⟨y,u,rfl,rfl⟩
   ·rw [yJ] at h; exact wpAny_eqBool_int h
   ·rw [yx] at h; exact DW i t y u _ _ _ _ h
  ·rcases aQ hv with ⟨j,u,rfl,rfl⟩ | ⟨y,u,rfl,rfl⟩
   ·rw [yz] at h; exact DX x t j u _ _ _ _ h
   ·rw [yU] at h; exact wpAny_eqBool_str h
 «strs»:=λk x t v h=>by
  rcases aQ h with ⟨i,u,rfl,e⟩ | ⟨y,u,rfl,e⟩
  ·exact nomatch e
  ·injection e with e1 _
   subst e1
   cases v <;> rfl
theorem lN (prog:Β) (w:Ν) (i:Int) (t:Tok):(aK prog w).is (.inl i) (.int i t)=true:=rT i t
theorem dL (prog:Β) (w:Ν) (x:Str) (t:Tok):(aK prog w).is (.inr x) (.str x t)=true:=sM x t
inductive V where
 | non | bl (b:Bool) | int (i:Int) | str (x:Str) | byt (b:Array UInt8) | flt (b:UInt64) | ref (a:Addr) | ty (n:String)
 deriving DecidableEq
def aw:V->δ->Prop
 | .non,u=>u=Ϫ
 | .bl b,u=>u=Fn b
 | .int i,u=>∃ t,u=CC i t
 | .str x,u=>∃ t,u=i4 x t
 | .byt b,u=>∃ t,u=δ.bytes b t
 | .flt b,u=>∃ t,u=δ.float b t
 | .ref a,u=>u=Η a
 | .ty n,u=>u=k7 n
abbrev ar:List V->List δ->Prop:=Paired aw
theorem ar.length {xs:List V} {us:List δ} (r:ar xs us):xs.length=us.length:=Paired.length r
theorem ar.get:∀ {xs:List V} {us:List δ} {i:Nat} {x:V},ar xs us->xs[i]?=some x->∃ u,us[i]?=some u/\aw x u
 | _,_,_,_,.nil,e=>by simp at e
 | _,_,0,_,.cons r _,e=>by simp at e; subst e; exact ⟨_,rfl,r⟩
 | _,_,i + 1,x,.cons _ t,e=>by
  obtain ⟨u,h1,h2⟩:=ar.get (i:=i) (x:=x) t (by simpa using e)
  exact ⟨u,by simpa using h1,h2⟩
theorem ar.set {x:V} {u:δ} (r:aw x u):∀ {xs:List V} {us:List δ} (i:Nat),ar xs us->ar (xs.set i x) (us.set i u)
 | _,_,_,.nil=>.nil
 | _,_,0,.cons _ t=>.cons r t
 | _,_,i + 1,.cons q t=>.cons q (ar.set r i t)
theorem ar.append:∀ {xs ys:List V} {us ws:List δ},ar xs us->ar ys ws->ar (xs ++ ys) (us ++ ws)
 | _,_,_,_,.nil,s=>s
 | _,_,_,_,.cons r t,s=>.cons r (ar.append t s)
theorem ar.take:∀ {xs:List V} {us:List δ} (n:Nat),ar xs us->ar (xs.take n) (us.take n)
 | _,_,0,_=>.nil
 | _,_,_ + 1,.nil=>.nil
 | _,_,n + 1,.cons r t=>.cons r (ar.take n t)
theorem ar.drop:∀ {xs:List V} {us:List δ} (n:Nat),ar xs us->ar (xs.drop n) (us.drop n)
 | _,_,0,r=>r
 | _,_,_ + 1,.nil=>.nil
 | _,_,n + 1,.cons _ t=>ar.drop n t
def oi:Option V->Option δ->Prop
 | some v,some u=>aw v u
 | none,none=>True
 | _,_=>False
def KV {κ:Type}:List (κ×V)->List (κ×δ)->Prop:=Paired λ(p:κ×V) (q:κ×δ)=>p.1=q.1/\aw p.2 q.2
def kV:Key->V
 | .inl i=>.int i
 | .inr x=>.str x
inductive HO where
 /-- a list -/
 | lst (xs:List V)
 /-- a tuple (never changes) -/
 | tup (xs:List V)
 /-- a dict whose keys are ints and texts; one whose keys are tuples of ints and texts (the empty one is both) -/
 | dK (kvs:List (Key×V)) | dT (kvs:List (List Key×V))
 /-- a set of ints: its members,its size -/
 | set (S:Int->Bool) (n:Nat)
 /-- an instance of the class at C,its dict at dx,its attributes -/
 | ins (C dx:Addr) (fs:List (Str×V))
 /-- the dict of the instance at x -/
 | own (x:Addr)
 /-- the dict of an exception -/
 | xd (fs:List (Str×V))
 /-- a bound method,f of x -/
 | met (f x:Addr)
 /-- a range object lo,lo + 1,.. below hi -/
 | rng (lo hi:Int)
 /-- a thing that is known to the object (the script; a dict while a loop walks it): read,never written while it is so -/
 | frz (o:Obj) (u:HO)
 /-- a code object's table -/
 | tbl (ps:Array δ)
 /-- any other thing,by what is true of its one object (a def of one's own: SetO a S n:=HO.ext λh=>..) -/
 | ext (φ:Heap->Prop)
abbrev Hp:=Addr->Option HO
def upd (H:Hp) (a:Addr) (o:HO):Hp:=λb=>if b=a then some o else H b
theorem aa {H:Hp} {a:Addr} {o:HO}:upd H a o a=some o:=by unfold upd; rw [if_pos rfl]
theorem ah {H:Hp} {a b:Addr} {o:HO} (h:b≠a):upd H a o b=H b:=by unfold upd; rw [if_neg h]
theorem qg {H:Hp} {a:Addr} {o u:HO}:upd (upd H a o) a u=upd H a u:=by
 funext b; unfold upd; split <;> rfl
theorem zT {H:Hp} {a b:Addr} {o u:HO} (h:H a=some o) (h':H b=some u) (d:o≠u):a≠b:=by
 intro e; subst e; rw [h] at h'; exact d (Ϝ h')
theorem ag {H:Hp} {a b:Addr} {o:HO} (h:H a=some o) (h':H b=none):a≠b:=by
 intro e; subst e; rw [h] at h'; cases h'
def NoD (h:Heap) (a:Addr):Prop:=∃ o,h.get? a=some o/\o.dict=none
theorem NoD.new (h:Heap) {o:Obj} (e:o.dict=none) (f:o.isFreed=false:=by rfl):NoD (h.push o) h.objs.size:=⟨_,τ _ f,e⟩
section
variable (P:Β) (w:Ν)
def aI (H:Hp) (h:Heap) (a:Addr):HO->Prop
 | .lst xs=>xs.length<=sizeLine/\∃ (its:List δ) (n:Nat),ar xs its/\h.get? a=some { cls:=.type "list",data:=.seq its.toArray n }
 | .tup xs=>xs.length<=sizeLine/\∃ its:List δ,ar xs its/\Fy h a its.toArray/\NoD h a
 | .dK kvs=>kvs.length<=sizeLine/\(a == sysModules)=false/\∃ vs,KV kvs vs/\h.DictOf (aK P w) a vs
 | .dT kvs=>kvs.length<=sizeLine/\(a == sysModules)=false/\∃ xs:List (List Key×Addr×δ),
   Paired (λ(p:List Key×V) (q:List Key×Addr×δ)=>p.1=q.1/\H q.2.1=some (.tup (p.1.map kV))/\aw p.2 q.2.2) kvs xs /\
   ∃ o es ep,h.get? a=some o/\o.ExactDict/\o.data=.dict es ep/\es.toList=xs.map (entryOfKey (tupleKind (aK P w)))/\(xs.map (·.1)).Nodup
 | .set S n=>h.SetOf (intKind P w) a S n
 | .ins C dx fs=>H dx=some (.own a)/\fs.length<=1000/\dx≠a/\h.get? a=some (E2 C dx) /\
   ∃ mA,h.Ns1 dx mA/\(∀ f,oi (fs.lookup f) (mA f))/\PySem.Within mA (fs.map (·.1))
 | .own _=>∃ o,h.get? a=some o
 | .xd fs=>∃ mA,h.Ns1 a mA/\∀ f,oi (fs.lookup f) (mA f)
 | .rng lo hi=>∃ t u v,h.get? a=some { cls:=.type "range",data:=.fields #[.int lo t,.int hi u,.int 1 v] }
 | .frz o u=>h.get? a=some o/\aI H h a u
 | .tbl ps=>h.get? a=some { cls:=.none,data:=.fields ps }
 | .met f x=>h.get? a=some (Ew (.ref f) (.ref x))
 | .ext φ=>φ h/\(∃ o,h.get? a=some o)/\∀ h1 h2:Heap,φ h1->(∀ o,h1.get? a=some o->h2.get? a=some o)->φ h2
def HOk (H:Hp) (h:Heap):Prop:=∀ a o,H a=some o->aI P w H h a o
end
section
variable {P:Β} {w:Ν} {H H':Hp} {h h':Heap} {a:Addr} {o:HO}
theorem aI.lt (x:aI P w H h a o):a < h.objs.size:=by
 cases o with
 | lst xs=>obtain ⟨_,_,_,_,e⟩:=x; exact χ e
 | tup xs=>obtain ⟨_,_,_,p⟩:=x; exact p.1.lt
 | dK kvs=>obtain ⟨_,_,_,_,o,_,_,e,_⟩:=x; exact χ e
 | dT kvs=>obtain ⟨_,_,_,_,o,_,_,e,_⟩:=x; exact χ e
 | set S n=>obtain ⟨o,_,_,_,e,_⟩:=x; exact χ e
 | ins C dx fs=>obtain ⟨_,_,_,e,_⟩:=x; exact χ e
 | own y=>obtain ⟨_,e⟩:=x; exact χ e
 | xd fs=>obtain ⟨_,⟨_,_,_,e,_⟩,_⟩:=x; exact χ e
 | rng lo hi=>obtain ⟨_,_,_,e⟩:=x; exact χ e
 | frz ob u=>obtain ⟨e,_⟩:=x; exact χ e
 | tbl ps=>exact χ (show h.get? a=some _ from x)
 | met f y=>exact χ (show h.get? a=some _ from x)
 | ext φ=>obtain ⟨_,⟨_,e⟩,_⟩:=x; exact χ e
theorem Paired.mapP {α β:Type} {F G:α->β->Prop}:∀ {l₁:List α} {l₂:List β},Paired F l₁ l₂->(∀ a b,F a b->G a b)->Paired G l₁ l₂
 | _,_,.nil,_=>.nil
 | _,_,.cons r t,f=>.cons (f _ _ r) (Paired.mapP t f)
theorem aI.stay (x:aI P w H h a o) (k:∀ b u,(b=a\/H b=some (.own a))->h.get? b=some u->h'.get? b=some u)
  (ho:∀ b,H b=some (.own a)->H' b=some (.own a)) (ht:∀ b xs,H b=some (.tup xs)->H' b=some (.tup xs)):aI P w H' h' a o:=by
 induction o with
 | lst xs=>obtain ⟨z,its,n,r,e⟩:=x; exact ⟨z,its,n,r,k _ _ (.inl rfl) e⟩
 | tup xs=>obtain ⟨z,its,r,⟨ob,e,c⟩,od,e2,c2⟩:=x; exact ⟨z,its,r,⟨ob,k _ _ (.inl rfl) e,c⟩,od,k _ _ (.inl rfl) e2,c2⟩
 | dK kvs=>obtain ⟨z,y,vs,r,ob,es,ep,e,c⟩:=x; exact ⟨z,y,vs,r,ob,es,ep,k _ _ (.inl rfl) e,c⟩
 | dT kvs=>
  obtain ⟨z,y,xs,r,ob,es,ep,e,c⟩:=x
  exact ⟨z,y,xs,Paired.mapP r λp q z=>⟨z.1,ht _ _ z.2.1,z.2.2⟩,ob,es,ep,k _ _ (.inl rfl) e,c⟩
 | set S n=>obtain ⟨ob,es,ep,t,e,c⟩:=x; exact ⟨ob,es,ep,t,k _ _ (.inl rfl) e,c⟩
 | ins C dx fs=>
  obtain ⟨d,z,ne,e,mA,⟨od,es,ep,e2,c⟩,r⟩:=x
  exact ⟨ho _ d,z,ne,k _ _ (.inl rfl) e,mA,⟨od,es,ep,k _ _ (.inr d) e2,c⟩,r⟩
 | own y=>obtain ⟨ob,e⟩:=x; exact ⟨ob,k _ _ (.inl rfl) e⟩
 | xd fs=>obtain ⟨mA,⟨od,es,ep,e,c⟩,r⟩:=x; exact ⟨mA,⟨od,es,ep,k _ _ (.inl rfl) e,c⟩,r⟩
 | rng lo hi=>obtain ⟨t,u,v,e⟩:=x; exact ⟨t,u,v,k _ _ (.inl rfl) e⟩
 | frz ob u ih=>obtain ⟨e,q⟩:=x; exact ⟨k _ _ (.inl rfl) e,ih q⟩
 | tbl ps=>
  have e:h.get? a=some { cls:=.none,data:=.fields ps }:=x
  show h'.get? a=some { cls:=.none,data:=.fields ps }
  exact k a _ (.inl rfl) e
 | met f y=>
  have e:h.get? a=some (Ew (.ref f) (.ref y)):=x
  show h'.get? a=some (Ew (.ref f) (.ref y))
  exact k a _ (.inl rfl) e
 | ext φ=>obtain ⟨p,⟨o,e⟩,st⟩:=x; exact ⟨st _ _ p λo q=>k _ _ (.inl rfl) q,⟨o,k _ _ (.inl rfl) e⟩,st⟩
theorem HOk.lt (x:HOk P w H h) (e:H a=some o):a < h.objs.size:=(x a o e).lt
theorem HOk.fresh (x:HOk P w H h) (e:h.objs.size<=a):H a=none:=by
 cases q:H a with
 | none=>rfl
 | some u=>exact absurd (ϔ (x.lt q) e) (y6 _)
theorem HOk.kept (x:HOk P w H h) (k:∀ b u,h.get? b=some u->h'.get? b=some u):HOk P w H h':=λa o e=>
 (x a o e).stay (λb u _ q=>k b u q) (λ_ q=>q) λ_ _ q=>q
theorem HOk.laid (x:HOk P w H h) (k:∀ b u,h.get? b=some u->h'.get? b=some u) (hp:h.objs.size<=a) (new:aI P w (upd H a o) h' a o):HOk P w (upd H a o) h':=λb u e=>by
 have hn:=x.fresh hp
 by_cases hb:b=a
 ·subst hb; rw [aa] at e; cases e; exact new
 ·rw [ah hb] at e
  exact (x b u e).stay (λc v _ q=>k c v q) (λc q=>by rw [ah (ag q hn)]; exact q) λc xs q=>by rw [ah (ag q hn)]; exact q
end
def Rd (H:Hp) (a:Addr) (u:HO):Prop:=H a=some u\/∃ o,H a=some (.frz o u)
theorem Rd.ok {P:Β} {w:Ν} {H:Hp} {h:Heap} {a:Addr} {u:HO} (r:Rd H a u) (x:HOk P w H h):aI P w H h a u:=by
 rcases r with r | ⟨o,r⟩
 ·exact x a u r
 ·obtain ⟨_,q⟩:=x a _ r
  exact q
def Mut:Option HO->Prop
 | some (.lst _)=>True
 | some (.dK _)=>True
 | some (.dT _)=>True
 | some (.set _ _)=>True
 | some (.ins _ _ _)=>True
 | some (.ext _)=>True
 | _=>False
section
variable {P:Β} {w:Ν} {H:Hp} {h h':Heap} {x e:Addr} {o':HO}
theorem HOk.write (ok:HOk P w H h) (mu:Mut (H x)) (he:e=x\/H e=some (.own x)) (k:∀ b u,b≠e->h.get? b=some u->h'.get? b=some u) (heo:∃ u,h'.get? e=some u)
  (new:aI P w (upd H x o') h' x o'):HOk P w (upd H x o') h':=λb u q=>by
 have nown:∀ c y,H c=some (.own y)->c≠x:=λc y r z=>by subst z; rw [r] at mu; exact mu
 have ntup:∀ c xs,H c=some (.tup xs)->c≠x:=λc xs r z=>by subst z; rw [r] at mu; exact mu
 by_cases hb:b=x
 ·subst hb; rw [aa] at q; cases q; exact new
 ·rw [ah hb] at q
  by_cases hbe:b=e
  ·have q':H b=some (.own x):=by
    rcases he with z | z
    ·exact absurd (hbe.trans z) hb
    ·rw [hbe]; exact z
   rw [q] at q'; cases q'
   obtain ⟨v,hv⟩:=heo
   exact ⟨v,by rw [hbe]; exact hv⟩
  ·refine (ok b u q).stay (λc v hc r=>k c v ?_ r) (λc r=>by rw [ah (nown c b r)]; exact r) λc xs r=>by rw [ah (ntup c xs r)]; exact r
   rcases hc with rfl | hc
   ·exact hbe
   ·rintro rfl
    rcases he with z | z
    ·exact nown c b hc z
    ·rw [hc] at z; cases z; exact hb rfl
end
structure Un (fs ex:List Addr) (H H':Hp) (h h':Heap):Prop where
 keep:∀ b o,h.get? b=some o->H b=none->b∉fs->b∉ex->h'.get? b=some o
 slot:∀ b o,h.get? b=some o->H b=none->b∈fs->b∉ex->∃ sl,h'.get? b=some { o with slots:=sl }
 free:∀ b o,h.get? b=some o->H b=none->b∉ex->H' b=none
 there:∀ b o,h.get? b=some o->b∉ex->∃ o',h'.get? b=some o'
 tups:∀ b xs,H b=some (.tup xs)->H' b=some (.tup xs)
 frzs:∀ b o u,H b=some (.frz o u)->H' b=some (.frz o u)
 tbls:∀ b ps,H b=some (.tbl ps)->∃ more,H' b=some (.tbl (ps ++ more))
section
variable {fs fs' ex ex':List Addr} {H H1 H2:Hp} {h h1 h2 h':Heap} {a x e:Addr} {o:HO}
theorem Un.any (u:Un fs ex H H1 h h1) {b:Addr} {ob:Obj} (q:h.get? b=some ob) (n:H b=none) (hx:b∉ex):∃ sl,h1.get? b=some { ob with slots:=sl }:=by
 by_cases hb:b∈fs
 ·exact u.slot b ob q n hb hx
 ·exact ⟨ob.slots,u.keep b ob q n hb hx⟩
theorem Un.kept (k:∀ b u,h.get? b=some u->h'.get? b=some u):Un fs ex H H h h':=
 ⟨λb ob q _ _ _=>k b ob q,λb ob q _ _ _=>⟨ob.slots,k b ob q⟩,λ_ _ _ n _=>n,λb ob q _=>⟨ob,k b ob q⟩,λ_ _ q=>q,λ_ _ _ q=>q,λ_ ps q=>⟨#[],by rw [q]; simp⟩⟩
theorem Un.refl:Un fs ex H H h h:=Un.kept λ_ _ q=>q
theorem Un.laid (k:∀ b u,h.get? b=some u->h'.get? b=some u) (hp:h.objs.size<=a) (hn:H a=none):Un fs ex H (upd H a o) h h' where
 keep:=λb u q _ _ _=>k b u q
 slot:=λb u q _ _ _=>⟨u.slots,k b u q⟩
 free:=λb u q n _=>by rw [ah (Ρ (ϔ (χ q) hp))]; exact n
 there:=λb u q _=>⟨u,k b u q⟩
 tups:=λb xs q=>by rw [ah (ag q hn)]; exact q
 frzs:=λb u xs q=>by rw [ah (ag q hn)]; exact q
 tbls:=λb ps q=>⟨#[],by rw [ah (ag q hn),q]; simp⟩
theorem Un.write (mu:Mut (H x)) (he:e=x\/H e=some (.own x)) (k:∀ b u,b≠e->h.get? b=some u->h'.get? b=some u) (heo:∃ u,h'.get? e=some u):Un fs ex H (upd H x o) h h':=by
 have hx:∀ b,H b=none->b≠x:=λb n z=>by subst z; rw [n] at mu; exact mu
 have hb:∀ b,H b=none->b≠e:=λb n z=>by
  subst z
  rcases he with r | r
  ·exact hx b n r
  ·rw [n] at r; cases r
 have hm:∀ b u,H b=some u->¬ Mut (some u)->b≠x:=λb u q nm z=>by subst z; rw [q] at mu; exact nm mu
 refine ⟨λb u q n _ _=>k b u (hb b n) q,λb u q n _ _=>⟨u.slots,k b u (hb b n) q⟩,λb u q n _=>by rw [ah (hx b n)]; exact n,λb u q _=>?_,
  λb xs q=>by rw [ah (hm b _ q λz=>z)]; exact q,λb u xs q=>by rw [ah (hm b _ q λz=>z)]; exact q,λb ps q=>⟨#[],by rw [ah (hm b _ q λz=>z),q]; simp⟩⟩
 by_cases hbe:b=e
 ·subst hbe; exact heo
 ·exact ⟨u,k b u hbe q⟩
end
def trk (h:Heap) (H:Hp):List Addr:=(Φ h.objs.size).filter λa=>(H a).isSome
def ko (h:Heap) (H:Hp):Heap:=PySem.W.hideAll h (trk h H)
theorem rR (h:Heap) (H:Hp):(ko h H).objs.size=h.objs.size:=PySem.W.hideAll_size _ _
theorem vJ {h:Heap} {H:Hp} {b:Addr} {o:Obj} (e:h.get? b=some o) (n:H b=none):(ko h H).get? b=some o:=
 PySem.W.hideAll_get _ e λhm=>by
  have q:(H b).isSome=true:=(i3.mp hm).2
  rw [n] at q; simp at q
theorem xG {h:Heap} {H:Hp} {b:Addr} {o:Obj} (e:(ko h H).get? b=some o):h.get? b=some o/\H b=none:=by
 have e':h.get? b=some o:=PySem.W.of_hideAll (trk h H) e
 refine ⟨e',?_⟩
 cases q:H b with
 | none=>rfl
 | some x=>
  have hm:b∈trk h H:=i3.mpr ⟨ϸ.mpr (χ e'),by simp [q]⟩
  have z:(ko h H).get? b=none:=PySem.W.hideAll_none (trk h H) hm
  rw [z] at e; cases e
def dQ (g h:Heap) (L:Addr):List (Addr×Obj):=(Φ h.objs.size).filterMap λa=>if a=L\/(g.get? a).isSome=true then none else (h.get? a).map λo=>(a,o)
theorem dl {g h:Heap} {L a:Addr} {o:Obj} (h1:a≠L) (h2:g.get? a=none) (h3:h.get? a=some o):(a,o)∈dQ g h L:=
 CT.mpr ⟨a,ϸ.mpr (χ h3),by simp [h1,h2,h3]⟩
theorem io {g h:Heap} {L:Addr} {p:Addr×Obj} (hp:p∈dQ g h L):p.1≠L/\g.get? p.1=none/\h.get? p.1=some p.2:=by
 obtain ⟨b,_,e⟩:=CT.mp hp
 split at e
 ·cases e
 ·rename_i hn
  cases q:h.get? b with
  | none=>rw [q] at e; simp at e
  | some u=>
   rw [q] at e
   simp only [Option.map_some,Option.some.injEq] at e
   subst e
   refine ⟨λz=>hn (.inl z),?_,q⟩
   show g.get? b=none
   cases r:g.get? b with
   | none=>rfl
   | some v=>exact (hn (.inr (by simp [r]))).elim
theorem iI {g h:Heap} {L:Addr}:News g L h (dQ g h L):=λp hp=>let ⟨a,b,c⟩:=io hp; ⟨c,a,b⟩
structure Mod (K:ι) (mg:Str->Option δ) (base:Heap):Prop where
 kin:K.In base
 glob:base.Ns mainGlobals mg
 blt:∃ mb,base.Ns builtinsNs mb/\∀ x:Str,x≠"__name__"->mb x=bootBuiltins x
 nolimit:base.NoLimit
structure Cx where
 prog:Β
 w:Ν
 K:ι
 mg:Str->Option δ
 base:Heap
 A:Χ
 N:List Str
 s₀:ζ
 H₀:Hp
 env:Env
 outer:List Env
 stack:List Env
 ex:List Addr
 fn:Str->Bool
 calm:Bool
 pn:List (Addr×Obj)
 xe:δ->ζ->Prop
def frs (l:List Env):List Addr:=l.filterMap (·.frame)
abbrev Cx.fs (X:Cx):List Addr:=frs X.outer
def Vis (sc:C1) (x:Str):Prop:=sc.names.lookup x=some .local\/sc.names.lookup x=some .cell\/sc.names.lookup x=some .free
def Loc (sc:C1) (x:Str):Prop:=sc.names.lookup x=some .local\/sc.names.lookup x=some .cell
def As (env:Env) (h:Heap) (m:Str->Option δ) (x:Str) (u:δ):Prop:=
 (env.kindOf x=some .local/\m x=some u)\/((env.kindOf x=some .cell\/env.kindOf x=some .free)/\∃ c,env.cells.lookup x=some c/\h.IsCell c (some u))
structure Cx.Ok (X:Cx):Prop where
 mod:Mod X.K X.mg X.base
 kind:X.env.scope.kind=.function
 glob:X.env.globals=mainGlobals
 blt:X.env.builtins=builtinsNs
 above:X.s₀.heap.objs.size<=X.env.locals
 inj:∀ x y c,X.env.cells.lookup x=some c->X.env.cells.lookup y=some c->x=y
 has:∀ x,(X.env.kindOf x=some .cell\/X.env.kindOf x=some .free)->∃ c,X.env.cells.lookup x=some c
 cab:∀ x c,X.fn x=true->X.env.cells.lookup x=some c->X.s₀.heap.objs.size<=c
 hd:X.calm=true->X.A.handled=none
 frames:X.A.frames=some X.stack
 stk:X.stack=X.outer\/(X.stack=X.env :: X.outer/\X.env.frame=some X.env.locals)
 exf:∀ b∈X.ex,b≠X.env.locals/\∀ x c,X.env.cells.lookup x=some c->c≠b
 bs:∀ b o,X.base.get? b=some o->X.s₀.heap.get? b=some o/\X.H₀ b=none
 bsz:X.base.objs.size<=X.s₀.heap.objs.size
 noex:∀ b o,X.base.get? b=some o->b∉X.ex
 exfs:∀ b∈X.ex,b∉X.fs
 funs:X.s₀.heap.FunFrames X.base X.outer
 frf:∀ b∈X.fs,X.H₀ b=none
structure Inv (X:Cx) (pins:List (Addr×Obj)) (σ:List (Option V)) (H:Hp) (s:ζ):Prop where
 ok:X.Ok
 os:s.os=X.s₀.os
 bare:DS s.gens
 base:Un X.fs X.ex X.H₀ H X.s₀.heap s.heap
 loc:∃ m,s.heap.Ns X.env.locals m/\∀ (i:Nat) (x:Str) (v:V),X.N[i]?=some x->σ[i]?=some (some v)->Vis X.env.scope x->∃ u,aw v u/\As X.env s.heap m x u
 cell:∀ x c,X.env.cells.lookup x=some c->∃ v,s.heap.IsCell c v
 free:H X.env.locals=none
 freeC:∀ x c,X.env.cells.lookup x=some c->H c=none
 pin:∀ p∈X.pn ++ pins,s.heap.get? p.1=some p.2/\H p.1=none/\p.1≠X.env.locals/\p.1∉X.fs/\∀ v,p.2.data≠.cell v
 hok:HOk X.prog X.w H s.heap
 len:σ.length=X.N.length
section
variable {X:Cx} {pins:List (Addr×Obj)} {σ:List (Option V)} {H H':Hp} {s:ζ} {h':Heap}
theorem Cx.Ok.nofr (ok:X.Ok) {b:Addr} {o:Obj} (e:X.base.get? b=some o):b∉X.fs:=λhb=>by
 have:=(ok.funs.mem hb).1
 rw [e] at this; cases this
theorem Inv.bs (I:Inv X pins σ H s):∀ b o,X.base.get? b=some o->s.heap.get? b=some o/\H b=none:=λb o e=>
 ⟨I.base.keep b o (I.ok.bs b o e).1 (I.ok.bs b o e).2 (I.ok.nofr e) (I.ok.noex b o e),I.base.free b o (I.ok.bs b o e).1 (I.ok.bs b o e).2 (I.ok.noex b o e)⟩
theorem Inv.bk (I:Inv X pins σ H s):∀ b o,X.base.get? b=some o->s.heap.get? b=some o:=λb o e=>(I.bs b o e).1
theorem Inv.mod (I:Inv X pins σ H s):Mod X.K X.mg X.base:=I.ok.mod
theorem Inv.kIn (I:Inv X pins σ H s):X.K.In s.heap:=I.ok.mod.kin.keeps I.bk
theorem Inv.fr (I:Inv X pins σ H s):∃ m,Fr X.base X.env.locals s.heap m:=
 let ⟨m,hn,_⟩:=I.loc
 ⟨m,hn,I.bk,ϟ I.ok.bsz I.ok.above⟩
theorem Inv.lt (I:Inv X pins σ H s):X.env.locals < s.heap.objs.size:=let ⟨_,hn,_⟩:=I.loc; hn.lt
theorem Inv.sz (I:Inv X pins σ H s):X.s₀.heap.objs.size<=s.heap.objs.size:=ϟ I.ok.above (x5 I.lt)
theorem Inv.nofs (I:Inv X pins σ H s) {a:Addr} (h:s.heap.objs.size<=a):a∉X.fs:=λhb=>by
 obtain ⟨_,o,ho,_⟩:=I.ok.funs.mem hb
 exact absurd (ϔ (χ ho) (ϟ I.sz h)) (y6 _)
theorem Inv.cne (I:Inv X pins σ H s):∀ x c,X.env.cells.lookup x=some c->c≠X.env.locals:=λx c e z=>by
 obtain ⟨v,o,ho,hd⟩:=I.cell x c e
 obtain ⟨m,⟨o',es,ep,ho',hd',_⟩,_⟩:=I.loc
 rw [z,ho'] at ho; cases ho; rw [hd'] at hd; cases hd
theorem Inv.funs (I:Inv X pins σ H s):s.heap.FunFrames X.base X.outer:=by
 have all:∀ (l:List Env),(∀ b∈frs l,b∈X.fs)->X.s₀.heap.FunFrames X.base l->s.heap.FunFrames X.base l:=by
  intro l
  induction l with
  | nil=>intro _ _; trivial
  | cons env r ih=>
   intro hs hl
   obtain ⟨hk,⟨L,o,hf,hn,ho,hd⟩,hr⟩:=hl
   have hL:L∈X.fs:=hs L (by unfold frs; rw [r6,hf]; exact Δ)
   obtain ⟨sl,e⟩:=I.base.slot L o ho (I.ok.frf L hL) hL λz=>I.ok.exfs L z hL
   exact ⟨hk,⟨L,_,hf,hn,e,hd⟩,ih (λb hb=>hs b (by unfold frs; rw [r6,hf]; exact ρ _ hb)) hr⟩
 exact all X.outer (λ_ hb=>hb) I.ok.funs
theorem Inv.stack (I:Inv X pins σ H s):s.heap.FunFrames X.base X.stack:=by
 rcases I.ok.stk with e | ⟨e,hf⟩
 ·rw [e]; exact I.funs
 ·rw [e]
  obtain ⟨m,hn,_⟩:=I.loc
  refine .cons (by rw [I.ok.kind]; decide) hf hn ?_ I.funs
  exact Ϲ (ϟ I.ok.bsz I.ok.above)
theorem Inv.stkSub (I:Inv X pins σ H s):∀ b∈frs X.stack,b∈X.env.locals :: X.fs:=λb hb=>by
 rcases I.ok.stk with e | ⟨e,hf⟩
 ·rw [e] at hb; exact ρ _ hb
 ·rw [e] at hb
  unfold frs at hb
  rw [r6,hf] at hb
  exact hb
theorem Inv.stkFree (I:Inv X pins σ H s):∀ b∈frs X.stack,H b=none:=λb hb=>by
 rcases ν.mp (I.stkSub b hb) with e | hb
 ·rw [e]; exact I.free
 ·obtain ⟨_,o,ho,_⟩:=I.ok.funs.mem hb
  exact I.base.free b o ho (I.ok.frf b hb) λz=>I.ok.exfs b z hb
theorem Inv.step {g':Array Cq} {t':Nat} {d':DY} {ch:List Addr} (I:Inv X pins σ H s)
  (hch:∀ b∈ch,(b∈X.ex\/X.s₀.heap.objs.size<=b)/\b≠X.env.locals/\(∀ x c,X.env.cells.lookup x=some c->c≠b)/\∀ p∈X.pn ++ pins,p.1≠b)
  (keep:∀ b o,b≠X.env.locals->b∉X.fs->b∉ch->s.heap.get? b=some o->H b=none->h'.get? b=some o)
  (slot:∀ b o,b≠X.env.locals->b∈X.fs->b∉ch->s.heap.get? b=some o->H b=none->∃ sl,h'.get? b=some { o with slots:=sl }) (free:∀ b o,b∉ch->s.heap.get? b=some o->H b=none->H' b=none)
  (there:∀ b o,b∉ch->s.heap.get? b=some o->∃ o',h'.get? b=some o')
  (tups:∀ b xs,H b=some (.tup xs)->H' b=some (.tup xs)) (frzs:∀ b o u,H b=some (.frz o u)->H' b=some (.frz o u)) (tbls:∀ b ps,H b=some (.tbl ps)->∃ more,H' b=some (.tbl (ps ++ more)))
  (ns:∀ m,s.heap.Ns X.env.locals m->h'.Ns X.env.locals m) (hok:HOk X.prog X.w H' h') (hg:DS g') :
  Inv X pins σ H' { s with heap:=h',gens:=g',drawn:=d',toks:=t' }:=by
 have neL:∀ b o,X.s₀.heap.get? b=some o->b≠X.env.locals:=λb o e=>Ρ (ϔ (χ e) I.ok.above)
 have neC:∀ b o,X.s₀.heap.get? b=some o->b∉X.ex->b∉ch:=λb o e hx hb=>by
  rcases (hch b hb).1 with z | z
  ·exact hx z
  ·exact absurd (ϔ (χ e) z) (y6 _)
 have cellK:∀ x c,X.env.cells.lookup x=some c->∀ v,s.heap.IsCell c v->h'.IsCell c v:=λx c e v ⟨o,ho,hd⟩=>by
  have nch:c∉ch:=λz=>(hch c z).2.2.1 x c e rfl
  by_cases hc:c∈X.fs
  ·obtain ⟨sl,q⟩:=slot c o (I.cne x c e) hc nch ho (I.freeC x c e)
   exact ⟨_,q,hd⟩
  ·exact ⟨o,keep c o (I.cne x c e) hc nch ho (I.freeC x c e),hd⟩
 refine ⟨I.ok,I.os,hg,⟨λb o e n hb hx=>?_,λb o e n hb hx=>?_,λb o e n hx=>?_,λb o e hx=>?_,λb xs e=>tups b xs (I.base.tups b xs e),λb o xs e=>frzs b o xs (I.base.frzs b o xs e),λb ps e=>?_⟩,?_,λx c e=>?_,?_,λx c e=>?_,λp hp=>?_,hok,I.len⟩
 ·exact keep b o (neL b o e) hb (neC b o e hx) (I.base.keep b o e n hb hx) (I.base.free b o e n hx)
 ·obtain ⟨sl,e1⟩:=I.base.slot b o e n hb hx
  obtain ⟨sl',e2⟩:=slot b _ (neL b o e) hb (neC b o e hx) e1 (I.base.free b o e n hx)
  exact ⟨sl',e2⟩
 ·obtain ⟨o',e1⟩:=I.base.there b o e hx
  exact free b o' (neC b o e hx) e1 (I.base.free b o e n hx)
 ·obtain ⟨o',e1⟩:=I.base.there b o e hx
  exact there b o' (neC b o e hx) e1
 ·obtain ⟨m1,e1⟩:=I.base.tbls b ps e
  obtain ⟨m2,e2⟩:=tbls b _ e1
  exact ⟨m1 ++ m2,by rw [e2,Array.append_assoc]⟩
 ·obtain ⟨m,hn,hl⟩:=I.loc
  refine ⟨m,ns m hn,λi x v e1 e2 e3=>?_⟩
  obtain ⟨u,r,l⟩:=hl i x v e1 e2 e3
  refine ⟨u,r,?_⟩
  rcases l with l | ⟨k,c,e,z⟩
  ·exact .inl l
  ·exact .inr ⟨k,c,e,cellK x c e _ z⟩
 ·obtain ⟨v,z⟩:=I.cell x c e
  exact ⟨v,cellK x c e v z⟩
 ·obtain ⟨m,⟨o,_,_,ho,_⟩,_⟩:=I.loc
  exact free _ o (λz=>(hch _ z).2.1 rfl) ho I.free
 ·obtain ⟨v,o,ho,hd⟩:=I.cell x c e
  exact free c o (λz=>(hch c z).2.2.1 x c e rfl) ho (I.freeC x c e)
 ·obtain ⟨e,n,ne,nf,d⟩:=I.pin p hp
  have nch:p.1∉ch:=λz=>(hch p.1 z).2.2.2 p hp rfl
  exact ⟨keep p.1 p.2 ne nf nch e n,free p.1 p.2 nch e n,ne,nf,d⟩
theorem Inv.un {t':Nat} (I:Inv X pins σ H s) (u:Un X.fs [] H H' s.heap h') (hok:HOk X.prog X.w H' h'):Inv X pins σ H' { s with heap:=h',toks:=t' }:=by
 obtain ⟨m,⟨o,es,ep,ho,r⟩,_⟩:=id I.loc
 obtain ⟨sl,hL⟩:=u.any ho I.free ∅
 exact I.step (g':=s.gens) (d':=s.drawn) (ch:=[]) (λ_ z=>nomatch z) (λb o _ hb _ e n=>u.keep b o e n hb ∅) (λb o _ hb _ e n=>u.slot b o e n hb ∅) (λb o _ e n=>u.free b o e n ∅) (λb o _ e=>u.there b o e ∅) u.tups u.frzs u.tbls (λm' hm=>by
  obtain ⟨o',es',ep',ho',r'⟩:=hm
  rw [ho] at ho'; cases ho'
  exact ⟨_,es',ep',hL,r'⟩) hok I.bare
theorem Inv.call {g':Array Cq} {t':Nat} {d':DY} {ch:List Addr} (I:Inv X pins σ H s) (u:Un (frs X.stack) ch H H' s.heap h') (hok:HOk X.prog X.w H' h') (hg:DS g')
  (hch:∀ b∈ch,(b∈X.ex\/X.s₀.heap.objs.size<=b)/\b≠X.env.locals/\(∀ x c,X.env.cells.lookup x=some c->c≠b)/\∀ p∈X.pn ++ pins,p.1≠b) :
  Inv X pins σ H' { s with heap:=h',gens:=g',drawn:=d',toks:=t' }:=by
 obtain ⟨m,⟨o,es,ep,ho,r⟩,_⟩:=id I.loc
 obtain ⟨sl,hL⟩:=u.any ho I.free λz=>(hch _ z).2.1 rfl
 exact I.step (ch:=ch) hch (λb o hL hb hc e n=>u.keep b o e n (λz=>(ν.mp (I.stkSub b z)).elim hL hb) hc) (λb o _ _ hc e n=>u.any e n hc) (λb o hc e n=>u.free b o e n hc) (λb o hc e=>u.there b o e hc) u.tups u.frzs u.tbls (λm' hm=>by
  obtain ⟨o',es',ep',ho',r'⟩:=hm
  rw [ho] at ho'; cases ho'
  exact ⟨_,es',ep',hL,r'⟩) hok hg
theorem Inv.turned {t':Nat} {it:Addr} (I:Inv X pins σ H s) (k:∀ b o,b≠it->s.heap.get? b=some o->h'.get? b=some o) (hn:H it=none) (hL:it≠X.env.locals)
  (h1:it∈X.ex\/X.s₀.heap.objs.size<=it) (h2:∀ x c,X.env.cells.lookup x=some c->c≠it) (h3:∀ p∈X.pn ++ pins,p.1≠it):Inv X pins σ H { s with heap:=h',toks:=t' }:=by
 have nit:∀ b u,H b=some u->b≠it:=λb u e z=>by rw [z,hn] at e; cases e
 refine I.step (g':=s.gens) (d':=s.drawn) (ch:=[it]) (λb hb=>?_) (λb o _ _ hc e _=>k b o (λz=>hc (by simp [z])) e) (λb o _ _ hc e _=>⟨o.slots,k b o (λz=>hc (by simp [z])) e⟩) (λ_ _ _ _ n=>n)
  (λb o hc e=>⟨o,k b o (λz=>hc (by simp [z])) e⟩) (λ_ _ e=>e) (λ_ _ _ e=>e) (λb ps e=>⟨#[],by rw [e]; simp⟩) (λm hm=>?_) (λb u e=>?_) I.bare
 ·have e:b=it:=by simpa using hb
  subst e
  exact ⟨h1,hL,h2,h3⟩
 ·obtain ⟨o,es,ep,ho,r⟩:=hm
  exact ⟨o,es,ep,k _ o (ώ hL) ho,r⟩
 ·refine (I.hok b u e).stay (λc v hc q=>k c v ?_ q) (λ_ q=>q) λ_ _ q=>q
  rcases hc with z | z
  ·rw [z]; exact nit b u e
  ·exact nit c _ z
theorem Inv.tok (I:Inv X pins σ H s) (t:Nat):Inv X pins σ H { s with toks:=t }:=I.un (h':=s.heap) (t':=t) Un.refl I.hok
theorem Inv.kept {t':Nat} (I:Inv X pins σ H s) (k:∀ b u,s.heap.get? b=some u->h'.get? b=some u):Inv X pins σ H { s with heap:=h',toks:=t' }:=I.un (Un.kept k) (I.hok.kept k)
theorem Inv.laid {a:Addr} {o:HO} {t':Nat} (I:Inv X pins σ H s) (k:∀ b u,s.heap.get? b=some u->h'.get? b=some u) (hp:s.heap.objs.size<=a) (new:aI X.prog X.w (upd H a o) h' a o) :
  Inv X pins σ (upd H a o) { s with heap:=h',toks:=t' }:=I.un (Un.laid k hp (I.hok.fresh hp)) (I.hok.laid k hp new)
theorem Inv.write {x e:Addr} {o:HO} {t':Nat} (I:Inv X pins σ H s) (mu:Mut (H x)) (he:e=x\/H e=some (.own x)) (k:∀ b u,b≠e->s.heap.get? b=some u->h'.get? b=some u) (heo:∃ u,h'.get? e=some u)
  (new:aI X.prog X.w (upd H x o) h' x o):Inv X pins σ (upd H x o) { s with heap:=h',toks:=t' }:=I.un (Un.write mu he k heo) (I.hok.write mu he k heo new)
theorem Inv.weak {σ':List (Option V)} (I:Inv X pins σ H s) (hl:σ'.length=σ.length) (w:∀ (i:Nat) v,σ'[i]?=some (some v)->σ[i]?=some (some v)):Inv X pins σ' H s:=
 ⟨I.ok,I.os,I.bare,I.base,let ⟨m,hn,hl'⟩:=I.loc; ⟨m,hn,λi x v e1 e2 e3=>hl' i x v e1 (w i v e2) e3⟩,I.cell,I.free,I.freeC,I.pin,I.hok,hl.trans I.len⟩
theorem Inv.pins_of {pins':List (Addr×Obj)} (I:Inv X pins σ H s) (h:∀ p∈pins',s.heap.get? p.1=some p.2/\H p.1=none/\p.1≠X.env.locals/\p.1∉X.fs/\∀ v,p.2.data≠.cell v):Inv X pins' σ H s:=
 ⟨I.ok,I.os,I.bare,I.base,I.loc,I.cell,I.free,I.freeC,λp hp=>(ϒ.mp hp).elim (λz=>I.pin p (m9 _ z)) (h p),I.hok,I.len⟩
theorem iF {N:List Str} (hN:N.Nodup) {i j:Nat} {x:Str} (a:N[i]?=some x) (b:N[j]?=some x):i=j:=by
 obtain ⟨h1,e1⟩:=ο.mp a
 obtain ⟨h2,e2⟩:=ο.mp b
 exact (B4 hN).mp (e1.trans e2.symm)
theorem jD {M:Fa} {A:Χ} {E:δ->ζ->Prop} {i:Nat} {x:Str} {v:V} {u:δ} {Q:Unit->ζ->Prop} (I:Inv X pins σ H s) (hN:X.N.Nodup) (hi:X.N[i]?=some x) (hx:Loc X.env.scope x) (r:aw v u)
  (h:∀ s',Inv X pins (σ.set i (some v)) H s'->(∃ a,x6 a s.heap s'.heap/\(a=X.env.locals\/X.env.cells.lookup x=some a))->Q () s') (hf:X.fn x=true\/X.env.scope.names.lookup x=some .local:=by first | exact .inl rfl | exact .inr rfl | assumption):wpAny M A (storeName X.env x u) Q E s:=by
 obtain ⟨m,hn,hl⟩:=id I.loc
 have hcls:(X.env.scope.kind == .class || (X.env.scope.kind == .module && X.env.locals != X.env.globals))=false:=by rw [I.ok.kind]; rfl
 have hiσ:i < σ.length:=by rw [I.len]; exact (ο.mp hi).1
 have cne:=I.cne
 have tracked:∀ {a:Addr} {h':Heap},(∃ o,s.heap.get? a=some o/\H a=none)->x6 a s.heap h'->HOk X.prog X.w H h':=λ{a h'} ha hs b ob e=>by
  obtain ⟨_,_,hfree⟩:=ha
  refine (I.hok b ob e).stay (λc w' hc q=>(hs.2 c ?_).trans q) (λ_ q=>q) λ_ _ q=>q
  rintro rfl
  rcases hc with rfl | hc
  ·rw [hfree] at e; cases e
  ·rw [hfree] at hc; cases hc
 rcases hx with hk | hk
 ·refine wpAny_storeName_local hk hn (λh' hn' hs=>?_) hcls
  obtain ⟨oL,_,_,hoL,_⟩:=id hn
  refine h _ ⟨I.ok,I.os,I.bare,⟨λb o e n hb hx=>?_,λb o e n hb hx=>?_,I.base.free,λb o e hx=>?_,I.base.tups,I.base.frzs,I.base.tbls⟩,⟨_,hn',λj y v' e1 e2 e3=>?_⟩,λy c e=>?_,I.free,I.freeC,λp hp=>?_,tracked ⟨oL,hoL,I.free⟩ hs,by simpa using I.len⟩ ⟨_,hs,.inl rfl⟩
  ·exact (hs.2 b (Ρ (ϔ (χ e) I.ok.above))).trans (I.base.keep b o e n hb hx)
  ·obtain ⟨sl,e1⟩:=I.base.slot b o e n hb hx
   exact ⟨sl,(hs.2 b (Ρ (ϔ (χ e) I.ok.above))).trans e1⟩
  ·obtain ⟨o',e1⟩:=I.base.there b o e hx
   exact ⟨o',(hs.2 b (Ρ (ϔ (χ e) I.ok.above))).trans e1⟩
  ·by_cases hj:j=i
   ·subst hj
    rw [hi] at e1; cases e1
    rw [B8 hiσ] at e2
    cases e2
    exact ⟨u,r,.inl ⟨hk,∅⟩⟩
   ·rw [BN (ώ hj)] at e2
    obtain ⟨u',r',q⟩:=hl j y v' e1 e2 e3
    refine ⟨u',r',?_⟩
    rcases q with ⟨k,e⟩ | ⟨k,c,e,z⟩
    ·refine .inl ⟨k,?_⟩
     have:y≠x:=λe=>hj (iF hN e1 (e▸hi))
     simp [this,e]
    ·exact .inr ⟨k,c,e,z.sameBut hs (cne y c e)⟩
  ·obtain ⟨w',z⟩:=I.cell y c e
   exact ⟨w',z.sameBut hs (cne y c e)⟩
  ·obtain ⟨e,n,ne,nf,d⟩:=I.pin p hp
   exact ⟨(hs.2 p.1 ne).trans e,n,ne,nf,d⟩
 ·have hfn:X.fn x=true:=by
   rcases hf with z | z
   ·exact z
   ·rw [z] at hk; cases hk
  obtain ⟨c,hc⟩:=I.ok.has x (.inl hk)
  obtain ⟨w',z⟩:=I.cell x c hc
  refine wpAny_storeName_cell I.ok.kind hk hc z (λh' hc' hs=>?_)
  obtain ⟨oc,hoc,hocd⟩:=id z
  refine h { s with heap:=h' } ⟨I.ok,I.os,I.bare,⟨λb o e n hb hx=>?_,λb o e n hb hx=>?_,I.base.free,λb o e hx=>?_,I.base.tups,I.base.frzs,I.base.tbls⟩,⟨m,hn.sameBut hs (ώ (cne x c hc)),λj y v' e1 e2 e3=>?_⟩,λy c' e=>?_,I.free,I.freeC,λp hp=>?_,tracked ⟨oc,hoc,I.freeC x c hc⟩ hs,by simpa using I.len⟩ ⟨c,hs,.inr hc⟩
  ·exact (hs.2 b (Ρ (ϔ (χ e) (I.ok.cab x c hfn hc)))).trans (I.base.keep b o e n hb hx)
  ·obtain ⟨sl,e1⟩:=I.base.slot b o e n hb hx
   exact ⟨sl,(hs.2 b (Ρ (ϔ (χ e) (I.ok.cab x c hfn hc)))).trans e1⟩
  ·obtain ⟨o',e1⟩:=I.base.there b o e hx
   exact ⟨o',(hs.2 b (Ρ (ϔ (χ e) (I.ok.cab x c hfn hc)))).trans e1⟩
  ·by_cases hj:j=i
   ·subst hj
    rw [hi] at e1; cases e1
    rw [B8 hiσ] at e2
    cases e2
    exact ⟨u,r,.inr ⟨.inl hk,c,hc,hc'⟩⟩
   ·rw [BN (ώ hj)] at e2
    obtain ⟨u',r',q⟩:=hl j y v' e1 e2 e3
    refine ⟨u',r',?_⟩
    rcases q with q | ⟨k,c',e,z'⟩
    ·exact .inl q
    ·refine .inr ⟨k,c',e,z'.sameBut hs ?_⟩
     rintro rfl
     exact hj (iF hN e1 (I.ok.inj _ _ _ e hc▸hi))
  ·by_cases hcc:c'=c
   ·subst hcc; exact ⟨_,hc'⟩
   ·obtain ⟨w2,z2⟩:=I.cell y c' e
    exact ⟨w2,z2.sameBut hs hcc⟩
  ·obtain ⟨e,n,ne,nf,d⟩:=I.pin p hp
   refine ⟨(hs.2 p.1 ?_).trans e,n,ne,nf,d⟩
   intro q
   rw [q,hoc] at e
   have q':oc=p.2:=Ϝ e
   exact d w' (by rw [<- q']; exact hocd)
theorem fz {M:Fa} {A:Χ} {E:δ->ζ->Prop} {i:Nat} {x:Str} {v:V} {u:δ} {Q:Unit->ζ->Prop} (I:Inv X pins σ H s) (hN:X.N.Nodup) (hi:X.N[i]?=some x) (hx:Loc X.env.scope x) (r:aw v u)
  (h:∀ s',Inv X pins (σ.set i (some v)) H s'->Q () s') (hf:X.fn x=true\/X.env.scope.names.lookup x=some .local:=by first | exact .inl rfl | exact .inr rfl | assumption):wpAny M A (storeName X.env x u) Q E s:=
 jD I hN hi hx r (λs' I' _=>h s' I') hf
theorem Inv.call' {s':ζ} {ch:List Addr} (I:Inv X pins σ H s) (ho:s'.os=s.os) (u:Un (frs X.stack) ch H H' s.heap s'.heap) (hok:HOk X.prog X.w H' s'.heap) (hg:DS s'.gens)
  (hch:∀ b∈ch,(b∈X.ex\/X.s₀.heap.objs.size<=b)/\b≠X.env.locals/\(∀ x c,X.env.cells.lookup x=some c->c≠b)/\∀ p∈X.pn ++ pins,p.1≠b):Inv X pins σ H' s':=by
 obtain ⟨h',g',d',t',o'⟩:=s'
 have e:o'=s.os:=ho
 subst e
 exact I.call (g':=g') (t':=t') (d':=d') u hok hg hch
end
abbrev XK:=δ->Option Addr->Hp->Prop
abbrev St:=List (Option V)
abbrev VK:=V->Hp->Prop
abbrev TE:=St->Hp->VK->Prop
abbrev TT:=St->Hp->(Bool->Hp->Prop)->Prop
abbrev TA:=St->Hp->(List V->Hp->Prop)->Prop
structure bP where
 nx:St->Hp->Prop
 rt:VK
 bk:St->Hp->Prop:=λ_ _=>False
 ct:St->Hp->Prop:=λ_ _=>False
abbrev TS:=bP->St->Hp->Prop
def EP (X:Cx) (pins:List (Addr×Obj)) (σ:St) (Q:VK) (u:δ) (s':ζ):Prop:=∃ v H',Inv X pins σ H' s'/\aw v u/\Q v H'
def TP (X:Cx) (pins:List (Addr×Obj)) (σ:St) (Q:Bool->Hp->Prop) (b:Bool) (s':ζ):Prop:=∃ H',Inv X pins σ H' s'/\Q b H'
def AP (X:Cx) (pins:List (Addr×Obj)) (σ:St) (Q:List V->Hp->Prop) (us:List δ) (s':ζ):Prop:=∃ vs H',Inv X pins σ H' s'/\ar vs us/\Q vs H'
def SP (X:Cx) (pins:List (Addr×Obj)) (D:bP) (f:Flow) (s':ζ):Prop:=
 match f with
 | .next=>∃ σ' H',Inv X pins σ' H' s'/\D.nx σ' H'
 | .brk=>∃ σ' H',Inv X pins σ' H' s'/\D.bk σ' H'
 | .cont=>∃ σ' H',Inv X pins σ' H' s'/\D.ct σ' H'
 | .ret u=>∃ v σ' H',Inv X pins σ' H' s'/\aw v u/\D.rt v H'
def PE (X:Cx) (e:Expr) (t:TE):Prop:=
 ∀ (pins:List (Addr×Obj)) (s:ζ) (σ:St) (H:Hp) (Q:VK),Inv X pins σ H s->t σ H Q->wpAny (model X.prog X.w) X.A (eval e X.env) (EP X pins σ Q) X.xe s
def PT (X:Cx) (e:Expr) (t:TT):Prop:=
 ∀ (pins:List (Addr×Obj)) (s:ζ) (σ:St) (H:Hp) (Q:Bool->Hp->Prop),Inv X pins σ H s->t σ H Q->wpAny (model X.prog X.w) X.A (isTrue e X.env (eval e X.env)) (TP X pins σ Q) X.xe s
def PW (X:Cx) (e:Expr) (t:TT):Prop:=
 ∀ (whole:Sem δ) (pins:List (Addr×Obj)) (s:ζ) (σ:St) (H:Hp) (Q:Bool->Hp->Prop),Inv X pins σ H s->t σ H Q->wpAny (model X.prog X.w) X.A (isTrue e X.env whole) (TP X pins σ Q) X.xe s
theorem PW.pt {X:Cx} {e:Expr} {t:TT} (h:PW X e t):PT X e t:=h _
def PA (X:Cx) (es:List Expr) (t:TA):Prop:=
 ∀ (pos:Pos) (pins:List (Addr×Obj)) (s:ζ) (σ:St) (H:Hp) (Q:List V->Hp->Prop),Inv X pins σ H s->t σ H Q->wpAny (model X.prog X.w) X.A (spliced (backTo pos (starEach es X.env))) (AP X pins σ Q) X.xe s
def PS (X:Cx) (st:Stmt) (t:TS):Prop:=
 ∀ (pins:List (Addr×Obj)) (s:ζ) (σ:St) (H:Hp) (D:bP),Inv X pins σ H s->t D σ H->wpAny (model X.prog X.w) X.A (exec st X.env) (SP X pins D) X.xe s
def PSs (X:Cx) (st:List Stmt) (t:TS):Prop:=
 ∀ (pins:List (Addr×Obj)) (s:ζ) (σ:St) (H:Hp) (D:bP),Inv X pins σ H s->t D σ H->wpAny (model X.prog X.w) X.A (execs st X.env) (SP X pins D) X.xe s
theorem thn {α:Type} {t:Sem α} {Q Q':α->ζ->Prop} {M:Fa} {A:Χ} {E:δ->ζ->Prop} {s:ζ} (h:wpAny M A t Q E s) (hQ:∀ a s,Q a s->Q' a s):wpAny M A t Q' E s:=Ϻ h hQ λ_ _ x=>x
section
variable {X:Cx}
def iP (i:Nat):TE:=λσ H Q=>∃ v,σ[i]?=some (some v)/\Q v H
def tC (v:V):TE:=λ_ H Q=>Q v H
theorem wg {i:Nat} {x:Str} {pos:Pos} (hN:X.N[i]?=some x) (hv:Vis X.env.scope x) (hd:(x == ("__debug__" : Str))=false:=by decide) (hcd:(x == ("__classdict__" : Str))=false:=by decide):PE X (.Name x pos) (iP i):=by
 intro pins s σ H Q I h
 obtain ⟨v,e,h⟩:=h
 obtain ⟨m,hn,hl⟩:=I.loc
 obtain ⟨u,r,l⟩:=hl i x v hN e hv
 have fin:EP X pins σ Q u s:=⟨v,H,I,r,h⟩
 rcases l with ⟨hk,hm⟩ | ⟨hk,c,hc,hcell⟩
 ·exact wpAny_Name (wpAny_loadName_local I.ok.kind hk hn hm fin) hd
 ·rcases hk with hk | hk
  ·exact wpAny_Name (wpAny_loadName_cell I.ok.kind hk hc hcell fin) hd
  ·exact wpAny_Name (wpAny_loadName_free I.ok.kind hk hc hcell fin hcd) hd
theorem pe_int {i j pos}:PE X (.Constant (.int i) j pos) (tC (.int i)):=λ_ _ _ H _ I h=>wpAny_Constant_int ⟨.int i,H,I.tok _,⟨_,rfl⟩,h⟩
theorem pe_bl {b j pos}:PE X (.Constant (.bool b) j pos) (tC (.bl b)):=λ_ _ _ H _ I h=>Constant_bool ⟨.bl b,H,I,rfl,h⟩
theorem pe_non {j pos}:PE X (.Constant .none j pos) (tC .non):=λ_ _ _ H _ I h=>Constant_none ⟨.non,H,I,rfl,h⟩
theorem pe_str {x j pos}:PE X (.Constant (.str x) j pos) (tC (.str x)):=λ_ _ _ H _ I h=>Calls.Constant_str ⟨.str x,H,I.tok _,⟨_,rfl⟩,h⟩
def Gl (X:Cx) (x:Str):Prop:=X.env.kindOf x=some .globalImplicit
theorem fL {E:δ->ζ->Prop} {pins:List (Addr×Obj)} {s:ζ} {σ:St} {H:Hp} {x:Str} {u:δ} {pos:Pos} {Q:δ->ζ->Prop} (I:Inv X pins σ H s) (hg:Gl X x) (hm:X.mg x=some u) (h:Q u s)
  (hd:(x == ("__debug__" : Str))=false:=by decide):wpAny (model X.prog X.w) X.A (eval (.Name x pos) X.env) Q E s:=
 DZ I.ok.kind hg (Calls.loadGlobal_global (by rw [I.ok.glob]; exact I.mod.glob.keeps I.bk) hm h) hd
theorem cy {E:δ->ζ->Prop} {pins:List (Addr×Obj)} {s:ζ} {σ:St} {H:Hp} {x:Str} {u:δ} {pos:Pos} {Q:δ->ζ->Prop} (I:Inv X pins σ H s) (hg:Gl X x) (hm:X.mg x=none) (hv:bootBuiltins x=some u) (h:Q u s)
  (hn:x≠"__name__":=by decide) (hd:(x == ("__debug__" : Str))=false:=by decide):wpAny (model X.prog X.w) X.A (eval (.Name x pos) X.env) Q E s:=by
 obtain ⟨mb,h1,h2⟩:=I.mod.blt
 exact DZ I.ok.kind hg (Calls.loadGlobal_builtin (by rw [I.ok.glob]; exact I.mod.glob.keeps I.bk) hm (by rw [I.ok.blt]; exact h1.keeps I.bk) ((h2 x hn).trans hv) h) hd
theorem pe_glob {x:Str} {v:V} {u:δ} {pos:Pos} (hg:Gl X x) (hm:X.mg x=some u) (r:aw v u) (hd:(x == ("__debug__" : Str))=false:=by decide):PE X (.Name x pos) (tC v):=
 λ_ _ _ H _ I h=>fL I hg hm ⟨v,H,I,r,h⟩ hd
theorem pe_bltn {x:Str} {v:V} {u:δ} {pos:Pos} (hg:Gl X x) (hm:X.mg x=none) (hv:bootBuiltins x=some u) (r:aw v u) (hn:x≠"__name__":=by decide) (hd:(x == ("__debug__" : Str))=false:=by decide):PE X (.Name x pos) (tC v):=
 λ_ _ _ H _ I h=>cy I hg hm hv ⟨v,H,I,r,h⟩ hn hd
variable {a b:Expr} {ta tb:TE} {pos:Pos}
def tB (t:TE):TT:=λσ H Q=>t σ H λx H1=>∃ c,x=.bl c/\Q c H1
theorem pt_val {e:Expr} {t:TE} (h:PE X e t) (he:∀ whole,isTrue e X.env whole=(do let v <- whole; standAt e.pos; holding [v] (truthy v)):=by intro _; rfl):PT X e (tB t):=by
 intro pins s σ H Q I hw
 refine isTrue_plain (thn (h pins s σ H _ I hw) λv s1 ⟨x,H1,I1,r1,q1⟩=>?_) (he _)
 obtain ⟨d,rfl,q⟩:=q1
 cases r1
 exact e_ ⟨H1,I1,q⟩
variable {tA tB':TT} {rest:List Expr}
def vc (t u:TT):TT:=λσ H Q=>t σ H λc H1=>if c=true then u σ H1 Q else Q false H1
def tOr (t u:TT):TT:=λσ H Q=>t σ H λc H1=>if c=true then Q true H1 else u σ H1 Q
def Bl (t:TT):TT:=λσ H Q=>t σ H λc H1=>Q (!c) H1
theorem pw_and1 (ha:PT X a tA):PW X (.BoolOp .And [a] pos) tA:=by
 intro wh pins s σ H Q I h
 refine isTrue_and (thn (ha pins s σ H Q I h) λc s1 e=>?_)
 cases c with
 | true=>exact isTrue_and_nil e
 | false=>exact e
theorem pw_or1 (ha:PT X a tA):PW X (.BoolOp .Or [a] pos) tA:=by
 intro wh pins s σ H Q I h
 refine isTrue_or (thn (ha pins s σ H Q I h) λc s1 e=>?_)
 cases c with
 | false=>exact isTrue_or_nil e
 | true=>exact e
theorem pw_and (ha:PT X a tA) (hb:PW X (.BoolOp .And (b :: rest) pos) tB'):PW X (.BoolOp .And (a :: b :: rest) pos) (vc tA tB'):=by
 intro wh pins s σ H Q I h
 refine isTrue_and (thn (ha pins s σ H _ I h) λc s1 ⟨H1,I1,q1⟩=>?_)
 cases c with
 | true=>exact hb wh pins s1 σ H1 Q I1 q1
 | false=>exact ⟨H1,I1,q1⟩
theorem pw_or (ha:PT X a tA) (hb:PW X (.BoolOp .Or (b :: rest) pos) tB'):PW X (.BoolOp .Or (a :: b :: rest) pos) (tOr tA tB'):=by
 intro wh pins s σ H Q I h
 refine isTrue_or (thn (ha pins s σ H _ I h) λc s1 ⟨H1,I1,q1⟩=>?_)
 cases c with
 | true=>exact ⟨H1,I1,q1⟩
 | false=>exact hb wh pins s1 σ H1 Q I1 q1
theorem pt_not (ha:PT X a tA):PT X (.UnaryOp .Not a pos) (Bl tA):=by
 intro pins s σ H Q I h
 exact isTrue_not (ha pins s σ H (λc H1=>Q (!c) H1) I h)
def An (ta tb:TE):TE:=λσ H Q=>ta σ H λx H1=>∃ c,x=.bl c/\if c=true then tb σ H1 Q else Q (.bl false) H1
def Ax (ta tb:TE):TE:=λσ H Q=>ta σ H λx H1=>∃ c,x=.bl c/\if c=true then Q (.bl true) H1 else tb σ H1 Q
def zX (ta:TE):TE:=λσ H Q=>ta σ H λx H1=>∃ c,x=.bl c/\Q (.bl (!c)) H1
theorem pe_one {op} {t:TE} (h:PE X a t):PE X (.BoolOp op [a] pos) t:=λpins s σ H Q I hw=>BoolOp_one (h pins s σ H Q I hw)
theorem pe_and (ha:PE X a ta) (hb:PE X (.BoolOp .And (b :: rest) pos) tb):PE X (.BoolOp .And (a :: b :: rest) pos) (An ta tb):=by
 intro pins s σ H Q I h
 refine BoolOp_and (thn (ha pins s σ H _ I h) λv s1 ⟨x,H1,I1,r1,q1⟩=>?_)
 obtain ⟨c,rfl,q1⟩:=q1
 cases r1
 refine e_ ?_
 cases c with
 | true=>exact hb pins s1 σ H1 Q I1 q1
 | false=>exact ⟨.bl false,H1,I1,rfl,q1⟩
theorem pe_or (ha:PE X a ta) (hb:PE X (.BoolOp .Or (b :: rest) pos) tb):PE X (.BoolOp .Or (a :: b :: rest) pos) (Ax ta tb):=by
 intro pins s σ H Q I h
 refine BoolOp_or (thn (ha pins s σ H _ I h) λv s1 ⟨x,H1,I1,r1,q1⟩=>?_)
 obtain ⟨c,rfl,q1⟩:=q1
 cases r1
 refine e_ ?_
 cases c with
 | false=>exact hb pins s1 σ H1 Q I1 q1
 | true=>exact ⟨.bl true,H1,I1,rfl,q1⟩
theorem pe_not (ha:PE X a ta):PE X (.UnaryOp .Not a pos) (zX ta):=by
 intro pins s σ H Q I h
 refine UnaryOp_ (thn (ha pins s σ H _ I h) λv s1 ⟨x,H1,I1,r1,q1⟩=>?_)
 obtain ⟨c,rfl,q1⟩:=q1
 cases r1
 exact not_of (e_ ⟨.bl (!c),H1,I1,rfl,q1⟩)
def tIf (t:TT) (ta tb:TE):TE:=λσ H Q=>t σ H λc H1=>if c=true then ta σ H1 Q else tb σ H1 Q
theorem pe_ifExp {c:Expr} (hc:PT X c tA) (ha:PE X a ta) (hb:PE X b tb):PE X (.IfExp c a b pos) (tIf tA ta tb):=by
 intro pins s σ H Q I h
 refine wpAny_IfExp (thn (hc pins s σ H _ I h) λd s1 ⟨H1,I1,q1⟩=>?_)
 cases d with
 | true=>exact ha pins s1 σ H1 Q I1 q1
 | false=>exact hb pins s1 σ H1 Q I1 q1
end
def SqL (K:ι) (H:Hp) (a:Addr) (xs:List V):Prop:=
 Rd H a (.lst xs) \/
  ∃ (o:Obj) (its:Array δ) (n:Nat),K.lookup a=some o/\o.cls=.type "list"/\o.dict=none/\o.data=.seq its n/\its.size<=sizeLine/\ar xs its.toList
def SqT (K:ι) (H:Hp) (a:Addr) (xs:List V):Prop:=
 Rd H a (.tup xs) \/
  ∃ (o:Obj) (its:Array δ) (n:Nat),K.lookup a=some o/\o.cls=.type "tuple"/\o.data=.seq its n/\its.size<=sizeLine/\ar xs its.toList
def Bm:δ->Option V
 | .none=>some .non
 | .bool b=>some (.bl b)
 | .int i _=>some (.int i)
 | .str x _=>some (.str x)
 | .bytes b _=>some (.byt b)
 | .float b _=>some (.flt b)
 | .ref a=>some (.ref a)
 | .type n=>some (.ty n)
 | _=>none
theorem aw.abs {x:V} {u:δ} (r:aw x u):Bm u=some x:=by
 cases x with
 | non=>cases r; rfl
 | bl _=>cases r; rfl
 | int _=>obtain ⟨t,rfl⟩:=r; rfl
 | str _=>obtain ⟨t,rfl⟩:=r; rfl
 | byt _=>obtain ⟨t,rfl⟩:=r; rfl
 | flt _=>obtain ⟨t,rfl⟩:=r; rfl
 | ref _=>cases r; rfl
 | ty _=>cases r; rfl
theorem aw.inj {x y:V} {u:δ} (r:aw x u) (q:aw y u):x=y:=Ϝ (r.abs.symm.trans q.abs)
theorem ar.inj:∀ {xs ys:List V} {us:List δ},ar xs us->ar ys us->xs=ys
 | _,_,_,.nil,.nil=>rfl
 | _,_,_,.cons r t,.cons r' t'=>by rw [r.inj r',ar.inj t t']
section
variable {X:Cx} {pins:List (Addr×Obj)} {σ:St} {H:Hp} {s:ζ} {a:Addr} {xs ys:List V}
theorem SqL.of {K:ι} (h:H a=some (.lst xs)):SqL K H a xs:=.inl (.inl h)
theorem SqT.of {K:ι} (h:H a=some (.tup xs)):SqT K H a xs:=.inl (.inl h)
theorem Inv.list (I:Inv X pins σ H s) (h:SqL X.K H a xs):∃ its:List δ,ar xs its/\PlainL s.heap a its.toArray/\xs.length<=sizeLine:=by
 rcases h with h | ⟨o,its,n,hk,hc,hd,hs,hz,r⟩
 ·obtain ⟨z,its,n,r,e⟩:=h.ok I.hok
  exact ⟨its,r,⟨_,n,e,rfl,rfl,rfl⟩,z⟩
 ·refine ⟨its.toList,r,⟨o,n,I.kIn a o hk,hc,hd,by simpa using hs⟩,?_⟩
  have e:=r.length
  simp only [ϗ] at e
  omega
theorem Inv.tuple (I:Inv X pins σ H s) (h:SqT X.K H a xs):∃ its:List δ,ar xs its/\Fy s.heap a its.toArray/\xs.length<=sizeLine:=by
 rcases h with h | ⟨o,its,n,hk,hc,hs,hz,r⟩
 ·obtain ⟨z,its,r,p⟩:=h.ok I.hok
  exact ⟨its,r,p.1,z⟩
 ·refine ⟨its.toList,r,⟨o,I.kIn a o hk,hc,n,by simpa using hs⟩,?_⟩
  have e:=r.length
  simp only [ϗ] at e
  omega
theorem Inv.list_inj (I:Inv X pins σ H s) (h:SqL X.K H a xs) (h':SqL X.K H a ys):xs=ys:=by
 obtain ⟨its,r,⟨o,n,e,_,_,d⟩,_⟩:=I.list h
 obtain ⟨its',r',⟨o',n',e',_,_,d'⟩,_⟩:=I.list h'
 rw [e] at e'; cases e'
 rw [d] at d'
 injection d' with d1 _
 have:its=its':=by simpa using congrArg Array.toList d1
 subst this
 exact r.inj r'
theorem Inv.tuple_inj (I:Inv X pins σ H s) (h:SqT X.K H a xs) (h':SqT X.K H a ys):xs=ys:=by
 obtain ⟨its,r,⟨o,e,_,n,d⟩,_⟩:=I.tuple h
 obtain ⟨its',r',⟨o',e',_,n',d'⟩,_⟩:=I.tuple h'
 rw [e] at e'; cases e'
 rw [d] at d'
 injection d' with d1 _
 have:its=its':=by simpa using congrArg Array.toList d1
 subst this
 exact r.inj r'
end
abbrev Cx.wish (X:Cx) (E:δ->ζ->Prop):Cx:={ X with xe:=E }
abbrev Cx.nox (X:Cx):Cx:=X.wish λ_ _=>False
theorem Cx.Ok.wish {X:Cx} (ok:X.Ok) (E:δ->ζ->Prop):(X.wish E).Ok:=
 ⟨ok.mod,ok.kind,ok.glob,ok.blt,ok.above,ok.inj,ok.has,ok.cab,ok.hd,ok.frames,ok.stk,ok.exf,ok.bs,ok.bsz,ok.noex,ok.exfs,ok.funs,ok.frf⟩
theorem Cx.Ok.unwish {X:Cx} {E:δ->ζ->Prop} (ok:(X.wish E).Ok):X.Ok:=
 ⟨ok.mod,ok.kind,ok.glob,ok.blt,ok.above,ok.inj,ok.has,ok.cab,ok.hd,ok.frames,ok.stk,ok.exf,ok.bs,ok.bsz,ok.noex,ok.exfs,ok.funs,ok.frf⟩
section
variable {X:Cx} {pins:List (Addr×Obj)} {σ:St} {H:Hp} {s:ζ} {E:δ->ζ->Prop}
theorem Inv.wish (I:Inv X pins σ H s) (E:δ->ζ->Prop):Inv (X.wish E) pins σ H s:=⟨I.ok.wish E,I.os,I.bare,I.base,I.loc,I.cell,I.free,I.freeC,I.pin,I.hok,I.len⟩
theorem Inv.unwish (I:Inv (X.wish E) pins σ H s):Inv X pins σ H s:=⟨I.ok.unwish,I.os,I.bare,I.base,I.loc,I.cell,I.free,I.freeC,I.pin,I.hok,I.len⟩
theorem SP.unwish {D:bP} {f:Flow} {s':ζ} (h:SP (X.wish E) pins D f s'):SP X pins D f s':=by
 cases f with
 | next=>obtain ⟨σ',H',I,q⟩:=h; exact ⟨σ',H',I.unwish,q⟩
 | brk=>obtain ⟨σ',H',I,q⟩:=h; exact ⟨σ',H',I.unwish,q⟩
 | cont=>obtain ⟨σ',H',I,q⟩:=h; exact ⟨σ',H',I.unwish,q⟩
 | ret u=>obtain ⟨v,σ',H',I,r,q⟩:=h; exact ⟨v,σ',H',I.unwish,r,q⟩
theorem PSs.nox {st:List Stmt} {t:TS} (h:PSs X.nox st t):PSs X st t:=λpins s σ H D I hw=>
 Ϻ (h pins s σ H D (I.wish _) hw) (λ_ _ q=>q.unwish) λ_ _ z=>k8 z
end
section
variable {X:Cx} {st:Stmt} {rest:List Stmt} {t u:TS} {e:Expr} {te:TE} {pos:Pos}
def xP:TS:=λD σ H=>D.nx σ H
def sZ (t u:TS):TS:=λD σ H=>t { D with nx:=u D } σ H
theorem pss_nil:PSs X [] xP:=λ_ _ σ H _ I h=>Cc ⟨σ,H,I,h⟩
theorem pss_cons (h1:PS X st t) (h2:PSs X rest u):PSs X (st :: rest) (sZ t u):=by
 intro pins s σ H D I h
 refine EL (thn (h1 pins s σ H { D with nx:=u D } I h) λf s1 q=>?_)
 cases f with
 | next=>
  obtain ⟨σ',H',I',q⟩:=q
  exact h2 pins s1 σ' H' D I' q
 | ret v=>exact q
 | brk=>exact q
 | cont=>exact q
theorem pss_one (h1:PS X st t):PSs X [st] t:=by
 intro pins s σ H D I h
 refine EL (thn (h1 pins s σ H D I h) λf s1 q=>?_)
 cases f with
 | next=>exact Cc q
 | ret v=>exact q
 | brk=>exact q
 | cont=>exact q
theorem Inv.quiet {pins:List (Addr×Obj)} {σ:St} {H:Hp} {s:ζ} (I:Inv X pins σ H s):interactive X.env=false:=by simp [interactive,I.ok.kind]
def Ao (te:TE):TS:=λD σ H=>te σ H λ_ H1=>D.nx σ H1
theorem ps_expr (he:PE X e te) (hs:swapsWith e none pos.line X.env=pure false:=by rfl):PS X (.Expr e pos) (Ao te):=by
 intro pins s σ H D I h
 exact wpAny_Expr_any (thn (he pins s σ H _ I h) λv s1 ⟨x,H1,I1,r1,q1⟩=>⟨σ,H1,I1,q1⟩) I.quiet hs
def zA (te:TE):TS:=λD σ H=>te σ H D.rt
theorem ps_ret (he:PE X e te):PS X (.Return (some e) pos) (zA te):=by
 intro pins s σ H D I h
 exact wpAny_Return_some (thn (he pins s σ H _ I h) λv s1 ⟨x,H1,I1,r1,q1⟩=>⟨x,σ,H1,I1,r1,q1⟩)
def Bs (c:TT) (t u:TS):TS:=λD σ H=>c σ H λb H1=>if b=true then t D σ H1 else u D σ H1
theorem ps_if {c:Expr} {a b:List Stmt} {tc:TT} (hc:PT X c tc) (ha:PSs X a t) (hb:PSs X b u):PS X (.If c a b pos) (Bs tc t u):=by
 intro pins s σ H D I h
 refine wpAny_If (thn (hc pins s σ H _ I h) λd s1 ⟨H1,I1,q1⟩=>?_)
 cases d with
 | true=>exact ha pins s1 σ H1 D I1 q1
 | false=>exact hb pins s1 σ H1 D I1 q1
end
abbrev TG:=V->St->Hp->(St->Hp->Prop)->Prop
abbrev TGs:=List V->St->Hp->(St->Hp->Prop)->Prop
def PG (X:Cx) (target:Expr) (t:TG):Prop:=
 ∀ (pins:List (Addr×Obj)) (s:ζ) (σ:St) (H:Hp) (v:V) (u:δ) (Q:St->Hp->Prop),Inv X pins σ H s->aw v u->t v σ H Q ->
  wpAny (model X.prog X.w) X.A (assign target X.env u) (λ_ s'=>∃ σ' H',Inv X pins σ' H' s'/\Q σ' H') X.xe s
def PGs (X:Cx) (ts:List Expr) (t:TGs):Prop:=
 ∀ (pins:List (Addr×Obj)) (s:ζ) (σ:St) (H:Hp) (vs:List V) (us:List δ) (Q:St->Hp->Prop),Inv X pins σ H s->ar vs us->t vs σ H Q ->
  wpAny (model X.prog X.w) X.A (assignInOrder ((assignEach ts X.env).map (·.2)) us) (λ_ s'=>∃ σ' H',Inv X pins σ' H' s'/\Q σ' H') X.xe s
abbrev zH:=V->V->V->Hp->(Hp->Prop)->Prop
def Ae (X:Cx) (t:zH):Prop:=
 ∀ (pins:List (Addr×Obj)) (s:ζ) (σ:St) (H:Hp) (o i v:V) (ov iv u:δ) (Q:Hp->Prop),Inv X pins σ H s->aw o ov->aw i iv->aw v u->t o i v H Q ->
  wpAny (model X.prog X.w) X.A (setItem ov iv u) (λ_ s'=>∃ H',Inv X pins σ H' s'/\Q H') X.xe s
abbrev TIp:=V->V->Hp->VK->Prop
def PIp (X:Cx) (op:Operator) (t:TIp):Prop:=
 ∀ (pins:List (Addr×Obj)) (s:ζ) (σ:St) (H:Hp) (x y:V) (v u:δ) (Q:VK),Inv X pins σ H s->aw x v->aw y u->t x y H Q ->
  wpAny (model X.prog X.w) X.A (inplaceOp op v u) (EP X pins σ Q) X.xe s
section
variable {X:Cx} {pos:Pos}
def cb (i:Nat):TG:=λv σ H Q=>Q (σ.set i (some v)) H
theorem pg_name {i:Nat} {x:Str} (hN:X.N.Nodup) (hi:X.N[i]?=some x) (hx:Loc X.env.scope x) (hf:X.fn x=true\/X.env.scope.names.lookup x=some .local:=by first | exact .inl rfl | exact .inr rfl | assumption):PG X (.Name x pos) (cb i):=by
 intro pins s σ H v u Q I r h
 exact wpAny_assign_Name (fz I hN hi hx r (λs' I'=>⟨_,H,I',h⟩) hf)
def oj:TGs:=λvs σ H Q=>vs=[]/\Q σ H
def el (t:TG) (u:TGs):TGs:=λvs σ H Q=>∃ v r,vs=v :: r/\t v σ H λσ' H'=>u r σ' H' Q
theorem pgs_nil:PGs X [] oj:=by
 intro pins s σ H vs us Q I r h
 obtain ⟨e,h⟩:=h
 subst e
 cases r
 exact assignInOrder_nil ⟨σ,H,I,h⟩
theorem pgs_cons {e:Expr} {es:List Expr} {t:TG} {u:TGs} (h1:PG X e t) (h2:PGs X es u)
  (hs:(assignEach (e :: es) X.env).map (·.2)=assign e X.env :: (assignEach es X.env).map (·.2):=by rfl):PGs X (e :: es) (el t u):=by
 intro pins s σ H vs us Q I r h
 obtain ⟨v,vr,e1,h⟩:=h
 subst e1
 cases r with
 | cons r rr=>
  rw [hs]
  refine assignInOrder_cons (thn (h1 pins s σ H _ _ _ I r h) λ_ s1 ⟨σ1,H1,I1,q1⟩=>?_)
  exact h2 pins s1 σ1 H1 _ _ Q I1 rr q1
def uL (K:ι) (n:Nat) (t:TGs):TG:=λv σ H Q=>∃ a xs,v=.ref a/\SqT K H a xs/\xs.length=n/\t xs σ H Q
theorem pg_tup {es:List Expr} {k:Nat} {t:TGs} {n:Nat} (hc:X.calm=true) (h:PGs X es t)
  (hn:(assignEach es X.env).length=n:=by rfl) (hst:(assignEach es X.env).findIdx? (·.1)=none:=by rfl):PG X (.Tuple es k pos) (uL X.K n t):=by
 intro pins s σ H v u Q I r hw
 obtain ⟨a,xs,e1,hq,hl,hw⟩:=hw
 subst e1
 cases r
 obtain ⟨its,rv,ht,hz⟩:=I.tuple hq
 refine assign_Tuple_tuple (I.ok.hd hc) ht (by simp [hn,<- hl,rv.length]) hst λh' hx=>?_
 have I1:Inv X pins σ H { s with heap:=h' }:=I.kept (t':=s.toks) λb o e=>hx b o (Ρ (χ e)) e
 exact h pins _ σ H xs _ Q I1 (by simpa using rv) hw
def Bp (to ti:TE) (t:zH):TG:=λv σ H Q=>to σ H λo H1=>ti σ H1 λi H2=>t o i v H2 λH3=>Q σ H3
theorem pg_sub {o i:Expr} {to ti:TE} {t:zH} (ho:PE X o to) (hi:PE X i ti) (hs:Ae X t)
  (ha:∀ v,assign (.Subscript o i pos) X.env v=(do
   let ov <- holding [v] (eval o X.env)
   let iv <- holding [v,ov] (eval i X.env)
   standAt pos
   holding [v,ov,iv] (setItem ov iv v)
   release [v,ov,iv] []):=by intro _; rfl):PG X (.Subscript o i pos) (Bp to ti t):=by
 intro pins s σ H v u Q I r h
 rw [ha]
 refine γ (ϻ (thn (ho pins s σ H _ I h) λov s1 ⟨x,H1,I1,r1,q1⟩=>?_))
 refine γ (ϻ (thn (hi pins s1 σ H1 _ I1 q1) λiv s2 ⟨y,H2,I2,r2,q2⟩=>?_))
 refine γ (Dx (γ (ϻ (thn (hs pins s2 σ H2 x y v ov iv u _ I2 r1 r2 r q2) λ_ s3 ⟨H3,I3,q3⟩=>?_))))
 exact wpAny_release ⟨σ,H3,I3,q3⟩
def xM (te:TE) (g:TG):TS:=λD σ H=>te σ H λx H1=>g x σ H1 D.nx
theorem ps_asg {tg e:Expr} {te:TE} {g:TG} (he:PE X e te) (hg:PG X tg g) (hs:swapsWithSole [tg] e pos.line X.env=pure false:=by rfl) (hw:swappedStores [tg] e X.env=pure none:=by rfl)
  (h1:(assignEach [tg] X.env).map (·.2)=[assign tg X.env]:=by rfl):PS X (.Assign [tg] e pos) (xM te g):=by
 intro pins s σ H D I h
 refine wpAny_Assign_stores (thn (he pins s σ H _ I h) λv s1 ⟨x,H1,I1,r1,q1⟩=>?_) hs hw
 rw [h1]
 exact thn (hg pins s1 σ H1 x v _ I1 r1 q1) λ_ s2 q=>q
theorem ps_set {i:Nat} {x:Str} {e:Expr} {te:TE} {pos':Pos} (hN:X.N.Nodup) (hi:X.N[i]?=some x) (hx:Loc X.env.scope x) (he:PE X e te) (hs:swapsWith e (some (.Name x pos')) pos.line X.env=pure false:=by rfl) (hf:X.fn x=true\/X.env.scope.names.lookup x=some .local:=by first | exact .inl rfl | exact .inr rfl | assumption) :
  PS X (.Assign [.Name x pos'] e pos) (xM te (cb i)):=by
 intro pins s σ H D I h
 refine wpAny_Assign_Name (thn (he pins s σ H _ I h) λv s1 ⟨y,H1,I1,r1,q1⟩=>?_) hs
 exact fz I1 hN hi hx r1 (λs2 I2=>⟨_,H1,I2,q1⟩) hf
def BA (i:Nat) (te:TE) (ti:TIp):TS:=λD σ H=>∃ x,σ[i]?=some (some x)/\te σ H λy H1=>ti x y H1 λz H2=>D.nx (σ.set i (some z)) H2
theorem ps_aug {i:Nat} {x:Str} {e:Expr} {te:TE} {op:Operator} {ti:TIp} {pos':Pos} (hN:X.N.Nodup) (hi:X.N[i]?=some x) (hx:Loc X.env.scope x) (he:PE X e te) (ho:PIp X op ti) (hf:X.fn x=true\/X.env.scope.names.lookup x=some .local:=by first | exact .inl rfl | exact .inr rfl | assumption) :
  PS X (.AugAssign (.Name x pos') op e pos) (BA i te ti):=by
 intro pins s σ H D I h
 obtain ⟨v,e1,h⟩:=h
 obtain ⟨m,hn,hl⟩:=I.loc
 have vis:Vis X.env.scope x:=by rcases hx with k | k; exact .inl k; exact .inr (.inl k)
 obtain ⟨u,r,l⟩:=hl i x v hi e1 vis
 refine wpAny_AugAssign_Name ?_
 have go:wpAny (model X.prog X.w) X.A (eval e X.env) (λw s₂=>wpAny (model X.prog X.w) X.A (inplaceOp op u w) (λr s₃=>wpAny (model X.prog X.w) X.A (storeName X.env x r) (λ_=>SP X pins D .next) X.xe s₃) X.xe s₂) X.xe s:=by
  refine thn (he pins s σ H _ I h) λw s1 ⟨y,H1,I1,r1,q1⟩=>?_
  refine thn (ho pins s1 σ H1 v y u w _ I1 r r1 q1) λz s2 ⟨zv,H2,I2,r2,q2⟩=>?_
  exact fz I2 hN hi hx r2 (λs3 I3=>⟨_,H2,I3,q2⟩) hf
 rcases l with ⟨hk,hm⟩ | ⟨hk,c,hc,hcell⟩
 ·exact wpAny_loadName_local I.ok.kind hk hn hm go
 ·rcases hk with hk | hk
  ·exact wpAny_loadName_cell I.ok.kind hk hc hcell go
  ·rcases hx with k | k
   ·have:X.env.scope.names.lookup x=some .free:=hk
    rw [k] at this; cases this
   ·have:X.env.scope.names.lookup x=some .free:=hk
    rw [k] at this; cases this
def ipI (f:Int->Int->Int):TIp:=λx y H Q=>∃ i j,x=.int i/\y=.int j/\Q (.int (f i j)) H
theorem vF:PIp X .Add (ipI λi j=>i + j):=by
 intro pins s σ H x y v u Q I r1 r2 h
 obtain ⟨i,j,e1,e2,q⟩:=h
 subst e1; subst e2
 obtain ⟨t,rfl⟩:=r1
 obtain ⟨t',rfl⟩:=r2
 exact iadd_int ⟨.int _,H,I.tok _,⟨_,rfl⟩,q⟩
end
section
variable {X:Cx} {pos:Pos}
def oW (c:TT) (tb:TS):TS:=λD σ H=>∃ W:Nat->St->Hp->Prop,(∃ m,W m σ H)/\∀ m σ H,W m σ H ->
 c σ H λb H1=>if b=true then ∃ N:St->Hp->Prop,(∀ σ' H',N σ' H'->∃ m',m' < m/\W m' σ' H')/\tb { D with nx:=N,ct:=N,bk:=D.nx } σ H1 else D.nx σ H1
theorem ps_while {c:Expr} {body:List Stmt} {tc:TT} {tb:TS} (hp:PassesOwn (model X.prog X.w) X.A X.env X.xe) (hc:PT X c tc) (hb:PSs X body tb):PS X (.While c body [] pos) (oW tc tb):=by
 intro pins s σ H D I h
 obtain ⟨W,⟨m0,w0⟩,turn⟩:=h
 refine wpAny_While (codeAny_whileLoop (λn s'=>∃ σ' H',Inv X pins σ' H' s'/\W n σ' H') ?_ m0 ⟨σ,H,I,w0⟩)
 rintro n s1 ⟨σ1,H1,I1,w1⟩
 refine A_ hp (thn (hc pins s1 σ1 H1 _ I1 (turn n σ1 H1 w1)) λb s2 ⟨H2,I2,q2⟩=>?_)
 cases b with
 | true=>
  obtain ⟨N,hN,q2⟩:=q2
  rw [if_pos rfl]
  refine A_ hp (thn (hb pins s2 σ1 H2 _ I2 q2) λf s3 q3=>?_)
  cases f with
  | next=>
   obtain ⟨σ3,H3,I3,n3⟩:=q3
   obtain ⟨m',hm,w3⟩:=hN σ3 H3 n3
   exact ⟨m',hm,σ3,H3,I3,w3⟩
  | cont=>
   obtain ⟨σ3,H3,I3,n3⟩:=q3
   obtain ⟨m',hm,w3⟩:=hN σ3 H3 n3
   exact ⟨m',hm,σ3,H3,I3,w3⟩
  | brk=>exact q3
  | ret v=>exact q3
 | false=>
  rw [if_neg Θ]
  exact Cc ⟨σ1,H2,I2,q2⟩
end
structure It where
 go:Nat->Hp->Prop
 yld:Nat->Hp->V->Hp->Prop
 stop:Nat->Hp->Prop
def ig (X:Cx) (pins:List (Addr×Obj)) (H:Hp) (b:Addr):Prop:=
 H b=none/\b≠X.env.locals/\b∉X.fs/\(b∈X.ex\/X.s₀.heap.objs.size<=b)/\(∀ x c,X.env.cells.lookup x=some c->c≠b)/\∀ p∈X.pn ++ pins,p.1≠b
theorem Inv.fpOk {X:Cx} {pins:List (Addr×Obj)} {σ:St} {H H':Hp} {s:ζ} {b:Addr} (I:Inv X pins σ H s) (hb:s.heap.objs.size<=b) (hn:H' b=none):ig X pins H' b:=by
 refine ⟨hn,j7 (ϔ I.lt hb),I.nofs hb,.inr (ϟ I.sz hb),λx c e z=>?_,λp hp z=>?_⟩
 ·obtain ⟨v,q⟩:=I.cell x c e
  exact absurd (ϔ q.lt (by rw [z]; exact hb)) (y6 _)
 ·exact absurd (ϔ (χ (I.pin p hp).1) (by rw [z]; exact hb)) (y6 _)
structure jh (P:Β) (w:Ν) (K:ι) (tg:Expr) (J:It) (fp:List Addr) (it:Addr) (tn:Nat->Heap->Prop):Prop where
 mem:it∈fp
 obj:∀ i h,tn i h->∀ b∈fp,∃ o,h.get? b=some o/\∀ v,o.data≠.cell v
 keep:∀ i h h',tn i h->(∀ b∈fp,∀ o,h.get? b=some o->h'.get? b=some o)->tn i h'
 item:∀ (X:Cx),X.prog=P->X.w=w->X.K=K->X.calm=true->∀ (i:Nat) (pins:List (Addr×Obj)) (s:ζ) (σ:St) (H:Hp) (E:δ->ζ->Prop),Inv X pins σ H s->(∀ b∈fp,ig X pins H b)->tn i s.heap->J.go i H ->
  wpAny (model P w) X.A (pyNext (.ref it)) (λr s1=>∃ u,r=some u /\
   wpAny (model P w) X.A (letOwnedTupleGo tg (.ref it) u) (λ_ s2=>∃ x H',Inv X pins σ H' s2/\aw x u/\J.yld i H x H'/\tn (i + 1) s2.heap/\∀ b∈fp,H' b=none) E s1) E s
 done:∀ (X:Cx),X.prog=P->X.w=w->X.K=K->X.calm=true->∀ (i:Nat) (pins:List (Addr×Obj)) (s:ζ) (σ:St) (H:Hp) (E:δ->ζ->Prop),Inv X pins σ H s->(∀ b∈fp,ig X pins H b)->tn i s.heap->J.stop i H ->
  wpAny (model P w) X.A (pyNext (.ref it)) (λr s1=>r=none/\Inv X pins σ H s1) E s
 self:∀ (A:Χ) (i:Nat) (s:ζ) (Q:δ->ζ->Prop) (E:δ->ζ->Prop),tn i s.heap->Q (.ref it) s->wpAny (model P w) A (pyIter (.ref it)) Q E s
abbrev TI:=St->Hp->(It->Hp->Prop)->Prop
def PIE (X:Cx) (pins:List (Addr×Obj)) (σ:St) (tg:Expr) (R:It->Hp->Prop) (itv:δ) (s2:ζ):Prop:=
 ∃ (it:Addr) (fp:List Addr) (tn:Nat->Heap->Prop) (J:It) (H':Hp),itv=.ref it/\Inv X pins σ H' s2/\jh X.prog X.w X.K tg J fp it tn/\tn 0 s2.heap/\(∀ b∈fp,ig X pins H' b)/\R J H'
def PI (X:Cx) (tg iter:Expr) (wi:TI):Prop:=
 ∀ (pins:List (Addr×Obj)) (s:ζ) (σ:St) (H:Hp) (R:It->Hp->Prop),Inv X pins σ H s->wi σ H R ->
  wpAny (model X.prog X.w) X.A (eval iter X.env) (λv s1=>wpAny (model X.prog X.w) X.A (pyIter v) (PIE X pins σ tg R) X.xe s1) X.xe s
theorem qB {M:Fa} {A:Χ} {E:δ->ζ->Prop} {s:ζ} {tg:Expr} {it:Addr} {u:δ} {o:Obj} {n:String} {vs:Array δ} {Q:Unit->ζ->Prop} (ho:s.heap.get? it=some o) (hc:o.cls=.type n) (hd:o.data=.fields vs)
  (hn:["enumerate","zip","dict_itemiterator","dict_reverseitemiterator","odict_iterator","itertools.zip_longest","itertools.pairwise"].contains n=false) (hQ:Q () s):wpAny M A (letOwnedTupleGo tg (.ref it) u) Q E s:=by
 unfold letOwnedTupleGo
 cases tg <;> first
  | exact μ hQ
  | (cases u <;> first
    | exact μ hQ
    | (refine γ (Fp ho ?_)
       rw [hc,hd]
       show wpAny M A (if (["enumerate","zip","dict_itemiterator","dict_reverseitemiterator","odict_iterator","itertools.zip_longest","itertools.pairwise"].contains n && vs[0]? == some (rawInt _))=true then _ else _) Q E s
       rw [if_neg (by intro h; rw [hn,i6] at h; cases h)]
       exact μ hQ))
def Itl (K:ι) (a:Addr):It:=
 ⟨λi H=>∃ xs x,SqL K H a xs/\xs[i]?=some x,λi H x H'=>H'=H/\∀ xs,SqL K H a xs->xs[i]?=some x,λi H=>∃ xs,SqL K H a xs/\xs.length<=i⟩
def Itt (K:ι) (a:Addr):It:=
 ⟨λi H=>∃ xs x,SqT K H a xs/\xs[i]?=some x,λi H x H'=>H'=H/\∀ xs,SqT K H a xs->xs[i]?=some x,λi H=>∃ xs,SqT K H a xs/\xs.length<=i⟩
def Itr (lo:Int) (n:Nat):It:=⟨λi _=>i < n,λi H x H'=>H'=H/\x=.int (lo + i),λi _=>n<=i⟩
theorem sN {P:Β} {w:Ν} {K:ι} {tg:Expr} (a it:Addr):jh P w K tg (Itl K a) [it] it (λi h=>h.IsListIter it a i) where
 mem:=by simp
 obj:=λi h st b hb=>by
  have e:b=it:=by simpa using hb
  subst e
  obtain ⟨o,e,c,d⟩:=st
  exact ⟨o,e,λv z=>by rw [d] at z; cases z⟩
 keep:=λi h h' st k=>st.at λo e=>k it ∅ o e
 item:=by
  intro X hP hw hK hc i pins s σ H E I hf st hg
  subst hP hw hK
  obtain ⟨xs,x,hq,hx⟩:=hg
  obtain ⟨its,rv,p,hz⟩:=I.list hq
  obtain ⟨u,hu,ru⟩:=rv.get hx
  obtain ⟨f0,f1,f2,f3,f4,f5⟩:=hf it ∅
  refine wpAny_pyNext_list_item st p.isList (x:=u) (by simpa using hu) λh' st' sb=>?_
  have I1:Inv X pins σ H { s with heap:=h' }:=I.turned (t':=s.toks) (λb o hb e=>(sb.2 b hb).trans e) f0 f1 f3 f4 f5
  obtain ⟨o,e,c,d⟩:=id st'
  exact ⟨u,rfl,qB (s:={ s with heap:=h' }) e c d ∅ ⟨x,H,I1,ru,⟨rfl,λys hy=>by rw [I.list_inj hy hq]; exact hx⟩,st',λb hb=>(hf b hb).1⟩⟩
 done:=by
  intro X hP hw hK hc i pins s σ H E I hf st hg
  subst hP hw hK
  obtain ⟨xs,hq,hx⟩:=hg
  obtain ⟨its,rv,p,hz⟩:=I.list hq
  obtain ⟨f0,f1,f2,f3,f4,f5⟩:=hf it ∅
  have hl:=rv.length
  exact wpAny_pyNext_list_end (I.ok.hd hc) st p.isList (by simp; omega) λh' eb=>⟨rfl,I.turned (t':=s.toks) (λb o hb e=>eb b o hb e) f0 f1 f3 f4 f5⟩
 self:=λ_ _ _ _ _ st h=>wpAny_pyIter_listiter st h
theorem pQ {P:Β} {w:Ν} {K:ι} {tg:Expr} (a it:Addr):jh P w K tg (Itt K a) [it] it (λi h=>h.IsTupleIter it a i) where
 mem:=by simp
 obj:=λi h st b hb=>by
  have e:b=it:=by simpa using hb
  subst e
  obtain ⟨o,e,c,d⟩:=st
  exact ⟨o,e,λv z=>by rw [d] at z; cases z⟩
 keep:=λi h h' st k=>st.at λo e=>k it ∅ o e
 item:=by
  intro X hP hw hK hc i pins s σ H E I hf st hg
  subst hP hw hK
  obtain ⟨xs,x,hq,hx⟩:=hg
  obtain ⟨its,rv,p,hz⟩:=I.tuple hq
  obtain ⟨u,hu,ru⟩:=rv.get hx
  obtain ⟨f0,f1,f2,f3,f4,f5⟩:=hf it ∅
  refine wpAny_pyNext_tuple_item st (show s.heap.IsTuple a its.toArray from p) (x:=u) (by simpa using hu) λh' st' sb=>?_
  have I1:Inv X pins σ H { s with heap:=h' }:=I.turned (t':=s.toks) (λb o hb e=>(sb.2 b hb).trans e) f0 f1 f3 f4 f5
  obtain ⟨o,e,c,d⟩:=id st'
  exact ⟨u,rfl,qB (s:={ s with heap:=h' }) e c d ∅ ⟨x,H,I1,ru,⟨rfl,λys hy=>by rw [I.tuple_inj hy hq]; exact hx⟩,st',λb hb=>(hf b hb).1⟩⟩
 done:=by
  intro X hP hw hK hc i pins s σ H E I hf st hg
  subst hP hw hK
  obtain ⟨xs,hq,hx⟩:=hg
  obtain ⟨its,rv,p,hz⟩:=I.tuple hq
  obtain ⟨f0,f1,f2,f3,f4,f5⟩:=hf it ∅
  have hl:=rv.length
  exact wpAny_pyNext_tuple_end (I.ok.hd hc) st (show s.heap.IsTuple a its.toArray from p) (by simp; omega) λh' eb=>⟨rfl,I.turned (t':=s.toks) (λb o hb e=>eb b o hb e) f0 f1 f3 f4 f5⟩
 self:=λ_ _ _ _ _ st h=>wpAny_pyIter_tupleiter st h
theorem pZ {P:Β} {w:Ν} {K:ι} {tg:Expr} (it:Addr) (lo:Int) (n:Nat):jh P w K tg (Itr lo n) [it] it (λi h=>IsRangeIter h it (lo + (i:Nat) * 1) ((n:Int) - (i:Nat)) 1) where
 mem:=by simp
 obj:=λi h st b hb=>by
  have e:b=it:=by simpa using hb
  subst e
  exact ⟨_,st,λv z=>by
   have z':Data.fields _=Fk v:=z
   cases z'⟩
 keep:=λi h h' st k=>k it ∅ _ st
 item:=by
  intro X hP hw hK hc i pins s σ H E I hf st hg
  subst hP hw hK
  obtain ⟨f0,f1,f2,f3,f4,f5⟩:=hf it ∅
  have W:=Ft.range (prog:=X.prog) (w:=X.w) (I.ok.hd hc) it lo 1 n
  refine W.item i s _ _ hg st λv h' tk hv st' kk=>?_
  obtain ⟨t,rfl⟩:=hv
  have I1:Inv X pins σ H { s with heap:=h',toks:=tk }:=I.turned (λb o hb e=>kk b o (by simpa using hb) e) f0 f1 f3 f4 f5
  refine ⟨_,rfl,qB (s:={ s with heap:=h',toks:=tk }) (n:="range_iterator") st' rfl rfl ∅ ⟨.int (lo + i),H,I1,⟨t,?_⟩,⟨rfl,rfl⟩,st',λb hb=>(hf b hb).1⟩⟩
  rw [Int.mul_one]
 done:=by
  intro X hP hw hK hc i pins s σ H E I hf st hg
  subst hP hw hK
  obtain ⟨f0,f1,f2,f3,f4,f5⟩:=hf it ∅
  exact wpAny_pyNext_range_end (I.ok.hd hc) st (by have:n<=i:=hg; omega) λh' eb=>⟨rfl,I.turned (t':=s.toks) (λb o hb e=>eb b o hb e) f0 f1 f3 f4 f5⟩
 self:=λ_ _ _ _ _ st h=>wpAny_pyIter_rangeiter st h
section
variable {X:Cx} {tg:Expr}
def AL (K:ι) (tl:TE):TI:=λσ H R=>tl σ H λx H1=>∃ a,x=.ref a/\(∃ xs,SqL K H1 a xs)/\R (Itl K a) H1
def BC (K:ι) (tl:TE):TI:=λσ H R=>tl σ H λx H1=>∃ a,x=.ref a/\(∃ xs,SqT K H1 a xs)/\R (Itt K a) H1
theorem pi_list {l:Expr} {tl:TE} (hl:PE X l tl):PI X tg l (AL X.K tl):=by
 intro pins s σ H R I h
 refine thn (hl pins s σ H _ I h) λv s1 ⟨x,H1,I1,r1,q1⟩=>?_
 obtain ⟨a,e,⟨xs,hq⟩,q⟩:=q1
 subst e
 cases r1
 obtain ⟨its,rv,p,hz⟩:=I1.list hq
 refine C2 p.isList ?_
 refine ⟨s1.heap.objs.size,[s1.heap.objs.size],_,_,H1,rfl,I1.kept (t':=s1.toks) λb o e=>η _ e,sN a _,⟨_,τ _ rfl,rfl,rfl⟩,λb hb=>?_,q⟩
 have e:b=s1.heap.objs.size:=by simpa using hb
 subst e
 exact I1.fpOk (π _) (I1.hok.fresh (π _))
theorem pi_tup {l:Expr} {tl:TE} (hl:PE X l tl):PI X tg l (BC X.K tl):=by
 intro pins s σ H R I h
 refine thn (hl pins s σ H _ I h) λv s1 ⟨x,H1,I1,r1,q1⟩=>?_
 obtain ⟨a,e,⟨xs,hq⟩,q⟩:=q1
 subst e
 cases r1
 obtain ⟨its,rv,p,hz⟩:=I1.tuple hq
 refine CU (show s1.heap.IsTuple a its.toArray from p) ?_
 refine ⟨s1.heap.objs.size,[s1.heap.objs.size],_,_,H1,rfl,I1.kept (t':=s1.toks) λb o e=>η _ e,pQ a _,⟨_,τ _ rfl,rfl,rfl⟩,λb hb=>?_,q⟩
 have e:b=s1.heap.objs.size:=by simpa using hb
 subst e
 exact I1.fpOk (π _) (I1.hok.fresh (π _))
theorem tL {pins:List (Addr×Obj)} {σ:St} {H:Hp} {s:ζ} {R:It->Hp->Prop} {E:δ->ζ->Prop} {lo hi:Int} {t u v:Tok} {tk:Nat} (I:Inv X pins σ H s) (h1:-(2 ^ 62)<=lo) (h2:lo < 2 ^ 62) (h3:-(2 ^ 62)<=hi) (h4:hi < 2 ^ 62)
  (q:R (Itr lo (hi - lo).toNat) H):wpAny (model X.prog X.w) X.A (pyIter (.ref s.heap.objs.size)) (PIE X pins σ tg R) E { s with heap:=s.heap.push { cls:=.type "range",data:=.fields #[.int lo t,.int hi u,.int 1 v] },toks:=tk }:=by
 refine wpAny_pyIter_range (IsRange.new ..) (small_one h1 h2 h3 h4) ?_
 have I1:Inv X pins σ H { s with heap:=s.heap.push { cls:=.type "range",data:=.fields #[.int lo t,.int hi u,.int 1 v] },toks:=tk }:=I.kept λb o e=>η _ e
 refine ⟨(s.heap.push { cls:=.type "range",data:=.fields #[.int lo t,.int hi u,.int 1 v] }).objs.size,[(s.heap.push { cls:=.type "range",data:=.fields #[.int lo t,.int hi u,.int 1 v] }).objs.size],_,_,H,rfl,
  I1.kept (t':=tk) λb o e=>η _ e,pZ _ lo (hi - lo).toNat,?_,λb hb=>?_,q⟩
 ·have e1:lo + ((0:Nat):Int) * 1=lo:=by simp
  have e2:(((hi - lo).toNat:Nat):Int) - ((0:Nat):Int)=ϖ lo hi 1:=by rw [rangeSize_one]; split <;> omega
  show IsRangeIter _ _ (lo + ((0:Nat):Int) * 1) ((((hi - lo).toNat:Nat):Int) - ((0:Nat):Int)) 1
  rw [e1,e2]
  exact τ _ rfl
 ·have e:b=(s.heap.push { cls:=.type "range",data:=.fields #[.int lo t,.int hi u,.int 1 v] }).objs.size:=by simpa using hb
  subst e
  exact I1.fpOk (π _) (I1.hok.fresh (π _))
def AE (ta:TA):TI:=λσ H R=>ta σ H λvs H1=>∃ j:Int,vs=[.int j]/\-(2 ^ 62)<=j/\j < 2 ^ 62/\R (Itr 0 j.toNat) H1
theorem pi_range1 {a:Expr} {ta:TA} {p pos:Pos} (hg:Gl X "range") (hm:X.mg "range"=none) (ha:PA X [a] ta) (hs:starEach [a] X.env=[(false,eval a X.env)]:=by rfl):PI X tg (.Call (.Name "range" p) [a] [] pos) (AE ta):=by
 intro pins s σ H R I h
 refine Call_ (cy I hg hm boot_range (a9 (thn (ha pos pins s σ H _ I h) λus s1 ⟨vs,H1,I1,r1,q1⟩=>?_) hs rfl))
 obtain ⟨j,e,q1,q2,q⟩:=q1
 subst e
 cases r1 with
 | cons r rr=>
  cases rr
  obtain ⟨t,rfl⟩:=r
  exact call_range_1 (tL I1 ∅ ∅ q1 q2 (by simpa using q))
def Bk (wi:TI) (g:TG) (tb:TS):TS:=λD σ H=>wi σ H λJ H1=>∃ W:Nat->Nat->St->Hp->Prop,(∃ m,W 0 m σ H1)/\∀ i m σ H,W i m σ H ->
 (J.stop i H/\D.nx σ H)\/(J.go i H/\∃ N:St->Hp->Prop,(∀ σ' H',N σ' H'->∃ m',m' < m/\W (i + 1) m' σ' H')/\∀ x H',J.yld i H x H'->g x σ H' λσ2 H2=>tb { D with nx:=N,ct:=N,bk:=D.nx } σ2 H2)
def iU (fp:List Addr) (h:Heap):List (Addr×Obj):=fp.filterMap λb=>(h.get? b).map λo=>(b,o)
theorem cP {fp:List Addr} {h:Heap} {b:Addr} {o:Obj} (hb:b∈fp) (e:h.get? b=some o):(b,o)∈iU fp h:=CT.mpr ⟨b,hb,by rw [e]; rfl⟩
theorem tq {fp:List Addr} {h:Heap} {p:Addr×Obj} (hp:p∈iU fp h):p.1∈fp/\h.get? p.1=some p.2:=by
 obtain ⟨b,hb,e⟩:=CT.mp hp
 cases q:h.get? b with
 | none=>rw [q] at e; cases e
 | some o=>
  rw [q] at e
  have e':(b,o)=p:=Ϝ e
  subst e'
  exact ⟨hb,q⟩
theorem Inv.pinned {pins:List (Addr×Obj)} {σ:St} {H:Hp} {s:ζ} {fp:List Addr} (I:Inv X pins σ H s) (hf:∀ b∈fp,ig X pins H b) (ho:∀ b∈fp,∃ o,s.heap.get? b=some o/\∀ v,o.data≠.cell v):Inv X (pins ++ iU fp s.heap) σ H s:=
 I.pins_of λp hp=>(ϒ.mp hp).elim (λz=>I.pin p (ϝ _ z)) λz=>by
  obtain ⟨hb,e⟩:=tq z
  obtain ⟨f0,f1,f2,_⟩:=hf p.1 hb
  obtain ⟨o,e',d⟩:=ho p.1 hb
  rw [e] at e'; cases e'
  exact ⟨e,f0,f1,f2,d⟩
theorem Inv.unpinned {pins pl:List (Addr×Obj)} {σ:St} {H:Hp} {s:ζ} (I:Inv X (pins ++ pl) σ H s):Inv X pins σ H s:=I.pins_of λp hp=>I.pin p (ϝ _ (m9 _ hp))
theorem ps_for {iter:Expr} {body:List Stmt} {wi:TI} {g:TG} {tb:TS} {pos:Pos} (hp:PassesOwn (model X.prog X.w) X.A X.env X.xe) (hc:X.calm=true) (hi:PI X tg iter wi) (hg:PG X tg g) (hb:PSs X body tb)
  (hs:∀ x,foldedSetIterable iter X.env x=pure x:=by intro _; rfl):PS X (.For tg iter body [] pos) (Bk wi g tb):=by
 intro pins s σ H D I h
 refine wpAny_For (thn (hi pins s σ H _ I h) λv s1 h1=>thn h1 λitv s2 h2=>?_) hs
 obtain ⟨it,fp,tn,J,H2,e,I2,T,st2,f2,W,⟨m0,w0⟩,turn⟩:=h2
 subst e
 have stat:∀ {H':Hp},(∀ b∈fp,H' b=none)->∀ b∈fp,ig X pins H' b:=λhn b hb=>⟨hn b hb,(f2 b hb).2⟩
 refine codeAny_forLoop_any (λn s'=>∃ i σ' H',Inv X pins σ' H' s'/\tn i s'.heap/\(∀ b∈fp,H' b=none)/\W i n σ' H') ?_ m0 ⟨0,σ,H2,I2,st2,λb hb=>(f2 b hb).1,w0⟩
 rintro n s3 ⟨i,σ3,H3,I3,st3,fr3,w3⟩
 rcases turn i n σ3 H3 w3 with ⟨stop,qn⟩ | ⟨go,N,hN,step⟩
 ·refine A_ hp (thn (T.done X rfl rfl rfl hc i pins s3 σ3 H3 X.xe I3 (stat fr3) st3 stop) λr s4 ⟨hr,I4⟩=>?_)
  subst hr
  exact Cc ⟨σ3,H3,I4,qn⟩
 ·refine A_ hp (thn (T.item X rfl rfl rfl hc i pins s3 σ3 H3 X.xe I3 (stat fr3) st3 go) λr s4 ⟨u,hr,h4⟩=>?_)
  subst hr
  refine A_ hp (thn h4 λ_ s5 ⟨x,H5,I5,r5,y5,st5,fr5⟩=>?_)
  have I5':=I5.pinned (stat fr5) (T.obj _ _ st5)
  refine A_ hp (thn (hg _ s5 σ3 H5 x u _ I5' r5 (step x H5 y5)) λ_ s6 ⟨σ6,H6,I6,q6⟩=>?_)
  refine A_ hp (thn (hb _ s6 σ6 H6 _ I6 q6) λf s7 q7=>?_)
  have again:∀ {σ7:St} {H7:Hp},Inv X (pins ++ iU fp s5.heap) σ7 H7 s7->N σ7 H7->∃ m,m < n/\∃ i σ' H',Inv X pins σ' H' s7/\tn i s7.heap/\(∀ b∈fp,H' b=none)/\W i m σ' H':=λ{σ7 H7} I7 n7=>by
   obtain ⟨m',hm,w7⟩:=hN σ7 H7 n7
   refine ⟨m',hm,i + 1,σ7,H7,I7.unpinned,T.keep _ _ _ st5 λb hb o e=>(I7.pin (b,o) (ϝ _ (ϝ _ (cP hb e)))).1,λb hb=>?_,w7⟩
   obtain ⟨o,e,d⟩:=T.obj _ _ st5 b hb
   exact (I7.pin (b,o) (ϝ _ (ϝ _ (cP hb e)))).2.1
  cases f with
  | next=>obtain ⟨σ7,H7,I7,n7⟩:=q7; exact again I7 n7
  | cont=>obtain ⟨σ7,H7,I7,n7⟩:=q7; exact again I7 n7
  | brk=>obtain ⟨σ7,H7,I7,q7⟩:=q7; exact ⟨σ7,H7,I7.unpinned,q7⟩
  | ret v=>obtain ⟨x7,σ7,H7,I7,r7,q7⟩:=q7; exact ⟨x7,σ7,H7,I7.unpinned,r7,q7⟩
end
theorem mN {K:ι} {a:Addr} {xs:List V} {g:TG} {tb:TS} {D:bP} {σ:St} {H:Hp} (Pv:Nat->St->Hp->Prop) (h0:Pv 0 σ H) (hl:∀ i σ H,i<=xs.length->Pv i σ H->SqL K H a xs)
  (hs:∀ i x σ H,xs[i]?=some x->Pv i σ H->g x σ H λσ2 H2=>tb { D with nx:=Pv (i + 1),ct:=Pv (i + 1),bk:=D.nx } σ2 H2) (hd:∀ σ H,Pv xs.length σ H->D.nx σ H) :
  ∃ W:Nat->Nat->St->Hp->Prop,(∃ m,W 0 m σ H)/\∀ i m σ H,W i m σ H ->
   ((Itl K a).stop i H/\D.nx σ H)\/((Itl K a).go i H/\∃ N:St->Hp->Prop,(∀ σ' H',N σ' H'->∃ m',m' < m/\W (i + 1) m' σ' H')/\∀ x H',(Itl K a).yld i H x H'->g x σ H' λσ2 H2=>tb { D with nx:=N,ct:=N,bk:=D.nx } σ2 H2):=by
 refine ⟨λi m σ H=>m=xs.length - i/\i<=xs.length/\Pv i σ H,⟨xs.length,∅,Ω _,h0⟩,?_⟩
 rintro i m σ H ⟨rfl,hi,p⟩
 have q:=hl i σ H hi p
 by_cases hlt:i < xs.length
 ·refine .inr ⟨⟨xs,xs[i],q,by simp [hlt]⟩,Pv (i + 1),λσ' H' p'=>⟨xs.length - (i + 1),∅,rfl,hlt,p'⟩,λx H' y=>?_⟩
  obtain ⟨e,y⟩:=y
  subst e
  exact hs i x σ _ (y xs q) p
 ·have e:i=xs.length:=by omega
  subst e
  exact .inl ⟨⟨xs,q,π _⟩,hd σ H p⟩
theorem qo {K:ι} {a:Addr} {xs:List V} {g:TG} {tb:TS} {D:bP} {σ:St} {H:Hp} (Pv:Nat->St->Hp->Prop) (h0:Pv 0 σ H) (hl:∀ i σ H,i<=xs.length->Pv i σ H->SqT K H a xs)
  (hs:∀ i x σ H,xs[i]?=some x->Pv i σ H->g x σ H λσ2 H2=>tb { D with nx:=Pv (i + 1),ct:=Pv (i + 1),bk:=D.nx } σ2 H2) (hd:∀ σ H,Pv xs.length σ H->D.nx σ H) :
  ∃ W:Nat->Nat->St->Hp->Prop,(∃ m,W 0 m σ H)/\∀ i m σ H,W i m σ H ->
   ((Itt K a).stop i H/\D.nx σ H)\/((Itt K a).go i H/\∃ N:St->Hp->Prop,(∀ σ' H',N σ' H'->∃ m',m' < m/\W (i + 1) m' σ' H')/\∀ x H',(Itt K a).yld i H x H'->g x σ H' λσ2 H2=>tb { D with nx:=N,ct:=N,bk:=D.nx } σ2 H2):=by
 refine ⟨λi m σ H=>m=xs.length - i/\i<=xs.length/\Pv i σ H,⟨xs.length,∅,Ω _,h0⟩,?_⟩
 rintro i m σ H ⟨rfl,hi,p⟩
 have q:=hl i σ H hi p
 by_cases hlt:i < xs.length
 ·refine .inr ⟨⟨xs,xs[i],q,by simp [hlt]⟩,Pv (i + 1),λσ' H' p'=>⟨xs.length - (i + 1),∅,rfl,hlt,p'⟩,λx H' y=>?_⟩
  obtain ⟨e,y⟩:=y
  subst e
  exact hs i x σ _ (y xs q) p
 ·have e:i=xs.length:=by omega
  subst e
  exact .inl ⟨⟨xs,q,π _⟩,hd σ H p⟩
theorem tz {lo:Int} {n:Nat} {g:TG} {tb:TS} {D:bP} {σ:St} {H:Hp} (Pv:Nat->St->Hp->Prop) (h0:Pv 0 σ H)
  (hs:∀ i σ H,i < n->Pv i σ H->g (.int (lo + i)) σ H λσ2 H2=>tb { D with nx:=Pv (i + 1),ct:=Pv (i + 1),bk:=D.nx } σ2 H2) (hd:∀ σ H,Pv n σ H->D.nx σ H) :
  ∃ W:Nat->Nat->St->Hp->Prop,(∃ m,W 0 m σ H)/\∀ i m σ H,W i m σ H ->
   ((Itr lo n).stop i H/\D.nx σ H)\/((Itr lo n).go i H/\∃ N:St->Hp->Prop,(∀ σ' H',N σ' H'->∃ m',m' < m/\W (i + 1) m' σ' H')/\∀ x H',(Itr lo n).yld i H x H'->g x σ H' λσ2 H2=>tb { D with nx:=N,ct:=N,bk:=D.nx } σ2 H2):=by
 refine ⟨λi m σ H=>m=n - i/\i<=n/\Pv i σ H,⟨n,∅,Ω _,h0⟩,?_⟩
 rintro i m σ H ⟨rfl,hi,p⟩
 by_cases hlt:i < n
 ·refine .inr ⟨hlt,Pv (i + 1),λσ' H' p'=>⟨n - (i + 1),∅,rfl,hlt,p'⟩,λx H' y=>?_⟩
  obtain ⟨e,y⟩:=y
  subst e y
  exact hs i σ _ hlt p
 ·have e:i=n:=by omega
  subst e
  exact .inl ⟨π _,hd σ H p⟩
abbrev R2:=V->V->Hp->VK->Prop
def OpR (X:Cx) (f:δ->δ->Sem δ) (r:R2):Prop:=
 ∀ (pins:List (Addr×Obj)) (s:ζ) (σ:St) (H:Hp) (x y:V) (v u:δ) (Q:VK),Inv X pins σ H s->aw x v->aw y u->r x y H Q ->
  wpAny (model X.prog X.w) X.A (f v u) (EP X pins σ Q) X.xe s
def UnR (X:Cx) (f:δ->Sem δ) (r:V->Hp->VK->Prop):Prop:=
 ∀ (pins:List (Addr×Obj)) (s:ζ) (σ:St) (H:Hp) (x:V) (v:δ) (Q:VK),Inv X pins σ H s->aw x v->r x H Q ->
  wpAny (model X.prog X.w) X.A (f v) (EP X pins σ Q) X.xe s
def bE (X:Cx) (f:δ) (r:List V->Hp->VK->Prop):Prop:=
 ∀ (pins:List (Addr×Obj)) (s:ζ) (σ:St) (H:Hp) (xs:List V) (us:List δ) (Q:VK),Inv X pins σ H s->ar xs us->r xs H Q ->
  wpAny (model X.prog X.w) X.A (call f us) (EP X pins σ Q) X.xe s
def Be (X:Cx) (r:V->Hp->(Bool->Hp->Prop)->Prop):Prop:=
 ∀ (pins:List (Addr×Obj)) (s:ζ) (σ:St) (H:Hp) (x:V) (v:δ) (Q:Bool->Hp->Prop),Inv X pins σ H s->aw x v->r x H Q ->
  wpAny (model X.prog X.w) X.A (truthy v) (TP X pins σ Q) X.xe s
def tOp (r:R2) (ta tb:TE):TE:=λσ H Q=>ta σ H λx H1=>tb σ H1 λy H2=>r x y H2 Q
def tUn (r:V->Hp->VK->Prop) (ta:TE):TE:=λσ H Q=>ta σ H λx H1=>r x H1 Q
def rI (C:Int->Int->Prop) (g:Int->Int->V):R2:=λx y H Q=>∃ i j,x=.int i/\y=.int j/\C i j/\Q (g i j) H
def rI0 (g:Int->Int->V):R2:=λx y H Q=>∃ i j,x=.int i/\y=.int j/\Q (g i j) H
def rU (g:Int->V):V->Hp->VK->Prop:=λx H Q=>∃ i,x=.int i/\Q (g i) H
section
variable {X:Cx} {a b c:Expr} {ta tb tc:TE} {pos:Pos}
theorem zp (ha:PE X a ta) (hb:PE X b tb) {pins:List (Addr×Obj)} {s:ζ} {σ:St} {H:Hp} {R:V->V->Hp->Prop} (I:Inv X pins σ H s)
  (h:ta σ H λx H1=>tb σ H1 λy H2=>R x y H2) {Q:δ->ζ->Prop} {f:δ->δ->Sem δ}
  (hf:∀ v u s2 x y H2,Inv X pins σ H2 s2->aw x v->aw y u->R x y H2->wpAny (model X.prog X.w) X.A (f v u) Q X.xe s2) :
  wpAny (model X.prog X.w) X.A (eval a X.env) (λv s₁=>wpAny (model X.prog X.w) X.A (eval b X.env) (λu s₂=>wpAny (model X.prog X.w) X.A (f v u) Q X.xe s₂) X.xe s₁) X.xe s:=by
 refine thn (ha pins s σ H _ I h) λv s1 ⟨x,H1,I1,r1,q1⟩=>?_
 refine thn (hb pins s1 σ H1 _ I1 q1) λu s2 ⟨y,H2,I2,r2,q2⟩=>?_
 exact hf v u s2 x y H2 I2 r1 r2 q2
theorem pe_op {op:Operator} {r:R2} (ho:OpR X (binaryOp op) r) (ha:PE X a ta) (hb:PE X b tb):PE X (.BinOp a op b pos) (tOp r ta tb):=by
 intro pins s σ H Q I h
 exact wpAny_BinOp (zp ha hb I h λv u s2 x y H2 I2 rx ry q=>ho pins s2 σ H2 x y v u Q I2 rx ry q)
theorem pe_un {op:UnaryOp} {r:V->Hp->VK->Prop} (ho:UnR X (unaryOp op) r) (ha:PE X a ta):PE X (.UnaryOp op a pos) (tUn r ta):=by
 intro pins s σ H Q I h
 exact UnaryOp_ (thn (ha pins s σ H _ I h) λv s1 ⟨x,H1,I1,r1,q1⟩=>ho pins s1 σ H1 x v Q I1 r1 q1)
theorem opI {f:δ->δ->Sem δ} {C:Int->Int->Prop} {g:Int->Int->Int}
  (rule:∀ (i j:Int) (t u:Tok) (s:ζ) (Q:δ->ζ->Prop) (E:δ->ζ->Prop),C i j->Q (.int (g i j) s.toks) { s with toks:=s.toks + 1 }->wpAny (model X.prog X.w) X.A (f (.int i t) (.int j u)) Q E s) :
  OpR X f (rI C λi j=>.int (g i j)):=by
 intro pins s σ H x y v u Q I rx ry h
 obtain ⟨i,j,rfl,rfl,hc,q⟩:=h
 obtain ⟨t,rfl⟩:=rx
 obtain ⟨t',rfl⟩:=ry
 exact rule i j t t' s _ _ hc ⟨.int (g i j),H,I.tok _,⟨_,rfl⟩,q⟩
theorem AI {f:δ->δ->Sem δ} {g:Int->Int->Int}
  (rule:∀ (i j:Int) (t u:Tok) (s:ζ) (Q:δ->ζ->Prop) (E:δ->ζ->Prop),Q (.int (g i j) s.toks) { s with toks:=s.toks + 1 }->wpAny (model X.prog X.w) X.A (f (.int i t) (.int j u)) Q E s) :
  OpR X f (rI0 λi j=>.int (g i j)):=by
 intro pins s σ H x y v u Q I rx ry h
 obtain ⟨i,j,rfl,rfl,q⟩:=h
 obtain ⟨t,rfl⟩:=rx
 obtain ⟨t',rfl⟩:=ry
 exact rule i j t t' s _ _ ⟨.int (g i j),H,I.tok _,⟨_,rfl⟩,q⟩
theorem xy {f:δ->δ->Sem δ} {g:Int->Int->Bool}
  (rule:∀ (i j:Int) (t u:Tok) (s:ζ) (Q:δ->ζ->Prop) (E:δ->ζ->Prop),Q (.bool (g i j)) s->wpAny (model X.prog X.w) X.A (f (.int i t) (.int j u)) Q E s) :
  OpR X f (rI0 λi j=>.bl (g i j)):=by
 intro pins s σ H x y v u Q I rx ry h
 obtain ⟨i,j,rfl,rfl,q⟩:=h
 obtain ⟨t,rfl⟩:=rx
 obtain ⟨t',rfl⟩:=ry
 exact rule i j t t' s _ _ ⟨.bl (g i j),H,I,rfl,q⟩
def Bj (i j:Int):Prop:=0 < j/\j < 1073741824
def wp (i j:Int):Prop:=0<=j/\j<=1000000/\i.natAbs < 2 ^ 64
def zw (i j:Int):Prop:=(-(2 ^ 64) < i/\i < 2 ^ 64)\/(-(2 ^ 64) < j/\j < 2 ^ 64)
theorem zw.ok {i j:Int} (h:zw i j):IntMulOk i j:=by
 rcases h with ⟨h1,h2⟩ | ⟨h1,h2⟩
 ·exact .of_left (intBits_le_64 h1 h2)
 ·exact .of_right (intBits_le_64 h1 h2)
theorem oP (k:Nat):(0:Int)<=2 ^ k:=by
 rw [two_pow_cast]
 exact Int.natCast_nonneg _
theorem bC:OpR X (binaryOp .Add) (rI0 λi j=>.int (i + j)):=AI λ_ _ _ _ _ _ _ q=>add_int q
theorem iY:OpR X (binaryOp .Mult) (rI zw λi j=>.int (i * j)):=opI λ_ _ _ _ _ _ _ hc q=>mul_int q hc.ok
theorem ba:OpR X (binaryOp .FloorDiv) (rI Bj λi j=>.int (i / j)):=opI λi j _ _ _ _ _ hc q=>by
 have h1:(0:Int) < j:=hc.1
 have h2:j < 1073741824:=hc.2
 exact floordiv_int ∅ (by rw [Cr i ∅]; exact q) (.inl (PyProof.noPylong_small ∅))
theorem aA:OpR X (binaryOp .Mod) (rI (λ_ j=>0 < j) λi j=>.int (i % j)):=opI λi j _ _ _ _ _ hc q=>by
 have h1:(0:Int) < j:=hc
 exact mod_int' ∅ (by rw [Int.fmod_eq_emod_of_nonneg i ∅]; exact q)
theorem ll:OpR X (binaryOp .Pow) (rI wp λi j=>.int (i ^ j.toNat)):=opI λ_ _ _ _ _ _ _ hc q=>pow_int_small hc.1 hc.2.1 hc.2.2 q
theorem zy:OpR X (binaryOp .RShift) (rI (λ_ j=>0<=j) λi j=>.int (i / 2 ^ j.toNat)):=opI λi j _ _ _ _ _ hc q=>
 rshift_int hc (by rw [Cr i (oP _)]; exact q)
theorem zn:OpR X (binaryOp .BitAnd) (rI0 λi j=>.int (Ϡ.bitAnd i j)):=AI λ_ _ _ _ _ _ _ q=>and_int q
theorem unI {f:δ->Sem δ} {g:Int->Int}
  (rule:∀ (i:Int) (t:Tok) (s:ζ) (Q:δ->ζ->Prop) (E:δ->ζ->Prop),Q (.int (g i) s.toks) { s with toks:=s.toks + 1 }->wpAny (model X.prog X.w) X.A (f (.int i t)) Q E s) :
  UnR X f (rU λi=>.int (g i)):=by
 intro pins s σ H x v Q I rx h
 obtain ⟨i,rfl,q⟩:=h
 obtain ⟨t,rfl⟩:=rx
 exact rule i t s _ _ ⟨.int (g i),H,I.tok _,⟨_,rfl⟩,q⟩
theorem gf:UnR X (unaryOp .USub) (rU λi=>.int (-i)):=unI λ_ _ _ _ _ q=>neg_int q
end
def Ak:V->V->Bool
 | .non,.non=>true | .non,.int _=>true | .int _,.non=>true | .non,.bl _=>true | .bl _,.non=>true | .non,.str _=>true | .str _,.non=>true
 | .int _,.int _=>true | .bl _,.bl _=>true | .str _,.str _=>true | .byt _,.byt _=>true
 | .int _,.str _=>true | .str _,.int _=>true | .bl _,.str _=>true | .str _,.bl _=>true
 | _,_=>false
def rEq:R2:=λx y H Q=>Ak x y=true/\Q (.bl (decide (x=y))) H
def rNe:R2:=λx y H Q=>Ak x y=true/\Q (.bl (!decide (x=y))) H
theorem ql {i j:Int}:decide (V.int i=V.int j)=(i == j):=by
 rw [s_]
 simp
theorem vk {i j:Bool}:decide (V.bl i=V.bl j)=(i == j):=by
 rw [s_]
 simp
theorem qu {i j:Str}:decide (V.str i=V.str j)=(i == j):=by
 rw [s_]
 simp
theorem qL {i j:Array UInt8}:decide (V.byt i=V.byt j)=(i.toList == j.toList):=by
 rw [s_]
 cases i
 cases j
 simp
section
variable {X:Cx} {a b c:Expr} {ta tb tc:TE} {pos:Pos}
theorem aH {pins:List (Addr×Obj)} {σ:St} {H:Hp} {s:ζ} {Q:VK} {k k':Bool} (I:Inv X pins σ H s) (q:Q (.bl k) H) (e:k=k'):EP X pins σ Q (.bool k') s:=by
 subst e
 exact ⟨.bl k,H,I,rfl,q⟩
theorem ay:OpR X (compareOp .Eq) rEq:=by
 intro pins s σ H x y v u Q I rx ry h
 obtain ⟨hs,q⟩:=h
 cases x with
 | non=>
  cases rx
  cases y with
  | non=>cases ry; exact PySem.EqNone.eq_none_none (aH I q ∅)
  | bl j=>cases ry; exact PySem.EqNone.eq_none_bool (aH I q ∅)
  | int j=>obtain ⟨t',rfl⟩:=ry; exact PySem.EqNone.eq_none_int (aH I q ∅)
  | str j=>obtain ⟨t',rfl⟩:=ry; exact PySem.EqNone.eq_none_str (aH I q ∅)
  | _=>exact absurd (show false=true from hs) Θ
 | bl i=>
  cases rx
  cases y with
  | non=>cases ry; exact PySem.EqNone.eq_bool_none (aH I q ∅)
  | bl j=>cases ry; exact eq_bool (aH I q vk)
  | str j=>obtain ⟨t',rfl⟩:=ry; exact PySem.EqMixed.eq_bool_str (aH I q ∅)
  | _=>exact absurd (show false=true from hs) Θ
 | int i=>
  obtain ⟨t,rfl⟩:=rx
  cases y with
  | non=>cases ry; exact PySem.EqNone.eq_int_none (aH I q ∅)
  | int j=>obtain ⟨t',rfl⟩:=ry; exact eq_int (aH I q ql)
  | str j=>obtain ⟨t',rfl⟩:=ry; exact PySem.EqMixed.eq_int_str (aH I q ∅)
  | _=>exact absurd (show false=true from hs) Θ
 | str i=>
  obtain ⟨t,rfl⟩:=rx
  cases y with
  | non=>cases ry; exact PySem.EqNone.eq_str_none (aH I q ∅)
  | bl j=>cases ry; exact PySem.EqMixed.eq_str_bool (aH I q ∅)
  | int j=>obtain ⟨t',rfl⟩:=ry; exact PySem.EqMixed.eq_str_int (aH I q ∅)
  | str j=>obtain ⟨t',rfl⟩:=ry; exact eq_str (aH I q qu)
  | _=>exact absurd (show false=true from hs) Θ
 | byt i=>
  obtain ⟨t,rfl⟩:=rx
  cases y with
  | byt j=>obtain ⟨t',rfl⟩:=ry; exact PySem.W.eq_bytes (aH I q qL)
  | _=>exact absurd (show false=true from hs) Θ
 | _=>cases y <;> exact absurd (show false=true from hs) Θ
theorem fY:OpR X (compareOp .NotEq) rNe:=by
 intro pins s σ H x y v u Q I rx ry h
 obtain ⟨hs,q⟩:=h
 cases x with
 | non=>
  cases rx
  cases y with
  | non=>cases ry; exact PySem.EqNone.ne_none_none (aH I q ∅)
  | bl j=>cases ry; exact PySem.EqNone.ne_none_bool (aH I q ∅)
  | int j=>obtain ⟨t',rfl⟩:=ry; exact PySem.EqNone.ne_none_int (aH I q ∅)
  | str j=>obtain ⟨t',rfl⟩:=ry; exact PySem.EqNone.ne_none_str (aH I q ∅)
  | _=>exact absurd (show false=true from hs) Θ
 | bl i=>
  cases rx
  cases y with
  | non=>cases ry; exact PySem.EqNone.ne_bool_none (aH I q ∅)
  | bl j=>cases ry; exact ne_bool (aH I q (congrArg not vk))
  | str j=>obtain ⟨t',rfl⟩:=ry; exact PySem.EqMixed.ne_bool_str (aH I q ∅)
  | _=>exact absurd (show false=true from hs) Θ
 | int i=>
  obtain ⟨t,rfl⟩:=rx
  cases y with
  | non=>cases ry; exact PySem.EqNone.ne_int_none (aH I q ∅)
  | int j=>obtain ⟨t',rfl⟩:=ry; exact ne_int (aH I q (congrArg not ql))
  | str j=>obtain ⟨t',rfl⟩:=ry; exact PySem.EqMixed.ne_int_str (aH I q ∅)
  | _=>exact absurd (show false=true from hs) Θ
 | str i=>
  obtain ⟨t,rfl⟩:=rx
  cases y with
  | non=>cases ry; exact PySem.EqNone.ne_str_none (aH I q ∅)
  | bl j=>cases ry; exact PySem.EqMixed.ne_str_bool (aH I q ∅)
  | int j=>obtain ⟨t',rfl⟩:=ry; exact PySem.EqMixed.ne_str_int (aH I q ∅)
  | str j=>obtain ⟨t',rfl⟩:=ry; exact ne_str (aH I q (congrArg not qu))
  | _=>exact absurd (show false=true from hs) Θ
 | byt i=>
  obtain ⟨t,rfl⟩:=rx
  cases y with
  | byt j=>obtain ⟨t',rfl⟩:=ry; exact PySem.W.ne_bytes (aH I q (congrArg not qL))
  | _=>exact absurd (show false=true from hs) Θ
 | _=>cases y <;> exact absurd (show false=true from hs) Θ
theorem nX:OpR X (compareOp .Lt) (rI0 λi j=>.bl (decide (i < j))):=xy λ_ _ _ _ _ _ _ q=>lt_int q
theorem jU:OpR X (compareOp .LtE) (rI0 λi j=>.bl (decide (i<=j))):=xy λ_ _ _ _ _ _ _ q=>le_int q
theorem dY:OpR X (compareOp .Gt) (rI0 λi j=>.bl (decide (j < i))):=xy λ_ _ _ _ _ _ _ q=>gt_int q
theorem xZ:OpR X (compareOp .GtE) (rI0 λi j=>.bl (decide (j<=i))):=xy λ_ _ _ _ _ _ _ q=>ge_int q
theorem oB:OpR X (compareOp .Is) (λx y H Q=>y=.non/\Q (.bl (decide (x=.non))) H):=by
 intro pins s σ H x y v u Q I rx ry h
 obtain ⟨rfl,q⟩:=h
 cases ry
 refine is_none_gen (aH I q ?_)
 cases x <;> first
  | (cases rx; rfl)
  | (obtain ⟨t,rfl⟩:=rx; rfl)
theorem xE:OpR X (compareOp .IsNot) (λx y H Q=>y=.non/\Q (.bl (!decide (x=.non))) H):=by
 intro pins s σ H x y v u Q I rx ry h
 obtain ⟨rfl,q⟩:=h
 cases ry
 refine isnot_none_gen (aH I q ?_)
 cases x <;> first
  | (cases rx; rfl)
  | (obtain ⟨t,rfl⟩:=rx; rfl)
theorem ai (b:Expr) {op:CmpOp} (h:op≠.In:=by decide) (h2:op≠.NotIn:=by decide):behindInMarks op b=false:=by
 have e1:(op == CmpOp.In)=false:=by cases op <;> first | rfl | exact absurd rfl h
 have e2:(op == CmpOp.NotIn)=false:=by cases op <;> first | rfl | exact absurd rfl h2
 cases b <;> simp [behindInMarks,e1,e2]
theorem pe_cmpR {op:CmpOp} {r:R2} (ho:OpR X (compareOp op) r) (ha:PE X a ta) (hb:PE X b tb) (hm:behindInMarks op b=false):PE X (.Compare a [op] [b] pos) (tOp r ta tb):=by
 intro pins s σ H Q I h
 exact wpAny_Compare1 (zp ha hb I h λv u s2 x y H2 I2 rx ry q=>ho pins s2 σ H2 x y v u Q I2 rx ry q) hm
def yv (t:TE):TT:=λσ H Q=>t σ H λx H'=>∃ k,x=.bl k/\Q k H'
theorem pt_cmpR {op:CmpOp} {r:R2} (ho:OpR X (compareOp op) r) (ha:PE X a ta) (hb:PE X b tb) (hm:behindInMarks op b=false):PT X (.Compare a [op] [b] pos) (yv (tOp r ta tb)):=by
 intro pins s σ H Q I h
 refine wpAny_isTrue_Compare1 (thn (ha pins s σ H _ I h) λv s1 ⟨x,H1,I1,r1,q1⟩=>thn (hb pins s1 σ H1 _ I1 q1) λu s2 ⟨y,H2,I2,r2,q2⟩=>
  thn (ho pins s2 σ H2 x y v u _ I2 r1 r2 q2) λc s3 ⟨z,H3,I3,r3,k,e,q3⟩=>?_) hm
 subst e
 cases r3
 exact e_ ⟨H3,I3,q3⟩
def wc (r r':R2) (ta tb tc:TE):TE:=λσ H Q=>ta σ H λx H1=>tb σ H1 λy H2=>r x y H2 λz H3=>∃ k,z=.bl k /\
 (if k=true then tc σ H3 λw' H4=>r' y w' H4 Q else Q (.bl false) H3)
theorem pe_chain {op op':CmpOp} {r r':R2} (ho:OpR X (compareOp op) r) (ho':OpR X (compareOp op') r') (ha:PE X a ta) (hb:PE X b tb) (hc:PE X c tc)
  (hm:lastMarks [op,op'] [b,c]=false:=by with_unfolding_all rfl):PE X (.Compare a [op,op'] [b,c] pos) (wc r r' ta tb tc):=by
 intro pins s σ H Q I h
 refine Compare_chain (thn (ha pins s σ H _ I h) λv s1 ⟨x,H1,I1,r1,q1⟩=>chain_link (thn (hb pins s1 σ H1 _ I1 q1) λu s2 ⟨y,H2,I2,r2,q2⟩=>
  thn (ho pins s2 σ H2 x y v u _ I2 r1 r2 q2) λd s3 ⟨z,H3,I3,r3,k,e,q3⟩=>?_)) hm
 subst e
 cases r3
 refine e_ ?_
 cases k with
 | false=>exact ite_ff ⟨.bl false,H3,I3,rfl,q3⟩
 | true=>exact ite_tt (chain_last (thn (hc pins s3 σ H3 _ I3 q3) λw' s4 ⟨z',H4,I4,r4,q4⟩=>ho' pins s4 σ H4 y z' u w' Q I4 r2 r4 q4))
theorem pt_chain {op op':CmpOp} {r r':R2} (ho:OpR X (compareOp op) r) (ho':OpR X (compareOp op') r') (ha:PE X a ta) (hb:PE X b tb) (hc:PE X c tc)
  (hm:lastMarks [op,op'] [b,c]=false:=by with_unfolding_all rfl):PT X (.Compare a [op,op'] [b,c] pos) (yv (wc r r' ta tb tc)):=by
 intro pins s σ H Q I h
 refine isTrue_chain (thn (ha pins s σ H _ I h) λv s1 ⟨x,H1,I1,r1,q1⟩=>test_link (thn (hb pins s1 σ H1 _ I1 q1) λu s2 ⟨y,H2,I2,r2,q2⟩=>
  thn (ho pins s2 σ H2 x y v u _ I2 r1 r2 q2) λd s3 ⟨z,H3,I3,r3,k,e,q3⟩=>?_)) hm
 subst e
 cases r3
 refine e_ ?_
 cases k with
 | false=>
  obtain ⟨k',e',q'⟩:=q3
  cases e'
  exact ite_ff ⟨H3,I3,q'⟩
 | true=>
  refine ite_tt (test_last (thn (hc pins s3 σ H3 _ I3 q3) λw' s4 ⟨z',H4,I4,r4,q4⟩=>thn (ho' pins s4 σ H4 y z' u w' _ I4 r2 r4 q4) λd' s5 ⟨z2,H5,I5,r5,k2,e2,q5⟩=>?_))
  subst e2
  cases r5
  exact e_ ⟨H5,I5,q5⟩
def xa (K:ι) (x:V) (H:Hp) (k:Bool):Prop:=
 match x with
 | .non=>k=false
 | .bl b=>k=b
 | .int i=>k=(i != 0)
 | .str y=>y.length<=sizeLine/\k=((y.length:Int) != 0)
 | .byt y=>y.size<=sizeLine/\k=((y.size:Int) != 0)
 | .ref p=>(∃ xs,SqL K H p xs/\k=!xs.isEmpty)\/(∃ xs,SqT K H p xs/\k=!xs.isEmpty)\/∃ kvs,H p=some (.dK kvs)/\k=!kvs.isEmpty
 | _=>False
theorem oX {κ:Type} {kvs:List (κ×V)} {vs:List (κ×δ)} (r:KV kvs vs):(!vs.isEmpty)=!kvs.isEmpty:=by
 cases r <;> rfl
theorem iC {xs:List V} {its:List δ} (r:ar xs its):(!its.toArray.isEmpty)=!xs.isEmpty:=by
 cases r <;> simp
theorem eY:(sizeLine:Nat) < 2 ^ 63:=by rw [υ]; decide
theorem zE:Be X (λx H Q=>∃ k,xa X.K x H k/\Q k H):=by
 intro pins s σ H x v Q I rx h
 obtain ⟨k,e,q⟩:=h
 have hl:=eY
 have hs:sizeLine=16777216:=υ
 cases x with
 | non=>
  cases rx
  have e':k=false:=e
  subst e'
  exact truthy_none ⟨H,I,q⟩
 | bl b=>
  cases rx
  have e':k=b:=e
  subst e'
  exact e_ ⟨H,I,q⟩
 | int i=>
  obtain ⟨t,rfl⟩:=rx
  have e':k=(i != 0):=e
  subst e'
  exact PySem.P.truthy_int ⟨H,I,q⟩
 | str y=>
  obtain ⟨t,rfl⟩:=rx
  obtain ⟨hy,e'⟩:y.length<=sizeLine/\k=((y.length:Int) != 0):=e
  subst e'
  exact PySem.P.truthy_str ∅ ⟨H,I.tok _,q⟩
 | byt y=>
  obtain ⟨t,rfl⟩:=rx
  obtain ⟨hy,e'⟩:y.size<=sizeLine/\k=((y.size:Int) != 0):=e
  subst e'
  exact PySem.W.truthy_bytes ∅ ⟨H,I.tok _,q⟩
 | ref p=>
  cases rx
  have e':(∃ xs,SqL X.K H p xs/\k=!xs.isEmpty)\/(∃ xs,SqT X.K H p xs/\k=!xs.isEmpty)\/∃ kvs,H p=some (.dK kvs)/\k=!kvs.isEmpty:=e
  rcases e' with ⟨xs,hx,e'⟩ | ⟨xs,hx,e'⟩ | ⟨kvs,hx,e'⟩
  ·subst e'
   obtain ⟨its,r,pl,hz⟩:=I.list hx
   have hlen:=r.length
   exact wpAny_truthy_list pl.isList (by simp only [ς]; omega) ⟨H,I.tok _,by rw [iC r]; exact q⟩
  ·subst e'
   obtain ⟨its,r,pl,hz⟩:=I.tuple hx
   have hlen:=r.length
   exact truthy_tuple pl (by simp only [ς]; omega) ⟨H,I.tok _,by rw [iC r]; exact q⟩
  ·subst e'
   obtain ⟨hz,hS,vs,r,m⟩:kvs.length<=sizeLine/\(p == sysModules)=false/\∃ vs,KV kvs vs/\s.heap.DictOf (aK X.prog X.w) p vs:=I.hok p _ hx
   have hlen:kvs.length=vs.length:=Paired.length r
   exact wpAny_truthy_dict hS m ∅ ⟨H,I.tok _,by rw [oX r]; exact q⟩
 | _=>exact (show False from e).elim
theorem pt_truth (ha:PE X a ta) (he:∀ whole,isTrue a X.env whole=(do let v <- whole; standAt a.pos; holding [v] (truthy v))) :
  PT X a (λσ H Q=>ta σ H λx H'=>∃ k,xa X.K x H' k/\Q k H'):=by
 intro pins s σ H Q I h
 exact isTrue_plain (thn (ha pins s σ H _ I h) λv s1 ⟨x,H1,I1,r1,q1⟩=>zE pins s1 σ H1 x v Q I1 r1 q1) (he _)
theorem bi:OpR X (binaryOp .Add) (λx y H Q=>∃ i j,x=.str i/\y=.str j/\i.length + j.length<=sizeLine/\Q (.str (i ++ j)) H):=by
 intro pins s σ H x y v u Q I rx ry h
 obtain ⟨i,j,rfl,rfl,hz,q⟩:=h
 obtain ⟨t,rfl⟩:=rx
 obtain ⟨t',rfl⟩:=ry
 exact add_str (λt' tk=>⟨.str (i ++ j),H,I.tok _,⟨_,rfl⟩,q⟩) hz
theorem cj {x:V} {us:List δ} (r:ar [x] us):∃ u,us=[u]/\aw x u:=by
 cases r with
 | cons r1 r2=>cases r2; exact ⟨_,rfl,r1⟩
theorem qW {x y:V} {us:List δ} (r:ar [x,y] us):∃ u w',us=[u,w']/\aw x u/\aw y w':=by
 cases r with
 | cons r1 r2=>
  cases r2 with
  | cons r3 r4=>cases r4; exact ⟨_,_,rfl,r1,r3⟩
theorem jS (hc:X.calm=true):bE X (.builtin "max") (λxs H Q=>∃ i j,xs=[.int i,.int j]/\Q (.int (if j > i then j else i)) H):=by
 intro pins s σ H xs us Q I r h
 obtain ⟨i,j,rfl,q⟩:=h
 obtain ⟨u,w',rfl,⟨t,rfl⟩,⟨t',rfl⟩⟩:=qW r
 refine max_two_ints (I.ok.hd hc) λh' tk k=>⟨_,H,I.kept k,?_,q⟩
 by_cases hj:j > i
 ·rw [if_pos hj,if_pos hj]; exact ⟨_,rfl⟩
 ·rw [if_neg hj,if_neg hj]; exact ⟨_,rfl⟩
theorem dN:bE X (.type "int") (λxs H Q=>(∃ i,xs=[.int i]/\Q (.int i) H)\/∃ k,xs=[.bl k]/\Q (.int (if k then 1 else 0)) H):=by
 intro pins s σ H xs us Q I r h
 rcases h with ⟨i,rfl,q⟩ | ⟨k,rfl,q⟩
 ·obtain ⟨u,rfl,t,rfl⟩:=cj r
  exact call_int_int ⟨.int i,H,I,⟨_,rfl⟩,q⟩
 ·obtain ⟨u,rfl,r1⟩:=cj r
  cases r1
  exact call_int_bool ⟨.int (if k then 1 else 0),H,I.tok _,⟨_,rfl⟩,q⟩
end
structure yX (h:Heap) (x dx C:Addr) (mA:Str->Option δ):Prop where
 obj:h.get? x=some (E2 C dx)
 ns:h.Ns1 dx mA
 ne:dx≠x
theorem sO {h:Heap} {dx:Addr} {mA:Str->Option δ} (n:h.Ns1 dx mA):∃ od,h.get? dx=some od/\∀ name,Fb name od=some (mA name):=by
 obtain ⟨o,es,ep,ho,hd,hk,_,hm⟩:=n
 refine ⟨o,ho,λname=>?_⟩
 have e:=hm name
 unfold nsFind findBy at e
 rw [<- Array.find?_toList] at e
 unfold Fb
 rw [hd]
 dsimp only
 split
 ·rename_i y q
  rw [q] at e
  exact congrArg some e
 ·rename_i q
  rw [q] at e
  have a:es.toList.any (·.refKey)=false:=by
   rw [C3]
   intro y hy
   obtain ⟨z,t,hkey⟩:=hk y (Array.mem_toList_iff.mp hy)
   simp [Dm.refKey,hkey]
  have a':¬ es.toList.any (·.refKey)=true:=by rw [a]; exact Θ
  rw [if_neg a']
  exact congrArg some e
theorem yX.look {h:Heap} {x dx C:Addr} {mA:Str->Option δ} (I:yX h x dx C mA):∃ od,PySem.W.InstAt h x (E2 C dx) C (some od)/\∀ name,Fb name od=some (mA name):=
 let ⟨od,ho,hl⟩:=sO I.ns
 ⟨od,⟨I.obj,rfl,rfl,ho⟩,hl⟩
section
variable {prog:Β} {w:Ν} {A:Χ} {E:δ->ζ->Prop} {s:ζ} {K:ι} {x dx C f:Addr} {mA:Str->Option δ} {name:Str} {v:δ}
end
theorem tm {v:V} {u:δ} (r:aw v u):PySem.W.handedIn u=true:=by
 cases v with
 | non=>cases (show u=Ϫ from r); rfl
 | bl b=>cases (show u=Fn b from r); rfl
 | int i=>obtain ⟨t,e⟩:=(show ∃ t,u=CC i t from r); cases e; rfl
 | str x=>obtain ⟨t,e⟩:=(show ∃ t,u=i4 x t from r); cases e; rfl
 | byt b=>obtain ⟨t,e⟩:=(show ∃ t,u=δ.bytes b t from r); cases e; rfl
 | flt b=>obtain ⟨t,e⟩:=(show ∃ t,u=δ.float b t from r); cases e; rfl
 | ref a=>cases (show u=Η a from r); rfl
 | ty n=>cases (show u=k7 n from r); rfl
section
variable {P:Β} {w:Ν} {H H':Hp} {h h':Heap} {a C dx:Addr} {fs fs':List (Str×V)}
theorem wQ (hok:HOk P w H h) (e:H a=some (.ins C dx fs)):∃ mA,yX h a dx C mA/\(∀ f,oi (fs.lookup f) (mA f))/\PySem.Within mA (fs.map (·.1))/\fs.length<=1000/\H dx=some (.own a):=by
 obtain ⟨d,z,ne,ob,mA,n,r,q⟩:=(show aI P w H h a (.ins C dx fs) from hok a _ e)
 exact ⟨mA,⟨ob,n,ne⟩,r,q,z,d⟩
end
structure Cls (K:ι) (C:Addr):Prop where
 pg:PySem.W.plainGet K C Str.empty=true
 hd:PySem.W.hasDictIn K C=true
 po:PySem.W.plainOver K C=true
 sa:ϡ K (.ref C) "__setattr__"=some (some (.builtin "object.__setattr__"))
theorem Cls.get {K:ι} {C:Addr} (c:Cls K C) (f:Str):PySem.W.plainGet K C f=true:=c.pg
section
variable {X:Cx} {pins:List (Addr×Obj)} {σ:St} {H:Hp} {s:ζ} {a C dx:Addr} {fs:List (Str×V)} {f:Str} {v:V} {A:Χ} {E:δ->ζ->Prop}
theorem wH {prog:Β} {w:Ν} {env:Env} {e:Expr} {f:Str} {pos:Pos} {s:ζ} {Q:δ->ζ->Prop} (hb:attributeBase e f env (eval e env)=eval e env)
  (h:wpAny (model prog w) A (eval e env) (λo s₁=>wpAny (model prog w) A (getAttr o f true) Q E s₁) E s):wpAny (model prog w) A (eval (.Attribute e f pos) env) Q E s:=
 Attribute_any_ h (by rw [arm_eval_Attribute,hb])
end
section
variable {X:Cx} {o e value:Expr} {f:Str} {pos pos' tpos:Pos} {ta tv:TE}
end
section
variable {X:Cx} {pins:List (Addr×Obj)} {σ:St} {H:Hp} {s:ζ} {A:Χ} {E:δ->ζ->Prop} {Q:δ->ζ->Prop} {c:δ} {b:Bool}
inductive fh (K:ι) (H:Hp):V->δ->Prop where
 | non:fh K H .non (.type "NoneType")
 | bl (x:Bool):fh K H (.bl x) (.type "bool")
 | int (i:Int):fh K H (.int i) (.type "int")
 | str (x:Str):fh K H (.str x) (.type "str")
 | flt (x:UInt64):fh K H (.flt x) (.type "float")
 | lst {a:Addr} {xs:List V} (e:H a=some (.lst xs)):fh K H (.ref a) (.type "list")
 | frz {a:Addr} {o:Obj} {xs:List V} (e:H a=some (.frz o (.lst xs))):fh K H (.ref a) (.type "list")
 | tup {a:Addr} {xs:List V} (e:H a=some (.tup xs)):fh K H (.ref a) (.type "tuple")
 | dK {a:Addr} {kvs:List (Key×V)} (e:H a=some (.dK kvs)):fh K H (.ref a) (.type "dict")
 | dT {a:Addr} {kvs:List (List Key×V)} (e:H a=some (.dT kvs)):fh K H (.ref a) (.type "dict")
 | ins {a C dx:Addr} {fs:List (Str×V)} (e:H a=some (.ins C dx fs)) (cl:Cls K C) (ha:ϡ K (.ref C) "__class__"=some (some (.builtin "object.__class__")))
   (hn:PySem.W.specialIn K (.builtin "object.__class__") "__get__"=some (some (.builtin "getset_descriptor.__get__"))) (htk:PySem.W.takesIn K (.builtin "object.__class__")=some true)
   (hm:PySem.W.mroIn K C (.type "object")=some true):fh K H (.ref a) (.ref C)
theorem tu {x:V} {u t:δ} (I:Inv X pins σ H s) (rx:aw x u) (ty:fh X.K H x t) (e:i7 X.K t c=some b) (h:∀ tk,Q (.bool b) { s with toks:=tk }) :
  wpAny (model X.prog X.w) A (call (.builtin "isinstance") [u,c]) Q E s:=by
 cases ty with
 | non=>cases (show u=Ϫ from rx); exact i_ PySem.W.kitx_none I.kIn BQ e (λz=>nomatch z) h
 | bl y=>cases (show u=Fn y from rx); exact i_ PySem.W.kitx_bool I.kIn BQ e (λz=>nomatch z) h
 | int i=>obtain ⟨t,q⟩:=(show ∃ t,u=CC i t from rx); cases q; exact i_ PySem.W.kitx_int I.kIn BQ e (λz=>nomatch z) h
 | str y=>obtain ⟨t,q⟩:=(show ∃ t,u=i4 y t from rx); cases q; exact i_ PySem.W.kitx_str I.kIn BQ e (λz=>nomatch z) h
 | flt y=>obtain ⟨t,q⟩:=(show ∃ t,u=δ.float y t from rx); cases q; exact i_ PySem.W.kitx_float I.kIn BQ e (λz=>nomatch z) h
 | @lst a xs ea=>
  cases (show u=Η a from rx)
  obtain ⟨_,_,n,_,h1⟩:=(show aI X.prog X.w H s.heap a (.lst xs) from I.hok a _ ea)
  exact i_ PySem.W.kitx_list I.kIn ⟨_,h1,rfl⟩ e (λz=>nomatch z) h
 | @frz a ob xs ea=>
  cases (show u=Η a from rx)
  obtain ⟨_,_,_,n,_,h1⟩:=(show aI X.prog X.w H s.heap a (.frz ob (.lst xs)) from I.hok a _ ea)
  exact i_ PySem.W.kitx_list I.kIn ⟨_,h1,rfl⟩ e (λz=>nomatch z) h
 | @tup a xs ea=>
  cases (show u=Η a from rx)
  obtain ⟨_,_,_,p⟩:=(show aI X.prog X.w H s.heap a (.tup xs) from I.hok a _ ea)
  obtain ⟨⟨o,h1,h2,_⟩,_⟩:=p
  exact i_ PySem.W.kitx_tuple I.kIn ⟨o,h1,h2⟩ e (λz=>nomatch z) h
 | @dK a kvs ea=>
  cases (show u=Η a from rx)
  obtain ⟨_,_,vs,_,p⟩:=(show aI X.prog X.w H s.heap a (.dK kvs) from I.hok a _ ea)
  obtain ⟨o,es,ep,h1,h2,_⟩:=p
  exact i_ PySem.W.kitx_dict I.kIn ⟨o,h1,h2.1⟩ e (λz=>nomatch z) h
 | @dT a kvs ea=>
  cases (show u=Η a from rx)
  obtain ⟨_,_,xs,_,o,es,ep,h1,h2,_⟩:=(show aI X.prog X.w H s.heap a (.dT kvs) from I.hok a _ ea)
  exact i_ PySem.W.kitx_dict I.kIn ⟨o,h1,h2.1⟩ e (λz=>nomatch z) h
 | @ins a C dx fs ea cl ha hn htk hm=>
  cases (show u=Η a from rx)
  obtain ⟨mA,O,_⟩:=wQ I.hok ea
  obtain ⟨od,J,_⟩:=O.look
  exact i_ (PySem.W.kitx_own (cl.get _) cl.hd ha hn htk hm) I.kIn J e (λz=>nomatch z) h
end
structure bz (k:Nat) (A:Χ):Prop where
 hd:A.handled=none
 dp:A.depth + 3 * k + 5 < recursionLimit
 un:A.units + 16 * k + 200 < cLine
theorem bz.mono {j k:Nat} {A:Χ} (r:bz k A) (h:j<=k):bz j A:=⟨r.hd,by have:=r.dp; omega,by have:=r.un; omega⟩
theorem bz.deeper {k:Nat} {A:Χ} (r:bz (k + 1) A) (env:Env):bz k (A.deeper env):=
 ⟨r.hd,by have:=r.dp; show A.depth + 1 + 3 * k + 5 < _; omega,by have:=r.un; show A.units + 3 + 16 * k + 200 < _; omega⟩
theorem ph {A:Χ} {C:Addr} {us:List δ} {kw:List (Str×δ)}:(A.under (.builtin "type.__call__" ⟨.ref C :: us,kw⟩)).depth=A.depth + 1:=by
 first | rfl | simp [Χ.under,Code.weight,Code.isCreation,Code.isGuard,Code.isCaller,Code.frames,Code.isFrame,guardIds]
theorem pR {A:Χ} {C:Addr} {us:List δ} {kw:List (Str×δ)}:(A.under (.builtin "type.__call__" ⟨.ref C :: us,kw⟩)).units=A.units + 1:=by
 first | rfl | simp [Χ.under,Code.cUnits,Code.frames,Code.isFrame]
theorem bz.make {k:Nat} {A:Χ} (r:bz (k + 1) A) (C:Addr) (us:List δ) (kw:List (Str×δ)):bz k (A.under (.builtin "type.__call__" ⟨.ref C :: us,kw⟩)):=
 ⟨r.hd,by have:=r.dp; rw [ph]; omega,by have:=r.un; rw [pR]; omega⟩
theorem bz.depth {k:Nat} {A:Χ} (r:bz k A):A.depth < recursionLimit:=by have:=r.dp; omega
theorem bz.units {k:Nat} {A:Χ} (r:bz k A):A.units + 64 < cLine:=by have:=r.un; omega
def Ad:TA:=λ_ H Q=>Q [] H
def yn (ta:TE) (tr:TA):TA:=λσ H Q=>ta σ H λx H1=>tr σ H1 λxs H2=>Q (x :: xs) H2
section
variable {X:Cx} {e:Expr} {es:List Expr} {te:TE} {t:TA} {pos:Pos}
theorem pa_nil:PA X [] Ad:=λ_ _ _ _ H Q I h=>Ex ⟨[],H,I,.nil,h⟩
theorem pa_cons (ha:PE X e te) (hr:PA X es t) (hs:starEach (e :: es) X.env=(false,eval e X.env) :: starEach es X.env:=by rfl):PA X (e :: es) (yn te t):=by
 intro pos pins s σ H Q I h
 rw [hs]
 show wpAny _ _ (spliced ((false,eval e X.env) :: backTo pos (starEach es X.env))) _ _ s
 refine D_ (thn (ha pins s σ H _ I h) λu s1 ⟨x,H1,I1,r1,q1⟩=>?_)
 exact thn (hr pos pins s1 σ H1 _ I1 q1) λus s2 ⟨xs,H2,I2,r2,q2⟩=>⟨x :: xs,H2,I2,.cons r1 r2,q2⟩
def AW (t:TA):TE:=λσ H Q=>t σ H λxs H1=>xs.length<=sizeLine/\∀ p,H1 p=none->Q (.ref p) (upd H1 p (.tup xs))
def Ar (t:TA):TE:=λσ H Q=>t σ H λxs H1=>xs.length<=sizeLine/\∀ p,H1 p=none->Q (.ref p) (upd H1 p (.lst xs))
theorem pe_tup {x1} (h:PA X es t):PE X (.Tuple es x1 pos) (AW t):=by
 intro pins s σ H Q I hq
 refine wpAny_Tuple_spliced (thn (h pos pins s σ H _ I hq) λus s1 ⟨xs,H1,I1,r,z,q⟩=>⟨by rw [<- r.length]; exact z,?_⟩)
 have hf:H1 s1.heap.objs.size=none:=I1.hok.fresh (π _)
 refine ⟨.ref s1.heap.objs.size,upd H1 s1.heap.objs.size (.tup xs),I1.laid (t':=s1.toks) (λb u e=>η _ e) (π _) ?_,rfl,q _ hf⟩
 exact ⟨z,us,r,⟨_,τ _ rfl,rfl,_,rfl⟩,NoD.new _ rfl⟩
theorem pe_lst (h:PA X es t):PE X (.List es pos) (Ar t):=by
 intro pins s σ H Q I hq
 refine wpAny_List_spliced (thn (h pos pins s σ H _ I hq) λus s1 ⟨xs,H1,I1,r,z,q⟩=>⟨by rw [<- r.length]; exact z,?_⟩)
 have hf:H1 s1.heap.objs.size=none:=I1.hok.fresh (π _)
 refine ⟨.ref s1.heap.objs.size,upd H1 s1.heap.objs.size (.lst xs),I1.laid (t':=s1.toks) (λb u e=>η _ e) (π _) ?_,rfl,q _ hf⟩
 exact ⟨z,us,0,r,τ _ rfl⟩
end
abbrev Sp:=List V->Hp->VK->XK->Prop
abbrev CXT:=List Env->Hp->ζ->XK->δ->ζ->Prop
structure oK (P:Β) (w:Ν) (K:ι) (mg:Str->Option δ) (base:Heap) (A:Χ) (outer:List Env) (s:ζ) (H:Hp):Prop where
 frames:A.frames=some outer
 mod:Mod K mg base
 bs:∀ b o,base.get? b=some o->s.heap.get? b=some o/\H b=none
 bsz:base.objs.size<=s.heap.objs.size
 funs:s.heap.FunFrames base outer
 frf:∀ b∈frs outer,H b=none
 hok:HOk P w H s.heap
 bare:DS s.gens
def CE (outer:List Env) (P:Β) (w:Ν) (H:Hp) (s:ζ) (Q:VK) (u:δ) (s':ζ):Prop:=
 ∃ v H',s'.os=s.os/\DS s'.gens/\Un (frs outer) [] H H' s.heap s'.heap/\HOk P w H' s'.heap/\aw v u/\Q v H'
def CR (CX:CXT) (outer:List Env) (P:Β) (w:Ν) (H:Hp) (s:ζ) (Q:VK) (E:XK) (r:Ea) (s':ζ):Prop:=
 match r with
 | .ok (.ret u)=>CE outer P w H s Q u s'
 | .ok _=>False
 | .error e=>CX outer H s E e s'
structure aF (P:Β) (w:Ν) (K:ι) (mg:Str->Option δ) (base:Heap) (CX:CXT) (k:Nat) (f:Addr) (fd:Μ) (ps:List Str) (sp:Sp):Prop where
 len:∀ vs H Q E,sp vs H Q E->vs.length=ps.length
 run:∀ (A:Χ) (outer:List Env) (s:ζ) (H:Hp) (args:Args) (us:List δ) (vs:List V) (Q:VK) (E:XK),bz k A->oK P w K mg base A outer s H->Fl s fd args (ps.zip us)->ar vs us->sp vs H Q E ->
  codeAny (model P w) A (.call (.ref f) args) (CR CX outer P w H s Q E) s
theorem aF.mono {P:Β} {w:Ν} {K:ι} {mg:Str->Option δ} {base:Heap} {CX:CXT} {j k:Nat} {f:Addr} {fd:Μ} {ps:List Str} {sp:Sp} (F:aF P w K mg base CX j f fd ps sp) (h:j<=k) :
  aF P w K mg base CX k f fd ps sp:=⟨F.len,λA outer s H args us vs Q E hr=>F.run A outer s H args us vs Q E (hr.mono h)⟩
theorem oK.make {P:Β} {w:Ν} {K:ι} {mg:Str->Option δ} {base:Heap} {A:Χ} {outer:List Env} {s:ζ} {H:Hp} (e:oK P w K mg base A outer s H) (C:Addr) (us:List δ) (kw:List (Str×δ)) :
  oK P w K mg base (A.under (.builtin "type.__call__" ⟨.ref C :: us,kw⟩)) outer s H:=⟨by first | exact e.frames | (simpa [Χ.under,Code.envs,Code.isFrame,pushEnvs] using e.frames),e.mod,e.bs,e.bsz,e.funs,e.frf,e.hok,e.bare⟩
section
variable {X:Cx} {pins:List (Addr×Obj)} {σ:St} {H:Hp} {s s':ζ}
theorem Inv.env0 (I:Inv X pins σ H s):oK X.prog X.w X.K X.mg X.base X.A X.stack s H:=
 ⟨I.ok.frames,I.ok.mod,I.bs,ϟ I.ok.bsz I.sz,I.stack,I.stkFree,I.hok,I.bare⟩
theorem Inv.after {Q:VK} {u:δ} (I:Inv X pins σ H s) (h:CE X.stack X.prog X.w H s Q u s'):EP X pins σ Q u s':=by
 obtain ⟨v,H',os,bare,un,hok,r,q⟩:=h
 obtain ⟨hh,g,d,t,os'⟩:=s'
 obtain rfl:os'=s.os:=os
 exact ⟨v,H',I.call (h':=hh) (g':=g) (d':=d) (t':=t) (ch:=[]) un hok bare (λb z=>absurd z ∅),r,q⟩
end
def uk (sp:Sp) (dvs:List V) (E:XK) (t:TA):TE:=λσ H Q=>t σ H λvs H1=>sp (vs ++ dvs) H1 Q E
def bx (K:ι) (fd:Μ) (ps:List Str) (ds:List δ):Prop:=
 ∀ (s:ζ) (us:List δ),K.In s.heap->(us ++ ds).length=ps.length->Fl s fd ⟨us,[]⟩ (ps.zip (us ++ ds))
theorem bx.all {K:ι} {fd:Μ} {ps:List Str} (h:∀ us:List δ,us.length=ps.length->bindArgs fd ⟨us,[]⟩=pure (ps.zip us)):bx K fd ps []:=λs us _ hl=>by
 rw [m5] at hl ⊢
 exact .of_eq (h us hl)
def lD (CX:CXT) (X:Cx) (E:XK):Prop:=∀ (pins:List (Addr×Obj)) (σ:St) (H:Hp) (s:ζ) (e:δ) (s':ζ),Inv X pins σ H s->CX X.stack H s E e s'->X.xe e s'
section
variable {X:Cx} {CX:CXT} {k:Nat} {f C:Addr} {fd:Μ} {ps:List Str} {sp:Sp} {dvs:List V} {ds:List δ} {E:XK} {x m:Str} {p pos apos:Pos} {e o:Expr} {es:List Expr} {ta:TE} {t:TA}
theorem vv {pins:List (Addr×Obj)} {σ:St} {H:Hp} {s:ζ} {Q:VK} {us:List δ} {vs:List V} (F:aF X.prog X.w X.K X.mg X.base CX k f fd ps sp) (hr:bz k X.A) (hb:bx X.K fd ps ds) (hd:ar dvs ds) (hx:lD CX X E)
  (I:Inv X pins σ H s) (r:ar vs us) (h:sp (vs ++ dvs) H Q E):wpAny (model X.prog X.w) X.A (call (.ref f) us) (EP X pins σ Q) X.xe s:=by
 have r2:ar (vs ++ dvs) (us ++ ds):=r.append hd
 have hl:(us ++ ds).length=ps.length:=by rw [<- r2.length]; exact F.len _ _ _ _ h
 refine Do (x9 (F.run X.A X.stack s H ⟨us,[]⟩ (us ++ ds) (vs ++ dvs) Q E hr I.env0 (hb s us I.kIn hl) r2 h) λr s' hq=>?_)
 cases r with
 | error e=>exact hx pins σ H s e s' I hq
 | ok fl=>
  cases fl with
  | ret u=>exact I.after hq
  | next=>exact k8 hq
  | brk=>exact k8 hq
  | cont=>exact k8 hq
theorem qE (F:aF X.prog X.w X.K X.mg X.base CX k f fd ps sp) (hr:bz k X.A) (hg:Gl X x) (hm:X.mg x=some (.ref f)) (hk:l7 X.K (.ref f)=true) (hb:bx X.K fd ps ds) (hd:ar dvs ds) (hx:lD CX X E)
  (ha:PA X (e :: es) t) (hdb:(x == ("__debug__" : Str))=false:=by decide) (he:starEach (e :: es) X.env=(false,eval e X.env) :: starEach es X.env:=by rfl) (hpl:(backTo pos (starEach es X.env)).any (·.1)=false:=by rfl) :
  PE X (.Call (.Name x p) (e :: es) [] pos) (uk sp dvs E t):=by
 intro pins s σ H Q I h
 refine m8 (fL I hg hm ?_ hdb)
 refine CV (h₀:=X.base) I.ok.mod.kin hk (thn (ha pos pins s σ H _ I h) λus s1 ⟨vs,H1,I1,r,q⟩=>⟨I1.kIn,?_⟩) he hpl
 exact vv F hr hb hd hx I1 r q
end
section
variable {X:Cx} {CX:CXT} {k:Nat} {f C:Addr} {fd:Μ} {ps ks:List Str} {sp:Sp} {E:XK} {x m:Str} {p pos apos kpos:Pos} {e o:Expr} {es:List Expr} {kws:List Keyword} {te ta:TE} {t tk:TA} {nm:Option Str}
variable {g:List δ->List δ->List δ} {gV:List V->List V->List V}
end
structure ao (N P:List Str) (sc:C1):Prop where
 kind:sc.kind=.function
 co:sc.isCoroutine=false
 gen:sc.isGenerator=false
 nd:N.Nodup
 pre:N.take P.length=P
 par:∀ x∈P,sc.names.lookup x=some .local\/sc.names.lookup x=some .cell
 nofree:∀ y∈sc.names,y.2≠.free
theorem jL {kindOf:Str->Option Cs} {x:Str}:∀ {binds:List (Str×δ)} {m:Str->Option δ},(∀ v,(x,v)∉binds)->bindL kindOf binds m x=m x
 | [],_,_=>rfl
 | (n,v) :: r,m,h=>by
  unfold bindL
  rw [jL λw hw=>h w (ρ _ hw)]
  split
  ·have:x≠n:=by rintro rfl; exact h v Δ
   simp [this]
  ·rfl
theorem jM {kindOf:Str->Option Cs} {x:Str}:∀ {binds:List (Str×δ)} {m:Str->Option δ},(∀ v,(x,v)∉binds)->bindC kindOf binds m x=m x
 | [],_,_=>rfl
 | (n,v) :: r,m,h=>by
  unfold bindC
  rw [jM λw hw=>h w (ρ _ hw)]
  split
  ·rfl
  ·have:x≠n:=by rintro rfl; exact h v Δ
   simp [this]
theorem jC {kindOf:Str->Option Cs} {x:Str} {v:δ}:∀ {P:List Str} {vs:List δ} {i:Nat} {m:Str->Option δ},P.Nodup->P[i]?=some x->vs[i]?=some v->kindOf x=some .local ->
  bindL kindOf (P.zip vs) m x=some v
 | [],_,_,_,_,h,_,_=>by simp at h
 | _ :: _,[],_,_,_,_,h,_=>by simp at h
 | p :: P,w :: vs,0,m,nd,h1,h2,hk=>by
  simp at h1 h2; subst h1; subst h2
  show bindL kindOf ((p,w) :: P.zip vs) m p=_
  unfold bindL
  rw [jL λv hv=>(j4.mp nd).1 (E3 hv).1,if_pos hk]
  simp
 | p :: P,w :: vs,i + 1,m,nd,h1,h2,hk=>by
  show bindL kindOf ((p,w) :: P.zip vs) m x=_
  unfold bindL
  exact jC (i:=i) (j4.mp nd).2 (by simpa using h1) (by simpa using h2) hk
theorem jV {kindOf:Str->Option Cs} {x:Str} {v:δ}:∀ {P:List Str} {vs:List δ} {i:Nat} {m:Str->Option δ},P.Nodup->P[i]?=some x->vs[i]?=some v->kindOf x≠some .local ->
  bindC kindOf (P.zip vs) m x=some v
 | [],_,_,_,_,h,_,_=>by simp at h
 | _ :: _,[],_,_,_,_,h,_=>by simp at h
 | p :: P,w :: vs,0,m,nd,h1,h2,hk=>by
  simp at h1 h2; subst h1; subst h2
  show bindC kindOf ((p,w) :: P.zip vs) m p=_
  unfold bindC
  rw [jM λv hv=>(j4.mp nd).1 (E3 hv).1,if_neg hk]
  simp
 | p :: P,w :: vs,i + 1,m,nd,h1,h2,hk=>by
  show bindC kindOf ((p,w) :: P.zip vs) m x=_
  unfold bindC
  exact jV (i:=i) (j4.mp nd).2 (by simpa using h1) (by simpa using h2) hk
def eh (N:List Str) (vs:List V):St:=vs.map some ++ Α (N.length - vs.length) none
def cM (CX:CXT) (P:Β) (w:Ν) (K:ι) (mg:Str->Option δ) (base:Heap) (N:List Str) (qual:Str) (scope:C1) (f:Addr) (cd:δ) (A:Χ) (outer:List Env) (s:ζ) (H:Hp) (E:XK):Cx where
 prog:=P
 w:=w
 K:=K
 mg:=mg
 base:=base
 A:=A.deeper (envOfC qual scope s.heap.objs.size f cd)
 N:=N
 s₀:=s
 H₀:=H
 env:=envOfC qual scope s.heap.objs.size f cd
 outer:=outer
 stack:=envOfC qual scope s.heap.objs.size f cd :: outer
 ex:=[]
 calm:=true
 fn:=λ_=>true
 pn:=[]
 xe:=λe s'=>wpAny (model P w) (A.deeper (envOfC qual scope s.heap.objs.size f cd)) (leaving (envOfC qual scope s.heap.objs.size f cd) e) (λ_ s''=>CX outer H s E e s'') (λe' s''=>CX outer H s E e' s'') s'
theorem mP {sc:C1} {n:Nat} {x:Str} (h:sc.names.lookup x=some .cell):∃ c,(cellsFrom n sc.names []).lookup x=some c:=by
 have q:=PySem.W.cellsFrom_some sc.names n [] (.inl h)
 exact Option.isSome_iff_exists.mp q
theorem rP {CX:CXT} {P:Β} {w:Ν} {K:ι} {mg:Str->Option δ} {base:Heap} {N ps:List Str} {qual:Str} {scope:C1} {f:Addr} {cd:δ} {A:Χ} {outer:List Env} {s s1:ζ} {H:Hp} {E:XK} {us:List δ} {vs:List V}
  (S:ao N ps scope) (hd:A.handled=none) (e0:oK P w K mg base A outer s H) (hl:vs.length=ps.length) (r:ar vs us)
  (x:InCallC s s.heap.objs.size (bindL (envOfC qual scope s.heap.objs.size f cd).kindOf (ps.zip us) λ_=>none) (cellsFrom (s.heap.objs.size + 1) scope.names []) (bindC (envOfC qual scope s.heap.objs.size f cd).kindOf (ps.zip us) λ_=>none) s1) :
  Inv (cM CX P w K mg base N qual scope f cd A outer s H E) [] (eh N vs) H s1:=by
 have hpl:ps.length<=N.length:=by have:=congrArg List.length S.pre; rw [ϊ] at this; omega
 obtain ⟨h1,tk,rfl,hk⟩:=x.done
 have noA:∀ b:Addr,b∉(cM CX P w K mg base N qual scope f cd A outer s H E).ex:=λb z=>absurd (show b∈([]:List Addr) from z) ∅
 refine ⟨⟨e0.mod,S.kind,rfl,rfl,π _,λy z c h1 h2=>?_,λy hy=>?_,λy c _ h=>?_,λ_=>hd,Χ.frames_deeper e0.frames,.inr ⟨rfl,rfl⟩,λb z=>absurd z (noA b),e0.bs,e0.bsz,λb _ _=>noA b,λb z=>absurd z (noA b),e0.funs,e0.frf⟩,
  rfl,e0.bare,Un.kept hk,⟨_,x.toInCall.ns,λi y v h1 h2 h3=>?_⟩,λy c h=>⟨_,x.cell y c h⟩,e0.hok.fresh (π _),λy c h=>?_,λp hp=>absurd (show p∈([]:List (Addr×Obj)) from hp) ∅,e0.hok.kept hk,?_⟩
 ·exact name_of_addr x.apart (B0 h1) (B0 h2)
 ·have hy:scope.names.lookup y=some .cell\/scope.names.lookup y=some .free:=hy
  rcases hy with hy | hy
  ·exact mP hy
  ·exact absurd rfl (S.nofree _ (B0 hy))
 ·exact x5 (x.above y c (B0 h))
 ·have hi:i < vs.length:=by
   unfold eh at h2
   by_cases hi:i < vs.length
   ·exact hi
   ·rw [y9 (by simpa using hi)] at h2
    rw [List.getElem?_replicate] at h2
    split at h2 <;> cases h2
  have ha:vs[i]?=some v:=by
   unfold eh at h2
   rw [Et (by simpa using hi),Ψ] at h2
   cases e:vs[i]? with
   | none=>rw [e] at h2; cases h2
   | some a=>rw [e] at h2; cases h2; rfl
  obtain ⟨u,hu,rv⟩:=r.get ha
  have hp:ps[i]?=some y:=by
   rw [<- S.pre,List.getElem?_take_of_lt ∅]; exact h1
  have ndP:ps.Nodup:=by rw [<- S.pre]; exact S.nd.sublist (List.take_sublist _ _)
  refine ⟨u,rv,?_⟩
  rcases S.par y (Λ hp) with k | k
  ·exact .inl ⟨k,jC ndP hp hu k⟩
  ·obtain ⟨c,e⟩:=mP (n:=s.heap.objs.size + 1) k
   refine .inr ⟨.inl k,c,e,?_⟩
   have q:=x.cell y c e
   rw [jV ndP hp hu (by show scope.names.lookup y≠_; rw [k]; decide)] at q
   exact q
 ·exact e0.hok.fresh (x5 (x.above y c (B0 h)))
 ·unfold eh
  show _=N.length
  rw [ψ,ε,u8]
  omega
theorem we {CX:CXT} {P:Β} {w:Ν} {K:ι} {mg:Str->Option δ} {base:Heap} {k:Nat} {f:Addr} {name qual:Str} {params:Arguments} {body:List Stmt} {scope:C1} {dV kV doc pm cdv ct oc:δ} {an od:Option Addr}
  {osl:Array (Option δ)} {N ps:List Str} {sp:Sp} (lk:K.lookup f=some ⟨oc,od,.func (o_ name qual params body scope dV kV doc pm an cdv ct),osl⟩) (hcd:Ct K cdv qual=true) (S:ao N ps scope)
  (len:∀ vs H Q E,sp vs H Q E->vs.length=ps.length)
  (hbody:∀ (A:Χ) (outer:List Env) (s:ζ) (H:Hp) (vs:List V) (Q:VK) (E:XK),bz k (A.deeper (envOfC qual scope s.heap.objs.size f cdv))->sp vs H Q E ->
   ∃ t,PSs (cM CX P w K mg base N qual scope f cdv A outer s H E) body t/\t { nx:=λ_ H'=>Q .non H',rt:=Q } (eh N vs) H) :
  aF P w K mg base CX (k + 1) f (o_ name qual params body scope dV kV doc pm an cdv ct) ps sp:=by
 refine ⟨len,λA outer s H args us vs Q E hr e0 hb r hsp=>?_⟩
 have hl:=len _ _ _ _ hsp
 have KX:K.In s.heap:=e0.mod.kin.keeps λb o e=>(e0.bs b o e).1
 have lim:s.heap.NoLimit:=e0.mod.nolimit.keeps λb o e=>(e0.bs b o e).1
 have hkind:∀ y∈ps.zip us,scope.names.lookup y.1=some .local\/(scope.names.lookup y.1=some .cell/\((cellsFrom (s.heap.objs.size + 1) scope.names []).lookup y.1).isSome=true):=λ⟨n,v⟩ hy=>by
  rcases S.par n (E3 hy).1 with q | q
  ·exact .inl q
  ·exact .inr ⟨q,PySem.W.cellsFrom_some _ _ _ (.inl q)⟩
 refine codeAny_call_function hr.depth (KX _ _ lk) rfl S.co S.gen rfl (PySem.W.codeRec_of KX hcd) (hb _ _ _ _ ?_)
 refine wpAny_newFunctionEnv_cells S.kind hkind λenv he s1 x=>?_
 subst he
 refine ⟨lim.keeps x.toInCall.keep,codeAny_func ?_⟩
 obtain ⟨t,ht,hq⟩:=hbody A outer s H vs Q E (hr.deeper _) hsp
 have I:Inv (cM CX P w K mg base N qual scope f cdv A outer s H E) [] (eh N vs) H s1:=rP S hr.hd e0 hl r x
 refine Ϻ (ht [] s1 (eh N vs) H _ I hq) (λfl s' hs=>?_) λe s' hs=>hs
 have fin:∀ {σ':St} {H':Hp} {v:V} {u:δ},Inv (cM CX P w K mg base N qual scope f cdv A outer s H E) [] σ' H' s'->aw v u->Q v H'->CE outer P w H s Q u s':=
  λ{σ' H' v u} J rv q=>⟨v,H',J.os,J.bare,J.base,J.hok,rv,q⟩
 cases fl with
 | ret u=>
  obtain ⟨v,σ',H',J,rv,q⟩:=hs
  exact fin J rv q
 | next=>
  obtain ⟨σ',H',J,q⟩:=hs
  exact fin (v:=V.non) (u:=Ϫ) J rfl q
 | brk=>
  obtain ⟨_,_,_,q⟩:=hs
  exact k8 q
 | cont=>
  obtain ⟨_,_,_,q⟩:=hs
  exact k8 q
section
variable {X:Cx} {x:Str} {p pos:Pos} {e:Expr} {es:List Expr} {t:TA} {id T:String} {r:List V->Hp->VK->Prop}
def tCB (r:List V->Hp->VK->Prop) (t:TA):TE:=λσ H Q=>t σ H λvs H1=>r vs H1 Q
theorem pe_callB (hc:bE X (.builtin id) r) (hg:Gl X x) (hm:X.mg x=none) (hv:bootBuiltins x=some (.builtin id)) (ha:PA X (e :: es) t) (hn:x≠"__name__":=by decide) (hdb:(x == ("__debug__" : Str))=false:=by decide)
  (he:starEach (e :: es) X.env=(false,eval e X.env) :: starEach es X.env:=by rfl) (hpl:(backTo pos (starEach es X.env)).any (·.1)=false:=by rfl):PE X (.Call (.Name x p) (e :: es) [] pos) (tCB r t):=by
 intro pins s σ H Q I h
 refine m8 (cy I hg hm hv ?_ hn hdb)
 exact PyProof.Rows.callWith_builtin1 (thn (ha pos pins s σ H _ I h) λus s1 ⟨vs,H1,I1,r1,q1⟩=>hc pins s1 σ H1 vs us Q I1 r1 q1) he hpl
theorem pe_callTy (hc:bE X (.type T) r) (hg:Gl X x) (hm:X.mg x=none) (hv:bootBuiltins x=some (.type T)) (ha:PA X (e :: es) t) (hn:x≠"__name__":=by decide) (hdb:(x == ("__debug__" : Str))=false:=by decide)
  (he:starEach (e :: es) X.env=(false,eval e X.env) :: starEach es X.env:=by rfl) (hpl:(backTo pos (starEach es X.env)).any (·.1)=false:=by rfl):PE X (.Call (.Name x p) (e :: es) [] pos) (tCB r t):=by
 intro pins s σ H Q I h
 refine m8 (cy I hg hm hv ?_ hn hdb)
 exact a9 (thn (ha pos pins s σ H _ I h) λus s1 ⟨vs,H1,I1,r1,q1⟩=>hc pins s1 σ H1 vs us Q I1 r1 q1) he hpl
end
section
variable {κ:Type} [DecidableEq κ]
def dD (kvs:List (κ×V)) (k:κ):Option V:=(kvs.find? λkv=>decide (kv.1=k)).map (·.2)
def cG (kvs:List (κ×V)) (k:κ) (v:V):List (κ×V):=
 if (kvs.any λkv=>decide (kv.1=k))=true then kvs.map (λkv=>if kv.1=k then (kv.1,v) else kv) else kvs ++ [(k,v)]
theorem fX {p:κ×V} {r:List (κ×V)} {k:κ} (e:p.1=k):dD (p :: r) k=some p.2:=by simp [dD,j6,e]
theorem fG {p:κ×V} {r:List (κ×V)} {k:κ} (e:¬ p.1=k):dD (p :: r) k=dD r k:=by simp [dD,j6,e]
theorem nc (k:κ):∀ kvs:List (κ×V),(kvs.any λkv=>decide (kv.1=k))=(dD kvs k).isSome
 | []=>rfl
 | p :: r=>by
  rw [CM]
  by_cases e:p.1=k
  ·simp only [fX e,decide_eq_true e,Bool.true_or,Option.isSome_some]
  ·rw [fG e,decide_eq_false e,BR]; exact nc k r
theorem gY (kvs:List (κ×V)) (k:κ) (v:V):(cG kvs k v).length<=kvs.length + 1:=by
 unfold cG
 split
 ·rw [ε]; omega
 ·rw [ψ,ό,u_]; omega
theorem oi.isSome_eq {o:Option V} {u:Option δ} (r:oi o u):o.isSome=u.isSome:=by
 cases o with
 | none=>cases u with
  | none=>rfl
  | some _=>exact (show False from r).elim
 | some _=>cases u with
  | none=>exact (show False from r).elim
  | some _=>rfl
theorem KV.val {kvs:List (κ×V)} {vs:List (κ×δ)} (r:KV kvs vs) (k:κ):oi (dD kvs k) (valueAt vs k):=by
 unfold KV at r
 induction r with
 | nil=>exact BQ
 | @cons p q ps qs h t ih=>
  obtain ⟨h1,h2⟩:=h
  by_cases e:p.1=k
  ·have e':q.1=k:=h1.symm.trans e
   have b:valueAt (q :: qs) k=some q.2:=by simp [valueAt,j6,e']
   rw [fX e,b]; exact h2
  ·have e':¬ q.1=k:=λz=>e (h1.trans z)
   have b:valueAt (q :: qs) k=valueAt qs k:=by simp [valueAt,j6,e']
   rw [fG e,b]; exact ih
theorem KV.any {kvs:List (κ×V)} {vs:List (κ×δ)} (r:KV kvs vs) (k:κ):(kvs.any λkv=>decide (kv.1=k))=vs.any λkv=>decide (kv.1=k):=by
 unfold KV at r
 induction r with
 | nil=>rfl
 | cons h t ih=>rw [CM,CM,ih,h.1]
theorem KV.repl {kvs:List (κ×V)} {vs:List (κ×δ)} (r:KV kvs vs) (k:κ) {y:V} {u:δ} (ry:aw y u) :
  KV (kvs.map λkv=>if kv.1=k then (kv.1,y) else kv) (vs.map λkv=>if kv.1=k then (kv.1,u) else kv):=by
 unfold KV at r ⊢
 induction r with
 | nil=>exact .nil
 | @cons p q ps qs h t ih=>
  rw [Υ,Υ]
  refine .cons ?_ ih
  obtain ⟨h1,h2⟩:=h
  by_cases e:p.1=k
  ·rw [if_pos e,if_pos (h1.symm.trans e)]; exact ⟨h1,ry⟩
  ·rw [if_neg e,if_neg (λz=>e (h1.trans z))]; exact ⟨h1,h2⟩
theorem KV.put {kvs:List (κ×V)} {vs:List (κ×δ)} (r:KV kvs vs) (k:κ) {y:V} {u:δ} (ry:aw y u):KV (cG kvs k y) (stored vs k u):=by
 unfold cG stored
 rw [r.any k]
 by_cases e:(vs.any λkv=>decide (kv.1=k))=true
 ·rw [if_pos e,if_pos e]; exact r.repl k ry
 ·rw [if_neg e,if_neg e]; exact Paired.snoc r ⟨rfl,ry⟩
theorem KV.keys {kvs:List (κ×V)} {vs:List (κ×δ)} (r:KV kvs vs):kvs.map (·.1)=vs.map (·.1):=by
 unfold KV at r
 induction r with
 | nil=>rfl
 | cons h t ih=>rw [Υ,Υ,ih,h.1]
theorem KV.length {kvs:List (κ×V)} {vs:List (κ×δ)} (r:KV kvs vs):kvs.length=vs.length:=Paired.length r
end
theorem jI {P:Β} {w:Ν} {k:Key} {u:δ} (r:aw (kV k) u):(aK P w).is k u=true:=by
 cases k with
 | inl i=>obtain ⟨t,e⟩:=(show ∃ t,u=CC i t from r); subst e; exact lN P w i t
 | inr x=>obtain ⟨t,e⟩:=(show ∃ t,u=i4 x t from r); subst e; exact dL P w x t
theorem jW {P:Β} {w:Ν}:∀ {ks:List Key} {us:List δ},ar (ks.map kV) us->ItemsAre (aK P w) ks us
 | [],_,r=>by rw [ϰ] at r; cases r; exact .nil
 | k :: ks,_,r=>by
  rw [Υ] at r
  cases r with
  | cons h t=>exact .cons (jI h) (jW t)
abbrev KT (H:Hp):List (List Key×V)->List (List Key×Addr×δ)->Prop:=Paired λp q=>p.1=q.1/\H q.2.1=some (.tup (p.1.map kV))/\aw p.2 q.2.2
theorem KT.val {H:Hp} {kvs:List (List Key×V)} {xs:List (List Key×Addr×δ)} (r:KT H kvs xs) (k:List Key):oi (dD kvs k) ((atKey xs k).map (·.2)):=by
 induction r with
 | nil=>exact BQ
 | @cons p q ps qs h t ih=>
  obtain ⟨h1,_,h2⟩:=h
  by_cases e:p.1=k
  ·have e':q.1=k:=h1.symm.trans e
   have b:atKey (q :: qs) k=some q.2:=by simp [atKey,j6,e']
   rw [fX e,b]; exact h2
  ·have e':¬ q.1=k:=λz=>e (h1.trans z)
   have b:atKey (q :: qs) k=atKey qs k:=by simp [atKey,j6,e']
   rw [fG e,b]; exact ih
theorem KT.repl {H:Hp} {kvs:List (List Key×V)} {xs:List (List Key×Addr×δ)} (r:KT H kvs xs) (k:List Key) {y:V} {u:δ} (ry:aw y u) :
  KT H (kvs.map λkv=>if kv.1=k then (kv.1,y) else kv) (xs.map (putAt k u)):=by
 induction r with
 | nil=>exact .nil
 | @cons p q ps qs h t ih=>
  rw [Υ,Υ]
  refine .cons ?_ ih
  obtain ⟨h1,h2,h3⟩:=h
  unfold putAt
  by_cases e:p.1=k
  ·rw [if_pos e,if_pos (h1.symm.trans e)]; exact ⟨h1,h2,ry⟩
  ·rw [if_neg e,if_neg (λz=>e (h1.trans z))]; exact ⟨h1,h2,h3⟩
theorem KT.put {H:Hp} {kvs:List (List Key×V)} {xs:List (List Key×Addr×δ)} (r:KT H kvs xs) (k:List Key) {b:Addr} {y:V} {u:δ} (hb:H b=some (.tup (k.map kV))) (ry:aw y u) :
  KT H (cG kvs k y) (storedH xs k b u):=by
 have e:(kvs.any λkv=>decide (kv.1=k))=(atKey xs k).isSome:=by
  rw [nc,(r.val k).isSome_eq,Cj]
 unfold cG storedH
 rw [e]
 by_cases q:(atKey xs k).isSome=true
 ·rw [if_pos q,if_pos q]; exact r.repl k ry
 ·rw [if_neg q,if_neg q]; exact Paired.snoc r ⟨rfl,hb,ry⟩
theorem KT.keeps {H H':Hp} {kvs:List (List Key×V)} {xs:List (List Key×Addr×δ)} (r:KT H kvs xs) (ht:∀ b ys,H b=some (.tup ys)->H' b=some (.tup ys)):KT H' kvs xs:=
 Paired.mapP r λ_ _ z=>⟨z.1,ht _ _ z.2.1,z.2.2⟩
section
variable {P:Β} {w:Ν} {H:Hp} {h:Heap} {a:Addr}
theorem xR {u:HO} (ok:HOk P w H h) (e:Rd H a u):aI P w H h a u:=e.ok ok
theorem rg {kvs:List (Key×V)} (ok:HOk P w H h) (e:Rd H a (.dK kvs)):kvs.length<=sizeLine/\(a == sysModules)=false/\∃ vs,KV kvs vs/\h.DictOf (aK P w) a vs:=
 show aI P w H h a (.dK kvs) from xR ok e
theorem wb {kvs:List (Key×V)} (ok:HOk P w H h) (e:H a=some (.dK kvs)):kvs.length<=sizeLine/\(a == sysModules)=false/\∃ vs,KV kvs vs/\h.DictOf (aK P w) a vs:=rg ok (.inl e)
theorem lq {ks:List Key} (ok:HOk P w H h) (e:H a=some (.tup (ks.map kV))):(tupleKind (aK P w)).is h ks a:=by
 obtain ⟨_,its,r,⟨o,h1,h2,n,h3⟩,_⟩:=(show aI P w H h a (.tup (ks.map kV)) from ok a _ e)
 exact ⟨o,its.toArray,n,h1,h2,h3,by simpa using jW r⟩
theorem uI {kvs:List (List Key×V)} (ok:HOk P w H h) (e:Rd H a (.dT kvs)):kvs.length<=sizeLine/\(a == sysModules)=false /\
  ∃ xs,KT H kvs xs/\h.DictOfH (tupleKind (aK P w)) a xs:=by
 obtain ⟨z,y,xs,r,o,es,ep,h1,h2,h3,h4,h5⟩:=(show aI P w H h a (.dT kvs) from xR ok e)
 refine ⟨z,y,xs,r,o,es,ep,h1,h2,h3,h4,λx hx=>?_,h5⟩
 have all:∀ {l:List (List Key×V)} {m:List (List Key×Addr×δ)},KT H l m->∀ x∈m,(tupleKind (aK P w)).is h x.1 x.2.1:=by
  intro l m q
  induction q with
  | nil=>intro x hx; exact nomatch hx
  | @cons p q ps qs hq t ih=>
   intro x hx
   rcases ν.mp hx with e | hx
   ·subst e
    exact lq ok (by rw [<- hq.1]; exact hq.2.1)
   ·exact ih x hx
 exact all r x hx
theorem AF {kvs:List (List Key×V)} (ok:HOk P w H h) (e:H a=some (.dT kvs)):kvs.length<=sizeLine/\(a == sysModules)=false /\
  ∃ xs,KT H kvs xs/\h.DictOfH (tupleKind (aK P w)) a xs:=uI ok (.inl e)
end
def oz (H:Hp) (a:Addr) (y:V) (r:Option V):Prop:=
 (∃ kvs k,Rd H a (.dK kvs)/\y=kV k/\r=dD kvs k)\/∃ kvs k b,Rd H a (.dT kvs)/\y=.ref b/\H b=some (.tup (k.map kV))/\r=dD kvs k
def mw (H:Hp) (a:Addr) (y v:V) (H':Hp):Prop:=
 (∃ kvs k,H a=some (.dK kvs)/\y=kV k/\kvs.length < sizeLine/\H'=upd H a (.dK (cG kvs k v))) \/
 ∃ kvs k b,H a=some (.dT kvs)/\y=.ref b/\H b=some (.tup (k.map kV))/\kvs.length < sizeLine/\H'=upd H a (.dT (cG kvs k v))
theorem oz.k {H:Hp} {a:Addr} {kvs:List (Key×V)} {k:Key} (e:H a=some (.dK kvs)):oz H a (kV k) (dD kvs k):=.inl ⟨kvs,k,.inl e,rfl,rfl⟩
theorem mw.k {H:Hp} {a:Addr} {kvs:List (Key×V)} {k:Key} {v:V} (e:H a=some (.dK kvs)) (hl:kvs.length < sizeLine):mw H a (kV k) v (upd H a (.dK (cG kvs k v))):=.inl ⟨kvs,k,e,rfl,hl,rfl⟩
section
variable {X:Cx} {pins:List (Addr×Obj)} {σ:St} {H:Hp} {s:ζ} {a:Addr} {y v:V} {u r:δ} {o:Option V} {A:Χ} {E:δ->ζ->Prop}
theorem Inv.big (I:Inv X pins σ H s):sysModules < s.heap.objs.size:=by
 have h:mainGlobals < s.heap.objs.size:=(I.mod.glob.keeps I.bk).lt
 exact Nat.lt_trans ∅ h
theorem BF {Q:δ->ζ->Prop} (hu:A.units + 1 < cLine) (I:Inv X pins σ H s) (g:oz H a y o) (ry:aw y u) (h:∀ s',Inv X pins σ H s'->Q (.bool o.isSome) s') :
  wpAny (model X.prog X.w) A (compareOp .In u (.ref a)) Q E s:=by
 rcases g with ⟨kvs,k,e,ey,l⟩ | ⟨kvs,k,b,e,ey,eb,l⟩
 ·subst ey
  obtain ⟨z,hd,vs,rel,dd⟩:=rg I.hok e
  refine wpAny_in_of (jI ry) hd dd.mapOf ?_
  rw [<- (rel.val k).isSome_eq,<- l]
  exact h _ (I.tok _)
 ·subst ey
  cases (show u=Η b from ry)
  obtain ⟨z,hd,xs,rel,dd⟩:=uI I.hok e
  refine wpAny_in_heap (Eb hu) (lq I.hok eb) hd dd ?_
  have q:=(rel.val k).isSome_eq
  rw [Cj] at q
  rw [<- q,<- l]
  exact h _ (I.tok _)
theorem wq {Q:δ->ζ->Prop} (hu:A.units + 1 < cLine) (I:Inv X pins σ H s) (g:oz H a y o) (ry:aw y u) (h:∀ s',Inv X pins σ H s'->Q (.bool (!o.isSome)) s') :
  wpAny (model X.prog X.w) A (compareOp .NotIn u (.ref a)) Q E s:=by
 rcases g with ⟨kvs,k,e,ey,l⟩ | ⟨kvs,k,b,e,ey,eb,l⟩
 ·subst ey
  obtain ⟨z,hd,vs,rel,dd⟩:=rg I.hok e
  refine wpAny_notIn_of (jI ry) hd dd.mapOf ?_
  rw [<- (rel.val k).isSome_eq,<- l]
  exact h _ (I.tok _)
 ·subst ey
  cases (show u=Η b from ry)
  obtain ⟨z,hd,xs,rel,dd⟩:=uI I.hok e
  refine wpAny_notIn_heap (Eb hu) (lq I.hok eb) hd dd ?_
  have q:=(rel.val k).isSome_eq
  rw [Cj] at q
  rw [<- q,<- l]
  exact h _ (I.tok _)
theorem rh {h':Heap} {t':Nat} {ob:HO} (I:Inv X pins σ H s) (mu:Mut (H a)) (hs:x6 a s.heap h') (he:∃ q,h'.get? a=some q) (new:aI X.prog X.w (upd H a ob) h' a ob) :
  Inv X pins σ (upd H a ob) { s with heap:=h',toks:=t' }:=
 I.write (x:=a) (e:=a) mu (.inl rfl) (λb q hb z=>(hs.2 b hb).trans z) he new
theorem zg {P:Β} {w:Ν} {H':Hp} {h':Heap} {kvs:List (Key×V)} {vs:List (Key×δ)} (z:kvs.length<=sizeLine) (hd:(a == sysModules)=false) (rel:KV kvs vs) (dd:h'.DictOf (aK P w) a vs) :
  aI P w H' h' a (.dK kvs):=⟨z,hd,vs,rel,dd⟩
theorem sX {H':Hp} {Q:Unit->ζ->Prop} (hu:A.units + 1 < cLine) (I:Inv X pins σ H s) (g:mw H a y v H') (ry:aw y u) (rv:aw v r) (h:∀ s',Inv X pins σ H' s'->Q () s') :
  wpAny (model X.prog X.w) A (setItem (.ref a) u r) Q E s:=by
 rcases g with ⟨kvs,k,e,ey,l,eH⟩ | ⟨kvs,k,b,e,ey,eb,l,eH⟩
 ·subst ey eH
  obtain ⟨z,hd,vs,rel,dd⟩:=wb I.hok e
  have hz:vs.length<=sizeLine:=by rw [<- rel.length]; exact z
  have hl:(cG kvs k v).length<=sizeLine:=by have:=gY kvs k v; omega
  refine wpAny_setItem_pairs (hsz:=hz) (jI ry) dd λh' dd' hs=>h _ ?_
  have he:∃ q,h'.get? a=some q:=let ⟨q,_,_,hq,_⟩:=dd'; ⟨q,hq⟩
  exact rh I (by rw [e]; exact BQ) hs he (zg hl hd (rel.put k rv) dd')
 ·subst ey eH
  cases (show u=Η b from ry)
  obtain ⟨z,hd,xs,rel,dd⟩:=AF I.hok e
  have hz:xs.length<=sizeLine:=by rw [<- Paired.length rel]; exact z
  have hl:(cG kvs k v).length<=sizeLine:=by have:=gY kvs k v; omega
  refine wpAny_setItem_heap (hsz:=hz) (Eb hu) (lq I.hok eb) dd λh' dd' hs=>h _ ?_
  obtain ⟨q,es,ep,hq,h2,h3,h4,_,h5⟩:=dd'
  refine rh I (by rw [e]; exact BQ) hs ⟨q,hq⟩ ⟨hl,hd,_,(rel.put k eb rv).keeps λc ys ec=>?_,q,es,ep,hq,h2,h3,h4,h5⟩
  rw [ah (zT ec e (λz=>nomatch z))]
  exact ec
end
section
variable {X:Cx} {pins:List (Addr×Obj)} {σ:St} {H:Hp} {s:ζ} {a:Addr} {kvs:List (Key×V)} {k:Key} {u:δ} {A:Χ} {E:δ->ζ->Prop}
theorem AX {Q:δ->ζ->Prop} (I:Inv X pins σ H s) (e:Rd H a (.dK kvs)) (h:∀ t s',Inv X pins σ H s'->Q (.int kvs.length t) s'):wpAny (model X.prog X.w) A (call (.builtin "len") [.ref a]) Q E s:=by
 obtain ⟨z,hd,vs,rel,dd⟩:=rg I.hok e
 refine call_len_dict hd dd (by rw [<- rel.length]; rw [υ] at z; omega) ?_
 rw [<- rel.length]
 exact h _ _ (I.tok _)
end
def zO (i:Expr):Prop:=∀ ov iv,subscripted i false ov iv=operate [ov,iv] (getItem ov iv)
theorem xr {prog:Β} {w:Ν} {A:Χ} {E:δ->ζ->Prop} {s:ζ} {env:Env} {value slice:Expr} {pos:Pos} {T id:String} {Q:δ->ζ->Prop}
  (hl:typeLookup (.type T) "__getitem__"=pure (some (.builtin id))) (hs:zO slice)
  (h:wpAny (model prog w) A (eval value env) (λo s₁=>wpAny (model prog w) A (eval slice env) (λi s₂=>s₂.TypeIs o T/\wpAny (model prog w) A (getItem o i) Q E s₂) E s₁) E s) :
  wpAny (model prog w) A (eval (.Subscript value slice pos) env) Q E s:=by
 refine Fq (Ϻ h (λo s₁ h₁=>Ϻ h₁ (λi s₂ h₂=>?_) λ_ _ x=>x) λ_ _ x=>x)
 obtain ⟨hT,h₂⟩:=h₂
 unfold subscriptTail
 refine γ ?_
 rw [getitemInPython_of_ne hT.not_modules]
 refine γ (DF hT hl ?_)
 have fin:wpAny (model prog w) A (subscripted slice false o i) (λr s₃=>wpAny (model prog w) A (letTemporaryGo value o r >>= λ_=>pure r) Q E s₃) E s₂:=by
  rw [hs o i]
  exact wpAny_operating (Ϻ h₂ (λr s₃ h₃=>γ (wpAny_letTemporaryGo (μ h₃))) λ_ _ x=>x)
 first
  | exact μ (γ fin)
  | exact γ (μ (γ fin))
  | exact γ fin
def AG (td ty tv:TE):TS:=λD σ H=>tv σ H λv H1=>td σ H1 λx H2=>ty σ H2 λy H3=>∃ a H4,x=.ref a/\mw H3 a y v H4/\D.nx σ H4
section
variable {X:Cx} {o i e value:Expr} {pos pos' tpos:Pos} {td ty tv:TE}
theorem ps_dput (hu:X.A.units + 1 < cLine) (ho:PE X o td) (hi:PE X i ty) (hv:PE X value tv) (hs:swapsWith value (some (.Subscript o i pos')) pos.line X.env=pure false) :
  PS X (.Assign [.Subscript o i pos'] value pos) (AG td ty tv):=by
 intro pins s σ H D I h
 refine wpAny_Assign_Subscript (thn (hv pins s σ H _ I h) λr s1 ⟨v,H1,I1,rv,q1⟩=>thn (ho pins s1 σ H1 _ I1 q1) λu s2 ⟨x,H2,I2,rx,q2⟩=>thn (hi pins s2 σ H2 _ I2 q2) λiv s3 ⟨y,H3,I3,ry,a,H4,ex,g,q3⟩=>?_) hs
 subst ex
 obtain rfl:u=Η a:=rx
 exact sX hu I3 g ry rv λs4 I4=>⟨σ,H4,I4,q3⟩
end
theorem ut {P:Β} {w:Ν} {H:Hp} (h:Heap) (hb:sysModules < h.objs.size):aI P w H (h.push { cls:=.type "dict",data:=.dict #[] }) h.objs.size (.dK []):=
 ⟨Ω _,beq_eq_false_iff_ne.mpr (ώ (Ρ hb)),[],.nil,Heap.DictOf.new h⟩
def zd:TE:=λ_ H Q=>∀ p,H p=none->Q (.ref p) (upd H p (.dK []))
section
variable {X:Cx} {pos:Pos}
theorem pe_dnewK:PE X (.Dict [] [] pos) zd:=λpins s σ H Q I h=>
 wpAny_Dict_empty ⟨.ref s.heap.objs.size,_,I.laid (a:=s.heap.objs.size) (o:=.dK []) (t':=s.toks) (λ_ _ q=>η _ q) (π _) (ut s.heap I.big),rfl,h _ (I.hok.fresh (π _))⟩
end
section
variable {X:Cx} {pins:List (Addr×Obj)} {σ:St} {H:Hp} {s:ζ} {a:Addr} {y d:V} {u r:δ} {o:Option V} {A:Χ} {E:δ->ζ->Prop}
end
section
variable {X:Cx} {o e f:Expr} {apos cpos:Pos} {td ty tx:TE}
end
section
variable {X:Cx} {pins:List (Addr×Obj)} {σ:St} {H:Hp} {s:ζ} {a:Addr} {kvs:List (Key×V)} {A:Χ} {E:δ->ζ->Prop}
end
section
variable {X:Cx} {pins:List (Addr×Obj)} {σ:St} {H:Hp} {s:ζ} {a:Addr} {y:V} {u:δ} {A:Χ} {E:δ->ζ->Prop}
end
end L2
namespace HT
open PySem PyProof.Rows
section
open PySem.SeqAt
open PySem.AutoSeq1 (wpAny_loadPart')
open PySem.MeetsSeq PySem.MeetsSeq2 PySem.MeetsSeq3
end
section
variable {prog:Β} {w:Ν} {A:Χ} {E:δ->ζ->Prop} {s:ζ}
theorem cat_tup {t b:Addr} {vs ws:List δ} {Q:δ->ζ->Prop} (ht:Fy s.heap t vs.toArray) (hb:Fy s.heap b ws.toArray) (hv:vs≠[])
  (h1:ws=[]->Q (.ref t) s) (h2:ws≠[]->Q (.ref s.heap.objs.size) { s with heap:=s.heap.push { cls:=.type "tuple",data:=.seq (vs ++ ws).toArray } })
  (hsz:vs.length + ws.length<=sizeLine):wpAny (model prog w) A (binaryOp .Add (.ref t) (.ref b)) Q E s:=by
 obtain ⟨⟨cls,dd,data,sl⟩,ho,hc,n,hd⟩:=id ht
 obtain ⟨⟨cls2,dd2,data2,sl2⟩,ho2,hc2,n2,hd2⟩:=id hb
 simp only at hc hd hc2 hd2
 subst hc hd hc2 hd2
 have e:vs.toArray ++ ws.toArray=(vs ++ ws).toArray:=by simp
 by_cases hw:ws=[]
 ·exact concat_meets ⟨_,ho,rfl⟩ ⟨_,ho2,rfl⟩ EM seq_tuple_add C4 CW (CN _ _)
   (tuple_addW1 t b vs.toArray ws.toArray n n2 dd dd2 sl sl2 (by simpa using hv) (by simp [hw])) ⟨ho,ho2,h1 hw⟩
 ·refine concat_meets ⟨_,ho,rfl⟩ ⟨_,ho2,rfl⟩ EM seq_tuple_add C4 CW (CN _ _)
   (tuple_addW2 t b vs.toArray ws.toArray n n2 dd dd2 sl sl2 (by simpa using hv) (by simpa using hw) (by rw [ς,ς]; exact hsz)) ⟨ho,ho2,?_⟩
  rw [e]
  exact h2 hw
def sIx (n d:Nat):Option Int->Nat
 | none=>d
 | some v=>if v < 0 then (v + (n:Int)).toNat else min v.toNat n
theorem sIx_none (n d:Nat):sIx n d none=d:=rfl
theorem sIx_nat (n d k:Nat):sIx n d (some (k:Int))=min k n:=by
 show (if (k:Int) < 0 then ((k:Int) + (n:Int)).toNat else min (k:Int).toNat n)=min k n
 rw [if_neg ∅,ϭ]
theorem za (n d:Nat) (hd:d<=n) (o:Option Int):sIx n d o<=n:=by
 cases o with
 | none=>exact hd
 | some v=>
  show (if v < 0 then (v + (n:Int)).toNat else min v.toNat n)<=n
  by_cases hv:v < 0
  ·rw [if_pos hv]; omega
  ·rw [if_neg hv]; exact Nat.min_le_right _ _
theorem rB (v:Int) (n d:Nat):(if v < 0 then max (v + (n:Int)) 0 else min v (n:Int))=((sIx n d (some v):Nat):Int):=by
 show (if v < 0 then max (v + (n:Int)) 0 else min v (n:Int))=(((if v < 0 then (v + (n:Int)).toNat else min v.toNat n):Nat):Int)
 by_cases hv:v < 0
 ·simp only [if_pos hv]; omega
 ·simp only [if_neg hv]; omega
theorem pL (lo hi:Option Int) (n:Nat):CH lo hi 1 (n:Int)=(((sIx n 0 lo:Nat):Int),((sIx n n hi:Nat):Int)):=by
 have h1:¬ ((1:Int) < 0):=by omega
 unfold CH
 simp only [h1,if_false]
 refine Prod.ext ?_ ?_
 ·cases lo with
  | none=>rfl
  | some v=>exact rB v n 0
 ·cases hi with
  | none=>rfl
  | some v=>exact rB v n n
theorem pK (i j:Nat):A7 (i:Int) (j:Int) 1=j - i:=by
 unfold A7
 have h1:(1:Int) > 0:=by omega
 simp only [h1,if_true,Int.ediv_one]
 split <;> omega
theorem iG {v:δ} {o:Option Int} {Q:Option Int->ζ->Prop} (p:Fs v o) (h:Q o s):wpAny (model prog w) A (Ϡ.Slice.slicePartIndex v) Q E s:=by
 cases p with
 | none=>exact slicePart_none h
 | int i t=>exact slicePart_int h
theorem sliceApplied_gen {sl:Addr} {vl vu:δ} {lo hi:Option Int} {n:Nat} {Q:Int×Int×Nat->ζ->Prop} (hs:s.heap.IsSliceOf sl vl vu .none) (pl:Fs vl lo) (pu:Fs vu hi)
  (h:Q (((sIx n 0 lo:Nat):Int),1,sIx n n hi - sIx n 0 lo) s):wpAny (model prog w) A (Cu (.ref sl) (pure (n:Int))) Q E s:=by
 obtain ⟨os,hos,hcs,hds⟩:=id hs
 unfold Cu Ϡ.Slice.sliceFields
 refine γ (γ (ϱ hos hds (x:=vl) rfl (γ (ϱ hos hds (x:=vu) rfl (γ (ϱ hos hds (x:=.none) rfl (μ ?_)))))))
 refine γ (slicePart_none ?_)
 show wpAny _ _ (if ((1:Int) == 0)=true then _ else _) _ _ s
 rw [if_neg ∅]
 refine γ (iG pl (γ (iG pu (γ (μ ?_)))))
 show wpAny _ _ (match CH lo hi 1 (n:Int) with | (lo,hi)=>pure (lo,(1:Int),A7 lo hi 1)) _ _ s
 rw [pL lo hi n]
 show wpAny _ _ (pure (((sIx n 0 lo:Nat):Int),(1:Int),A7 ((sIx n 0 lo:Nat):Int) ((sIx n n hi:Nat):Int) 1)) _ _ s
 rw [pK]
 exact μ h
theorem pick_gen (xs:Array δ) (i k:Nat):((Φ k).filterMap λ(m:Nat)=>xs[((i:Int) + (m:Int) * 1).toNat]?).toArray=((xs.toList.drop i).take k).toArray:=by
 have e:(λ(m:Nat)=>xs[((i:Int) + (m:Int) * 1).toNat]?)=λm=>xs[i + m]?:=by
  funext m
  have:((i:Int) + (m:Int) * 1).toNat=i + m:=by omega
  rw [this]
 rw [e]
 have:=pick_run xs i k
 rw [List.filterMap_map] at this
 have e2:((λx=>xs[x]?) ∘ λx=>i + x)=λm=>xs[i + m]?:=rfl
 rw [e2] at this
 rw [this]
theorem getItem_tuple_cut {t sl:Addr} {items:Array δ} {vl vu:δ} {lo hi:Option Int} {Q:δ->ζ->Prop} (ht:Fy s.heap t items) (hs:s.heap.IsSliceOf sl vl vu .none) (pl:Fs vl lo) (pu:Fs vu hi)
  (hw:¬ (sIx items.size 0 lo=0/\sIx items.size items.size hi=items.size))
  (h:Q (.ref s.heap.objs.size) { s with heap:=s.heap.push { cls:=.type "tuple",data:=.seq ((items.toList.drop (sIx items.size 0 lo)).take (sIx items.size items.size hi - sIx items.size 0 lo)).toArray } })
  (hsz:items.size<=sizeLine):wpAny (model prog w) A (getItem (.ref t) (.ref sl)) Q E s:=by
 have htake:sizeOk (.seq ((items.toList.drop (sIx items.size 0 lo)).take (sIx items.size items.size hi - sIx items.size 0 lo)).toArray):=by
  show ((items.toList.drop (sIx items.size 0 lo)).take (sIx items.size items.size hi - sIx items.size 0 lo)).toArray.size<=sizeLine
  rw [ς,ϊ,c_,ϗ]
  omega
 have hj:sIx items.size items.size hi<=items.size:=za _ _ (π _) hi
 obtain ⟨os,hos,hcs,hds⟩:=id hs
 have hTs:s.TypeIs (.ref sl) "slice":=⟨os,hos,hcs⟩
 unfold getItem
 try with_reducible refine ϻ ?_
 first | refine γ (μ ?_) | skip
 refine γ (wpAny_sequenceKey ht.typeIs ∅ ?_)
 refine γ (ϥ (name:=ξ "__getitem__") ht.typeIs a_
  (ϙ a_ ht.typeIs entry_tuple_getitem ?_ (args_tuple_getitem _ _)))
 show wpAny _ _ (Ec (.ref t) >>= _) _ _ s
 refine γ (tupleItemsOf_ ht ?_)
 refine γ (B9 hTs ?_)
 rw [if_pos ∅]
 refine γ (sliceApplied_gen hs pl pu ?_)
 have hno:¬ ((((sIx items.size 0 lo:Nat):Int) == 0 && (1:Int) == 1 && (sIx items.size items.size hi - sIx items.size 0 lo) == items.size)=true):=by
  intro q
  rw [Ε,Ε] at q
  have q1:((sIx items.size 0 lo:Nat):Int)=0:=eq_of_beq q.1.1
  have q2:sIx items.size items.size hi - sIx items.size 0 lo=items.size:=eq_of_beq q.2
  exact hw ⟨∅,∅⟩
 show wpAny _ _ (if (((sIx items.size 0 lo:Nat):Int) == 0 && (1:Int) == 1 && (sIx items.size items.size hi - sIx items.size 0 lo) == items.size)=true then _ else _) _ _ s
 rw [if_neg hno,pick_gen]
 first
  | exact γ (m:=Ϟ _) (Ϗ (μ ⟨_,rfl,μ h⟩) htake)
  | exact γ (m:=Ϟ _) (Ϗ (γ (μ (μ ⟨_,rfl,μ h⟩))) htake)
  | exact γ (γ (m:=Ϟ _) (Ϗ (μ (μ ⟨_,rfl,μ h⟩)) htake))
  | exact γ (γ (m:=Ϟ _) (Ϗ (μ ⟨_,rfl,μ h⟩) htake))
end
end HT
namespace L2
open PySem PySem.Spec PyProof.Rows
abbrev TO:=St->Hp->(Option Int->Hp->Prop)->Prop
def PO (X:Cx) (e:Option Expr) (t:TO):Prop:=
 ∀ (pins:List (Addr×Obj)) (s:ζ) (σ:St) (H:Hp) (Q:Option Int->Hp->Prop),Inv X pins σ H s->t σ H Q ->
  wpAny (model X.prog X.w) X.A (evalPart e X.env) (λu s'=>∃ o H',Inv X pins σ H' s'/\Fs u o/\Q o H') X.xe s
def lH:TO:=λ_ H Q=>Q none H
def Af (t:TE):TO:=λσ H Q=>t σ H λx H1=>∃ i,x=.int i/\Q (some i) H1
section
variable {X:Cx} {e:Expr} {te:TE} {lo hi:Option Expr} {tl th:TO} {pos p2:Pos}
theorem po_none:PO X none lH:=by
 intro pins s σ H Q I h
 rw [evalPart_none]
 exact μ ⟨none,H,I,.none,h⟩
theorem po_some (h:PE X e te):PO X (some e) (Af te):=by
 intro pins s σ H Q I hw
 rw [evalPart_some]
 refine thn (h pins s σ H _ I hw) λu s1 ⟨x,H1,I1,r1,q1⟩=>?_
 obtain ⟨i,rfl,q⟩:=q1
 obtain ⟨t,rfl⟩:=r1
 exact ⟨some i,H1,I1,.int i t,q⟩
def SlR (X:Cx) (r:V->Option Int->Option Int->Hp->VK->Prop):Prop:=
 ∀ (pins:List (Addr×Obj)) (s:ζ) (σ:St) (H:Hp) (x:V) (v vl vu:δ) (lo hi:Option Int) (sl:Addr) (Q:VK),Inv X pins σ H s->aw x v->s.heap.IsSliceOf sl vl vu .none->Fs vl lo->Fs vu hi->r x lo hi H Q ->
  ∃ T id,typeLookup (.type T) "__getitem__"=pure (some (.builtin id))/\s.TypeIs v T/\wpAny (model X.prog X.w) X.A (getItem v (.ref sl)) (EP X pins σ Q) X.xe s
def tSl (r:V->Option Int->Option Int->Hp->VK->Prop) (te:TE) (tl th:TO):TE:=λσ H Q=>te σ H λx H1=>tl σ H1 λl H2=>th σ H2 λu H3=>r x l u H3 Q
theorem pe_slice {r:V->Option Int->Option Int->Hp->VK->Prop} (hr:SlR X r) (he:PE X e te) (hl:PO X lo tl) (hu:PO X hi th):PE X (.Subscript e (.Slice lo hi none p2) pos) (tSl r te tl th):=by
 intro pins s σ H Q I h
 refine Fq (thn (he pins s σ H _ I h) λv s1 ⟨x,H1,I1,r1,q1⟩=>?_)
 refine wpAny_Slice (thn (hl pins s1 σ H1 _ I1 q1) λvl s2 ⟨l,H2,I2,pl,q2⟩=>thn (hu pins s2 σ H2 _ I2 q2) λvu s3 ⟨u,H3,I3,pu,q3⟩=>?_)
 rw [evalPart_none]
 refine μ ?_
 have I4:Inv X pins σ H3 { s3 with heap:=s3.heap.push { cls:=.type "slice",data:=.fields #[vl,vu,.none] } }:=I3.kept (t':=s3.toks) λb ob q=>η _ q
 obtain ⟨T,id,hT,ht,hg⟩:=hr pins { s3 with heap:=s3.heap.push { cls:=.type "slice",data:=.fields #[vl,vu,.none] } } σ H3 x v vl vu l u s3.heap.objs.size Q I4 r1 (Heap.IsSliceOf.new ..) pl pu q3
 show wpAny (model X.prog X.w) X.A (subscriptTail e (.Slice lo hi none p2) v (.ref s3.heap.objs.size)) (EP X pins σ Q) X.xe { s3 with heap:=s3.heap.push { cls:=.type "slice",data:=.fields #[vl,vu,.none] } }
 exact tail_any (ops:=[.ref s3.heap.objs.size,v]) ht hT hg (by with_unfolding_all rfl)
def aB (xs:List V) (lo hi:Option Int):List V:=(xs.drop (HT.sIx xs.length 0 lo)).take (HT.sIx xs.length xs.length hi - HT.sIx xs.length 0 lo)
theorem dE (xs:List V) (lo hi:Option Int):(aB xs lo hi).length<=xs.length:=by
 unfold aB
 rw [ϊ,c_]
 omega
def Bb (K:ι):V->Option Int->Option Int->Hp->VK->Prop:=λx lo hi H Q=>∃ a xs,x=.ref a/\SqT K H a xs /\
 ¬ (HT.sIx xs.length 0 lo=0/\HT.sIx xs.length xs.length hi=xs.length)/\∀ p,H p=none->Q (.ref p) (upd H p (.tup (aB xs lo hi)))
theorem oH:SlR X (Bb X.K):=by
 intro pins s σ H x v vl vu lo hi sl Q I rx hs pl pu h
 obtain ⟨a,xs,rfl,hx,hw,q⟩:=h
 cases rx
 obtain ⟨its,r,ht,hz⟩:=I.tuple hx
 have hlen:its.toArray.size=xs.length:=by rw [ς]; exact r.length.symm
 refine ⟨"tuple",_,a_.lookup,ht.typeIs,?_⟩
 refine HT.getItem_tuple_cut ht hs pl pu (by rw [hlen]; exact hw) ?_ (by rw [hlen]; exact hz)
 rw [hlen]
 refine ⟨.ref s.heap.objs.size,_,I.laid (t':=s.toks) (o:=.tup (aB xs lo hi)) (λb ob q=>η _ q) (π _) ?_,rfl,q _ (I.hok.fresh (π _))⟩
 exact ⟨ϟ (dE xs lo hi) hz,_,(r.drop (HT.sIx xs.length 0 lo)).take (HT.sIx xs.length xs.length hi - HT.sIx xs.length 0 lo),EN _ _,NoD.new _ rfl⟩
def Ac (K:ι):R2:=λx y H Q=>∃ a b xs ys,x=.ref a/\y=.ref b/\SqT K H a xs/\SqT K H b ys/\xs≠[]/\xs.length + ys.length<=sizeLine /\
 (ys=[]->Q (.ref a) H)/\(ys≠[]->∀ p,H p=none->Q (.ref p) (upd H p (.tup (xs ++ ys))))
theorem ar.nil_iff {xs:List V} {us:List δ} (r:ar xs us):us=[]↔xs=[]:=by
 cases r with
 | nil=>simp
 | cons _ _=>simp
theorem wV:OpR X (binaryOp .Add) (Ac X.K):=by
 intro pins s σ H x y v u Q I rx ry h
 obtain ⟨a,b,xs,ys,rfl,rfl,ha,hb,hx,hz,q1,q2⟩:=h
 cases rx
 cases ry
 obtain ⟨its,r1,p1,_⟩:=I.tuple ha
 obtain ⟨its2,r2,p2,_⟩:=I.tuple hb
 refine HT.cat_tup p1 p2 (λz=>hx (r1.nil_iff.mp z)) (λz=>⟨.ref a,H,I,rfl,q1 (r2.nil_iff.mp z)⟩) (λz=>?_) (by rw [<- r1.length,<- r2.length]; exact hz)
 refine ⟨.ref s.heap.objs.size,_,I.laid (t':=s.toks) (o:=.tup (xs ++ ys)) (λb ob q=>η _ q) (π _) ?_,rfl,q2 (λw=>z (r2.nil_iff.mpr w)) _ (I.hok.fresh (π _))⟩
 exact ⟨by rw [ψ]; exact hz,_,r1.append r2,EN _ _,NoD.new _ rfl⟩
end
def ixN (n:Nat) (i:Int):Option Nat:=if 0<=i then (if i < n then some i.toNat else none) else if -(n:Int)<=i then some (i + n).toNat else none
def atI {α:Type} (xs:List α) (i:Int):Option α:=(ixN xs.length i).bind λj=>xs[j]?
theorem qV {n:Nat} {i:Int} {j:Nat} (h:ixN n i=some j):seqIndex? i n=some j/\j < n/\-(n:Int)<=i/\i < n:=by
 unfold ixN at h
 by_cases h0:0<=i
 ·rw [if_pos h0] at h
  by_cases h1:i < n
  ·rw [if_pos h1] at h
   have e:i.toNat=j:=Ϝ h
   exact ⟨by rw [seqIndex_of h0 h1,e],∅,∅,h1⟩
  ·rw [if_neg h1] at h; cases h
 ·rw [if_neg h0] at h
  by_cases h1:-(n:Int)<=i
  ·rw [if_pos h1] at h
   have e:(i + n).toNat=j:=Ϝ h
   exact ⟨by rw [seqIndex_neg ∅ h1,e],∅,h1,∅⟩
  ·rw [if_neg h1] at h; cases h
theorem lB {α:Type} {xs:List α} {i:Int} {v:α} (h:atI xs i=some v):∃ j,seqIndex? i xs.length=some j/\xs[j]?=some v/\j < xs.length/\-(xs.length:Int)<=i/\i < xs.length:=by
 unfold atI at h
 cases e:ixN xs.length i with
 | none=>rw [e] at h; cases h
 | some j=>
  rw [e] at h
  obtain ⟨h1,h2,h3,h4⟩:=qV e
  exact ⟨j,h1,h,h2,h3,h4⟩
theorem ad {α:Type} {xs:List α} {j:Nat} {v:α} (h:xs[j]?=some v):atI xs (j:Int)=some v:=by
 have hj:j < xs.length:=(ο.mp h).1
 have e:ixN xs.length (j:Int)=some j:=by
  unfold ixN
  rw [if_pos ∅,if_pos ∅]; simp
 unfold atI; rw [e]; exact h
theorem cC {α:Type} (xs:List α) (v:α):atI (xs ++ [v]) (-1)=some v:=by
 have hl:(xs ++ [v]).length=xs.length + 1:=by simp
 have e:ixN (xs ++ [v]).length (-1)=some xs.length:=by
  unfold ixN
  rw [hl,if_neg ∅,if_pos ∅]
  congr 1
  omega
 unfold atI
 rw [e]
 show (xs ++ [v])[xs.length]?=some v
 simp
def xc (b:Expr):Prop:=∀ o i,subscripted b false o i=operate [o,i] (getItem o i)
def IxR (X:Cx) (r:R2):Prop:=
 ∀ (value slice:Expr) (pins:List (Addr×Obj)) (s:ζ) (σ:St) (H:Hp) (x y:V) (v u:δ) (Q:VK),Inv X pins σ H s->aw x v->aw y u->r x y H Q ->
  subscripted slice false v u=operate [v,u] (getItem v u)->wpAny (model X.prog X.w) X.A (subscriptTail value slice v u) (EP X pins σ Q) X.xe s
def MtR (X:Cx) (id:String) (r:V->List V->Hp->VK->Prop):Prop:=
 ∀ (pins:List (Addr×Obj)) (s:ζ) (σ:St) (H:Hp) (x:V) (xs:List V) (v:δ) (us:List δ) (Q:VK),Inv X pins σ H s->aw x v->ar xs us->r x xs H Q ->
  wpAny (model X.prog X.w) X.A (call (.builtin id) (v :: us)) (EP X pins σ Q) X.xe s
section
variable {X:Cx} {a b:Expr} {ta tb:TE} {pos:Pos}
theorem pe_ix {r:R2} (hr:IxR X r) (ha:PE X a ta) (hb:PE X b tb) (hs:xc b):PE X (.Subscript a b pos) (tOp r ta tb):=by
 intro pins s σ H Q I h
 exact Fq (zp ha hb I h λv u s2 x y H2 I2 rx ry q=>hr a b pins s2 σ H2 x y v u Q I2 rx ry q (hs _ _))
def wD (K:ι):R2:=λx y H Q=>∃ p xs i v,x=.ref p/\y=.int i/\SqL K H p xs/\atI xs i=some v/\Q v H
def ux (K:ι):R2:=λx y H Q=>∃ p xs i v,x=.ref p/\y=.int i/\SqT K H p xs/\atI xs i=some v/\Q v H
def Ba:R2:=λx y H Q=>∃ z i c,x=.str z/\y=.int i/\z.length<=sizeLine/\atI z.cps.toList i=some c/\Q (.str ⟨#[c]⟩) H
theorem aJ:IxR X (wD X.K):=by
 intro value slice pins s σ H x y v u Q I rx ry h hs
 obtain ⟨p,xs,i,z,rfl,rfl,hq,he,q⟩:=h
 cases rx
 obtain ⟨t,rfl⟩:=ry
 obtain ⟨its,r,pl,hz⟩:=I.list hq
 obtain ⟨j,h1,h2,h3,h4,h5⟩:=lB he
 obtain ⟨w,ew,rw'⟩:=r.get h2
 have hl:=r.length
 have hn:=eY
 have fin:EP X pins σ Q w s:=⟨z,H,I,rw',q⟩
 by_cases h0:0<=i
 ·have hj:i.toNat=j:=by
   rw [seqIndex_of h0 h5] at h1
   exact Ϝ h1
  exact item_listR pl.isList h0 ∅ (by rw [hj]; simpa using ew) fin hs
 ·have hj:(i + (its.toArray.size:Int)).toNat=j:=by
   rw [seqIndex_neg ∅ h4] at h1
   rw [ς,<- hl]
   exact Ϝ h1
  exact subscriptTail_builtinR (x:=w) pl.isList.typeIs Ey.lookup
   (wpAny_getItem_list_neg (Q:=λr s'=>r=w/\EP X pins σ Q r s') pl.isList ∅ (by rw [ς] <;> omega) ∅ (by rw [hj]; simpa using ew) ⟨rfl,fin⟩) hs
theorem aj:IxR X (ux X.K):=by
 intro value slice pins s σ H x y v u Q I rx ry h hs
 obtain ⟨p,xs,i,z,rfl,rfl,hq,he,q⟩:=h
 cases rx
 obtain ⟨t,rfl⟩:=ry
 obtain ⟨its,r,pl,hz⟩:=I.tuple hq
 obtain ⟨j,h1,h2,h3,h4,h5⟩:=lB he
 obtain ⟨w,ew,rw'⟩:=r.get h2
 have hl:=r.length
 have hn:=eY
 have fin:EP X pins σ Q w s:=⟨z,H,I,rw',q⟩
 exact subscriptTail_builtinR (x:=w) pl.typeIs slot_tuple_getitem.lookup
  (getItem_tuple (j:=j) (Q:=λr s'=>r=w/\EP X pins σ Q r s') pl ∅ ∅ (by rw [ς,<- hl]; exact h1) (by simpa using ew) ⟨rfl,fin⟩) hs
theorem oq:IxR X Ba:=by
 intro value slice pins s σ H x y v u Q I rx ry h hs
 obtain ⟨z,i,c,rfl,rfl,hz,he,q⟩:=h
 obtain ⟨t,rfl⟩:=rx
 obtain ⟨t',rfl⟩:=ry
 obtain ⟨j,h1,h2,h3,h4,h5⟩:=lB he
 have hl:z.cps.toList.length=z.length:=by simp [Str.length]
 rw [hl] at h1 h4 h5
 have hn:=eY
 exact tail_any (typeIs_str s z t) slot_str_getitem.lookup (getItem_str (c:=c) (by
  have e1:decide (i < -(2 ^ 63:Int))=false:=decide_eq_false ∅
  have e2:decide (i>=2 ^ 63)=false:=decide_eq_false ∅
  rw [e1,e2,EJ]) (by rw [h1]; simpa using h2) ⟨.str ⟨#[c]⟩,H,I.tok _,⟨_,rfl⟩,q⟩) hs
theorem pA (its:List δ) (n j:Nat) (u:δ):i5 (·.setIfInBounds j u) { cls:=.type "list",data:=.seq its.toArray n }={ cls:=.type "list",data:=.seq (its.set j u).toArray n }:=by
 simp [i5]
theorem Inv.lst {pins:List (Addr×Obj)} {σ:St} {H:Hp} {s:ζ} {p:Addr} {xs:List V} (I:Inv X pins σ H s) (h:H p=some (.lst xs)) :
  ∃ (its:List δ) (n:Nat),ar xs its/\s.heap.get? p=some { cls:=.type "list",data:=.seq its.toArray n }/\xs.length<=sizeLine:=by
 obtain ⟨z,its,n,r,e⟩:=I.hok p _ h
 exact ⟨its,n,r,e,z⟩
theorem Inv.lstUpd {pins:List (Addr×Obj)} {σ:St} {H:Hp} {s:ζ} {p:Addr} {xs ys:List V} {its its':List δ} {n n':Nat} {f:Obj->Obj} (I:Inv X pins σ H s) (h:H p=some (.lst xs))
  (ho:s.heap.get? p=some { cls:=.type "list",data:=.seq its.toArray n }) (hf:f { cls:=.type "list",data:=.seq its.toArray n }={ cls:=.type "list",data:=.seq its'.toArray n' }) (r:ar ys its') (hz:ys.length<=sizeLine) (t:Nat) :
  Inv X pins σ (upd H p (.lst ys)) { s with heap:=s.heap.update p f,toks:=t }:=by
 have e:(s.heap.update p f).get? p=some { cls:=.type "list",data:=.seq its'.toArray n' }:=by
  rw [Ϛ f ho (by rw [hf] <;> rfl),hf]
 refine I.write (x:=p) (e:=p) (by rw [h]; trivial) (.inl rfl) (λb u hb q=>(ύ _ _ (ώ hb)).trans q) ⟨_,e⟩ ?_
 exact ⟨hz,its',n',r,e⟩
def AO:V->V->V->Hp->(Hp->Prop)->Prop:=λo i v H Q=>∃ p xs k j,o=.ref p/\i=.int k/\H p=some (.lst xs)/\ixN xs.length k=some j/\Q (upd H p (.lst (xs.set j v)))
theorem nk:Ae X AO:=by
 intro pins s σ H o i v ov iv u Q I ro ri rv h
 obtain ⟨p,xs,k,j,rfl,rfl,hp,hj,q⟩:=h
 cases ro
 obtain ⟨t,rfl⟩:=ri
 obtain ⟨its,n,r,ho,hz⟩:=I.lst hp
 obtain ⟨h1,h2,h3,h4⟩:=qV hj
 have hl:=r.length
 have hn:=eY
 have I':Inv X pins σ (upd H p (.lst (xs.set j v))) { s with heap:=s.heap.update p (i5 (·.setIfInBounds j u)) }:=
  I.lstUpd hp ho (pA its n j u) (r.set rv j) (by rw [Cd]; exact hz) s.toks
 by_cases h0:0<=k
 ·have hk:k.toNat=j:=by
   rw [seqIndex_of h0 h4] at h1
   exact Ϝ h1
  exact PySem.W.ki_setAt ho h0 ∅ (by rw [ς,<- hl]; exact h4) (by rw [hk]; exact ⟨_,I',q⟩)
 ·have hk:(k + (its.toArray.size:Int)).toNat=j:=by
   rw [seqIndex_neg ∅ h3] at h1
   rw [ς,<- hl]
   exact Ϝ h1
  exact PySem.W.ki_setBack ho ∅ (by rw [ς,<- hl]; exact h3) ∅ (by rw [hk]; exact ⟨_,I',q⟩)
theorem kK (lo hi:Option Int) (n:Nat):(sliceBounds lo hi none n).1=((HT.sIx n 0 lo:Nat):Int)/\(sliceBounds lo hi none n).2.1=((HT.sIx n n hi:Nat):Int)/\(sliceBounds lo hi none n).2.2=1:=by
 refine ⟨?_,?_,rfl⟩
 ·cases lo with
  | none=>simp [sliceBounds,HT.sIx]
  | some i=>
   simp only [sliceBounds,HT.sIx,Option.getD_none,show (1:Int) > 0 by decide,if_true]
   by_cases h:i < 0
   ·simp only [h,if_true] <;> omega
   ·simp only [h,if_false] <;> omega
 ·cases hi with
  | none=>simp [sliceBounds,HT.sIx]
  | some i=>
   simp only [sliceBounds,HT.sIx,Option.getD_none,show (1:Int) > 0 by decide,if_true]
   by_cases h:i < 0
   ·simp only [h,if_true] <;> omega
   ·simp only [h,if_false] <;> omega
theorem je (its:List δ) (lo hi:Option Int):slicePick its.toArray lo hi none=((its.drop (HT.sIx its.length 0 lo)).take (HT.sIx its.length its.length hi - HT.sIx its.length 0 lo)).toArray:=by
 obtain ⟨h1,h2,h3⟩:=kK lo hi its.toArray.size
 unfold slicePick
 rw [h1,h2,h3]
 simp only [sliceRange_one,pick_run,ς] <;> rfl
def Bu (K:ι):V->Option Int->Option Int->Hp->VK->Prop:=λx lo hi H Q=>∃ a xs,x=.ref a/\SqL K H a xs/\∀ p,H p=none->Q (.ref p) (upd H p (.lst (aB xs lo hi)))
theorem be:SlR X (Bu X.K):=by
 intro pins s σ H x v vl vu lo hi sl Q I rx hs pl pu h
 obtain ⟨a,xs,rfl,hx,q⟩:=h
 cases rx
 obtain ⟨its,r,ht,hz⟩:=I.list hx
 have hlen:=r.length
 refine ⟨"list",_,Ey.lookup,ht.isList.typeIs,?_⟩
 refine wpAny_getItem_list_slice ht.isList hs pl pu .none ∅ ?_ (by rw [ς] <;> omega)
 rw [je,<- hlen]
 refine ⟨.ref s.heap.objs.size,_,I.laid (t':=s.toks) (o:=.lst (aB xs lo hi)) (λb ob q=>η _ q) (π _) ?_,rfl,q _ (I.hok.fresh (π _))⟩
 exact ⟨ϟ (dE xs lo hi) hz,_,0,(r.drop (HT.sIx xs.length 0 lo)).take (HT.sIx xs.length xs.length hi - HT.sIx xs.length 0 lo),τ _ rfl⟩
def fJ:V->Bool
 | .non=>true
 | .bl _=>true
 | .int _=>true
 | .str _=>true
 | _=>false
def eqV:V->V->Bool
 | .non,.non=>true
 | .bl a,.bl b=>a == b
 | .bl a,.int b=>(if a then 1 else 0) == b
 | .int a,.bl b=>a == (if b then 1 else 0)
 | .int a,.int b=>a == b
 | .str a,.str b=>a == b
 | _,_=>false
theorem yy {A:Χ} {s:ζ} {y x:V} {u v:δ} (ry:aw y u) (rx:aw x v) (fy:fJ y=true) (fx:fJ x=true):Ϣ A s u v (eqV y x):=by
 cases y with
 | non=>
  cases ry
  cases x with
  | non=>cases rx; exact E4 _
  | bl b=>cases rx; exact Ϣ.none_bool b
  | int b=>obtain ⟨t,rfl⟩:=rx; exact Ϣ.none_int b t
  | str b=>obtain ⟨t,rfl⟩:=rx; exact Ϣ.none_str b t
  | _=>exact absurd (show false=true from fx) Θ
 | bl a=>
  cases ry
  cases x with
  | non=>cases rx; exact Ϣ.bool_none a
  | bl b=>cases rx; exact Ϣ.bool_bool a b
  | int b=>obtain ⟨t,rfl⟩:=rx; exact Ϣ.bool_int a b t
  | str b=>obtain ⟨t,rfl⟩:=rx; exact Ϣ.bool_str a b t
  | _=>exact absurd (show false=true from fx) Θ
 | int a=>
  obtain ⟨t',rfl⟩:=ry
  cases x with
  | non=>cases rx; exact Ϣ.int_none a t'
  | bl b=>cases rx; exact Ϣ.int_bool a t' b
  | int b=>obtain ⟨t,rfl⟩:=rx; exact Ϣ.int_int a t' b t
  | str b=>obtain ⟨t,rfl⟩:=rx; exact DW a t' b t
  | _=>exact absurd (show false=true from fx) Θ
 | str a=>
  obtain ⟨t',rfl⟩:=ry
  cases x with
  | non=>cases rx; exact Ϣ.str_none a t'
  | bl b=>cases rx; exact Ϣ.str_bool a t' b
  | int b=>obtain ⟨t,rfl⟩:=rx; exact DX a t' b t
  | str b=>obtain ⟨t,rfl⟩:=rx; exact Ed a t' b t
  | _=>exact absurd (show false=true from fx) Θ
 | _=>exact absurd (show false=true from fy) Θ
def eqU (x:V) (u:δ):Bool:=match u with
 | .none=>eqV .non x
 | .bool b=>eqV (.bl b) x
 | .int i _=>eqV (.int i) x
 | .str z _=>eqV (.str z) x
 | _=>false
theorem uc {x y:V} {u:δ} (r:aw y u) (f:fJ y=true):eqU x u=eqV y x:=by
 cases y with
 | non=>cases r; rfl
 | bl b=>cases r; rfl
 | int i=>obtain ⟨t,rfl⟩:=r; rfl
 | str z=>obtain ⟨t,rfl⟩:=r; rfl
 | _=>exact absurd (show false=true from f) Θ
theorem fW {x:V}:∀ {xs:List V} {us:List δ},ar xs us->xs.all fJ=true->us.any (eqU x)=xs.any λy=>eqV y x
 | _,_,.nil,_=>rfl
 | y :: xs,u :: us,.cons r t,f=>by
  rw [List.all_cons,Ε] at f
  rw [CM,CM,uc r f.1,fW t f.2]
theorem dJ {A:Χ} {s:ζ} {x:V} {v:δ} (rx:aw x v) (fx:fJ x=true):∀ {xs:List V} {us:List δ},ar xs us->xs.all fJ=true->∀ u∈us,Ϣ A s u v (eqU x u)
 | _,_,.nil,_=>λu hu=>by cases hu
 | y :: xs,u :: us,.cons r t,f=>λu' hu=>by
  rw [List.all_cons,Ε] at f
  rcases ν.mp hu with rfl | hu
  ·rw [uc r f.1]; exact yy r rx f.1 fx
  ·exact dJ rx fx t f.2 u' hu
def inV (x:V) (xs:List V):Bool:=xs.any λy=>eqV y x
def rIn (K:ι) (neg:Bool):R2:=λx y H Q=>∃ p xs,y=.ref p/\(SqL K H p xs\/SqT K H p xs)/\fJ x=true/\xs.all fJ=true/\Q (.bl (if neg then !inV x xs else inV x xs)) H
theorem jB:OpR X (compareOp .In) (rIn X.K false):=by
 intro pins s σ H x y v u Q I rx ry h
 obtain ⟨p,xs,rfl,hq,fx,fs,q⟩:=h
 cases ry
 rcases hq with hq | hq
 ·obtain ⟨its,r,pl,hz⟩:=I.list hq
  refine SeqAt.in_listAt (eqU x) pl.isList (λw hw=>dJ rx fx r fs w (by simpa using hw)) ⟨.bl _,H,I,rfl,?_⟩
  rw [show its.toArray.any (eqU x)=its.any (eqU x) by simp,fW r fs]
  exact q
 ·obtain ⟨its,r,pl,hz⟩:=I.tuple hq
  refine SeqAt.in_tupleAt (eqU x) pl (λw hw=>dJ rx fx r fs w (by simpa using hw)) ⟨.bl _,H,I,rfl,?_⟩
  rw [show its.toArray.any (eqU x)=its.any (eqU x) by simp,fW r fs]
  exact q
theorem fj:OpR X (compareOp .NotIn) (rIn X.K true):=by
 intro pins s σ H x y v u Q I rx ry h
 obtain ⟨p,xs,rfl,hq,fx,fs,q⟩:=h
 cases ry
 rcases hq with hq | hq
 ·obtain ⟨its,r,pl,hz⟩:=I.list hq
  refine SeqAt.notIn_listAt (eqU x) pl.isList (λw hw=>dJ rx fx r fs w (by simpa using hw)) ⟨.bl _,H,I,rfl,?_⟩
  rw [show its.toArray.any (eqU x)=its.any (eqU x) by simp,fW r fs]
  exact q
 ·obtain ⟨its,r,pl,hz⟩:=I.tuple hq
  refine SeqAt.notIn_tupleAt (eqU x) pl (λw hw=>dJ rx fx r fs w (by simpa using hw)) ⟨.bl _,H,I,rfl,?_⟩
  rw [show its.toArray.any (eqU x)=its.any (eqU x) by simp,fW r fs]
  exact q
theorem ak:bE X (.builtin "len") (λxs H Q=>∃ p ys,xs=[.ref p]/\(SqL X.K H p ys\/SqT X.K H p ys)/\Q (.int ys.length) H):=by
 intro pins s σ H xs us Q I r h
 obtain ⟨p,ys,rfl,hq,q⟩:=h
 obtain ⟨u,rfl,rx⟩:=cj r
 cases rx
 have hn:=eY
 rcases hq with hq | hq
 ·obtain ⟨its,r',pl,hz⟩:=I.list hq
  have hlen:=r'.length
  exact Calls.call_len_list pl.isList (by simp only [ς] <;> omega) ⟨.int ys.length,H,I.tok _,⟨s.toks + 1,by rw [ς,hlen]⟩,q⟩
 ·obtain ⟨its,r',pl,hz⟩:=I.tuple hq
  have hlen:=r'.length
  exact len_tuple pl (by simp only [ς] <;> omega) ⟨.int ys.length,H,I.tok _,⟨s.toks + 1,by rw [ς,hlen]⟩,q⟩
theorem fH:bE X (.builtin "len") (λxs H Q=>∃ z,xs=[.str z]/\z.length<=sizeLine/\Q (.int z.length) H):=by
 intro pins s σ H xs us Q I r h
 obtain ⟨z,rfl,hz,q⟩:=h
 obtain ⟨u,rfl,t,rfl⟩:=cj r
 have hn:=eY
 exact len_str ∅ ⟨.int z.length,H,I.tok _,⟨_,rfl⟩,q⟩
theorem kr:bE X (.type "list") (λxs H Q=>∃ p ys,xs=[.ref p]/\(SqL X.K H p ys\/SqT X.K H p ys)/\∀ l,H l=none->Q (.ref l) (upd H l (.lst ys))):=by
 intro pins s σ H xs us Q I r h
 obtain ⟨p,ys,rfl,hq,q⟩:=h
 obtain ⟨u,rfl,rx⟩:=cj r
 cases rx
 have fin:∀ (its:List δ),ar ys its->ys.length<=sizeLine->∀ (h':Heap) (c':Nat),(∀ b o',s.heap.get? b=some o'->h'.get? b=some o') ->
   h'.get? s.heap.objs.size=some { cls:=.type "list",dict:=none,data:=.seq its.toArray c',slots:=#[] }->EP X pins σ Q (.ref s.heap.objs.size) { s with heap:=h' }:=λits r' hz h' c' kp e=>
  ⟨.ref s.heap.objs.size,_,I.laid (t':=s.toks) kp (π _) (show aI X.prog X.w _ h' _ (.lst ys) from ⟨hz,its,c',r',e⟩),rfl,q _ (I.hok.fresh (π _))⟩
 rcases hq with hq | hq
 ·obtain ⟨its,r',pl,hz⟩:=I.list hq
  have hlen:=r'.length
  obtain ⟨o,ho,hc,n,hd⟩:=pl.isList
  exact call_list_seq p (.inl rfl) ho hc hd (λh' c' kp e=>fin its r' hz h' c' kp e) (by simp only [ς] <;> omega)
 ·obtain ⟨its,r',pl,hz⟩:=I.tuple hq
  have hlen:=r'.length
  obtain ⟨o,ho,hc,n,hd⟩:=pl
  exact call_list_seq p (.inr rfl) ho hc hd (λh' c' kp e=>fin its r' hz h' c' kp e) (by simp only [ς] <;> omega)
theorem cz:bE X (.type "tuple") (λxs H Q=>∃ p ys,xs=[.ref p]/\((SqL X.K H p ys/\∀ l,H l=none->Q (.ref l) (upd H l (.tup ys)))\/(SqT X.K H p ys/\Q (.ref p) H))):=by
 intro pins s σ H xs us Q I r h
 obtain ⟨p,ys,rfl,h⟩:=h
 obtain ⟨u,rfl,rx⟩:=cj r
 cases rx
 rcases h with ⟨hq,q⟩ | ⟨hq,q⟩
 ·obtain ⟨its,r',pl,hz⟩:=I.list hq
  have hlen:=r'.length
  refine call_tuple_list pl.isList (λh' kp=>?_) (by simp only [ς] <;> omega)
  have I1:Inv X pins σ H { s with heap:=h' }:=I.kept (t':=s.toks) kp
  have I2:Inv X pins σ (upd H h'.objs.size (.tup ys)) { s with heap:=h'.push { cls:=.type "tuple",data:=.seq its.toArray } }:=
   I1.laid (t':=s.toks) (λb o e=>η _ e) (π _) (show aI X.prog X.w _ _ _ (.tup ys) from ⟨hz,its,r',EN _ _,NoD.new _ rfl⟩)
  exact ⟨.ref h'.objs.size,_,I2,rfl,q _ (I1.hok.fresh (π _))⟩
 ·obtain ⟨its,r',pl,hz⟩:=I.tuple hq
  exact call_tuple_same pl ⟨.ref p,H,I,rfl,q⟩
def tyV (K:ι) (T:String) (x:V) (H:Hp):Prop:=match x with
 | .str _=>T="str"
 | .int _=>T="int"
 | .ref p=>(T="list"/\∃ xs,SqL K H p xs)\/(T="tuple"/\∃ o,K.lookup p=some o/\o.cls=.type "tuple"/\o.dict=none) \/
   (T="dict"/\((∃ kvs,H p=some (.dK kvs))\/∃ kvs,H p=some (.dT kvs)))\/(T="set"/\∃ S n,H p=some (.set S n))
 | _=>False
theorem ua {pins:List (Addr×Obj)} {σ:St} {H:Hp} {s:ζ} {T:String} {x:V} {v:δ} (I:Inv X pins σ H s) (r:aw x v) (ty:tyV X.K T x H) :
  s.TypeIs v T/\∀ a,v=.ref a->∃ ob,s.heap.get? a=some ob/\ob.dict=none:=by
 cases x with
 | str z=>
  obtain ⟨t,rfl⟩:=r
  cases (show T="str" from ty)
  exact ⟨typeIs_str s z t,λ_ e=>nomatch e⟩
 | int i=>
  obtain ⟨t,rfl⟩:=r
  cases (show T="int" from ty)
  exact ⟨Cv s i t,λ_ e=>nomatch e⟩
 | ref p=>
  cases r
  rcases ty with ⟨rfl,xs,hq⟩ | ⟨rfl,o,hk,hc,hd⟩ | ⟨rfl,hk⟩ | ⟨rfl,S,n,hk⟩
  ·obtain ⟨its,_,pl,_⟩:=I.list hq
   refine ⟨pl.isList.typeIs,λa e=>?_⟩
   cases e
   obtain ⟨o,n,e,c,hd,_⟩:=pl
   exact ⟨o,e,hd⟩
  ·refine ⟨⟨o,I.kIn p o hk,hc⟩,λa e=>?_⟩
   cases e
   exact ⟨o,I.kIn _ o hk,hd⟩
  ·have z:∃ o,s.heap.get? p=some o/\o.ExactDict:=by
    rcases hk with ⟨kvs,hk⟩ | ⟨kvs,hk⟩
    ·obtain ⟨_,_,_,_,o,_,_,e,ex,_⟩:=I.hok p _ hk
     exact ⟨o,e,ex⟩
    ·obtain ⟨_,_,_,_,o,_,_,e,ex,_⟩:=I.hok p _ hk
     exact ⟨o,e,ex⟩
   obtain ⟨o,e,ex⟩:=z
   refine ⟨⟨o,e,ex.1⟩,λa e2=>?_⟩
   cases e2
   exact ⟨o,e,ex.2.1⟩
  ·obtain ⟨o,_,_,_,e,ex,_⟩:=I.hok p _ hk
   refine ⟨⟨o,e,ex.1⟩,λa e2=>?_⟩
   cases e2
   exact ⟨o,e,ex.2.1⟩
 | _=>exact k8 ty
def Bc (K:ι) (T:String) (r:V->List V->Hp->VK->Prop) (to:TE):TE:=λσ H Q=>to σ H λx H1=>tyV K T x H1/\r x [] H1 Q
def tBM (K:ι) (T:String) (r:V->List V->Hp->VK->Prop) (to:TE) (t:TA):TE:=λσ H Q=>to σ H λx H1=>tyV K T x H1/\t σ H1 λxs H2=>r x xs H2 Q
variable {o e:Expr} {es:List Expr} {to:TE} {t:TA} {name:Str} {apos cpos:Pos} {T id:String} {r:V->List V->Hp->VK->Prop}
theorem pe_bm0 (pa:PlainAttrs T) (slot:Slot T name id) (hty:typeOf (.builtin id)=pure (.type "method_descriptor")) (hm:MtR X id r) (ho:PE X o to)
  (hbase:attributeBase o name X.env (eval o X.env)=eval o X.env:=by rfl) (hline:(apos.endLine == cpos.line)=true:=by rfl):PE X (.Call (.Attribute o name apos) [] [] cpos) (Bc X.K T r to):=by
 intro pins s σ H Q I h
 refine wpAny_Call_method0_late hbase hline (thn (ho pins s σ H _ I h) λv s1 ⟨x,H1,I1,r1,ty,q1⟩=>?_)
 obtain ⟨h1,h2⟩:=ua I1 r1 ty
 exact ⟨T,id,pa,slot,hty,h1,h2,C5 rfl (PySem.evalArgs_none (hm pins s1 σ H1 x [] v [] Q I1 r1 .nil q1))⟩
theorem pe_bm (pa:PlainAttrs T) (slot:Slot T name id) (hty:typeOf (.builtin id)=pure (.type "method_descriptor")) (hm:MtR X id r) (ho:PE X o to) (ha:PA X (e :: es) t)
  (hbase:attributeBase o name X.env (eval o X.env)=eval o X.env:=by rfl)
  (hfew:((backTo cpos (starEach (e :: es) X.env)).all (λx=>!x.1) && (backToKw cpos (keywordEach [] X.env)).all (λx=>x.1.isSome)
   && decide ((e :: es).length + ([]:List Keyword).length + (if ([]:List Keyword).isEmpty then 0 else 1) < 30))=true:=by rfl)
  (hline:(apos.endLine == cpos.line)=true:=by rfl) (hs:starEach (e :: es) X.env=(false,eval e X.env) :: starEach es X.env:=by rfl) (hplain:(backTo cpos (starEach es X.env)).any (·.1)=false:=by rfl) :
  PE X (.Call (.Attribute o name apos) (e :: es) [] cpos) (tBM X.K T r to t):=by
 intro pins s σ H Q I h
 refine wpAny_Call_method_late hbase hfew hline rfl (thn (ho pins s σ H _ I h) λv s1 ⟨x,H1,I1,r1,ty,q1⟩=>?_)
 obtain ⟨h1,h2⟩:=ua I1 r1 ty
 refine ⟨T,id,pa,slot,hty,h1,h2,?_⟩
 have hA:=ha cpos pins s1 σ H1 _ I1 q1
 rw [hs] at hA ⊢
 refine C5 (by show (false || (backTo cpos (starEach es X.env)).any (·.1))=false; rw [hplain] <;> rfl) (Calls.evalArgs_plain ?_)
 exact thn hA λus s2 ⟨vs,H2,I2,r2,q2⟩=>hm pins s2 σ H2 x vs v us Q I2 r1 r2 q2
end
def MtM (X:Cx) (id:String) (r:V->List V->Hp->VK->Prop):Prop:=
 ∀ (pins:List (Addr×Obj)) (s:ζ) (σ:St) (H:Hp) (x:V) (xs:List V) (v:δ) (us:List δ) (Q:VK),Inv X pins σ H s->aw x v->ar xs us->r x xs H Q ->
  wpAny (model X.prog X.w) X.A (call (.builtin id) (v :: us)) (EP X pins σ Q) X.xe s
theorem ar.one:∀ {x:V} {us:List δ},ar [x] us->∃ u,us=[u]/\aw x u
 | _,_,.cons r .nil=>⟨_,rfl,r⟩
theorem ar.zero:∀ {us:List δ},ar [] us->us=[]
 | _,.nil=>rfl
theorem ar.dropLast {xs:List V} {us:List δ} (h:ar xs us):ar xs.dropLast us.dropLast:=by
 induction h with
 | nil=>exact .nil
 | cons r t ih=>
  cases t with
  | nil=>exact .nil
  | cons q t'=>exact .cons r ih
theorem ar.reverse {xs:List V} {us:List δ} (h:ar xs us):ar xs.reverse us.reverse:=by
 induction h with
 | nil=>exact .nil
 | cons r t ih=>rw [Ez,Ez]; exact ar.append ih (.cons r .nil)
theorem ar.rep {xs:List V} {us:List δ} (h:ar xs us):∀ k:Nat,ar (Α k xs).flatten (Α k us).flatten
 | 0=>.nil
 | k + 1=>by
  rw [k9,k9,Ck,Ck]
  exact ar.append h (ar.rep h k)
theorem oU {α:Type} (l:List α):l.eraseIdx (l.length - 1)=l.dropLast:=by
 induction l with
 | nil=>rfl
 | cons a r ih=>
  cases r with
  | nil=>rfl
  | cons b r=>
   have e:(a :: b :: r).length - 1=((b :: r).length - 1) + 1:=by
    have h1:(a :: b :: r).length=r.length + 2:=rfl
    have h2:(b :: r).length=r.length + 1:=rfl
    omega
   rw [e,List.eraseIdx_cons_succ,ih]
   all_goals rfl
theorem gz (its:List δ):∀ (k:Nat) (acc:List δ),
  EV (λx1 x2=>x1 ++ x2) acc.toArray (Α k its.toArray)=(acc ++ (Α k its).flatten).toArray
 | 0,acc=>by simp
 | k + 1,acc=>by
  have e:acc.toArray ++ its.toArray=(acc ++ its).toArray:=by simp
  have e2:(acc ++ its) ++ (Α k its).flatten=acc ++ (Α (k + 1) its).flatten:=by
   rw [k9,Ck,Cm]
  rw [<- e2,<- gz its k (acc ++ its),<- e,k9,List.foldl_cons]
section
variable {X:Cx} {pins:List (Addr×Obj)} {σ:St} {H:Hp} {s:ζ} {l b:Addr} {xs ys zs:List V}
theorem Inv.lset {its its':List δ} {n:Nat} {f:Array δ->Array δ} {t':Nat} (I:Inv X pins σ H s) (hH:H l=some (.lst xs))
  (e:s.heap.get? l=some { cls:=.type "list",data:=.seq its.toArray n }) (hf:f its.toArray=its'.toArray) (hv:ar ys its') (hz:ys.length<=sizeLine) :
  Inv X pins σ (upd H l (.lst ys)) { s with heap:=s.heap.update l (i5 f),toks:=t' }:=by
 have q:=PySem.IsL.update e f
 rw [hf] at q
 refine I.write (x:=l) (e:=l) (by rw [hH]; exact trivial) (.inl rfl) (λb' u hb hu=>(ύ s.heap (i5 f) (ώ hb)).trans hu) ⟨_,q⟩ ?_
 exact ⟨hz,its',_,hv,q⟩
theorem Inv.lnew {its:List δ} {t':Nat} (I:Inv X pins σ H s) (hv:ar ys its) (hz:ys.length<=sizeLine) :
  Inv X pins σ (upd H s.heap.objs.size (.lst ys)) { s with heap:=s.heap.push { cls:=.type "list",data:=.seq its.toArray },toks:=t' }:=
 I.laid (λ_ _ q=>η _ q) (π _) ⟨hz,its,0,hv,τ _ rfl⟩
theorem Inv.fresh (I:Inv X pins σ H s):H s.heap.objs.size=none:=I.hok.fresh (π _)
theorem Inv.lstM (I:Inv X pins σ H s) (hH:H l=some (.lst xs)):xs.length<=sizeLine/\∃ (its:List δ) (n:Nat),ar xs its/\xs.length=its.length/\s.heap.get? l=some { cls:=.type "list",data:=.seq its.toArray n }:=by
 obtain ⟨z,its,n,r,e⟩:=I.hok l _ hH
 exact ⟨z,its,n,r,r.length,e⟩
theorem iJ {n:Nat} (h:n<=sizeLine):l8 n=false:=by
 unfold l8
 exact decide_eq_false ∅
end
section
variable {X:Cx}
def xv:V->List V->Hp->VK->Prop:=λx vs H Q=>∃ l xs y,x=.ref l/\vs=[y]/\H l=some (.lst xs)/\xs.length < sizeLine/\Q .non (upd H l (.lst (xs ++ [y])))
theorem bd:MtM X "list.append" xv:=by
 intro pins s σ H x vs v us Q I rx rv h
 obtain ⟨l,xs,y,rfl,rfl,hH,hz,q⟩:=h
 cases rx
 obtain ⟨u,rfl,ru⟩:=rv.one
 obtain ⟨z,its,n,r,hl,e⟩:=I.lstM hH
 refine v_ F.slot_list_append ⟨_,e,rfl⟩ F.entry_list_append (F.args_list_append_2 _ _) (PySem.list_append l its.toArray n u (by rw [ς]; omega)) ⟨e,?_⟩
 refine ⟨.non,_,I.lset (its':=its ++ [u]) hH e ∅ (r.append (.cons ru .nil)) ?_,rfl,q⟩
 rw [ψ,ϧ]
 omega
def ww:V->List V->Hp->VK->Prop:=λx vs H Q=>∃ l b xs zs,x=.ref l/\vs=[.ref b]/\H l=some (.lst xs)/\H b=some (.lst zs)/\xs.length + zs.length<=sizeLine/\Q .non (upd H l (.lst (xs ++ zs)))
theorem gy:MtM X "list.extend" ww:=by
 intro pins s σ H x vs v us Q I rx rv h
 obtain ⟨l,b,xs,zs,rfl,rfl,hH,hB,hz,q⟩:=h
 cases rx
 obtain ⟨u,rfl,ru⟩:=rv.one
 cases ru
 obtain ⟨z,its,n,r,hl,e⟩:=I.lstM hH
 obtain ⟨z2,its2,n2,r2,hl2,e2⟩:=I.lstM hB
 have hsz:its.toArray.size + its2.toArray.size<=sizeLine:=by rw [ς,ς]; omega
 have hlong:¬ (!its.toArray.isEmpty && l8 (its.toArray.size + its2.toArray.size))=true:=by
  rw [iJ hsz,Ee]
  exact Θ
 refine v_ F.slot_list_extend ⟨_,e,rfl⟩ F.entry_list_extend (F.args_list_extend_2 _ _)
  (AutoSeq1.list_extend_list_list_0 l its.toArray n b its2.toArray n2 hlong (by rw [ς]; omega) ∅) ⟨e,e2,?_⟩
 refine ⟨.non,_,I.lset (its':=its ++ its2) hH e ∅ (r.append r2) ?_,rfl,q⟩
 rw [ψ]
 omega
def Bz:V->List V->Hp->VK->Prop:=λx vs H Q=>∃ l xs y,x=.ref l/\vs=[]/\H l=some (.lst xs)/\xs[xs.length - 1]?=some y/\Q y (upd H l (.lst xs.dropLast))
theorem iE:MtM X "list.pop" Bz:=by
 intro pins s σ H x vs v us Q I rx rv h
 obtain ⟨l,xs,y,rfl,rfl,hH,hy,q⟩:=h
 cases rx
 have hus:=rv.zero
 subst hus
 obtain ⟨z,its,n,r,hl,e⟩:=I.lstM hH
 obtain ⟨u,hu,ru⟩:=r.get hy
 have hy':its.toArray[its.toArray.size - 1]?=some u:=by
  show its.toArray[its.length - 1]?=some u
  rw [<- Dh,<- hl]
  exact hu
 refine v_ F.slot_list_pop ⟨_,e,rfl⟩ F.entry_list_pop (F.args_list_pop_1 _) (MeetsSeq.list_pop_last l its.toArray n u hy' (by rw [ς]; omega)) ⟨e,?_⟩
 refine ⟨y,_,I.lset (its':=its.dropLast) hH e ?_ r.dropLast ?_,ru,q⟩
 ·show its.toArray.eraseIdxIfInBounds (its.toArray.size - 1)=its.dropLast.toArray
  rw [ς,List.eraseIdxIfInBounds_toArray,oU]
 ·rw [List.length_dropLast]
  omega
def vD:V->List V->Hp->VK->Prop:=λx vs H Q=>∃ l xs,x=.ref l/\vs=[]/\H l=some (.lst xs)/\Q .non (upd H l (.lst xs.reverse))
theorem pM:MtM X "list.reverse" vD:=by
 intro pins s σ H x vs v us Q I rx rv h
 obtain ⟨l,xs,rfl,rfl,hH,q⟩:=h
 cases rx
 have hus:=rv.zero
 subst hus
 obtain ⟨z,its,n,r,hl,e⟩:=I.lstM hH
 refine v_ F.slot_list_reverse ⟨_,e,rfl⟩ F.entry_list_reverse (F.args_list_reverse_1 _) (AutoSeq1.list_reverse_list_0 l its.toArray n (by rw [ς]; omega)) ⟨e,?_⟩
 refine ⟨.non,_,I.lset (its':=its.reverse) hH e ∅ r.reverse ?_,rfl,q⟩
 rw [ϲ]
 omega
def BB:R2:=λx y H Q=>∃ l b xs zs,x=.ref l/\y=.ref b/\H l=some (.lst xs)/\H b=some (.lst zs)/\xs.length + zs.length<=sizeLine/\∀ p,H p=none->Q (.ref p) (upd H p (.lst (xs ++ zs)))
theorem eL:OpR X (binaryOp .Add) BB:=by
 intro pins s σ H x y v u Q I rx ry h
 obtain ⟨l,b,xs,zs,rfl,rfl,hH,hB,hz,q⟩:=h
 cases rx
 cases ry
 obtain ⟨z,its,n,r,hl,e⟩:=I.lstM hH
 obtain ⟨z2,its2,n2,r2,hl2,e2⟩:=I.lstM hB
 refine PySem.P.add_list e e2 ?_ (by rw [ς,ς]; omega)
 have ea:its.toArray ++ its2.toArray=(its ++ its2).toArray:=by simp
 rw [ea]
 exact ⟨.ref _,_,I.lnew (t':=s.toks) (r.append r2) (by rw [ψ]; omega),rfl,q _ I.fresh⟩
def BE:R2:=λx y H Q=>∃ l k xs,x=.ref l/\y=.int k/\H l=some (.lst xs)/\-(2 ^ 63)<=k/\k < 2 ^ 63/\xs.length * k.toNat<=sizeLine /\
 ∀ p,H p=none->Q (.ref p) (upd H p (.lst (Α k.toNat xs).flatten))
theorem len_rep {α:Type} (xs:List α) (k:Nat):(Α k xs).flatten.length=k * xs.length:=by
 induction k with
 | zero=>simp
 | succ k ih=>rw [k9,Ck,ψ,ih,Nat.succ_mul,Nat.add_comm]
theorem uG:OpR X (binaryOp .Mult) BE:=by
 intro pins s σ H x y v u Q I rx ry h
 obtain ⟨l,k,xs,rfl,rfl,hH,h1,h2,hz,q⟩:=h
 cases rx
 obtain ⟨t,rfl⟩:=ry
 obtain ⟨z,its,n,r,hl,e⟩:=I.lstM hH
 have hlen:its.toArray.size * k.toNat<=sizeLine:=by rw [ς,<- hl]; exact hz
 have hcap:¬ its.toArray.size * k.toNat > (2 ^ 63 - 1) / 8:=by
  have:(sizeLine:Nat)<=(2 ^ 63 - 1) / 8:=by decide
  omega
 have hfit:¬ (!Builtin.List.listFitsIndex k)=true:=by
  rw [fitsIndex_both h1 h2]
  exact Θ
 have hlong:¬ l8 (its.toArray.size * k.toNat)=true:=by
  rw [iJ hlen]
  exact Θ
 have hnew:EV (λx1 x2=>x1 ++ x2) #[] (Α (if its.toArray.isEmpty=true then 0 else k.toNat) its.toArray)=(Α k.toNat its).flatten.toArray:=by
  have f0:∀ m:Nat,EV (λx1 x2=>x1 ++ x2) #[] (Α m its.toArray)=(Α m its).flatten.toArray:=λm=>by
   have:=gz its m []
   rw [CQ] at this
   exact this
  rw [f0]
  cases its with
  | nil=>simp
  | cons a r'=>rw [if_neg ∅]
 refine A8 (T:="list") (U:="int") ∅ ⟨_,e,rfl⟩ (λs'=>Cv s' k t) noFill_list_mul DG w9 repeat_list Dp.lookup
  (v_ w9 (Cv s k t) Dq (C6 _ _) (int___rmul___int_list k t l its.toArray n)
   ⟨e,rfl,⟨_,e,rfl⟩,v_ F.slot_list_mul ⟨_,e,rfl⟩ F.entry_list_mul (F.args_list_mul_2 _ _) (AutoListH.list___mul___list_int_3 l its.toArray n k t hfit hcap hlong) ⟨e,?_⟩⟩)
 rw [hnew]
 exact ⟨.ref _,_,I.lnew (t':=s.toks) (r.rep k.toNat) (by rw [len_rep,Nat.mul_comm]; exact hz),rfl,q _ I.fresh⟩
end
section
variable {prog:Β} {w:Ν} {A:Χ} {E:δ->ζ->Prop} {s:ζ}
end
section
variable {X:Cx}
end
end L2
namespace Att
open PySem PySem.W PySem.Calls PyProof.Rows
theorem hJ {P:Params} {h:Heap}:∀ (ns:List Int) (vs:List δ),WellAll P h vs (ns.map WData.int)->IntsAre vs ns:=by
 intro ns
 induction ns with
 | nil=>
  intro vs w
  rw [ϰ] at w
  cases w
  exact .nil
 | cons n ns ih=>
  intro vs w
  rw [Υ] at w
  cases w with
  | cons a b=>
   cases a
   exact .cons _ _ (ih _ b)
theorem sw {l:OpenLaw} {n:Nat} (hn:l.most=some n) {P:Params} {h:Heap} {args:List WData} {vals:List δ}
  (hpre:l.row.toRowW.claim.pre args=true) (hwl:WellAll P h vals args) :
  ∃ a vs ns,vals=[Η a]/\args=[WData.list (ns.map WData.int)]/\h.get? a=some { cls:=.type "list",data:=.seq vs.toArray }/\IntsAre vs ns/\ns.length<=n:=by
 have hsh:WShape.hasAll [] args [.list .int]=true:=(pre_splitW hpre).1
 have hc:l.pre.holds [] { args:=args }=true:=(pre_splitW hpre).2
 obtain ⟨d,r,rfl,h1,h2⟩:=hasAllW_cons hsh
 obtain rfl:=hasAllW_nil h2
 obtain ⟨xs,rfl,h3⟩:=hasW_list h1
 obtain ⟨ns,rfl⟩:=items_int h3
 have hlen:ns.length<=n:=by
  unfold OpenLaw.pre at hc
  have h4:(WTm.not (.lt (.lit (.int (n:Int))) (.len (.arg 0)))).holds [] { args:=[.list (ns.map .int)] }=true:=by
   have h4:=(holds_andW hc).1
   rw [hn] at h4
   exact h4
  have h5:=condW_of h4 (w_not (w_lt w_lit (w_len_list (w_arg rfl))))
  rw [ε] at h5
  refine Nat.le_of_not_lt λq=>?_
  have q':(n:Int) < ((ns.length:Nat):Int):=by omega
  first
   | (rw [decide_eq_true q'] at h5; exact absurd h5 ∅)
   | (simp at h5; omega)
 cases hwl with
 | cons w1 w2=>
  cases w2
  cases w1 with
  | list ho hall=>exact ⟨_,_,ns,rfl,rfl,ho,hJ ns _ hall,hlen⟩
theorem sh (l:OpenLaw) (args:List WData):l.row.toRowW.claim.post args (.bool true) args=true:=
 postW_of (r:=l.row.toRowW) (X:=(true == true))
  (show WShape.has [] (.bool true) .bool=true by first | rfl | decide | simp [WShape.has,WShape.arms,WShape.armsAll])
  (show (WTm.eq .res (.lit (.bool true))).value [] { args:=args,res:=some (.bool true),after:=args }=some (.bool (true == true)) from w_eq_bool (w_res rfl) w_lit) rfl
theorem attach_call {l:OpenLaw} {n:Nat} {q:Β} {loose:List Str} {XP:(Str->Option δ)->Heap->Prop} {YP:Ν->Heap->Prop} {d:DefRec}
  (hn:l.most=some n) (hdf:d.params.defaults=[])
  (call:∀ (w:Ν) (s₀ s₁:ζ) (mg mb:Str->Option δ) (fa:Addr) (o:Obj) (pm cd doc:δ) (a:Addr) (vs:List δ) (ns:List Int),
   Ground q loose [] XP w s₀ mg mb s₁.heap->YP w s₁.heap ->
   s₁.heap.get? fa=some o->o.data=.func (docDef d.name d.params d.body d.scope pm cd doc)->s₁.heap.CodeRec cd d.name->mg d.name=some (.ref fa) ->
   s₁.heap.get? a=some { cls:=.type "list",data:=.seq vs.toArray }->IntsAre vs ns->ns.length<=n->s₁.gens=#[] ->
   codeAny (model l.prog w) callerA (.call (.ref fa) ⟨[.ref a],[]⟩) (λr s'=>r=.ok (.ret (.bool true))/\OldK s₁.heap s'.heap/\s'.os=s₁.os/\DS s'.gens) s₁) :
  WalkO q loose XP YP l.row.toRowW d [] (λf vs=>PySem.call f vs):=by
 intro w s₀ s₁ mg mb G Y fa o pm cd doc dV kV ho hd hcd hD hmg hg args vals as hpre hlay hrd hwl hlo
 obtain rfl:dV=.none:=Dflts.none hD hdf
 obtain rfl:kV=.none:=Dflts.noKw hD
 obtain ⟨a,vs,ns,rfl,rfl,hobj,hints,hlen⟩:=sw hn hpre hwl
 refine enter_call (x9 (call w s₀ s₁ mg mb fa o pm cd doc a vs ns G Y ho (fd_plain hd) hcd hmg hobj hints hlen hg) λr s' hq=>?_)
 obtain ⟨rfl,h2,h3,h4⟩:=hq
 exact ⟨.inl ⟨.bool true,.bool true,[],rfl,λ_=>rfl,.bool true,sh l _,λ_=>⟨EK.nil,λ_ hm=>(nomatch hm)⟩⟩,h2,h3,h4⟩
section
variable {prog:Β} {w:Ν} {A:Χ} {E:δ->ζ->Prop} {s:ζ} {K:Frag}
def noObjs (h:Heap):Heap:={ h with objs:=#[] }
theorem noObjs_get (h:Heap) (b:Addr):(noObjs h).get? b=none:=by
 cases e:(noObjs h).get? b with
 | none=>rfl
 | some o=>exact absurd (χ e) (BJ _)
theorem fr_all {h:Heap} {L:Addr} {m:Str->Option δ} (n:h.Ns L m):Fr (noObjs h) L h m:=
 ⟨n,λb o e=>(by rw [noObjs_get] at e; cases e),Ω _⟩
end
end Att
namespace L2
open PySem PySem.Spec PyProof.Rows
theorem jF:∀ {vs:List δ} {ns:List Int},IntsAre vs ns->ar (ns.map V.int) vs
 | _,_,.nil=>.nil
 | _,_,.cons n t h=>.cons ⟨t,rfl⟩ (jF h)
def yM (H:Hp):Prop:=∀ b,H b=none\/∃ o xs,H b=some (.frz o (.lst xs))
theorem vV {P:Β} {w:Ν} {K:ι} {mg mb:Str->Option δ} {CX:CXT} {k:Nat} {fa a:Addr} {fd:Μ} {x:Str} {sp:Sp} {s₁:ζ} {vs:List δ} {ns:List Int}
  (KX:K.In s₁.heap) (hns:s₁.heap.Ns mainGlobals mg) (hb:s₁.heap.Ns builtinsNs mb) (hbb:∀ x:Str,x≠"__name__"->mb x=bootBuiltins x) (hlim:s₁.heap.NoLimit) (hg:s₁.gens=#[])
  (ha:s₁.heap.get? a=some { cls:=.type "list",data:=.seq vs.toArray }) (hi:IntsAre vs ns) (hl:ns.length<=sizeLine) (hr:bz k callerA)
  (F:∀ base:Heap,K.In base->base.Ns mainGlobals mg->aF P w K mg base CX k fa fd [x] sp) (hbind:∀ (s:ζ) (u:δ),Fl s fd ⟨[u],[]⟩ [(x,u)])
  (hsp:∀ H:Hp,yM H->SqL K H a (ns.map V.int)->sp [.ref a] H (λv _=>v=.bl true) λ_ _ _=>False)
  (hCX:∀ H e s',CX [] H s₁ (λ_ _ _=>False) e s'->False) :
  codeAny (model P w) callerA (.call (.ref fa) ⟨[.ref a],[]⟩) (λr s'=>r=.ok (.ret (.bool true))/\OldK s₁.heap s'.heap/\s'.os=s₁.os/\DS s'.gens) s₁:=by
 have rv:=jF hi
 have lenV:=hi.length
 have core:∀ H:Hp,yM H->SqL K H a (ns.map V.int)->HOk P w H s₁.heap->(∀ b,H b≠none->b=a)->(H a≠none->K.lookup a=none) ->
   codeAny (model P w) callerA (.call (.ref fa) ⟨[.ref a],[]⟩) (λr s'=>r=.ok (.ret (.bool true))/\OldK s₁.heap s'.heap/\s'.os=s₁.os/\DS s'.gens) s₁:=by
  intro H hO hS hok hA hK
  have base_of:∀ {b:Addr} {o:Obj},s₁.heap.get? b=some o->H b=none->(ko s₁.heap H).get? b=some o:=λe n=>vJ e n
  have noA:∀ {b:Addr} {o:Obj} {es:Array Dm} {ep:Nat},s₁.heap.get? b=some o->o.data=.dict es ep->H b=none:=λ{b o es ep} e d=>by
   cases q:H b with
   | none=>rfl
   | some u=>
    have e':b=a:=hA b (by rw [q]; simp)
    subst e'
    rw [ha] at e; cases e
    have d':Data.seq vs.toArray _=Data.dict es ep:=d
    cases d'
  have nsK:∀ {b:Addr} {m:Str->Option δ},s₁.heap.Ns b m->(ko s₁.heap H).Ns b m:=λ{b m} ⟨o,es,ep,e,d,r⟩=>⟨o,es,ep,base_of e (noA e d),d,r⟩
  have hKb:K.In (ko s₁.heap H):=λb o e=>base_of (KX b o e) (by
   cases q:H b with
   | none=>rfl
   | some u=>
    have e':b=a:=hA b (by rw [q]; simp)
    subst e'
    rw [hK (by rw [q]; simp)] at e; cases e)
  have hM:Mod K mg (ko s₁.heap H):=⟨hKb,nsK hns,⟨mb,nsK hb,hbb⟩,let ⟨mc,h1,h2⟩:=hlim; ⟨mc,nsK h1,h2⟩⟩
  have e0:oK P w K mg (ko s₁.heap H) callerA [] s₁ H:=⟨rfl,hM,λb o e=>xG e,Nat.le_of_eq (rR _ _),trivial,λb hb=>absurd (show b∈([]:List Addr) from hb) ∅,hok,.of_eq hg⟩
  refine x9 ((F _ hKb (nsK hns)).run callerA [] s₁ H ⟨[.ref a],[]⟩ [.ref a] [.ref a] _ _ hr e0 (hbind s₁ (.ref a)) (.cons rfl .nil) (hsp H hO hS)) λr s' h=>?_
  cases r with
  | error e=>exact (hCX H e s' h).elim
  | ok fl=>
   cases fl with
   | next=>exact k8 h
   | brk=>exact k8 h
   | cont=>exact k8 h
   | ret u=>
    obtain ⟨v,H',os,bare,un,hok',r',q⟩:=h
    have q':v=.bl true:=q
    subst q'
    obtain rfl:u=Fn true:=r'
    refine ⟨rfl,OldK.of_keep λb o e=>?_,os,bare⟩
    cases q:H b with
    | none=>exact un.keep b o e q (by intro z; exact absurd (show b∈([]:List Addr) from z) ∅) ∅
    | some u=>
     rcases hO b with z | ⟨ob,xs,z⟩
     ·rw [q] at z; cases z
     ·have z2:=un.frzs b ob _ z
      obtain ⟨e1,_⟩:=hok b _ z
      obtain ⟨e2,_⟩:=hok' b _ z2
      rw [e] at e1; cases e1
      exact e2
 cases hk:K.lookup a with
 | some o=>
  have e:=KX a o hk
  rw [ha] at e
  cases e
  refine core (λ_=>none) (λ_=>.inl rfl) (.inr ⟨_,vs.toArray,_,hk,rfl,rfl,rfl,by rw [ς,lenV]; exact hl,by simpa using rv⟩) (λb u z=>by have z':(none:Option HO)=some u:=z; cases z') (λb z=>absurd rfl z) λz=>absurd rfl z
 | none=>
  refine core (λb=>if b=a then some (.frz { cls:=.type "list",data:=.seq vs.toArray } (.lst (ns.map V.int))) else none) (λb=>?_) (.inl (.inr ⟨{ cls:=.type "list",data:=.seq vs.toArray },if_pos rfl⟩)) (λb u z=>?_) (λb z=>?_) λ_=>hk
  ·by_cases hb:b=a
   ·exact .inr ⟨_,_,if_pos hb⟩
   ·exact .inl (if_neg hb)
  ·by_cases hb:b=a
   ·have z':=(if_pos hb).symm.trans z
    cases z'
    subst hb
    exact ⟨ha,by rw [ε]; exact hl,vs,_,rv,ha⟩
   ·have z':=(if_neg hb).symm.trans z
    cases z'
  ·by_cases hb:b=a
   ·exact hb
   ·exact absurd (if_neg hb) z
theorem walk_of {l:E5} {n k:Nat} {q:Β} {loose:List Str} {XP:(Str->Option δ)->Heap->Prop} {YP:Ν->Heap->Prop} {d:DefRec} {K:Params->ι} {CX:Ν->CXT} {sp:Ν->Sp} {x:Str}
  (hn:l.most=some n) (hn2:n<=sizeLine) (hdf:d.params.defaults=[]) (hr:bz k callerA)
  (hY:∀ (w:Ν) (h:Heap),YP w h->(K w.params).In h)
  (F:∀ (w:Ν) (mg:Str->Option δ) (fa:Addr) (h:Heap),(K w.params).In h->h.Ns mainGlobals mg->mg d.name=some (.ref fa) ->
   ∃ fd:Μ,(∀ (s:ζ) (u:δ),Fl s fd ⟨[u],[]⟩ [(x,u)]) /\
    ∀ base:Heap,(K w.params).In base->base.Ns mainGlobals mg->aF l.prog w (K w.params) mg base (CX w) k fa fd [x] (sp w))
  (hsp:∀ (w:Ν) (H:Hp) (a:Addr) (ns:List Int),ns.length<=n->yM H->SqL (K w.params) H a (ns.map V.int)->sp w [.ref a] H (λv _=>v=.bl true) λ_ _ _=>False)
  (hCX:∀ (w:Ν) (H:Hp) (s:ζ) (e:δ) (s':ζ),CX w [] H s (λ_ _ _=>False) e s'->False) :
  PySem.W.WalkO q loose XP YP l.row.toRowW d [] (λf vs=>PySem.call f vs):=by
 refine Att.attach_call hn hdf λw s₀ s₁ mg mb fa o pm cd doc a vs ns G Y ho hd hcd hmg hobj hints hlen hg=>?_
 have KX:=hY w _ Y
 obtain ⟨fd,hb,hF⟩:=F w mg fa _ KX G.T.g hmg
 exact vV KX G.T.g G.T.b G.T.builtins G.T.nolimit hg hobj hints (ϟ hlen hn2) hr hF hb (λH hO hS=>hsp w H a ns hlen hO hS) λH e s'=>hCX w H s₁ e s'
def bJ (s:Stmt):Arguments:=match s with
 | .FunctionDef _ a _ _ _ _ _ _ _ _=>a
 | _=>{ posonlyargs:=[],args:=[],vararg:=none,kwonlyargs:=[],kw_defaults:=[],kwarg:=none,defaults:=[] }
def bq (s:Stmt):List Stmt:=match s with
 | .FunctionDef _ _ b _ _ _ _ _ _ _=>b
 | _=>[]
def ae (s:Stmt):C1:=match s with
 | .FunctionDef _ _ _ _ _ _ sc _ _ _=>sc
 | _=>{ kind:=.function,names:=[],isGenerator:=false,isCoroutine:=false }
abbrev CX0:CXT:=λ_ _ _ _ _ _=>False
abbrev E0:XK:=λ_ _ _=>False
theorem yq {X:Cx}:lD CX0 X E0:=λ_ _ _ _ _ _ _ h=>h.elim
structure Fun (K:ι) (x qual:Str) (st:Stmt) (f:Addr) (fd:Μ):Prop where
 ex:∃ (oc:δ) (od:Option Addr) (kV doc pm:δ) (an:Option Addr) (cdv ct:δ) (osl:Array (Option δ)),
  fd=o_ x qual (bJ st) (bq st) (ae st) .none kV doc pm an cdv ct/\K.lookup f=some ⟨oc,od,.func fd,osl⟩/\Ct K cdv qual=true
 kp:l7 K (.ref f)=true
section
variable {P:Β} {w:Ν} {K:ι} {mg:Str->Option δ} {base:Heap}
theorem Fun.ok {x qual:Str} {st:Stmt} {f:Addr} {fd:Μ} {N ps:List Str} {k:Nat} {sp:Sp} (F:Fun K x qual st f fd) (S:ao N ps (ae st)) (len:∀ vs H Q E,sp vs H Q E->vs.length=ps.length)
  (hbody:∀ (cdv:δ) (A:Χ) (outer:List Env) (s:ζ) (H:Hp) (vs:List V) (Q:VK) (E:XK),bz k (A.deeper (envOfC qual (ae st) s.heap.objs.size f cdv))->sp vs H Q E ->
   ∃ t,PSs (cM CX0 P w K mg base N qual (ae st) f cdv A outer s H E).nox (bq st) t/\t { nx:=λ_ H'=>Q .non H',rt:=Q } (eh N vs) H):aF P w K mg base CX0 (k + 1) f fd ps sp:=by
 obtain ⟨oc,od,kV,doc,pm,an,cdv,ct,osl,rfl,lk,hcd⟩:=F.ex
 refine we lk hcd S len λA outer s H vs Q E hr hsp=>?_
 obtain ⟨t,h,q⟩:=hbody cdv A outer s H vs Q E hr hsp
 exact ⟨t,h.nox,q⟩
theorem Fun.binds {x qual:Str} {st:Stmt} {f:Addr} {fd:Μ} {ps:List Str} (F:Fun K x qual st f fd)
  (h:∀ (kV doc pm:δ) (an:Option Addr) (cdv ct:δ) (us:List δ),us.length=ps.length->bindArgs (o_ x qual (bJ st) (bq st) (ae st) .none kV doc pm an cdv ct) ⟨us,[]⟩=pure (ps.zip us)):bx K fd ps []:=by
 obtain ⟨oc,od,kV,doc,pm,an,cdv,ct,osl,rfl,lk,hcd⟩:=F.ex
 exact .all (h kV doc pm an cdv ct)
theorem yW {x qual:Str} {st:Stmt} {f:Addr} {oc:δ} {od an:Option Addr} {osl:Array (Option δ)} {kV doc pm cdv ct:δ} (l:K.lookup f=some ⟨oc,od,.func (o_ x qual (bJ st) (bq st) (ae st) .none kV doc pm an cdv ct),osl⟩)
  (c:Ct K cdv qual=true) (k:l7 K (.ref f)=true):Fun K x qual st f (o_ x qual (bJ st) (bq st) (ae st) .none kV doc pm an cdv ct):=⟨⟨oc,od,kV,doc,pm,an,cdv,ct,osl,rfl,l,c⟩,k⟩
end
theorem og {A:Χ} {k:Nat} (hr:bz k A):A.units + 1 < cLine:=B_ (Nat.add_le_add_left (by decide:1<=64) _) hr.units
theorem jR {n:Nat} (h:n<=1000):n < sizeLine:=B_ h ∅
section
variable {X:Cx}
theorem pv (i:Nat) {x:Str} {pos:Pos} (hN:X.N[i]?=some x:=by rfl) (hv:Vis X.env.scope x:=by first | exact Ι rfl | exact Ef (Ι rfl) | exact Ef (Ef rfl)) (hd:(x == ("__debug__" : Str))=false:=by decide)
  (hcd:(x == ("__classdict__" : Str))=false:=by decide):PE X (.Name x pos) (iP i):=wg hN hv hd hcd
end
theorem aq {A B:Prop} (h:B):if false=true then A else B:=by
 rw [if_neg Θ]
 exact h
theorem av {A B:Prop} (h:A):if true=true then A else B:=by
 rw [if_pos rfl]
 exact h
theorem au {c A B:Prop} [Decidable c] (h1:c->A) (h2:¬ c->B):if c then A else B:=by
 by_cases h:c
 ·rw [if_pos h]
  exact h1 h
 ·rw [if_neg h]
  exact h2 h
theorem yp {c A B:Prop} [Decidable c] (hc:c) (h:B):if (!decide c)=true then A else B:=by
 rw [decide_eq_true hc]
 exact aq h
def af (H H':Hp):Prop:=∀ b o,H b=some o->H' b=some o
theorem af.refl (H:Hp):af H H:=λ_ _ h=>h
theorem af.trans {H H1 H2:Hp} (a:af H H1) (b:af H1 H2):af H H2:=λc o h=>b c o (a c o h)
theorem af.free {H H':Hp} (e:af H H') {l:Addr} (h:H' l=Option.none):H l=Option.none:=by
 cases q:H l with
 | none=>rfl
 | some o=>
  rw [e l o q] at h
  cases h
theorem af.seq {K:ι} {H H':Hp} {a:Addr} {xs:List V} (e:af H H') (h:SqL K H a xs):SqL K H' a xs:=by
 rcases h with (h | ⟨o,h⟩) | h
 ·exact .inl (.inl (e _ _ h))
 ·exact .inl (.inr ⟨o,e _ _ h⟩)
 ·exact .inr h
section
variable {κ:Type} [DecidableEq κ]
end
theorem wC {prog:Β} {w:Ν} {A:Χ} {R:Ea->ζ->Prop} {s:ζ} {elt target iter:Expr} {ifs:List Expr} {scope:C1} {pos:Pos} {it acc:δ} {env:Env} (I:Nat->ζ->Prop)
  (turn:∀ n s,I n s->wpAny (model prog w) A (pyNext it) (λr s₁=>match r with
   | none=>R (.ok .next) s₁
   | some v=>wpAny (model prog w) A (letOwnedTupleGo target it v) (λ_ s₁'=>wpAny (model prog w) A (assign target env v) (λ_ s₂=>
     wpAny (model prog w) A (forIn ifs true λc r=>if r=true then do let ok <- isTrue c env (eval c env); pure (Ce ok) else pure (Ce r)) (λok s₃=>
      if ok=true then wpAny (model prog w) A (eval elt env) (λx s₄=>
       wpAny (model prog w) A (call (.builtin "list.append") [acc,x]) (λ_ s₅=>∃ m,m < n/\I m s₅) (λ_ _=>False) s₄) (λ_ _=>False) s₃
      else ∃ m,m < n/\I m s₃) (λ_ _=>False) s₂) (λ_ _=>False) s₁') (λ_ _=>False) s₁) (λ_ _=>False) s)
  (n:Nat) (h:I n s) :
  codeAny (model prog w) A (.compLoop (.ListComp elt [⟨target,iter,ifs,0⟩] scope pos) 0 it acc env) R s:=by
 refine codeAny_loop rfl I (λn s hI=>?_) n h
 show wpAny _ A ((compTurn (.ListComp elt [⟨target,iter,ifs,0⟩] scope pos) 0 it acc env).onRaise (λx=>do noteFrame x env; theTreesLotGoes x)) _ _ s
 refine wpAny_noted ?_
 rw [compTurn_list]
 have no:∀ {E:δ->ζ->Prop} (x:δ) (s:ζ),False->E x s:=λ_ _ z=>z.elim
 refine γ (Dx (γ (Ϻ (turn n s hI) (λr s₁ h₁=>?_) no)))
 cases r with
 | none=>exact μ h₁
 | some v=>
  refine γ (Ϻ h₁ (λ_ s₁' h₁'=>?_) no)
  refine γ (Ϻ h₁' (λ_ s₂ h₂=>γ (Ϻ h₂ (λok s₃ h₃=>?_) no)) no)
  cases ok with
  | false=>exact μ ⟨rfl,h₃⟩
  | true=>
   exact γ (γ (Ϻ h₃ (λx s₄ h₄=>γ (Ϻ h₄ (λ_ s₅ h₅=>μ (μ ⟨rfl,h₅⟩)) no)) no))
def aO (env:Env):List (Str×Cs)->List (Str×Addr)->List (Str×Addr)
 | [],acc=>acc
 | (n,k) :: r,acc=>if k=.free then aO env r (match env.cells.lookup n with | some c=>(n,c) :: acc | none=>acc) else aO env r acc
theorem ml {env:Env} {scope:C1} (h:∀ x∈scope.names,x.2=.free->∃ c,env.cells.lookup x.1=some c):closureFor scope env=pure (aO env scope.names []):=by
 have all:∀ (l:List (Str×Cs)) (acc:List (Str×Addr)),(∀ x∈l,x.2=ϐ->∃ c,env.cells.lookup x.1=some c) ->
   (forIn l acc λx cs=>(do
    if x.2 == ϐ then
     let a <- cellOf env x.1
     pure (Ce ((x.1,a) :: cs))
    else pure (Ce cs):Sem _))=pure (aO env l acc):=by
  intro l
  induction l with
  | nil=>intro acc _; rfl
  | cons x r ih=>
   intro acc hl
   obtain ⟨n,k⟩:=x
   have hr:=λy hy=>hl y (ρ _ hy)
   rw [E6]
   by_cases hk:k=.free
   ·subst hk
    obtain ⟨c,hc⟩:=hl (n,.free) Δ rfl
    simp only [beq_self_eq_true,if_true,aO]
    have e:cellOf env n=pure c:=by unfold cellOf; rw [show env.cells.lookup n=some c from hc]
    rw [e]
    simp only [pure_bind]
    rw [ih _ hr,show env.cells.lookup n=some c from hc]
   ·have hb:(k == ϐ)=false:=by simpa using hk
    simp only [hb,y_,if_false,aO,if_neg hk,pure_bind]
    exact ih _ hr
 unfold closureFor
 exact (congrArg (λt:Sem (List (Str×Addr))=>t >>= pure) (all scope.names [] h)).trans ∅
theorem aY {env:Env}:∀ (l:List (Str×Cs)) (acc:List (Str×Addr)),(∀ n c,acc.lookup n=some c->env.cells.lookup n=some c)->∀ n c,(aO env l acc).lookup n=some c->env.cells.lookup n=some c
 | [],acc,h,n,c,e=>h n c e
 | (m,k) :: r,acc,h,n,c,e=>by
  unfold aO at e
  split at e
  ·refine aY r _ ?_ n c e
   intro n' c' e'
   split at e'
   ·rename_i c0 hc0
    rw [d_] at e'
    split at e'
    ·rename_i hb
     have:n'=m:=by simpa using hb
     subst this
     cases e'
     exact hc0
    ·exact h n' c' e'
   ·exact h n' c' e'
  ·exact aY r _ h n c e
theorem cQ {env:Env} {n:Str}:∀ (l:List (Str×Cs)) (acc:List (Str×Addr)),(∃ c,acc.lookup n=some c)->∃ c,(aO env l acc).lookup n=some c
 | [],acc,h=>h
 | (m,k) :: r,acc,h=>by
  unfold aO
  split
  ·refine cQ r _ ?_
   obtain ⟨c,hc⟩:=h
   split
   ·rw [d_]
    split
    ·exact ⟨_,rfl⟩
    ·exact ⟨c,hc⟩
   ·exact ⟨c,hc⟩
  ·exact cQ r _ h
theorem bW {env:Env} {n:Str} (hc:∃ c,env.cells.lookup n=some c):∀ (l:List (Str×Cs)) (acc:List (Str×Addr)),(n,ϐ)∈l->∃ c,(aO env l acc).lookup n=some c
 | [],_,h=>by cases h
 | (m,k) :: r,acc,h=>by
  obtain ⟨c,hc⟩:=hc
  unfold aO
  rcases ν.mp h with e | h
  ·cases e
   rw [if_pos rfl,hc]
   exact cQ r _ ⟨c,∅⟩
  ·split
   ·exact bW ⟨c,hc⟩ r _ h
   ·exact bW ⟨c,hc⟩ r _ h
def Cx.comp (X:Cx) (N:List Str) (scope:C1) (fp:List Addr) (s:ζ) (H:Hp):Cx where
 prog:=X.prog
 w:=X.w
 K:=X.K
 mg:=X.mg
 base:=X.base
 A:=X.A
 N:=N
 s₀:=s
 H₀:=H
 env:=compEnvC scope (aO X.env scope.names []) (s.heap.objs.size + 1) X.env
 outer:=X.stack
 stack:=X.stack
 ex:=fp
 calm:=X.calm
 fn:=λ_=>false
 pn:=[]
 xe:=λ_ _=>False
def bU (k:Nat) (ix:List Nat) (σ:St):St:=Α k none ++ ix.map λj=>(σ[j]?).join
structure cn (N:List Str) (sc:C1) (scope:C1) (own:List Str) (ix:List Nat):Prop where
 kind:scope.kind=.function
 nocell:∀ y∈scope.names,y.2≠.cell
 names:∀ y∈scope.names,y.2=.local->scope.names.lookup y.1=some .local
 free:∀ y∈scope.names,y.2=.free->sc.names.lookup y.1=some .cell\/sc.names.lookup y.1=some .free
 cap:∀ j∈ix,∀ x,N[j]?=some x->(x,ϐ)∈scope.names/\(scope.names.lookup x=some .free)
 inN:∀ j∈ix,j < N.length
abbrev lcN (N own:List Str) (ix:List Nat):List Str:=own ++ ix.filterMap λj=>N[j]?
theorem wE {N own:List Str} {ix:List Nat} (h:∀ j∈ix,j < N.length):(lcN N own ix).length=own.length + ix.length:=by
 unfold lcN
 rw [ψ]
 congr 1
 induction ix with
 | nil=>rfl
 | cons j r ih=>
  have hj:j < N.length:=h j Δ
  rw [r6,Ζ hj]
  show _ + 1=_ + 1
  rw [ih λi hi=>h i (ρ _ hi)]
theorem et {N:List Str}:∀ {ix:List Nat},(∀ j∈ix,j < N.length)->∀ {i:Nat} {x:Str},(ix.filterMap λj=>N[j]?)[i]?=some x->∃ j,ix[i]?=some j/\N[j]?=some x
 | [],_,i,x,e=>by simp at e
 | j :: r,h,i,x,e=>by
  have hj:j < N.length:=h j Δ
  rw [r6,Ζ hj] at e
  cases i with
  | zero=>
   refine ⟨j,rfl,?_⟩
   rw [Ζ hj]
   exact e
  | succ i=>
   obtain ⟨j',e1,e2⟩:=et (λi hi=>h i (ρ _ hi)) (i:=i) (x:=x) (by simpa using e)
   exact ⟨j',by simpa using e1,e2⟩
theorem jH {k:Nat} {ix:List Nat} {σ:St} {i:Nat} {v:V} (h:(bU k ix σ)[i]?=some (some v)):∃ i' j,i=k + i'/\ix[i']?=some j/\σ[j]?=some (some v):=by
 unfold bU at h
 by_cases hi:i < k
 ·rw [Et (by simpa using hi),List.getElem?_replicate,if_pos hi] at h
  cases h
 ·rw [y9 (by simpa using hi),u8,Ψ] at h
  refine ⟨i - k,?_⟩
  cases e:ix[i - k]? with
  | none=>rw [e] at h; cases h
  | some j=>
   rw [e] at h
   refine ⟨j,∅,rfl,?_⟩
   have h':(σ[j]?).join=some v:=by simpa using h
   cases q:σ[j]? with
   | none=>rw [q] at h'; cases h'
   | some o=>
    rw [q] at h'
    exact congrArg some h'
theorem bV {env:Env} {x:Str}:∀ {names:List (Str×Cs)},names.lookup x=some .free ->
  (names.map λ(n,k)=>if (k == ϐ && env.scope.kind == .function && env.kindOf n == some .cell) then (n,o0) else (n,k)).lookup x=some .cell \/
  (names.map λ(n,k)=>if (k == ϐ && env.scope.kind == .function && env.kindOf n == some .cell) then (n,o0) else (n,k)).lookup x=some .free
 | [],h=>by simp at h
 | (n,k) :: r,h=>by
  have ih:=@bV env x r
  rw [Υ]
  show EA x ((if (k == ϐ && env.scope.kind == .function && env.kindOf n == some .cell)=true then (n,o0) else (n,k)) :: _)=_\/EA x ((if (k == ϐ && env.scope.kind == .function && env.kindOf n == some .cell)=true then (n,o0) else (n,k)) :: _)=_
  cases hx:x == n with
  | true=>
   simp only [d_,hx] at h
   cases h
   by_cases hc:(ϐ == ϐ && env.scope.kind == .function && env.kindOf n == some .cell)=true
   ·rw [if_pos hc]; left; simp only [d_,hx]
   ·rw [if_neg hc]; right; simp only [d_,hx]
  | false=>
   simp only [d_,hx] at h
   by_cases hc:(k == ϐ && env.scope.kind == .function && env.kindOf n == some .cell)=true
   ·rw [if_pos hc]; simp only [d_,hx]; exact ih h
   ·rw [if_neg hc]; simp only [d_,hx]; exact ih h
theorem bN {env:Env} {x:Str} {kd:Cs}:∀ {names:List (Str×Cs)},
  (names.map λ(n,k)=>if (k == ϐ && env.scope.kind == .function && env.kindOf n == some .cell) then (n,o0) else (n,k)).lookup x=some kd->(kd=.cell\/kd=.free)->(∀ y∈names,y.2≠.cell) ->
  (x,ϐ)∈names
 | [],h,_,_=>by simp at h
 | (n,k) :: r,h,hk,hc=>by
  have ih:=@bN env x kd r
  rw [Υ] at h
  have hcr:∀ y∈r,y.2≠.cell:=λy hy=>hc y (ρ _ hy)
  by_cases hf:k=.free
  ·subst hf
   cases hx:x == n with
   | true=>
    have:x=n:=by simpa using hx
    subst this
    exact Δ
   | false=>
    refine ρ _ (ih ?_ hk hcr)
    by_cases hcc:(ϐ == ϐ && env.scope.kind == .function && env.kindOf n == some .cell)=true
    ·have h2:EA x ((if (ϐ == ϐ && env.scope.kind == .function && env.kindOf n == some .cell)=true then (n,o0) else (n,ϐ)) :: r.map λ(n,k)=>if (k == ϐ && env.scope.kind == .function && env.kindOf n == some .cell) then (n,o0) else (n,k))=some kd:=h
     rw [if_pos hcc,d_,hx] at h2
     exact h2
    ·have h2:EA x ((if (ϐ == ϐ && env.scope.kind == .function && env.kindOf n == some .cell)=true then (n,o0) else (n,ϐ)) :: r.map λ(n,k)=>if (k == ϐ && env.scope.kind == .function && env.kindOf n == some .cell) then (n,o0) else (n,k))=some kd:=h
     rw [if_neg hcc,d_,hx] at h2
     exact h2
  ·have hb:(k == ϐ)=false:=by simpa using hf
   have h2:EA x ((if (k == ϐ && env.scope.kind == .function && env.kindOf n == some .cell)=true then (n,o0) else (n,k)) :: r.map λ(n,k)=>if (k == ϐ && env.scope.kind == .function && env.kindOf n == some .cell) then (n,o0) else (n,k))=some kd:=h
   rw [hb,i6,i6,if_neg Θ,d_] at h2
   cases hx:x == n with
   | true=>
    rw [hx] at h2
    cases h2
    rcases hk with z | z
    ·exact absurd z (hc (n,_) Δ)
    ·exact absurd z hf
   | false=>
    rw [hx] at h2
    exact ρ _ (ih h2 hk hcr)
theorem nlt {a b:Nat} (h:a < b):a≠b:=Ρ h
theorem ngt {a b:Nat} (h:a < b):b≠a:=j7 h
theorem pV {a b:Nat} (h:a < b):a≠b + 1:=Ρ (k_ h)
theorem Bg {a b:Nat} (h:a < b):b + 1≠a:=j7 (k_ h)
theorem nss (a:Nat):a≠a + 1:=Ρ (y8 a)
theorem AU (a:Nat):a + 1≠a:=j7 (y8 a)
section
variable {X:Cx} {pins:List (Addr×Obj)} {σ:St} {H:Hp} {s:ζ} {scope:C1} {own:List Str} {ix:List Nat} {fp:List Addr}
theorem Inv.compOk {N:List Str} (I:Inv X pins σ H s) (L:cn X.N X.env.scope scope own ix) (hf:∀ b∈fp,ig X pins H b) (hlt:∀ b∈fp,b < s.heap.objs.size):(X.comp N scope fp s H).Ok where
 mod:=I.ok.mod
 kind:=L.kind
 glob:=I.ok.glob
 blt:=I.ok.blt
 above:=t_ _
 inj:=λx y c h1 h2=>I.ok.inj x y c (aY _ _ (λ_ _ z=>by simp at z) x c h1) (aY _ _ (λ_ _ z=>by simp at z) y c h2)
 has:=λx hx=>by
  have hm:(x,ϐ)∈scope.names:=by
   rcases hx with hx | hx
   ·exact bN (env:=X.env) (x:=x) (names:=scope.names) hx (.inl rfl) L.nocell
   ·exact bN (env:=X.env) (x:=x) (names:=scope.names) hx (.inr rfl) L.nocell
  exact bW (I.ok.has x (L.free _ hm rfl)) _ _ hm
 cab:=λx c h=>by cases h
 hd:=I.ok.hd
 frames:=I.ok.frames
 stk:=.inl rfl
 exf:=λb hb=>⟨pV (hlt b hb),λx c e=>(hf b hb).2.2.2.2.1 x c (aY _ _ (λ_ _ z=>by simp at z) x c e)⟩
 bs:=I.bs
 bsz:=ϟ I.ok.bsz I.sz
 noex:=λb o e hb=>by
  rcases (hf b hb).2.2.2.1 with z | z
  ·exact I.ok.noex b o e z
  ·exact absurd (ϔ (χ e) (ϟ I.ok.bsz z)) (y6 _)
 exfs:=λb hb z=>by
  rcases ν.mp (I.stkSub b z) with e | e
  ·exact (hf b hb).2.1 e
  ·exact (hf b hb).2.2.1 e
 funs:=I.stack
 frf:=I.stkFree
theorem Inv.compStart {h1:Heap} {tk:Nat} (I:Inv X pins σ H s) (L:cn X.N X.env.scope scope own ix) (hf:∀ b∈fp,ig X pins H b) (hlt:∀ b∈fp,b < s.heap.objs.size)
  (k:∀ b o,s.heap.get? b=some o->h1.get? b=some o) {m:Str->Option δ} (hn:h1.Ns (s.heap.objs.size + 1) m) :
  Inv (X.comp (lcN X.N own ix) scope fp s H) [] (bU own.length ix σ) H { s with heap:=h1,toks:=tk }:=by
 have sub:=λx c=>aY (env:=X.env) scope.names [] (λ_ _ z=>by simp at z) x c
 refine ⟨I.compOk L hf hlt,rfl,I.bare,Un.kept k,⟨m,hn,λi x v e1 e2 e3=>?_⟩,λx c e=>?_,I.hok.fresh (t_ _),λx c e=>I.freeC x c (sub x c e),λp hp=>absurd (show p∈([]:List (Addr×Obj)) from hp) ∅,I.hok.kept k,?_⟩
 ·obtain ⟨i',j,rfl,hj,hv⟩:=jH e2
  have e1':(lcN X.N own ix)[own.length + i']?=some x:=e1
  unfold lcN at e1'
  rw [y9 (j8 _ _),Nat.add_sub_cancel_left] at e1'
  obtain ⟨j',hj',hN⟩:=et L.inN e1'
  rw [hj] at hj'
  cases hj'
  have hjm:j∈ix:=Λ hj
  obtain ⟨hmem,hlk⟩:=L.cap j hjm x hN
  have hkind:=L.free _ hmem rfl
  obtain ⟨m0,hn0,hl0⟩:=I.loc
  obtain ⟨u,r,l⟩:=hl0 j x v hN hv (by rcases hkind with z | z; exact .inr (.inl z); exact .inr (.inr z))
  refine ⟨u,r,.inr ⟨?_,?_⟩⟩
  ·exact bV (env:=X.env) hlk
  ·rcases l with ⟨kl,_⟩ | ⟨_,c,hc,hcell⟩
   ·have kl':X.env.scope.names.lookup x=some .local:=kl
    rcases hkind with z | z
    ·rw [kl'] at z; cases z
    ·rw [kl'] at z; cases z
   ·obtain ⟨c',hc'⟩:=bW (env:=X.env) ⟨c,hc⟩ scope.names [] hmem
    have:c'=c:=by
     have q:=sub x c' hc'
     rw [hc] at q
     exact (Ϝ q).symm
    subst this
    obtain ⟨o,ho,hd⟩:=hcell
    exact ⟨c',hc',o,k _ _ ho,hd⟩
 ·obtain ⟨v,o,ho,hd⟩:=I.cell x c (sub x c e)
  exact ⟨v,o,k _ _ ho,hd⟩
 ·show (bU own.length ix σ).length=(lcN X.N own ix).length
  rw [wE L.inN]
  unfold bU
  rw [ψ,u8,ε]
def GW (k:Nat) (g:TG):Prop:=∀ x (σ:St) H (Q:St->Hp->Prop),g x σ H Q->g x σ H λσ2 H2=>Q σ2 H2/\σ2.length=σ.length/\∀ j,k<=j->σ2[j]?=σ[j]?
theorem bu {k i:Nat} (h:i < k):GW k (cb i):=λx σ H Q q=>⟨q,∅,λj hj=>by rw [BN ∅]⟩
def GWs (k:Nat) (g:TGs):Prop:=∀ x (σ:St) H (Q:St->Hp->Prop),g x σ H Q->g x σ H λσ2 H2=>Q σ2 H2/\σ2.length=σ.length/\∀ j,k<=j->σ2[j]?=σ[j]?
def GM (g:TG):Prop:=∀ x (σ:St) H (Q Q':St->Hp->Prop),(∀ s h,Q s h->Q' s h)->g x σ H Q->g x σ H Q'
theorem lg {i:Nat}:GM (cb i):=λ_ _ _ _ _ h q=>h _ _ q
theorem wz {k:Nat}:GWs k oj:=λx σ H Q q=>⟨q.1,q.2,rfl,λ_ _=>rfl⟩
theorem nK {k:Nat} {t:TG} {u:TGs} (ht:GW k t) (hu:GWs k u) (mt:GM t) (mu:∀ x (σ:St) H (Q Q':St->Hp->Prop),(∀ s h,Q s h->Q' s h)->u x σ H Q->u x σ H Q'):GWs k (el t u):=λx σ H Q q=>by
 obtain ⟨v,r,e,q⟩:=q
 refine ⟨v,r,e,mt _ _ _ _ _ ?_ (ht _ _ _ _ q)⟩
 rintro σ1 H1 ⟨q1,l1,j1⟩
 refine mu _ _ _ _ _ ?_ (hu _ _ _ _ q1)
 rintro σ2 H2 ⟨q2,l2,j2⟩
 exact ⟨q2,l2.trans l1,λj hj=>(j2 j hj).trans (j1 j hj)⟩
theorem qm:∀ x (σ:St) H (Q Q':St->Hp->Prop),(∀ s h,Q s h->Q' s h)->oj x σ H Q->oj x σ H Q':=λ_ _ _ _ _ h q=>⟨q.1,h _ _ q.2⟩
theorem uX {t:TG} {u:TGs} (mt:GM t) (mu:∀ x (σ:St) H (Q Q':St->Hp->Prop),(∀ s h,Q s h->Q' s h)->u x σ H Q->u x σ H Q'):∀ x (σ:St) H (Q Q':St->Hp->Prop),(∀ s h,Q s h->Q' s h)->el t u x σ H Q->el t u x σ H Q':=
 λ_ _ _ _ _ h ⟨v,r,e,q⟩=>⟨v,r,e,mt _ _ _ _ _ (λ_ _ q1=>mu _ _ _ _ _ h q1) q⟩
theorem zo {k:Nat} {K:ι} {n:Nat} {t:TGs} (ht:GWs k t):GW k (uL K n t):=λx σ H Q q=>by
 obtain ⟨a,xs,e,hq,hl,q⟩:=q
 exact ⟨a,xs,e,hq,hl,ht _ _ _ _ q⟩
theorem kn {K:ι} {i j k:Nat} (hi:i < k) (hj:j < k):GW k (uL K 2 (el (cb i) (el (cb j) oj))):=
 zo (nK (bu hi) (nK (bu hj) wz lg qm) lg (uX lg qm))
def PIf (X:Cx) (ifs:List Expr) (t:TT):Prop:=
 ∀ (pins:List (Addr×Obj)) (s:ζ) (σ:St) (H:Hp) (Q:Bool->Hp->Prop),Inv X pins σ H s->t σ H Q ->
  wpAny (model X.prog X.w) X.A (forIn ifs true λc r=>if r=true then do let ok <- isTrue c X.env (eval c X.env); pure (Ce ok) else pure (Ce r)) (TP X pins σ Q) X.xe s
def zG:TT:=λ_ H Q=>Q true H
theorem pif_nil:PIf X [] zG:=λ_ _ _ H _ I h=>wpAny_tests_nil ⟨H,I,h⟩
theorem kM {c:Expr} {t:TT} (h:PT X c t):PIf X [c] t:=λpins s σ H Q I q=>wpAny_tests_one (h pins s σ H Q I q)
def rLC (J:It) (k:Nat) (ix:List Nat) (g:TG) (tt:TT) (te:TE) (σ:St) (H1:Hp) (Q:List V->Hp->Prop):Prop:=
 ∃ W:Nat->Nat->List V->Hp->Prop,(∃ m,W 0 m [] H1)/\∀ i m ys H,W i m ys H ->
  (J.stop i H/\Q ys H) \/
  (J.go i H/\∃ N:List V->Hp->Prop,(∀ ys' H',N ys' H'->∃ m',m' < m/\W (i + 1) m' ys' H')/\∀ x H',J.yld i H x H'->g x (bU k ix σ) H' λσ2 H2=>tt σ2 H2 λc H3=>
   if c=true then te σ2 H3 λy H4=>ys.length < sizeLine/\N (ys ++ [y]) H4
   else N ys H3)
theorem lZ {elt tg iter:Expr} {ifs:List Expr} {pos:Pos} {it:Addr} {tn:Nat->Heap->Prop} {J:It} {g:TG} {tt:TT} {te:TE} {E:δ->ζ->Prop} {Qf:List V->Hp->Prop} {RR:δ->Addr->Ea->ζ->Prop}
  (L:cn X.N X.env.scope scope own ix) (hc:X.calm=true) (hg:∀ fp s H,PG (X.comp (lcN X.N own ix) scope fp s H) tg g) (gw:GW own.length g)
  (ht:∀ fp s H,PIf (X.comp (lcN X.N own ix) scope fp s H) ifs tt) (he:∀ fp s H,PE (X.comp (lcN X.N own ix) scope fp s H) elt te)
  (I:Inv X pins σ H s) (T:jh X.prog X.w X.K tg J fp it tn) (st:tn 0 s.heap) (hf:∀ b∈fp,ig X pins H b)
  (hw:rLC J own.length ix g tt te σ H Qf)
  (hRR:∀ (D C:Addr) (s':ζ) (ys:List V) (H':Hp) (m:Str->Option δ),s'.heap.Ns C m->C≠X.env.locals->(∀ x c,X.env.cells.lookup x=some c->c≠C)->X.s₀.heap.objs.size<=C->(∀ p∈X.pn ++ pins,p.1≠C)->upd H' D (.lst ys) C=none->H' D=none ->
   Inv X pins σ (upd H' D (.lst ys)) s'->Qf ys H'->RR (.ref D) C (.ok .next) s') :
  wpAny (model X.prog X.w) X.A (newList []) (λacc s₃=>wpAny (model X.prog X.w) X.A (newFunctionEnv scope X.env.globals (aO X.env scope.names []) [] X.env.qual none .none (some X.env)) (λcenv s₄=>
   codeAny (model X.prog X.w) X.A (.compStart (.ListComp elt [⟨tg,iter,ifs,0⟩] scope pos) 0 (.ref it) acc { cenv with scope:=relabel scope X.env }) (RR acc cenv.locals) s₄) E s₃) E s:=by
 obtain ⟨W,⟨m0,w0⟩,turn⟩:=hw
 have hlt:∀ b∈fp,b < s.heap.objs.size:=λb hb=>by
  obtain ⟨o,e,_⟩:=T.obj 0 s.heap st b hb
  exact χ e
 refine Ϗ (wpAny_newFunctionEnv L.nocell (by intro y hy; simp at hy) (λh₁ hns₁ hsb₁=>?_) L.kind)
 dsimp only at hns₁ hsb₁ ⊢
 generalize hH2:s.heap.push { cls:=.type "list",dict:=none,data:=.seq ([]:List δ).toArray }=h2 at hns₁ hsb₁ ⊢
 have hC:h2.objs.size=s.heap.objs.size + 1:=by rw [<- hH2,Ϩ]
 have old:∀ b o,s.heap.get? b=some o->h₁.get? b=some o:=λb o e=>by
  exact hsb₁.extBut b o (by rw [hC]; exact pV (χ e)) (η _ (hH2▸η _ e))
 have hacc:h₁.PlainList s.heap.objs.size #[]:=⟨_,hsb₁.extBut _ _ (by rw [hC]; exact nss _) (η _ (hH2▸τ _ rfl))⟩
 have hD0:H s.heap.objs.size=none:=I.hok.fresh (π _)
 rw [hC] at hns₁
 have I0:=I.compStart (tk:=s.toks + ([]:List (Str×δ)).length) L hf hlt old hns₁
 have sub:=λx c=>aY (env:=X.env) scope.names [] (λ_ _ z=>by simp at z) x c
 have cellLt:∀ x c,X.env.cells.lookup x=some c->c < s.heap.objs.size:=λx c e=>by
  obtain ⟨v,q⟩:=I.cell x c e
  exact q.lt
 have stkLt:∀ b∈frs X.stack,b < s.heap.objs.size:=λb hb=>by
  obtain ⟨_,o,ho,_⟩:=I.stack.mem hb
  exact χ ho
 have env_eq:({ newEnv scope h2.objs.size X.env.globals (aO X.env scope.names []) X.env.qual none .none (some X.env) builtinsNs with scope:=relabel scope X.env }:Env)=(X.comp (lcN X.N own ix) scope fp s H).env:=by
  show compEnvC scope (aO X.env scope.names []) h2.objs.size X.env=compEnvC scope (aO X.env scope.names []) (s.heap.objs.size + 1) X.env
  rw [hC]
 have loop:codeAny (model X.prog X.w) X.A (.compLoop (.ListComp elt [⟨tg,iter,ifs,0⟩] scope pos) 0 (.ref it) (.ref s.heap.objs.size) (X.comp (lcN X.N own ix) scope fp s H).env) (RR (.ref s.heap.objs.size) (s.heap.objs.size + 1))
   { s with heap:=h₁,toks:=s.toks + ([]:List (Str×δ)).length }:=by
  refine wC (λn s'=>∃ i ys H',Inv (X.comp (lcN X.N own ix) scope fp s H) [] (bU own.length ix σ) H' s'/\tn i s'.heap/\(∀ b∈fp,H' b=none)/\H' s.heap.objs.size=none /\
   (∃ its:List δ,ar ys its/\s'.heap.PlainList s.heap.objs.size its.toArray)/\ys.length<=sizeLine/\W i n ys H') ?_ m0
   ⟨0,[],H,I0,T.keep _ _ _ st (λb _ o e=>old b o e),λb hb=>(hf b hb).1,hD0,⟨[],.nil,hacc⟩,Ω _,w0⟩
  rintro n s3 ⟨i,ys,H3,I3,st3,fr3,d3,⟨its,rv,n3,hp3⟩,hz,w3⟩
  have Ip:=I3.pins_of (pins':=[(s.heap.objs.size,{ cls:=.type "list",data:=.seq its.toArray n3 })]) (λp hp=>by
   have e:p=(s.heap.objs.size,{ cls:=.type "list",data:=.seq its.toArray n3 }):=by simpa using hp
   subst e
   exact ⟨hp3,d3,nss _,λz=>absurd (stkLt _ z) (y6 _),λv z=>by cases z⟩)
  have stat:∀ {H':Hp},(∀ b∈fp,H' b=none)->∀ b∈fp,ig (X.comp (lcN X.N own ix) scope fp s H) [(s.heap.objs.size,{ cls:=.type "list",data:=.seq its.toArray n3 })] H' b:=λhn b hb=>
   ⟨hn b hb,pV (hlt b hb),I3.ok.exfs b hb,.inl hb,λx c e=>(I3.ok.exf b hb).2 x c e,λp hp=>by
    have e:p=(s.heap.objs.size,{ cls:=.type "list",data:=.seq its.toArray n3 }):=by simpa using (show p∈([]:List (Addr×Obj)) ++ [(s.heap.objs.size,{ cls:=.type "list",data:=.seq its.toArray n3 })] from hp)
    subst e
    exact ngt (hlt b hb)⟩
  rcases turn i n ys H3 w3 with ⟨stop,qf⟩ | ⟨go,N,hN,step⟩
  ·refine thn (T.done (X.comp (lcN X.N own ix) scope fp s H) rfl rfl rfl hc i _ s3 _ H3 _ Ip (stat fr3) st3 stop) λr s4 ⟨hr,I4⟩=>?_
   subst hr
   obtain ⟨e4,d4,_⟩:=I4.pin (s.heap.objs.size,{ cls:=.type "list",data:=.seq its.toArray n3 }) (ϝ _ Δ)
   obtain ⟨mC,hnC,_⟩:=I4.loc
   have hok:HOk X.prog X.w (upd H3 s.heap.objs.size (.lst ys)) s4.heap:=λb u e=>by
    by_cases hb:b=s.heap.objs.size
    ·subst hb
     rw [aa] at e
     cases e
     exact ⟨hz,its,n3,rv,e4⟩
    ·rw [ah hb] at e
     exact (I4.hok b u e).stay (λc v _ q=>q) (λc q=>by rw [ah (ag q d4)]; exact q) λc xs q=>by rw [ah (ag q d4)]; exact q
   have ub:=I4.base
   have un:Un (frs X.stack) fp H (upd H3 s.heap.objs.size (.lst ys)) s.heap s4.heap:=
    ⟨ub.keep,ub.slot,λb o e n hx=>by rw [ah (Ρ (χ e))]; exact ub.free b o e n hx,ub.there,
     λb xs e=>by rw [ah (ag (ub.tups b xs e) d4)]; exact ub.tups b xs e,λb o u e=>by rw [ah (ag (ub.frzs b o u e) d4)]; exact ub.frzs b o u e,
     λb ps e=>by
      obtain ⟨more,q⟩:=ub.tbls b ps e
      exact ⟨more,by rw [ah (ag q d4)]; exact q⟩⟩
   have I5:Inv X pins σ (upd H3 s.heap.objs.size (.lst ys)) s4:=I.call' I4.os un hok I4.bare λb hb=>by
    obtain ⟨f0,f1,f2,f3,f4,f5⟩:=hf b hb
    exact ⟨f3,f1,f4,f5⟩
   refine hRR _ _ s4 ys H3 mC hnC ?_ ?_ ?_ ?_ ?_ d4 I5 qf
   ·exact Bg I.lt
   ·intro x c e
    exact pV (cellLt x c e)
   ·exact ϟ I.sz (t_ _)
   ·intro p hp
    exact pV (χ (I.pin p hp).1)
   ·rw [ah (AU _)]
    exact I4.free
  ·refine thn (T.item (X.comp (lcN X.N own ix) scope fp s H) rfl rfl rfl hc i _ s3 _ H3 _ Ip (stat fr3) st3 go) λr s4 ⟨u,hr,h4⟩=>?_
   subst hr
   refine thn h4 λ_ s5 ⟨x,H5,I5,r5,y5,st5,fr5⟩=>?_
   have I5':=I5.pinned (stat fr5) (T.obj _ _ st5)
   refine thn (hg fp s H _ s5 _ H5 x u _ I5' r5 (gw _ _ _ _ (step x H5 y5))) λ_ s6 ⟨σ6,H6,I6,q6,l6,k6⟩=>?_
   refine thn (ht fp s H _ s6 σ6 H6 _ I6 q6) λc s7 ⟨H7,I7,q7⟩=>?_
   have again:∀ {s8:ζ} {H8:Hp},Inv (X.comp (lcN X.N own ix) scope fp s H) ([(s.heap.objs.size,{ cls:=.type "list",data:=.seq its.toArray n3 })] ++ iU fp s5.heap) σ6 H8 s8 ->
     Inv (X.comp (lcN X.N own ix) scope fp s H) [] (bU own.length ix σ) H8 s8/\tn (i + 1) s8.heap/\(∀ b∈fp,H8 b=none)/\H8 s.heap.objs.size=none/\s8.heap.get? s.heap.objs.size=some { cls:=.type "list",data:=.seq its.toArray n3 }:=λ{s8 H8} I8=>by
    obtain ⟨e8,d8,_⟩:=I8.pin (s.heap.objs.size,{ cls:=.type "list",data:=.seq its.toArray n3 }) (ϝ _ (m9 _ Δ))
    refine ⟨(I8.pins_of (pins':=[]) λp hp=>by cases hp).weak l6.symm λj v e=>?_,T.keep _ _ _ st5 λb hb o e=>(I8.pin (b,o) (ϝ _ (ϝ _ (cP hb e)))).1,λb hb=>?_,d8,e8⟩
    ·obtain ⟨i',j',rfl,_,_⟩:=jH e
     rw [k6 _ (j8 _ _)]
     exact e
    ·obtain ⟨o,e,d⟩:=T.obj _ _ st5 b hb
     exact (I8.pin (b,o) (ϝ _ (ϝ _ (cP hb e)))).2.1
   cases c with
   | false=>
    rw [if_neg Θ] at q7 ⊢
    obtain ⟨m',hm,w7⟩:=hN _ _ q7
    obtain ⟨a1,a2,a3,a4,a5⟩:=again I7
    exact ⟨m',hm,i + 1,ys,H7,a1,a2,a3,a4,⟨its,rv,n3,a5⟩,hz,w7⟩
   | true=>
    rw [if_pos rfl] at q7 ⊢
    refine thn (he fp s H _ s7 σ6 H7 _ I7 q7) λv s8 ⟨y,H8,I8,r8,hz8,q8⟩=>?_
    obtain ⟨m',hm,w8⟩:=hN _ _ q8
    obtain ⟨a1,a2,a3,a4,a5⟩:=again I8
    refine wpAny_list_append_plain (s:=s8) (l:=s.heap.objs.size) (items:=its.toArray) ⟨n3,a5⟩ (λh9 hl9 hs9=>?_) (by have:=rv.length; simp; omega)
    have I9:Inv (X.comp (lcN X.N own ix) scope fp s H) [] (bU own.length ix σ) H8 { s8 with heap:=h9 }:=a1.turned (t':=s8.toks) (it:=s.heap.objs.size) (λb o hb e=>hs9.extBut b o hb e) a4 (nss _)
     (.inr (π _)) (λx c e=>nlt (cellLt x c (sub x c e))) (λp hp=>absurd (show p∈([]:List (Addr×Obj)) from hp) ∅)
    refine ⟨m',hm,i + 1,ys ++ [y],H8,I9,T.keep _ _ _ a2 (λb hb o e=>hs9.extBut b o (nlt (hlt b hb)) e),a3,a4,⟨its ++ [v],ar.append rv (.cons r8 .nil),?_⟩,?_,w8⟩
    ·have e:(its ++ [v]).toArray=its.toArray.push v:=by simp
     rw [e]
     exact hl9
    ·rw [ψ]
     show _ + 1<=_
     omega
 show codeAny _ _ (.compStart _ 0 (.ref it) (.ref s.heap.objs.size) _) (RR (.ref s.heap.objs.size) h2.objs.size) _
 rw [hC]
 have e2:=env_eq
 rw [hC] at e2
 refine Eq.mpr (congrArg (λe=>codeAny (model X.prog X.w) X.A (.compStart (.ListComp elt [⟨tg,iter,ifs,0⟩] scope pos) 0 (.ref it) (.ref s.heap.objs.size) e) (RR (.ref s.heap.objs.size) (s.heap.objs.size + 1)) { s with heap:=h₁,toks:=s.toks + ([]:List (Str×δ)).length }) e2) ?_
 exact codeAny_compStart_list loop (T.self X.A 0 _ _ _ (T.keep _ _ _ st λb _ o e=>old b o e) loop)
end
section
variable {X:Cx} {scope:C1} {own:List Str} {ix:List Nat}
def tLC (wi:TI) (k:Nat) (ix:List Nat) (g:TG) (tt:TT) (te:TE):TE:=λσ H Q=>wi σ H λJ H1=>rLC J k ix g tt te σ H1 λys H'=>∀ a,H' a=none->Q (.ref a) (upd H' a (.lst ys))
theorem Inv.clos {pins:List (Addr×Obj)} {σ:St} {H:Hp} {s:ζ} (I:Inv X pins σ H s) (L:cn X.N X.env.scope scope own ix):closureFor scope X.env=pure (aO X.env scope.names []):=
 ml λx hx hf=>I.ok.has x.1 (L.free x hx hf)
theorem pe_lc {elt tg iter:Expr} {ifs:List Expr} {pos:Pos} {wi:TI} {g:TG} {tt:TT} {te:TE} (hi:PI X tg iter wi) (L:cn X.N X.env.scope scope own ix) (hc:X.calm=true)
  (hg:∀ fp s H,PG (X.comp (lcN X.N own ix) scope fp s H) tg g) (gw:GW own.length g) (ht:∀ fp s H,PIf (X.comp (lcN X.N own ix) scope fp s H) ifs tt) (he:∀ fp s H,PE (X.comp (lcN X.N own ix) scope fp s H) elt te)
  (hs:∀ x,foldedSetIterable iter X.env x=pure x:=by intro _; rfl):PE X (.ListComp elt [⟨tg,iter,ifs,0⟩] scope pos) (tLC wi own.length ix g tt te):=by
 intro pins s σ H Q I h
 rw [eval_ListComp]
 refine wpAny_comprehension_free (use:=none) rfl hs (I.clos L) L.kind L.names (thn (hi pins s σ H _ I h) λv s1 h1=>thn h1 λitv s2 h2=>?_)
 obtain ⟨it,fp,tn,J,H2,e,I2,T,st2,f2,hw⟩:=h2
 subst e
 refine lZ (RR:=λacc C=>compPost (model X.prog X.w) X.A X.xe none (EP X pins σ Q) acc C) L hc hg gw ht he I2 T st2 f2 hw ?_
 intro D C s' ys H' m hn c1 c2 c3 c4 c5 d I' q
 exact ⟨m,hn,λh' hs'=>⟨.ref D,_,I'.turned (t':=s'.toks) (it:=C) (λb o hb e=>hs'.extBut b o hb e) c5 c1 (.inr c3) c2 c4,rfl,q D d⟩⟩
theorem ps_lc {elt tg iter:Expr} {ifs:List Expr} {pos spos py:Pos} {wi:TI} {g:TG} {tt:TT} {te:TE} {i:Nat} {y:Str} (hN:X.N.Nodup) (hy:X.N[i]?=some y) (hx:X.env.scope.names.lookup y=some .local) (hi:PI X tg iter wi) (L:cn X.N X.env.scope scope own ix) (hc:X.calm=true)
  (hg:∀ fp s H,PG (X.comp (lcN X.N own ix) scope fp s H) tg g) (gw:GW own.length g) (ht:∀ fp s H,PIf (X.comp (lcN X.N own ix) scope fp s H) ifs tt) (he:∀ fp s H,PE (X.comp (lcN X.N own ix) scope fp s H) elt te)
  (hsw:swapsWith (.ListComp elt [⟨tg,iter,ifs,0⟩] scope pos) (some (.Name y py)) spos.line X.env=pure true:=by rfl)
  (hs:∀ x,foldedSetIterable iter X.env x=pure x:=by intro _; rfl):PS X (.Assign [.Name y py] (.ListComp elt [⟨tg,iter,ifs,0⟩] scope pos) spos) (xM (tLC wi own.length ix g tt te) (cb i)):=by
 intro pins s σ H Dn I h
 rw [exec_Assign_Name_used _ _ _ _ hsw]
 refine γ (Dx (γ ?_))
 show wpAny _ X.A (do let _ <- comprehension (.ListComp elt [⟨tg,iter,ifs,0⟩] scope pos) scope X.env _ (newList []) false (eval iter X.env) (some (assign (.Name y py) X.env))) _ _ s
 refine γ (thn (wpAny_comprehension_free (use:=some (assign (.Name y py) X.env)) (Q:=λ_ s'=>SP X pins Dn .next s') rfl hs (I.clos L) L.kind L.names
  (thn (hi pins s σ H _ I h) λv s1 h1=>thn h1 λitv s2 h2=>?_)) λ_ s' hq=>μ (μ hq))
 obtain ⟨it,fp,tn,J,H2,e,I2,T,st2,f2,hw⟩:=h2
 subst e
 refine lZ (RR:=λacc C=>compPost (model X.prog X.w) X.A X.xe (some (assign (.Name y py) X.env)) (λ_ s'=>SP X pins Dn .next s') acc C) L hc hg gw ht he I2 T st2 f2 hw ?_
 intro D C s' ys H' m hn c1 c2 c3 c4 c5 d I' q
 show wpAny _ X.A (assign (.Name y py) X.env (.ref D)) _ _ s'
 refine wpAny_assign_Name (jD I' hN hy (.inl hx) (v:=.ref D) rfl (λs2 I2 ⟨a,hs2,ha⟩=>?_) (.inr hx))
 have aC:a≠C:=by
  rcases ha with rfl | ha
  ·exact ώ c1
  ·exact c2 y a ha
 refine ⟨m,hn.sameBut hs2 (ώ aC),λh' hs'=>?_⟩
 exact ⟨_,_,I2.turned (t':=s2.toks) (it:=C) (λb o hb e=>hs'.extBut b o hb e) c5 c1 (.inr c3) c2 c4,q D d⟩
end
section
variable {k:Nat} {ix:List Nat} {g:TG} {tt:TT} {te:TE} {σ:St} {H1:Hp} {Q:List V->Hp->Prop}
def ca (k:Nat) (ix:List Nat) (g:TG) (tt:TT) (te:TE) (σ:St) (x:V) (ys:List V) (H:Hp) (N:List V->Hp->Prop):Prop:=
 g x (bU k ix σ) H λσ2 H2=>tt σ2 H2 λc H3=>if c=true then te σ2 H3 λy H4=>ys.length < sizeLine/\N (ys ++ [y]) H4 else N ys H3
theorem rF {J:It} {n:Nat} (Pv:Nat->List V->Hp->Prop) (h0:Pv 0 [] H1) (hgo:∀ i ys H,i < n->Pv i ys H->J.go i H) (hst:∀ ys H,Pv n ys H->J.stop n H)
  (hs:∀ i ys H x H',i < n->Pv i ys H->J.yld i H x H'->ca k ix g tt te σ x ys H' (Pv (i + 1))) (hd:∀ ys H,Pv n ys H->Q ys H):rLC J k ix g tt te σ H1 Q:=by
 refine ⟨λi m ys H=>m=n - i/\i<=n/\Pv i ys H,⟨n,∅,Ω _,h0⟩,?_⟩
 rintro i m ys H ⟨rfl,hi,p⟩
 by_cases hlt:i < n
 ·exact .inr ⟨hgo i ys H hlt p,Pv (i + 1),λys' H' q=>⟨n - (i + 1),∅,rfl,hlt,q⟩,λx H' y=>hs i ys H x H' hlt p y⟩
 ·have e:i=n:=by omega
  subst e
  exact .inl ⟨hst ys H p,hd ys H p⟩
theorem uu {lo:Int} {n:Nat} (Pv:Nat->List V->Hp->Prop) (h0:Pv 0 [] H1) (hs:∀ i ys H,i < n->Pv i ys H->ca k ix g tt te σ (.int (lo + i)) ys H (Pv (i + 1)))
  (hd:∀ ys H,Pv n ys H->Q ys H):rLC (Itr lo n) k ix g tt te σ H1 Q:=
 rF (n:=n) Pv h0 (λi _ _ h _=>h) (λ_ _ _=>π _) (λi ys H x H' h p y=>by
  obtain ⟨e,y⟩:=y
  subst e y
  exact hs i ys _ h p) hd
theorem jX {K:ι} {a:Addr} {xs:List V} (Pv:Nat->List V->Hp->Prop) (h0:Pv 0 [] H1) (hl:∀ i ys H,i<=xs.length->Pv i ys H->SqL K H a xs)
  (hs:∀ i ys H x,xs[i]?=some x->Pv i ys H->ca k ix g tt te σ x ys H (Pv (i + 1))) (hd:∀ ys H,Pv xs.length ys H->Q ys H):rLC (Itl K a) k ix g tt te σ H1 Q:=
 rF (n:=xs.length) Pv h0 (λi ys H h p=>⟨xs,xs[i],hl i ys H (x5 h) p,by simp [h]⟩) (λys H p=>⟨xs,hl _ ys H (π _) p,π _⟩) (λi ys H x H' h p y=>by
  obtain ⟨e,y⟩:=y
  subst e
  exact hs i ys _ x (y xs (hl i ys _ (x5 h) p)) p) hd
theorem eW {K:ι} {a:Addr} {xs:List V} (Pv:Nat->List V->Hp->Prop) (h0:Pv 0 [] H1) (hl:∀ i ys H,i<=xs.length->Pv i ys H->SqT K H a xs)
  (hs:∀ i ys H x,xs[i]?=some x->Pv i ys H->ca k ix g tt te σ x ys H (Pv (i + 1))) (hd:∀ ys H,Pv xs.length ys H->Q ys H):rLC (Itt K a) k ix g tt te σ H1 Q:=
 rF (n:=xs.length) Pv h0 (λi ys H h p=>⟨xs,xs[i],hl i ys H (x5 h) p,by simp [h]⟩) (λys H p=>⟨xs,hl _ ys H (π _) p,π _⟩) (λi ys H x H' h p y=>by
  obtain ⟨e,y⟩:=y
  subst e
  exact hs i ys _ x (y xs (hl i ys _ (x5 h) p)) p) hd
end
def Itf (f:Nat->V) (n:Nat):It:=⟨λi _=>i < n,λi H x H'=>H'=H/\x=f i,λi _=>i=n⟩
theorem eK {P:Β} {w:Ν} {K:ι} {tg:Expr} {it:Addr} {n:Nat} {Pv:Nat->δ->Prop} {tn:Nat->Heap->Prop} {f:Nat->V}
  (W:∀ A:Χ,A.handled=none->Ft P w A it [it] [it] n Pv tn) (ob:∀ i h,tn i h->∃ o nm vs,h.get? it=some o/\o.cls=.type nm/\o.data=.fields vs/\["enumerate","zip","dict_itemiterator","dict_reverseitemiterator","odict_iterator","itertools.zip_longest","itertools.pairwise"].contains nm=false)
  (rel:∀ i v,Pv i v->aw (f i) v) (hself:∀ (A:Χ) (i:Nat) (s:ζ) (Q:δ->ζ->Prop) (E:δ->ζ->Prop),tn i s.heap->Q (.ref it) s->wpAny (model P w) A (pyIter (.ref it)) Q E s):jh P w K tg (Itf f n) [it] it tn where
 mem:=by simp
 obj:=λi h st b hb=>by
  have e:b=it:=by simpa using hb
  subst e
  obtain ⟨o,nm,vs,e,_,d,_⟩:=ob i h st
  exact ⟨o,e,λv z=>by rw [d] at z; cases z⟩
 keep:=λi h h' st k=>by
  by_cases hA:∃ A:Χ,A.handled=none
  ·obtain ⟨A,hA⟩:=hA
   exact (W A hA).frame i h h' st k
  ·exact absurd ⟨callerA,rfl⟩ hA
 item:=by
  intro X hP hw hK hc i pins s σ H E I hf st hg
  subst hP hw hK
  obtain ⟨f0,f1,f2,f3,f4,f5⟩:=hf it ∅
  refine (W X.A (I.ok.hd hc)).item i s _ _ hg st λv h' tk hv st' kk=>?_
  have I1:Inv X pins σ H { s with heap:=h',toks:=tk }:=I.turned (λb o hb e=>kk b o (by simpa using hb) e) f0 f1 f3 f4 f5
  obtain ⟨o,nm,vs,e,c,d,hn⟩:=ob _ _ st'
  exact ⟨v,rfl,qB (s:={ s with heap:=h',toks:=tk }) e c d hn ⟨f i,H,I1,rel i v hv,⟨rfl,rfl⟩,st',λb hb=>(hf b hb).1⟩⟩
 done:=by
  intro X hP hw hK hc i pins s σ H E I hf st hg
  subst hP hw hK
  obtain ⟨f0,f1,f2,f3,f4,f5⟩:=hf it ∅
  have e:i=n:=hg
  subst e
  exact (W X.A (I.ok.hd hc)).done s _ _ st λh' tk kk=>⟨rfl,I.turned (λb o hb e=>kk b o (by simpa using hb) e) f0 f1 f3 f4 f5⟩
 self:=hself
theorem cX {i j c:Int} (q1:0 < c) (q3:-1000000<=i) (q4:i < 1000000) (q5:-1000000<=j) (q6:j < 1000000):0<=ϖ i j c/\ϖ i j c<=2000000:=by
 unfold ϖ
 rw [if_pos (show c > 0 from q1)]
 by_cases h:i < j
 ·rw [if_pos h]
  have h1:0<=(j - i - 1) / c:=Int.ediv_nonneg ∅ ∅
  have h2:(j - i - 1) / c<=j - i - 1:=Int.ediv_le_self _ ∅
  omega
 ·rw [if_neg h]; omega
theorem mY {i j c:Int} (q1:0 < c) (q2:c < 1000) (q3:-1000000<=i) (q4:i < 1000000) (q5:-1000000<=j) (q6:j < 1000000):Ϡ.Range.small i j c=true:=by
 obtain ⟨h1,h2⟩:=cX q1 q3 q4 q5 q6
 unfold Ϡ.Range.small
 simp only [Ϡ.Range.rangeFitsLong,Ε,DH,decide_eq_true_eq,beq_iff_eq,show c > 0 from q1,if_true]
 omega
section
variable {X:Cx} {tg:Expr}
theorem Inv.fp1 {pins:List (Addr×Obj)} {σ:St} {H:Hp} {s:ζ} (I:Inv X pins σ H s):∀ b∈[s.heap.objs.size],ig X pins H b:=λb hb=>by
 have e:b=s.heap.objs.size:=by simpa using hb
 subst e
 exact I.fpOk (π _) (I.hok.fresh (π _))
def yw (x:Str) (i:Nat):V:=.str ⟨#[x.cps.getD i 0]⟩
def Bw (ts:TE):TI:=λσ H R=>ts σ H λx H1=>∃ z,x=.str z/\R (Itf (yw z) z.cps.size) H1
theorem pi_str {e:Expr} {ts:TE} (hl:PE X e ts):PI X tg e (Bw ts):=by
 intro pins s σ H R I h
 refine thn (hl pins s σ H _ I h) λv s1 ⟨x,H1,I1,r1,q1⟩=>?_
 obtain ⟨z,e,q⟩:=q1
 subst e
 obtain ⟨t,rfl⟩:=r1
 have rel:∀ i v,SignAt z i v->aw (yw z i) v:=λi v ⟨c,u,hc,hv⟩=>by
  subst hv
  refine ⟨u,?_⟩
  have e:z.cps.getD i 0=c:=by rw [Cn,hc]; rfl
  rw [e]
 cases ha:z.cps.all (· < 128) with
 | false=>
  refine wpAny_pyIter_wide ha ?_
  exact ⟨s1.heap.objs.size,[s1.heap.objs.size],_,_,H1,rfl,I1.kept (t':=s1.toks) λb o e=>η _ e,
   eK (λA hA=>Ft.strWide hA _ z t) (λi h ⟨o,e,c,d⟩=>⟨o,"str_iterator",_,e,c,d,∅⟩) rel (λA i s Q E st hq=>wpAny_pyIter_striter_wide st hq),⟨_,τ _ rfl,rfl,rfl⟩,λb hb=>I1.fp1 b hb,q⟩
 | true=>
  refine wpAny_pyIter_ascii ha ?_
  exact ⟨s1.heap.objs.size,[s1.heap.objs.size],_,_,H1,rfl,I1.kept (t':=s1.toks) λb o e=>η _ e,
   eK (λA hA=>Ft.strAscii hA _ z t) (λi h ⟨o,e,c,d⟩=>⟨o,"str_ascii_iterator",_,e,c,d,∅⟩) rel (λA i s Q E st hq=>wpAny_pyIter_striter_ascii st hq),⟨_,τ _ rfl,rfl,rfl⟩,λb hb=>I1.fp1 b hb,q⟩
def zN (ta:TA):TI:=λσ H R=>ta σ H λvs H1=>∃ i j c:Int,vs=[.int i,.int j,.int c]/\(0 < c/\c < 1000/\-1000000<=i/\i < 1000000/\-1000000<=j/\j < 1000000)/\R (Itf (λk=>.int (i + k * c)) (ϖ i j c).toNat) H1
theorem pi_range3 {a b c:Expr} {ta:TA} {p pos:Pos} (hg:Gl X "range") (hm:X.mg "range"=none) (ha:PA X [a,b,c] ta) (hs:starEach [a,b,c] X.env=[(false,eval a X.env),(false,eval b X.env),(false,eval c X.env)]:=by rfl) (hs2:starEach [b,c] X.env=[(false,eval b X.env),(false,eval c X.env)]:=by rfl) :
  PI X tg (.Call (.Name "range" p) [a,b,c] [] pos) (zN ta):=by
 intro pins s σ H R I h
 refine Call_ (cy I hg hm boot_range (a9 (thn (ha pos pins s σ H _ I h) λus s1 ⟨vs,H1,I1,r1,q1⟩=>?_) (by rw [hs,hs2]) (by rw [hs2]; rfl)))
 obtain ⟨i,j,c,e,⟨q1,q2,q3,q4,q5,q6⟩,q⟩:=q1
 subst e
 cases r1 with
 | cons r rr=>
  cases rr with
  | cons r' rr=>
   cases rr with
   | cons r'' rr=>
    cases rr
    obtain ⟨t,rfl⟩:=r
    obtain ⟨t',rfl⟩:=r'
    obtain ⟨t'',rfl⟩:=r''
    refine call_range_3 ∅ ?_ (.inl (PyProof.noPylong_small ∅))
    obtain ⟨z0,z1⟩:=cX q1 q3 q4 q5 q6
    have hsz:(((ϖ i j c).toNat:Nat):Int)=ϖ i j c:=by omega
    refine wpAny_pyIter_range (IsRange.new ..) (mY q1 q2 q3 q4 q5 q6) ?_
    have I2:Inv X pins σ H1 { s1 with heap:=s1.heap.push { cls:=.type "range",data:=.fields #[.int i t,.int j t',.int c t''] },toks:=s1.toks }:=I1.kept λb o e=>η _ e
    refine ⟨_,[_],_,_,H1,rfl,I2.kept (t':=s1.toks) λb o e=>η _ e,eK (f:=λk=>.int (i + k * c)) (λA hA=>Ft.range hA _ i c (ϖ i j c).toNat) (λk h st=>⟨_,"range_iterator",_,st,rfl,rfl,∅⟩) (λk v ⟨t,e⟩=>⟨t,e⟩) (λA k s Q E st hq=>wpAny_pyIter_rangeiter st hq),?_,λb hb=>I2.fp1 b hb,q⟩
    show IsRangeIter _ _ (i + ((0:Nat):Int) * c) (((ϖ i j c).toNat:Nat) - ((0:Nat):Int)) c
    have e1:i + ((0:Nat):Int) * c=i:=by simp
    have e2:(((ϖ i j c).toNat:Nat):Int) - ((0:Nat):Int)=ϖ i j c:=by rw [hsz]; simp
    rw [e1,e2]
    exact τ _ rfl
theorem KV.at {kvs:List (Key×V)} {vs:List (Key×δ)} (r:KV kvs vs) {i:Nat} {k:Key} {v:δ} (e:vs[i]?=some (k,v)):∃ x,kvs[i]?=some (k,x)/\aw x v:=by
 induction r generalizing i with
 | nil=>simp at e
 | @cons p q ps qs h t ih=>
  cases i with
  | zero=>
   have e':q=(k,v):=by simpa using e
   obtain ⟨p1,p2⟩:=p
   subst e'
   obtain ⟨h1,h2⟩:=h
   have h1':p1=k:=h1
   subst h1'
   exact ⟨p2,rfl,h2⟩
  | succ i=>exact ih (by simpa using e)
theorem Aj {P:Β} {w:Ν} {k:Key} {u:δ} (h:(aK P w).is k u=true):aw (kV k) u:=by
 rcases aQ (k:=k) (v:=u) h with ⟨i,t,rfl,rfl⟩ | ⟨x,t,rfl,rfl⟩
 ·exact ⟨t,rfl⟩
 ·exact ⟨t,rfl⟩
def Ite (K:ι) (a:Addr):It:=
 ⟨λi H=>∃ xs x,SqL K H a xs/\xs[i]?=some x,λi H x H'=>∃ p y,H p=none/\H'=upd H p (.tup [.int i,y])/\x=.ref p/\∀ xs,SqL K H a xs->xs[i]?=some y,λi H=>∃ xs,SqL K H a xs/\xs.length<=i⟩
theorem rZ {P:Β} {w:Ν} {K:ι} {elts:List Expr} {x1} {tp:Pos} (a e it:Addr) (hei:e≠it):jh P w K (.Tuple elts x1 tp) (Ite K a) [e,it] e (λi h=>(∃ old,IsEnum h e it i old)/\h.IsListIter it a i) where
 mem:=by simp
 obj:=λi h st b hb=>by
  obtain ⟨⟨old,s1⟩,⟨o,e2,c,d⟩⟩:=st
  rcases ν.mp hb with rfl | hb
  ·exact ⟨_,s1,λv z=>by
    have z':Data.fields _=Fk v:=z
    cases z'⟩
  ·have e':b=it:=by simpa using hb
   subst e'
   exact ⟨o,e2,λv z=>by rw [d] at z; cases z⟩
 keep:=λi h h' st k=>⟨let ⟨old,s1⟩:=st.1; ⟨old,k e ∅ _ s1⟩,st.2.at λo q=>k it ∅ o q⟩
 item:=by
  intro X hP hw hK hc i pins s σ H E I hf st hg
  subst hP hw hK
  obtain ⟨xs,x,hq,hx⟩:=hg
  obtain ⟨its,rv,p,hz⟩:=I.list hq
  obtain ⟨u,hu,ru⟩:=rv.get hx
  obtain ⟨f0,f1,f2,f3,f4,f5⟩:=hf e ∅
  obtain ⟨g0,g1,g2,g3,g4,g5⟩:=hf it ∅
  obtain ⟨⟨old,s1⟩,s2⟩:=st
  have he:e < s.heap.objs.size:=χ s1
  have hit:it < s.heap.objs.size:=by obtain ⟨o,q,_⟩:=s2; exact χ q
  refine wpAny_pyNext_enum_item s1 s2 p.isList (x:=u) (by simpa using hu) hei λh1 heo hit1 ht1 hz1 hk1=>?_
  refine ⟨_,rfl,wpAny_letOwnedTupleGo_enum heo λh2 he2 hs2=>?_⟩
  have hn:H s.heap.objs.size=none:=I.hok.fresh (π _)
  have keep:∀ b o,b≠e->b≠it->s.heap.get? b=some o->h2.get? b=some o:=λb o h1' h2' q=>(hs2.2 b h1').trans (hk1 b o h1' h2' q)
  have tup:h2.get? s.heap.objs.size=some { cls:=.type "tuple",data:=.seq #[.int i s.toks,u] }:=(hs2.2 _ (ngt he)).trans ht1
  have I2:Inv X pins σ (upd H s.heap.objs.size (.tup [.int i,x])) { s with heap:=h2,toks:=s.toks + 1 }:=by
   have nitx:∀ b v,H b=some v->b≠e/\b≠it:=λb v q=>⟨(λz=>by rw [z,f0] at q; cases q),(λz=>by rw [z,g0] at q; cases q)⟩
   refine I.step (g':=s.gens) (d':=s.drawn) (ch:=[e,it]) (λb hb=>?_) (λb o _ _ hc' q _=>keep b o (λz=>hc' (by simp [z])) (λz=>hc' (by simp [z])) q) (λb o _ _ hc' q _=>⟨o.slots,keep b o (λz=>hc' (by simp [z])) (λz=>hc' (by simp [z])) q⟩)
    (λb o _ q n=>by rw [ah (nlt (χ q))]; exact n) (λb o hc' q=>⟨o,keep b o (λz=>hc' (by simp [z])) (λz=>hc' (by simp [z])) q⟩)
    (λb xs q=>by rw [ah (ag q hn)]; exact q) (λb o v q=>by rw [ah (ag q hn)]; exact q) (λb ps q=>⟨#[],by rw [ah (ag q hn),q]; simp⟩) (λm hm=>?_) (λb v q=>?_) I.bare
   ·rcases ν.mp hb with rfl | hb
    ·exact ⟨f3,f1,f4,f5⟩
    ·have e':b=it:=by simpa using hb
     subst e'
     exact ⟨g3,g1,g4,g5⟩
   ·obtain ⟨o,es,ep,ho,r⟩:=hm
    exact ⟨o,es,ep,keep _ o (ώ f1) (ώ g1) ho,r⟩
   ·by_cases hb:b=s.heap.objs.size
    ·subst hb
     rw [aa] at q
     cases q
     exact ⟨(show 2<=sizeLine by rw [υ]; decide),[.int i s.toks,u],.cons ⟨_,rfl⟩ (.cons ru .nil),⟨_,tup,rfl,0,rfl⟩,_,tup,rfl⟩
    ·rw [ah hb] at q
     refine (I.hok b v q).stay (λc w' hc' q'=>?_) (λc q'=>by rw [ah (ag q' hn)]; exact q') λc xs q'=>by rw [ah (ag q' hn)]; exact q'
     rcases hc' with z | z
     ·subst z; exact keep c w' (nitx c v q).1 (nitx c v q).2 q'
     ·exact keep c w' (nitx c _ z).1 (nitx c _ z).2 q'
  refine ⟨.ref s.heap.objs.size,_,I2,rfl,⟨_,x,hn,rfl,rfl,λys hy=>by rw [I.list_inj hy hq]; exact hx⟩,⟨⟨u,?_⟩,?_⟩,λb hb=>?_⟩
  ·have e1:((i + 1:Nat):Int)=(i:Int) + 1:=by omega
   rw [e1]
   exact he2
  ·exact hit1.at λo q=>(hs2.2 _ (ώ hei)).trans q
  ·have hb':b < s.heap.objs.size:=by
    rcases ν.mp hb with rfl | hb
    ·exact he
    ·have e':b=it:=by simpa using hb
     subst e'; exact hit
   rw [ah (nlt hb')]
   exact (hf b hb).1
 done:=by
  intro X hP hw hK hc i pins s σ H E I hf st hg
  subst hP hw hK
  obtain ⟨xs,hq,hx⟩:=hg
  obtain ⟨its,rv,p,hz⟩:=I.list hq
  obtain ⟨g0,g1,g2,g3,g4,g5⟩:=hf it ∅
  obtain ⟨⟨old,s1⟩,s2⟩:=st
  have hl:=rv.length
  exact wpAny_pyNext_enum_end (I.ok.hd hc) s1 s2 p.isList (by simp; omega) λh' eb=>⟨rfl,I.turned (t':=s.toks) (λb o hb q=>eb b o hb q) g0 g1 g3 g4 g5⟩
 self:=λA i s Q E st h=>by
  obtain ⟨⟨old,s1⟩,s2⟩:=st
  have hT:s.TypeIs (.ref e) "enumerate":=⟨_,s1,rfl⟩
  refine wpAny_pyIter_slot hT DT (ϙ DT hT PySem.F.entry_enumerate_iter ?_ (PySem.F.args_enumerate_iter_1 _))
  show wpAny _ _ (ret (.ref e)) _ _ s
  exact μ ⟨_,rfl,"enumerate",_,hT,PySem.F.slot_enumerate_next.lookup,h⟩
def AH (K:ι) (ta:TA):TI:=λσ H R=>ta σ H λvs H1=>∃ a,vs=[.ref a]/\(∃ xs,SqL K H1 a xs)/\R (Ite K a) H1
theorem pi_enum {a:Expr} {ta:TA} {p pos:Pos} {elts:List Expr} {x1} {tp:Pos} (hg:Gl X "enumerate") (hm:X.mg "enumerate"=none) (ha:PA X [a] ta) (hs:starEach [a] X.env=[(false,eval a X.env)]:=by rfl):PI X (.Tuple elts x1 tp) (.Call (.Name "enumerate" p) [a] [] pos) (AH X.K ta):=by
 intro pins s σ H R I h
 refine Call_ (cy I hg hm (u:=.type "enumerate") ∅ (a9 (thn (ha pos pins s σ H _ I h) λus s1 ⟨vs,H1,I1,r1,q1⟩=>?_) hs rfl))
 obtain ⟨l,e,⟨xs,hq⟩,q⟩:=q1
 subst e
 cases r1 with
 | cons r rr=>
  cases rr
  cases r
  obtain ⟨its,rv,p,hz⟩:=I1.list hq
  refine call_enumerate_list p.isList λh' he hit hsz kp=>?_
  have I2:Inv X pins σ H1 { s1 with heap:=h' }:=I1.kept (t':=s1.toks) kp
  have T:jh X.prog X.w X.K (.Tuple elts x1 tp) (Ite X.K l) [s1.heap.objs.size + 1,s1.heap.objs.size] (s1.heap.objs.size + 1) (λi h=>(∃ old,IsEnum h (s1.heap.objs.size + 1) s1.heap.objs.size i old)/\h.IsListIter s1.heap.objs.size l i):=rZ l _ _ (AU _)
  refine T.self X.A 0 { s1 with heap:=h' } _ _ ⟨⟨_,he⟩,hit⟩ ?_
  refine ⟨s1.heap.objs.size + 1,_,_,_,H1,rfl,I2,T,⟨⟨_,he⟩,hit⟩,λb hb=>?_,q⟩
  have hb':s1.heap.objs.size<=b:=by
   rcases ν.mp hb with rfl | hb
   ·exact t_ _
   ·have e':b=s1.heap.objs.size:=by simpa using hb
    subst e'; exact π _
  obtain ⟨f0,f1⟩:=I1.fpOk hb' (I1.hok.fresh hb')
  exact ⟨f0,f1⟩
end
section
variable {X:Cx}
theorem gg:OpR X (compareOp .LtE) (λx y H Q=>∃ i j,x=.str i/\y=.str j/\Q (.bl (!decide (j.cps.toList < i.cps.toList))) H):=by
 intro pins s σ H x y v u Q I rx ry h
 obtain ⟨i,j,rfl,rfl,q⟩:=h
 obtain ⟨t,rfl⟩:=rx
 obtain ⟨t',rfl⟩:=ry
 exact PySem.P.le_str (aH I q rfl)
theorem cO:OpR X (binaryOp .Mult) (λx y H Q=>∃ i n,x=.str i/\y=.int n/\i.length<=1000/\0<=n/\n<=1000/\Q (.str (Txt.mul i n)) H):=by
 intro pins s σ H x y v u Q I rx ry h
 obtain ⟨i,n,rfl,rfl,h1,h2,h3,q⟩:=h
 obtain ⟨t,rfl⟩:=rx
 obtain ⟨t',rfl⟩:=ry
 exact SB.mul (PyProof.Rows.mulOk_of 1000 1000 h1 ∅ ∅ ∅ ∅) λt' k=>⟨.str _,H,I.tok _,⟨_,rfl⟩,q⟩
theorem fR {s:ζ} {h':Heap} {o:Obj} (hk:∀ b x,b∉[s.heap.objs.size]->(s.heap.push o).get? b=some x->h'.get? b=some x) (b:Addr) (x:Obj) (e:s.heap.get? b=some x):h'.get? b=some x:=
 hk b x (λz=>by rw [θ.mp z] at e; exact y6 _ (χ e)) (η _ e)
theorem jc:∀ {bs:List Bool} {us:List δ},ar (bs.map V.bl) us->∀ (i:Nat) (v:δ),us[i]?=some v->∃ b,bs[i]?=some b/\v=.bool b
 | [],_,.nil,i,v,e=>by simp at e
 | b :: bs,u :: us,.cons r t,0,v,e=>by
  have e':u=v:=by simpa using e
  subst e'
  exact ⟨b,rfl,r⟩
 | b :: bs,u :: us,.cons r t,i + 1,v,e=>jc (bs:=bs) t i v (by simpa using e)
theorem fF (hc:X.calm=true):bE X (.builtin "all") (λxs H Q=>∃ (a:Addr) (bs:List Bool),xs=[.ref a]/\SqL X.K H a (bs.map V.bl)/\Q (.bl (bs.all id)) H):=by
 intro pins s σ H xs us Q I r h
 obtain ⟨a,bs,rfl,hq,q⟩:=h
 obtain ⟨u,rfl,ru⟩:=cj r
 cases ru
 obtain ⟨its,rv,p,hz⟩:=I.list hq
 have hl:=p.isList
 have hlt:a < s.heap.objs.size:=by obtain ⟨_,e,_⟩:=hl; exact χ e
 refine call_all_walk (C2 hl ?_)
 refine ⟨s.heap.objs.size,[s.heap.objs.size,a],[s.heap.objs.size],its.toArray.size,_,_,λi=>(bs[i]?).getD true,rfl,Ft.list (A:=X.A.in1) (I.ok.hd hc) _ a (Ρ hlt) its.toArray,
  ⟨⟨_,τ _ rfl,rfl,rfl⟩,hl.push _⟩,λi v s' Q' E' hP hQ=>?_,λh' tk hk=>?_⟩
 ·obtain ⟨b,e,rfl⟩:=jc rv i v (by simpa using hP)
  simp only [e,Option.getD_some] at hQ
  exact e_ hQ
 ·have hlen:=rv.length
  have e:((Φ its.toArray.size).all λi=>(bs[i]?).getD true)=bs.all id:=by
   rw [ς,<- hlen,ε,s_,ϵ,ϵ]
   constructor
   ·intro z b hb
    obtain ⟨i,hi,rfl⟩:=r9 hb
    have:=z i (ϸ.mpr hi)
    simpa [hi] using this
   ·intro z i hi
    have hi':=ϸ.mp hi
    rw [Ζ hi']
    exact z _ (j9 hi')
  rw [e]
  exact ⟨.bl _,H,I.kept (fR hk),rfl,q⟩
theorem bb:bE X (.builtin "isinstance") (λxs H Q=>∃ x t n b,xs=[x,.ty n]/\fh X.K H x t/\i7 X.K t (.type n)=some b/\Q (.bl b) H):=by
 intro pins s σ H xs us Q I r h
 obtain ⟨x,t,n,b,rfl,ty,e,q⟩:=h
 obtain ⟨u,w',rfl,rx,rn⟩:=qW r
 cases rn
 exact tu I rx ty e λtk=>⟨.bl b,H,I.tok tk,rfl,q⟩
theorem fS:∀ {ys:List Str} {us:List δ},ar (ys.map V.str) us->StrsAre us ys
 | [],_,.nil=>.nil
 | y :: ys,u :: us,.cons r t=>by
  obtain ⟨k,rfl⟩:=r
  exact .cons y k (fS t)
theorem tR:SlR X (λx lo hi H Q=>∃ z,x=.str z/\z.length<=sizeLine/\Q (.str (Txt.slice z lo hi)) H):=by
 intro pins s σ H x v vl vu lo hi sl Q I rx hs pl pu h
 obtain ⟨z,rfl,hz,q⟩:=h
 obtain ⟨t,rfl⟩:=rx
 refine ⟨"str",_,slot_str_getitem.lookup,typeIs_str _ _ _,?_⟩
 have fin:(Txt.slice z lo hi).length<=sizeLine/\∀ t' k,EP X pins σ Q (.str (Txt.slice z lo hi) t') { s with toks:=k }:=⟨ϟ (Txt.slice_le z _ _) hz,λt' k=>⟨.str _,H,I.tok _,⟨_,rfl⟩,q⟩⟩
 cases pl with
 | none=>
  cases pu with
  | none=>exact B5 (l:=none) (u:=none) (st:=none) hs rfl (DI fin)
  | int j uj=>exact B5 (l:=none) (u:=some (j,uj)) (st:=none) hs rfl (DI fin)
 | int i ui=>
  cases pu with
  | none=>exact B5 (l:=some (i,ui)) (u:=none) (st:=none) hs rfl (DI fin)
  | int j uj=>exact B5 (l:=some (i,ui)) (u:=some (j,uj)) (st:=none) hs rfl (DI fin)
end
open PySem PySem.Spec PyProof.Rows PySem.W
section
variable {cmp:Nat->Nat->(Bool->ζ->Prop)->ζ->Prop} {lt:Nat->Nat->Bool} {n:Nat} {s:ζ}
structure Ord (cmp:Nat->Nat->(Bool->ζ->Prop)->ζ->Prop) (lt:Nat->Nat->Bool) (n:Nat) (s:ζ):Prop where
 ask:∀ i j C,i < n->j < n->i≠j->C (lt i j) s->cmp i j C s
 tr:∀ i j k,lt i j=true->lt j k=true->lt i k=true
 tot:∀ i j,i < n->j < n->i≠j->lt i j=false->lt j i=true
 asym:∀ i j,lt i j=true->lt j i=false
structure Re (n:Nat) (p:Array Nat):Prop where
 size:p.size=n
 lt:∀ i,i < n->p.getD i 0 < n
 inj:∀ i j,i < n->j < n->i≠j->p.getD i 0≠p.getD j 0
 perm:p.Perm (List.toArray (Φ n))
theorem Re.of_perm {p:Array Nat} (h:p.Perm (List.toArray (Φ n))):Re n p:=by
 have hs:p.size=n:=by have:=h.size_eq; simpa using this
 have hl:p.toList.Perm (Φ n):=by simpa using p_.mp h
 have nd:p.toList.Nodup:=(Fm.nodup_iff hl).mpr List.nodup_range
 have get:∀ i,(hi:i < n)->p.getD i 0=p.toList[i]'(by simpa [hs] using hi):=λi hi=>by
  simp [Eg,hs,hi]
 refine ⟨hs,λi hi=>?_,λi j hi hj hij e=>?_,h⟩
 ·have hm:p.getD i 0∈p.toList:=by rw [get i hi]; exact j9 _
  exact ϸ.mp ((C7 hl).mp hm)
 ·rw [get i hi,get j hj] at e
  exact hij ((B4 nd).mp e)
def Up (lt:Nat->Nat->Bool) (p:Array Nat) (m:Nat):Prop:=∀ i j,i < j->j < m->lt (p.getD i 0) (p.getD j 0)=true
def Dn (lt:Nat->Nat->Bool) (p:Array Nat) (m:Nat):Prop:=∀ i j,i < j->j < m->lt (p.getD j 0) (p.getD i 0)=true
theorem Up.next {p:Array Nat} {m:Nat} (O:Ord cmp lt n s) (h:Up lt p m) (h1:1<=m) (hq:lt (p.getD (m - 1) 0) (p.getD m 0)=true):Up lt p (m + 1):=λi j hij hj=>by
 by_cases e:j=m
 ·subst e
  by_cases e2:i=j - 1
  ·subst e2; exact hq
  ·exact O.tr _ _ _ (h i (j - 1) ∅ ∅) hq
 ·exact h i j hij ∅
theorem Dn.next {p:Array Nat} {m:Nat} (O:Ord cmp lt n s) (h:Dn lt p m) (h1:1<=m) (hq:lt (p.getD m 0) (p.getD (m - 1) 0)=true):Dn lt p (m + 1):=λi j hij hj=>by
 by_cases e:j=m
 ·subst e
  by_cases e2:i=j - 1
  ·subst e2; exact hq
  ·exact O.tr _ _ _ hq (h i (j - 1) ∅ ∅)
 ·exact h i j hij ∅
theorem pC {p:Array Nat} {Q:Nat->ζ->Prop} (O:Ord cmp lt n s) (r:Re n p):∀ (f m:Nat),1<=m->m + f<=n->Up lt p m->(∀ m',m<=m'->m'<=m + f->Up lt p m'->(m'=m + f\/lt (p.getD m' 0) (p.getD (m' - 1) 0)=true)->Q m' s)->(kas_asc p f m).kasWp cmp Q s
 | 0,m,h1,hm,u,q=>q m (π _) (π _) u (.inl rfl)
 | f + 1,m,h1,hm,u,q=>by
  show cmp _ _ _ s
  refine O.ask _ _ _ (r.lt m ∅) (r.lt (m - 1) ∅) (r.inj _ _ ∅ ∅ ∅) ?_
  cases c:lt (p.getD m 0) (p.getD (m - 1) 0) with
  | true=>
   show (Fu m).kasWp cmp Q s
   exact q m (π _) ∅ u (.inr c)
  | false=>
   show (kas_asc p f (m + 1)).kasWp cmp Q s
   have hq:=O.tot _ _ (r.lt m ∅) (r.lt (m - 1) ∅) (r.inj _ _ ∅ ∅ ∅) c
   refine pC O r f (m + 1) ∅ ∅ (u.next O h1 hq) λm' a b c d=>q m' ∅ ∅ c ?_
   rcases d with d | d
   ·exact .inl ∅
   ·exact .inr d
theorem qC {p:Array Nat} {Q:Array Nat×Nat×Nat->ζ->Prop} (O:Ord cmp lt n s) (r:Re n p):∀ (f m:Nat),1<=m->m + f<=n->Dn lt p m->(∀ m',m<=m'->m'<=m + f->Dn lt p m'->Q (p,m',0) s)->(kas_desc f p m 0).kasWp cmp Q s
 | 0,m,h1,hm,u,q=>q m (π _) (π _) u
 | f + 1,m,h1,hm,u,q=>by
  show cmp _ _ _ s
  refine O.ask _ _ _ (r.lt m ∅) (r.lt (m - 1) ∅) (r.inj _ _ ∅ ∅ ∅) ?_
  cases c:lt (p.getD m 0) (p.getD (m - 1) 0) with
  | true=>
   show (kas_desc f p (m + 1) 0).kasWp cmp Q s
   exact qC O r f (m + 1) ∅ ∅ (u.next O h1 c) λm' a b c=>q m' ∅ ∅ c
  | false=>
   show cmp _ _ _ s
   refine O.ask _ _ _ (r.lt (m - 1) ∅) (r.lt m ∅) (r.inj _ _ ∅ ∅ ∅) ?_
   rw [O.tot _ _ (r.lt m ∅) (r.lt (m - 1) ∅) (r.inj _ _ ∅ ∅ ∅) c]
   show (Fu (p,m,0)).kasWp cmp Q s
   exact q m (π _) ∅ u
theorem qI {p:Array Nat} {m k:Nat} (hm:m<=p.size):(Fv p 0 m).getD k 0=if k < m then p.getD (m - 1 - k) 0 else p.getD k 0:=by
 have h:=getElem?_mirror_all (xs:=p) (i:=0) (j:=m) hm k
 have e1:∀ (a:Array Nat) (i:Nat),a.getD i 0=(a[i]?).getD 0:=λa i=>by rw [Cn]
 rw [e1]
 unfold Fv
 rw [h]
 by_cases hk:k < m
 ·rw [if_pos hk]
  simp only [e1]
  rw [if_pos ∅]
  congr 2
  omega
 ·rw [if_neg hk]
  simp only [e1]
  rw [if_neg ∅]
theorem vG {p:Array Nat} {m:Nat} (r:Re n p):Re n (Fv p 0 m):=Re.of_perm ((mirror_perm p 0 m _).trans r.perm)
theorem tX {Q:Nat×Array Nat->ζ->Prop} {p:Array Nat} (O:Ord cmp lt n s) (r:Re n p) (h2:2<=n) (q:∀ m p',Re n p'->1<=m->m<=n->Up lt p' m->Q (m,p') s):(kas_count n p).kasWp cmp Q s:=by
 unfold kas_count
 rw [m6]
 refine pC O r (n - 1) 1 (π _) ∅ (λi j h1 h2=>by omega) λm a b u e=>?_
 by_cases hm:(m == n)=true
 ·rw [if_pos hm]
  exact q m p r a ∅ u
 ·rw [if_neg hm]
  have hmn:m≠n:=by simpa using hm
  by_cases h1:m > 1
  ·rw [if_pos h1]
   show cmp _ _ _ s
   refine O.ask _ _ _ (r.lt 0 ∅) (r.lt (m - 1) ∅) (r.inj _ _ ∅ ∅ ∅) ?_
   rw [u 0 (m - 1) ∅ ∅]
   show (Fu (m,p)).kasWp cmp Q s
   exact q m p r a ∅ u
  ·rw [if_neg h1]
   have e1:m=1:=by omega
   subst e1
   have hd:lt (p.getD 1 0) (p.getD 0 0)=true:=by
    rcases e with e | e
    ·omega
    ·exact e
   unfold kas_descPart
   rw [m6]
   refine qC O r (n - (1 + 1)) (1 + 1) ∅ ∅ (λi j h1 h2=>?_) λm' a' b' dn=>?_
   ·have:i=0:=by omega
    have:j=1:=by omega
    subst_vars
    exact hd
   ·show (if (0:Nat) > 0 then _ else EO m' n p).kasWp cmp Q s
    rw [if_neg ∅]
    unfold EO
    rw [m6]
    have up:Up lt (Fv p 0 m') m':=λi j hij hj=>by
     rw [qI (by rw [r.size]; omega),qI (by rw [r.size]; omega),if_pos ∅,if_pos ∅]
     exact dn _ _ ∅ ∅
    refine pC O (vG r) (n - m') m' ∅ ∅ up λm2 a2 b2 u2 _=>?_
    exact q m2 _ (vG r) ∅ ∅ u2
theorem iH {p:Array Nat} {k:Nat} {Q:Nat->ζ->Prop} (O:Ord cmp lt n s) (r:Re n p) (hk:k < n) (u:Up lt p k) (q:∀ l,l<=k->(∀ i,i < l->lt (p.getD i 0) (p.getD k 0)=true)->(∀ i,l<=i->i < k->lt (p.getD k 0) (p.getD i 0)=true)->Q l s) :
  ∀ (f l e:Nat),l<=e->e<=k->e - l<=f->(∀ i,i < l->lt (p.getD i 0) (p.getD k 0)=true)->(∀ i,e<=i->i < k->lt (p.getD k 0) (p.getD i 0)=true)->(EQ p k f l e).kasWp cmp Q s
 | 0,l,e,h1,h2,h3,a,b=>q l ∅ a λi hi hk'=>b i ∅ hk'
 | f + 1,l,e,h1,h2,h3,a,b=>by
  show (if l>=e then Fu l else _).kasWp cmp Q s
  by_cases h:l>=e
  ·rw [if_pos h]
   exact q l ∅ a λi hi hk'=>b i ∅ hk'
  ·rw [if_neg h]
   show cmp _ _ _ s
   have hm:(l + e) / 2 < k:=by omega
   refine O.ask _ _ _ (r.lt k hk) (r.lt _ ∅) (r.inj _ _ hk ∅ ∅) ?_
   cases c:lt (p.getD k 0) (p.getD ((l + e) / 2) 0) with
   | true=>
    show (EQ p k f l ((l + e) / 2)).kasWp cmp Q s
    refine iH O r hk u q f l _ ∅ ∅ ∅ a λi hi hk'=>?_
    by_cases ei:i=(l + e) / 2
    ·subst ei; exact c
    ·exact O.tr _ _ _ c (u _ i ∅ hk')
   | false=>
    show (EQ p k f ((l + e) / 2 + 1) e).kasWp cmp Q s
    have c':=O.tot _ _ (r.lt k hk) (r.lt _ ∅) (r.inj _ _ hk ∅ ∅) c
    refine iH O r hk u q f _ e ∅ h2 ∅ (λi hi=>?_) b
    by_cases ei:i=(l + e) / 2
    ·subst ei; exact c'
    ·exact O.tr _ _ _ (u i _ ∅ hm) c'
theorem qQ {p:Array Nat} {k d j:Nat} (hk:k < p.size) (hd:d<=k):(bubble p k d).getD j 0=if j < k - d\/k < j then p.getD j 0 else if j=k - d then p.getD k 0 else p.getD (j - 1) 0:=by
 have e1:∀ (a:Array Nat) (i:Nat),a.getD i 0=(a[i]?).getD 0:=λa i=>by rw [Cn]
 have h:=getElem?_bubble (xs:=p) (src:=k) hk d hd j
 rw [e1,h]
 by_cases a:j=k - d
 ·rw [if_pos a,if_neg ∅,if_pos a,e1]
 ·rw [if_neg a]
  by_cases b:k - d < j/\j<=k
  ·rw [if_pos b,if_neg ∅,if_neg a,e1]
  ·rw [if_neg b,if_pos ∅,e1]
theorem uR {Q:Array Nat->ζ->Prop} (O:Ord cmp lt n s) (q:∀ p,Re n p->Up lt p n->Q p s):∀ (f k:Nat) (p:Array Nat),Re n p->1<=k->k + f=n->Up lt p k->(Fw f p k).kasWp cmp Q s
 | 0,k,p,r,h1,hn,u=>q p r (by rw [<- hn]; exact u)
 | f + 1,k,p,r,h1,hn,u=>by
  show ((EQ p k k 0 k).bind λl=>Fw f (bubble p k (k - l)) (k + 1)).kasWp cmp Q s
  rw [m6]
  refine iH O r ∅ u (λl hl a b=>?_) k 0 k (Ω _) (π _) ∅ (λi hi=>by omega) (λi h1 h2=>by omega)
  have hks:k < p.size:=by rw [r.size]; omega
  refine uR O q f (k + 1) _ (Re.of_perm ((bubble_perm p k _).trans r.perm)) ∅ ∅ λi j hij hj=>?_
  rw [qQ hks ∅,qQ hks ∅]
  have ek:k - (k - l)=l:=by omega
  rw [ek]
  by_cases hi:i < l
  ·rw [if_pos (.inl hi)]
   by_cases hj2:j < l
   ·rw [if_pos (.inl hj2)]; exact u i j hij ∅
   ·rw [if_neg ∅]
    by_cases hj3:j=l
    ·rw [if_pos hj3]; exact a i hi
    ·rw [if_neg hj3]; exact u i (j - 1) ∅ ∅
  ·rw [if_neg ∅]
   by_cases hi2:i=l
   ·rw [if_pos hi2,if_neg ∅,if_neg ∅]
    exact b (j - 1) ∅ ∅
   ·rw [if_neg hi2,if_neg ∅,if_neg ∅]
    exact u (i - 1) (j - 1) ∅ ∅
theorem qM {Q:Array Nat->ζ->Prop} (O:Ord cmp lt n s) (h2:2<=n) (q:∀ p,Re n p->Up lt p n->Q p s):(kas_sort n).kasWp cmp Q s:=by
 unfold kas_sort
 rw [m6]
 refine tX O (Re.of_perm (Array.Perm.refl _)) h2 λm p r h1 hm u=>?_
 show (if m < n then Fw (n - max m 1) p (max m 1) else .ret p).kasWp cmp Q s
 have em:max m 1=m:=by omega
 rw [em]
 by_cases h:m < n
 ·rw [if_pos h]
  exact uR O q (n - m) m p r h1 ∅ u
 ·rw [if_neg h]
  have:m=n:=by omega
  subst this
  exact q p r u
end
theorem cw {prog:Β} {w:Ν} {A:Χ} {E:δ->ζ->Prop} {st:ζ} {l:Addr} {us:List δ} {ep:Nat} {R:PySem.Fin->ζ->Prop} (at0:st.heap.get? l=some (seqObj "list" us.toArray ep)) (few:us.length < 2)
  (fin:∀ hp ep',(∀ b o,b≠l->st.heap.get? b=some o->hp.get? b=some o)->hp.get? l=some (seqObj "list" us.toArray ep')->R (.done (.ret .none)) { st with heap:=hp }) :
  wpAny (model prog w) A (Ϡ.«list.sort» ⟨[.ref l],[]⟩) R E st:=by
 have sz:us.toArray.size=us.length:=by simp
 have lt0:l < st.heap.objs.size:=χ at0
 have line:us.length<=sizeLine:=by rw [υ]; omega
 rw [list_sort_plain]
 refine γ (listItems_at at0 rfl (γ (listUpdate_at at0 rfl ?_ (by rw [sz]; exact line) (Ω _))))
 have at1:=E7 at0 (λ_=>(#[]:Array δ))
 refine γ (seqEpoch_at at1 rfl (γ (Fc ?_ (by show us.length<=_; exact line))))
 refine γ (Dy ?_ (Ω _))
 refine ϻ ?_
 rw [if_pos (by rw [sz]; exact few),if_pos (by rw [sz]; exact few)]
 show wpAny (model prog w) A _ R E { st with heap:=((st.heap.update l (i5 λ_=>(#[]:Array δ))).push (seqObj "tuple" us.toArray 0)).push (seqObj "list" #[] 0) }
 have at2:(((st.heap.update l (i5 λ_=>(#[]:Array δ))).push (seqObj "tuple" us.toArray 0)).push (seqObj "list" #[] 0)).get? l=some (seqObj "list" #[] (if ((#[]:Array δ).size == us.toArray.size)=true then ep else ep + 1)):=by
  rw [Co _ _ _ (by rw [size_push',Ds]; exact pV lt0),Co _ _ _ (by rw [Ds]; exact nlt lt0)]
  exact at1
 have all:(arrOf (SortSt.mk' general' (us.toArray.zip us.toArray) #[] 7 none)).map (·.2)=us.toArray:=by
  show (us.toArray.zip us.toArray).map (·.2)=us.toArray
  apply Array.ext'
  simp [List.map_snd_zip]
 have at3:=E7 at2 (λ_=>us.toArray)
 refine γ (μ ?_)
 dsimp only
 rw [StateT.run_pure]
 refine γ (μ ?_)
 dsimp only
 refine γ (seqEpoch_at at2 rfl ?_)
 refine γ (listUpdate_at at2 rfl ?_ (Ω _) (by rw [all,sz]; omega))
 simp only [bne_self_eq_false,y_,if_false]
 rw [all]
 refine μ (fin _ _ (λb o hb e=>?_) at3)
 rw [DP _ _ _ _ hb,Co _ _ _ (by rw [size_push',Ds]; exact pV (χ e)),Co _ _ _ (by rw [Ds]; exact nlt (χ e)),DP _ _ _ _ hb]
 exact e
theorem zD {h:Heap} {a:Addr} {m m':Str->Option δ} (x:h.Ns a m) (y:h.Ns a m'):m=m':=by
 obtain ⟨o,es,ep,e,d,_,f⟩:=x
 obtain ⟨o',es',ep',e',d',_,f'⟩:=y
 rw [e] at e'
 cases e'
 rw [d] at d'
 cases d'
 funext z
 rw [<- f z,f' z]
theorem qS {a b:List Nat} (h:¬ a < b) (h2:a≠b):b < a:=by
 by_cases h3:b < a
 ·exact h3
 ·exact absurd (List.le_antisymm (List.not_lt.mp h3) (List.not_lt.mp h)) h2
theorem rC {a b:Str} (h:a.cps.toList=b.cps.toList):a=b:=by
 cases a
 cases b
 congr 1
 exact Array.ext' h
section
variable {X:Cx} {pins:List (Addr×Obj)} {σ:St} {H:Hp} {s:ζ}
abbrev TK:=Addr×Str×List V
def tM (p q:TK):Prop:=p.2.1.cps.toList < q.2.1.cps.toList
theorem xh (ps:List TK):∀ (us:List δ),ar (ps.map λp=>V.ref p.1) us->us=ps.map λp=>Η p.1:=by
 induction ps with
 | nil=>
  intro us r
  cases r
  rfl
 | cons p ps ih=>
  intro us r
  rw [Υ] at r ⊢
  cases r with
  | cons r t=>
   rw [ih _ t,show _=Η p.1 from r]
theorem gC (ps:List TK):ar (ps.map λp=>V.ref p.1) (ps.map λp=>Η p.1):=by
 induction ps with
 | nil=>exact .nil
 | cons p ps ih=>exact .cons rfl ih
theorem uF (I:Inv X pins σ H s) {a:Addr} {x:Str} {r:List V} (h:H a=some (.tup (.str x :: r))):∃ (o:Obj) (us:List δ) (n:Nat) (t:Tok),s.heap.get? a=some o/\o.cls=.type "tuple"/\o.data=.seq (i4 x t :: us).toArray n:=by
 obtain ⟨_,its,rv,⟨o,e,c,n,d⟩,_⟩:=(show aI X.prog X.w H s.heap a (.tup (.str x :: r)) from I.hok a _ h)
 cases rv with
 | cons r1 r2=>
  obtain ⟨t,rfl⟩:=r1
  exact ⟨o,_,n,t,e,c,d⟩
theorem gs {n:Nat} {p:Array Nat} {α:Type} {d:α} {ps:List α} (hn:ps.length=n) (r:Re n p):(p.toList.map λi=>ps.getD i d).Perm ps:=by
 have hl:p.toList.Perm (Φ n):=by simpa using p_.mp r.perm
 refine (hl.map _).trans ?_
 have e:(Φ n).map (λi=>ps.getD i d)=ps:=by
  apply C8
  intro i
  rw [Ψ]
  by_cases hi:i < n
  ·rw [DQ hi]
   simp [u9,show i < ps.length by omega]
  ·rw [b_ (by simpa using hi),b_ ∅]
   rfl
 rw [e]
theorem eB {n:Nat} {p:Array Nat} {α:Type} {d:α} {ps:List α} {R:α->α->Prop} {lt:Nat->Nat->Bool} (hlt:∀ i j,i < n->j < n->lt i j=true->R (ps.getD i d) (ps.getD j d)) (r:Re n p) (u:Up lt p n):(p.toList.map λi=>ps.getD i d).Pairwise R:=by
 rw [List.pairwise_iff_getElem]
 intro i j hi hj hij
 rw [ε,ϗ,r.size] at hi hj
 have get:∀ k (hk:k < n) h,(p.toList.map λi=>ps.getD i d)[k]'h=ps.getD (p.getD k 0) d:=λk hk h=>by
  rw [List.getElem_map]
  congr 1
  simp [Eg,r.size,hk]
 rw [get i hi,get j hj]
 exact hlt _ _ (r.lt i hi) (r.lt j hj) (u i j hij hj)
end
open PySem PySem.Spec PyProof.Rows
def AD (N:List Str) (sc scope:C1) (ix:List Nat):Bool:=
 decide (scope.kind=.function) && scope.names.all (λy=>decide (y.2≠.cell)) && scope.names.all (λy=>decide (y.2=.local->scope.names.lookup y.1=some .local)) &&
 scope.names.all (λy=>decide (y.2=.free->sc.names.lookup y.1=some .cell\/sc.names.lookup y.1=some .free)) &&
 ix.all (λj=>decide (j < N.length) && match N[j]? with | some x=>scope.names.any (λy=>decide (y.1=x) && decide (y.2=.free)) && decide (scope.names.lookup x=some .free) | none=>false)
theorem cn.of {N:List Str} {sc scope:C1} {own:List Str} {ix:List Nat} (h:AD N sc scope ix=true):cn N sc scope own ix:=by
 unfold AD at h
 simp only [Ε,decide_eq_true_eq,ϵ] at h
 obtain ⟨⟨⟨⟨h1,h2⟩,h3⟩,h4⟩,h5⟩:=h
 refine ⟨h1,h2,h3,h4,λj hj x hx=>?_,λj hj=>(h5 j hj).1⟩
 have:=(h5 j hj).2
 rw [hx] at this
 simp only [Ε,decide_eq_true_eq,j_] at this
 obtain ⟨⟨⟨n,k⟩,hy,e1,e2⟩,e3⟩:=this
 have e1':n=x:=e1
 have e2':k=.free:=e2
 subst e1' e2'
 exact ⟨hy,e3⟩
theorem bB {l N:List Str} (h:l.Nodup) (e:N=l):N.Nodup:=by rw [e]; exact h
structure Def (P:Β) (w:Ν) (K:ι) (mg:Str->Option δ) (base:Heap) (k:Nat) (x:Str) (ps:List Str) (sp:Sp):Prop where
 ex:∃ f fd,aF P w K mg base CX0 k f fd ps sp/\bx K fd ps []/\l7 K (.ref f)=true/\mg x=some (.ref f)
theorem Def.up {P:Β} {w:Ν} {K:ι} {mg:Str->Option δ} {base:Heap} {j k:Nat} {x:Str} {ps:List Str} {sp:Sp} (d:Def P w K mg base j x ps sp) (h:j<=k):Def P w K mg base k x ps sp:=
 let ⟨f,fd,F,b,kp,m⟩:=d.ex
 ⟨f,fd,F.mono h,b,kp,m⟩
theorem pe_def {X:Cx} {k:Nat} {x:Str} {ps:List Str} {sp:Sp} {p pos:Pos} {e:Expr} {es:List Expr} {t:TA} (d:Def X.prog X.w X.K X.mg X.base k x ps sp) (hr:bz k X.A) (hg:Gl X x) (ha:PA X (e :: es) t) (hdb:(x == ("__debug__" : Str))=false:=by decide)
  (he:starEach (e :: es) X.env=(false,eval e X.env) :: starEach es X.env:=by rfl) (hpl:(backTo pos (starEach es X.env)).any (·.1)=false:=by rfl):PE X (.Call (.Name x p) (e :: es) [] pos) (uk sp [] E0 t):=by
 obtain ⟨f,fd,F,b,kp,m⟩:=d.ex
 exact qE F hr hg m kp b .nil yq ha hdb he hpl
inductive Dv where
 | non | bl (b:Bool) | int (i:Int) | str (x:Str) | tup (xs:List Dv) | lst (xs:List Dv) | dct
mutual
def Rep (H:Hp):Dv->V->Prop
 | .non,v=>v=.non
 | .bl b,v=>v=.bl b
 | .int i,v=>v=.int i
 | .str x,v=>v=.str x
 | .tup ds,v=>∃ a vs,v=.ref a/\H a=some (.tup vs)/\Reps H ds vs
 | .lst ds,v=>∃ a vs,v=.ref a/\H a=some (.lst vs)/\Reps H ds vs
 | .dct,v=>∃ a,v=.ref a/\H a=some (.dK [])
def Reps (H:Hp):List Dv->List V->Prop
 | [],vs=>vs=[]
 | d :: ds,vs=>∃ v r,vs=v :: r/\Rep H d v/\Reps H ds r
end
mutual
theorem Rep.mono {H H':Hp} (s:af H H'):∀ {d:Dv} {v:V},Rep H d v->Rep H' d v
 | .non,_,h=>by simpa only [Rep] using h
 | .bl b,_,h=>by simpa only [Rep] using h
 | .int i,_,h=>by simpa only [Rep] using h
 | .str x,_,h=>by simpa only [Rep] using h
 | .tup ds,_,h=>by
  simp only [Rep] at h ⊢
  obtain ⟨a,vs,e,h1,h2⟩:=h
  exact ⟨a,vs,e,s _ _ h1,Reps.mono s h2⟩
 | .lst ds,_,h=>by
  simp only [Rep] at h ⊢
  obtain ⟨a,vs,e,h1,h2⟩:=h
  exact ⟨a,vs,e,s _ _ h1,Reps.mono s h2⟩
 | .dct,_,h=>by
  simp only [Rep] at h ⊢
  obtain ⟨a,e,h1⟩:=h
  exact ⟨a,e,s _ _ h1⟩
theorem Reps.mono {H H':Hp} (s:af H H'):∀ {ds:List Dv} {vs:List V},Reps H ds vs->Reps H' ds vs
 | [],_,h=>by simpa only [Reps] using h
 | d :: ds,_,h=>by
  simp only [Reps] at h ⊢
  obtain ⟨v,r,e,h1,h2⟩:=h
  exact ⟨v,r,e,Rep.mono s h1,Reps.mono s h2⟩
end
theorem Reps.length {H:Hp}:∀ {ds:List Dv} {vs:List V},Reps H ds vs->vs.length=ds.length
 | [],_,h=>by simp only [Reps] at h; subst h; rfl
 | d :: ds,_,h=>by
  simp only [Reps] at h
  obtain ⟨v,r,e,h1,h2⟩:=h
  subst e
  rw [ό,ό,Reps.length h2]
theorem Reps.get {H:Hp}:∀ {ds:List Dv} {vs:List V},Reps H ds vs->∀ {i:Nat} {v:V},vs[i]?=some v->∃ d,ds[i]?=some d/\Rep H d v
 | [],_,h,i,v,e=>by simp only [Reps] at h; subst h; simp at e
 | d :: ds,_,h,i,v,e=>by
  simp only [Reps] at h
  obtain ⟨v',r,e',h1,h2⟩:=h
  subst e'
  cases i with
  | zero => exact ⟨d, rfl, by have : v' = v := by simpa using e
                              subst this; exact h1⟩
  | succ i=>obtain ⟨d',e1,e2⟩:=Reps.get h2 (i:=i) (v:=v) (by simpa using e); exact ⟨d',by simpa using e1,e2⟩
def Dv.tn:Dv->String
 | .non=>"NoneType" | .bl _=>"bool" | .int _=>"int" | .str _=>"str" | .tup _=>"tuple" | .lst _=>"list" | .dct=>"dict"
theorem Rep.ty {K:ι} {H:Hp} {d:Dv} {v:V} (h:Rep H d v):fh K H v (.type d.tn):=by
 cases d with
 | non=>simp only [Rep] at h; subst h; exact .non
 | bl b=>simp only [Rep] at h; subst h; exact .bl b
 | int i=>simp only [Rep] at h; subst h; exact .int i
 | str x=>simp only [Rep] at h; subst h; exact .str x
 | tup ds=>simp only [Rep] at h; obtain ⟨a,vs,rfl,h1,_⟩:=h; exact .tup h1
 | lst ds=>simp only [Rep] at h; obtain ⟨a,vs,rfl,h1,_⟩:=h; exact .lst h1
 | dct=>simp only [Rep] at h; obtain ⟨a,rfl,h1⟩:=h; exact .dK h1
def isT (d:Dv) (n:String):Bool:=d.tn == n || (d.tn == "bool" && n == "int")
theorem wy (K:ι) (d:Dv):i7 K (.type d.tn) (.type "int")=some (isT d "int"):=by
 unfold i7 C9
 cases d <;> kernel_rfl
theorem nU (K:ι) (d:Dv):i7 K (.type d.tn) (.type "bool")=some (isT d "bool"):=by
 unfold i7 C9
 cases d <;> kernel_rfl
theorem kF (K:ι) (d:Dv):i7 K (.type d.tn) (.type "str")=some (isT d "str"):=by
 unfold i7 C9
 cases d <;> kernel_rfl
theorem bY (K:ι) (d:Dv):i7 K (.type d.tn) (.type "tuple")=some (isT d "tuple"):=by
 unfold i7 C9
 cases d <;> kernel_rfl
theorem tZ (K:ι) (d:Dv):i7 K (.type d.tn) (.type "list")=some (isT d "list"):=by
 unfold i7 C9
 cases d <;> kernel_rfl
section
variable {k:Nat} {ix:List Nat} {g:TG} {tt:TT} {te:TE} {σ:St} {H1:Hp} {Q:List V->Hp->Prop}
theorem pd {f F:Nat->V} {n:Nat} (hs:∀ i ys,i < n->ys.length=i->ca k ix g tt te σ (f i) ys H1 λys' H'=>ys'=ys ++ [F i]/\H'=H1) (hd:Q ((Φ n).map F) H1):rLC (Itf f n) k ix g tt te σ H1 Q:=by
 refine ⟨λi m ys H=>m=n - i/\i<=n/\H=H1/\ys=(Φ i).map F,⟨n,∅,Ω _,rfl,rfl⟩,?_⟩
 rintro i m ys H ⟨rfl,hi,rfl,rfl⟩
 by_cases hlt:i < n
 ·refine .inr ⟨hlt,λys' H'=>ys'=(Φ i).map F ++ [F i]/\H'=H,λys' H' ⟨e1,e2⟩=>⟨n - (i + 1),∅,rfl,hlt,e2,by rw [e1,CS,ω]; rfl⟩,λx H' y=>?_⟩
  obtain ⟨e,y⟩:=y
  subst e y
  exact hs i _ hlt ∅
 ·have e:i=n:=by omega
  subst e
  exact .inl ⟨rfl,hd⟩
theorem kt {F:Nat->V} {lo:Int} {n:Nat} (hs:∀ i ys,i < n->ys.length=i->ca k ix g tt te σ (.int (lo + i)) ys H1 λys' H'=>ys'=ys ++ [F i]/\H'=H1) (hd:Q ((Φ n).map F) H1):rLC (Itr lo n) k ix g tt te σ H1 Q:=by
 refine ⟨λi m ys H=>m=n - i/\i<=n/\H=H1/\ys=(Φ i).map F,⟨n,∅,Ω _,rfl,rfl⟩,?_⟩
 rintro i m ys H ⟨rfl,hi,rfl,rfl⟩
 by_cases hlt:i < n
 ·refine .inr ⟨hlt,λys' H'=>ys'=(Φ i).map F ++ [F i]/\H'=H,λys' H' ⟨e1,e2⟩=>⟨n - (i + 1),∅,rfl,hlt,e2,by rw [e1,CS,ω]; rfl⟩,λx H' y=>?_⟩
  obtain ⟨e,y⟩:=y
  subst e y
  exact hs i _ hlt ∅
 ·have e:i=n:=by omega
  subst e
  exact .inl ⟨π _,hd⟩
theorem bp {i:Nat} {x:V} {ys:List V} {H:Hp} {N:List V->Hp->Prop} (h:te ((bU k ix σ).set i (some x)) H λy H4=>ys.length < sizeLine/\N (ys ++ [y]) H4):ca k ix (cb i) zG te σ x ys H N:=by
 exact av (B:=N ys H) h
theorem iV {i j:Nat} {K:ι} {a:Addr} {x y:V} {ys:List V} {H:Hp} {N:List V->Hp->Prop} (ha:H a=some (.tup [x,y])) (h:te (((bU k ix σ).set i (some x)).set j (some y)) H λy H4=>ys.length < sizeLine/\N (ys ++ [y]) H4) :
  ca k ix (uL K 2 (el (cb i) (el (cb j) oj))) zG te σ (.ref a) ys H N:=by
 refine ⟨a,_,rfl,SqT.of ha,rfl,_,_,rfl,_,_,rfl,rfl,?_⟩
 exact av (B:=N ys H) h
theorem xi {f:Nat->V} {n:Nat} {g:TG} {tb:TS} {D:bP} {σ:St} {H:Hp} (Pv:Nat->St->Hp->Prop) (h0:Pv 0 σ H)
  (hs:∀ i σ H,i < n->Pv i σ H->g (f i) σ H λσ2 H2=>tb { D with nx:=Pv (i + 1),ct:=Pv (i + 1),bk:=D.nx } σ2 H2) (hd:∀ σ H,Pv n σ H->D.nx σ H) :
  ∃ W:Nat->Nat->St->Hp->Prop,(∃ m,W 0 m σ H)/\∀ i m σ H,W i m σ H ->
   ((Itf f n).stop i H/\D.nx σ H)\/((Itf f n).go i H/\∃ N:St->Hp->Prop,(∀ σ' H',N σ' H'->∃ m',m' < m/\W (i + 1) m' σ' H')/\∀ x H',(Itf f n).yld i H x H'->g x σ H' λσ2 H2=>tb { D with nx:=N,ct:=N,bk:=D.nx } σ2 H2):=by
 refine ⟨λi m σ H=>m=n - i/\i<=n/\Pv i σ H,⟨n,∅,Ω _,h0⟩,?_⟩
 rintro i m σ H ⟨rfl,hi,p⟩
 by_cases hlt:i < n
 ·refine .inr ⟨hlt,Pv (i + 1),λσ' H' p'=>⟨n - (i + 1),∅,rfl,hlt,p'⟩,λx H' y=>?_⟩
  obtain ⟨e,y⟩:=y
  subst e y
  exact hs i σ _ hlt p
 ·have e:i=n:=by omega
  subst e
  exact .inl ⟨rfl,hd σ H p⟩
theorem cE {K:ι} {a:Addr} {xs:List V} {g:TG} {tb:TS} {D:bP} {σ:St} {H:Hp} (Pv:Nat->St->Hp->Prop) (h0:Pv 0 σ H) (hl:∀ i σ H,i<=xs.length->Pv i σ H->SqL K H a xs)
  (hs:∀ i x σ H p,xs[i]?=some x->Pv i σ H->H p=none->g (.ref p) σ (upd H p (.tup [.int i,x])) λσ2 H2=>tb { D with nx:=Pv (i + 1),ct:=Pv (i + 1),bk:=D.nx } σ2 H2) (hd:∀ σ H,Pv xs.length σ H->D.nx σ H) :
  ∃ W:Nat->Nat->St->Hp->Prop,(∃ m,W 0 m σ H)/\∀ i m σ H,W i m σ H ->
   ((Ite K a).stop i H/\D.nx σ H)\/((Ite K a).go i H/\∃ N:St->Hp->Prop,(∀ σ' H',N σ' H'->∃ m',m' < m/\W (i + 1) m' σ' H')/\∀ x H',(Ite K a).yld i H x H'->g x σ H' λσ2 H2=>tb { D with nx:=N,ct:=N,bk:=D.nx } σ2 H2):=by
 refine ⟨λi m σ H=>m=xs.length - i/\i<=xs.length/\Pv i σ H,⟨xs.length,∅,Ω _,h0⟩,?_⟩
 rintro i m σ H ⟨rfl,hi,p⟩
 have q:=hl i σ H hi p
 by_cases hlt:i < xs.length
 ·refine .inr ⟨⟨xs,xs[i],q,by simp [hlt]⟩,Pv (i + 1),λσ' H' p'=>⟨xs.length - (i + 1),∅,rfl,hlt,p'⟩,λx H' y=>?_⟩
  obtain ⟨b,y,hb,e1,e2,hy⟩:=y
  subst e1 e2
  exact hs i y σ H b (hy xs q) p hb
 ·have e:i=xs.length:=by omega
  subst e
  exact .inl ⟨⟨xs,q,π _⟩,hd σ H p⟩
end
mutual
def Dv.small:Dv->Bool
 | .str x=>decide (x.cps.size<=1000)
 | .tup xs=>smalls xs && decide (xs.length<=1000)
 | .lst xs=>smalls xs && decide (xs.length<=1000)
 | _=>true
def smalls:List Dv->Bool
 | []=>true
 | d :: ds=>d.small && smalls ds
end
theorem cf:∀ {ds:List Dv},smalls ds=true->∀ {i:Nat} {d:Dv},ds[i]?=some d->d.small=true
 | [],_,i,d,e=>by simp at e
 | x :: ds,h,i,d,e=>by
  simp only [smalls,Ε] at h
  cases i with
  | zero=>
   have e':x=d:=by simpa using e
   subst e'; exact h.1
  | succ i=>exact cf h.2 (i:=i) (by simpa using e)
theorem wR {x:Str} (h:x.cps.size<=1000):x.length<=sizeLine:=x5 (jR h)
theorem ac {H:Hp} {p:Addr} (h:H p=none) (o:HO):af H (upd H p o):=λb u q=>by rw [ah (ag q h)]; exact q
theorem vq {n:Nat} (h:n<=1000):n<=sizeLine:=x5 (jR h)
section
variable {X:Cx}
theorem nO (K:ι) (h:X.K=K):IxR X (wD K):=by subst h; exact aJ
theorem fm (K:ι) (h:X.K=K):IxR X (ux K):=by subst h; exact aj
end
section
variable {X:Cx}
def AB (K:ι):R2:=λx y H Q=>∃ a b xs ys,x=.ref a/\y=.ref b/\SqT K H a xs/\SqT K H b ys/\xs.length + ys.length<=sizeLine /\
 (xs=[]->Q (.ref b) H)/\(ys=[]->Q (.ref a) H)/\(∀ p,H p=none->Q (.ref p) (upd H p (.tup (xs ++ ys))))
theorem le:OpR X (binaryOp .Add) (AB X.K):=by
 intro pins s σ H x y v u Q I rx ry h
 obtain ⟨a,b,xs,ys,rfl,rfl,ha,hb,hz,q0,q1,q2⟩:=h
 by_cases hx:xs=[]
 ·cases rx
  cases ry
  obtain ⟨its,r1,p1,_⟩:=I.tuple ha
  obtain ⟨its2,r2,p2,_⟩:=I.tuple hb
  subst hx
  cases r1
  obtain ⟨⟨cls,dd,data,sl⟩,ho,hc,n,hd⟩:=id p1
  obtain ⟨⟨cls2,dd2,data2,sl2⟩,ho2,hc2,n2,hd2⟩:=id p2
  simp only at hc hd hc2 hd2
  subst hc hd hc2 hd2
  exact concat_meets ⟨_,ho,rfl⟩ ⟨_,ho2,rfl⟩ EM seq_tuple_add C4 CW (CN _ _) (tuple_addW0 a b _ _ n n2 dd dd2 sl sl2 rfl) ⟨ho,ho2,⟨.ref b,H,I,rfl,q0 rfl⟩⟩
 ·exact wV pins s σ H (.ref a) (.ref b) v u Q I rx ry ⟨a,b,xs,ys,rfl,rfl,ha,hb,hx,hz,q1,λ_=>q2⟩
end
def gZ (t:TE) (σ:St) (H:Hp) (d:Dv):Prop:=∀ H1,af H H1->∀ Q:VK,(∀ H' v,af H1 H'->Rep H' d v->Q v H')->t σ H1 Q
def nP (t:TA) (σ:St) (H:Hp) (ds:List Dv):Prop:=∀ H1,af H H1->∀ Q:List V->Hp->Prop,(∀ H' vs,af H1 H'->Reps H' ds vs->Q vs H')->t σ H1 Q
section
variable {σ:St} {H:Hp} {d e:Dv} {ds es:List Dv} {ta tb:TE} {t:TA}
theorem aM:nP Ad σ H []:=λH1 s Q q=>q H1 [] (af.refl _) (by simp [Reps])
theorem am (h1:gZ ta σ H d) (h2:nP t σ H ds):nP (yn ta t) σ H (d :: ds):=λH1 s Q q=>
 h1 H1 s _ λH2 v s2 R=>h2 H2 (s.trans s2) _ λH3 vs s3 Rs=>q H3 (v :: vs) (s2.trans s3) (by simp only [Reps]; exact ⟨v,vs,rfl,R.mono s3,Rs⟩)
theorem aR (h:nP t σ H ds) (hz:ds.length<=1000):gZ (AW t) σ H (.tup ds):=λH1 s Q q=>
 h H1 s _ λH2 vs s2 Rs=>⟨by rw [Rs.length]; exact vq hz,λp hp=>q _ (.ref p) (s2.trans (ac hp _)) (by simp only [Rep]; exact ⟨p,vs,rfl,aa,Rs.mono (ac hp _)⟩)⟩
theorem uP (h:nP t σ H ds) (hz:ds.length<=1000):gZ (Ar t) σ H (.lst ds):=λH1 s Q q=>
 h H1 s _ λH2 vs s2 Rs=>⟨by rw [Rs.length]; exact vq hz,λp hp=>q _ (.ref p) (s2.trans (ac hp _)) (by simp only [Rep]; exact ⟨p,vs,rfl,aa,Rs.mono (ac hp _)⟩)⟩
theorem bh {x:Str}:gZ (tC (.str x)) σ H (.str x):=λH1 _ Q q=>q H1 _ (af.refl _) (by simp [Rep])
theorem dB {i:Nat} {v:V} (hv:σ[i]?=some (some v)) (R:Rep H d v):gZ (iP i) σ H d:=λH1 s Q q=>⟨v,hv,q H1 v (af.refl _) (R.mono s)⟩
theorem Reps.append {H:Hp}:∀ {ds es:List Dv} {vs ws:List V},Reps H ds vs->Reps H es ws->Reps H (ds ++ es) (vs ++ ws)
 | [],_,_,_,h,g=>by simp only [Reps] at h; subst h; exact g
 | d :: ds,es,vs,ws,h,g=>by
  simp only [Reps] at h
  obtain ⟨v,r,rfl,h1,h2⟩:=h
  simp only [CD,Reps]
  exact ⟨v,r ++ ws,rfl,h1,Reps.append h2 g⟩
end
def aS (H:Hp) (l:Addr):Hp:=λb=>if b=l then none else H b
theorem br {H:Hp} {l:Addr}:af (aS H l) H:=λb o h=>by
 unfold aS at h
 by_cases e:b=l
 ·rw [if_pos e] at h; cases h
 ·rw [if_neg e] at h; exact h
theorem bo {H H':Hp} {l:Addr} (s:af H H'):af (aS H l) (aS H' l):=λb o h=>by
 unfold aS at h ⊢
 by_cases e:b=l
 ·rw [if_pos e] at h; cases h
 ·rw [if_neg e] at h ⊢; exact s b o h
theorem fP {H H':Hp} {l:Addr} (s:af H H') (hl:H l=none):af H (aS H' l):=λb o h=>by
 unfold aS
 rw [if_neg (ag h hl)]
 exact s b o h
theorem sA {H:Hp} {l p:Addr} {o:HO} (hl:H l≠none) (hp:H p=none):aS (upd H p o) l p=some o/\af (aS H l) (aS (upd H p o) l):=by
 have ne:p≠l:=λe=>hl (e▸hp)
 refine ⟨?_,bo (ac hp o)⟩
 unfold aS
 rw [if_neg ne,aa]
section
variable {σ:St} {H:Hp} {d e:Dv} {ds es:List Dv} {ta tb:TE} {t:TA} {l:Addr}
variable {i:Nat} {u:TS} {D:bP}
theorem uS (h:gZ ta σ H d) (k:∀ H' v,af H H'->Rep H' d v->u D (σ.set i (some v)) H'):sZ (xM ta (cb i)) u D σ H:=h H (af.refl H) _ k
end
section
variable {X:Cx}
theorem zz (hu:X.A.units < cLine):OpR X (compareOp .NotEq) (λx y H Q=>∃ (l b:Addr) (xs:List Str),x=.ref l/\y=.ref b/\SqL X.K H l (xs.map V.str)/\SqL X.K H b (xs.map V.str)/\Q (.bl false) H):=by
 intro pins s σ H x y v u Q I rx ry h
 obtain ⟨l,b,xs,rfl,rfl,hl,hb,q⟩:=h
 cases rx
 cases ry
 obtain ⟨its,r1,p1,_⟩:=I.list hl
 obtain ⟨its2,r2,p2,_⟩:=I.list hb
 have s1:=fS r1
 have s2:=fS r2
 have l1:=r1.length
 have l2:=r2.length
 have get:∀ {xs:List Str} {us:List δ},StrsAre us xs->∀ j (hj:j < us.length),∃ t,us[j]=i4 (xs.getD j default) t:=by
  intro xs us h
  induction h with
  | nil=>intro j hj; simp at hj
  | cons x t _ ih=>
   intro j hj
   cases j with
   | zero=>exact ⟨t,rfl⟩
   | succ j=>obtain ⟨t',e⟩:=ih j (by simpa using hj); exact ⟨t',by simpa using e⟩
 refine Fx.lists (e:=λ_=>true) p1.isList p2.isList (by simp; omega) hu (λj h1 h2=>?_) X.prog X.w X.xe _ ?_
 ·obtain ⟨t,e1⟩:=get s1 j (by simpa using h1)
  obtain ⟨t',e2⟩:=get s2 j (by simpa using h2)
  have e:=Ed (A:=X.A.in1) (s:=s) (xs.getD j default) t (xs.getD j default) t'
  rw [beq_self_eq_true] at e
  simpa [e1,e2] using e
 ·have e:(!((Φ its.toArray.size).all λ_=>true))=false:=by simp
  rw [e]
  exact ⟨.bl false,H,I,rfl,q⟩
end
section
variable {prog:Β} {w:Ν} {K:Type} [DecidableEq K] {knd:PySem.KeyKind prog w K} {A:Χ} {R:Ea->ζ->Prop} {I d:Addr} {fp wr:List Addr} {n:Nat} {P:Nat->δ->Prop} {St:Nat->Heap->Prop}
end
section
variable {prog:Β} {w:Ν} {K:Type} [DecidableEq K] {knd:PySem.KeyKind prog w K} {A:Χ} {E:δ->ζ->Prop} {s:ζ}
end
section
variable {X:Cx}
end
section
variable {X:Cx}
end
open PySem PySem.Spec PyProof.Rows PySem.W
section
variable {X:Cx} {pins:List (Addr×Obj)} {σ:St} {H:Hp} {s:ζ}
theorem Inv.setList {D:Addr} {ys0 ys:List V} {its:List δ} {c:Nat} {h':Heap} {m:Str->Option δ} (I:Inv X pins σ H s) (hm:s.heap.Ns X.env.locals m) (hD:H D=some (.lst ys0)) (rv:ar ys its) (hz:ys.length<=sizeLine)
  (F:h'.Ns X.env.locals m) (k:∀ b o,b≠X.env.locals->b≠D->s.heap.get? b=some o->h'.get? b=some o) (e:h'.get? D=some { cls:=.type "list",data:=.seq its.toArray c }):Inv X pins σ (upd H D (.lst ys)) { s with heap:=h' }:=by
 have nl:∀ b v,H b=some v->b≠X.env.locals:=λb v q z=>by rw [z,I.free] at q; cases q
 have nD:∀ b,H b=none->b≠D:=λb q z=>by rw [z,hD] at q; cases q
 have nT:∀ b v,H b=some v->v≠.lst ys0->b≠D:=λb v q n z=>by rw [z,hD] at q; cases q; exact n rfl
 refine I.step (g':=s.gens) (d':=s.drawn) (t':=s.toks) (ch:=[]) (λb hb=>by cases hb) (λb o hL _ _ q n=>k b o hL (nD b n) q) (λb o hL _ _ q n=>⟨o.slots,k b o hL (nD b n) q⟩) (λb o _ q n=>by rw [ah (nD b n)]; exact n) (λb o _ q=>?_)
  (λb xs q=>by rw [ah (nT b _ q nofun)]; exact q) (λb o v q=>by rw [ah (nT b _ q nofun)]; exact q) (λb ps q=>⟨#[],by rw [ah (nT b _ q nofun),q]; simp⟩) (λm' hm'=>by rw [zD hm' hm]; exact F) (λb v q=>?_) I.bare
 ·by_cases hb:b=X.env.locals
  ·subst hb
   obtain ⟨o',_,_,q',_⟩:=F
   exact ⟨o',q'⟩
  ·by_cases hd:b=D
   ·subst hd; exact ⟨_,e⟩
   ·exact ⟨o,k b o hb hd q⟩
 ·by_cases hb:b=D
  ·subst hb
   rw [aa] at q
   cases q
   exact ⟨hz,its,c,rv,e⟩
  ·rw [ah hb] at q
   refine (I.hok b v q).stay (λc w' hc q'=>?_) (λc q'=>by rw [ah (nT c _ q' nofun)]; exact q') λc xs q'=>by rw [ah (nT c _ q' nofun)]; exact q'
   rcases hc with z | z
   ·subst z; exact k c w' (nl c v q) hb q'
   ·exact k c w' (nl c _ z) (nT c _ z nofun) q'
theorem wa {A:Χ} {E:δ->ζ->Prop} {l:Addr} {ps:List TK} {Q:δ->ζ->Prop} (I:Inv X pins σ H s) (hq:H l=some (.lst (ps.map λp=>V.ref p.1))) (ht:∀ p∈ps,H p.1=some (.tup (.str p.2.1 :: p.2.2)))
  (nd:(ps.map (·.2.1)).Nodup) (h64:ps.length < 64) (q:∀ (qs:List TK) (h':Heap),qs.Perm ps->qs.Pairwise tM->Inv X pins σ (upd H l (.lst (qs.map λp=>V.ref p.1))) { s with heap:=h' }->Q .none { s with heap:=h' }) :
  wpAny (model X.prog X.w) A (call (.builtin "list.sort") [.ref l]) Q E s:=by
 obtain ⟨hz,its,n,rv,at0⟩:=(show aI X.prog X.w H s.heap l (.lst (ps.map λp=>V.ref p.1)) from I.hok l _ hq)
 have ei:=xh ps its rv
 subst ei
 obtain ⟨m,hm,_⟩:=I.loc
 have nL:l≠X.env.locals:=λz=>by rw [z,I.free] at hq; cases hq
 have lne:∀ p∈ps,p.1≠l/\p.1≠X.env.locals:=λp hp=>by
  refine ⟨λz=>?_,λz=>?_⟩
  ·have t:=ht p hp
   rw [z,hq] at t
   cases t
  ·have t:=ht p hp
   rw [z,I.free] at t
   cases t
 by_cases few:ps.length < 2
 ·refine ϙ Cw ⟨_,at0,rfl⟩ Cf (cw at0 (by simpa using few) λhp ep k2 e2=>⟨_,rfl,?_⟩) (Cy _)
  refine q ps hp (C_ _) ?_ (I.setList hm hq (gC ps) hz (hm.at' λo e=>k2 _ o (ώ nL) e) (λb o _ hb z=>k2 b o hb z) e2)
  match ps,few with
  | [],_=>exact .nil
  | [p],_=>exact CY _ _
 ·have hlen:(ps.map λp=>Η p.1).length=ps.length:=ε _
  have F0:Fr (Att.noObjs s.heap) X.env.locals s.heap m:=Att.fr_all hm
  generalize hN:(dQ (Att.noObjs s.heap) s.heap X.env.locals).filter (λp=>decide (p.1≠l))=nw
  have N0:News (Att.noObjs s.heap) X.env.locals s.heap nw:=λp hp=>by rw [<- hN] at hp; exact iI p (i3.mp hp).1
  have nl0:∀ p∈nw,p.1≠l:=λp hp=>by rw [<- hN] at hp; exact of_decide_eq_true (i3.mp hp).2
  refine ϙ Cw ⟨_,at0,rfl⟩ Cf (kat_list_sort F0 N0 at0 nL (Att.noObjs_get _ _) nl0 (by rw [hlen]; omega) (by rw [hlen]; exact h64) λe1 h' F' N'=>?_) (Cy _)
  have keep:∀ (g:Heap) (x:Obj),News (Att.noObjs s.heap) X.env.locals g ((l,x) :: nw)->∀ b o,b≠X.env.locals->b≠l->s.heap.get? b=some o->g.get? b=some o:=λg x N b o hb hl e=>
   (N (b,o) (ρ _ (by rw [<- hN]; exact i3.mpr ⟨dl hb (Att.noObjs_get _ _) e,decide_eq_true hl⟩))).1
  have kp:=keep h' _ N'
  have atv:∀ i,i < ps.length->(ps.map λp=>Η p.1).getD i .none=Η (ps.getD i (0,default,[])).1:=λi hi=>by
   simp [u9,hi]
  have item:∀ i,i < ps.length->∃ (o:Obj) (us:List δ) (n:Nat) (t:Tok),h'.get? (ps.getD i (0,default,[])).1=some o/\o.cls=.type "tuple"/\o.data=.seq (i4 (ps.getD i (0,default,[])).2.1 t :: us).toArray n:=λi hi=>by
   have hm':ps.getD i (0,default,[])∈ps:=by
    have e:ps.getD i (0,default,[])=ps[i]:=by simp [u9,hi]
    rw [e]; exact j9 hi
   obtain ⟨o,us,n,t,e,c,d⟩:=uF I (ht _ hm')
   exact ⟨o,us,n,t,kp _ o (lne _ hm').2 (lne _ hm').1 e,c,d⟩
  have firsts:∀ (qs:List TK),(∀ p∈qs,p∈ps)->∃ fs:List δ,KatTups h' (qs.map λp=>Η p.1) fs/\fs.length=qs.length/\∀ v∈fs,∃ x t,v=i4 x t:=by
   intro qs
   induction qs with
   | nil=>intro _; exact ⟨[],KatTups.nil,rfl,∅⟩
   | cons p qs ih=>
    intro hs
    obtain ⟨fs,t1,t2,t3⟩:=ih λx hx=>hs x (ρ _ hx)
    have hp:=hs p Δ
    obtain ⟨o,us,n,t,e,c,d⟩:=uF I (ht _ hp)
    refine ⟨i4 p.2.1 t :: fs,KatTups.cons (kp _ o (lne _ hp).2 (lne _ hp).1 e) c d ∅ t1,by simp [t2],λv hv=>?_⟩
    rcases ν.mp hv with rfl | hv
    ·exact ⟨_,_,rfl⟩
    ·exact t3 v hv
  obtain ⟨fs,t1,t2,t3⟩:=firsts ps λp hp=>hp
  refine kat_kind (T:=.type "str") (s:={ s with heap:=h' }) t1 (by rw [t2]; omega) (λv hv=>?_) ∅ ?_
  ·obtain ⟨x,t,rfl⟩:=t3 v hv
   exact E8.of_pure rfl
  rw [hlen]
  have O:Ord (kas_ask X.prog X.w A.in1 (tuples' (k7 "str" != k7 "tuple")) (ps.map λp=>Η p.1)) (λi j=>decide ((ps.getD i (0,default,[])).2.1.cps.toList < (ps.getD j (0,default,[])).2.1.cps.toList)) ps.length { s with heap:=h' }:=by
   have unlike:∀ i j,i < ps.length->j < ps.length->i≠j->(ps.getD i (0,default,[])).2.1≠(ps.getD j (0,default,[])).2.1:=λi j hi hj hij e=>by
    have ei:ps.getD i (0,default,[])=ps[i]:=by simp [u9,hi]
    have ej:ps.getD j (0,default,[])=ps[j]:=by simp [u9,hj]
    rw [ei,ej] at e
    exact hij ((B4 (h₀:=by simpa using hi) (h₁:=by simpa using hj) nd).mp (by simpa using e))
   refine ⟨λi j C hi hj hij hC=>?_,λi j k h1 h2=>?_,λi j hi hj hij h1=>?_,λi j h1=>?_⟩
   ·show wpAny _ _ (keyLt' _ _ _) C _ _
    rw [atv i hi,atv j hj]
    obtain ⟨o,us,n,t,e,c,d⟩:=item i hi
    obtain ⟨o2,us2,n2,t2',e2,c2,d2⟩:=item j hj
    refine kat_lt (s:={ s with heap:=h' }) e d e2 d2 ?_
    show KatLex _ _ _ _ _ _ ((i4 _ t,i4 _ t2') :: _) 0 _
    refine kat_cons (wpAny_eqBool_str ?_)
    rw [decide_eq_false (unlike i j hi hj hij)]
    exact kat_no (oneLt_str hC)
   ·exact decide_eq_true (List.lt_trans (of_decide_eq_true h1) (of_decide_eq_true h2))
   ·exact decide_eq_true (qS (of_decide_eq_false h1) λe=>unlike i j hi hj hij (rC e))
   ·exact decide_eq_false (List.lt_asymm (of_decide_eq_true h1))
  refine qM O ∅ λp re up=>?_
  have outs:(p.toList.map λi=>(ps.map λp=>Η p.1).getD i .none)=(p.toList.map λi=>ps.getD i (0,default,[])).map λp=>Η p.1:=by
   rw [ϓ]
   refine CJ λi hi=>?_
   have hl2:p.toList.Perm (Φ ps.length):=by simpa using p_.mp re.perm
   exact atv i (ϸ.mp ((C7 hl2).mp hi))
  rw [outs]
  refine KasFin.intro (news:=(l,seqObj "list" #[] e1) :: nw) (g:=λo'=>(l,o') :: nw) F' N' (.head nl0) λh2 c F2 N2=>?_
  have pq:=gs (d:=(0,default,[])) rfl re
  have I2:=I.setList (D:=l) (ys:=(p.toList.map λi=>ps.getD i (0,default,[])).map λp=>V.ref p.1) hm hq (gC _) (by rw [ε,pq.length_eq]; simpa using hz) F2.ns (keep h2 _ N2) (N2 (l,_) Δ).1
  exact ⟨_,rfl,q _ h2 pq (eB (R:=tM) (λi j _ _ h=>(of_decide_eq_true h:(ps.getD i (0,default,[])).2.1.cps.toList < (ps.getD j (0,default,[])).2.1.cps.toList)) re up) I2⟩
def gJ (v d:Addr):HO:=.ext λh=>h.IsItemsView v d
theorem tY:MtR X "dict.items" (λx xs H Q=>∃ d kvs,x=.ref d/\xs=[]/\H d=some (.dK kvs)/\∀ v,H v=none->Q (.ref v) (upd H v (gJ v d))):=by
 intro pins s σ H x xs u us Q I rx rv h
 obtain ⟨d,kvs,rfl,rfl,hd,q⟩:=h
 cases rx
 cases rv
 obtain ⟨z,hdm,vs,rel,dd⟩:=wb I.hok hd
 refine call_meetsIn PySem.F.slot_dict_items dd.typeIs PySem.F.entry_dict_items (PySem.F.args_dict_items_1 _) (meets_dict_items (aK X.prog X.w) d hdm) ⟨⟨vs,dd⟩,?_⟩
 refine ⟨.ref s.heap.objs.size,_,I.laid (t':=s.toks) (a:=s.heap.objs.size) (o:=gJ s.heap.objs.size d) (λb u q=>η _ q) (π _) ?_,rfl,q _ I.fresh⟩
 exact ⟨⟨_,τ _ rfl,rfl,rfl⟩,⟨_,τ _ rfl⟩,λh1 h2 ⟨o,e,r⟩ k=>⟨o,k o e,r⟩⟩
def lays (H:Hp) (rs:List TK):Hp:=λb=>match rs.find? (λr=>decide (r.1=b)) with | some r=>some (.tup (.str r.2.1 :: r.2.2)) | none=>H b
theorem iq {rs:List TK} {b:Addr} (h:∀ r∈rs,r.1≠b):lays H rs b=H b:=by
 unfold lays
 rw [Eh.mpr (λr hr e=>h r hr (of_decide_eq_true e))]
theorem rj {rs:List TK} (nd:(rs.map (·.1)).Nodup) {r:TK} (hr:r∈rs):lays H rs r.1=some (.tup (.str r.2.1 :: r.2.2)):=by
 unfold lays
 cases e:rs.find? (λx=>decide (x.1=r.1)) with
 | none=>exact absurd (decide_eq_true rfl) (Eh.mp e r hr)
 | some x=>
  have hx:=List.mem_of_find?_eq_some e
  have e1:x.1=r.1:=of_decide_eq_true (List.find?_some (p:=λx:TK=>decide (x.1=r.1)) e)
  obtain ⟨i,hi,rfl⟩:=r9 hx
  obtain ⟨j,hj,rfl⟩:=r9 hr
  have:i=j:=(B4 (h₀:=by simpa using hi) (h₁:=by simpa using hj) nd).mp (by simpa using e1)
  subst this
  rfl
theorem Inv.lays {h':Heap} {tk:Nat} {rs:List TK} (I:Inv X pins σ H s) (k:∀ b u,s.heap.get? b=some u->h'.get? b=some u) (nd:(rs.map (·.1)).Nodup) (hp:∀ r∈rs,s.heap.objs.size<=r.1)
  (new:∀ r∈rs,aI X.prog X.w (L2.lays H rs) h' r.1 (.tup (.str r.2.1 :: r.2.2))):Inv X pins σ (L2.lays H rs) { s with heap:=h',toks:=tk }:=by
 have out:∀ b,b < s.heap.objs.size->L2.lays H rs b=H b:=λb hb=>iq λr hr e=>absurd hb (EW.mpr (e▸hp r hr))
 refine I.un (t':=tk) ⟨λb u q _ _ _=>k b u q,λb u q _ _ _=>⟨u.slots,k b u q⟩,λb u q n _=>by rw [out b (χ q)]; exact n,λb u q _=>⟨u,k b u q⟩,λb xs q=>by rw [out b (I.hok.lt q)]; exact q,λb u xs q=>by rw [out b (I.hok.lt q)]; exact q,
  λb ps q=>⟨#[],by rw [out b (I.hok.lt q),q]; simp⟩⟩ λb u e=>?_
 by_cases hb:∃ r∈rs,r.1=b
 ·obtain ⟨r,hr,rfl⟩:=hb
  rw [rj nd hr] at e
  cases e
  exact new r hr
 ·rw [iq λr hr z=>hb ⟨r,hr,z⟩] at e
  exact (I.hok b u e).stay (λc v _ q=>k c v q) (λc q=>by rw [out c (I.hok.lt q)]; exact q) λc xs q=>by rw [out c (I.hok.lt q)]; exact q
theorem jZ (hc:X.calm=true):bE X (.builtin "sorted") (λxs H Q=>∃ (v d:Addr) (m:List (Str×V)),xs=[.ref v]/\H v=some (gJ v d)/\H d=some (.dK (m.map λp=>((ϕ p.1:Key),p.2)))/\m.length < 64 /\
  ∀ (H':Hp) (l:Addr) (qs:List TK),af H H'->H l=none->(∀ r∈qs,H' r.1=some (.tup (.str r.2.1 :: r.2.2))/\H r.1=none)->H' l=some (.lst (qs.map λr=>V.ref r.1))->(qs.map (·.2)).Perm (m.map λp=>(p.1,[p.2]))->qs.Pairwise tM->Q (.ref l) H'):=by
 intro pins s σ H xs us Q I r h
 obtain ⟨v,d,m,rfl,hv,hd,h64,q⟩:=h
 obtain ⟨u,rfl,ru⟩:=cj r
 cases ru
 obtain ⟨vw,_,_⟩:=(show aI X.prog X.w H s.heap v (gJ v d) from I.hok v _ hv)
 obtain ⟨z,hdm,vs,rel,dd⟩:=wb I.hok hd
 have hvl:vs.length=m.length:=by have:=rel.length; rw [ε] at this; exact this.symm
 obtain ⟨ep,da⟩:=dd.dictAt
 have ndk:(vs.map (·.1)).Nodup:=by obtain ⟨_,_,_,_,_,_,_,nd⟩:=da; exact nd
 refine CI kind_sorted plain_sorted entry_sorted (args_sorted1 _) ?_
 unfold Ϡ.«sorted»
 refine γ (m:=checkCount "sorted" 1 1 _) (μ (γ (kdx_collect (A:=X.A.in1) (knd:=aK X.prog X.w) (kvs:=vs) (ep:=ep) (I.ok.hd hc) vw da (by rw [<- rel.length]; exact z) λh' tk as hk hl hG=>?_)))
 have hlm:as.length=m.length:=by omega
 have e1:((as.zip m).map λp=>((p.1,p.2.1,[p.2.2]):TK)).map (·.1)=as:=by
  rw [ϓ]
  have:((λx:TK=>x.1) ∘ λp:Addr×Str×V=>((p.1,p.2.1,[p.2.2]):TK))=Prod.fst:=rfl
  rw [this,List.map_fst_zip ∅]
 have e2:((as.zip m).map λp=>((p.1,p.2.1,[p.2.2]):TK)).map (·.2)=m.map λp=>(p.1,[p.2]):=by
  rw [ϓ]
  have:((λx:TK=>x.2) ∘ λp:Addr×Str×V=>((p.1,p.2.1,[p.2.2]):TK))=(λp:Str×V=>(p.1,[p.2])) ∘ Prod.snd:=rfl
  rw [this,<- ϓ,List.map_snd_zip ∅]
 have e3:((as.zip m).map λp=>((p.1,p.2.1,[p.2.2]):TK)).map (λr=>V.ref r.1)=as.map V.ref:=by
  have:(λr:TK=>V.ref r.1)=V.ref ∘ (λr:TK=>r.1):=rfl
  rw [this,<- ϓ,e1]
 have pairs:∀ r∈(as.zip m).map λp=>((p.1,p.2.1,[p.2.2]):TK),∃ (x:Str) (y:V) (u w':δ),r.2=(x,[y])/\aw (.str x) u/\aw y w'/\h'.get? r.1=some { cls:=.type "tuple",data:=.seq #[u,w'] }:=λr hr=>by
  obtain ⟨⟨a,x,y⟩,hp,rfl⟩:=Κ.mp hr
  obtain ⟨j,hj⟩:=List.getElem?_of_mem hp
  obtain ⟨ha,hm⟩:=List.getElem?_zip_eq_some.mp hj
  obtain ⟨key,k,w',g1,g2,g3⟩:=hG.pairs j a ha
  obtain ⟨y',hy,ry⟩:=rel.at g1
  rw [Ψ,hm] at hy
  have hy':((ϕ x:Key),y)=(k,y'):=Ϝ hy
  injection hy' with k1 k2
  subst k1 k2
  exact ⟨x,y,key,w',rfl,Aj g2,ry,g3⟩
 generalize hrs:(as.zip m).map (λp=>((p.1,p.2.1,[p.2.2]):TK))=rs at e1 e2 e3 pairs
 have lrs:rs.length=m.length:=by rw [<- hrs,ε,List.length_zip]; omega
 have nda:(rs.map (·.1)).Nodup:=by rw [e1]; exact hG.rise.imp λh=>Ρ h
 have above:∀ r∈rs,s.heap.objs.size<=r.1:=λr hr=>x5 (hG.above r.1 (by rw [<- e1]; exact ϯ hr))
 have tup:∀ (Hx:Hp) (r:TK),r∈rs->aI X.prog X.w Hx h' r.1 (.tup (.str r.2.1 :: r.2.2)):=λHx r hr=>by
  obtain ⟨x,y,u,w',er,r1,r2,g⟩:=pairs r hr
  rw [er]
  exact ⟨by show 2<=sizeLine; rw [υ]; decide,[u,w'],.cons r1 (.cons r2 .nil),⟨_,g,rfl,0,rfl⟩,⟨_,g,rfl⟩⟩
 have I1:Inv X pins σ (lays H rs) { s with heap:=h',toks:=tk }:=I.lays hk nda above λr hr=>tup _ r hr
 have s1:af H (lays H rs):=λb o e=>by
  have ho:∀ r∈rs,r.1≠b:=λr hr z'=>by
   have h1:=above r hr
   rw [z'] at h1
   exact absurd (I.hok.lt e) (EW.mpr h1)
  rw [iq ho]; exact e
 refine γ (Dy ?_ (by rw [ε,hlm,υ]; omega))
 have rvals:ar (rs.map λr=>V.ref r.1) (as.map Η):=by
  have:=gC rs
  have e4:rs.map (λp=>Η p.1)=as.map Η:=by
   rw [<- e1,ϓ]; rfl
  rwa [e4] at this
 have I2:=I1.lnew (t':=tk) (its:=as.map Η) rvals (by rw [ε,lrs,υ]; omega)
 have fr:lays H rs h'.objs.size=none:=I1.fresh
 have s2:af (lays H rs) (upd (lays H rs) h'.objs.size (.lst (rs.map λr=>V.ref r.1))):=ac fr _
 have inr:∀ r∈rs,lays H rs r.1=some (.tup (.str r.2.1 :: r.2.2)):=λr hr=>rj nda hr
 have hnone:H h'.objs.size=none:=by
  cases e:H h'.objs.size with
  | none=>rfl
  | some o=>have:=s1 _ _ e; rw [fr] at this; cases this
 have nd2:(rs.map (·.2.1)).Nodup:=by
  have e5:rs.map (·.2.1)=m.map (·.1):=by
   have:=congrArg (Fd Prod.fst) e2
   simpa [ϓ,Function.comp_def] using this
  have e6:(m.map (·.1)).map (ϕ:Str->Key)=vs.map (·.1):=by
   rw [<- rel.keys,ϓ,ϓ]; rfl
  rw [e5]
  rw [<- e6] at ndk
  rw [List.Nodup,EB] at ndk
  exact ndk.imp λh e=>h (by rw [e])
 refine γ (ϻ (wa (A:=X.A.in1) (l:=h'.objs.size) (ps:=rs) I2 aa (λr hr=>s2 _ _ (inr r hr)) nd2 ∅ λqs h2 pq pw I3=>?_))
 refine μ ⟨_,rfl,.ref h'.objs.size,_,I3,rfl,q _ _ qs (λb o e=>?_) hnone (λr hr=>⟨?_,I.hok.fresh (above r (pq.mem_iff.mp hr))⟩) aa (by rw [<- e2]; exact pq.map _) pw⟩
 ·have:=s2 _ _ (s1 _ _ e)
  rw [ah (λz'=>by rw [z',hnone] at e; cases e)]
  exact this
 ·have hm:=pq.mem_iff.mp hr
  rw [ah (ag (inr r hm) fr)]
  exact s2 _ _ (inr r hm)
end
open PySem PySem.Spec PyProof.Rows
section
variable {X:Cx} {pins:List (Addr×Obj)} {σ:St} {H:Hp} {s:ζ}
end
section
variable {X:Cx}
end
structure sK (K:ι) (x qual:Str) (st:Stmt) (f:Addr) (fd:Μ) (dV:δ):Prop where
 ex:∃ (oc:δ) (od:Option Addr) (kV doc pm:δ) (an:Option Addr) (cdv ct:δ) (osl:Array (Option δ)),
  fd=o_ x qual (bJ st) (bq st) (ae st) dV kV doc pm an cdv ct/\K.lookup f=some ⟨oc,od,.func fd,osl⟩/\Ct K cdv qual=true
section
variable {P:Β} {w:Ν} {K:ι} {mg:Str->Option δ} {base:Heap}
theorem sK.ok {x qual:Str} {st:Stmt} {f:Addr} {fd:Μ} {dV:δ} {N ps:List Str} {k:Nat} {sp:Sp} (F:sK K x qual st f fd dV) (S:ao N ps (ae st)) (len:∀ vs H Q E,sp vs H Q E->vs.length=ps.length)
  (hbody:∀ (cdv:δ) (A:Χ) (outer:List Env) (s:ζ) (H:Hp) (vs:List V) (Q:VK) (E:XK),bz k (A.deeper (x4 qual (ae st) s.heap.objs.size f cdv))->sp vs H Q E ->
   ∃ t,PSs (cM CX0 P w K mg base N qual (ae st) f cdv A outer s H E).nox (bq st) t/\t { nx:=λ_ H'=>Q .non H',rt:=Q } (eh N vs) H):aF P w K mg base CX0 (k + 1) f fd ps sp:=by
 obtain ⟨oc,od,kV,doc,pm,an,cdv,ct,osl,rfl,lk,hcd⟩:=F.ex
 refine we lk hcd S len λA outer s H vs Q E hr hsp=>?_
 obtain ⟨t,h,q⟩:=hbody cdv A outer s H vs Q E hr hsp
 exact ⟨t,h.nox,q⟩
theorem sK.binds {x qual:Str} {st:Stmt} {f T:Addr} {fd:Μ} {ps:List Str} {ds:List δ} {oT:Obj} {its:Array δ} {n:Nat} (F:sK K x qual st f fd (.ref T)) (lT:K.lookup T=some oT) (dT:oT.data=.seq its n)
  (h:∀ (kV doc pm:δ) (an:Option Addr) (cdv ct:δ) (us:List δ),(us ++ ds).length=ps.length->∃ kk:Option (Array δ)->Sem (List (Str×δ)),bindArgs (o_ x qual (bJ st) (bq st) (ae st) (.ref T) kV doc pm an cdv ct) ⟨us,[]⟩=seqItems? (.ref T) >>= kk/\kk (some its)=pure (ps.zip (us ++ ds))):bx K fd ps ds:=by
 obtain ⟨oc,od,kV,doc,pm,an,cdv,ct,osl,rfl,lk,hcd⟩:=F.ex
 intro s us hin hl
 obtain ⟨kk,h1,h2⟩:=h kV doc pm an cdv ct us hl
 exact Fl.of_defaults (T:=T) rfl (hin T oT lT) dT h1 h2
end
open PySem PySem.Spec PyProof.Rows PySem.W
section
variable {X:Cx} {e st:Expr} {te:TE} {ts:TO} {p2 pos:Pos}
end
section
variable {X:Cx}
end
theorem nB (t:q_) (n:Nat):(t.orStandIn n).led=t.led/\((t.orStandIn n).plain=true->t.plain=true):=by
 unfold q_.orStandIn
 split
 ·exact ⟨rfl,λh=>h⟩
 ·exact ⟨rfl,λh=>by cases h⟩
theorem xC (t:q_) (es:Array (Int×δ)) (h:Int) (x:δ):(layNew t es h x).2.1.led=t.led/\((layNew t es h x).2.1.plain=true->t.plain=true):=by
 unfold layNew
 split
 ·rename_i slot wd _
  obtain ⟨a,b⟩:=nB (t.put slot).1 (q_.insertAt es (t.put slot).2 (h,x)).size
  exact ⟨a,b⟩
 ·exact ⟨rfl,λh=>by cases h⟩
theorem pB {t t':q_} {hs:Array Int} {n:Nat} {o:Array Nat} (h:t.relaid hs n=some (t',o)):t'.led=t.led/\t'.plain=t.plain:=by
 unfold q_.relaid q_.laid at h
 cases e:q_.layClean (q_.sizeAbove n - 1) hs with
 | none=>rw [e] at h; cases h
 | some ow=>
  rw [e] at h
  have h2:=Ϝ h
  injection h2 with h3 h4
  subst h3
  exact ⟨rfl,rfl⟩
theorem rW (t:q_) (es:Array (Int×δ)) (n:Nat):(relayAll t es n).2.1.led=t.led/\((relayAll t es n).2.1.plain=true->t.plain=true):=by
 unfold relayAll
 split
 ·rename_i t' o h
  obtain ⟨a,b⟩:=pB h
  dsimp only
  split
  ·exact ⟨a,λz=>by rw [<- b]; exact z⟩
  ·exact ⟨rfl,λz=>by cases z⟩
 ·exact ⟨rfl,λz=>by cases z⟩
def dG (e:Int×δ):Str:=match e.2 with | .str x _=>x | _=>default
def ce (P:Β) (w:Ν) (h:Heap) (a:Addr) (xs:List Str):Prop:=
 ∃ o es ep t,h.get? a=some o/\o.ExactSet/\o.data=.set es ep t/\ElemsOf (a7 P w) es.toList/\es.size < scanBound/\t.fits es.size=true/\t.led=(!w.params.followText "set-order")/\(t.plain=true->es.size=0)/\(es.toList.map dG).Perm xs
section
variable {P:Β} {w:Ν} {A:Χ} {E:δ->ζ->Prop} {s:ζ}
theorem gt {y:Str} {e:Int×δ} (h:(a7 P w).is y e.2=true):dG e=y:=by
 obtain ⟨t,ht⟩:=DO h
 unfold dG
 rw [ht]
theorem rK {e:Int×δ} (h:∃ k,(a7 P w).is k e.2=true):(a7 P w).is (dG e) e.2=true:=by
 obtain ⟨k,hk⟩:=h
 rw [gt hk]; exact hk
theorem ce.put {h:Heap} {a:Addr} {o:Obj} {es es':Array (Int×δ)} {ep:Nat} {t t':q_} {xs:List Str} (ho:h.get? a=some o) (hex:o.ExactSet) (hd:o.data=.set es ep t) (hel:ElemsOf (a7 P w) es'.toList)
  (hb:es'.size < scanBound) (hf:t'.fits es'.size=true) (hl:t'.led=(!w.params.followText "set-order")) (hp:t'.plain=true->es'.size=0) (hx:(es'.toList.map dG).Perm xs) :
  (h.update a (EY es' t')).get? a=some { o with data:=.set es' (ep + 1) t' }/\ce P w (h.update a (EY es' t')) a xs:=by
 have hg:(h.update a (EY es' t')).get? a=some { o with data:=.set es' (ep + 1) t' }:=by
  have:=Ϛ (EY es' t') ho (by rw [putSet_of es' t' hd]; rfl)
  rw [putSet_of es' t' hd] at this; exact this
 exact ⟨hg,_,es',ep + 1,t',hg,hex,rfl,hel,hb,hf,hl,hp,hx⟩
theorem nE {g:Bool->Sem Unit} (hg:∀ (b:Bool) (s₁:ζ) (Q':Unit->ζ->Prop),Q' () s₁->wpAny (model P w) A (g b) Q' E s₁) {a:Addr} {o:Obj} {es es1:Array (Int×δ)} {ep:Nat} {t t2:q_} {xs:List Str} {wd:Bool} {R:Option Bool->ζ->Prop}
  (ho:s.heap.get? a=some o) (hex:o.ExactSet) (hd:o.data=.set es ep t) (hel:ElemsOf (a7 P w) es1.toList) (hb:es1.size < scanBound) (hf:t2.fits es1.size=true) (hl:t2.led=(!w.params.followText "set-order")) (hp:t2.plain=false) (hx:(es1.toList.map dG).Perm xs)
  (h:∀ h',x6 a s.heap h'->ce P w h' a xs->R (some true) { s with heap:=h' }) :
  wpAny (model P w) A (do
    storeSet a es1 t2
    if (!wd && t2.tooFull) = true then do
        g (relayAll t2 es1 (B6 es1.size)).2.2
        storeSet a (relayAll t2 es1 (B6 es1.size)).1 (relayAll t2 es1 (B6 es1.size)).2.1
        pure (some true)
     else pure (some true)) R E s:=by
 refine γ (wpAny_storeSet_of ho hd ?_ (fits_of_scanBound hb))
 obtain ⟨ho1,hS1⟩:=ce.put (P:=P) (w:=w) ho hex hd hel hb hf hl (λz=>by rw [hp] at z; cases z) hx
 have sb1:=r_ s.heap a (EY es1 t2)
 split
 ·have pm:=relayAll_perm t2 es1 (B6 es1.size)
  have ft:=relayAll_fits t2 es1 (B6 es1.size)
  have ld:=rW t2 es1 (B6 es1.size)
  generalize relayAll t2 es1 (B6 es1.size)=Rl at pm ft ld ⊢
  obtain ⟨es2,t3,gave⟩:=Rl
  dsimp only at pm ft ld ⊢
  have sz:es2.size=es1.size:=by rw [<- ϗ,pm.length_eq,ϗ]
  refine γ (hg _ _ _ (γ (wpAny_storeSet_of ho1 rfl ?_ (fits_of_scanBound (by rw [sz]; exact hb)))))
  obtain ⟨_,hS2⟩:=ce.put (P:=P) (w:=w) (xs:=xs) ho1 hex rfl (hel.perm pm) (by rw [sz]; exact hb) ft (by rw [ld.1]; exact hl) (λz=>by have:=ld.2 z; rw [hp] at this; cases this) ((pm.map _).trans hx)
  exact μ (h _ (sb1.trans (r_ _ a _)) hS2)
 ·exact μ (h _ sb1 hS1)
theorem mh {a:Addr} {xs:List Str} {y:Str} {tk:Tok} {Q:Bool->ζ->Prop} (hS:ce P w s.heap a xs) (hlen:xs.length + 1 < scanBound)
  (h:∀ h' b,x6 a s.heap h'->ce P w h' a (if y∈xs then xs else xs ++ [y])->Q b { s with heap:=h' }):wpAny (model P w) A (setAddHashed a (.str y tk) ((a7 P w).hash y)) Q E s:=by
 obtain ⟨o,es,ep,t,ho,hex,hd,hel,hb,hf,hl,hpl,hx⟩:=hS
 have hkey:(a7 P w).is y (.str y tk)=true:=strKind_is _ _ _ _
 have hsc:(i4 y tk).scannable=true:=rfl
 have sz:es.size=xs.length:=by rw [<- hx.length_eq,ε,ϗ]
 unfold setAddHashed setAddHashedIn
 refine ϻ (γ (BO ho hd hf ?_))
 dsimp only
 rw [byScan_of hsc hb hel]
 simp only [↓reduceIte]
 unfold setAddByScan
 refine γ (γ (w_ (γ (wpAny_setScan_of hkey ho hd hf hel ?_))))
 cases hr:List.findIdx? (λe=>(a7 P w).is y e.2) es.toList with
 | some j=>
  dsimp only
  obtain ⟨hj,hpj,_⟩:=List.findIdx?_eq_some_iff_getElem.mp hr
  have hy:y∈xs:=hx.mem_iff.mp (Κ.mpr ⟨es.toList[j],j9 hj,gt hpj⟩)
  have e:s={ s with heap:=s.heap }:=by cases s; rfl
  have q:=h s.heap false (x6.refl a s.heap) (by rw [if_pos hy]; exact ⟨o,es,ep,t,ho,hex,hd,hel,hb,hf,hl,hpl,hx⟩)
  rw [<- e] at q
  exact μ (μ q)
 | none=>
  dsimp only
  have hy:y∉xs:=λz=>by
   obtain ⟨e,he,e1⟩:=Κ.mp (hx.mem_iff.mpr z)
   have:=List.findIdx?_eq_none_iff.mp hr e he
   rw [<- e1,rK (hel.keys e he)] at this
   cases this
  rw [if_neg hy] at h
  have hgw:∀ (b:Bool) {s₁:ζ} {Q':Unit->ζ->Prop},Q' () s₁->wpAny (model P w) A (match b with | true=>rule "set.scan.the-table-gave-way" | false=>pure ()) Q' E s₁:=
   λb s₁ Q' hq=>by cases b <;> first | exact μ hq | exact w_ hq
  have pm:=layNew_perm t es ((a7 P w).hash y) (.str y tk)
  have ft:=layNew_fits t es ((a7 P w).hash y) (.str y tk)
  have ld:=xC t es ((a7 P w).hash y) (.str y tk)
  generalize layNew t es ((a7 P w).hash y) (.str y tk)=L at pm ft ld ⊢
  obtain ⟨es1,t1,wd,gave⟩:=L
  dsimp only at pm ft ld ⊢
  rw [EC] at pm
  have hel1:ElemsOf (a7 P w) es1.toList:=(hel.push hkey hsc).perm pm
  have sz1:es1.size=es.size + 1:=by rw [<- ϗ,pm.length_eq,ψ,ϗ]; rfl
  have hb1:es1.size < scanBound:=by rw [sz1,sz]; exact hlen
  have hx1:(es1.toList.map dG).Perm (xs ++ [y]):=by
   refine (pm.map dG).trans ?_
   rw [ω]
   exact hx.append (C_ _)
  refine γ (hgw _ ?_)
  split
  ·refine γ ?_
   rw [hashByValue_scannable 8 hsc]
   refine μ ?_
   refine nE ?_ ho hex hd hel1 hb1 (t2:={ t1 with plain:=false }) (q_.fits_plain_off ft) (by rw [<- hl]; exact ld.1) rfl hx1 ?_
   ·intro b s₁ Q' hq; cases b <;> first | exact μ hq | exact w_ hq
   ·intro h' sb hS'; dsimp only; exact μ (h h' true sb hS')
  ·rename_i hnp
   refine γ (μ ?_)
   simp only [↓reduceIte]
   refine nE ?_ ho hex hd hel1 hb1 ft (by rw [<- hl]; exact ld.1) (by cases z:t1.plain with | false=>rfl | true=>exact absurd z hnp) hx1 ?_
   ·intro b s₁ Q' hq; cases b <;> first | exact μ hq | exact w_ hq
   ·intro h' sb hS'; dsimp only; exact μ (h h' true sb hS')
end
def mS (acc:List Str) (y:Str):List Str:=if y∈acc then acc else acc ++ [y]
def uq (val:Nat->Str) (i:Nat):List Str:=((Φ i).map val).foldl mS []
theorem hV (val:Nat->Str) (i:Nat):uq val (i + 1)=mS (uq val i) (val i):=by
 unfold uq
 rw [CS,ω,List.foldl_append]
 rfl
theorem ki (val:Nat->Str):∀ i,(uq val i).length<=i
 | 0=>π _
 | i + 1=>by
  have ih:=ki val i
  rw [hV]
  unfold mS
  split
  ·omega
  ·rw [ψ,ϧ]; omega
theorem fi (val:Nat->Str):∀ i,(uq val i).Nodup
 | 0=>List.nodup_nil
 | i + 1=>by
  rw [hV]
  unfold mS
  split
  ·exact fi val i
  ·rename_i h
   exact Da.mpr ⟨fi val i,∅,λa ha b hb e=>h (by rw [θ.mp hb] at e; rw [<- e]; exact ha)⟩
theorem pi (val:Nat->Str) (x:Str):∀ i,x∈uq val i↔∃ j,j < i/\val j=x
 | 0=>⟨(λh=>nomatch h),(λ⟨j,h,_⟩=>absurd h (BJ _))⟩
 | i + 1=>by
  rw [hV]
  unfold mS
  have ih:=pi val x i
  constructor
  ·intro h
   split at h
   ·obtain ⟨j,hj,e⟩:=ih.mp h
    exact ⟨j,∅,e⟩
   ·rcases ϒ.mp h with h | h
    ·obtain ⟨j,hj,e⟩:=ih.mp h
     exact ⟨j,∅,e⟩
    ·exact ⟨i,∅,(θ.mp h).symm⟩
  ·rintro ⟨j,hj,e⟩
   split
   ·rename_i h
    by_cases hji:j=i
    ·rw [<- e,hji]; exact h
    ·exact ih.mpr ⟨j,∅,e⟩
   ·by_cases hji:j=i
    ·rw [<- e,hji]; exact ϝ _ (θ.mpr rfl)
    ·exact m9 _ (ih.mpr ⟨j,∅,e⟩)
section
variable {P:Β} {w:Ν} {A:Χ} {R:Ea->ζ->Prop} {I:Addr} {fp wr:List Addr} {G:Array Cq->Array Cq->Prop} {n:Nat} {Pv:Nat->δ->Prop} {St:Nat->ζ->Prop}
theorem ce.at' {h h':Heap} {a:Addr} {xs:List Str} (x:ce P w h a xs) (k:∀ o,h.get? a=some o->h'.get? a=some o):ce P w h' a xs:=let ⟨o,es,ep,t,ho,r⟩:=x; ⟨o,es,ep,t,k o ho,r⟩
theorem nh (W:WalksS P w A.in1 I fp wr G n Pv St) (S:Addr) (hSf:S∉fp) (val:Nat->Str) (hval:∀ i v,Pv i v->∃ t,v=.str (val i) t) (hb:n + 1 < scanBound) :
  ∀ (k i:Nat) (s:ζ),n - i=k->i<=n->St i s->ce P w s.heap S (uq val i)->(∀ s',Moved (S :: wr) G s s'->ce P w s'.heap S (uq val n)->R (.ok (.ret .none)) s') ->
   codeAny (model P w) A (.builtin "set.update.loop" ⟨[.ref S,.ref I],[]⟩) R s:=by
 have hSw:S∉wr:=λh=>hSf (W.sub _ h)
 have more:∀ b∈wr,b∈S :: wr:=λb hb=>ρ _ hb
 intro k
 induction k with
 | zero=>
  intro i s hk hi st hS fin
  obtain rfl:i=n:=by omega
  refine c9 F.entry_set_update_loop ?_
  rw [m_ CZ _]
  show wpAny _ A.in1 (pyNext (.ref I) >>= _) _ _ s
  refine γ (W.done s _ _ st λs' hm=>?_)
  show wpAny _ A.in1 (ret Ϫ) _ _ s'
  exact μ (fin s' (hm.mono more) (hS.at' λo e=>hm.heap S _ hSw e))
 | succ k ih=>
  intro i s hk hi st hS fin
  have hlt:i < n:=by omega
  refine c9 F.entry_set_update_loop ?_
  rw [m_ CZ _]
  show wpAny _ A.in1 (pyNext (.ref I) >>= _) _ _ s
  refine γ (W.item i s _ _ hlt st λv s' hP st' hm=>?_)
  obtain ⟨t,rfl⟩:=hval i v hP
  have hS':ce P w s'.heap S (uq val i):=hS.at' λo e=>hm.heap S _ hSw e
  show wpAny _ A.in1 (holding [i4 (val i) t] (setAdd S (.str (val i) t)) >>= _) _ _ s'
  refine γ (ϻ ?_)
  unfold setAdd
  refine ϻ (γ ((a7 P w).pyHash (k:=val i) (strKind_is _ _ _ _) ?_))
  have room:(uq val i).length + 1 < scanBound:=by have:=ki val i; omega
  refine mh (s:={ s' with toks:=s'.toks + 1 }) hS' room λh' b sb hS2=>?_
  have hSi:ce P w h' S (uq val (i + 1)):=by rw [hV]; exact hS2
  refine μ ⟨BS CZ _,ih (i + 1) _ ∅ hlt (W.frame _ s' _ _ st' (t_ _) λb hb o e=>?_) hSi λs'' hm'' hS''=>?_⟩
  ·rw [sb.2 b (λh:b=S=>hSf (by rw [<- h]; exact hb))]; exact e
  ·refine fin s'' (Moved.trans W.gtrans ((hm.mono more).then_heap (t_ _) λb o hb e=>?_) hm'') hS''
   rw [sb.2 b (λh:b=S=>hb (by rw [h]; exact Δ))]; exact e
end
def aT (w:Ν):Obj:={ cls:=.type "set",dict:=none,data:=.set #[] 0 (.fresh 0 0 (!w.params.followText "set-order")) }
section
variable {P:Β} {w:Ν} {A:Χ} {E:δ->ζ->Prop} {s:ζ}
theorem en (a:δ) {Q₁:δ->ζ->Prop} (h:Q₁ (.ref s.heap.objs.size) { s with heap:=s.heap.push (aT w) }) :
  codeAny (model P w) A (.call (.builtin "set.__new__") ⟨[.type "set",a],[]⟩) (wants Q₁ E) s:=by
 refine DJ ?_
 show wpAny _ A.in1 (do checkBuiltinCall "set.__new__" ⟨[.type "set",a],[]⟩; again (.builtin "set.__new__" ⟨[.type "set",a],[]⟩)) _ _ s
 refine γ (Fe (PySem.F.newCall_set_1 a) (μ ⟨BS PySem.F.plain_set_new _,c9 PySem.F.entry_set_new ?_⟩))
 rw [m_ PySem.F.plain_set_new _]
 unfold Ϡ.«set.__new__» Ϡ.Frozenset.newClass
 have hsub:=sub_set_self
 obtain ⟨hp,g,d,tk,os⟩:=s
 dsimp only
 wp_walk
 refine B7 (μ ?_)
 dsimp only
 simp only [newObj]
 refine γ (wpAny_alloc (μ ?_))
 exact μ h
theorem iS (h:Heap):ce P w (h.push (aT w)) h.objs.size []:=
 ⟨_,#[],0,_,τ _ rfl,⟨rfl,rfl,rfl⟩,rfl,λe he=>by simp at he,∅,rfl,rfl,λ_=>rfl,C_ _⟩
theorem jr {l:Addr} {items:Array δ} {ys:List Str} {Q:δ->ζ->Prop} (hh:A.handled=none) (hl:s.heap.IsList l items) (hi:∀ (i:Nat) (v:δ),items[i]?=some v->∃ t,v=.str (ys.getD i default) t) (hb:items.size + 1 < scanBound)
  (h:∀ (h':Heap) (tk:Nat),ce P w h' s.heap.objs.size (uq (λi=>ys.getD i default) items.size)->(∀ b o,b < s.heap.objs.size->s.heap.get? b=some o->h'.get? b=some o)->Q (.ref s.heap.objs.size) { s with heap:=h',toks:=tk }) :
  wpAny (model P w) A (call (.type "set") [.ref l]) Q E s:=by
 obtain ⟨c,tl,hmro⟩:=ϛ.mro
 have hmade:=ϛ.made
 have hsub:=ϛ.sub
 refine Do (DJ ?_)
 show wpAny _ _ (callAny (.type "set") _) _ _ _
 refine μ ⟨z_ _ ∅,c9 PySem.F.entry_type_call ?_⟩
 rw [Χ.under_plain (weight_type_call_type "set" [.ref l] []) rfl]
 have h1:=ϛ.notType
 have h2:=ϛ.canCreate
 have hct:=PySem.F.typeCall_set_1 (.ref l)
 repeat (any_goals (first | assumption | wp_step))
 refine x9 (en (.ref l) (E:=E) (Q₁:=λobj s₁=>obj=.ref s.heap.objs.size/\s₁={ s with heap:=s.heap.push (aT w) }) ⟨rfl,rfl⟩) λr s₁ hr=>?_
 cases r with
 | error e=>exact hr
 | ok fl=>
  cases fl with
  | ret obj=>
   obtain ⟨rfl,rfl⟩:=hr
   have hS:(s.heap.push (aT w)).get? s.heap.objs.size=some (aT w):=τ _ rfl
   have hT:ζ.TypeIs { s with heap:=s.heap.push (aT w) } (.ref s.heap.objs.size) "set":=⟨_,hS,rfl⟩
   have hli:=ϛ.init.lookup
   have hbi:=ϛ.init.bind (.ref s.heap.objs.size)
   repeat (any_goals (first | assumption | wp_step))
   refine x9 (n5 (R:=wants (λr s₂=>r=.none/\∃ h' tk,s₂={ s with heap:=h',toks:=tk }/\ce P w h' s.heap.objs.size (uq (λi=>ys.getD i default) items.size)/\(∀ b o,b < s.heap.objs.size->s.heap.get? b=some o->h'.get? b=some o)) E)
    ϛ.init.plain PySem.F.entry_set_init (check_set_init_1 hT ?_)) λr₂ s₂ hr₂=>?_
   ·obtain ⟨ol,hol,hcl,nl,hdl⟩:=hl
    obtain ⟨ocls,odict,odata,oslots⟩:=ol
    simp only at hcl hdl
    subst hcl; subst hdl
    have hol':(s.heap.push (aT w)).get? l=some { cls:=.type "list",dict:=odict,data:=.seq items nl,slots:=oslots }:=η _ hol
    have hsls:=PySem.F.sub_list_set
    have hslf:=PySem.F.sub_list_frozenset
    have hne:(k7 "list" == k7 "dict")=false:=by decide
    have hl1:(s.heap.push (aT w)).IsList l items:=⟨_,hol',rfl,nl,rfl⟩
    unfold aT at hS hT hol' hl1 ⊢
    unfold Ϡ.«set.__init__» noKeywords DK
    generalize hPI:pyIter=PI
    wp_walk
    subst hPI
    refine C2 hl1 ?_
    refine γ (Db ?_)
    have hlS:l < s.heap.objs.size:=χ hol
    have hh3:A.in1.in1.in1.handled=none:=by simp [hh]
    have hneI:l≠(s.heap.push (aT w)).objs.size:=by
     rw [Ϩ]; exact Ρ (k_ hlS)
    have hSf:s.heap.objs.size∉[(s.heap.push (aT w)).objs.size,l]:=by
     rw [Ϩ]; simp only [ν,θ,Ϸ,or_false,not_or]
     exact ⟨Ρ (y8 _),j7 hlS⟩
    refine nh ((Ft.list hh3 _ l hneI items).toS) s.heap.objs.size hSf (λi=>ys.getD i default) hi hb (items.size - 0) 0 _ ∅ (Ω _)
     ⟨⟨_,τ _ rfl,rfl,rfl⟩,(hl1.push _)⟩ ?hS0 ?hR
    case hS0=>exact (iS s.heap).at' λo e=>η _ e
    case hR=>
     intro s' hm hS'
     obtain ⟨h',g',d',tk',os'⟩:=s'
     have eg:g'=s.gens:=hm.gens
     have ed:d'=s.drawn:=hm.drawn
     have eo:os'=s.os:=hm.os
     subst eg; subst ed; subst eo
     show wpAny _ _ _ _ _ _
     refine μ ?_
     show wpAny _ _ (ret Ϫ) _ _ _
     refine μ ⟨rfl,h',tk',rfl,hS',λb o hb e=>?_⟩
     have hb1:b≠s.heap.objs.size:=Ρ hb
     have hb2:b≠(s.heap.push (aT w)).objs.size:=by
      rw [Ϩ]; exact Ρ (k_ hb)
     exact hm.heap b o (by simp only [ν,θ,Ϸ,or_false,not_or]; exact ⟨hb1,hb2⟩) (η _ (η _ e))
   ·cases r₂ with
    | error e=>exact hr₂
    | ok fl₂=>
     cases fl₂ with
     | ret r=>
      obtain ⟨rfl,h',tk,rfl,hS',hk'⟩:=hr₂
      repeat (any_goals (first | assumption | wp_step))
      exact h _ _ hS' hk'
     | _=>exact hr₂.elim
  | _=>exact hr.elim
end
theorem jp:entryFor table "set.__iter__"=some Ϡ.«frozenset.__iter__»:=entryFor_alias (id':="frozenset.__iter__") (by kernel_rfl) rfl ∅ (by kernel_rfl)
theorem bv:Slot "set_iterator" "__next__" "set_iterator.__next__":=.of (owner:="set_iterator") (n:="__next__") (by rw [E9,Di]; kernel_rfl) ∅ ∅ ∅ (by first | exact .inl ∅ | exact .inr ∅) (by rw [Ff]; kernel_rfl)
theorem dU:entryFor table "set_iterator.__next__"=some Ϡ.«set_iterator.__next__»:=entryFor_of_tree (by kernel_rfl)
theorem fZ (a:δ):argsOk "set_iterator.__next__" ⟨[a],[]⟩:=by
 unfold argsOk; kernel_rfl
theorem eZ {α:Type}:∀ (l:List α) (i:Nat) (h:i < l.length),(l[i] :: l.eraseIdx i).Perm l
 | a :: l,0,_=>.refl _
 | a :: l,i + 1,h=>by
  have:=eZ l i (by simpa using h)
  rw [List.eraseIdx_cons_succ,List.getElem_cons_succ]
  exact (Fm.swap _ _ _).trans (this.cons a)
section
variable {P:Β} {w:Ν} {A:Χ} {E:δ->ζ->Prop}
theorem pI {s:ζ} {n:Nat} {Q:Nat->ζ->Prop} (h0:n≠0) (h:∀ i d,i < n->Q i { s with drawn:=d }):wpAny (model P w) A (choose .order n) Q E s:=λΓ p hΓ=>by
 unfold choose
 rw [Sem.wp_choose]
 exact ⟨h0,h _ _ (Nat.mod_lt _ (Nat.pos_of_ne_zero h0))⟩
theorem uV {α:Type} (n:Nat):∀ (xs:List α) (s:ζ) {Q:List α->ζ->Prop},xs.length=n->(∀ ys d,ys.Perm xs->Q ys { s with drawn:=d })->wpAny (model P w) A (drawOrder n xs) Q E s:=by
 induction n with
 | zero=>
  intro xs s Q hl h
  rw [f_ hl] at h ⊢
  unfold drawOrder
  exact μ (h [] s.drawn (.refl _))
 | succ n ih=>
  intro xs s Q hl h
  cases xs with
  | nil=>cases hl
  | cons x xs=>
   unfold drawOrder
   refine γ (pI ∅ λi d hi=>?_)
   rw [Ζ hi]
   dsimp only
   refine γ (ih ((x :: xs).eraseIdx i) _ (by rw [Ei hi]; simpa using hl) λys d' hp=>?_)
   exact μ (h _ d' ((hp.cons _).trans (eZ _ i hi)))
theorem rm {α:Type} (next:Nat->Nat):∀ (n k:Nat) (left:List α) (out:Array α),left.length=n->(pickOrder.go next n k left out).toList.Perm (out.toList ++ left)
 | 0,k,left,out,h=>by
  rw [f_ h,m5]
  exact .refl _
 | n + 1,k,left,out,h=>by
  have hi:next k % left.length < left.length:=Nat.mod_lt _ ∅
  unfold pickOrder.go
  rw [Ζ hi]
  dsimp only
  refine (rm next n (k + 1) _ _ (by rw [Ei hi]; omega)).trans ?_
  rw [EC,Cm]
  exact Fm.append_left _ (eZ left _ hi)
theorem oS {α:Type} (next:Nat->Nat) (xs:Array α):(pickOrder next xs).toList.Perm xs.toList:=by
 have:=rm next xs.size 0 xs.toList #[] ∅
 simpa [pickOrder] using this
abbrev SIt (h:Heap) (it S:Addr) (first:δ) (i n ep:Nat):Prop:=h.get? it=some { cls:=.type "set_iterator",dict:=none,data:=.fields #[first,.int i 0,.ref S,.int n 0,.int ep 0],slots:=#[] }
variable {s:ζ} {it S:Addr} {o:Obj} {es:Array (Int×δ)} {ep n i:Nat} {t:q_}
theorem mf {slot slot':Nat} {x:δ} {Q:Option δ->ζ->Prop} (hit:SIt s.heap it S (rawInt slot) i n ep) (ho:s.heap.get? S=some o) (hd:o.data=.set es ep t) (hf:t.fits es.size=true) (hn:es.size=n)
  (hnext:∀ (A:Χ) (E:δ->ζ->Prop) (Q':Option (δ×Nat)->ζ->Prop),Q' (some (x,slot')) s->wpAny (model P w) A (setNext S slot i ep) Q' E s)
  (hQ:∀ h',SIt h' it S (rawInt slot') (i + 1) n ep->x6 it s.heap h'->Q (some x) { s with heap:=h' }):wpAny (model P w) A (pyNext (.ref it)) Q E s:=by
 have hT:s.TypeIs (.ref it) "set_iterator":=⟨_,hit,rfl⟩
 unfold pyNext
 refine γ (Ch (ϥ (name:=ξ "__next__") hT bv (ϙ bv hT dU ?_ (fZ _))))
 unfold Ϡ.«set_iterator.__next__»
 refine γ (μ ?_)
 refine γ (Ej hit rfl ?_)
 show wpAny _ _ (setEntries S >>= _) _ _ _
 refine γ (B3 ho hd hf ?_)
 rw [if_neg (by rw [hn]; simp)]
 show wpAny _ _ (setNext S ((slot:Int).toNat) ((i:Int).toNat) ((ep:Int).toNat) >>= _) _ _ _
 rw [ϭ,ϭ,ϭ]
 refine γ (hnext _ _ _ ?_)
 dsimp only
 refine γ (h_ hit ∅ λh1 e1 s1=>?_)
 refine γ (h_ e1 ∅ λh2 e2 s2=>?_)
 refine μ ⟨_,rfl,μ (hQ h2 ?_ (s1.trans s2))⟩
 have e:((i + 1:Nat):Int)=(i:Int) + 1:=by omega
 show h2.get? it=_
 rw [e]
 simpa [rawInt] using e2
end
section
variable {P:Β} {w:Ν} {A:Χ} {E:δ->ζ->Prop} {s:ζ} {it S:Addr} {o:Obj} {es:Array (Int×δ)} {ep n i:Nat} {t:q_}
theorem nQ {h0:Heap} {Q:Option δ->ζ->Prop} (hh:A.handled=none) (hQ:∀ h',(∀ b u,h0.get? b=some u->h'.get? b=some u)->Q none { s with heap:=h' }) :
  wpAny (model P w) A.in1 (newExc (.type "StopIteration") [] >>= λe=>(raiseNew e:Sem PySem.Fin)) (λ_ _=>False) (λe s'=>wpAny (model P w) A (isInstance e (.type "StopIteration")) (λb s2=>b=true/\Q none s2) E s') { s with heap:=h0 }:=by
 refine γ ?_
 simp only [newExc,newTuple]
 refine γ (Ϗ ?_ (by size_fits))
 refine γ (m:=firstArgMember _ _) (Fe (a:=Ϫ) (by first | rfl | (simp only [firstArgMember]; rfl)) ?_)
 refine Ϗ ?_ (by size_fits)
 simp only [raiseNew]
 refine γ (wpAny_handled ?_)
 rw [show A.in1.handled=none from hh]
 refine γ (μ (wpAny_throw ?_))
 refine CF (T:="StopIteration") (b:=true) ⟨_,τ _ rfl,rfl⟩ Fg ⟨rfl,?_⟩
 exact hQ _ λb u e=>η _ (η _ e)
theorem fU {slot:Nat} {Q:Option δ->ζ->Prop} (hh:A.handled=none) (hit:SIt s.heap it S (rawInt slot) i n ep) (ho:s.heap.get? S=some o) (hd:o.data=.set es ep t) (hf:t.fits es.size=true) (hn:es.size=n)
  (hnext:∀ (A:Χ) (E:δ->ζ->Prop) (Q':Option (δ×Nat)->ζ->Prop),Q' none s->wpAny (model P w) A (setNext S slot i ep) Q' E s)
  (hQ:∀ h',(∀ b u,b≠it->s.heap.get? b=some u->h'.get? b=some u)->Q none { s with heap:=h' }):wpAny (model P w) A (pyNext (.ref it)) Q E s:=by
 have hT:s.TypeIs (.ref it) "set_iterator":=⟨_,hit,rfl⟩
 unfold pyNext
 refine γ (Ch (ϥ (name:=ξ "__next__") hT bv (ϙ bv hT dU ?_ (fZ _))))
 unfold Ϡ.«set_iterator.__next__»
 refine γ (μ ?_)
 refine γ (Ej hit rfl ?_)
 show wpAny _ _ (setEntries S >>= _) _ _ _
 refine γ (B3 ho hd hf ?_)
 rw [if_neg (by rw [hn]; simp)]
 show wpAny _ _ (setNext S ((slot:Int).toNat) ((i:Int).toNat) ((ep:Int).toNat) >>= _) _ _ _
 rw [ϭ,ϭ,ϭ]
 refine γ (hnext _ _ _ ?_)
 show wpAny _ _ (setField (.ref it) 2 .none >>= _) _ _ s
 refine γ (A2 hit rfl ∅ ?_)
 refine Ϻ (nQ (P:=P) (w:=w) (A:=A) (E:=E) (s:=s) (Q:=Q) hh λh' k=>hQ h' λb u hb e=>k b u ?_) (λ_ _ z=>z.elim) λe s' z=>?_
 ·exact (r_ ..).extBut b u hb e
 ·refine γ (Ϻ z (λb s2 ⟨e1,e2⟩=>?_) λ_ _ y=>y)
  subst e1
  exact μ e2
end
section
variable {P:Β} {w:Ν} {A:Χ} {E:δ->ζ->Prop} {s:ζ} {it S tp:Addr} {o ot:Obj} {es:Array (Int×δ)} {ep n i m:Nat} {t:q_} {pl:Array δ}
theorem vo {p:Nat} {h:Int} {x:δ} {Q:δ->ζ->Prop} (ho:s.heap.get? S=some o) (hd:o.data=.set es ep t) (hf:t.fits es.size=true) (he:es[p]?=some (h,x)) (q:Q x s):wpAny (model P w) A (setNextDrawn S p ep) Q E s:=by
 unfold setNextDrawn
 refine γ (BO ho hd hf ?_)
 dsimp only
 rw [if_neg ∅]
 rw [he]
 exact μ q
theorem uC {p:Nat} {h:Int} {x:δ} {Q:Option δ->ζ->Prop} (hit:SIt s.heap it S (.ref tp) i n ep) (htp:s.heap.get? tp=some ot) (hdt:ot.data=.seq pl m) (ho:s.heap.get? S=some o) (hd:o.data=.set es ep t) (hf:t.fits es.size=true) (hn:es.size=n)
  (hp:pl[i]?=some (rawInt p)) (he:es[p]?=some (h,x)) (hQ:∀ h',SIt h' it S (.ref tp) (i + 1) n ep->x6 it s.heap h'->Q (some x) { s with heap:=h' }):wpAny (model P w) A (pyNext (.ref it)) Q E s:=by
 have hT:s.TypeIs (.ref it) "set_iterator":=⟨_,hit,rfl⟩
 unfold pyNext
 refine γ (Ch (ϥ (name:=ξ "__next__") hT bv (ϙ bv hT dU ?_ (fZ _))))
 unfold Ϡ.«set_iterator.__next__»
 refine γ (μ ?_)
 refine γ (Ej hit rfl ?_)
 show wpAny _ _ (setEntries S >>= _) _ _ _
 refine γ (B3 ho hd hf ?_)
 rw [if_neg (by rw [hn]; simp)]
 show wpAny _ _ (seqItems? (.ref tp) >>= _) _ _ _
 refine γ (i8 htp hdt ?_)
 show wpAny _ _ (match pl[(i:Int).toNat]? with | some (.int place _)=>_ | some _=>_ | none=>_) _ _ _
 rw [ϭ,hp]
 show wpAny _ _ (setNextDrawn S ((p:Int).toNat) ((ep:Int).toNat) >>= _) _ _ _
 rw [ϭ,ϭ]
 refine γ (vo ho hd hf he ?_)
 refine γ (h_ hit ∅ λh2 e2 s2=>?_)
 refine μ ⟨_,rfl,μ (hQ h2 ?_ s2)⟩
 have e:((i + 1:Nat):Int)=(i:Int) + 1:=by omega
 show h2.get? it=_
 rw [e]
 simpa [rawInt] using e2
theorem kU {Q:Option δ->ζ->Prop} (hh:A.handled=none) (hit:SIt s.heap it S (.ref tp) i n ep) (htp:s.heap.get? tp=some ot) (hdt:ot.data=.seq pl m) (ho:s.heap.get? S=some o) (hd:o.data=.set es ep t) (hf:t.fits es.size=true) (hn:es.size=n)
  (hp:pl[i]?=none) (hQ:∀ h',(∀ b u,b≠it->s.heap.get? b=some u->h'.get? b=some u)->Q none { s with heap:=h' }):wpAny (model P w) A (pyNext (.ref it)) Q E s:=by
 have hT:s.TypeIs (.ref it) "set_iterator":=⟨_,hit,rfl⟩
 unfold pyNext
 refine γ (Ch (ϥ (name:=ξ "__next__") hT bv (ϙ bv hT dU ?_ (fZ _))))
 unfold Ϡ.«set_iterator.__next__»
 refine γ (μ ?_)
 refine γ (Ej hit rfl ?_)
 show wpAny _ _ (setEntries S >>= _) _ _ _
 refine γ (B3 ho hd hf ?_)
 rw [if_neg (by rw [hn]; simp)]
 show wpAny _ _ (seqItems? (.ref tp) >>= _) _ _ _
 refine γ (i8 htp hdt ?_)
 show wpAny _ _ (match pl[(i:Int).toNat]? with | some (.int place _)=>_ | some _=>_ | none=>_) _ _ _
 rw [ϭ,hp]
 show wpAny _ _ (setField (.ref it) 0 (rawInt 0) >>= _) _ _ s
 refine γ (h_ hit ∅ λh2 e2 s2=>?_)
 refine γ (A2 e2 rfl ∅ ?_)
 refine Ϻ (nQ (P:=P) (w:=w) (A:=A) (E:=E) (s:=s) (Q:=Q) hh λh' k=>hQ h' λb u hb e=>k b u ?_) (λ_ _ z=>z.elim) λe s' z=>?_
 ·exact (r_ ..).extBut b u hb (s2.extBut b u hb e)
 ·refine γ (Ϻ z (λb s2 ⟨e1,e2⟩=>?_) λ_ _ y=>y)
  subst e1
  exact μ e2
theorem jJ {slot g:Nat} {Q:Option (δ×Nat)->ζ->Prop} (hbt:w.params.followText "set-order"=true) (ho:s.heap.get? S=some o) (hd:o.data=.set es ep t) (hf:t.fits es.size=true)
  (q:Q (((pickOrder (w.params.setOrder S ep) es)[g]?).map λe=>(e.2,slot)) s):wpAny (model P w) A (setNext S slot g ep) Q E s:=by
 unfold setNext setWalk setsByText
 refine γ (BO ho hd hf ?_)
 dsimp only
 refine γ (γ (B7 (μ ?_)))
 refine u6 (λ_=>?_) (λz=>absurd hbt z)
 refine u6 (λz=>absurd z ∅) (λ_=>?_)
 refine γ (γ (BO ho hd hf ?_))
 dsimp only
 refine γ (γ (B7 (μ ?_)))
 refine u6 (λ_=>?_) (λz=>absurd hbt z)
 refine γ (B7 (μ ?_))
 exact μ q
theorem nJ {slot g:Nat} {Q:Option (δ×Nat)->ζ->Prop} (hbt:w.params.followText "set-order"=false) (ho:s.heap.get? S=some o) (hd:o.data=.set es ep t) (hf:t.fits es.size=true) (hl:t.led=true) (h1:es.size<=1)
  (q:Q (match es[Cz t.place slot]?,t.place[Cz t.place slot]? with | some (_,x),some j=>some (x,j + 1) | _,_=>none) s):wpAny (model P w) A (setNext S slot g ep) Q E s:=by
 unfold setNext setsByText
 refine γ (BO ho hd hf ?_)
 dsimp only
 refine γ (γ (B7 (μ ?_)))
 refine u6 (λz=>absurd (hbt.symm.trans z) (λy=>nomatch y)) (λ_=>?_)
 refine u6 (λz=>absurd z ?_) (λ_=>?_)
 ·show ¬ ((!t.plain && decide (es.size > 1))=true)
  rw [decide_eq_false ∅,Ee]
  exact Θ
 refine γ ?_
 show wpAny _ _ (if (!t.led && !es.isEmpty)=true then _ else _) _ _ _
 rw [if_neg (by rw [hl]; simp)]
 refine μ ?_
 exact μ q
end
section
variable {P:Β} {w:Ν} {A:Χ} {E:δ->ζ->Prop} {s:ζ} {S:Addr} {o:Obj} {es:Array (Int×δ)} {ep:Nat} {t:q_}
theorem tH {Q:Bool->ζ->Prop} (ho:s.heap.get? S=some o) (hd:o.data=.set es ep t) (hf:t.fits es.size=true) (q:Q (!w.params.followText "set-order" && (!t.plain && decide (es.size > 1))) s):wpAny (model P w) A (setDrawn S) Q E s:=by
 unfold setDrawn setsByText
 refine γ (BO ho hd hf ?_)
 dsimp only
 refine γ (γ (B7 (μ ?_)))
 exact μ q
theorem vU {Q:δ->ζ->Prop} (ho:s.heap.get? S=some o) (hex:o.ExactSet) (hd:o.data=.set es ep t) (hf:t.fits es.size=true) (hz:es.size<=4000)
  (q0:(!w.params.followText "set-order" && (!t.plain && decide (es.size > 1)))=false->Q (.ref s.heap.objs.size) { s with heap:=s.heap.push { cls:=.type "set_iterator",data:=.fields #[rawInt 0,.int 0 0,.ref S,.int es.size 0,.int ep 0] } })
  (q1:(!w.params.followText "set-order" && (!t.plain && decide (es.size > 1)))=true->∀ (ys:List Nat) (d:DY),ys.Perm (Φ es.size)->Q (.ref (s.heap.objs.size + 1)) { s with heap:=(s.heap.push { cls:=.type "tuple",data:=.seq (ys.map λ(i:Nat)=>rawInt i).toArray }).push { cls:=.type "set_iterator",data:=.fields #[.ref s.heap.objs.size,.int 0 0,.ref S,.int es.size 0,.int ep 0] },drawn:=d }) :
  wpAny (model P w) A (pyIter (.ref S)) Q E s:=by
 have hT:s.TypeIs (.ref S) "set":=⟨o,ho,hex.1⟩
 refine wpAny_pyIter_slot hT PySem.F.slot_set_iter (ϙ PySem.F.slot_set_iter hT jp ?_ (PySem.F.args_set_iter_1 _))
 unfold Ϡ.«frozenset.__iter__» Ϡ.Frozenset.slot0 slotArgs
 simp only [List.isEmpty_nil,Bool.not_true,y_,↓reduceIte,bind_assoc,u_,bne_self_eq_false]
 unfold Ϡ.Frozenset.addrOf Ϡ.Frozenset.sizeOf
 refine γ (μ ?_)
 try dsimp only
 refine γ (μ ?_)
 refine γ (γ (B3 ho hd hf (μ ?_)))
 refine γ (tH ho hd hf ?_)
 cases hb:(!w.params.followText "set-order" && (!t.plain && decide (es.size > 1))) with
 | false=>
  simp only [y_,if_false]
  refine γ (μ ?_)
  refine γ (wpAny_setEpoch_of ho hd hf ?_)
  refine γ (Ϗ (μ ⟨_,rfl,"set_iterator",_,⟨_,τ _ rfl,rfl⟩,bv.lookup,?_⟩) ?_)
  ·exact q0 hb
  ·simp only [sizeOk,ς,ό,u_,υ]; omega
 | true=>
  simp only [if_true]
  refine γ (uV es.size (Φ es.size) _ ED λys d hp=>?_)
  have hl:ys.length<=4000:=by rw [hp.length_eq]; simpa using hz
  refine γ (Fc ?_ (by rw [ε,υ]; omega))
  have ho':(s.heap.push { cls:=.type "tuple",data:=.seq (ys.map λ(i:Nat)=>rawInt i).toArray }).get? S=some o:=η _ ho
  refine γ (wpAny_setEpoch_of ho' hd hf ?_)
  refine γ (Ϗ (μ ⟨_,rfl,"set_iterator",_,⟨_,τ _ rfl,rfl⟩,bv.lookup,?_⟩) ?_)
  ·have:=q1 hb ys d hp
   rw [Ϩ]
   exact this
  ·simp only [sizeOk,ς,ό,u_,υ]; omega
end
structure Wk (P:Β) (w:Ν) (it:Addr) (fp:List Addr) (vs:List δ) (St:Nat->Heap->Prop):Prop where
 keep:∀ i h h',St i h->(∀ b∈fp,∀ u,h.get? b=some u->h'.get? b=some u)->St i h'
 item:∀ (i:Nat) (s:ζ) (A:Χ) (Q:Option δ->ζ->Prop) (E:δ->ζ->Prop) (x:δ),St i s.heap->vs[i]?=some x ->
  (∀ h',St (i + 1) h'->(∀ b u,b≠it->s.heap.get? b=some u->h'.get? b=some u)->Q (some x) { s with heap:=h' })->wpAny (model P w) A (pyNext (.ref it)) Q E s
 done:∀ (s:ζ) (A:Χ) (Q:Option δ->ζ->Prop) (E:δ->ζ->Prop),A.handled=none->St vs.length s.heap ->
  (∀ h',(∀ b u,b≠it->s.heap.get? b=some u->h'.get? b=some u)->Q none { s with heap:=h' })->wpAny (model P w) A (pyNext (.ref it)) Q E s
section
variable {P:Β} {w:Ν} {it S tp:Addr} {o ot:Obj} {es:Array (Int×δ)} {ep m:Nat} {t:q_}
theorem xO (hbt:w.params.followText "set-order"=true) (hd:o.data=.set es ep t) (hf:t.fits es.size=true) (hne:S≠it) :
  Wk P w it [it,S] ((pickOrder (w.params.setOrder S ep) es).toList.map (·.2)) (λi h=>SIt h it S (rawInt 0) i es.size ep/\h.get? S=some o) where
 keep:=λi h h' st k=>⟨k it ∅ _ st.1,k S ∅ _ st.2⟩
 item:=λi s A Q E x st hx hQ=>by
  have hx':((pickOrder (w.params.setOrder S ep) es)[i]?).map (λe=>(e.2,0))=some (x,0):=by
   rw [Ψ,Dh] at hx
   cases e:(pickOrder (w.params.setOrder S ep) es)[i]? with
   | none=>rw [e] at hx; cases hx
   | some y=>rw [e] at hx; have:=Ϝ hx; rw [<- this]; rfl
  exact mf (slot':=0) st.1 st.2 hd hf rfl (λA E Q' q=>jJ hbt st.2 hd hf (by rw [hx']; exact q)) λh' hit' sb=>hQ h' ⟨hit',(sb.2 S hne).trans st.2⟩ λb u hb e=>(sb.2 b hb).trans e
 done:=λs A Q E hh st hQ=>by
  refine fU hh st.1 st.2 hd hf rfl (λA E Q' q=>jJ hbt st.2 hd hf ?_) hQ
  have e:(pickOrder (w.params.setOrder S ep) es)[((pickOrder (w.params.setOrder S ep) es).toList.map (·.2)).length]?=none:=by
   rw [ε,ϗ]
   exact Dc (π _)
  rw [e]; exact q
theorem ke {α:Type} {a:Array α} (h:a.size=1):∃ x,a=#[x]:=by
 cases a with
 | mk l=>match l,h with | [x],_=>exact ⟨x,rfl⟩
theorem jv (j k:Nat):Cz #[j] k=if j < k then 1 else 0:=by
 unfold Cz
 show Dd #[j] k 1 0 1=_
 unfold Dd
 rw [if_pos ∅]
 show (if j < k then Dd #[j] k 0 1 1 else Dd #[j] k 0 0 0)=_
 split
 ·rfl
 ·rfl
theorem yE (hbt:w.params.followText "set-order"=false) (hd:o.data=.set es ep t) (hf:t.fits es.size=true) (hl:t.led=true) (h1:es.size<=1) (hne:S≠it) :
  Wk P w it [it,S] (es.toList.map (·.2)) (λi h=>SIt h it S (rawInt ((if i=0 then 0 else t.place.getD 0 0 + 1:Nat))) i es.size ep/\h.get? S=some o) where
 keep:=λi h h' st k=>⟨k it ∅ _ st.1,k S ∅ _ st.2⟩
 item:=λi s A Q E x st hx hQ=>by
  have hi:i < es.size:=by have:=(ο.mp hx).1; simpa using this
  have i0:i=0:=by omega
  subst i0
  have n1:es.size=1:=by omega
  have ps:t.place.size=1:=by
   have:=hf
   simp only [q_.fits,Ε,beq_iff_eq] at this
   rw [this.1,n1]
  obtain ⟨j,hj⟩:=ke ps
  obtain ⟨y,hy⟩:=ke n1
  have ex:y.2=x:=by
   rw [hy] at hx
   simpa using hx
  refine mf (slot:=0) (slot':=j + 1) st.1 st.2 hd hf rfl (λA E Q' q=>nJ hbt st.2 hd hf hl h1 ?_) λh' hit' sb=>hQ h' ⟨?_,(sb.2 S hne).trans st.2⟩ λb u hb e=>(sb.2 b hb).trans e
  ·have b0:Cz t.place 0=0:=by rw [hj,jv,if_neg (BJ _)]
   rw [b0,hj,hy]
   show Q' (some (y.2,j + 1)) s
   rw [ex]; exact q
  ·have e:t.place.getD 0 0=j:=by rw [hj]; rfl
   show SIt h' it S (rawInt ((if (0 + 1:Nat)=0 then 0 else t.place.getD 0 0 + 1:Nat))) (0 + 1) es.size ep
   rw [if_neg ∅,e]
   exact hit'
 done:=λs A Q E hh st hQ=>by
  refine fU hh st.1 st.2 hd hf rfl (λA E Q' q=>nJ hbt st.2 hd hf hl h1 ?_) hQ
  have ps:t.place.size=es.size:=by
   have:=hf
   simp only [q_.fits,Ε,beq_iff_eq] at this
   exact this.1
  have e:es[Cz t.place (if (es.toList.map (·.2)).length=0 then 0 else t.place.getD 0 0 + 1)]?=none:=by
   rw [ε,ϗ]
   by_cases z:es.size=0
   ·exact Dc ∅
   ·have n1:es.size=1:=by omega
    rw [n1] at ps
    obtain ⟨j,hj⟩:=ke ps
    rw [if_neg z,hj]
    have e2:(#[j]:Array Nat).getD 0 0=j:=rfl
    rw [e2,jv,if_pos (y8 _)]
    exact Dc ∅
  rw [e]; exact q
theorem xL {ys:List Nat} (hp:ys.Perm (Φ es.size)) (hdt:ot.data=.seq (ys.map λ(i:Nat)=>rawInt i).toArray m) (hd:o.data=.set es ep t) (hf:t.fits es.size=true) (hne:S≠it) (hte:tp≠it) :
  Wk P w it [it,S,tp] (ys.map λp=>(es.getD p (0,Ϫ)).2) (λi h=>SIt h it S (.ref tp) i es.size ep/\h.get? S=some o/\h.get? tp=some ot) where
 keep:=λi h h' st k=>⟨k it ∅ _ st.1,k S ∅ _ st.2.1,k tp ∅ _ st.2.2⟩
 item:=λi s A Q E x st hx hQ=>by
  rw [Ψ] at hx
  cases e:ys[i]? with
  | none=>rw [e] at hx; cases hx
  | some p=>
   rw [e] at hx
   have hx':(es.getD p (0,Ϫ)).2=x:=Ϝ hx
   have hlt:p < es.size:=ϸ.mp (hp.mem_iff.mp (Λ e))
   have he:es[p]?=some ((es.getD p (0,Ϫ)).1,x):=by
    rw [<- hx']
    simp [Eg,hlt]
   refine uC st.1 st.2.2 hdt st.2.1 hd hf rfl (p:=p) ?_ he λh' hit' sb=>hQ h' ⟨hit',(sb.2 S hne).trans st.2.1,(sb.2 tp hte).trans st.2.2⟩ λb u hb e=>(sb.2 b hb).trans e
   rw [List.getElem?_toArray,Ψ,e]; rfl
 done:=λs A Q E hh st hQ=>by
  refine kU hh st.1 st.2.2 hdt st.2.1 hd hf rfl ?_ hQ
  rw [List.getElem?_toArray]
  exact b_ ∅
end
section
variable {P:Β} {w:Ν} {A:Χ} {E:δ->ζ->Prop} {s:ζ} {S:Addr} {xs:List Str}
theorem mH:∀ {l:List (Int×δ)},ElemsOf (a7 P w) l->ar ((l.map dG).map V.str) (l.map (·.2))
 | [],_=>.nil
 | e :: l,h=>by
  obtain ⟨⟨k,hk,_⟩,_⟩:=h.head
  obtain ⟨tk,ht⟩:=DO hk
  refine .cons ?_ (mH h.tail)
  show ∃ t,e.2=i4 (dG e) t
  exact ⟨tk,by rw [gt hk]; exact ht⟩
def sC (w:Ν) (h:Heap) (a:Addr) (us:List δ):Prop:=∃ o es ep t,h.get? a=some o/\o.ExactSet/\o.data=.set es ep t/\t.fits es.size=true/\t.led=(!w.params.followText "set-order")/\(t.plain=true->es.size<=1)/\(es.toList.map (·.2)).Perm us
theorem su {us:List δ} {Q:δ->ζ->Prop} (hS:sC w s.heap S us) (hx:us.length<=4000)
  (q:∀ (h':Heap) (d:DY) (it:Addr) (fp:List Addr) (vs:List δ) (St:Nat->Heap->Prop),(∀ b u,s.heap.get? b=some u->h'.get? b=some u)->Wk P w it fp vs St->St 0 h'->(∀ b∈fp,b=S\/s.heap.objs.size<=b)->s.heap.objs.size<=it->vs.Perm us->Q (.ref it) { s with heap:=h',drawn:=d }) :
  wpAny (model P w) A (pyIter (.ref S)) Q E s:=by
 obtain ⟨o,es,ep,t,ho,hex,hd,hf,hl,hpl,hp⟩:=hS
 have sz:es.size=us.length:=by rw [<- hp.length_eq,ε,ϗ]
 have hlt:S < s.heap.objs.size:=χ ho
 refine vU ho hex hd hf ∅ (λhb0=>?_) (λhb1 ys d hys=>?_)
 ·have e0:s={ s with drawn:=s.drawn }:=by cases s; rfl
  have ne:S≠s.heap.objs.size:=Ρ hlt
  have go:=q (s.heap.push { cls:=.type "set_iterator",data:=.fields #[rawInt 0,.int 0 0,.ref S,.int es.size 0,.int ep 0] }) s.drawn s.heap.objs.size [s.heap.objs.size,S]
  have fpo:∀ b∈[s.heap.objs.size,S],b=S\/s.heap.objs.size<=b:=λb hb=>by
   rcases ν.mp hb with rfl | hb
   ·exact .inr (π _)
   ·exact .inl (θ.mp hb)
  cases hbt:w.params.followText "set-order" with
  | true=>
   have pm:=oS (w.params.setOrder S ep) es
   exact go _ _ (λb u e=>η _ e) (xO hbt hd hf ne) ⟨τ _ rfl,η _ ho⟩ fpo (π _) ((pm.map _).trans hp)
  | false=>
   have h1:es.size<=1:=by
    rw [hbt] at hb0
    by_cases z:es.size > 1
    ·rw [decide_eq_true z] at hb0
     cases pz:t.plain with
     | true=>have:=hpl pz; omega
     | false=>rw [pz] at hb0; cases hb0
    ·omega
   exact go _ _ (λb u e=>η _ e) (yE hbt hd hf (by rw [hl,hbt]; rfl) h1 ne) ⟨τ _ rfl,η _ ho⟩ fpo (π _) hp
 ·have hsz:(s.heap.push { cls:=.type "tuple",data:=.seq (ys.map λ(i:Nat)=>rawInt i).toArray }).objs.size=s.heap.objs.size + 1:=Ϩ ..
  have ne:S≠s.heap.objs.size + 1:=Ρ (k_ hlt)
  have ne2:s.heap.objs.size≠s.heap.objs.size + 1:=Ρ (y8 _)
  have itAt:((s.heap.push { cls:=.type "tuple",data:=.seq (ys.map λ(i:Nat)=>rawInt i).toArray }).push { cls:=.type "set_iterator",data:=.fields #[.ref s.heap.objs.size,.int 0 0,.ref S,.int es.size 0,.int ep 0] }).get? (s.heap.objs.size + 1)=some { cls:=.type "set_iterator",dict:=none,data:=.fields #[.ref s.heap.objs.size,.int 0 0,.ref S,.int es.size 0,.int ep 0],slots:=#[] }:=by
   rw [<- hsz]; exact τ _ rfl
  have perm2:(ys.map λp=>es.getD p (0,Ϫ)).Perm es.toList:=by
   refine (hys.map _).trans ?_
   have e:(Φ es.size).map (λp=>es.getD p (0,Ϫ))=es.toList:=by
    apply List.ext_getElem
    ·simp
    ·intro i h1 h2
     have hi:i < es.size:=by simpa using h1
     simp [Eg,hi]
   rw [e]
  have vs:=(perm2.map (λx:Int×δ=>x.2)).trans hp
  rw [ϓ (g:=λx:Int×δ=>x.2)] at vs
  refine q _ d (s.heap.objs.size + 1) [s.heap.objs.size + 1,S,s.heap.objs.size] _ _ (λb u e=>η _ (η _ e)) (xL (tp:=s.heap.objs.size) (m:=0) (ot:={ cls:=.type "tuple",data:=.seq (ys.map λ(i:Nat)=>rawInt i).toArray }) hys rfl hd hf ne ne2)
   ⟨itAt,η _ (η _ ho),η _ (τ _ rfl)⟩ (λb hb=>?_) (t_ _) vs
  simp only [ν,Ϸ,or_false] at hb
  rcases hb with rfl | rfl | rfl
  ·exact .inr (t_ _)
  ·exact .inl rfl
  ·exact .inr (π _)
variable {R:Ea->ζ->Prop} {it L:Addr} {fp:List Addr} {vs:List δ} {St:Nat->Heap->Prop}
theorem tQ (W:Wk P w it fp vs St) (hh:A.handled=none) (hL:L∉fp) (hLi:L≠it) (hn:vs.length<=4000) (res:δ) {h₁:Heap}
  (hR:∀ h' tk c acc,(∀ b u,b≠L->b≠it->h₁.get? b=some u->h'.get? b=some u)->h'.get? L=some { cls:=.type "list",dict:=none,data:=.seq acc c,slots:=#[] }->acc.toList=vs->R (.ok (.ret res)) { s with heap:=h',toks:=tk }) :
  ∀ (k i:Nat) (h:Heap) (tk c:Nat) (acc:Array δ),vs.length - i=k->i<=vs.length->St i h->(∀ b u,b≠L->b≠it->h₁.get? b=some u->h.get? b=some u)->h.get? L=some { cls:=.type "list",dict:=none,data:=.seq acc c,slots:=#[] }->acc.toList=vs.take i ->
   codeAny (model P w) A (.builtin "list.extend.loop" ⟨[.ref L,.ref it,res],[]⟩) R { s with heap:=h,toks:=tk }:=by
 intro k
 induction k with
 | zero=>
  intro i h tk c acc hk hi st kp hl ha
  obtain rfl:i=vs.length:=by omega
  refine c9 Eu ?_
  rw [m_ g_ _]
  show wpAny _ A.in1 (pyNext (.ref it) >>= _) _ _ _
  refine γ (W.done { s with heap:=h,toks:=tk } A.in1 _ _ hh st λh' k'=>?_)
  exact μ (hR h' tk c acc (λb u h1 h2 e=>k' b u h2 (kp b u h1 h2 e)) (k' L _ hLi hl) (by rw [ha,Ϥ]))
 | succ k ih=>
  intro i h tk c acc hk hi st kp hl ha
  have hlt:i < vs.length:=by omega
  have hsz:acc.size=i:=by rw [<- ϗ,ha,ϊ]; omega
  refine c9 Eu ?_
  rw [m_ g_ _]
  show wpAny _ A.in1 (pyNext (.ref it) >>= _) _ _ _
  refine γ (W.item i { s with heap:=h,toks:=tk } A.in1 _ _ vs[i] st (Ζ hlt) λh' st' k'=>?_)
  dsimp only at k' ⊢
  have hl':=k' L _ hLi hl
  have up:∀ b u,b≠L->h'.get? b=some u->(h'.update L (i5 (·.push vs[i]))).get? b=some u:=λb u hb e=>(ύ _ _ (ώ hb)).trans e
  show wpAny _ A.in1 (updateSeq L (·.push vs[i]) >>= _) _ _ _
  refine γ ?_
  refine BL hl' rfl (μ ⟨BS g_ _,ih (i + 1) _ tk _ (acc.push vs[i]) ∅ hlt (W.keep _ _ _ st' λb hb u e=>up b u (λz=>hL (z▸hb)) e) (λb u h1 h2 e=>up b u h1 (k' b u h2 (kp b u h1 h2 e))) (Ϛ _ hl' rfl) ?_⟩) (by rw [hsz,υ]; omega) (by show (acc.push vs[i]).size<=sizeLine + 1; rw [Array.size_push,hsz,υ]; omega)
  rw [EC,ha,ϣ,Ζ hlt]; rfl
theorem vi (hT:s.TypeIs (.ref S) "set") {Q:Bool->ζ->Prop} (h:Q false s):wpAny (model P w) A (x_ (.ref S)) Q E s:=by
 unfold x_
 refine γ (DF hT PySem.F.slot_set_len.lookup ?_)
 generalize hid:("set.__len__" : String)=id0
 wp_delta
 rw [show splitId id0=some ("set","__len__") from by subst hid; decide +kernel]
 subst hid
 refine γ (CF (T:="set") (b:=true) hT (by rw [Ff]; kernel_rfl) ?_)
 refine u6 (λhab=>absurd hab ∅) (λ_=>?_)
 refine u6 (λ_=>?_) (λhab=>absurd ∅ hab)
 refine γ (B9 hT ?_)
 exact μ h
end
section
variable {P:Β} {w:Ν} {A:Χ} {E:δ->ζ->Prop} {s:ζ} {S:Addr} {xs:List Str}
theorem wX {us:List δ} {R:Ea->ζ->Prop} (hh:A.handled=none) (hS:sC w s.heap S us) (hx:us.length<=4000) (L:Addr) (hLS:L≠S) (res:δ) (hL:s.heap.get? L=some { cls:=.type "list",data:=.seq #[] })
  (hR:∀ (h':Heap) (d:DY) (tk c:Nat) (acc:Array δ),(∀ b u,b≠L->s.heap.get? b=some u->h'.get? b=some u)->h'.get? L=some { cls:=.type "list",dict:=none,data:=.seq acc c,slots:=#[] }->acc.toList.Perm us->R (.ok (.ret res)) { s with heap:=h',toks:=tk,drawn:=d }) :
  wpAny (model P w) A.in1 (ϩ (.ref L) (.ref S) res) (λfin s'=>match fin with | .done f=>R (.ok f) s' | .again c'=>c'.quiet=true/\codeAny (model P w) A c' R s') (λe s'=>R (.error e) s') s:=by
 have hT:s.TypeIs (.ref S) "set":=let ⟨o,_,_,_,ho,hex,_⟩:=hS; ⟨o,ho,hex.1⟩
 have lL:L < s.heap.objs.size:=χ hL
 unfold ϩ
 refine γ (B9 (T:="set") hT ?_)
 have h1:BU (.ref L) (.ref S)=false:=by simp [BU,hLS]
 have h2:(k7 "set" == k7 "list")=false:=by decide
 have h3:(k7 "set" == k7 "tuple")=false:=by decide
 simp only [h1,h2,h3,EJ,y_,if_false]
 refine γ (su hS hx λh1 d it fp vs St k1 W st hfp hit hp=>?_)
 have hLf:L∉fp:=λz=>by
  rcases hfp L z with e | e
  ·exact hLS e
  ·exact absurd lL (EW.mpr e)
 have hLi:L≠it:=λz=>absurd lL (EW.mpr (z▸hit))
 have hvs:vs.length<=4000:=by rw [hp.length_eq]; exact hx
 have key:∀ (h:Heap) (c tk:Nat),(∀ b u,b≠L->h1.get? b=some u->h.get? b=some u)->h.get? L=some { cls:=.type "list",data:=.seq #[] c }->codeAny (model P w) A (.builtin "list.extend.loop" ⟨[.ref L,.ref it,res],[]⟩) R { s with heap:=h,toks:=tk,drawn:=d }:=by
  intro h c tk hk hL1
  refine tQ (s:={ s with drawn:=d }) W hh hLf hLi hvs res (h₁:=s.heap) (λh' tk' c' acc k' hl' ha=>?_) vs.length 0 h tk c #[] (Nat.sub_zero _) (Ω _) (W.keep _ _ _ st λb hb u e=>hk b u (λz=>hLf (z▸hb)) e) (λb u hb _ e=>hk b u hb (k1 b u e)) hL1 rfl
  refine hR h' d tk' c' acc (λb u hb e=>k' b u hb (λz=>absurd (χ e) (EW.mpr (z▸hit))) e) hl' (by rw [ha]; exact hp)
 have hL1:=k1 L _ hL
 have hT1:ζ.TypeIs { s with heap:=h1,drawn:=d } (.ref S) "set":=let ⟨o,ho,hc⟩:=hT; ⟨o,k1 S o ho,hc⟩
 refine γ (ϻ (vi hT1 ?_))
 refine u6 (λ_=>?_) (λ_=>μ ⟨BS g_ _,key _ _ _ (λb u _ e=>e) hL1⟩)
 refine γ (w_ ?_)
 refine γ ?_
 show wpAny _ _ (updateSeq L (·.push .none) >>= λ_=>updateSeq L (·.pop)) _ _ _
 refine γ (BL hL1 rfl ?_)
 have hL2:=Ϛ (i5 (·.push Ϫ)) hL1 rfl
 refine BL (hz:=by seq_fits) hL2 rfl ?_
 have hL3:=Ϛ (i5 (·.pop)) hL2 rfl
 refine μ ⟨BS g_ _,key _ _ _ (λb u hb e=>?_) hL3⟩
 exact (ύ _ _ (ώ hb)).trans ((ύ _ _ (ώ hb)).trans e)
theorem sC.at' {h h':Heap} {a:Addr} {us:List δ} (x:sC w h a us) (k:∀ o,h.get? a=some o->h'.get? a=some o):sC w h' a us:=let ⟨o,es,ep,t,ho,r⟩:=x; ⟨o,es,ep,t,k o ho,r⟩
theorem ku {us:List δ} {R:List δ->ζ->Prop} (hh:A.handled=none) (hS:sC w s.heap S us) (hx:us.length<=4000)
  (h:∀ (h':Heap) (d:DY) (tk:Nat) (vs:List δ),(∀ b u,s.heap.get? b=some u->h'.get? b=some u)->vs.Perm us->R vs { s with heap:=h',toks:=tk,drawn:=d }) :
  wpAny (model P w) A (collect (.ref S)) R E s:=by
 have hlt:S < s.heap.objs.size:=let ⟨o,_,_,_,ho,_⟩:=hS; χ ho
 unfold collect
 refine γ (Db (c9 entry_proto_collect' ?_))
 rw [m_ PySem.F.plain_proto_collect _]
 show wpAny _ A.in1 (newList [] >>= λl=>again (.builtin "list.__iadd__" ⟨[l,.ref S],[]⟩)) _ _ s
 refine γ (Ϗ ?_)
 refine μ ⟨BS PySem.F.plain_list_iadd _,c9 entry_list_iadd' ?_⟩
 rw [m_ PySem.F.plain_list_iadd _]
 have hL1:(s.heap.push { cls:=.type "list",data:=.seq ([]:List δ).toArray }).get? s.heap.objs.size=some { cls:=.type "list",data:=.seq #[] }:=τ _ rfl
 show wpAny _ A.in1 (ϩ (.ref s.heap.objs.size) (.ref S) (.ref s.heap.objs.size)) _ _ _
 have key:=wX (P:=P) (A:=A) (s:={ s with heap:=s.heap.push { cls:=.type "list",data:=.seq ([]:List δ).toArray } })
  (R:=λ(q:Ea) (s':ζ)=>∃ (h':Heap) (d:DY) (tk c:Nat) (acc:Array δ),q=.ok (.ret (.ref s.heap.objs.size))/\s'={ s with heap:=h',toks:=tk,drawn:=d }/\(∀ b u,s.heap.get? b=some u->h'.get? b=some u)/\h'.get? s.heap.objs.size=some { cls:=.type "list",dict:=none,data:=.seq acc c,slots:=#[] }/\acc.toList.Perm us)
  hh (hS.at' λo e=>η _ e) hx s.heap.objs.size (j7 hlt) (.ref s.heap.objs.size) hL1
  (λh' d tk c acc k hl hp=>⟨h',d,tk,c,acc,rfl,rfl,λb u e=>k b u (Ρ (χ e)) (η _ e),hl,hp⟩)
 refine Ϻ key (λfin s' x=>?_) λe s' x=>?_
 ·cases fin with
  | done f=>
   obtain ⟨h',d,tk,c,acc,e,rfl,k,hl,hp⟩:=x
   cases e
   show wpAny _ A (load s.heap.objs.size >>= _) _ _ _
   refine γ (Fp hl ?_)
   exact μ (h h' d tk acc.toList k hp)
  | again c₁=>
   refine ⟨x.1,x9 x.2 λq s₂ y=>?_⟩
   obtain ⟨h',d,tk,c,acc,rfl,rfl,k,hl,hp⟩:=y
   show wpAny _ A (load s.heap.objs.size >>= _) _ _ _
   refine γ (Fp hl ?_)
   exact μ (h h' d tk acc.toList k hp)
 ·obtain ⟨_,_,_,_,_,e',_⟩:=x
  cases e'
theorem jY {α β:Type} (f:α->β) {l k:List β} (h:l.Perm k):∀ {m:List α},k=m.map f->∃ m':List α,m'.Perm m/\l=m'.map f:=by
 induction h with
 | nil=>intro m e; exact ⟨[],by rw [List.map_eq_nil_iff.mp e.symm],rfl⟩
 | cons x _ ih=>
  intro m e
  cases m with
  | nil=>cases e
  | cons a m=>
   injection e with e1 e2
   obtain ⟨m',p,rfl⟩:=ih e2
   exact ⟨a :: m',p.cons a,by rw [Υ,e1]⟩
 | swap x y l=>
  intro m e
  cases m with
  | nil=>cases e
  | cons a m=>
   cases m with
   | nil=>injection e with _ e; cases e
   | cons b m=>
    injection e with e1 e2
    injection e2 with e2 e3
    exact ⟨b :: a :: m,Fm.swap a b m,by rw [Υ,Υ,e1,e2,e3]⟩
 | trans _ _ ih1 ih2=>
  intro m e
  obtain ⟨m2,p2,e2⟩:=ih2 e
  obtain ⟨m1,p1,e1⟩:=ih1 e2
  exact ⟨m1,p1.trans p2,e1⟩
theorem mQ {R:List δ->ζ->Prop} (hh:A.handled=none) (hS:ce P w s.heap S xs) (hx:xs.length<=1000)
  (h:∀ (h':Heap) (d:DY) (tk:Nat) (vs:List δ) (os:List Str),(∀ b u,s.heap.get? b=some u->h'.get? b=some u)->ar (os.map V.str) vs->os.Perm xs->R vs { s with heap:=h',toks:=tk,drawn:=d }) :
  wpAny (model P w) A (collect (.ref S)) R E s:=by
 obtain ⟨o,es,ep,t,ho,hex,hd,hel,hb,hf,hl,hpl,hp⟩:=hS
 refine ku (us:=es.toList.map (·.2)) hh ⟨o,es,ep,t,ho,hex,hd,hf,hl,λz=>by have:=hpl z; omega,.refl _⟩ (by have:=hp.length_eq; rw [ε] at this ⊢; omega) λh' d tk vs k pv=>?_
 obtain ⟨es',pe,rfl⟩:=jY _ pv rfl
 exact h h' d tk _ (es'.map dG) k (mH (hel.perm pe)) ((pe.map _).trans hp)
end
def lK (a b:Str):Prop:=a.cps.toList < b.cps.toList
section
variable {X:Cx} {pins:List (Addr×Obj)} {σ:St} {H:Hp} {s:ζ}
theorem cp {ps:List Str} {its:List δ} (rv:ar (ps.map V.str) its) (i:Nat) (hi:i < ps.length):∃ t,its.getD i .none=i4 (ps.getD i default) t:=by
 obtain ⟨u,hu,ru⟩:=ar.get (i:=i) (x:=V.str ps[i]) rv (by rw [Ψ,Ζ hi]; rfl)
 obtain ⟨t,rfl⟩:=(show ∃ t,u=i4 ps[i] t from ru)
 exact ⟨t,by simp [u9,hu,hi]⟩
theorem jE {A:Χ} {E:δ->ζ->Prop} {l:Addr} {ps:List Str} {Q:δ->ζ->Prop} (I:Inv X pins σ H s) (hq:H l=some (.lst (ps.map V.str))) (nd:ps.Nodup) (h64:ps.length < 64)
  (q:∀ (qs:List Str) (h':Heap),qs.Perm ps->qs.Pairwise lK->Inv X pins σ (upd H l (.lst (qs.map V.str))) { s with heap:=h' }->Q .none { s with heap:=h' }):wpAny (model X.prog X.w) A (call (.builtin "list.sort") [.ref l]) Q E s:=by
 obtain ⟨hz,its,n,rv,at0⟩:=(show aI X.prog X.w H s.heap l (.lst (ps.map V.str)) from I.hok l _ hq)
 have li:its.length=ps.length:=by have:=rv.length; rw [ε] at this; exact this.symm
 obtain ⟨m,hm,_⟩:=I.loc
 have nL:l≠X.env.locals:=λz=>by rw [z,I.free] at hq; cases hq
 by_cases few:ps.length < 2
 ·refine ϙ Cw ⟨_,at0,rfl⟩ Cf (cw at0 ∅ λhp ep k2 e2=>⟨_,rfl,?_⟩) (Cy _)
  refine q ps hp (C_ _) ?_ (I.setList hm hq rv hz (hm.at' λo e=>k2 _ o (ώ nL) e) (λb o _ hb z=>k2 b o hb z) e2)
  match ps,few with
  | [],_=>exact .nil
  | [p],_=>exact CY _ _
 ·have F0:Fr (Att.noObjs s.heap) X.env.locals s.heap m:=Att.fr_all hm
  generalize hN:(dQ (Att.noObjs s.heap) s.heap X.env.locals).filter (λp=>decide (p.1≠l))=nw
  have N0:News (Att.noObjs s.heap) X.env.locals s.heap nw:=λp hp=>by rw [<- hN] at hp; exact iI p (i3.mp hp).1
  have nl0:∀ p∈nw,p.1≠l:=λp hp=>by rw [<- hN] at hp; exact of_decide_eq_true (i3.mp hp).2
  refine ϙ Cw ⟨_,at0,rfl⟩ Cf (kat_list_sort F0 N0 at0 nL (Att.noObjs_get _ _) nl0 ∅ ∅ λe1 h' F' N'=>?_) (Cy _)
  have keep:∀ (g:Heap) (x:Obj),News (Att.noObjs s.heap) X.env.locals g ((l,x) :: nw)->∀ b o,b≠X.env.locals->b≠l->s.heap.get? b=some o->g.get? b=some o:=λg x N b o hb hl e=>
   (N (b,o) (ρ _ (by rw [<- hN]; exact i3.mpr ⟨dl hb (Att.noObjs_get _ _) e,decide_eq_true hl⟩))).1
  have kk:keyKind' its.toArray=pure oneType':=by
   have st:=fS rv
   match its,li,st with
   | v1 :: v2 :: r,_,st=>exact keyKind_strs st
   | [_],li,_=>simp at li; omega
   | [],li,_=>simp at li; omega
  rw [kk]
  refine μ ?_
  rw [li]
  have unlike:∀ i j,i < ps.length->j < ps.length->i≠j->ps.getD i default≠ps.getD j default:=λi j hi hj hij e=>by
   have ei:ps.getD i default=ps[i]:=by simp [u9,hi]
   have ej:ps.getD j default=ps[j]:=by simp [u9,hj]
   rw [ei,ej] at e
   exact hij ((B4 nd).mp e)
  have O:Ord (kas_ask X.prog X.w A.in1 oneType' its) (λi j=>decide ((ps.getD i default).cps.toList < (ps.getD j default).cps.toList)) ps.length { s with heap:=h' }:=by
   refine ⟨λi j C hi hj hij hC=>?_,λi j k h1 h2=>?_,λi j hi hj hij h1=>?_,λi j h1=>?_⟩
   ·show wpAny _ _ (keyLt' _ _ _) C _ _
    obtain ⟨t1,e1⟩:=cp rv i hi
    obtain ⟨t2,e2⟩:=cp rv j hj
    rw [e1,e2]
    exact kas_lt_str hC
   ·exact decide_eq_true (List.lt_trans (of_decide_eq_true h1) (of_decide_eq_true h2))
   ·exact decide_eq_true (qS (of_decide_eq_false h1) λe=>unlike i j hi hj hij (rC e))
   ·exact decide_eq_false (List.lt_asymm (of_decide_eq_true h1))
  refine qM O ∅ λp re up=>?_
  have hl2:p.toList.Perm (Φ ps.length):=by simpa using p_.mp re.perm
  have outs:∀ il:List Nat,(∀ i∈il,i < ps.length)->ar ((il.map λi=>ps.getD i default).map V.str) (il.map λi=>its.getD i .none):=by
   intro il
   induction il with
   | nil=>intro _; exact .nil
   | cons i il ih=>
    intro h
    obtain ⟨t1,e1⟩:=cp rv i (h i Δ)
    refine .cons ?_ (ih λx hx=>h x (ρ _ hx))
    exact ⟨t1,e1⟩
  have rv2:=outs p.toList λi hi=>ϸ.mp ((C7 hl2).mp hi)
  refine KasFin.intro (news:=(l,seqObj "list" #[] e1) :: nw) (g:=λo'=>(l,o') :: nw) F' N' (.head nl0) λh2 c F2 N2=>?_
  have pq:=gs (d:=default) rfl re
  have I2:=I.setList (D:=l) hm hq rv2 (by rw [ε,pq.length_eq]; simpa using hz) F2.ns (keep h2 _ N2) (N2 (l,_) Δ).1
  exact ⟨_,rfl,q _ h2 pq (eB (R:=lK) (λi j _ _ h=>(of_decide_eq_true h:(ps.getD i default).cps.toList < (ps.getD j default).cps.toList)) re up) I2⟩
end
section
variable {X:Cx}
def SetO (P:Β) (w:Ν) (a:Addr) (xs:List Str):HO:=.ext λh=>ce P w h a xs
theorem sI (hc:X.calm=true):bE X (.type "set") (λxs H Q=>∃ (l:Addr) (ys:List Str),xs=[.ref l]/\SqL X.K H l (ys.map V.str)/\ys.length<=1000 /\
  ∀ (a:Addr) (zs:List Str),H a=none->zs.Nodup->(∀ x,x∈zs↔x∈ys)->zs.length<=ys.length->Q (.ref a) (upd H a (SetO X.prog X.w a zs))):=by
 intro pins s σ H xs us Q I r h
 obtain ⟨l,ys,rfl,hq,hy,q⟩:=h
 obtain ⟨u,rfl,ru⟩:=cj r
 cases ru
 obtain ⟨its,rv,p,hz⟩:=I.list hq
 have li:its.length=ys.length:=by have:=rv.length; rw [ε] at this; exact this.symm
 have hb:its.toArray.size + 1 < scanBound:=by rw [ς,li]; unfold scanBound; omega
 refine jr (ys:=ys) (I.ok.hd hc) p.isList (λi v hv=>?_) hb λh' tk hS k=>?_
 ·have hv':its[i]?=some v:=by simpa using hv
  have hi:i < ys.length:=by rw [<- li]; exact (ο.mp hv').1
  obtain ⟨t,e⟩:=cp rv i hi
  refine ⟨t,?_⟩
  rw [<- e]
  simp [u9,hv']
 ·have sz:its.toArray.size=ys.length:=by rw [ς,li]
  rw [sz] at hS
  refine ⟨.ref s.heap.objs.size,_,I.laid (a:=s.heap.objs.size) (o:=SetO X.prog X.w s.heap.objs.size (uq (λi=>ys.getD i default) ys.length)) (t':=tk) (λb u e=>k b u (χ e) e) (π _) ?_,rfl,q _ _ I.fresh (fi _ _) (λx=>?_) (ki _ _)⟩
  ·refine ⟨hS,?_,λh1 h2 x kk=>ce.at' x kk⟩
   obtain ⟨o,_,_,_,ho,_⟩:=hS
   exact ⟨o,ho⟩
  ·rw [pi]
   constructor
   ·rintro ⟨j,hj,rfl⟩
    have e:ys.getD j default=ys[j]:=by simp [u9,hj]
    rw [e]; exact j9 hj
   ·intro hx
    obtain ⟨j,hj,rfl⟩:=r9 hx
    exact ⟨j,hj,by simp [u9,hj]⟩
theorem fC (hc:X.calm=true):bE X (.builtin "sorted") (λxs H Q=>∃ (a:Addr) (zs:List Str),xs=[.ref a]/\H a=some (SetO X.prog X.w a zs)/\zs.Nodup/\zs.length < 64 /\
  ∀ (l:Addr) (qs:List Str),H l=none->qs.Perm zs->qs.Pairwise lK->Q (.ref l) (upd H l (.lst (qs.map V.str)))):=by
 intro pins s σ H xs us Q I r h
 obtain ⟨a,zs,rfl,ha,nd,h64,q⟩:=h
 obtain ⟨u,rfl,ru⟩:=cj r
 cases ru
 obtain ⟨hS,_,_⟩:=(show aI X.prog X.w H s.heap a (SetO X.prog X.w a zs) from I.hok a _ ha)
 refine CI kind_sorted plain_sorted entry_sorted (args_sorted1 _) ?_
 unfold Ϡ.«sorted»
 refine γ (m:=checkCount "sorted" 1 1 _) (μ (γ (mQ (A:=X.A.in1) (I.ok.hd hc) hS ∅ λh' d tk vs os k rv hp=>?_)))
 have I1:Inv X pins σ H { s with heap:=h',gens:=s.gens,drawn:=d,toks:=tk }:=I.call (ch:=[]) (Un.kept k) (I.hok.kept k) I.bare λb hb=>nomatch hb
 have lv:vs.length=zs.length:=by have:=rv.length; rw [ε,hp.length_eq] at this; exact this.symm
 refine γ (Dy ?_ (by rw [lv,υ]; omega))
 have I2:=I1.lnew (t':=tk) rv (by rw [ε,hp.length_eq,υ]; omega)
 refine γ (ϻ (jE (A:=X.A.in1) (l:=h'.objs.size) (ps:=os) I2 aa (hp.nodup_iff.mpr nd) (by rw [hp.length_eq]; exact h64) λqs h2 pq pw I3=>?_))
 rw [qg] at I3
 exact μ ⟨_,rfl,.ref h'.objs.size,_,I3,rfl,q _ qs I1.fresh (pq.trans hp) pw⟩
end
section
variable {X:Cx}
theorem wP {j:Int} (h0:0 < j) (h1:j < 10 ^ 60):j.natAbs.log2 < 9000:=by
 have hn:j.natAbs < 2 ^ 200:=by omega
 have:=(Nat.log2_lt (n:=j.natAbs) (k:=200) ∅).mpr hn
 omega
def Av (i j:Int):Prop:=0 < j/\j < 10 ^ 60
theorem cc:OpR X (binaryOp .FloorDiv) (rI Av λi j=>.int (i / j)):=opI λi j _ _ _ _ _ hc q=>by
 have h1:(0:Int) < j:=hc.1
 exact floordiv_int ∅ (by rw [Cr i ∅]; exact q) (.inl (PyProof.noPylong_of_log2 (wP hc.1 hc.2)))
end
theorem kG:∀ {xs:List V} {us:List δ},xs.length=us.length->(∀ (i:Nat) (x:V) (u:δ),xs[i]?=some x->us[i]?=some u->aw x u)->ar xs us
 | [],[],_,_=>.nil
 | [],_ :: _,h,_=>by cases h
 | _ :: _,[],h,_=>by cases h
 | x :: xs,u :: us,h,g=>.cons (g 0 x u rfl rfl) (kG (by simpa using h) λi y v h1 h2=>g (i + 1) y v h1 h2)
section
variable {X:Cx}
end
open PySem PySem.Spec PyProof.Rows
section
variable {prog:Β} {w:Ν} {A:Χ} {E:δ->ζ->Prop} {s:ζ}
theorem bQ {it t:Addr} {i:Nat} {its:Array δ} {x:δ} {Q:δ->ζ->Prop} (hit:s.heap.IsTupleIter it t i) (ht:s.heap.IsTuple t its) (hx:its[i]?=some x)
  (hQ:∀ h',h'.IsTupleIter it t (i + 1)->x6 it s.heap h'->Q x { s with heap:=h' }):wpAny (model prog w) A (ϴ (.ref it)) Q E s:=by
 obtain ⟨o,ho,hc,hd⟩:=id hit
 obtain ⟨ol,hol,_,nl,hdl⟩:=ht
 unfold ϴ
 refine γ (ϥ (name:=ξ "__next__") hit.typeIs A3 (ϙ A3 hit.typeIs DU ?_ (DL _)))
 show wpAny _ _ (field (.ref it) 0 >>= _) _ _ s; refine γ (ϱ ho hd (x:=.ref t) rfl ?_)
 show wpAny _ _ (if (Η t == Ϫ)=true then _ else _) _ _ s; rw [if_neg (show ¬ ((Η t == Ϫ)=true) from Θ)]
 show wpAny _ _ (field (.ref it) 1 >>= _) _ _ s; refine γ (ϱ ho hd (x:=.int i 0) rfl ?_)
 show wpAny _ _ (seqItems? (.ref t) >>= _) _ _ s; refine γ (i8 hol hdl ?_); simp only [ϭ,hx]
 refine γ (A2 ho hd ∅ (μ ⟨x,rfl,μ (hQ _ ⟨_,Ϛ _ ho (Dj (Ca hd _)),(Obj.cls_mapFields ..).trans hc,by rw [Ca hd]; simp [rawInt]⟩ (r_ ..))⟩))
theorem dH {it t:Addr} {i:Nat} {its:Array δ} {Q:δ->ζ->Prop} (hh:A.handled=none) (hit:s.heap.IsTupleIter it t i) (ht:s.heap.IsTuple t its) (hx:its[i]?=none)
  (hE:∀ h' e,Heap.ExtBut it s.heap h'->(∃ o,h'.get? e=some o/\o.cls=.type "StopIteration")->E (.ref e) { s with heap:=h' }):wpAny (model prog w) A (ϴ (.ref it)) Q E s:=by
 obtain ⟨o,ho,hc,hd⟩:=id hit
 obtain ⟨ol,hol,_,nl,hdl⟩:=ht
 unfold ϴ
 refine γ (ϥ (name:=ξ "__next__") hit.typeIs A3 (ϙ A3 hit.typeIs DU ?_ (DL _)))
 show wpAny _ _ (field (.ref it) 0 >>= _) _ _ s; refine γ (ϱ ho hd (x:=.ref t) rfl ?_)
 show wpAny _ _ (if (Η t == Ϫ)=true then _ else _) _ _ s; rw [if_neg (show ¬ ((Η t == Ϫ)=true) from Θ)]
 show wpAny _ _ (field (.ref it) 1 >>= _) _ _ s; refine γ (ϱ ho hd (x:=.int i 0) rfl ?_)
 show wpAny _ _ (seqItems? (.ref t) >>= _) _ _ s; refine γ (i8 hol hdl ?_); simp only [ϭ,hx]
 refine γ (w_ (γ (A2 ho hd ∅ ?_))); show wpAny _ _ (newExc (.type "StopIteration") [] >>= _) _ _ _
 refine γ ?_; simp only [newExc,newTuple]; refine γ (Ϗ ?_ (by size_fits))
 refine γ (m:=firstArgMember _ _) (Fe (a:=Ϫ) (by first | rfl | (simp only [firstArgMember]; rfl)) (Ϗ ?_ (by size_fits)))
 simp only [raiseNew]; refine γ (wpAny_handled ?_); first | rw [show A.in1.handled=none from hh] | rw [hh]
 refine γ (μ (wpAny_throw (hE _ _ (((r_ ..).extBut.push _).push _) ⟨_,τ _ rfl,rfl⟩)))
end
section
variable {X:Cx}
end
open PySem PySem.Spec PyProof.Rows PySem.W
section
variable {X:Cx}
variable {tg:Expr}
end
noncomputable def cA (p:Prop):Bool:=@decide p (Classical.propDecidable p)
theorem bL {p:Prop}:cA p=true↔p:=by unfold cA; exact @decide_eq_true_iff p (Classical.propDecidable p)
theorem cr {p:Prop} {b:Bool} (h:b=true↔p):b=cA p:=by rw [s_,bL]; exact h
theorem bR {p:Prop} (h:¬ p):false=cA p:=cr ⟨λz=>(nomatch z),λz=>absurd z h⟩
mutual
theorem Rep.inj {H:Hp}:∀ (d e:Dv) (v:V),Rep H d v->Rep H e v->d=e
 | .tup ds,e,v,h1,h2=>by
  simp only [Rep] at h1
  obtain ⟨a,vs,rfl,ha,rs⟩:=h1
  cases e with
  | tup es=>simp only [Rep] at h2; obtain ⟨b,ws,eb,hb,rs2⟩:=h2; cases eb; rw [ha] at hb; cases hb; rw [Reps.inj ds es vs rs rs2]
  | lst es=>simp only [Rep] at h2; obtain ⟨b,ws,eb,hb,rs2⟩:=h2; cases eb; rw [ha] at hb; cases hb
  | dct=>simp only [Rep] at h2; obtain ⟨b,eb,hb⟩:=h2; cases eb; rw [ha] at hb; cases hb
  | _=>simp only [Rep] at h2; cases h2
 | .lst ds,e,v,h1,h2=>by
  simp only [Rep] at h1
  obtain ⟨a,vs,rfl,ha,rs⟩:=h1
  cases e with
  | lst es=>simp only [Rep] at h2; obtain ⟨b,ws,eb,hb,rs2⟩:=h2; cases eb; rw [ha] at hb; cases hb; rw [Reps.inj ds es vs rs rs2]
  | tup es=>simp only [Rep] at h2; obtain ⟨b,ws,eb,hb,rs2⟩:=h2; cases eb; rw [ha] at hb; cases hb
  | dct=>simp only [Rep] at h2; obtain ⟨b,eb,hb⟩:=h2; cases eb; rw [ha] at hb; cases hb
  | _=>simp only [Rep] at h2; cases h2
 | .dct,e,v,h1,h2=>by
  simp only [Rep] at h1
  obtain ⟨a,rfl,ha⟩:=h1
  cases e with
  | dct=>rfl
  | tup es=>simp only [Rep] at h2; obtain ⟨b,ws,eb,hb,rs2⟩:=h2; cases eb; rw [ha] at hb; cases hb
  | lst es=>simp only [Rep] at h2; obtain ⟨b,ws,eb,hb,rs2⟩:=h2; cases eb; rw [ha] at hb; cases hb
  | _=>simp only [Rep] at h2; cases h2
 | .non,e,v,h1,h2=>by
  simp only [Rep] at h1; subst h1
  cases e with
  | non=>rfl
  | tup es=>simp only [Rep] at h2; obtain ⟨b,ws,eb,_⟩:=h2; cases eb
  | lst es=>simp only [Rep] at h2; obtain ⟨b,ws,eb,_⟩:=h2; cases eb
  | dct=>simp only [Rep] at h2; obtain ⟨b,eb,_⟩:=h2; cases eb
  | _=>simp only [Rep] at h2; cases h2
 | .bl _,e,v,h1,h2=>by
  simp only [Rep] at h1; subst h1
  cases e with
  | bl b=>simp only [Rep] at h2; cases h2; rfl
  | tup es=>simp only [Rep] at h2; obtain ⟨b,ws,eb,_⟩:=h2; cases eb
  | lst es=>simp only [Rep] at h2; obtain ⟨b,ws,eb,_⟩:=h2; cases eb
  | dct=>simp only [Rep] at h2; obtain ⟨b,eb,_⟩:=h2; cases eb
  | _=>simp only [Rep] at h2; cases h2
 | .int _,e,v,h1,h2=>by
  simp only [Rep] at h1; subst h1
  cases e with
  | int b=>simp only [Rep] at h2; cases h2; rfl
  | tup es=>simp only [Rep] at h2; obtain ⟨b,ws,eb,_⟩:=h2; cases eb
  | lst es=>simp only [Rep] at h2; obtain ⟨b,ws,eb,_⟩:=h2; cases eb
  | dct=>simp only [Rep] at h2; obtain ⟨b,eb,_⟩:=h2; cases eb
  | _=>simp only [Rep] at h2; cases h2
 | .str _,e,v,h1,h2=>by
  simp only [Rep] at h1; subst h1
  cases e with
  | str b=>simp only [Rep] at h2; cases h2; rfl
  | tup es=>simp only [Rep] at h2; obtain ⟨b,ws,eb,_⟩:=h2; cases eb
  | lst es=>simp only [Rep] at h2; obtain ⟨b,ws,eb,_⟩:=h2; cases eb
  | dct=>simp only [Rep] at h2; obtain ⟨b,eb,_⟩:=h2; cases eb
  | _=>simp only [Rep] at h2; cases h2
theorem Reps.inj {H:Hp}:∀ (ds es:List Dv) (vs:List V),Reps H ds vs->Reps H es vs->ds=es
 | [],es,vs,h1,h2=>by
  simp only [Reps] at h1; subst h1
  cases es with
  | nil=>rfl
  | cons e es=>simp only [Reps] at h2; obtain ⟨v,r,e2,_⟩:=h2; cases e2
 | d :: ds,es,vs,h1,h2=>by
  simp only [Reps] at h1
  obtain ⟨v,r,rfl,r1,rs1⟩:=h1
  cases es with
  | nil=>simp only [Reps] at h2; cases h2
  | cons e es=>
   simp only [Reps] at h2
   obtain ⟨v2,r2,e2,r3,rs3⟩:=h2
   cases e2
   rw [Rep.inj d e v r1 r3,Reps.inj ds es r rs1 rs3]
end
inductive Pl:Nat->Dv->Prop
 | int {n:Nat} {i:Int}:Pl n (.int i)
 | str {n:Nat} {x:Str}:Pl n (.str x)
 | non {n:Nat}:Pl n .non
 | tup {n:Nat} {ds:List Dv}:(∀ d∈ds,Pl n d)->Pl (n + 1) (.tup ds)
theorem Pl.up {m n:Nat} {d:Dv} (h:Pl m d):m<=n->Pl n d:=by
 induction h generalizing n with
 | int=>intro _; exact .int
 | str=>intro _; exact .str
 | non=>intro _; exact .non
 | tup _ ih=>
  intro l
  obtain ⟨k,rfl⟩:∃ k,n=k + 1:=⟨n - 1,∅⟩
  exact .tup λd hd=>ih d hd ∅
theorem iM {ds es:List Dv}:((Φ (min ds.length es.length)).all (λj=>cA (ds[j]?=es[j]?)) && ds.length == es.length)=cA (Dv.tup ds=.tup es):=by
 refine cr ?_
 rw [Ε,ϵ,beq_iff_eq]
 constructor
 ·rintro ⟨h,hl⟩
  congr 1
  refine C8 λj=>?_
  by_cases hj:j < ds.length
  ·exact bL.mp (h j (ϸ.mpr ∅))
  ·rw [b_ ∅,b_ ∅]
 ·intro h
  cases h
  exact ⟨λj _=>bL.mpr rfl,rfl⟩
section
variable {X:Cx} {pins:List (Addr×Obj)} {σ:St} {H:Hp} {s:ζ}
theorem iW (I:Inv X pins σ H s) {A:Χ} {n:Nat} {ds es:List Dv} {vs ws:List V} {its its2:List δ}
  (h:∀ d∈ds,∀ e∈es,∀ (v w:V) (a b:δ),Rep H d v->Rep H e w->aw v a->aw w b->Ϣ A s a b (cA (d=e))) (rs1:Reps H ds vs) (rs2:Reps H es ws) (rv1:ar vs its) (rv2:ar ws its2) :
  its.toArray.size=ds.length/\its2.toArray.size=es.length/\∀ j (h1:j < its.toArray.size) (h2:j < its2.toArray.size),Ϣ A s its.toArray[j] its2.toArray[j] (cA (ds[j]?=es[j]?)):=by
 have l1:=rs1.length
 have l2:=rs2.length
 have l3:=rv1.length
 have l4:=rv2.length
 refine ⟨by simp; omega,by simp; omega,λj h1 h2=>?_⟩
 have hj:j < its.length:=by simpa using h1
 have hj2:j < its2.length:=by simpa using h2
 obtain ⟨u,hu1,ru⟩:=ar.get (i:=j) (x:=vs[j]'∅) rv1 (Ζ _)
 obtain ⟨u2,hu2,ru2⟩:=ar.get (i:=j) (x:=ws[j]'∅) rv2 (Ζ _)
 obtain ⟨d,hd,Rd⟩:=rs1.get (i:=j) (v:=vs[j]'∅) (Ζ _)
 obtain ⟨d2,hd2,Rd2⟩:=rs2.get (i:=j) (v:=ws[j]'∅) (Ζ _)
 have e1:its.toArray[j]=u:=by
  rw [Ζ hj] at hu1
  simpa using Ϝ hu1
 have e2:its2.toArray[j]=u2:=by
  rw [Ζ hj2] at hu2
  simpa using Ϝ hu2
 rw [e1,e2,hd,hd2]
 have e3:cA (some d=some d2)=cA (d=d2):=cr (by rw [bL]; exact ⟨Ϝ,λz=>by rw [z]⟩)
 rw [e3]
 exact h d (Λ hd) d2 (Λ hd2) _ _ _ _ Rd Rd2 ru ru2
theorem qx (I:Inv X pins σ H s) {n:Nat} {d:Dv} (h:Pl n d):∀ {e:Dv},Pl n e->∀ {A:Χ} {v w:V} {a b:δ},A.units + n < cLine->Rep H d v->Rep H e w->aw v a->aw w b->Ϣ A s a b (cA (d=e)):=by
 induction h with
 | @int n i=>
  intro e he A v w a b hu r1 r2 q1 q2
  simp only [Rep] at r1
  subst r1
  obtain ⟨t,rfl⟩:=(show ∃ t,a=CC i t from q1)
  cases he with
  | @int _ j=>simp only [Rep] at r2; subst r2; obtain ⟨u,rfl⟩:=(show ∃ t,b=CC j t from q2); rw [<- cr (b:=(i == j)) (by rw [beq_iff_eq]; exact ⟨λz=>by rw [z],λz=>Dv.int.inj z⟩)]; exact Ϣ.int_int i t j u
  | @str _ x=>simp only [Rep] at r2; subst r2; obtain ⟨u,rfl⟩:=(show ∃ t,b=i4 x t from q2); rw [<- bR nofun]; exact DW i t x u
  | non=>simp only [Rep] at r2; subst r2; cases q2; rw [<- bR nofun]; exact Ϣ.int_none i t
  | @tup n es _=>simp only [Rep] at r2; obtain ⟨l,ws,rfl,hl,_⟩:=r2; cases q2; obtain ⟨its,_,p,_⟩:=I.tuple (SqT.of hl); rw [<- bR nofun]; exact Ϣ.int_tuple i t p ∅
 | @str n x=>
  intro e he A v w a b hu r1 r2 q1 q2
  simp only [Rep] at r1
  subst r1
  obtain ⟨t,rfl⟩:=(show ∃ t,a=i4 x t from q1)
  cases he with
  | @int _ j=>simp only [Rep] at r2; subst r2; obtain ⟨u,rfl⟩:=(show ∃ t,b=CC j t from q2); rw [<- bR nofun]; exact DX x t j u
  | @str _ y=>simp only [Rep] at r2; subst r2; obtain ⟨u,rfl⟩:=(show ∃ t,b=i4 y t from q2); rw [<- cr (b:=(x == y)) (by rw [beq_iff_eq]; exact ⟨λz=>by rw [z],λz=>Dv.str.inj z⟩)]; exact Ed x t y u
  | non=>simp only [Rep] at r2; subst r2; cases q2; rw [<- bR nofun]; exact Ϣ.str_none x t
  | @tup n es _=>simp only [Rep] at r2; obtain ⟨l,ws,rfl,hl,_⟩:=r2; cases q2; obtain ⟨its,_,p,_⟩:=I.tuple (SqT.of hl); rw [<- bR nofun]; exact Ϣ.str_tuple x t p ∅
 | @non n=>
  intro e he A v w a b hu r1 r2 q1 q2
  simp only [Rep] at r1
  subst r1
  cases q1
  cases he with
  | @int _ j=>simp only [Rep] at r2; subst r2; obtain ⟨u,rfl⟩:=(show ∃ t,b=CC j t from q2); rw [<- bR nofun]; exact Ϣ.none_int j u
  | @str _ y=>simp only [Rep] at r2; subst r2; obtain ⟨u,rfl⟩:=(show ∃ t,b=i4 y t from q2); rw [<- bR nofun]; exact Ϣ.none_str y u
  | non=>simp only [Rep] at r2; subst r2; cases q2; rw [<- cr (b:=true) ⟨λ_=>rfl,λ_=>rfl⟩]; exact E4 _
  | @tup n es _=>simp only [Rep] at r2; obtain ⟨l,ws,rfl,hl,_⟩:=r2; cases q2; obtain ⟨its,_,p,_⟩:=I.tuple (SqT.of hl); rw [<- bR nofun]; exact Ϣ.none_tuple p ∅
 | @tup n ds hds ih=>
  intro e he A v w a b hu r1 r2 q1 q2
  have r1':=r1
  simp only [Rep] at r1
  obtain ⟨l,vs,rfl,h1,rs1⟩:=r1
  cases q1
  obtain ⟨its,rv1,p1,_⟩:=I.tuple (SqT.of h1)
  cases he with
  | @int _ j=>simp only [Rep] at r2; subst r2; obtain ⟨u,rfl⟩:=(show ∃ t,b=CC j t from q2); rw [<- bR nofun]; exact Ϣ.tuple_int j u p1 ∅
  | @str _ y=>simp only [Rep] at r2; subst r2; obtain ⟨u,rfl⟩:=(show ∃ t,b=i4 y t from q2); rw [<- bR nofun]; exact Ϣ.tuple_str y u p1 ∅
  | non=>simp only [Rep] at r2; subst r2; cases q2; rw [<- bR nofun]; exact Ϣ.tuple_none p1 ∅
  | @tup _ es hes=>
   have r2':=r2
   simp only [Rep] at r2
   obtain ⟨b',ws,rfl,h2,rs2⟩:=r2
   cases q2
   obtain ⟨its2,rv2,p2,_⟩:=I.tuple (SqT.of h2)
   have hu':A.in1.units + n < cLine:=by show A.units + 1 + n < cLine; omega
   obtain ⟨z1,z2,q⟩:=iW I (A:=A.in1) (n:=n) (λd hd e he v w a b r1 r2 q1 q2=>ih d hd (hes e he) hu' r1 r2 q1 q2) rs1 rs2 rv1 rv2
   by_cases hlb:l=b'
   ·subst hlb
    rw [<- cr (b:=true) ⟨λ_=>Rep.inj _ _ _ r1' r2',λ_=>rfl⟩]
    exact E4 _
   ·have r:=SeqAt.RcAt.tuples (e:=λj=>cA (ds[j]?=es[j]?)) p1 p2 ∅ q
    rw [z1,z2,iM] at r
    exact Ϣ.of_refs hlb r
end
section
variable {X:Cx}
theorem yS (hu:X.A.units + 150 < cLine):OpR X (compareOp .NotEq) (λx y H Q=>∃ (n:Nat) (ds es:List Dv),Pl n (.tup ds)/\Pl n (.tup es)/\n<=140/\Rep H (.tup ds) x/\Rep H (.tup es) y/\∀ b:Bool,(b=true↔ds≠es)->Q (.bl b) H):=by
 intro pins s σ H x y v u Q I rx ry h
 obtain ⟨n,ds,es,hd,he,hn,r1,r2,q⟩:=h
 simp only [Rep] at r1 r2
 obtain ⟨l,vs,rfl,h1,rs1⟩:=r1
 obtain ⟨b',ws,rfl,h2,rs2⟩:=r2
 cases rx
 cases ry
 obtain ⟨its,rv1,p1,_⟩:=I.tuple (SqT.of h1)
 obtain ⟨its2,rv2,p2,_⟩:=I.tuple (SqT.of h2)
 cases hd with
 | @tup n ds hds=>
 cases he with
 | @tup _ es hes=>
 have hu':X.A.in1.units + n < cLine:=by show X.A.units + 1 + n < cLine; omega
 obtain ⟨z1,z2,w⟩:=iW I (A:=X.A.in1) (n:=n) (λd hd e he v w a b r1 r2 q1 q2=>qx I (hds d hd) (hes e he) hu' r1 r2 q1 q2) rs1 rs2 rv1 rv2
 refine Fx.tuples (e:=λj=>cA (ds[j]?=es[j]?)) p1 p2 ∅ w X.prog X.w X.xe _ ?_
 rw [z1,z2,iM]
 refine ⟨.bl _,H,I,rfl,q _ ?_⟩
 rw [Bool.not_eq_true',<- Bool.not_eq_true,bL]
 exact ⟨λz y=>z (by rw [y]),λz y=>z (Dv.tup.inj y)⟩
end
theorem fE {A:Χ} {k:Nat} (hr:bz k A):A.units + 150 < cLine:=by have:=hr.un; omega
section
variable {X:Cx} {k:Nat} {f:Addr} {fd:Μ} {ps:List Str} {sp:Sp} {x:Str} {p pos:Pos} {e:Expr} {es:List Expr} {t:TA}
def zk (f:Addr) (i:Nat) (sp:Sp) (t:TA):TE:=λσ H Q=>σ[i]?=some (some (.ref f))/\t σ H λvs H1=>sp (vs ++ []) H1 Q E0
theorem pe_callV (i:Nat) (F:aF X.prog X.w X.K X.mg X.base CX0 k f fd ps sp) (hr:bz k X.A) (hk:l7 X.K (.ref f)=true) (hb:bx X.K fd ps []) (ha:PA X (e :: es) t) (hN:X.N[i]?=some x:=by rfl)
  (hv:Vis X.env.scope x:=by first | exact Ι rfl | exact Ef (Ι rfl) | exact Ef (Ef rfl)) (hd:(x == ("__debug__" : Str))=false:=by decide) (hcd:(x == ("__classdict__" : Str))=false:=by decide)
  (he:starEach (e :: es) X.env=(false,eval e X.env) :: starEach es X.env:=by rfl) (hpl:(backTo pos (starEach es X.env)).any (·.1)=false:=by rfl):PE X (.Call (.Name x p) (e :: es) [] pos) (zk f i sp t):=by
 intro pins s σ H Q I h
 obtain ⟨h1,h2⟩:=h
 refine m8 (thn (wg (X:=X) (pos:=p) hN hv hd hcd pins s σ H (λv H'=>v=.ref f/\H'=H) I ⟨_,h1,rfl,rfl⟩) λu s1 ⟨v,H1,I1,r1,e1,e2⟩=>?_)
 subst e1 e2
 cases r1
 exact CV (h₀:=X.base) I1.ok.mod.kin hk (thn (ha pos pins s1 σ _ _ I1 h2) λus s2 ⟨vs,H2,I2,r,q⟩=>⟨I2.kIn,vv F hr hb .nil yq I2 r q⟩) he hpl
end
section
variable {prog:Β} {w:Ν} {A:Χ} {E:δ->ζ->Prop} {s:ζ} {r l S:Addr} {items:Array δ}
theorem sP:typeLookup (.type "list_reverseiterator") "__len__"=pure none:=by rw [E9,Di]; kernel_rfl
theorem uZ:typeLookup (.type "list_reverseiterator") "__length_hint__"=pure (some (.builtin "list_reverseiterator.__length_hint__")):=by rw [E9,Di]; kernel_rfl
theorem tU {Q:Bool->ζ->Prop} (hT:s.TypeIs (.ref r) "list_reverseiterator") (h:∀ b,Q b s):wpAny (model prog w) A (x_ (.ref r)) Q E s:=by
 unfold x_
 refine γ (DF hT sP ?_)
 show wpAny _ A (specialOf (Η r) (ξ "__length_hint__") >>= _) _ _ _
 refine γ (DF hT uZ ?_)
 generalize hid:("list_reverseiterator.__length_hint__" : String)=id0
 wp_delta
 rw [show splitId id0=some ("list_reverseiterator","__length_hint__") from by subst hid; decide +kernel]
 subst hid
 refine γ (CF (b:=true) hT (by rw [Ff]; kernel_rfl) ?_)
 exact μ (h _)
theorem pW {R:Ea->ζ->Prop} (hh:A.handled=none) (hr:s.heap.IsRevIter r l ((items.size:Int) - 1)) (hl:s.heap.IsList l items) (hlr:l≠r) (hSr:S≠r) (hSl:S≠l) (res:δ) (c₀:Nat) (hS:s.heap.get? S=some { cls:=.type "list",data:=.seq #[] c₀ })
  (hR:∀ h' tk acc' c',(∀ b o,b≠S->b≠r->s.heap.get? b=some o->h'.get? b=some o)->h'.get? S=some { cls:=.type "list",dict:=none,data:=.seq acc' c',slots:=#[] }->ItemsOf (λi v=>items[items.size - 1 - i]?=some v) acc' items.size->R (.ok (.ret res)) { s with heap:=h',toks:=tk }) (hn:items.size<=sizeLine) :
  wpAny (model prog w) A.in1 (ϩ (.ref S) (.ref r) res) (λfin s'=>match fin with | .done f=>R (.ok f) s' | .again c'=>c'.quiet=true/\codeAny (model prog w) A c' R s') (λe s'=>R (.error e) s') s:=by
 have W:=Ft.listRev (prog:=prog) (w:=w) (A:=A.in1) hh r l hlr items
 have hSf:S∉[r,l]:=by simp only [ν,Ϸ,or_false,not_or]; exact ⟨hSr,hSl⟩
 have e0:(items.size:Int) - 1 - ((0:Nat):Int)=(items.size:Int) - 1:=by omega
 have key:∀ (h:Heap) (c₁ tk:Nat),(∀ b o,b≠S->s.heap.get? b=some o->h.get? b=some o)->h.get? S=some { cls:=.type "list",data:=.seq #[] c₁ }->codeAny (model prog w) A (.builtin "list.extend.loop" ⟨[.ref S,.ref r,res],[]⟩) R { s with heap:=h,toks:=tk }:=by
  intro h c₁ tk hk hS₁
  refine codeAny_extend_loopS W.toS hn S hSf res items.size 0 _ #[] c₁ rfl (Ω _) ⟨Ω _,by rw [e0]; exact hr.at λo e=>hk r o (ώ hSr) e,hl.at λo e=>hk l o (ώ hSl) e⟩ hS₁ (ItemsOf.nil _) λs' acc' c' hm hS' hacc=>?_
  rw [Moved.eq_with hm]
  refine hR s'.heap s'.toks acc' c' (λb o hb hbr e=>hm.heap b o (λz=>?_) (hk b o hb e)) hS' hacc
  rcases ν.mp z with z | z
  ·exact hb z
  ·exact hbr (θ.mp z)
 unfold ϩ
 refine γ (B9 (T:="list_reverseiterator") hr.typeIs ?_)
 have h1:BU (.ref S) (.ref r)=false:=by simp [BU,hSr]
 rw [if_neg (by rw [h1]; decide)]
 refine γ (wpAny_pyIter_revIter hr ?_)
 refine γ (ϻ (tU hr.typeIs λb=>?_))
 refine u6 (λ_=>?_) (λ_=>μ ⟨BS g_ _,key _ c₀ _ (λb o _ e=>e) hS⟩)
 refine γ (w_ (γ ?_)); show wpAny _ _ (updateSeq S (·.push .none) >>= λ_=>updateSeq S (·.pop)) _ _ _
 refine γ (BL hS rfl ?_)
 have hS₂:=Ϛ (i5 (·.push Ϫ)) hS rfl
 refine BL (hz:=by seq_fits) hS₂ rfl ?_
 have hS₃:=Ϛ (i5 (·.pop)) hS₂ rfl
 exact μ ⟨BS g_ _,key _ _ _ (λb o hb e=>(ύ _ _ (ώ hb)).trans ((ύ _ _ (ώ hb)).trans e)) hS₃⟩
theorem uf {R:Ea->ζ->Prop} (hh:A.handled=none) (hr:s.heap.IsRevIter r l ((items.size:Int) - 1)) (hl:s.heap.IsList l items) (hlr:l≠r) (hSr:S≠r) (hSl:S≠l) (hS:s.heap.get? S=some { cls:=.type "list",data:=.seq #[] })
  (hR:∀ h' tk acc' c',(∀ b o,b≠S->b≠r->s.heap.get? b=some o->h'.get? b=some o)->h'.get? S=some { cls:=.type "list",dict:=none,data:=.seq acc' c',slots:=#[] }->ItemsOf (λi v=>items[items.size - 1 - i]?=some v) acc' items.size->R (.ok (.ret .none)) { s with heap:=h',toks:=tk }) (hn:items.size<=sizeLine) :
  wpAny (model prog w) A.in1 (Ϡ.«list.__init__» ⟨[.ref S,.ref r],[]⟩) (λfin s'=>match fin with | .done f=>R (.ok f) s' | .again c'=>c'.quiet=true/\codeAny (model prog w) A c' R s') (λe s'=>R (.error e) s') s:=by
 show wpAny _ _ (do let old <- Ϡ.List.listItems (.ref S); Ϡ.List.listUpdate (.ref S) (λ_=>#[]); letGo old.toList.reverse; ϩ (.ref S) (.ref r) .none) _ _ s; refine γ ?_
 unfold Ϡ.List.listItems; refine γ (i8 hS rfl (μ ?_))
 show wpAny _ _ (updateSeq S (λ_=>#[]) >>= λ_=>letGo (#[]:Array δ).toList.reverse >>= λ_=>ϩ (.ref S) (.ref r) .none) _ _ s; refine γ (BL hS rfl ?_)
 have hS₂:=Ϛ (i5 (λ_=>(#[]:Array δ))) hS rfl
 have oth:∀ b o,b≠S->s.heap.get? b=some o->(s.heap.update S (i5 (λ_=>(#[]:Array δ)))).get? b=some o:=λb o hb e=>(ύ _ _ (ώ hb)).trans e
 refine γ (Fh (pW hh (hr.at λo e=>oth r o (ώ hSr) e) (hl.at λo e=>oth l o (ώ hSl) e) hlr hSr hSl .none _ hS₂ (λh' tk acc' c' hk hS' hacc=>?_) hn))
 exact hR h' tk acc' c' (λb o hb hbr e=>hk b o hb hbr (oth b o hb e)) hS' hacc
theorem tW {Q:δ->ζ->Prop} (hh:A.handled=none) (hr:s.heap.IsRevIter r l ((items.size:Int) - 1)) (hl:s.heap.IsList l items) (hlr:l≠r) (hn:items.size<=sizeLine)
  (hQ:∀ h' tk acc' c',(∀ b o,b≠r->s.heap.get? b=some o->h'.get? b=some o)->h'.get? s.heap.objs.size=some { cls:=.type "list",dict:=none,data:=.seq acc' c',slots:=#[] }->ItemsOf (λi v=>items[items.size - 1 - i]?=some v) acc' items.size->Q (.ref s.heap.objs.size) { s with heap:=h',toks:=tk }) :
  wpAny (model prog w) A (call (.type "list") [.ref r]) Q E s:=by
 refine callType_codes (Q₁:=λobj s₁=>obj=.ref s.heap.objs.size/\s₁={ s with heap:=s.heap.push { cls:=.type "list",data:=.seq #[] } }) PySem.F.called_list (PySem.F.typeCall_list_1 _) PySem.F.entry_list_init (code_list_new _ ⟨rfl,rfl⟩) λobj s₁ h₁=>?_
 obtain ⟨rfl,rfl⟩:=h₁
 have hS:(s.heap.push { cls:=.type "list",data:=.seq #[] }).get? s.heap.objs.size=some { cls:=.type "list",data:=.seq #[] }:=τ _ rfl
 have hr':r < s.heap.objs.size:=let ⟨o,ho,_⟩:=hr; χ ho
 have hl':l < s.heap.objs.size:=let ⟨o,ho,_⟩:=hl; χ ho
 refine ⟨⟨_,hS,rfl⟩,PySem.F.args_list_init_2 _ _,uf (A:=A.in1) hh (hr.at λo e=>η _ e) (hl.at λo e=>η _ e) hlr (j7 hr') (j7 hl') hS (λh' tk acc' c' hk hS' hacc=>?_) hn⟩
 exact ⟨rfl,hQ h' tk acc' c' (λb o hb e=>hk b o (Ρ (χ e)) hb (η _ e)) hS' hacc⟩
end
section
variable {X:Cx} {e:Expr} {te:TE} {p p1 pos pos1:Pos}
def vt (K:ι) (te:TE):TE:=λσ H Q=>te σ H λx H1=>∃ l ys,x=.ref l/\SqL K H1 l ys/\∀ a,H1 a=none->Q (.ref a) (upd H1 a (.lst ys.reverse))
theorem pe_listrev (hg:Gl X "list") (hm:X.mg "list"=none) (hg':Gl X "reversed") (hm':X.mg "reversed"=none) (hc:X.calm=true) (he:PE X e te)
  (hs:starEach [e] X.env=[(false,eval e X.env)]:=by rfl) (hs2:starEach [.Call (.Name "reversed" p1) [e] [] pos1] X.env=[(false,eval (.Call (.Name "reversed" p1) [e] [] pos1) X.env)]:=by rfl) :
  PE X (.Call (.Name "list" p) [.Call (.Name "reversed" p1) [e] [] pos1] [] pos) (vt X.K te):=by
 intro pins s σ H Q I h
 refine m8 (cy I hg hm (u:=.type "list") ∅ ?_)
 refine a9 ?_ hs2 rfl
 rw [hs2]
 show wpAny _ _ (spliced ((false,eval (.Call (.Name "reversed" p1) [e] [] pos1) X.env) :: backTo pos [])) _ _ s
 refine D_ (m8 (cy I hg' hm' (u:=.type "reversed") ∅ (a9 ?_ hs rfl)))
 rw [hs]
 show wpAny _ _ (spliced ((false,eval e X.env) :: backTo pos1 [])) _ _ s
 refine D_ (thn (he pins s σ H _ I h) λu s1 ⟨x,H1,I1,r1,l,ys,ex,hq,q⟩=>Ex ?_)
 subst ex
 cases r1
 obtain ⟨its,rv,pl,hz⟩:=I1.list hq
 have li:its.length=ys.length:=rv.length.symm
 have hl':l < s1.heap.objs.size:=let ⟨o,ho,_⟩:=pl.isList; χ ho
 refine call_reversed_list pl.isList (Ex ?_)
 refine tW (A:=X.A) (s:={ s1 with heap:=s1.heap.push (revObj l ((its.toArray.size:Int) - 1)) }) (I1.ok.hd hc) ⟨_,τ _ rfl,rfl,rfl⟩ (pl.isList.at λo e=>η _ e) (Ρ hl') (by simp; omega) λh' tk acc c k hS it=>?_
 have k1:∀ b o,s1.heap.get? b=some o->h'.get? b=some o:=λb o e=>k b o (Ρ (χ e)) (η _ e)
 have rv':ar ys.reverse acc.toList:=by
  refine kG (by have h1:=it.1; have h2:acc.toList.length=acc.size:=ϗ; rw [ϲ,h2,h1]; simpa using li.symm) λi x u h1 h2=>?_
  have hi:i < ys.length:=by have:=(ο.mp h1).1; rwa [ϲ] at this
  rw [Ci hi] at h1
  have h3:=it.2 i u (by rw [<- Dh]; exact h2)
  have h4:its[ys.length - 1 - i]?=some u:=by simpa [li] using h3
  obtain ⟨u',hu',ru⟩:=rv.get h1
  rw [h4] at hu'
  cases hu'
  exact ru
 have hz2:(s1.heap.push (revObj l ((its.toArray.size:Int) - 1))).objs.size=s1.heap.objs.size + 1:=Ϩ ..
 refine ⟨.ref (s1.heap.push (revObj l ((its.toArray.size:Int) - 1))).objs.size,_,I1.laid (t':=tk) (a:=(s1.heap.push (revObj l ((its.toArray.size:Int) - 1))).objs.size) k1 (by rw [hz2]; exact t_ _) (show aI X.prog X.w _ h' _ (.lst ys.reverse) from ⟨by rw [ϲ]; exact hz,acc.toList,c,rv',by simpa using hS⟩),rfl,q _ (I1.hok.fresh (by rw [hz2]; exact t_ _))⟩
end
theorem bO {h:Heap} {a b:Addr} {o u:Obj} (h1:h.get? a=some o) (h2:h.get? b=some u) (n:o.cls≠u.cls):a≠b:=λz=>by subst z; rw [h1] at h2; cases h2; exact n rfl
section
variable {X:Cx}
end
theorem vP {xs:List V} {us:List δ} (h:ar xs us):ar xs.reverse us.reverse:=by
 have hl:=h.length
 refine kG (by rw [ϲ,ϲ,hl]) λi x u h1 h2=>?_
 have hi:i < xs.length:=by have:=(ο.mp h1).1; rwa [ϲ] at this
 rw [Ci hi] at h1
 rw [Ci ∅,<- hl] at h2
 obtain ⟨u',hu',ru⟩:=h.get h1
 rw [h2] at hu'
 cases hu'
 exact ru
section
variable {X:Cx} {pins:List (Addr×Obj)} {s:ζ} {σ:St} {H:Hp}
end
section
variable {X:Cx}
end
section
end
section
variable {prog:Β} {w:Ν} {A:Χ} {E:δ->ζ->Prop} {s:ζ}
end
section
variable {X:Cx} {tg e:Expr} {ta:TA} {p pos:Pos}
end
section
variable {X:Cx}
end
section
variable {X:Cx}
end
open PySem PySem.Spec PyProof.Rows
section
variable {σ:St} {H:Hp} {d e:Dv} {ds es:List Dv} {ta tb:TE} {t:TA} {l:Addr}
variable {i:Nat} {u:TS} {D:bP}
end
open PySem PySem.Spec PyProof.Rows PySem.W
section
variable {X:Cx}
end
section
variable {prog:Β} {w:Ν} {A:Χ} {E:δ->ζ->Prop} {s:ζ}
theorem oR {t sl:Addr} {items:Array δ} {lo st:Int} {n:Nat} {Q:δ->ζ->Prop} (ht:Fy s.heap t items) (hTs:s.TypeIs (.ref sl) "slice")
  (hap:∀ {A':Χ} {E':δ->ζ->Prop} {Q':Int×Int×Nat->ζ->Prop},Q' (lo,st,n) s->wpAny (model prog w) A' (Cu (.ref sl) (pure (items.size:Int))) Q' E' s)
  (hw:(lo == 0 && st == 1 && n == items.size)=true->Q (.ref t) s)
  (hn:Q (.ref s.heap.objs.size) { s with heap:=s.heap.push { cls:=.type "tuple",data:=.seq ((Φ n).filterMap λ(k:Nat)=>items[(lo + (k:Int) * st).toNat]?).toArray } })
  (hsz:((Φ n).filterMap λ(k:Nat)=>items[(lo + (k:Int) * st).toNat]?).toArray.size<=sizeLine):wpAny (model prog w) A (getItem (.ref t) (.ref sl)) Q E s:=by
 unfold getItem; try with_reducible refine ϻ ?_
 (first | refine γ (μ ?_) | skip); refine γ (wpAny_sequenceKey ht.typeIs ∅ ?_)
 refine γ (ϥ (name:=ξ "__getitem__") ht.typeIs a_ (ϙ a_ ht.typeIs entry_tuple_getitem ?_ (args_tuple_getitem _ _)))
 show wpAny _ _ (Ec (.ref t) >>= _) _ _ s; refine γ (tupleItemsOf_ ht ?_)
 refine γ (B9 hTs ?_); rw [if_pos ∅]
 refine γ (hap ?_)
 show wpAny _ _ (if (lo == 0 && st == 1 && n == items.size)=true then _ else _) _ _ s
 by_cases c:(lo == 0 && st == 1 && n == items.size)=true
 ·rw [if_pos c]
  refine γ (m:=Ek (.ref t)) ?_
  unfold Ek
  refine γ (B9 ht.typeIs (μ ?_))
  show wpAny _ _ (if (k7 "tuple" == k7 "tuple")=true then _ else _) _ _ s
  rw [if_pos ∅]
  exact γ (w_ (γ (μ (μ ⟨_,rfl,μ (hw c)⟩))))
 ·rw [if_neg c]
  first
   | exact γ (m:=Ϟ _) (Ϗ (μ ⟨_,rfl,μ hn⟩) hsz)
   | exact γ (m:=Ϟ _) (Ϗ (γ (μ (μ ⟨_,rfl,μ hn⟩))) hsz)
   | exact γ (γ (m:=Ϟ _) (Ϗ (μ (μ ⟨_,rfl,μ hn⟩)) hsz))
   | exact γ (γ (m:=Ϟ _) (Ϗ (μ ⟨_,rfl,μ hn⟩) hsz))
theorem uY (xs:Array δ):((Φ xs.size).filterMap λ(k:Nat)=>xs[((xs.size:Int) - 1 + (k:Int) * (-1)).toNat]?)=xs.toList.reverse:=by
 have e:((Φ xs.size).filterMap λ(k:Nat)=>xs[((xs.size:Int) - 1 + (k:Int) * (-1)).toNat]?)=(Φ xs.size).filterMap λk=>some (xs.getD (xs.size - 1 - k) .none):=by
  have cg:∀ (l:List Nat) (f g:Nat->Option δ),(∀ k∈l,f k=g k)->l.filterMap f=l.filterMap g:=λl f g h=>by
   induction l with
   | nil=>rfl
   | cons x l ih=>rw [r6,r6,h x Δ,ih λk hk=>h k (ρ _ hk)]
  refine cg _ _ _ λk hk=>?_
  rw [ϸ] at hk
  have e1:((xs.size:Int) - 1 + (k:Int) * (-1)).toNat=xs.size - 1 - k:=by omega
  rw [e1]
  have h:xs.size - 1 - k < xs.size:=by omega
  simp [Eg,h]
 rw [e,List.filterMap_eq_map']
 refine C8 λi=>?_
 by_cases hi:i < xs.size
 ·rw [Ψ,DQ hi,Ci (by simpa using hi)]
  have h:xs.size - 1 - i < xs.size:=by omega
  simp [Eg,h]
 ·rw [b_ (by simpa using hi),b_ (by simpa using hi)]
end
section
variable {X:Cx}
def zM (K:ι):V->Option Int->Option Int->Hp->VK->Prop:=λx lo hi H Q=>∃ a xs,x=.ref a/\SqT K H a xs/\(aB xs lo hi=xs->Q (.ref a) H)/\∀ p,H p=none->Q (.ref p) (upd H p (.tup (aB xs lo hi)))
theorem kY:SlR X (zM X.K):=by
 intro pins s σ H x v vl vu lo hi sl Q I rx hs pl pu h
 obtain ⟨a,xs,rfl,hx,hw,q⟩:=h
 cases rx
 by_cases c:HT.sIx xs.length 0 lo=0/\HT.sIx xs.length xs.length hi=xs.length
 ·obtain ⟨its,r,ht,hz⟩:=I.tuple hx
  have hlen:its.toArray.size=xs.length:=by rw [ς]; exact r.length.symm
  have ec:aB xs lo hi=xs:=by unfold aB; rw [c.1,c.2]; simp
  obtain ⟨os,hos,hcs,hds⟩:=id hs
  refine ⟨"tuple",_,a_.lookup,ht.typeIs,oR (lo:=((HT.sIx its.toArray.size 0 lo:Nat):Int)) (st:=1) (n:=HT.sIx its.toArray.size its.toArray.size hi - HT.sIx its.toArray.size 0 lo) ht ⟨os,hos,hcs⟩ (λq'=>HT.sliceApplied_gen hs pl pu q') (λ_=>⟨.ref a,H,I,rfl,hw ec⟩) ?_ ?_⟩
  ·rw [HT.pick_gen,hlen]
   refine ⟨.ref s.heap.objs.size,_,I.laid (t':=s.toks) (o:=.tup (aB xs lo hi)) (λb ob q=>η _ q) (π _) ?_,rfl,q _ (I.hok.fresh (π _))⟩
   exact ⟨ϟ (dE xs lo hi) hz,_,(r.drop (HT.sIx xs.length 0 lo)).take (HT.sIx xs.length xs.length hi - HT.sIx xs.length 0 lo),EN _ _,NoD.new _ rfl⟩
  ·rw [HT.pick_gen,ς,ϊ,c_]
   have:its.toArray.toList.length=xs.length:=by simpa using hlen
   omega
 ·exact oH pins s σ H (.ref a) (.ref a) vl vu lo hi sl Q I rfl hs pl pu ⟨a,xs,rfl,hx,c,q⟩
end
section
variable {prog:Β} {w:Ν} {A:Χ} {E:δ->ζ->Prop} {s:ζ}
end
section
variable {X:Cx}
end
def look (kvs:List (Str×Addr)) (k:Str):Option Addr:=(kvs.find? λp=>decide (p.1=k)).map (·.2)
structure FD (P:Β) (w:Ν) (K:ι) (a:Addr) (kvs:List (Str×Addr)):Prop where
 nd:(kvs.map (·.1)).Nodup
 lo:(a == sysModules)=false
 ex:∃ o es ep,K.lookup a=some o/\o.ExactDict/\o.data=.dict es ep/\KeysOf (aK P w) es/\Pairs (aK P w) es.toList (kvs.map λp=>((ϕ p.1:Key),Η p.2))
theorem mX (kvs:List (Str×Addr)) (k:Str):valueAt (kvs.map λp=>((ϕ p.1:Key),Η p.2)) (ϕ k)=(look kvs k).map Η:=by
 unfold valueAt look
 induction kvs with
 | nil=>rfl
 | cons p kvs ih=>
  rw [Υ,j6,j6]
  by_cases h:p.1=k
  ·rw [decide_eq_true h,show decide ((ϕ p.1:Key)=ϕ k)=true from decide_eq_true (by rw [h])]
   rfl
  ·rw [decide_eq_false h,show decide ((ϕ p.1:Key)=ϕ k)=false from decide_eq_false (λz=>h (by injection z))]
   exact ih
section
variable {X:Cx} {pins:List (Addr×Obj)} {s:ζ} {σ:St} {H:Hp} {a:Addr} {kvs:List (Str×Addr)}
theorem FD.of (f:FD X.prog X.w X.K a kvs) (I:Inv X pins σ H s):s.heap.DictOf (aK X.prog X.w) a (kvs.map λp=>((ϕ p.1:Key),Η p.2)):=by
 obtain ⟨o,es,ep,hk,h1,h2,h3,h4⟩:=f.ex
 refine ⟨o,es,ep,I.kIn a o hk,h1,h2,h3,h4,?_⟩
 have e:(kvs.map λp=>((ϕ p.1:Key),Η p.2)).map (·.1)=(kvs.map (·.1)).map ϕ:=by rw [ϓ,ϓ]; rfl
 rw [e]
 exact EK.map ϕ (λa b h z=>h (by injection z)) f.nd
def BD (a:Addr) (kvs:List (Str×Addr)) (neg:Bool):R2:=λx y H Q=>∃ k,x=.str k/\y=.ref a/\Q (.bl (xor neg (look kvs k).isSome)) H
theorem jw (f:FD X.prog X.w X.K a kvs):OpR X (compareOp .NotIn) (BD a kvs true):=by
 intro pins s σ H x y v u Q I rx ry h
 obtain ⟨k,rfl,rfl,q⟩:=h
 cases ry
 refine wpAny_notIn_of (jI (k:=ϕ k) rx) f.lo (f.of I).mapOf ?_
 rw [mX,Cj]
 exact ⟨.bl (!(look kvs k).isSome),H,I.tok _,rfl,by simpa using q⟩
def AN (a:Addr) (kvs:List (Str×Addr)) (td ty:TE):TE:=λσ H Q=>td σ H λx H1=>ty σ H1 λy H2=>∃ k b,x=.ref a/\y=.str k/\look kvs k=some b/\Q (.ref b) H2
theorem pe_getF {o i:Expr} {td ty:TE} {pos:Pos} (f:FD X.prog X.w X.K a kvs) (ho:PE X o td) (hi:PE X i ty) (hs:zO i):PE X (.Subscript o i pos) (AN a kvs td ty):=by
 intro pins s σ H Q I h
 refine xr PySem.F.slot_dict_getitem.lookup hs (thn (ho pins s σ H _ I h) λu s1 ⟨x,H1,I1,rx,q1⟩=>thn (hi pins s1 σ H1 _ I1 q1) λiv s2 ⟨y,H2,I2,ry,k,b,ex,ey,hl,q2⟩=>?_)
 subst ex ey
 obtain rfl:u=Η a:=rx
 refine ⟨(f.of I2).typeIs,wpAny_getItem_of (v:=.ref b) (jI (k:=ϕ k) ry) (f.of I2).mapOf (by rw [mX,hl]; rfl) ⟨.ref b,H2,I2.tok _,rfl,q2⟩⟩
end
abbrev lm (h:Heap) (l1:Addr):Heap:=h.push { cls:=.type "tuple_iterator",data:=.fields #[.ref l1,.int 0 0] }
abbrev ls (h:Heap) (l1 l2:Addr):Heap:=(lm h l1).push { cls:=.type "tuple_iterator",data:=.fields #[.ref l2,.int 0 0] }
abbrev kO (h:Heap) (l1 l2:Addr):Heap:=(ls h l1 l2).push { cls:=.type "tuple",data:=.seq #[.ref h.objs.size,.ref (lm h l1).objs.size] }
abbrev kR (h:Heap) (l1 l2:Addr):Heap:=(kO h l1 l2).push { cls:=.type "tuple",data:=.seq #[.none,.none] }
abbrev gb (h:Heap) (l1 l2:Addr):Heap:=(kR h l1 l2).push { cls:=.type "zip",data:=.fields #[.none,.bool false,.bool false,.ref (ls h l1 l2).objs.size,.ref (kO h l1 l2).objs.size] }
section
variable {prog:Β} {w:Ν} {A:Χ} {E:δ->ζ->Prop} {s:ζ}
theorem oO {z TI TO i1 i2 l1 l2:Addr} {k1 k2:Nat} {xs ys:Array δ} {x y a b:δ} {Q:δ->ζ->Prop} (D:Fi z TI TO i1 i2 l1 l2) (hz:El s.heap z TI TO .none) (hTI:BW s.heap TI (.ref i1) (.ref i2)) (hTO:BW s.heap TO a b)
  (h1:s.heap.IsTupleIter i1 l1 k1) (h2:s.heap.IsTupleIter i2 l2 k2) (hl1:s.heap.IsTuple l1 xs) (hl2:s.heap.IsTuple l2 ys) (hx:xs[k1]?=some x) (hy:ys[k2]?=some y)
  (hQ:∀ h',El h' z TI TO (rawInt s.heap.objs.size)->BW h' TO x y->h'.IsTupleIter i1 l1 (k1 + 1)->h'.IsTupleIter i2 l2 (k2 + 1)->BW h' s.heap.objs.size x y->(∀ c o,c≠z->c≠TO->c≠i1->c≠i2->s.heap.get? c=some o->h'.get? c=some o)->Q (.ref s.heap.objs.size) { s with heap:=h' }) :
  wpAny (model prog w) A (Ϡ.«zip.__next__» ⟨[.ref z],[]⟩) (λfin s'=>∃ v,fin=.done (.ret v)/\Q v s') E s:=by
 show wpAny _ _ (field (.ref z) 2 >>= _) _ _ _; refine γ (ϱ hz rfl (x:=.bool false) rfl ?_)
 show wpAny _ _ (field (.ref z) 3 >>= _) _ _ _; refine γ (ϱ hz rfl (x:=.ref TI) rfl ?_); refine γ (i8 hTI rfl ?_)
 show wpAny _ _ (l_ (.ref z) >>= _) _ _ _; refine γ ?_; unfold l_
 refine γ (ϱ hz rfl (x:=.none) rfl (μ ?_)); simp only [if_true]; refine γ (w_ ?_)
 refine γ (ϱ hz rfl (x:=.ref TO) rfl ?_); refine γ (h_ hz ∅ λg1 z1 c1=>?_)
 replace z1:El g1 z TI TO .ellipsis:=z1
 refine γ ?_; simp only [List.zipIdx_cons,List.zipIdx_nil,E6,List.forIn_nil]; refine γ (γ (Dz ?_))
 show wpAny _ _ (ϴ (.ref i1) >>= _) _ _ _; refine γ (bQ (h1.extBut c1.extBut D.i1z) (hl1.extBut c1.extBut D.l1z) hx λg2 it2 c2=>μ ?_)
 have t2:BW g2 TO a b:=c2.extBut _ _ D.TOi1 (c1.extBut _ _ D.TOz hTO)
 refine γ (i8 t2 rfl ?_); refine γ (DD t2 λg3 t3 c3=>?_)
 replace t3:BW g3 TO x b:=t3
 refine γ (Fh (μ ?_)); refine γ (γ (Dz ?_))
 show wpAny _ _ (ϴ (.ref i2) >>= _) _ _ _; refine γ (bQ (((h2.extBut c1.extBut D.i2z).extBut c2.extBut D.i12.symm).extBut c3.extBut D.TOi2.symm) (((hl2.extBut c1.extBut D.l2z).extBut c2.extBut D.l2i1).extBut c3.extBut D.l2TO) hy λg4 it4 c4=>μ ?_)
 have t4:BW g4 TO x b:=c4.extBut _ _ D.TOi2 t3
 refine γ (i8 t4 rfl ?_); refine γ (DD t4 λg5 t5 c5=>?_)
 replace t5:BW g5 TO x y:=t5
 refine γ (Fh (μ (μ ?_))); refine γ (i8 t5 rfl ?_); refine γ (Fc ?_)
 have sz:g5.objs.size=s.heap.objs.size:=by rw [c5.1,c4.1,c3.1,c2.1,c1.1]
 have z5:El g5 z TI TO .ellipsis:=c5.extBut _ _ D.TOz.symm (c4.extBut _ _ D.i2z.symm (c3.extBut _ _ D.TOz.symm (c2.extBut _ _ D.i1z.symm z1)))
 have k5:∀ c o,c≠z->c≠TO->c≠i1->c≠i2->s.heap.get? c=some o->g5.get? c=some o:=λc o d1 d2 d3 d4 e=>c5.extBut _ _ d2 (c4.extBut _ _ d4 (c3.extBut _ _ d2 (c2.extBut _ _ d3 (c1.extBut _ _ d1 e))))
 have j1:g5.IsTupleIter i1 l1 (k1 + 1):=((it2.extBut c3.extBut D.TOi1.symm).extBut c4.extBut D.i12).extBut c5.extBut D.TOi1.symm
 have j2:g5.IsTupleIter i2 l2 (k2 + 1):=it4.extBut c5.extBut D.TOi2.symm
 have zlt:z < g5.objs.size:=χ z5
 show wpAny _ _ (CK (.ref z) (.ref g5.objs.size) >>= _) _ _ _; refine γ ?_; unfold CK
 have z6:El (g5.push { cls:=.type "tuple",data:=.seq #[x,y] }) z TI TO .ellipsis:=η _ z5
 refine γ (h_ z6 ∅ λg7 z7 c7=>?_)
 replace z7:El g7 z TI TO (rawInt g5.objs.size):=z7
 refine h_ z7 ∅ λg8 z8 c8=>?_
 replace z8:El g8 z TI TO (rawInt g5.objs.size):=z8
 have up:∀ c o,c≠z->g5.get? c=some o->g8.get? c=some o:=λc o d1 e=>c8.extBut _ _ d1 (c7.extBut _ _ d1 (η _ e))
 have p8:BW g8 g5.objs.size x y:=c8.extBut _ _ (j7 zlt) (c7.extBut _ _ (j7 zlt) (τ _ rfl))
 rw [sz] at z8 p8
 refine μ ⟨_,rfl,?_⟩
 show Q (.ref g5.objs.size) _; rw [sz]
 exact hQ g8 z8 (up _ _ D.TOz t5) (j1.at λo e=>up _ o D.i1z e) (j2.at λo e=>up _ o D.i2z e) p8 λc o d1 d2 d3 d4 e=>up c o d1 (k5 c o d1 d2 d3 d4 e)
theorem sL {z TI TO i1 i2 l1 l2:Addr} {k1 k2:Nat} {xs ys:Array δ} {a b:δ} {Q:Fin->ζ->Prop} (hh:A.handled=none) (D:Fi z TI TO i1 i2 l1 l2) (hz:El s.heap z TI TO .none) (hTI:BW s.heap TI (.ref i1) (.ref i2)) (hTO:BW s.heap TO a b)
  (h1:s.heap.IsTupleIter i1 l1 k1) (h2:s.heap.IsTupleIter i2 l2 k2) (hl1:s.heap.IsTuple l1 xs) (hl2:s.heap.IsTuple l2 ys) (hend:xs[k1]?=none\/ys[k2]?=none)
  (hE:∀ h' e,(∀ c o,c≠z->c≠TO->c≠i1->c≠i2->s.heap.get? c=some o->h'.get? c=some o)->(∃ o,h'.get? e=some o/\o.cls=.type "StopIteration")->E (.ref e) { s with heap:=h' }):wpAny (model prog w) A (Ϡ.«zip.__next__» ⟨[.ref z],[]⟩) Q E s:=by
 show wpAny _ _ (field (.ref z) 2 >>= _) _ _ _; refine γ (ϱ hz rfl (x:=.bool false) rfl ?_)
 show wpAny _ _ (field (.ref z) 3 >>= _) _ _ _; refine γ (ϱ hz rfl (x:=.ref TI) rfl ?_); refine γ (i8 hTI rfl ?_)
 show wpAny _ _ (l_ (.ref z) >>= _) _ _ _; refine γ ?_; unfold l_
 refine γ (ϱ hz rfl (x:=.none) rfl (μ ?_)); simp only [if_true]; refine γ (w_ ?_)
 refine γ (ϱ hz rfl (x:=.ref TO) rfl ?_); refine γ (h_ hz ∅ λg1 z1 c1=>?_)
 replace z1:El g1 z TI TO .ellipsis:=z1
 refine γ ?_; simp only [List.zipIdx_cons,List.zipIdx_nil,E6,List.forIn_nil]; refine γ (γ (Dz ?_))
 show wpAny _ _ (ϴ (.ref i1) >>= _) _ _ _
 cases hx:xs[k1]? with
 | none=>
  refine γ (dH hh (h1.extBut c1.extBut D.i1z) (hl1.extBut c1.extBut D.l1z) hx λg2 e c2 ⟨oe,hoe,hce⟩=>?_)
  have z2:El g2 z TI TO .ellipsis:=c2 _ _ D.i1z.symm z1
  have ez:e≠z:=λq=>by subst q; rw [z2] at hoe; cases hoe; simp at hce
  exact h_ z2 ∅ λg3 _ c3=>hE g3 e (λc o d1 _ d3 _ q=>c3.extBut _ _ d1 (c2 _ _ d3 (c1.extBut _ _ d1 q))) ⟨oe,c3.extBut _ _ ez hoe,hce⟩
 | some x=>
  have hy:ys[k2]?=none:=hend.resolve_left (by rw [hx]; exact nofun)
  refine γ (bQ (h1.extBut c1.extBut D.i1z) (hl1.extBut c1.extBut D.l1z) hx λg2 it2 c2=>μ ?_)
  have t2:BW g2 TO a b:=c2.extBut _ _ D.TOi1 (c1.extBut _ _ D.TOz hTO)
  refine γ (i8 t2 rfl ?_); refine γ (DD t2 λg3 t3 c3=>?_)
  refine γ (Fh (μ ?_)); refine γ (γ (Dz ?_))
  show wpAny _ _ (ϴ (.ref i2) >>= _) _ _ _; refine γ (dH hh (((h2.extBut c1.extBut D.i2z).extBut c2.extBut D.i12.symm).extBut c3.extBut D.TOi2.symm) (((hl2.extBut c1.extBut D.l2z).extBut c2.extBut D.l2i1).extBut c3.extBut D.l2TO) hy λg4 e c4 ⟨oe,hoe,hce⟩=>?_)
  have z4:El g4 z TI TO .ellipsis:=c4 _ _ D.i2z.symm (c3.extBut _ _ D.TOz.symm (c2.extBut _ _ D.i1z.symm z1))
  have ez:e≠z:=λq=>by subst q; rw [z4] at hoe; cases hoe; simp at hce
  exact h_ z4 ∅ λg5 _ c5=>hE g5 e (λc o d1 d2 d3 d4 q=>c5.extBut _ _ d1 (c4 _ _ d4 (c3.extBut _ _ d2 (c2.extBut _ _ d3 (c1.extBut _ _ d1 q))))) ⟨oe,c5.extBut _ _ ez hoe,hce⟩
theorem nV {z TI TO i1 i2 l1 l2:Addr} {k1 k2:Nat} {xs ys:Array δ} {x y a b:δ} {Q:Option δ->ζ->Prop} (D:Fi z TI TO i1 i2 l1 l2) (hz:El s.heap z TI TO .none) (hTI:BW s.heap TI (.ref i1) (.ref i2)) (hTO:BW s.heap TO a b)
  (h1:s.heap.IsTupleIter i1 l1 k1) (h2:s.heap.IsTupleIter i2 l2 k2) (hl1:s.heap.IsTuple l1 xs) (hl2:s.heap.IsTuple l2 ys) (hx:xs[k1]?=some x) (hy:ys[k2]?=some y)
  (hQ:∀ h',El h' z TI TO (rawInt s.heap.objs.size)->BW h' TO x y->h'.IsTupleIter i1 l1 (k1 + 1)->h'.IsTupleIter i2 l2 (k2 + 1)->BW h' s.heap.objs.size x y->(∀ c o,c≠z->c≠TO->c≠i1->c≠i2->s.heap.get? c=some o->h'.get? c=some o)->Q (some (.ref s.heap.objs.size)) { s with heap:=h' }) :
  wpAny (model prog w) A (pyNext (.ref z)) Q E s:=by
 have hT:s.TypeIs (.ref z) "zip":=⟨_,hz,rfl⟩; unfold pyNext
 exact γ (Ch (ϥ (name:=ξ "__next__") hT DM (ϙ DM hT F.entry_zip_next (oO D hz hTI hTO h1 h2 hl1 hl2 hx hy λh' a1 a2 a3 a4 a5 a6=>μ (hQ h' a1 a2 a3 a4 a5 a6)) (F.args_zip_next_1 _))))
theorem oN {z TI TO i1 i2 l1 l2:Addr} {k1 k2:Nat} {xs ys:Array δ} {a b:δ} {Q:Option δ->ζ->Prop} (hh:A.handled=none) (D:Fi z TI TO i1 i2 l1 l2) (hz:El s.heap z TI TO .none) (hTI:BW s.heap TI (.ref i1) (.ref i2)) (hTO:BW s.heap TO a b)
  (h1:s.heap.IsTupleIter i1 l1 k1) (h2:s.heap.IsTupleIter i2 l2 k2) (hl1:s.heap.IsTuple l1 xs) (hl2:s.heap.IsTuple l2 ys) (hend:xs[k1]?=none\/ys[k2]?=none)
  (hQ:∀ h',(∀ c o,c≠z->c≠TO->c≠i1->c≠i2->s.heap.get? c=some o->h'.get? c=some o)->Q none { s with heap:=h' }):wpAny (model prog w) A (pyNext (.ref z)) Q E s:=by
 have hT:s.TypeIs (.ref z) "zip":=⟨_,hz,rfl⟩; unfold pyNext
 refine γ (Ch (ϥ (name:=ξ "__next__") hT DM (ϙ DM hT F.entry_zip_next (sL hh D hz hTI hTO h1 h2 hl1 hl2 hend λh' e hk ⟨o,ho,hc⟩=>?_) (F.args_zip_next_1 _))))
 exact γ (CF (T:="StopIteration") (b:=true) ⟨o,ho,hc⟩ Fg (μ (hQ _ hk)))
theorem lM (l1 l2:Addr) (xs ys:Array δ) (n n':Nat) (dct dct':Option Addr) (slt slt':Array (Option δ)) :
  Meets (Ϡ.«zip.__new__» ⟨[.type "zip",.ref l1,.ref l2],[]⟩) (λ_ R s=>s.heap.get? l1=some { cls:=.type "tuple",dict:=dct',data:=.seq xs n',slots:=slt' }/\s.heap.get? l2=some { cls:=.type "tuple",dict:=dct,data:=.seq ys n,slots:=slt } /\
   R (.ok (.ret (.ref (kR s.heap l1 l2).objs.size))) { s with heap:=gb s.heap l1 l2 }):=
 .of_wp λprog w A R s h=>by
  obtain ⟨hp,g,d,tk,os⟩:=s; obtain ⟨hl1,hl2,h⟩:=h
  have hsub:=sub_zip
  have hL1:Heap.IsTuple (ζ.heap ⟨hp,g,d,tk,os⟩) l1 xs:=⟨_,hl1,rfl,n',rfl⟩
  have hl2':(hp.push { cls:=.type "tuple_iterator",data:=.fields #[.ref l1,.int 0 0] }).get? l2=some { cls:=.type "tuple",dict:=dct,data:=.seq ys n,slots:=slt }:=η _ hl2
  have hL2:Heap.IsTuple (ζ.heap ⟨hp.push { cls:=.type "tuple_iterator",data:=.fields #[.ref l1,.int 0 0] },g,d,tk,os⟩) l2 ys:=⟨_,hl2',rfl,n,rfl⟩
  wp_walk using CU hL1,CU hL2,a8 hl1,a8 hl2'
  exact ⟨_,rfl,h⟩
theorem pU {l1 l2:Addr} {xs ys:Array δ} {Q:δ->ζ->Prop} (hl1:s.heap.IsTuple l1 xs) (hl2:s.heap.IsTuple l2 ys)
  (h:∀ h',El h' (s.heap.objs.size + 4) (s.heap.objs.size + 2) (s.heap.objs.size + 3) .none->BW h' (s.heap.objs.size + 2) (.ref s.heap.objs.size) (.ref (s.heap.objs.size + 1))->BW h' (s.heap.objs.size + 3) .none .none->h'.IsTupleIter s.heap.objs.size l1 0->h'.IsTupleIter (s.heap.objs.size + 1) l2 0 ->
   (∀ c o,s.heap.get? c=some o->h'.get? c=some o)->Q (.ref (s.heap.objs.size + 4)) { s with heap:=h' }):wpAny (model prog w) A (call (.type "zip") [.ref l1,.ref l2]) Q E s:=by
 obtain ⟨⟨c,dct,dt,sl⟩,hl,hc,n,hd⟩:=hl2
 replace hc:c=.type "tuple":=hc
 replace hd:dt=.seq ys n:=hd
 subst hc hd
 obtain ⟨⟨c',dct',dt',sl'⟩,hl',hc',n',hd'⟩:=hl1
 replace hc':c'=.type "tuple":=hc'
 replace hd':dt'=.seq xs n':=hd'
 subst hc' hd'
 refine callType_new F.called_zip ∅ (F.typeCall_zip_2 _ _) (F.newCall_zip_2 _ _) (λobj=>F.args_object_init_3 obj _ _) F.entry_zip_new (lM l1 l2 xs ys n n' dct dct' sl sl') ⟨hl',hl,?_⟩
 have y1:(lm s.heap l1).objs.size=s.heap.objs.size + 1:=Ϩ ..
 have y2:(ls s.heap l1 l2).objs.size=s.heap.objs.size + 2:=by rw [Ϩ,y1]
 have y3:(kO s.heap l1 l2).objs.size=s.heap.objs.size + 3:=by rw [Ϩ,y2]
 have y4:(kR s.heap l1 l2).objs.size=s.heap.objs.size + 4:=by rw [Ϩ,y3]
 have up:∀ {h:Heap} {o:Obj} {c:Addr} {p:Obj},h.get? c=some p->(h.push o).get? c=some p:=λq=>η _ q
 have v5:(gb s.heap l1 l2).get? (kR s.heap l1 l2).objs.size=some _:=τ _ rfl
 have v4:(gb s.heap l1 l2).get? (kO s.heap l1 l2).objs.size=some _:=up (τ _ rfl)
 have v3:(gb s.heap l1 l2).get? (ls s.heap l1 l2).objs.size=some _:=up (up (τ _ rfl))
 have v2:(gb s.heap l1 l2).get? (lm s.heap l1).objs.size=some _:=up (up (up (τ _ rfl)))
 have v1:(gb s.heap l1 l2).get? s.heap.objs.size=some _:=up (up (up (up (τ _ rfl))))
 show _/\_
 rw [y2,y3,y4] at v5
 rw [y1,y2] at v3
 rw [y3] at v4
 rw [y1] at v2
 rw [y4]
 exact ⟨⟨_,v5,rfl⟩,h _ v5 v3 v4 ⟨_,v1,rfl,rfl⟩ ⟨_,v2,rfl,rfl⟩ λc o q=>up (up (up (up (up q))))⟩
end
def jK (K:ι) (a b:Addr):It:=
 ⟨λi H=>∃ xs ys x y,SqT K H a xs/\SqT K H b ys/\xs[i]?=some x/\ys[i]?=some y,λi H z H'=>∃ p x y,H p=none/\H'=upd H p (.tup [x,y])/\z=.ref p/\(∀ xs,SqT K H a xs->xs[i]?=some x)/\∀ ys,SqT K H b ys->ys[i]?=some y,
 λi H=>∃ xs ys,SqT K H a xs/\SqT K H b ys/\(xs.length<=i\/ys.length<=i)⟩
theorem pE {P:Β} {w:Ν} {K:ι} {elts:List Expr} {x1} {tp:Pos} (a b z TI TO i1 i2:Addr) (D1:TI≠z/\TO≠z/\i1≠z/\i2≠z/\TI≠TO/\TI≠i1/\TI≠i2/\TO≠i1/\TO≠i2/\i1≠i2) (D2:a≠TO/\b≠TO) :
  jh P w K (.Tuple elts x1 tp) (jK K a b) [z,TI,TO,i1,i2] z (λi h=>El h z TI TO .none/\BW h TI (.ref i1) (.ref i2)/\(∃ u v,BW h TO u v)/\h.IsTupleIter i1 a i/\h.IsTupleIter i2 b i) where
 mem:=by simp
 obj:=λi h st c hc=>by
  obtain ⟨hz,hTI,⟨u,v,hTO⟩,⟨o1,e1,c1,d1⟩,⟨o2,e2,c2,d2⟩⟩:=st
  simp only [ν,Ϸ,or_false] at hc
  rcases hc with rfl | rfl | rfl | rfl | rfl
  ·exact ⟨_,hz,λv z=>by
    have z':Data.fields _=Fk v:=z
    cases z'⟩
  ·exact ⟨_,hTI,λv z=>by
    have z':Data.seq _ _=Fk v:=z
    cases z'⟩
  ·exact ⟨_,hTO,λv z=>by
    have z':Data.seq _ _=Fk v:=z
    cases z'⟩
  ·exact ⟨o1,e1,λv z=>by rw [d1] at z; cases z⟩
  ·exact ⟨o2,e2,λv z=>by rw [d2] at z; cases z⟩
 keep:=λi h h' st k=>by
  obtain ⟨hz,hTI,⟨u,v,hTO⟩,h1,h2⟩:=st
  exact ⟨k z ∅ _ hz,k TI ∅ _ hTI,⟨u,v,k TO ∅ _ hTO⟩,h1.at λo e=>k i1 ∅ o e,h2.at λo e=>k i2 ∅ o e⟩
 item:=by
  intro X hP hw hK hc i pins s σ H E I hf st hg
  subst hP hw hK
  obtain ⟨xs,ys,x,y,hq1,hq2,hx,hy⟩:=hg
  obtain ⟨its1,rv1,p1,_⟩:=I.tuple hq1
  obtain ⟨its2,rv2,p2,_⟩:=I.tuple hq2
  obtain ⟨u1,hu1,ru1⟩:=rv1.get hx
  obtain ⟨u2,hu2,ru2⟩:=rv2.get hy
  obtain ⟨hz,hTI,⟨u,v,hTO⟩,h1,h2⟩:=st
  obtain ⟨d1,d2,d3,d4,d5,d6,d7,d8,d9,d10⟩:=D1
  have L1:s.heap.IsTuple a its1.toArray:=p1
  have L2:s.heap.IsTuple b its2.toArray:=p2
  have D:Fi z TI TO i1 i2 a b:=by
   obtain ⟨o1,e1,c1,_⟩:=id L1
   obtain ⟨o2,e2,c2,_⟩:=id L2
   obtain ⟨o3,e3,c3,_⟩:=id h1
   obtain ⟨o4,e4,c4,_⟩:=id h2
   exact ⟨d1,d2,d3,d4,d5,d6,d7,d8,d9,d10,bO e1 hz (by rw [c1]; exact λz=>absurd (i9 z) ∅),D2.1,bO e1 e3 (by rw [c1,c3]; exact λz=>absurd (i9 z) ∅),bO e1 e4 (by rw [c1,c4]; exact λz=>absurd (i9 z) ∅),
    bO e2 hz (by rw [c2]; exact λz=>absurd (i9 z) ∅),D2.2,bO e2 e3 (by rw [c2,c3]; exact λz=>absurd (i9 z) ∅),bO e2 e4 (by rw [c2,c4]; exact λz=>absurd (i9 z) ∅)⟩
  refine nV D hz hTI hTO h1 h2 L1 L2 (x:=u1) (y:=u2) (by simpa using hu1) (by simpa using hu2) λh3 a1 a2 a3 a4 a5 hk=>?_
  refine ⟨_,rfl,wpAny_letOwnedTupleGo_zip a1 λh4 hz4 hs4=>?_⟩
  have hzl:z < s.heap.objs.size:=χ hz
  have hn:H s.heap.objs.size=none:=I.hok.fresh (π _)
  have keep:∀ c o,c≠z->c≠TO->c≠i1->c≠i2->s.heap.get? c=some o->h4.get? c=some o:=λc o c1 c2 c3 c4 q=>(hs4.2 c c1).trans (hk c o c1 c2 c3 c4 q)
  have tup:h4.get? s.heap.objs.size=some { cls:=.type "tuple",data:=.seq #[u1,u2] }:=(hs4.2 _ (ngt hzl)).trans a5
  have fpn:∀ c∈[z,TI,TO,i1,i2],H c=none:=λc hc=>(hf c hc).1
  have nit:∀ c v,H c=some v->c≠z/\c≠TO/\c≠i1/\c≠i2:=λc v q=>⟨(λe=>by rw [e,fpn z ∅] at q; cases q),(λe=>by rw [e,fpn TO ∅] at q; cases q),(λe=>by rw [e,fpn i1 ∅] at q; cases q),(λe=>by rw [e,fpn i2 ∅] at q; cases q)⟩
  have kch:∀ c o,c∉[z,TO,i1,i2]->s.heap.get? c=some o->h4.get? c=some o:=λc o hc q=>keep c o (λe=>hc (by simp [e])) (λe=>hc (by simp [e])) (λe=>hc (by simp [e])) (λe=>hc (by simp [e])) q
  have I2:Inv X pins σ (upd H s.heap.objs.size (.tup [x,y])) { s with heap:=h4,toks:=s.toks }:=by
   refine I.step (g':=s.gens) (d':=s.drawn) (ch:=[z,TO,i1,i2]) (λc hc=>?_) (λc o _ _ hc' q _=>kch c o hc' q) (λc o _ _ hc' q _=>⟨o.slots,kch c o hc' q⟩) (λc o _ q n=>by rw [ah (nlt (χ q))]; exact n) (λc o hc' q=>⟨o,kch c o hc' q⟩)
    (λc xs q=>by rw [ah (ag q hn)]; exact q) (λc o v q=>by rw [ah (ag q hn)]; exact q) (λc ps q=>⟨#[],by rw [ah (ag q hn),q]; simp⟩) (λm hm=>?_) (λc v q=>?_) I.bare
   ·have hc':c∈[z,TI,TO,i1,i2]:=by
     simp only [ν,Ϸ,or_false] at hc ⊢
     rcases hc with e | e | e | e <;> simp [e]
    obtain ⟨f0,f1,f2,f3,f4,f5⟩:=hf c hc'
    exact ⟨f3,f1,f4,f5⟩
   ·obtain ⟨o,es,ep,ho,r⟩:=hm
    exact ⟨o,es,ep,keep _ o (ώ (hf z ∅).2.1) (ώ (hf TO ∅).2.1) (ώ (hf i1 ∅).2.1) (ώ (hf i2 ∅).2.1) ho,r⟩
   ·by_cases hb:c=s.heap.objs.size
    ·subst hb
     rw [aa] at q
     cases q
     exact ⟨(show 2<=sizeLine by rw [υ]; decide),[u1,u2],.cons ru1 (.cons ru2 .nil),⟨_,tup,rfl,0,rfl⟩,_,tup,rfl⟩
    ·rw [ah hb] at q
     refine (I.hok c v q).stay (λc' w' hc' q'=>?_) (λc' q'=>by rw [ah (ag q' hn)]; exact q') λc' xs q'=>by rw [ah (ag q' hn)]; exact q'
     rcases hc' with e | e
     ·subst e; obtain ⟨n1,n2,n3,n4⟩:=nit c' v q; exact keep c' w' n1 n2 n3 n4 q'
     ·obtain ⟨n1,n2,n3,n4⟩:=nit c' _ e; exact keep c' w' n1 n2 n3 n4 q'
  refine ⟨.ref s.heap.objs.size,_,I2,rfl,⟨_,x,y,hn,rfl,rfl,λxs' h'=>by rw [I.tuple_inj h' hq1]; exact hx,λys' h'=>by rw [I.tuple_inj h' hq2]; exact hy⟩,?_,λc hc=>?_⟩
  ·exact ⟨hz4,hs4.extBut _ _ d1 (hk TI _ d1 d5 d6 d7 hTI),⟨_,_,hs4.extBut _ _ d2 a2⟩,a3.at λo e=>hs4.extBut _ _ d3 e,a4.at λo e=>hs4.extBut _ _ d4 e⟩
  ·have hb':c < s.heap.objs.size:=by
    simp only [ν,Ϸ,or_false] at hc
    obtain ⟨o3,e3,_⟩:=h1
    obtain ⟨o4,e4,_⟩:=h2
    rcases hc with e | e | e | e | e
    ·rw [e]; exact hzl
    ·rw [e]; exact χ hTI
    ·rw [e]; exact χ hTO
    ·rw [e]; exact χ e3
    ·rw [e]; exact χ e4
   rw [ah (nlt hb')]
   exact fpn c hc
 done:=by
  intro X hP hw hK hc i pins s σ H E I hf st hg
  subst hP hw hK
  obtain ⟨xs,ys,hq1,hq2,hend⟩:=hg
  obtain ⟨its1,rv1,p1,_⟩:=I.tuple hq1
  obtain ⟨its2,rv2,p2,_⟩:=I.tuple hq2
  obtain ⟨hz,hTI,⟨u,v,hTO⟩,h1,h2⟩:=st
  obtain ⟨d1,d2,d3,d4,d5,d6,d7,d8,d9,d10⟩:=D1
  have L1:s.heap.IsTuple a its1.toArray:=p1
  have L2:s.heap.IsTuple b its2.toArray:=p2
  have D:Fi z TI TO i1 i2 a b:=by
   obtain ⟨o1,e1,c1,_⟩:=id L1
   obtain ⟨o2,e2,c2,_⟩:=id L2
   obtain ⟨o3,e3,c3,_⟩:=id h1
   obtain ⟨o4,e4,c4,_⟩:=id h2
   exact ⟨d1,d2,d3,d4,d5,d6,d7,d8,d9,d10,bO e1 hz (by rw [c1]; exact λz=>absurd (i9 z) ∅),D2.1,bO e1 e3 (by rw [c1,c3]; exact λz=>absurd (i9 z) ∅),bO e1 e4 (by rw [c1,c4]; exact λz=>absurd (i9 z) ∅),
    bO e2 hz (by rw [c2]; exact λz=>absurd (i9 z) ∅),D2.2,bO e2 e3 (by rw [c2,c3]; exact λz=>absurd (i9 z) ∅),bO e2 e4 (by rw [c2,c4]; exact λz=>absurd (i9 z) ∅)⟩
  have l1:=rv1.length
  have l2:=rv2.length
  have fpn:∀ c∈[z,TI,TO,i1,i2],H c=none:=λc hc=>(hf c hc).1
  refine oN (I.ok.hd hc) D hz hTI hTO h1 h2 L1 L2 (hend.imp (λh=>by simp; omega) λh=>by simp; omega) λh4 hk=>⟨rfl,?_⟩
  have nit:∀ c v,H c=some v->c≠z/\c≠TO/\c≠i1/\c≠i2:=λc v q=>⟨(λe=>by rw [e,fpn z ∅] at q; cases q),(λe=>by rw [e,fpn TO ∅] at q; cases q),(λe=>by rw [e,fpn i1 ∅] at q; cases q),(λe=>by rw [e,fpn i2 ∅] at q; cases q)⟩
  have kch:∀ c o,c∉[z,TO,i1,i2]->s.heap.get? c=some o->h4.get? c=some o:=λc o hc q=>hk c o (λe=>hc (by simp [e])) (λe=>hc (by simp [e])) (λe=>hc (by simp [e])) (λe=>hc (by simp [e])) q
  refine I.step (t':=s.toks) (g':=s.gens) (d':=s.drawn) (ch:=[z,TO,i1,i2]) (λc hc=>?_) (λc o _ _ hc' q _=>kch c o hc' q) (λc o _ _ hc' q _=>⟨o.slots,kch c o hc' q⟩) (λc o _ q n=>n) (λc o hc' q=>⟨o,kch c o hc' q⟩)
   (λc xs q=>q) (λc o v q=>q) (λc ps q=>⟨#[],by rw [q]; simp⟩) (λm hm=>?_) (λc v q=>?_) I.bare
  ·have hc':c∈[z,TI,TO,i1,i2]:=by
    simp only [ν,Ϸ,or_false] at hc ⊢
    rcases hc with e | e | e | e <;> simp [e]
   obtain ⟨f0,f1,f2,f3,f4,f5⟩:=hf c hc'
   exact ⟨f3,f1,f4,f5⟩
  ·obtain ⟨o,es,ep,ho,r⟩:=hm
   exact ⟨o,es,ep,hk _ o (ώ (hf z ∅).2.1) (ώ (hf TO ∅).2.1) (ώ (hf i1 ∅).2.1) (ώ (hf i2 ∅).2.1) ho,r⟩
  ·refine (I.hok c v q).stay (λc' w' hc' q'=>?_) (λc' q'=>q') λc' xs q'=>q'
   rcases hc' with e | e
   ·subst e; obtain ⟨n1,n2,n3,n4⟩:=nit c' v q; exact hk c' w' n1 n2 n3 n4 q'
   ·obtain ⟨n1,n2,n3,n4⟩:=nit c' _ e; exact hk c' w' n1 n2 n3 n4 q'
 self:=λA i s Q E st h=>wpAny_pyIter_zip st.1 h
theorem vf {h:Heap} {a:Addr} {its:Array δ} (p:Fy h a its):a < h.objs.size:=by
 obtain ⟨o,e,_⟩:=p
 exact χ e
section
variable {X:Cx}
def zb (K:ι) (ta:TA):TI:=λσ H R=>ta σ H λvs H1=>∃ a b,vs=[.ref a,.ref b]/\(∃ xs,SqT K H1 a xs)/\(∃ ys,SqT K H1 b ys)/\R (jK K a b) H1
theorem pi_zipTT {a b:Expr} {ta:TA} {p pos:Pos} {elts:List Expr} {x1} {tp:Pos} (hg:Gl X "zip") (hm:X.mg "zip"=none) (ha:PA X [a,b] ta) (hs:starEach [a,b] X.env=(false,eval a X.env) :: starEach [b] X.env:=by rfl) (hpl:(backTo pos (starEach [b] X.env)).any (·.1)=false:=by rfl) :
  PI X (.Tuple elts x1 tp) (.Call (.Name "zip" p) [a,b] [] pos) (zb X.K ta):=by
 intro pins s σ H R I h
 refine Call_ (cy I hg hm (u:=.type "zip") ∅ (a9 (thn (ha pos pins s σ H _ I h) λus s1 ⟨vs,H1,I1,r1,q1⟩=>?_) hs hpl))
 obtain ⟨l,m,e,⟨xs,hq1⟩,⟨ys,hq2⟩,q⟩:=q1
 subst e
 obtain ⟨u,w',rfl,ru,rw'⟩:=qW r1
 cases ru
 cases rw'
 obtain ⟨its1,rv1,p1,_⟩:=I1.tuple hq1
 obtain ⟨its2,rv2,p2,_⟩:=I1.tuple hq2
 refine pU p1 p2 λh' hz hTI hTO hi1 hi2 kp=>?_
 have I2:Inv X pins σ H1 { s1 with heap:=h' }:=I1.kept (t':=s1.toks) kp
 have add:∀ (n i j:Nat),i≠j->n + i≠n + j:=λn i j h z=>h (Nat.add_left_cancel z)
 have T:jh X.prog X.w X.K (.Tuple elts x1 tp) (jK X.K l m) [s1.heap.objs.size + 4,s1.heap.objs.size + 2,s1.heap.objs.size + 3,s1.heap.objs.size,s1.heap.objs.size + 1] (s1.heap.objs.size + 4) _:=
  pE l m (s1.heap.objs.size + 4) (s1.heap.objs.size + 2) (s1.heap.objs.size + 3) s1.heap.objs.size (s1.heap.objs.size + 1)
   ⟨add _ 2 4 ∅,add _ 3 4 ∅,add _ 0 4 ∅,add _ 1 4 ∅,add _ 2 3 ∅,add _ 2 0 ∅,add _ 2 1 ∅,add _ 3 0 ∅,add _ 3 1 ∅,add _ 0 1 ∅⟩ ⟨Ρ (Nat.lt_add_right 3 (vf p1)),Ρ (Nat.lt_add_right 3 (vf p2))⟩
 refine T.self X.A 0 { s1 with heap:=h' } _ _ ⟨hz,hTI,⟨_,_,hTO⟩,hi1,hi2⟩ ?_
 refine ⟨s1.heap.objs.size + 4,_,_,_,H1,rfl,I2,T,⟨hz,hTI,⟨_,_,hTO⟩,hi1,hi2⟩,λb hb=>?_,q⟩
 have hb':s1.heap.objs.size<=b:=by
  simp only [ν,Ϸ,or_false] at hb
  rcases hb with e | e | e | e | e
  ·rw [e]; exact j8 _ _
  ·rw [e]; exact j8 _ _
  ·rw [e]; exact j8 _ _
  ·rw [e]; exact π _
  ·rw [e]; exact j8 _ _
 obtain ⟨f0,f1⟩:=I1.fpOk hb' (I1.hok.fresh hb')
 exact ⟨f0,f1⟩
theorem sD {K:ι} {a b:Addr} {xs ys:List V} {g:TG} {tb:TS} {D:bP} {σ:St} {H:Hp} (Pv:Nat->St->Hp->Prop) (h0:Pv 0 σ H) (hl:∀ i σ H,Pv i σ H->SqT K H a xs/\SqT K H b ys)
  (hs:∀ i x y σ H p,xs[i]?=some x->ys[i]?=some y->Pv i σ H->H p=none->g (.ref p) σ (upd H p (.tup [x,y])) λσ2 H2=>tb { D with nx:=Pv (i + 1),ct:=Pv (i + 1),bk:=D.nx } σ2 H2) (hd:∀ σ H,Pv (min xs.length ys.length) σ H->D.nx σ H) :
  ∃ W:Nat->Nat->St->Hp->Prop,(∃ m,W 0 m σ H)/\∀ i m σ H,W i m σ H ->
   ((jK K a b).stop i H/\D.nx σ H)\/((jK K a b).go i H/\∃ N:St->Hp->Prop,(∀ σ' H',N σ' H'->∃ m',m' < m/\W (i + 1) m' σ' H')/\∀ x H',(jK K a b).yld i H x H'->g x σ H' λσ2 H2=>tb { D with nx:=N,ct:=N,bk:=D.nx } σ2 H2):=by
 refine ⟨λi m σ H=>m=min xs.length ys.length - i/\i<=min xs.length ys.length/\Pv i σ H,⟨min xs.length ys.length,∅,Ω _,h0⟩,?_⟩
 rintro i m σ H ⟨rfl,hi,p⟩
 obtain ⟨q1,q2⟩:=hl i σ H p
 by_cases hlt:i < min xs.length ys.length
 ·have h1:i < xs.length:=by omega
  have h2:i < ys.length:=by omega
  refine .inr ⟨⟨xs,ys,xs[i],ys[i],q1,q2,by simp [h1],by simp [h2]⟩,Pv (i + 1),λσ' H' p'=>⟨min xs.length ys.length - (i + 1),∅,rfl,hlt,p'⟩,λz H' y=>?_⟩
  obtain ⟨c,x,y,hb,e1,e2,hx,hy⟩:=y
  subst e1 e2
  exact hs i x y σ H c (hx xs q1) (hy ys q2) p hb
 ·have e:i=min xs.length ys.length:=by omega
  subst e
  exact .inl ⟨⟨xs,ys,q1,q2,∅⟩,hd σ H p⟩
end
theorem ni (l:Addr) (items:Array δ) (n:Nat) (b:Addr) (items2:Array δ) (n2:Nat) (dct:Option Addr) (slt:Array (Option δ)) (hs0:¬(!items.isEmpty && l8 (items.size + items2.size))=true) (hs1:items.size<=sizeLine) (hs2:items.size + items2.size<=sizeLine + 1) :
  Meets (Ϡ.«list.extend» ⟨[.ref l,.ref b],[]⟩) (λ_ R s=>s.heap.get? l=some { cls:=.type "list",data:=.seq items n }/\s.heap.get? b=some { cls:=.type "tuple",dict:=dct,data:=.seq items2 n2,slots:=slt }/\R (.ok (.ret Ϫ)) { s with heap:=s.heap.update l (i5 λx=>x ++ items2),toks:=s.toks }):=
 .of_wp λprog w A R s h=>by
  obtain ⟨hp,g,d,tk,os⟩:=s
  obtain ⟨hl,hb,h⟩:=h
  have f1:=Dt
  have f2:=BX
  have f3:=AutoSeq1.sub_list_list
  have f4:=AutoSeq1.sub_tuple_list
  have f5:=AutoSeq1.sub_list_tuple
  have hz':(items ++ items2).size<=sizeLine + 1:=by rw [EF]; exact hs2
  wp_walk using (BL hl rfl (hz:=hs1) (_hz':=hz')),a8 hl,a8 hb
  exact ⟨_,rfl,h⟩
section
variable {X:Cx}
def AT (K:ι):V->List V->Hp->VK->Prop:=λx vs H Q=>∃ l b xs zs,x=.ref l/\vs=[.ref b]/\H l=some (.lst xs)/\SqT K H b zs/\xs.length + zs.length<=sizeLine/\Q .non (upd H l (.lst (xs ++ zs)))
theorem xK:MtM X "list.extend" (AT X.K):=by
 intro pins s σ H x vs v us Q I rx rv h
 obtain ⟨l,b,xs,zs,rfl,rfl,hH,hB,hz,q⟩:=h
 cases rx
 obtain ⟨u,rfl,ru⟩:=rv.one
 cases ru
 obtain ⟨z,its,n,r,hl,e⟩:=I.lstM hH
 obtain ⟨its2,r2,⟨⟨cls,dd,data,sl⟩,e2,hc,n2,hd⟩,_⟩:=I.tuple hB
 simp only at hc hd
 subst hc hd
 have hl2:=r2.length
 have hsz:its.toArray.size + its2.toArray.size<=sizeLine:=by rw [ς,ς]; omega
 have hlong:¬ (!its.toArray.isEmpty && l8 (its.toArray.size + its2.toArray.size))=true:=by
  rw [iJ hsz,Ee]
  exact Θ
 refine v_ F.slot_list_extend ⟨_,e,rfl⟩ F.entry_list_extend (F.args_list_extend_2 _ _)
  (ni l its.toArray n b its2.toArray n2 dd sl hlong (by rw [ς]; omega) ∅) ⟨e,e2,?_⟩
 refine ⟨.non,_,I.lset (its':=its ++ its2) hH e ∅ (r.append r2) ?_,rfl,q⟩
 rw [ψ]
 omega
theorem vI (hu:X.A.units < cLine):OpR X (compareOp .Eq) (λx y H Q=>∃ (l b:Addr) (xs:List V),x=.ref l/\y=.ref b/\SqL X.K H l xs/\SqL X.K H b []/\Q (.bl xs.isEmpty) H):=by
 intro pins s σ H x y v u Q I rx ry h
 obtain ⟨l,b,xs,rfl,rfl,hl,hb,q⟩:=h
 cases rx
 cases ry
 obtain ⟨its,r1,p1,_⟩:=I.list hl
 obtain ⟨its2,r2,p2,_⟩:=I.list hb
 have l1:=r1.length
 have l2:=r2.length
 cases xs with
 | nil=>
  refine SeqAt.RcAt.lists (e:=λ_=>true) p1.isList p2.isList (by simp; omega) hu (λj h1 h2=>?_) X.prog X.w X.xe _ ?_
  ·have:j < its.length:=by simpa using h1
   simp at l1; omega
  ·have e:((Φ its.toArray.size).all λ_=>true)=true:=by simp
   rw [e]
   exact ⟨.bl true,H,I,rfl,q⟩
 | cons x xs=>
  refine SeqAt.RcAt.lists_lengths p1.isList p2.isList ?_ hu X.prog X.w X.xe _ ⟨.bl false,H,I,rfl,q⟩
  rw [ό] at l1
  rw [u_] at l2
  rw [ς,ς,bne_iff_ne]
  omega
end
section
variable {prog:Β} {w:Ν} {A:Χ} {E:δ->ζ->Prop} {s:ζ}
end
section
variable {X:Cx}
end
section
variable {X:Cx}
def Aw (K:ι) (te:TE) (ts:TO):TE:=λσ H Q=>te σ H λx H1=>ts σ H1 λl H2=>∃ a xs,x=.ref a/\l=some (-1)/\SqL K H2 a xs/\∀ p,H2 p=none->Q (.ref p) (upd H2 p (.lst xs.reverse))
theorem sf (its:Array δ):slicePick its none none (some (-1))=its.toList.reverse.toArray:=by
 have b1:(sliceBounds none none (some (-1)) its.size).1=(its.size:Int) - 1:=rfl
 have b2:(sliceBounds none none (some (-1)) its.size).2.1=-1:=rfl
 have b3:(sliceBounds none none (some (-1)) its.size).2.2=-1:=rfl
 unfold slicePick
 rw [b1,b2,b3]
 congr 1
 have c:sliceRange ((its.size:Int) - 1) (-1) (-1)=(Φ its.size).map λ(k:Nat)=>((its.size:Int) - 1 + -1 * (k:Int)).toNat:=by
  unfold sliceRange
  simp only [show ¬ ((-1:Int) > 0) by decide,if_false]
  congr 2
  by_cases h:(its.size:Int) - 1 > -1
  ·rw [if_pos h]
   have:(-(-1):Int)=1:=rfl
   rw [this,Int.ediv_one]
   omega
  ·rw [if_neg h]
   have:(0:Int).toNat=0:=rfl
   omega
 rw [c,List.filterMap_map,<- uY]
 congr 1
 funext k
 show its[((its.size:Int) - 1 + -1 * (k:Int)).toNat]?=its[((its.size:Int) - 1 + (k:Int) * (-1)).toNat]?
 rw [Int.mul_comm]
theorem pe_revL {e st:Expr} {te:TE} {ts:TO} {p2 pos:Pos} (he:PE X e te) (hs:PO X (some st) ts):PE X (.Subscript e (.Slice none none (some st) p2) pos) (Aw X.K te ts):=by
 intro pins s σ H Q I h
 refine Fq (thn (he pins s σ H _ I h) λv s1 ⟨x,H1,I1,r1,q1⟩=>wpAny_Slice ?_)
 rw [evalPart_none]
 refine μ (μ (thn (hs pins s1 σ H1 _ I1 q1) λvu s3 ⟨u,H3,I3,pu,q3⟩=>?_))
 obtain ⟨a,xs,rfl,rfl,hx,q⟩:=q3
 cases r1
 cases pu with
 | int j uj=>
  have I4:Inv X pins σ H3 { s3 with heap:=s3.heap.push { cls:=.type "slice",data:=.fields #[.none,.none,.int (-1) uj] } }:=I3.kept (t':=s3.toks) λb ob q=>η _ q
  have hsl:(s3.heap.push { cls:=.type "slice",data:=.fields #[.none,.none,.int (-1) uj] }).IsSliceOf s3.heap.objs.size .none .none (.int (-1) uj):=Heap.IsSliceOf.new ..
  obtain ⟨its,r,ht,hz⟩:=I4.list hx
  have hlen:its.toArray.size=xs.length:=by rw [ς]; exact r.length.symm
  show wpAny (model X.prog X.w) X.A (subscriptTail e (.Slice none none (some st) p2) (.ref a) (.ref s3.heap.objs.size)) (EP X pins σ Q) X.xe { s3 with heap:=s3.heap.push { cls:=.type "slice",data:=.fields #[.none,.none,.int (-1) uj] } }
  refine tail_any (ops:=[.ref a,.ref s3.heap.objs.size]) ht.isList.typeIs Ey.lookup ?_ (by with_unfolding_all rfl)
  refine wpAny_getItem_list_slice ht.isList hsl .none .none (.int _ _) ∅ ?_ (by rw [hlen]; exact hz)
  rw [sf]
  refine ⟨.ref _,_,I4.laid (t':=s3.toks) (o:=.lst xs.reverse) (λb ob q=>η _ q) (π _) ?_,rfl,q _ (I4.hok.fresh (π _))⟩
  have e:its.toArray.toList.reverse.toArray=its.reverse.toArray:=by simp
  rw [e]
  exact ⟨by rw [ϲ]; exact hz,its.reverse,0,vP r,τ _ rfl⟩
end
theorem bI:fillsNumberSlot (.type "tuple") "mul"=pure false:=
 PySem.fillsNumberSlot_seq (id:="tuple.__mul__") (r:=some (.builtin "tuple.__rmul__")) PySem.F.slot_tuple_mul.lookup ∅ PySem.F.slot_tuple_rmul.lookup ∅
theorem cV:seqRepeat? (.type "tuple")=pure (some (.builtin "tuple.__mul__")):=by
 unfold seqRepeat?
 rw [PySem.seqSlot_of (T:="tuple") (name:="__mul__") (id:="tuple.__mul__") PySem.F.slot_tuple_mul.lookup ∅,PySem.seqSlot_of (T:="tuple") (name:="__rmul__") (id:="tuple.__rmul__") PySem.F.slot_tuple_rmul.lookup ∅]
 rfl
theorem cR (a:Int) (t:Tok) (l:Addr) (items:Array δ) (n:Nat) (dct:Option Addr) (slt:Array (Option δ)) :
  Meets (Ϡ.«int.__rmul__» ⟨[.int a t,.ref l],[]⟩) (λ_ R s=>s.heap.get? l=some { cls:=.type "tuple",dict:=dct,data:=.seq items n,slots:=slt }/\R (.ok (.ret δ.notImplemented)) s):=
 .of_wp λprog w A R s h=>by obtain ⟨hp,g,d,tk,os⟩:=s; obtain ⟨hl,h⟩:=h; wp_walk; exact ⟨_,rfl,h⟩
theorem vh (l:Addr) (items:Array δ) (n:Nat) (dct:Option Addr) (slt:Array (Option δ)) (k:Int) (t:Tok) (hc0:¬(decide (k < -2 ^ 63) || decide (k>=2 ^ 63))=true) (hc1:¬(items.isEmpty || k == 1)=true) (hc2:¬(decide (k<=0) || items.isEmpty)=true) (hc3:¬((items.size:Int) * k > (2 ^ 63 - 1) / 8)) (hc4:¬CA ((items.size:Int) * k)=true)
  (hz:((Α k.toNat items).foldl (· ++ ·) #[]).size<=sizeLine) :
  Meets (Ϡ.«tuple.__mul__» ⟨[.ref l,.int k t],[]⟩) (λ_ R s=>s.heap.get? l=some { cls:=.type "tuple",dict:=dct,data:=.seq items n,slots:=slt }/\R (.ok (.ret (.ref s.heap.objs.size))) { s with heap:=s.heap.push { cls:=.type "tuple",data:=.seq ((Α k.toNat items).foldl (· ++ ·) #[]) } }):=
 .of_wp λprog w A R s h=>by
  obtain ⟨hp,g,d,tk,os⟩:=s
  obtain ⟨hl,h⟩:=h
  have f1:=Dt
  have f2:=BX
  wp_walk using a8 hl
  rw [if_neg hc0]
  wp_walk using a8 hl
  rw [if_neg hc3]
  show wpAny _ _ (if CA ((items.size:Int) * k)=true then _ else _) _ _ _
  rw [if_neg hc4]
  show wpAny _ _ (Ϟ (EV (λx1 x2=>x1 ++ x2) #[] (Α k.toNat items)) >>= _) _ _ _
  refine γ (m:=Ϟ _) (Ϗ (μ ⟨_,rfl,h⟩) hz)
section
variable {X:Cx}
def AZ (K:ι):R2:=λx y H Q=>∃ l k xs,x=.ref l/\y=.int k/\SqT K H l xs/\xs≠[]/\2<=k/\k<=1000/\xs.length * k.toNat<=1000/\∀ p,H p=none->Q (.ref p) (upd H p (.tup (Α k.toNat xs).flatten))
theorem wO:OpR X (binaryOp .Mult) (AZ X.K):=by
 intro pins s σ H x y v u Q I rx ry h
 obtain ⟨l,k,xs,rfl,rfl,hx,ne,k2,k3,hz,q⟩:=h
 cases rx
 obtain ⟨t,rfl⟩:=ry
 obtain ⟨its,r,⟨⟨cls,dd,data,sl⟩,e,hc,n,hd⟩,z⟩:=I.tuple hx
 simp only at hc hd
 subst hc hd
 have hl:=r.length
 have hlen:its.length * k.toNat<=1000:=by rw [<- hl]; exact hz
 have hne:its≠[]:=λe=>ne (List.length_eq_zero_iff.mp (by rw [hl,e]; rfl))
 have hnew:EV (λx1 x2=>x1 ++ x2) #[] (Α k.toNat its.toArray)=(Α k.toNat its).flatten.toArray:=by
  have:=gz its k.toNat []
  rw [CQ] at this
  exact this
 have hmul:((its.toArray.size:Int)) * k<=1000:=by
  rw [ς]
  have e1:((its.length * k.toNat:Nat):Int)=(its.length:Int) * k:=by rw [Int.natCast_mul]; congr 1; omega
  omega
 have hemp:its.toArray.isEmpty=false:=by simpa using hne
 refine A8 (T:="tuple") (U:="int") ∅ ⟨_,e,rfl⟩ (λs'=>Cv s' k t) bI DG w9 cV Dp.lookup
  (v_ w9 (Cv s k t) Dq (C6 _ _) (cR k t l its.toArray n dd sl)
   ⟨e,rfl,⟨_,e,rfl⟩,v_ ER ⟨_,e,rfl⟩ EG (Em _ _) (vh l its.toArray n dd sl k t ?_ ?_ ?_ ?_ ?_ ?_) ⟨e,?_⟩⟩)
 ·simp only [DH,decide_eq_true_eq]; omega
 ·rw [hemp,BR]; simp only [beq_iff_eq]; omega
 ·rw [hemp,EJ]; simp only [decide_eq_true_eq]; omega
 ·have:((2 ^ 63 - 1) / 8:Int)=1152921504606846975:=by decide
  omega
 ·unfold CA
  have:(sizeLine:Nat)=16777216:=by rw [υ]
  simp only [decide_eq_true_eq]
  omega
 ·rw [hnew,ς,L2.len_rep,Nat.mul_comm,υ]; omega
 rw [hnew]
 refine ⟨.ref _,_,I.laid (t':=s.toks) (o:=.tup (Α k.toNat xs).flatten) (λb ob q=>η _ q) (π _) ?_,rfl,q _ (I.hok.fresh (π _))⟩
 exact ⟨by rw [L2.len_rep,Nat.mul_comm,υ]; omega,_,r.rep k.toNat,EN _ _,NoD.new _ rfl⟩
end
section
variable {prog:Β} {w:Ν} {A:Χ} {E:δ->ζ->Prop}
end
section
variable {X:Cx} {pos:Pos}
end
end L2
namespace KB
open PySem L2
abbrev Pr:=Str×Int
def Bo (p q:Pr):Prop:=p.1.cps.toList < q.1.cps.toList
structure qY (ps:List Pr):Prop where
 pw:ps.Pairwise Bo
 ge:∀ p∈ps,1<=p.2
def ij (kvs:List Pr) (x:Str) (n:Int):List Pr:=if (kvs.any λp=>decide (p.1=x))=true then kvs.map (λp=>if p.1=x then (p.1,n) else p) else kvs ++ [(x,n)]
def nmB (x:Str):Bool:=decide (1<=x.cps.size) && decide (x.cps.size<=8) && x.cps.toList.all λc=>decide (97<=c) && decide (c<=122)
def azB (c:Nat):Bool:=decide (97<=c) && decide (c<=122)
theorem Rep.tup_inv {H:Hp} {ds:List Dv} {v:V} (h:Rep H (.tup ds) v):∃ a vs,v=.ref a/\H a=some (.tup vs)/\Reps H ds vs:=by simpa only [Rep] using h
theorem Reps.two {H:Hp} {d e:Dv} {vs:List V} (h:Reps H [d,e] vs):∃ x y,vs=[x,y]/\Rep H d x/\Rep H e y:=by
 simp only [Reps] at h
 obtain ⟨x,r,rfl,h1,y,r2,rfl,h2,rfl⟩:=h
 exact ⟨x,y,rfl,h1,h2⟩
def Az (x:Str) (n:Nat):Prop:=x.cps.toList.length=n/\∀ c∈x.cps.toList,azB c=true
theorem Az.len {x:Str} {n:Nat} (h:Az x n):x.length=n:=by
 have e:x.cps.toList.length=x.length:=ϗ
 rw [<- e]; exact h.1
theorem gu {x y:Str} {n m:Nat} (h:Az x n) (g:Az y m):Az (x ++ y) (n + m):=by
 have e:=CL x y
 refine ⟨by rw [e,ψ,h.1,g.1],λc hc=>?_⟩
 rw [e] at hc
 rcases ϒ.mp hc with hc | hc
 ·exact h.2 c hc
 ·exact g.2 c hc
theorem ii {c:Nat} (h:azB c=true):Az ⟨#[c]⟩ 1:=⟨rfl,λd hd=>by
 have e:d=c:=by simpa using hd
 rw [e]; exact h⟩
theorem vp:Az Str.empty 0:=⟨rfl,λd hd=>by cases hd⟩
theorem wt {x:Str} {n:Nat} {i:Int} (h:Az x n) (h0:0<=i) (h1:i<=n):Az (Txt.slice x (some i) none) (n - i.toNat):=by
 have e:=PyProof.Rows.slice_from_eq (x:=x) (i:=i) (b:=(x.length:Int)) h0 (by rw [h.len]; exact h1) rfl
 rw [e]
 refine ⟨?_,λc hc=>?_⟩
 ·show ((x.cps.toList.drop i.toNat).take ((x.length:Int) - i).toNat).toArray.toList.length=_
  simp only [ϊ,c_,h.1,h.len]
  omega
 ·have hc':c∈(x.cps.toList.drop i.toNat).take ((x.length:Int) - i).toNat:=by simpa using hc
  exact h.2 c (DE (n_ hc'))
theorem zP {x:Str} {n:Nat} {i:Int} (h:Az x n) (h0:0<=i) (h1:i<=n):Az (Txt.slice x none (some i)) i.toNat:=by
 have e:=eq_of_beq (PyProof.Rows.slice_closes_toL (x:=x) (j:=i) h0 (by rw [h.len]; exact h1))
 rw [e]
 refine ⟨?_,λc hc=>?_⟩
 ·show ((x.cps.toList.drop (0:Int).toNat).take (i - 0).toNat).toArray.toList.length=_
  simp only [ϊ,c_,h.1]
  have:(0:Int).toNat=0:=rfl
  omega
 ·have hc':c∈(x.cps.toList.drop (0:Int).toNat).take (i - 0).toNat:=by simpa using hc
  exact h.2 c (DE (n_ hc'))
theorem zU {x:Str} {n:Nat} (h:Az x n) (h1:1<=n) (h8:n<=8):nmB x=true:=by
 unfold nmB
 have e:x.cps.size=n:=by have:=h.1; simpa using this
 rw [e,decide_eq_true h1,decide_eq_true h8,Bool.and_self,Ϧ]
 exact ϵ.mpr λc hc=>h.2 c hc
def dk (kvs:List (Str×Int)):List (Key×V):=kvs.map λp=>(ϕ p.1,V.int p.2)
def bn (c:Int) (ps:List (Str×Int)):Dv:=.tup [.int c,.tup (ps.map λp=>.tup [.str p.1,.int p.2])]
def tkV (r:TK):Str×Int:=(r.2.1,match r.2.2 with | [.int n]=>n | _=>0)
theorem jO {H:Hp}:∀ {rs:List TK},(∀ r∈rs,H r.1=some (.tup [.str (tkV r).1,.int (tkV r).2]))->Reps H ((rs.map tkV).map λp=>Dv.tup [.str p.1,.int p.2]) (rs.map λr=>V.ref r.1)
 | [],_=>by simp [Reps]
 | r :: rs,h=>by
  simp only [Υ,Reps]
  refine ⟨_,_,rfl,?_,jO λx hx=>h x (ρ _ hx)⟩
  simp only [Rep,Reps]
  exact ⟨r.1,_,rfl,h r Δ,_,_,rfl,rfl,_,_,rfl,rfl,rfl⟩
theorem lF {k:Nat} {ix:List Nat} {i:Nat} {tt:TT} {te:TE} {σ:St} {x:V} {ys:List V} {H:Hp} {N:List V->Hp->Prop} (h:tt ((bU k ix σ).set i (some x)) H λc H3=>if c=true then te ((bU k ix σ).set i (some x)) H3 λy H4=>ys.length < sizeLine/\N (ys ++ [y]) H4 else N ys H3) :
  ca k ix (cb i) tt te σ x ys H N:=h
theorem qA {a b:Str}:((ϕ a:Key)=ϕ b)↔a=b:=⟨λh=>by injection h,λh=>by rw [h]⟩
theorem vS (kvs:List (Str×Int)) (x:Str) (n:Int):dk (ij kvs x n)=cG (dk kvs) (ϕ x) (.int n):=by
 unfold ij cG dk
 have e:((kvs.map λp=>((ϕ p.1:Key),V.int p.2)).any λkv=>decide (kv.1=ϕ x))=kvs.any λp=>decide (p.1=x):=by
  rw [List.any_map]
  congr 1
  funext p
  simp [Function.comp]
 rw [e]
 split
 ·rw [ϓ,ϓ]
  refine CJ λp _=>?_
  simp only [Function.comp]
  by_cases h:p.1=x
  ·rw [if_pos h,if_pos (qA.mpr h)]
  ·rw [if_neg h,if_neg (λz=>h (qA.mp z))]
 ·rw [ω]
  rfl
theorem sY {kvs:List (Str×Int)} {x:Str} {n:Int} (nd:(kvs.map (·.1)).Nodup):((ij kvs x n).map (·.1)).Nodup:=by
 unfold ij
 split
 ·have e:(kvs.map (λp=>if p.1=x then (p.1,n) else p)).map (·.1)=kvs.map (·.1):=by
   rw [ϓ]
   refine CJ λp _=>?_
   simp only [Function.comp]
   split <;> rfl
  rw [e]; exact nd
 ·rename_i h
  rw [ω,Da]
  refine ⟨nd,∅,λa ha b hb=>?_⟩
  have hb':b=x:=by simpa using hb
  subst hb'
  intro e
  subst e
  obtain ⟨p,hp,e⟩:=Κ.mp ha
  exact h (j_.mpr ⟨p,hp,decide_eq_true e⟩)
theorem vA (kvs:List (Str×Int)) (x:Str) (n:Int):(ij kvs x n).length<=kvs.length + 1:=by
 unfold ij
 split
 ·rw [ε]; omega
 ·rw [ψ]; simp
theorem uN {R:Str×Int->Prop} {kvs:List (Str×Int)} {x:Str} {n:Int} (h:∀ p∈kvs,R p) (hx:R (x,n)):∀ p∈ij kvs x n,R p:=by
 intro p hp
 unfold ij at hp
 split at hp
 ·obtain ⟨q,hq,e⟩:=Κ.mp hp
  by_cases z:q.1=x
  ·rw [if_pos z] at e
   rw [<- e,z]; exact hx
  ·rw [if_neg z] at e
   rw [<- e]; exact h q hq
 ·rcases ϒ.mp hp with hp | hp
  ·exact h p hp
  ·rw [θ.mp hp]; exact hx
abbrev aG (ps:List Pr):List Dv:=ps.map λp=>.tup [.str p.1,.int p.2]
theorem rk {H:Hp} {ps:List Pr} {us:List V} (ru:Reps H (aG ps) us) {i:Nat} {x:V} (hx:us[i]?=some x):∃ p b,ps[i]?=some p/\x=.ref b/\H b=some (.tup [.str p.1,.int p.2]):=by
 obtain ⟨d,hd,Rd⟩:=ru.get hx
 rw [Ψ] at hd
 cases e:ps[i]? with
 | none=>rw [e] at hd; cases hd
 | some p=>
  rw [e] at hd
  obtain rfl:Dv.tup [.str p.1,.int p.2]=d:=Ϝ hd
  obtain ⟨b,zs,rfl,hb,rz⟩:=Rep.tup_inv Rd
  obtain ⟨y,z,rfl,Ry,Rz⟩:=Reps.two rz
  simp only [Rep] at Ry Rz
  subst Ry Rz
  exact ⟨p,b,rfl,rfl,hb⟩
theorem xw {H:Hp} {c:Int} {ps:List Pr} {v:V} (R:Rep H (bn c ps) v):∃ a b us,v=.ref a/\H a=some (.tup [.int c,.ref b])/\H b=some (.tup us)/\Reps H (aG ps) us/\us.length=ps.length:=by
 obtain ⟨a,tv,rfl,ha,rt⟩:=Rep.tup_inv R
 obtain ⟨x,y,rfl,R0,R1⟩:=Reps.two rt
 simp only [Rep] at R0
 subst R0
 obtain ⟨b,us,rfl,hb,ru⟩:=Rep.tup_inv R1
 have:=ru.length
 rw [ε] at this
 exact ⟨a,b,us,rfl,ha,hb,ru,this⟩
theorem len_rep {H:Hp} {c:Int} {ps:List Pr} {a b:Addr} {us:List V} (ha:H a=some (.tup [.int c,.ref b])) (hb:H b=some (.tup us)) (ru:Reps H (aG ps) us):Rep H (bn c ps) (.ref a):=by
 simp only [bn,Rep,Reps]
 exact ⟨a,_,rfl,ha,_,_,rfl,rfl,_,_,rfl,⟨b,us,rfl,hb,ru⟩,rfl⟩
theorem eqI {i j:Int} (h:decide (V.int i=V.int j)=true):i=j:=by
 have:=of_decide_eq_true h
 injection this
theorem z2:2<=sizeLine:=by rw [υ]; decide
theorem z1:1<=sizeLine:=by rw [υ]; decide
theorem z3:3<=sizeLine:=by rw [υ]; decide
theorem vg {kvs:List Pr} {x:Str} {n:Int} (h:x∉kvs.map (·.1)):ij kvs x n=kvs ++ [(x,n)]:=by
 unfold ij
 rw [if_neg]
 intro e
 rw [j_] at e
 obtain ⟨p,hp,e⟩:=e
 exact h (Κ.mpr ⟨p,hp,of_decide_eq_true e⟩)
section
variable {K:ι}
end
theorem tnx {D:bP} {σ:St} {H:Hp} (h:D.nx σ H):xP D σ H:=h
theorem qN {ns:List Int} {k:Int} (h0:0<=k) (h:k < (ns.length:Int)):∃ v:Int,atI (ns.map V.int) k=some (.int v):=by
 have hk:k.toNat < ns.length:=by omega
 have q:atI (ns.map V.int) ((k.toNat:Nat):Int)=some (.int ns[k.toNat]):=ad (by rw [Ψ,Ζ hk] <;> rfl)
 have ek:k=((k.toNat:Nat):Int):=by omega
 rw [<- ek] at q
 exact ⟨_,q⟩
theorem mod_lt {a:Int} (n:Int) (h:0 < n):0<=a % n/\a % n < n:=⟨E_ _ ∅,En _ h⟩
def aE (a:Addr) (H H':Hp):Prop:=∀ g o,g≠a->H g=some o->H' g=some o
theorem aE.refl (a:Addr) (H:Hp):aE a H H:=λ_ _ _ e=>e
theorem aE.trans {a:Addr} {H H1 H2:Hp} (s:aE a H H1) (t:aE a H1 H2):aE a H H2:=λg o hg e=>t g o hg (s g o hg e)
theorem af.b {H H':Hp} (a:Addr) (s:af H H'):aE a H H':=λg o _ e=>s g o e
theorem aE.upd (H:Hp) (a:Addr) (o:HO):aE a H (upd H a o):=λg u hg e=>by rw [ah hg]; exact e
theorem aE.same {a:Addr} {H H1 H2:Hp} (h:H a=none) (s:af H H1) (t:aE a H1 H2):af H H2:=λg o e=>t g o (ag e h) (s g o e)
def cm (H H':Hp):Prop:=∀ b zs,H b=some (.tup zs)->H' b=some (.tup zs)
theorem af.tups {H H':Hp} (s:af H H'):cm H H':=λb zs e=>s b _ e
theorem cm.trans {H H1 H2:Hp} (s:cm H H1) (t:cm H1 H2):cm H H2:=λb zs e=>t b zs (s b zs e)
theorem aE.tups {a:Addr} {H H':Hp} {xs:List V} (s:aE a H H') (h:H a=some (.lst xs)):cm H H':=λb zs e=>s b _ (λz=>by rw [z,h] at e; cases e) e
theorem aE.tupsD {a:Addr} {H H':Hp} {m:List (Key×V)} (s:aE a H H') (h:H a=some (.dK m)):cm H H':=λb zs e=>s b _ (λz=>by rw [z,h] at e; cases e) e
theorem aL {H H':Hp}:∀ {ds:List Dv} {vs:List V},(∀ d∈ds,∀ v,Rep H d v->Rep H' d v)->Reps H ds vs->Reps H' ds vs
 | [],vs,_,h=>by simpa only [Reps] using h
 | d :: ds,vs,f,h=>by
  simp only [Reps] at h ⊢
  obtain ⟨v,r,rfl,h1,h2⟩:=h
  exact ⟨v,r,rfl,f d Δ v h1,aL (λe he=>f e (ρ _ he)) h2⟩
theorem cD {H H':Hp} (t:cm H H') {n:Nat} {d:Dv} (h:L2.Pl n d):∀ {v:V},Rep H d v->Rep H' d v:=by
 induction h with
 | int=>intro v r; simpa only [Rep] using r
 | str=>intro v r; simpa only [Rep] using r
 | non=>intro v r; simpa only [Rep] using r
 | tup _ ih=>
  intro v r
  simp only [Rep] at r ⊢
  obtain ⟨a,vs,rfl,ha,rs⟩:=r
  exact ⟨a,vs,rfl,t _ _ ha,aL (λd hd v r=>ih d hd r) rs⟩
theorem gG (c:Int) (ps:List Pr):L2.Pl 3 (bn c ps):=.tup λd hd=>by
 rcases ν.mp hd with rfl | hd
 ·exact .int
 ·rw [θ.mp hd]
  refine .tup λe he=>?_
  obtain ⟨p,_,rfl⟩:=Κ.mp he
  refine .tup λg hg=>?_
  rcases ν.mp hg with rfl | hg
  ·exact .str
  ·rw [θ.mp hg]; exact .int
theorem qK {c:TT} {tb:TS} {D:bP} {σ:St} {H:Hp} (Pv:Nat->St->Hp->Prop) (m:Nat) (h0:Pv m σ H)
  (hs:∀ m σ H,Pv m σ H->c σ H λb H1=>if b=true then tb { D with nx:=λσ' H'=>∃ m',m' < m/\Pv m' σ' H',ct:=λσ' H'=>∃ m',m' < m/\Pv m' σ' H',bk:=D.nx } σ H1 else D.nx σ H1)
  (mono:∀ σ H Q Q',(∀ b H1,Q b H1->Q' b H1)->c σ H Q->c σ H Q'):oW c tb D σ H:=by
 refine ⟨Pv,⟨m,h0⟩,λm σ H p=>mono σ H _ _ (λb H1 q=>?_) (hs m σ H p)⟩
 cases b with
 | true=>exact ⟨_,λσ' H' q'=>q',q⟩
 | false=>exact q
theorem eX {K:ι} {i:Nat}:∀ σ H (Q Q':Bool->Hp->Prop),(∀ b H1,Q b H1->Q' b H1)->(λ(σ:St) (H:Hp) (Q:Bool->Hp->Prop)=>iP i σ H λx H'=>∃ k,xa K x H' k/\Q k H') σ H Q->(λ(σ:St) (H:Hp) (Q:Bool->Hp->Prop)=>iP i σ H λx H'=>∃ k,xa K x H' k/\Q k H') σ H Q':=by
 rintro σ H Q Q' h ⟨v,e,k,t,q⟩
 exact ⟨v,e,k,t,h _ _ q⟩
inductive Kd where
 | whole
 | place (c:Int) (ps:List Pr)
 | row (c:Int) (ps:List Pr) (k:Kd)
 | pair (k j:Kd)
def Kd.dv:Kd->Dv
 | .whole=>.tup [.str "whole"]
 | .place c ps=>.tup [.str "place",bn c ps]
 | .row c ps k=>.tup [.str "row",bn c ps,k.dv]
 | .pair k j=>.tup [.str "pair",k.dv,j.dv]
def Kd.size:Kd->Nat
 | .whole=>1
 | .place _ _=>1
 | .row _ _ k=>k.size + 1
 | .pair k j=>k.size + j.size + 1
theorem Kd.size_pos:∀ k:Kd,1<=k.size
 | .whole=>π _
 | .place _ _=>π _
 | .row _ _ k=>by show 1<=k.size + 1; omega
 | .pair k j=>by show 1<=k.size + j.size + 1; omega
theorem Kd.pl:∀ k:Kd,L2.Pl (k.size + 3) k.dv
 | .whole=>.tup λd hd=>by rw [θ.mp hd]; exact .str
 | .place c ps=>.tup λd hd=>by
  rcases ν.mp hd with rfl | hd
  ·exact .str
  ·rw [θ.mp hd]; exact gG c ps
 | .row c ps k=>.tup λd hd=>by
  rcases ν.mp hd with rfl | hd
  ·exact .str
  rcases ν.mp hd with rfl | hd
  ·exact (gG c ps).up (by show 3<=k.size + 3; omega)
  ·rw [θ.mp hd]; exact k.pl
 | .pair k j=>.tup λd hd=>by
  rcases ν.mp hd with rfl | hd
  ·exact .str
  rcases ν.mp hd with rfl | hd
  ·exact k.pl.up (by show k.size + 3<=k.size + j.size + 3; omega)
  ·rw [θ.mp hd]; exact j.pl.up (by show j.size + 3<=k.size + j.size + 3; omega)
def Kd.word:Kd->Str
 | .whole=>"whole"
 | .place _ _=>"place"
 | .row _ _ _=>"row"
 | .pair _ _=>"pair"
def Kd.kids:Kd->List Kd
 | .row _ _ k=>[k]
 | .pair k j=>[k,j]
 | _=>[]
def Kd.len?:Kd->Option (Int×List Pr)
 | .place c ps=>some (c,ps)
 | .row c ps _=>some (c,ps)
 | _=>none
def Kd.pts:Kd->List Kd
 | .row c ps k=>.row c ps k :: k.pts
 | .pair k j=>.pair k j :: (k.pts ++ j.pts)
 | k=>[k]
theorem Kd.pts_kids (k:Kd):k.pts=k :: (k.kids.flatMap Kd.pts):=by
 cases k with
 | whole=>rfl
 | place c ps=>rfl
 | row c ps k=>simp [Kd.pts,Kd.kids]
 | pair k j=>simp [Kd.pts,Kd.kids]
theorem Kd.size_kids (k:Kd):k.size=1 + (k.kids.map Kd.size).sum:=by
 cases k with
 | whole=>rfl
 | place c ps=>rfl
 | row c ps k=>simp [Kd.size,Kd.kids]; omega
 | pair k j=>simp [Kd.size,Kd.kids]; omega
theorem Kd.pts_len:∀ k:Kd,k.pts.length=k.size
 | .whole=>rfl
 | .place _ _=>rfl
 | .row c ps k=>by show (k.pts.length) + 1=k.size + 1; rw [k.pts_len]
 | .pair k j=>by show (k.pts ++ j.pts).length + 1=k.size + j.size + 1; rw [ψ,k.pts_len,j.pts_len]
def Kd.All (P:Int->List Pr->Prop):Kd->Prop
 | .whole=>True
 | .place c ps=>P c ps
 | .row c ps k=>P c ps/\k.All P
 | .pair k j=>k.All P/\j.All P
theorem Kd.tupS {H H':Hp} (t:cm H H') {k:Kd} {v:V} (r:Rep H k.dv v):Rep H' k.dv v:=cD t k.pl r
theorem Kd.inv {H:Hp} {k:Kd} {v:V} (r:Rep H k.dv v):∃ a vs,v=.ref a/\H a=some (.tup (.str k.word :: vs)) /\
  (match k with
   | .whole=>vs=[]
   | .place c ps=>∃ l,vs=[l]/\Rep H (bn c ps) l
   | .row c ps j=>∃ l u,vs=[l,u]/\Rep H (bn c ps) l/\Rep H j.dv u
   | .pair i j=>∃ u w,vs=[u,w]/\Rep H i.dv u/\Rep H j.dv w):=by
 cases k with
 | whole=>
  simp only [Kd.dv,Rep,Reps] at r
  obtain ⟨a,vs,rfl,ha,x,r1,rfl,rfl,rfl⟩:=r
  exact ⟨a,[],rfl,ha,rfl⟩
 | place c ps=>
  rw [Kd.dv,Rep] at r
  obtain ⟨a,vs,rfl,ha,rs⟩:=r
  simp only [Reps] at rs
  obtain ⟨x,r1,rfl,hx,y,r2,rfl,hy,rfl⟩:=rs
  simp only [Rep] at hx
  subst hx
  exact ⟨a,_,rfl,ha,y,rfl,hy⟩
 | row c ps j=>
  rw [Kd.dv,Rep] at r
  obtain ⟨a,vs,rfl,ha,rs⟩:=r
  simp only [Reps] at rs
  obtain ⟨x,r1,rfl,hx,y,r2,rfl,hy,z,r3,rfl,hz,rfl⟩:=rs
  simp only [Rep] at hx
  subst hx
  exact ⟨a,_,rfl,ha,y,z,rfl,hy,hz⟩
 | pair i j=>
  rw [Kd.dv,Rep] at r
  obtain ⟨a,vs,rfl,ha,rs⟩:=r
  simp only [Reps] at rs
  obtain ⟨x,r1,rfl,hx,y,r2,rfl,hy,z,r3,rfl,hz,rfl⟩:=rs
  simp only [Rep] at hx
  subst hx
  exact ⟨a,_,rfl,ha,y,z,rfl,hy,hz⟩
theorem gi {H:Hp} {a:Addr} (h:H a=some (.tup [.str "whole"])):Rep H Kd.whole.dv (.ref a):=by
 simp only [Kd.dv,Rep,Reps]
 exact ⟨a,_,rfl,h,_,_,rfl,rfl,rfl⟩
theorem jQ {H:Hp} {a:Addr} {l:V} {c:Int} {ps:List Pr} (h:H a=some (.tup [.str "place",l])) (r:Rep H (bn c ps) l):Rep H (Kd.place c ps).dv (.ref a):=by
 rw [Kd.dv,Rep]
 refine ⟨a,_,rfl,h,?_⟩
 simp only [Reps]
 exact ⟨_,_,rfl,by simp only [Rep],_,_,rfl,r,rfl⟩
theorem kW {H:Hp} {a:Addr} {l u:V} {c:Int} {ps:List Pr} {k:Kd} (h:H a=some (.tup [.str "row",l,u])) (r:Rep H (bn c ps) l) (r2:Rep H k.dv u):Rep H (Kd.row c ps k).dv (.ref a):=by
 rw [Kd.dv,Rep]
 refine ⟨a,_,rfl,h,?_⟩
 simp only [Reps]
 exact ⟨_,_,rfl,by simp only [Rep],_,_,rfl,r,_,_,rfl,r2,rfl⟩
theorem mI {H:Hp} {a:Addr} {l u:V} {j k:Kd} (h:H a=some (.tup [.str "pair",l,u])) (r:Rep H j.dv l) (r2:Rep H k.dv u):Rep H (Kd.pair j k).dv (.ref a):=by
 rw [Kd.dv,Rep]
 refine ⟨a,_,rfl,h,?_⟩
 simp only [Reps]
 exact ⟨_,_,rfl,by simp only [Rep],_,_,rfl,r,_,_,rfl,r2,rfl⟩
theorem mM {G H2:Hp} {kvs:List Pr} {qs:List TK} (hq:∀ r∈qs,H2 r.1=some (.tup (.str r.2.1 :: r.2.2))/\G r.1=none) (pq:(qs.map (·.2)).Perm ((kvs.map λp=>(p.1,V.int p.2)).map λp=>(p.1,[p.2]))) (pw:qs.Pairwise tM) (hall:∀ p∈kvs,1<=p.2) :
  (qs.map tkV).Perm kvs/\qY (qs.map tkV)/\∀ t,H2 t=none->Rep (upd H2 t (.tup (qs.map λr=>V.ref r.1))) (.tup (aG (qs.map tkV))) (.ref t):=by
 have shape:∀ r∈qs,∃ p∈kvs,r.2=(p.1,[V.int p.2]):=λr hr'=>by
  have:=pq.mem_iff.mp (ϯ (f:=(·.2)) hr')
  rw [ϓ] at this
  obtain ⟨p,hp,e⟩:=Κ.mp this
  exact ⟨p,hp,e.symm⟩
 have tk:∀ r∈qs,r.2.1=(tkV r).1/\r.2.2=[V.int (tkV r).2]:=λr hr'=>by
  obtain ⟨p,_,e⟩:=shape r hr'
  unfold tkV
  rw [e]
  exact ⟨rfl,rfl⟩
 have perm:(qs.map tkV).Perm kvs:=by
  have e1:qs.map tkV=(qs.map (·.2)).map λz=>(z.1,match z.2 with | [.int n]=>n | _=>0):=by
   rw [ϓ]; rfl
  have e2:kvs=((kvs.map λp=>(p.1,V.int p.2)).map λp=>(p.1,[p.2])).map λz=>(z.1,match z.2 with | [.int n]=>n | _=>0):=by
   rw [ϓ,ϓ]
   exact (List.map_id kvs).symm
  rw [e1]
  rw [e2]
  exact pq.map _
 refine ⟨perm,⟨EB.mpr (pw.imp λ{x y} h=>h),λp hp=>hall p (perm.mem_iff.mp hp)⟩,λt ht=>?_⟩
 simp only [Rep]
 refine ⟨t,_,rfl,aa,jO λr hr'=>?_⟩
 have:=(hq r hr').1
 rw [(tk r hr').1,(tk r hr').2] at this
 exact ac ht _ _ _ this
theorem uo {H:Hp} {c:Int} {ps:List Pr} {p:Addr} {w:V} (hp:H p=some (.tup [.int c,w])) (R:Rep H (.tup (aG ps)) w):Rep H (bn c ps) (.ref p):=by
 obtain ⟨b,us,rfl,hb,ru⟩:=Rep.tup_inv R
 exact len_rep hp hb ru
theorem bZ {H:Hp}:∀ {ds:List Dv} {d:Dv} {vs:List V},Reps H (ds ++ [d]) vs->∃ vs0 v,vs=vs0 ++ [v]/\Reps H ds vs0/\Rep H d v
 | [],d,vs,h=>by
  simp only [CQ,Reps] at h
  obtain ⟨v,r,rfl,hv,rfl⟩:=h
  exact ⟨[],v,rfl,by simp only [Reps],hv⟩
 | e :: ds,d,vs,h=>by
  simp only [CD,Reps] at h
  obtain ⟨v,r,rfl,hv,hr⟩:=h
  obtain ⟨vs0,u,rfl,h1,h2⟩:=bZ hr
  exact ⟨v :: vs0,u,rfl,by simp only [Reps]; exact ⟨v,vs0,rfl,hv,h1⟩,h2⟩
theorem aN {H:Hp} {d:Dv} {v:V} (h:Rep H d v):Reps H [d] [v]:=by simp only [Reps]; exact ⟨v,[],rfl,h,rfl⟩
theorem dM (vs:List V) (v:V):(vs ++ [v])[(vs ++ [v]).length - 1]?=some v:=by simp
theorem rq {t1 t2:TT} {σ:St} {H:Hp} {Q:Bool->Hp->Prop} (C:Prop) (qT:C->Q true H) (qF:Q false H) (f:(C->Q true H)->Q false H->vc t1 t2 σ H Q):vc t1 t2 σ H Q:=f qT qF
theorem fO {α:Type}:∀ {l:List α},l≠[]->∃ l0 x,l=l0 ++ [x]:=λ{l} h=>by
 rcases List.eq_nil_or_concat l with e | ⟨l0,x,e⟩
 ·exact absurd e h
 ·exact ⟨l0,x,by rw [e]; simp⟩
theorem gnm {i:Nat} {x:V} {σ:St} {H:Hp} {N:St->Hp->Prop} (h:N (σ.set i (some x)) H):cb i x σ H N:=h
theorem ifT {A B:Prop} (h:if true=true then A else B):A:=by rwa [if_pos rfl] at h
theorem ifF {A B:Prop} (h:if false=true then A else B):B:=by rwa [if_neg Θ] at h
def rY:Option (Int×List Pr)->Dv
 | some p=>bn p.1 p.2
 | none=>.non
theorem BH:¬ (ξ "whole"=ξ "place"):=by decide +kernel
theorem Ai:¬ (ξ "whole"=ξ "row"):=by decide +kernel
theorem Bt:¬ (ξ "whole"=ξ "pair"):=by decide +kernel
theorem AA:¬ (ξ "place"=ξ "row"):=by decide +kernel
theorem Au:¬ (ξ "place"=ξ "pair"):=by decide +kernel
theorem Ag:¬ (ξ "row"=ξ "pair"):=by decide +kernel
theorem wne {x y:Str} (h:¬ x=y):¬ V.str x=V.str y:=λe=>h (V.str.inj e)
end KB
namespace L2
open PySem PySem.Spec PyProof.Rows PySem.W
section
variable {X:Cx}
end
end L2
namespace KB
open PySem L2
theorem bf {H:Hp} {α:Type} {f:α->Dv} {xs:List α} {us:List V} {i:Nat} {u:V} (R:Reps H (xs.map f) us) (h:us[i]?=some u):∃ x,xs[i]?=some x/\Rep H (f x) u:=by
 obtain ⟨d,hd,Rd⟩:=R.get h
 rw [Ψ] at hd
 obtain ⟨x,hx,rfl⟩:=k4.mp hd
 exact ⟨x,hx,Rd⟩
theorem va {H:Hp} {x:Option (Int×List Pr)} {u:V} (R:Rep H (rY x) u):(x=none/\u=.non)\/∃ p ds,x=some p/\rY x=.tup ds/\Rep H (.tup ds) u:=by
 cases x with
 | none=>exact .inl ⟨rfl,by simpa only [rY,Rep] using R⟩
 | some p=>exact .inr ⟨p,_,rfl,rfl,R⟩
theorem yg {H:Hp} {k:Kd} {v:V} (R:Rep H k.dv v):∃ a vs,v=.ref a/\H a=some (.tup (.str k.word :: vs)):=by
 obtain ⟨a,vs,e,ha,_⟩:=Kd.inv R
 exact ⟨a,vs,e,ha⟩
theorem yC {t1 t2:TT} {σ:St} {H:Hp} {Q:Bool->Hp->Prop} (C:Prop) (qT:C->∀ H',af H H'->Q true H') (qF:∀ H',af H H'->Q false H') (f:(C->∀ H',af H H'->Q true H')->(∀ H',af H H'->Q false H')->vc t1 t2 σ H Q):vc t1 t2 σ H Q:=f qT qF
theorem yZ (xs:List V) (n:Nat) (h:n<=xs.length):aB xs none (some (n:Int))=xs.take n:=by
 unfold aB
 rw [HT.sIx_none,HT.sIx_nat]
 simp [Cg h]
theorem gl {t1 t2:TS} {D:bP} {σ:St} {H:Hp} (M:St->Hp->Prop) (h2:∀ σ' H',M σ' H'->t2 D σ' H') (f:(∀ σ' H',M σ' H'->t2 D σ' H')->sZ t1 t2 D σ H):sZ t1 t2 D σ H:=f h2
end KB
namespace L2
open PySem PySem.Spec PyProof.Rows PySem.W
section
variable {P:Β} {w:Ν} {A:Χ} {E:δ->ζ->Prop} {s:ζ}
theorem iN {l:Addr} {items:Array δ} {ys:List Str} {Q:δ->ζ->Prop} (hh:A.handled=none) (hl:s.heap.IsTuple l items) (hi:∀ (i:Nat) (v:δ),items[i]?=some v->∃ t,v=.str (ys.getD i default) t) (hb:items.size + 1 < scanBound)
  (h:∀ (h':Heap) (tk:Nat),ce P w h' s.heap.objs.size (uq (λi=>ys.getD i default) items.size)->(∀ b o,b < s.heap.objs.size->s.heap.get? b=some o->h'.get? b=some o)->Q (.ref s.heap.objs.size) { s with heap:=h',toks:=tk }) :
  wpAny (model P w) A (call (.type "set") [.ref l]) Q E s:=by
 obtain ⟨c,tl,hmro⟩:=ϛ.mro
 have hmade:=ϛ.made
 have hsub:=ϛ.sub
 refine Do (DJ ?_)
 show wpAny _ _ (callAny (.type "set") _) _ _ _
 refine μ ⟨z_ _ ∅,c9 PySem.F.entry_type_call ?_⟩
 rw [Χ.under_plain (weight_type_call_type "set" [.ref l] []) rfl]
 have h1:=ϛ.notType
 have h2:=ϛ.canCreate
 have hct:=PySem.F.typeCall_set_1 (.ref l)
 repeat (any_goals (first | assumption | wp_step))
 refine x9 (en (.ref l) (E:=E) (Q₁:=λobj s₁=>obj=.ref s.heap.objs.size/\s₁={ s with heap:=s.heap.push (aT w) }) ⟨rfl,rfl⟩) λr s₁ hr=>?_
 cases r with
 | error e=>exact hr
 | ok fl=>
  cases fl with
  | ret obj=>
   obtain ⟨rfl,rfl⟩:=hr
   have hS:(s.heap.push (aT w)).get? s.heap.objs.size=some (aT w):=τ _ rfl
   have hT:ζ.TypeIs { s with heap:=s.heap.push (aT w) } (.ref s.heap.objs.size) "set":=⟨_,hS,rfl⟩
   have hli:=ϛ.init.lookup
   have hbi:=ϛ.init.bind (.ref s.heap.objs.size)
   repeat (any_goals (first | assumption | wp_step))
   refine x9 (n5 (R:=wants (λr s₂=>r=.none/\∃ h' tk,s₂={ s with heap:=h',toks:=tk }/\ce P w h' s.heap.objs.size (uq (λi=>ys.getD i default) items.size)/\(∀ b o,b < s.heap.objs.size->s.heap.get? b=some o->h'.get? b=some o)) E)
    ϛ.init.plain PySem.F.entry_set_init (check_set_init_1 hT ?_)) λr₂ s₂ hr₂=>?_
   ·obtain ⟨ol,hol,hcl,nl,hdl⟩:=hl
    obtain ⟨ocls,odict,odata,oslots⟩:=ol
    simp only at hcl hdl
    subst hcl; subst hdl
    have hol':(s.heap.push (aT w)).get? l=some { cls:=.type "tuple",dict:=odict,data:=.seq items nl,slots:=oslots }:=η _ hol
    have hsls:=PySem.F.sub_tuple_set
    have hslf:=PySem.F.sub_tuple_frozenset
    have hne:(k7 "tuple" == k7 "dict")=false:=by decide
    have hl1:(s.heap.push (aT w)).IsTuple l items:=⟨_,hol',rfl,nl,rfl⟩
    unfold aT at hS hT hol' hl1 ⊢
    unfold Ϡ.«set.__init__» noKeywords DK
    generalize hPI:pyIter=PI
    wp_walk
    subst hPI
    refine CU hl1 ?_
    refine γ (Db ?_)
    have hlS:l < s.heap.objs.size:=χ hol
    have hh3:A.in1.in1.in1.handled=none:=by simp [hh]
    have hneI:l≠(s.heap.push (aT w)).objs.size:=by
     rw [Ϩ]; exact Ρ (k_ hlS)
    have hSf:s.heap.objs.size∉[(s.heap.push (aT w)).objs.size,l]:=by
     rw [Ϩ]; simp only [ν,θ,Ϸ,or_false,not_or]
     exact ⟨Ρ (y8 _),j7 hlS⟩
    refine nh ((Ft.tuple hh3 _ l hneI items).toS) s.heap.objs.size hSf (λi=>ys.getD i default) hi hb (items.size - 0) 0 _ ∅ (Ω _)
     ⟨⟨_,τ _ rfl,rfl,rfl⟩,(hl1.push _)⟩ ?hS0 ?hR
    case hS0=>exact (iS s.heap).at' λo e=>η _ e
    case hR=>
     intro s' hm hS'
     obtain ⟨h',g',d',tk',os'⟩:=s'
     have eg:g'=s.gens:=hm.gens
     have ed:d'=s.drawn:=hm.drawn
     have eo:os'=s.os:=hm.os
     subst eg; subst ed; subst eo
     show wpAny _ _ _ _ _ _
     refine μ ?_
     show wpAny _ _ (ret Ϫ) _ _ _
     refine μ ⟨rfl,h',tk',rfl,hS',λb o hb e=>?_⟩
     have hb1:b≠s.heap.objs.size:=Ρ hb
     have hb2:b≠(s.heap.push (aT w)).objs.size:=by
      rw [Ϩ]; exact Ρ (k_ hb)
     exact hm.heap b o (by simp only [ν,θ,Ϸ,or_false,not_or]; exact ⟨hb1,hb2⟩) (η _ (η _ e))
   ·cases r₂ with
    | error e=>exact hr₂
    | ok fl₂=>
     cases fl₂ with
     | ret r=>
      obtain ⟨rfl,h',tk,rfl,hS',hk'⟩:=hr₂
      repeat (any_goals (first | assumption | wp_step))
      exact h _ _ hS' hk'
     | _=>exact hr₂.elim
  | _=>exact hr.elim
end
section
variable {X:Cx}
theorem gq (hc:X.calm=true):bE X (.type "set") (λxs H Q=>∃ (l:Addr) (ys:List Str),xs=[.ref l]/\(SqL X.K H l (ys.map V.str)\/SqT X.K H l (ys.map V.str))/\ys.length<=1000 /\
  ∀ (a:Addr) (zs:List Str),H a=none->zs.Nodup->(∀ x,x∈zs↔x∈ys)->zs.length<=ys.length->Q (.ref a) (upd H a (SetO X.prog X.w a zs))):=by
 intro pins s σ H xs us Q I r h
 obtain ⟨l,ys,rfl,hq | hq,hy,q⟩:=h
 ·exact sI hc pins s σ H _ us Q I r ⟨l,ys,rfl,hq,hy,q⟩
 obtain ⟨u,rfl,ru⟩:=cj r
 cases ru
 obtain ⟨its,rv,p,hz⟩:=I.tuple hq
 have li:its.length=ys.length:=by have:=rv.length; rw [ε] at this; exact this.symm
 have hb:its.toArray.size + 1 < scanBound:=by rw [ς,li]; unfold scanBound; omega
 refine iN (ys:=ys) (I.ok.hd hc) p (λi v hv=>?_) hb λh' tk hS k=>?_
 ·have hv':its[i]?=some v:=by simpa using hv
  have hi:i < ys.length:=by rw [<- li]; exact (ο.mp hv').1
  obtain ⟨t,e⟩:=cp rv i hi
  refine ⟨t,?_⟩
  rw [<- e]
  simp [u9,hv']
 ·have sz:its.toArray.size=ys.length:=by rw [ς,li]
  rw [sz] at hS
  refine ⟨.ref s.heap.objs.size,_,I.laid (a:=s.heap.objs.size) (o:=SetO X.prog X.w s.heap.objs.size (uq (λi=>ys.getD i default) ys.length)) (t':=tk) (λb u e=>k b u (χ e) e) (π _) ?_,rfl,q _ _ I.fresh (fi _ _) (λx=>?_) (ki _ _)⟩
  ·refine ⟨hS,?_,λh1 h2 x kk=>ce.at' x kk⟩
   obtain ⟨o,_,_,_,ho,_⟩:=hS
   exact ⟨o,ho⟩
  ·rw [pi]
   constructor
   ·rintro ⟨j,hj,rfl⟩
    have e:ys.getD j default=ys[j]:=by simp [u9,hj]
    rw [e]; exact j9 hj
   ·intro hx
    obtain ⟨j,hj,rfl⟩:=r9 hx
    exact ⟨j,hj,by simp [u9,hj]⟩
theorem sJ:bE X (.builtin "len") (λxs H Q=>∃ (a:Addr) (zs:List Str),xs=[.ref a]/\H a=some (SetO X.prog X.w a zs)/\Q (.int (zs.length:Nat)) H):=by
 intro pins s σ H xs us Q I r h
 obtain ⟨a,zs,rfl,ha,q⟩:=h
 obtain ⟨u,rfl,ru⟩:=cj r
 cases ru
 obtain ⟨hS,_,_⟩:=(show aI X.prog X.w H s.heap a (SetO X.prog X.w a zs) from I.hok a _ ha)
 obtain ⟨o,es,ep,t,ho,hex,hd,_,hb,hf,_,_,hp⟩:=hS
 have e:es.size=zs.length:=by have:=hp.length_eq; rw [ε,ϗ] at this; exact this
 refine call_len_set ho hex hd hf (by unfold scanBound at hb; omega) ⟨.int (zs.length:Nat),H,I.tok _,⟨_,by rw [e]⟩,q⟩
theorem tN {x y:V} {u:δ} (h:aw x u) (g:aw y u):x=y:=by
 cases x <;> cases y <;> simp only [aw] at h g <;> first | (obtain ⟨_,rfl⟩:=h; obtain ⟨_,g⟩:=g; cases g; rfl) | (obtain ⟨_,rfl⟩:=h; obtain ⟨_,g⟩:=g; cases g; done) | (obtain ⟨_,rfl⟩:=h; cases g; done) | (subst h; obtain ⟨_,g⟩:=g; cases g; done) | (subst h; cases g; rfl) | (subst h; cases g; done) | rfl
theorem mx {H:Hp}:∀ {ds:List Dv} {vs:List V} {us:List δ},Reps H ds vs->ar vs us->∀ u∈us,∃ d v,d∈ds/\Rep H d v/\aw v u
 | _,_,_,R,.nil,u,hu=>nomatch hu
 | [],_,_,R,.cons _ _,_,_=>by simp [Reps] at R
 | d :: ds,_,_,R,.cons r t,u,hu=>by
  simp only [Reps] at R
  obtain ⟨v,vs,e,R1,R2⟩:=R
  cases e
  rcases ν.mp hu with rfl | hu
  ·exact ⟨d,_,Δ,R1,r⟩
  ·obtain ⟨d',v',h1,h2,h3⟩:=mx R2 t u hu
   exact ⟨d',v',ρ _ h1,h2,h3⟩
theorem nI {H:Hp}:∀ {ds:List Dv} {vs:List V} {us:List δ},Reps H ds vs->ar vs us->∀ d∈ds,∃ u v,u∈us/\Rep H d v/\aw v u
 | [],_,_,_,_,d,hd=>nomatch hd
 | _ :: _,_,_,R,.nil,_,_=>by simp [Reps] at R
 | d :: ds,_,_,R,.cons r t,e,he=>by
  simp only [Reps] at R
  obtain ⟨v,vs,e1,R1,R2⟩:=R
  cases e1
  rcases ν.mp he with rfl | he
  ·exact ⟨_,_,Δ,R1,r⟩
  ·obtain ⟨u',v',h1,h2,h3⟩:=nI R2 t e he
   exact ⟨u',v',ρ _ h1,h2,h3⟩
def Bd (K:ι):R2:=λx y H Q=>∃ (p:Addr) (xs:List V) (n:Nat) (d:Dv) (ds:List Dv),y=.ref p/\SqL K H p xs/\Reps H ds xs/\(∀ e∈ds,Pl n e)/\Pl n d/\n<=140/\Rep H d x/\∀ b:Bool,(b=true↔d∈ds)->Q (.bl b) H
theorem zF (hu:X.A.units + 150 < cLine):OpR X (compareOp .In) (Bd X.K):=by
 intro pins s σ H x y v u Q I rx ry h
 obtain ⟨p,xs,n,d,ds,rfl,hq,R,hp,hd,hn,Rx,q⟩:=h
 cases ry
 obtain ⟨its,r,pl,hz⟩:=I.list hq
 have f:∀ w∈its,∃ e∈ds,Ϣ X.A.in1 s w v (cA (∃ z,aw z w/\Rep H d z))/\(cA (∃ z,aw z w/\Rep H d z)=true↔e=d):=λw hw=>by
  obtain ⟨e,y,he,Re,ry⟩:=mx R r w hw
  have E:=qx I (hp e he) hd (A:=X.A.in1) (by show X.A.units + 1 + n < cLine; omega) Re Rx ry rx
  have iff:(∃ z,aw z w/\Rep H d z)↔e=d:=⟨λ⟨z,h1,h2⟩=>Rep.inj _ _ _ Re (tN h1 ry▸h2),λz=>⟨y,ry,z▸Re⟩⟩
  have e2:cA (∃ z,aw z w/\Rep H d z)=cA (e=d):=cr (by rw [bL]; exact iff)
  exact ⟨e,he,e2▸E,by rw [bL]; exact iff⟩
 refine SeqAt.in_listAt (λw=>cA (∃ z,aw z w/\Rep H d z)) pl.isList (λw hw=>(f w (by simpa using hw)).choose_spec.2.1) ⟨.bl _,H,I,rfl,q _ ?_⟩
 rw [show its.toArray.any (λw=>cA (∃ z,aw z w/\Rep H d z))=its.any (λw=>cA (∃ z,aw z w/\Rep H d z)) by simp,j_]
 constructor
 ·rintro ⟨w,hw,e⟩
  obtain ⟨e',he,_,i⟩:=f w hw
  rw [<- i.mp e]; exact he
 ·intro hm
  obtain ⟨w,y,hw,Ry,ry⟩:=nI R r d hm
  exact ⟨w,hw,bL.mpr ⟨y,ry,Ry⟩⟩
end
section
variable {X:Cx}
def zY (neg:Bool):R2:=λy x H Q=>∃ a o,x=.ref a/\oz H a y o/\Q (.bl (if neg then !o.isSome else o.isSome)) H
theorem yB (hu:X.A.units + 1 < cLine):OpR X (compareOp .In) (zY false):=by
 intro pins s σ H y x iv u Q I ry rx h
 obtain ⟨a,ov,rfl,g,q⟩:=h
 obtain rfl:u=Η a:=rx
 exact BF hu I g ry λs3 I3=>⟨.bl ov.isSome,H,I3,rfl,q⟩
theorem rJ (hu:X.A.units + 1 < cLine):OpR X (compareOp .NotIn) (zY true):=by
 intro pins s σ H y x iv u Q I ry rx h
 obtain ⟨a,ov,rfl,g,q⟩:=h
 obtain rfl:u=Η a:=rx
 exact wq hu I g ry λs3 I3=>⟨.bl (!ov.isSome),H,I3,rfl,q⟩
theorem uQ (hu:X.A.units < cLine):OpR X (compareOp .NotEq) (λx y H Q=>∃ (l b:Addr) (xs:List V),x=.ref l/\y=.ref b/\SqL X.K H l xs/\SqL X.K H b []/\Q (.bl (!xs.isEmpty)) H):=by
 intro pins s σ H x y v u Q I rx ry h
 obtain ⟨l,b,xs,rfl,rfl,hl,hb,q⟩:=h
 cases rx
 cases ry
 obtain ⟨its,r1,p1,_⟩:=I.list hl
 obtain ⟨its2,r2,p2,_⟩:=I.list hb
 have l1:=r1.length
 have l2:=r2.length
 cases xs with
 | nil=>
  refine Fx.lists (e:=λ_=>true) p1.isList p2.isList (by simp; omega) hu (λj h1 h2=>?_) X.prog X.w X.xe _ ?_
  ·have:j < its.length:=by simpa using h1
   simp at l1; omega
  ·have e:(!((Φ its.toArray.size).all λ_=>true))=false:=by simp
   rw [e]
   exact ⟨.bl false,H,I,rfl,q⟩
 | cons x xs=>
  refine Eo p1.isList p2.isList ?_ hu X.prog X.w X.xe _ ⟨.bl true,H,I,rfl,q⟩
  rw [ό] at l1
  rw [u_] at l2
  rw [ς,ς,bne_iff_ne]
  omega
theorem rX:bE X (.builtin "len") (λvs H Q=>∃ d m,vs=[V.ref d]/\H d=some (.dK m)/\Q (.int m.length) H):=λpins s σ H vs us Q I r h=>by
 obtain ⟨d,m,rfl,hd,q⟩:=h
 obtain ⟨u,rfl,ru⟩:=cj r
 cases ru
 exact AX I (.inl hd) λt _ J=>⟨.int m.length,H,J,⟨t,rfl⟩,q⟩
end
theorem tJ (l:Addr) (items:Array δ) (n:Nat) (dct:Option Addr) (slt:Array (Option δ)) (t:Tok) (hc1:¬(items.isEmpty || (0:Int) == 1)=true) :
  Meets (Ϡ.«tuple.__mul__» ⟨[.ref l,.int 0 t],[]⟩) (λ_ R s=>s.heap.get? l=some { cls:=.type "tuple",dict:=dct,data:=.seq items n,slots:=slt }/\R (.ok (.ret (.ref s.heap.objs.size))) { s with heap:=s.heap.push { cls:=.type "tuple",data:=.seq #[] } }):=
 .of_wp λprog w A R s h=>by
  obtain ⟨hp,g,d,tk,os⟩:=s
  obtain ⟨hl,h⟩:=h
  have f1:=Dt
  have f2:=BX
  have hc0:¬(decide ((0:Int) < -2 ^ 63) || decide ((0:Int)>=2 ^ 63))=true:=by decide
  have hc2:(decide ((0:Int)<=0) || items.isEmpty)=true:=by simp
  wp_walk using a8 hl
  rw [if_neg hc1]
  show wpAny _ _ (if (decide ((0:Int)<=0) || items.isEmpty)=true then _ else _) _ _ _
  rw [if_pos hc2]
  refine γ (m:=Ϟ _) (Ϗ (μ ⟨_,rfl,h⟩) (Ω _))
theorem uv (l:Addr) (items:Array δ) (n:Nat) (dct:Option Addr) (slt:Array (Option δ)) (t:Tok) :
  Meets (Ϡ.«tuple.__mul__» ⟨[.ref l,.int 1 t],[]⟩) (λ_ R s=>s.heap.get? l=some { cls:=.type "tuple",dict:=dct,data:=.seq items n,slots:=slt }/\R (.ok (.ret (.ref l))) s):=
 .of_wp λprog w A R s h=>by
  obtain ⟨hp,g,d,tk,os⟩:=s
  obtain ⟨hl,h⟩:=h
  have f1:=Dt
  have f2:=BX
  have hc0:¬(decide ((1:Int) < -2 ^ 63) || decide ((1:Int)>=2 ^ 63))=true:=by decide
  have hc1:(items.isEmpty || (1:Int) == 1)=true:=by simp
  wp_walk using a8 hl
  exact ⟨_,rfl,h⟩
section
variable {X:Cx}
def xW (K:ι):R2:=λx y H Q=>∃ l k xs,x=.ref l/\y=.int k/\SqT K H l xs/\xs≠[]/\0<=k/\k<=1000/\xs.length * k.toNat<=1000/\(k=1->Q (.ref l) H)/\(k≠1->∀ p,H p=none->Q (.ref p) (upd H p (.tup (Α k.toNat xs).flatten)))
theorem wF:OpR X (binaryOp .Mult) (xW X.K):=by
 intro pins s σ H x y v u Q I rx ry h
 obtain ⟨l,k,xs,rfl,rfl,hx,ne,k0,k3,hz,q1,q2⟩:=h
 by_cases h2:2<=k
 ·exact wO pins s σ H _ _ v u Q I rx ry ⟨l,k,xs,rfl,rfl,hx,ne,h2,k3,hz,q2 ∅⟩
 cases rx
 obtain ⟨t,rfl⟩:=ry
 obtain ⟨its,r,⟨⟨cls,dd,data,sl⟩,e,hc,n,hd⟩,z⟩:=I.tuple hx
 simp only at hc hd
 subst hc hd
 have hl:=r.length
 have hne:its≠[]:=λe=>ne (List.length_eq_zero_iff.mp (by rw [hl,e]; rfl))
 have hemp:its.toArray.isEmpty=false:=by simpa using hne
 rcases (by omega:k=0\/k=1) with rfl | rfl
 ·refine A8 (T:="tuple") (U:="int") ∅ ⟨_,e,rfl⟩ (λs'=>Cv s' 0 t) bI DG w9 cV Dp.lookup
   (v_ w9 (Cv s 0 t) Dq (C6 _ _) (cR 0 t l its.toArray n dd sl)
    ⟨e,rfl,⟨_,e,rfl⟩,v_ ER ⟨_,e,rfl⟩ EG (Em _ _) (tJ l its.toArray n dd sl t (by rw [hemp]; decide)) ⟨e,?_⟩⟩)
  refine ⟨.ref _,_,I.laid (t':=s.toks) (o:=.tup []) (λb ob q=>η _ q) (π _) ?_,rfl,q2 ∅ _ (I.hok.fresh (π _))⟩
  exact ⟨Ω _,[],.nil,EN _ _,NoD.new _ rfl⟩
 ·refine A8 (T:="tuple") (U:="int") ∅ ⟨_,e,rfl⟩ (λs'=>Cv s' 1 t) bI DG w9 cV Dp.lookup
   (v_ w9 (Cv s 1 t) Dq (C6 _ _) (cR 1 t l its.toArray n dd sl)
    ⟨e,rfl,⟨_,e,rfl⟩,v_ ER ⟨_,e,rfl⟩ EG (Em _ _) (uv l its.toArray n dd sl t) ⟨e,?_⟩⟩)
  exact ⟨.ref l,H,I,rfl,q1 rfl⟩
end
end L2
namespace XB
open PySem L2 KB
inductive So | n | x | l | k | w | f | y | e | a | r
deriving DecidableEq
def srt:So->Str
 | .n=>"number"
 | .x=>"name"
 | .l=>"length"
 | .k=>"kind"
 | .w=>"reckon"
 | .f=>"def"
 | .y=>"name"
 | .e=>"part"
 | .a=>"args"
 | .r=>"things"
abbrev Wd:=Str×Str×List So
def WT:List Wd:=[("number","n",[.n]),("name","x",[.x]),("length","l",[.l]),("none","k",[.k]),("place","ll",[.l,.l]),("reckon","wee",[.w,.e,.e]),
 ("if","eee",[.e,.e,.e]),("let","xee",[.x,.e,.e]),("call","fa",[.f,.a]),("pair","ee",[.e,.e]),("first","e",[.e]),("second","e",[.e]),
 ("row","r",[.r]),("join","ee",[.e,.e]),("take","le",[.l,.e]),("drop","le",[.l,.e]),("zip","ee",[.e,.e]),("turn","e",[.e]),
 ("get","ee",[.e,.e]),("value","e",[.e]),("up","le",[.l,.e]),("wide","le",[.l,.e]),("mirror","e",[.e]),("fork","lexee",[.l,.e,.x,.e,.e]),
 ("when","elxee",[.e,.l,.x,.e,.e]),("loop","xle",[.x,.l,.e]),("fold","xlyee",[.x,.l,.y,.e,.e])]
def ST:List Wd:=[("number","n",[.n]),("name","x",[.x]),("length","l",[.l]),("reckon","wee",[.w,.e,.e]),("if","eee",[.e,.e,.e]),("let","xee",[.x,.e,.e]),
 ("call","fa",[.f,.a]),("pair","ee",[.e,.e]),("first","e",[.e]),("second","e",[.e]),("row","r",[.r]),("none","k",[.k]),
 ("join","ee",[.e,.e]),("take","le",[.l,.e]),("drop","le",[.l,.e]),("zip","ee",[.e,.e]),("turn","e",[.e]),("get","ee",[.e,.e]),
 ("place","ll",[.l,.l]),("value","e",[.e]),("up","le",[.l,.e]),("wide","le",[.l,.e]),("mirror","e",[.e]),("fork","lexee",[.l,.e,.x,.e,.e]),
 ("when","elxee",[.e,.l,.x,.e,.e]),("loop","xle",[.x,.l,.e]),("fold","xlyee",[.x,.l,.y,.e,.e])]
theorem xX:∀ p∈WT,p∈ST:=by decide +kernel
theorem yd:(ST.map (·.1)).Nodup:=by decide +kernel
theorem yc:(WT.map (·.1)).Nodup:=by decide +kernel
theorem zx:∀ p∈ST,p.2.2.length<=5:=by decide +kernel
theorem rf:∀ p∈WT,p.2.2.length<=5:=by decide +kernel
def gW (ss:List So):Nat:=(ss.map λ| .e=>1 | .a=>4 | .r=>4 | _=>0).sum
theorem wY:∀ p∈WT,gW p.2.2<=4:=by decide +kernel
theorem xU:∀ s:So,V.str (srt s)=V.str "part"↔s=.e:=by
 intro s
 cases s <;> simp only [V.str.injEq,srt] <;> decide +kernel
theorem mL:∀ s:So,V.str (srt s)=V.str "args"↔s=.a:=by
 intro s
 cases s <;> simp only [V.str.injEq,srt] <;> decide +kernel
theorem nY:∀ s:So,V.str (srt s)=V.str "things"↔s=.r:=by
 intro s
 cases s <;> simp only [V.str.injEq,srt] <;> decide +kernel
theorem xS:∀ s:So,V.str (srt s)=V.str "number"↔s=.n:=by
 intro s
 cases s <;> simp only [V.str.injEq,srt] <;> decide +kernel
theorem xQ:∀ s:So,V.str (srt s)=V.str "length"↔s=.l:=by
 intro s
 cases s <;> simp only [V.str.injEq,srt] <;> decide +kernel
theorem yt:∀ s:So,V.str (srt s)=V.str "kind"↔s=.k:=by
 intro s
 cases s <;> simp only [V.str.injEq,srt] <;> decide +kernel
theorem xT:∀ s:So,V.str (srt s)=V.str "reckon"↔s=.w:=by
 intro s
 cases s <;> simp only [V.str.injEq,srt] <;> decide +kernel
theorem yr:∀ s:So,V.str (srt s)=V.str "def"↔s=.f:=by
 intro s
 cases s <;> simp only [V.str.injEq,srt] <;> decide +kernel
theorem vz:∀ s:So,V.str (srt s)=V.str "name"↔(s=.x\/s=.y):=by
 intro s
 cases s <;> simp only [V.str.injEq,srt] <;> decide +kernel
theorem qa {α:Type} {l:List α} {f:α->Str} (hn:(l.map f).Nodup) {p:α} (hp:p∈l):l.find? (λq=>decide (f q=f p))=some p:=by
 induction l with
 | nil=>cases hp
 | cons q l ih=>
  rw [Υ,j4] at hn
  rw [j6]
  rcases ν.mp hp with rfl | hp
  ·simp
  ·rw [show decide (f q=f p)=false from decide_eq_false λe=>hn.1 (by rw [e]; exact ϯ hp)]
   exact ih hn.2 hp
structure Shp (P:Β) (w:Ν) (K:ι) (g:Addr):Prop where
 ex:∃ kvs,FD P w K g kvs/\(∀ p∈WT,∃ b,look kvs p.1=some b/\∀ H,SqT K H b (p.2.2.map λs=>V.str (srt s)))/\∀ x,(look kvs x).isSome=WT.any λp=>decide (p.1=x)
def yO:Dm->Str×Addr
 | ⟨_,.str x _,.ref b⟩=>(x,b)
 | _=>("",0)
inductive Ents (w:Ν):List Dm->Prop
 | nil:Ents w []
 | cons {x:Str} {t:Tok} {b:Addr} {es:List Dm}:Ents w es->Ents w (⟨PyData.keyHash w.params x,.str x t,.ref b⟩ :: es)
inductive AreS:List δ->List Str->Prop
 | nil:AreS [] []
 | cons {x:Str} {t:Tok} {us:List δ} {xs:List Str}:AreS us xs->AreS (.str x t :: us) (x :: xs)
theorem AreS.vals {us:List δ} {xs:List Str} (h:AreS us xs):ar (xs.map V.str) us:=by
 induction h with
 | nil=>exact .nil
 | @cons x t us xs _ ih=>exact .cons ⟨t,rfl⟩ ih
inductive TupsK (K:ι):List (Str×Addr)->List Wd->Prop
 | nil:TupsK K [] []
 | cons {x z:Str} {b:Addr} {kvs:List (Str×Addr)} {ss:List So} {ps:List Wd} {od:Option Addr} {its:List δ} {n:Nat} {sl:Array (Option δ)} :
  K.lookup b=some ⟨.type "tuple",od,.seq its.toArray n,sl⟩->AreS its (ss.map srt)->TupsK K kvs ps->TupsK K ((x,b) :: kvs) ((x,z,ss) :: ps)
theorem TupsK.keys {K:ι} {kvs:List (Str×Addr)} {ps:List Wd} (h:TupsK K kvs ps):kvs.map (·.1)=ps.map (·.1):=by
 induction h with
 | nil=>rfl
 | cons _ _ _ ih=>rw [Υ,Υ,ih]
theorem TupsK.look {K:ι} {kvs:List (Str×Addr)} {ps:List Wd} (h:TupsK K kvs ps) (hf:∀ p∈ps,p.2.2.length<=5):(ps.map (·.1)).Nodup->∀ p∈ps,∃ b,L2.look kvs p.1=some b/\∀ H,SqT K H b (p.2.2.map λs=>V.str (srt s)):=by
 induction h with
 | nil=>intro _ p hp; cases hp
 | @cons x z b kvs ss ps od its n sl hl ha _ ih=>
  intro hn p hp
  rw [Υ,j4] at hn
  unfold L2.look
  rw [j6]
  rcases ν.mp hp with rfl | hp'
  ·rw [decide_eq_true rfl]
   refine ⟨b,rfl,λH=>.inr ⟨_,_,_,hl,rfl,rfl,?_,?_⟩⟩
   ·have h5:ss.length<=5:=hf _ Δ
    have:=ha.vals.length
    rw [ε,ε] at this
    rw [ς,υ]
    omega
   ·have:=ha.vals
    rw [ϓ] at this
    exact this
  ·rw [decide_eq_false (λe:x=p.1=>hn.1 (by rw [show (x,z,ss).1=p.1 from e]; exact ϯ (f:=(·.1)) hp'))]
   exact ih (λq hq=>hf q (ρ _ hq)) hn.2 p hp'
theorem Ents.pairs {P:Β} {w:Ν} {es:List Dm} (h:Ents w es):Pairs (aK P w) es ((es.map yO).map λp=>((ϕ p.1:Key),Η p.2)):=by
 induction h with
 | nil=>exact .nil
 | @cons x t b es _ ih=>exact .cons (dL P w x t) rfl ih
theorem Ents.keys {P:Β} {w:Ν} {es:List Dm} (h:Ents w es):∀ e∈es,∃ k,(aK P w).is k e.key=true/\e.hash=(aK P w).hash k:=by
 induction h with
 | nil=>intro e he; cases he
 | @cons x t b es _ ih=>
  intro e he
  rcases ν.mp he with rfl | he
  ·exact ⟨ϕ x,dL P w x t,rfl⟩
  ·exact ih e he
theorem rM (kvs:List (Str×Addr)) (x:Str):(L2.look kvs x).isSome=(kvs.map (·.1)).any λy=>decide (y=x):=by
 unfold L2.look
 rw [Cj]
 induction kvs with
 | nil=>rfl
 | cons p kvs ih=>
  rw [j6,Υ,CM]
  by_cases h:p.1=x
  ·rw [decide_eq_true h]; rfl
  ·rw [decide_eq_false h,BR]; exact ih
theorem zK:∀ p∈ST,p∈WT:=by decide +kernel
theorem yY (x:Str):(ST.map (·.1)).any (λy=>decide (y=x))=WT.any λp=>decide (p.1=x):=by
 rw [s_,j_,j_]
 constructor
 ·rintro ⟨y,hy,h⟩
  obtain ⟨p,hp,rfl⟩:=Κ.mp hy
  exact ⟨p,zK p hp,h⟩
 ·rintro ⟨p,hp,h⟩
  exact ⟨p.1,ϯ (xX p hp),h⟩
theorem shp_mk {P:Β} {w:Ν} {K:ι} {g:Addr} {es:List Dm} {ep:Nat} (hl:K.lookup g=some ⟨.type "dict",none,.dict es.toArray ep,#[]⟩) (lo:(g == sysModules)=false) (he:Ents w es) (ht:TupsK K (es.map yO) ST):Shp P w K g:=by
 refine ⟨es.map yO,⟨by rw [ht.keys]; exact yd,lo,_,_,_,hl,⟨rfl,rfl,rfl⟩,rfl,λe hm=>he.keys e (by simpa using hm),by simpa using he.pairs⟩,λp hp=>ht.look zx yd p (xX p hp),λx=>by rw [rM,ht.keys,yY]⟩
inductive F2 (R:So->Dv->Prop):List So->List Dv->Prop
 | nil:F2 R [] []
 | cons {s:So} {d:Dv} {ss:List So} {ds:List Dv}:R s d->F2 R ss ds->F2 R (s :: ss) (d :: ds)
theorem F2.length {R:So->Dv->Prop} {ss:List So} {ds:List Dv} (h:F2 R ss ds):ds.length=ss.length:=by
 induction h with
 | nil=>rfl
 | cons _ _ ih=>rw [ό,ό,ih]
theorem F2.get {R:So->Dv->Prop} {ss:List So} {ds:List Dv} (h:F2 R ss ds) {i:Nat} {s:So} (hs:ss[i]?=some s):∃ d,ds[i]?=some d/\R s d:=by
 induction h generalizing i with
 | nil=>cases hs
 | cons h _ ih=>
  cases i with
  | zero=>cases hs; exact ⟨_,rfl,h⟩
  | succ i=>exact ih hs
def Fld (E:Dv->Prop) (L:So->Dv->Prop):So->Dv->Prop
 | .e,d=>E d
 | .a,d=>∃ es,d=.tup es/\es.length<=4/\∀ e∈es,E e
 | .r,d=>∃ es,d=.tup es/\1<=es.length/\es.length<=4/\∀ e∈es,E e
 | s,d=>L s d
def qi:Dv->List Dv
 | .tup ds=>ds
 | _=>[]
def ptD:So->Dv->List Dv
 | .e,d=>[d]
 | .a,d=>qi d
 | .r,d=>qi d
 | _,_=>[]
def aW:List So->List Dv->List Dv
 | s :: ss,d :: ds=>ptD s d ++ aW ss ds
 | _,_=>[]
def xg (w:Str):List So:=match WT.find? (λq=>decide (q.1=w)) with
 | some p=>p.2.2
 | none=>[]
theorem wJ {p:Wd} (hp:p∈WT):xg p.1=p.2.2:=by unfold xg; rw [qa yc hp]
def bH:Dv->List Dv
 | .tup (.str w :: ds)=>aW (xg w) ds
 | _=>[]
theorem parts_of {p:Wd} (hp:p∈WT) (ds:List Dv):bH (.tup (.str p.1 :: ds))=aW p.2.2 ds:=by
 show aW (xg p.1) ds=_
 rw [wJ hp]
theorem dW {E:Dv->Prop} {L:So->Dv->Prop} {ss:List So} {ds:List Dv} (h:F2 (Fld E L) ss ds):(∀ e∈aW ss ds,E e)/\(aW ss ds).length<=gW ss:=by
 induction h with
 | nil=>exact ⟨λe he=>by simp [aW] at he,by simp [aW]⟩
 | @cons s d ss ds h _ ih=>
  obtain ⟨i1,i2⟩:=ih
  have em:gW (s :: ss)=gW [s] + gW ss:=by simp [gW]
  rw [em]
  have key:(∀ e∈ptD s d,E e)/\(ptD s d).length<=gW [s]:=by
   cases s with
   | e=>exact ⟨λe he=>by rw [θ.mp he]; exact h,π _⟩
   | a=>obtain ⟨es,rfl,h1,h2⟩:=h; exact ⟨h2,h1⟩
   | r=>obtain ⟨es,rfl,h0,h1,h2⟩:=h; exact ⟨h2,h1⟩
   | _=>exact ⟨λe he=>by simp [ptD] at he,by simp [ptD,gW]⟩
  show (∀ e∈ptD s d ++ aW ss ds,E e)/\(ptD s d ++ aW ss ds).length<=_
  refine ⟨λe he=>?_,by rw [ψ]; omega⟩
  rcases ϒ.mp he with he | he
  ·exact key.1 e he
  ·exact i1 e he
theorem jx (ss:List So) (ds:List Dv) (i:Nat) {s:So} {d:Dv} (hs:ss[i]?=some s) (hd:ds[i]?=some d):aW (ss.take (i + 1)) (ds.take (i + 1))=aW (ss.take i) (ds.take i) ++ ptD s d:=by
 induction i generalizing ss ds with
 | zero=>
  cases ss with
  | nil=>cases hs
  | cons s' ss=>
   cases ds with
   | nil=>cases hd
   | cons d' ds=>cases hs; cases hd; simp [aW]
 | succ i ih=>
  cases ss with
  | nil=>cases hs
  | cons s' ss=>
   cases ds with
   | nil=>cases hd
   | cons d' ds=>
    simp only [List.take_succ_cons,aW]
    rw [ih ss ds hs hd,Cm]
theorem cK (xs:List V) (n:Nat):aB xs none (some (n:Int))=xs.take n:=by
 unfold aB
 have e1:HT.sIx xs.length xs.length (some (n:Int))=min n xs.length:=HT.sIx_nat _ _ _
 have e2:HT.sIx xs.length 0 none=0:=rfl
 rw [e1,e2,List.drop_zero,Nat.sub_zero]
 rcases Nat.le_total n xs.length with h | h
 ·rw [Cg h]
 ·rw [ES h,Ϥ,Cb h]
theorem bG (xs:List V) (n:Nat):aB xs (some (n:Int)) none=xs.drop n:=by
 unfold aB
 have e1:HT.sIx xs.length 0 (some (n:Int))=min n xs.length:=HT.sIx_nat _ _ _
 have e2:HT.sIx xs.length xs.length none=xs.length:=rfl
 rw [e1,e2]
 rcases Nat.le_total n xs.length with h | h
 ·rw [Cg h,Cb (by rw [c_]; exact π _)]
 ·rw [ES h,Nat.sub_self,List.take_zero,List.drop_of_length_le h]
theorem reps_drop {H:Hp}:∀ {ds:List Dv} {vs:List V} (n:Nat),Reps H ds vs->Reps H (ds.drop n) (vs.drop n)
 | [],vs,n,h=>by simp only [Reps] at h; subst h; simp [Reps]
 | d :: ds,vs,0,h=>by simpa using h
 | d :: ds,vs,n + 1,h=>by
  simp only [Reps] at h
  obtain ⟨v,r,rfl,h1,h2⟩:=h
  simpa using reps_drop n h2
theorem zi {t1 t2:TT} {σ:St} {H:Hp} {Q:Bool->Hp->Prop} (q:Q true H) (f:Q true H->tOr t1 t2 σ H Q):tOr t1 t2 σ H Q:=f q
theorem qp {K:ι} {g:Addr} {us:List V} {lo hi:Option Int} {H:Hp} {Q:VK} (hg:H g=some (.tup us)) (k:∀ H' p,af H H'->H' p=some (.tup (aB us lo hi))->Q (.ref p) H'):zM K (.ref g) lo hi H Q:=
 ⟨g,us,rfl,SqT.of hg,λe=>k H g (af.refl _) (by rw [e]; exact hg),λp hp=>k _ p (ac hp _) aa⟩
def yP (d:Dv):Prop:=∃ (p:Wd) (ds:List Dv),p∈WT/\d=.tup (.str p.1 :: ds)/\F2 (Fld (λ_=>True) (λ_ _=>True)) p.2.2 ds
theorem tG {H:Hp} {ds:List Dv} {vs:List V} (h:Reps H ds vs) {i:Nat} {d:Dv} (hd:ds[i]?=some d):∃ v,vs[i]?=some v/\Rep H d v:=by
 have l:=h.length
 have hi:i < vs.length:=by rw [l]; exact (ο.mp hd).1
 obtain ⟨e,he,r⟩:=h.get (Ζ hi)
 rw [hd] at he
 cases he
 exact ⟨_,Ζ hi,r⟩
theorem cH {H:Hp} {d:Dv} {ds:List Dv} {vs:List V} (h:Reps H (d :: ds) vs):∃ v ws,vs=v :: ws/\Rep H d v/\Reps H ds ws:=by simpa only [Reps] using h
def jN {f:Nat->V} {n:Nat} {g:TG} {tb:TS} {D:bP} {σ:St} {H:Hp} (Pv:Nat->St->Hp->Prop) (h0:Pv 0 σ H)
  (hs:∀ i σ H (D':bP),(∀ σ' H',Pv (i + 1) σ' H'->D'.nx σ' H')->i < n->Pv i σ H->g (f i) σ H λσ2 H2=>tb D' σ2 H2) (hd:∀ σ H,Pv n σ H->D.nx σ H):=xi (f:=f) (n:=n) (g:=g) (tb:=tb) (D:=D) (σ:=σ) (H:=H) Pv h0 (λi σ H hi p=>hs i σ H _ (λ_ _ h=>h) hi p) hd
def gP {lo:Int} {n:Nat} {g:TG} {tb:TS} {D:bP} {σ:St} {H:Hp} (Pv:Nat->St->Hp->Prop) (h0:Pv 0 σ H)
  (hs:∀ i σ H (D':bP),(∀ σ' H',Pv (i + 1) σ' H'->D'.nx σ' H')->i < n->Pv i σ H->g (.int (lo + i)) σ H λσ2 H2=>tb D' σ2 H2) (hd:∀ σ H,Pv n σ H->D.nx σ H):=tz (lo:=lo) (n:=n) (g:=g) (tb:=tb) (D:=D) (σ:=σ) (H:=H) Pv h0 (λi σ H hi p=>hs i σ H _ (λ_ _ h=>h) hi p) hd
def gK {K:ι} {a b:Addr} {xs ys:List V} {g:TG} {tb:TS} {D:bP} {σ:St} {H:Hp} (Pv:Nat->St->Hp->Prop) (h0:Pv 0 σ H) (hl:∀ i σ H,Pv i σ H->SqT K H a xs/\SqT K H b ys)
  (hs:∀ i x y σ H p (D':bP),(∀ v H,D.rt v H->D'.rt v H)->(∀ σ' H',Pv (i + 1) σ' H'->D'.nx σ' H')->xs[i]?=some x->ys[i]?=some y->Pv i σ H->H p=none->g (.ref p) σ (upd H p (.tup [x,y])) λσ2 H2=>tb D' σ2 H2) (hd:∀ σ H,Pv (min xs.length ys.length) σ H->D.nx σ H):=
 sD (K:=K) (a:=a) (b:=b) (xs:=xs) (ys:=ys) (g:=g) (tb:=tb) (D:=D) (σ:=σ) (H:=H) Pv h0 hl (λi x y σ H p hx hy q hp=>hs i x y σ H p _ (λ_ _ h=>h) (λ_ _ h=>h) hx hy q hp) hd
theorem mT {c:TT} {tb:TS} {D:bP} {σ:St} {H:Hp} (Pv:Nat->St->Hp->Prop) (m:Nat) (h0:Pv m σ H)
  (hs:∀ m σ H (D':bP),(∀ v H,D.rt v H->D'.rt v H)->(∀ m' σ' H',m' < m->Pv m' σ' H'->D'.nx σ' H')->Pv m σ H->c σ H λb H1=>if b=true then tb D' σ H1 else D.nx σ H1)
  (mono:∀ σ H Q Q',(∀ b H1,Q b H1->Q' b H1)->c σ H Q->c σ H Q'):oW c tb D σ H:=
 qK Pv m h0 (λm σ H p=>hs m σ H _ (λ_ _ h=>h) (λm' _ _ l q=>⟨m',l,q⟩) p) mono
end XB
namespace L2.EX
open PySem PySem.Spec PyProof.Rows PySem.W
section
variable {P:Β} {w:Ν} {A:Χ} {R:Ea->ζ->Prop} {E:δ->ζ->Prop} {h:Heap} {g:Array Cq} {d:DY} {t:Nat} {os:EZ}
variable {nm q:Str} {C N:Addr} {bs bm:List δ} {hdct:Bool} {sn:List Str} {sub:List δ} {ab:Bool} {col:Option Bool} {dd:Option Addr} {k0 k1 k2 k3 k5:Option δ} {B newId inN:String} {bmN:List δ}
structure aX (B:String) (bm:List δ):Prop where
 is:bm.contains (.type B)=true
 attr:bm.contains (.type "AttributeError")=false
 name:bm.contains (.type "NameError")=false
theorem aX.up {X:String} {b:Bool} {a:Addr} (e:bm.contains (.type X)=b):(Η a :: bm).contains (.type X)=b:=by
 rw [Ep,e]; cases b <;> rfl
def eS (C:Addr) (t:Addr):Obj:={ cls:=.ref C,data:=.fields #[.ref t,.none,.none,.none,.bool false,.none] }
def jG (vs:List δ):Obj:={ cls:=.type "tuple",data:=.seq vs.toArray }
theorem yN (F:DV B newId inN bmN) (O:aX B bm) {vs:List δ} (hC:h.get? C=some (excClassObj nm q C N bs bm hdct sn sub ab col dd k0 k1 k2 k3 k5 newId)) (hv:vs.length<=sizeLine)
  (hq:R (.ok (.ret (.ref (h.objs.size + 1)))) ⟨(h.push (jG vs)).push (eS C h.objs.size),g,d,t,os⟩) :
  codeAny (model P w) A (.builtin newId ⟨.ref C :: vs,[]⟩) R ⟨h,g,d,t,os⟩:=by
 have e1:=F.ends
 have b1:=aX.up (a:=C) O.is
 have b2:=aX.up (a:=C) O.attr
 have b3:=aX.up (a:=C) O.name
 refine codeAny_builtinAt F.entry ?_
 unfold Ϡ.«BaseException.__new__»
 refine PySem.wpAt_bind ?_
 show PySem.wpAt _ _ _ (stack >>= _) _ _ _
 refine PySem.wpAt_bind (PySem.wpAt_stack λp below=>PySem.wpAt_of_wpAny ?_)
 wp_walk
 refine PySem.wpAt_of_wpAny ?_
 rw [F.owner]
 repeat (first
  | with_reducible refine wpAny_madeHere_exc F.canon hC ?_
  | with_reducible refine Ξ hC ?_
  | (with_reducible refine ϳ hC ?_; first | rw [b1] | rw [b2] | rw [b3])
  | wp_step)
 show R _ _
 rw [Ϩ]
 exact hq
theorem km (F:DV B newId inN bmN) (O:aX B bm) {vs:List δ} {Q:Unit->ζ->Prop} (hC:h.get? C=some (excClassObj nm q C N bs bm hdct sn sub ab col dd k0 k1 k2 k3 k5 newId)) (hq:Q () ⟨h,g,d,t,os⟩) :
  wpAny (model P w) A (checkBuiltinCall newId ⟨.ref C :: vs,[]⟩) Q E ⟨h,g,d,t,os⟩:=by
 have b1:=aX.up (a:=C) O.is
 have e1:=F.noStar
 simp only [checkBuiltinCall,F.newKind,F.newSplit,F.newRow]
 repeat (first
  | refine Ξ hC ?_
  | (refine ϳ hC ?_; rw [b1])
  | refine wpAny_staticBase_exc hC ?_
  | refine wpAny_madeBy_exc hC ?_
  | simp only [bne_self_eq_false,y_,if_false]
  | wp_step)
 exact hq
end
section
variable {P:Β} {w:Ν} {A:Χ} {E:δ->ζ->Prop} {h:Heap} {g:Array Cq} {d:DY} {t:Nat} {os:EZ}
variable {nm q:Str} {C N fI:Addr} {bs bm:List δ} {hdct:Bool} {sn:List Str} {sub:List δ} {ab:Bool} {col:Option Bool} {dd:Option Addr} {k0 k1 k2 k3 k5:Option δ} {B newId inN:String} {bmN:List δ}
theorem wU (F:DV B newId inN bmN) (O:aX B bm) {vs:List δ} {oI:Obj} {Q:δ->ζ->Prop} (hC:h.get? C=some (excClassObj nm q C N bs bm hdct sn sub ab col dd k0 k1 k2 k3 k5 newId)) (hv:vs.length<=sizeLine) (hfI:h.get? fI=some oI) (hfc:oI.cls=.type "function")
  (look:∀ {A:Χ} {E:δ->ζ->Prop} {Q:Option δ->ζ->Prop} {s:ζ},(∀ b o,h.get? b=some o->s.heap.get? b=some o)->Q (some (.ref fI)) s->wpAny (model P w) A (typeLookup (.ref C) "__init__") Q E s)
  (hq:wpAny (model P w) (A.under (.builtin "type.__call__" ⟨.ref C :: vs,[]⟩)) (call (.ref fI) (.ref (h.objs.size + 1) :: vs)) (λr s'=>r=.none/\Q (.ref (h.objs.size + 1)) s') E ⟨(h.push (jG vs)).push (eS C h.objs.size),g,d,t,os⟩) :
  wpAny (model P w) A (call (.ref C) vs) Q E ⟨h,g,d,t,os⟩:=by
 have f1:=tc_lookup
 have f2:=tc_bind (.ref C)
 have hT:(⟨h,g,d,t,os⟩:ζ).TypeIs (.ref C) "type":=⟨_,hC,rfl⟩
 have kp:∀ b o,h.get? b=some o->((h.push (jG vs)).push (eS C h.objs.size)).get? b=some o:=λb o e=>η _ (η _ e)
 have hC1:=kp _ _ hC
 have hI1:=kp _ _ hfI
 have hg:((h.push (jG vs)).push (eS C h.objs.size)).get? (h.objs.size + 1)=some (eS C h.objs.size):=Heap.get?_push_at (by simp only [Ϩ]) rfl
 have hcC:(Η C :: bm).contains (.ref C)=true:=by simp
 refine Do (DJ ?_)
 show wpAny _ _ (callAny (.ref C) _) _ _ _
 repeat (any_goals (first | assumption | with_reducible refine Ξ hC ?_ | wp_step))
 refine ⟨rfl,codeAny_call_builtin_at (z_ _ ∅) entry_typeCall (wpAny_check_type_call_sub hC ?_)⟩
 repeat (first | with_reducible refine Ξ hC ?_ | with_reducible refine wpAny_madeBy_exc hC ?_ | wp_step)
 refine codeAny_call_builtin_code (z_ _ F.quiet) (km F O hC (yN F O hC hv ?_))
 show wpAny _ _ _ _ _ _
 unfold isInstance
 unfold eS at hg
 repeat (first | with_reducible refine Ξ hg ?_ | wp_step)
 refine ϳ hC1 ?_
 rw [hcC]
 repeat (first | with_reducible refine Ξ hg ?_ | wp_step)
 show wpAny _ _ (typeLookup (.ref C) _) _ _ _
 refine look kp ?_
 refine ϻ (γ ?_)
 unfold bindSpecial
 refine γ (B9 (T:="function") ⟨_,hI1,hfc⟩ ?_)
 rw [if_pos ∅]
 refine μ (γ (Ϻ hq (λr s' hr=>?_) λ_ _ x=>x))
 obtain ⟨rfl,hQ⟩:=hr
 wp_walk
 exact hQ
end
open PySem PySem.Spec PyProof.Rows PySem.W
section
variable {P:Β} {w:Ν} {A:Χ} {E:δ->ζ->Prop} {h:Heap} {g:Array Cq} {d:DY} {t:Nat} {os:EZ}
variable {nm q:Str} {C N fI:Addr} {bs bm:List δ} {hdct:Bool} {sn:List Str} {sub:List δ} {ab:Bool} {col:Option Bool} {dd:Option Addr} {k0 k1 k2 k3 k5:Option δ} {B newId nid initId:String} {bmB:List δ}
theorem jm (F:DV B nid initId bmB) (O:aX B bm) {e:Addr} {oe:Obj} {vs:List δ} {Q:Unit->ζ->Prop} (hC:h.get? C=some (excClassObj nm q C N bs bm hdct sn sub ab col dd k0 k1 k2 k3 k5 newId)) (he:h.get? e=some oe) (hc:oe.cls=.ref C) (hq:Q () ⟨h,g,d,t,os⟩) :
  wpAny (model P w) A (checkBuiltinCall initId ⟨.ref e :: vs,[]⟩) Q E ⟨h,g,d,t,os⟩:=by
 have b1:=aX.up (a:=C) O.is
 have e1:=F.noStar
 simp only [checkBuiltinCall,F.initKind,F.initSplit,F.initRow]
 repeat (first
  | (with_reducible refine Ξ he ?_; rw [hc])
  | with_reducible refine Ξ hC ?_
  | (with_reducible refine ϳ hC ?_; rw [b1])
  | wp_step)
 refine Dz ?_
 have z:∀ (a b:String) (n:Nat),Bind.check ⟨.positional,"*",B,.self,[⟨"args",.varPos,false⟩]⟩ a b n (Fd (λx=>x.fst) ({ pos:=Η e :: vs }:Args).kw)=pure ():=λa b n=>check_star_args _ _ _ _ _ _
 rw [z]
 exact μ hq
def flE (a:Addr):Data:=.fields #[.ref a,.none,.none,.none,.bool false,.none]
theorem wn (F:DV B nid initId bmB) (O:aX B bm) {e a0:Addr} {oe:Obj} {vs:List δ} {Q:δ->ζ->Prop} (hC:h.get? C=some (excClassObj nm q C N bs bm hdct sn sub ab col dd k0 k1 k2 k3 k5 newId)) (he:h.get? e=some oe) (hc:oe.cls=.ref C) (hd:oe.data=flE a0) (hv:vs.length<=sizeLine)
  (hq:∀ h',(∀ b o,b≠e->h.get? b=some o->h'.get? b=some o)->h'.get? e=some { oe with data:=flE h.objs.size }->h'.get? h.objs.size=some (jG vs)->Q .none ⟨h',g,d,t,os⟩) :
  wpAny (model P w) A (call (.builtin initId) (.ref e :: vs)) Q E ⟨h,g,d,t,os⟩:=by
 obtain ⟨oc,od,odt,os'⟩:=oe
 simp only at hc hd
 subst hc; subst hd
 unfold flE at he
 refine Do (n5 F.init.plain F.initEntry (jm F O hC he rfl ?_))
 wp_walk
 refine hq _ (λb o hb z=>?_) ?_ ?_
 ·rw [ύ _ _ (ώ hb)]
  exact η _ z
 ·rw [Ϛ _ (η _ he) rfl]
  rfl
 ·rw [ύ _ _ (Ρ (χ he))]
  exact τ _ rfl
end
open PySem PySem.Spec PyProof.Rows PySem.W
theorem By {α:Type} {M:Fa} {A:Χ} {E:δ->ζ->Prop} {s:ζ} {c:Prop} [Decidable c] {x y:Sem α} {Q:α->ζ->Prop} (h1:c->wpAny M A x Q E s) (h2:¬ c->wpAny M A y Q E s):wpAny M A (if c then x else y) Q E s:=by
 split
 ·next h=>exact h1 h
 ·next h=>exact h2 h
section
variable {P:Β} {w:Ν} {A:Χ} {E:δ->ζ->Prop} {h:Heap} {g:Array Cq} {d:DY} {t:Nat} {os:EZ}
variable {nm q:Str} {C D N x:Addr} {bs bmB:List δ} {sn:List Str} {sub:List δ} {ab:Bool} {col:Option Bool} {dd:Option Addr} {k0 k1 k2 k3 k5:Option δ} {B newId sa owner:String} {name:Str} {v:δ} {tk:Tok}
def bF (P:Β) (w:Ν) (h:Heap) (C:Addr) (name:Str) (y:Option δ):Prop:=
 ∀ {A:Χ} {E:δ->ζ->Prop} {Q:Option δ->ζ->Prop} {s:ζ},(∀ b o,h.get? b=some o->s.heap.get? b=some o)->Q y s->wpAny (model P w) A (typeLookup (.ref C) name) Q E s
theorem mD (SF:StoreFacts B bmB sa owner) {Q:Fin->ζ->Prop} {o:Obj} (hC:h.get? C=some (excClassObj nm q C N bs (.ref D :: bmB) true sn sub ab col dd k0 k1 k2 k3 k5 newId)) (hl:bF P w h C name none) (hx:h.get? x=some o) (hc:o.cls=.ref C) {a0:Addr} (hdt:o.data=flE a0) (hdn:o.dict=none)
  (hq:∀ h' tk',(∀ b o,b≠x->h.get? b=some o->h'.get? b=some o)->h'.get? x=some { o with dict:=some h.objs.size }->h'.Ns1 h.objs.size (λy=>if y=name then some v else none)->Q (.done (.ret .none)) ⟨h',g,d,tk',os⟩) :
  wpAny (model P w) A (Ϡ.«object.__setattr__» ⟨[.ref x,.str name tk,v],[]⟩) Q E ⟨h,g,d,t,os⟩:=by
 have hpass:=SF.passes (.ref x)
 obtain ⟨oc,od,odt,osl⟩:=o
 simp only at hc hdt hdn
 subst hc
 unfold Ϡ.«object.__setattr__»
 repeat (first
  | rw [refuse_eq]
  | (rw [refuseLoop_ref,refuseLoop_ref,hpass])
  | with_reducible refine Ξ hx ?_
  | with_reducible refine wpAny_mroOf_exc hC ?_
  | wp_step)
 refine hl (λ_ _ z=>z) ?_
 repeat (first | with_reducible refine Ξ hx ?_ | wp_step)
 subst hdt; subst hdn
 dsimp only [flE]
 have nx:x≠h.objs.size:=Ρ (χ hx)
 have hx1:=η { cls:=.type "dict",data:=.dict #[] } hx
 refine By (λz=>absurd z (by simp [typeHasDict])) λ_=>?_
 refine γ (wpAny_alloc' (γ (wpAny_update' hx1 (μ ?_))))
 have gd:((h.push { cls:=.type "dict",data:=.dict #[] }).update x λo=>{ cls:=o.cls,dict:=some h.objs.size,data:=o.data,slots:=o.slots }).get? h.objs.size=some { cls:=.type "dict",data:=.dict #[] }:=by
  rw [ύ _ _ nx]
  exact τ _ rfl
 have gx:((h.push { cls:=.type "dict",data:=.dict #[] }).update x λo=>{ cls:=o.cls,dict:=some h.objs.size,data:=o.data,slots:=o.slots }).get? x=some { cls:=.ref C,dict:=some h.objs.size,data:=flE a0,slots:=osl }:=Ϛ _ hx1 rfl
 have go:∀ b o,b≠x->h.get? b=some o->((h.push { cls:=.type "dict",data:=.dict #[] }).update x λo=>{ cls:=o.cls,dict:=some h.objs.size,data:=o.data,slots:=o.slots }).get? b=some o:=λb o hb z=>by
  rw [ύ _ _ (ώ hb)]
  exact η _ z
 generalize ((h.push { cls:=.type "dict",data:=.dict #[] }).update x λo=>{ cls:=o.cls,dict:=some h.objs.size,data:=o.data,slots:=o.slots })=h1 at gd gx go ⊢
 have hnd:h1.Ns h.objs.size (λ_=>none):=⟨_,#[],_,gd,rfl,λe he=>absurd he ∅,λ_=>rfl⟩
 show wpAny _ _ (Du h.objs.size (.str name tk) name v) _ _ _
 unfold Du Ϡ.ObjectAttr.newKeyGuard
 refine γ (μ (γ (wpAny_nsSet1 (Heap.Ns1.of_empty hnd) λh' hn' hs=>?_)))
 obtain ⟨oD,esD,epD,hoD,hdD,hcD⟩:=hn'.count (Within.cons name v Within.nil)
 refine γ (wpAny_lookBehind hoD (by rw [hdD]; exact pastItsLine_dict (ϟ hcD (by rw [υ]; show 1<=_; omega))) ?_)
 wp_walk
 refine hq h' _ (λb o hb z=>?_) ((hs.2 x nx).trans gx) ?_
 ·exact (hs.2 b (Ρ (χ z))).trans (go b o hb z)
 ·obtain ⟨o',es,ep,e1,e2,e3,eu,e4⟩:=hn'
  exact ⟨o',es,ep,e1,e2,e3,eu,λy=>by rw [e4 y]⟩
end
open PySem PySem.Spec PyProof.Rows PySem.W
section
variable {P:Β} {w:Ν} {A:Χ} {E:δ->ζ->Prop} {h:Heap} {g:Array Cq} {d:DY} {t:Nat} {os:EZ}
variable {nm q:Str} {C D N x:Addr} {bs bmB:List δ} {sn:List Str} {sub:List δ} {ab:Bool} {col:Option Bool} {dd:Option Addr} {k0 k1 k2 k3 k5:Option δ} {B newId sa owner:String} {name:Str} {v:δ}
theorem kf (SF:StoreFacts B bmB sa owner) {o:Obj} {u:δ} {Q:Unit->ζ->Prop} (hC:h.get? C=some (excClassObj nm q C N bs (.ref D :: bmB) true sn sub ab col dd k0 k1 k2 k3 k5 newId)) (hx:h.get? x=some o) (hc:o.cls=.ref C) (hq:Q () ⟨h,g,d,t,os⟩) :
  wpAny (model P w) A (checkBuiltinCall sa ⟨[.ref x,u,v],[]⟩) Q E ⟨h,g,d,t,os⟩:=by
 have b1:=aX.up (a:=C) (aX.up (a:=D) SF.hasOwner)
 have ha:=SF.args (.ref x) u v
 simp only [checkBuiltinCall,SF.kind,SF.split]
 refine γ ?_
 unfold isInstance
 repeat (first
  | (with_reducible refine Ξ hx ?_; rw [hc])
  | (with_reducible refine ϳ hC ?_; rw [b1])
  | wp_step)
 cases hsig:Manifest.signature? sa with
 | none=>exact μ hq
 | some sig=>
  simp only [argsOk,hsig] at ha
  have e2:Bind.checkArgs sa sig ⟨[.ref x,u,v],[]⟩=pure ():=ha
  show wpAny (model P w) A (Bind.checkArgs sa sig ⟨[.ref x,u,v],[]⟩) Q E _
  rw [e2]; exact μ hq
theorem sR (SF:StoreFacts B bmB sa owner) {Q:Unit->ζ->Prop} {o:Obj} (hC:h.get? C=some (excClassObj nm q C N bs (.ref D :: bmB) true sn sub ab col dd k0 k1 k2 k3 k5 newId)) (hs:bF P w h C "__setattr__" (some (.builtin sa))) (hl:bF P w h C name none) (hx:h.get? x=some o) (hc:o.cls=.ref C) {a0:Addr} (hdt:o.data=flE a0) (hdn:o.dict=none)
  (hq:∀ h' tk',(∀ b o,b≠x->h.get? b=some o->h'.get? b=some o)->h'.get? x=some { o with dict:=some h.objs.size }->h'.Ns1 h.objs.size (λy=>if y=name then some v else none)->Q () ⟨h',g,d,tk',os⟩) :
  wpAny (model P w) A (setAttr (.ref x) name v) Q E ⟨h,g,d,t,os⟩:=by
 have f3:=SF.slot.bind (.ref x)
 unfold setAttr callSpecial? specialOf
 repeat (any_goals (first | assumption | (with_reducible refine Ξ hx ?_; rw [hc]) | wp_step))
 refine hs (λ_ _ z=>z) ?_
 repeat (any_goals (first | assumption | wp_step))
 refine n5 SF.slot.plain SF.entry (kf SF hC hx hc (mD SF hC hl hx hc hdt hdn λh' tk' k1 k2 k3=>?_))
 repeat (any_goals (first | assumption | wp_step))
 exact hq h' tk' k1 k2 k3
end
open PySem PySem.Spec PyProof.Rows PySem.W
section
variable {P:Β} {w:Ν} {A:Χ} {E:δ->ζ->Prop} {h:Heap} {g:Array Cq} {d:DY} {t:Nat} {os:EZ}
variable {nm q:Str} {C D N x dx a0:Addr} {bs bmB:List δ} {sn:List Str} {sub:List δ} {ab:Bool} {col:Option Bool} {dd:Option Addr} {k0 k1 k2 k3 k5:Option δ} {B newId:String} {name:Str} {v:δ} {tk:Tok} {mA:Str->Option δ} {sl:Array (Option δ)} {ws:Array δ}
theorem fM (FB:EH B bmB) {o:Obj} {u:δ} {Q:Unit->ζ->Prop} (hC:h.get? C=some (excClassObj nm q C N bs (.ref D :: bmB) true sn sub ab col dd k0 k1 k2 k3 k5 newId)) (hx:h.get? x=some o) (hc:o.cls=.ref C) (hq:Q () ⟨h,g,d,t,os⟩) :
  wpAny (model P w) A (checkBuiltinCall "BaseException.__getattribute__" ⟨[.ref x,u],[]⟩) Q E ⟨h,g,d,t,os⟩:=by
 have e1:builtinKind "BaseException.__getattribute__"=some .slot:=by decide +kernel
 have e2:splitId "BaseException.__getattribute__"=some ("BaseException","__getattribute__"):=by decide +kernel
 have b1:=aX.up (a:=C) (aX.up (a:=D) FB.hasBase)
 have ha:=F.args_bexc_ga (.ref x) u
 simp only [checkBuiltinCall,e1,e2]
 refine γ ?_
 unfold isInstance
 repeat (first
  | (with_reducible refine Ξ hx ?_; rw [hc])
  | (with_reducible refine ϳ hC ?_; rw [b1])
  | wp_step)
 exact hq
theorem sv {Q:Fin->ζ->Prop} (hC:h.get? C=some (excClassObj nm q C N bs (.ref D :: bmB) true sn sub ab col dd k0 k1 k2 k3 k5 newId)) (hl:bF P w h C name none) (hx:h.get? x=some { cls:=.ref C,dict:=some dx,data:=.fields ws,slots:=sl }) (hn:h.Ns1 dx mA) (hv:mA name=some v) (hq:Q (.done (.ret v)) ⟨h,g,d,t,os⟩) :
  wpAny (model P w) A (Ϡ.«object.__getattribute__» ⟨[.ref x,.str name tk],[]⟩) Q E ⟨h,g,d,t,os⟩:=by
 unfold Ϡ.«object.__getattribute__»
 repeat (first | with_reducible refine Ξ hx ?_ | wp_step)
 show wpAny _ _ (typeLookup (.ref C) name) _ _ _
 refine hl (λ_ _ z=>z) ?_
 repeat (first | (with_reducible refine wpAny_nsGet hn.ns ?_; rw [hv]) | with_reducible refine Ξ hx ?_ | with_reducible refine Ξ hC ?_ | wp_step)
 exact hq
theorem yK (FB:EH B bmB) {expr:Bool} {Q:δ->ζ->Prop} (hC:h.get? C=some (excClassObj nm q C N bs (.ref D :: bmB) true sn sub ab col dd k0 k1 k2 k3 k5 newId)) (hg:bF P w h C "__getattribute__" (some (.builtin "BaseException.__getattribute__"))) (hh:bF P w h C "__getattr__" none) (hl:bF P w h C name none)
  (hx:h.get? x=some { cls:=.ref C,dict:=some dx,data:=.fields ws,slots:=sl }) (hn:h.Ns1 dx mA) (hv:mA name=some v) (ho:handedOut v=pure v) (hq:Q v ⟨h,g,d,t + 1,os⟩) :
  wpAny (model P w) A (getAttr (.ref x) name expr) Q E ⟨h,g,d,t,os⟩:=by
 have f3:=FB.ga.bind (.ref x)
 have z0:(expr && onTheHeap (y7 "BaseException.__getattribute__"))=false:=by cases expr <;> rfl
 have z2:(y7 "BaseException.__getattribute__" == y7 "object.__getattribute__")=false:=by decide +kernel
 have z1:(onTheHeap (Η C) && y7 "BaseException.__getattribute__" == y7 "object.__getattribute__")=false:=by rw [z2]; rfl
 unfold getAttr getAttrBy
 repeat (any_goals (first | assumption | with_reducible refine Ξ hx ?_ | wp_step))
 show wpAny _ _ (typeLookup (.ref C) _) _ _ _
 refine hg (λ_ _ z=>z) ?_
 dsimp only
 rw [z1]
 repeat (any_goals (first | assumption | with_reducible refine Ξ hx ?_ | wp_step))
 refine hh (λ_ _ z=>z) ?_
 repeat (any_goals (first | assumption | wp_step))
 refine n5 FB.ga.plain F.entry_bexc_ga (fM FB hC hx rfl (sv hC hl hx hn hv ?_))
 repeat (any_goals (first | assumption | (rw [ho]) | wp_step))
end
open PySem PySem.Spec PyProof.Rows PySem.W
structure Mv (fs ex:List Addr) (h h':Heap):Prop where
 keep:∀ b o,b∉fs->b∉ex->h.get? b=some o->h'.get? b=some o
 slot:∀ b o,b∉ex->h.get? b=some o->∃ sl,h'.get? b=some { o with slots:=sl }
theorem Mv.trans {fs ex:List Addr} {h h1 h2:Heap} (a:Mv fs ex h h1) (b:Mv fs ex h1 h2):Mv fs ex h h2:=
 ⟨λc o n1 n2 e=>b.keep c o n1 n2 (a.keep c o n1 n2 e),λc o n e=>by
  obtain ⟨sl,e1⟩:=a.slot c o n e
  obtain ⟨sl',e2⟩:=b.slot c _ n e1
  exact ⟨sl',e2⟩⟩
theorem Mv.mono {fs fs' ex ex':List Addr} {h h':Heap} (a:Mv fs ex h h') (s1:∀ b∈fs,b∈fs') (s2:∀ b∈ex,b∈ex'):Mv fs' ex' h h':=
 ⟨λc o n1 n2 e=>a.keep c o (λz=>n1 (s1 c z)) (λz=>n2 (s2 c z)) e,λc o n e=>a.slot c o (λz=>n (s2 c z)) e⟩
theorem Mv.hok {P:Β} {w:Ν} {fs ex:List Addr} {H:Hp} {h h':Heap} (m:Mv fs ex h h') (x:HOk P w H h) (hf:∀ b∈fs,H b=none) (hx:∀ b∈ex,H b=none):HOk P w H h':=λa o e=>
 (x a o e).stay (λb u hb q=>m.keep b u (λz=>by
   have:=hf b z
   rcases hb with rfl | hb
   ·rw [e] at this; cases this
   ·rw [hb] at this; cases this) (λz=>by
   have:=hx b z
   rcases hb with rfl | hb
   ·rw [e] at this; cases this
   ·rw [hb] at this; cases this) q) (λ_ q=>q) λ_ _ q=>q
theorem Mv.un {fs fs' ex ex':List Addr} {H H':Hp} {h h1 h2:Heap} (m:Mv fs' ex' h1 h2) (u:Un fs ex H H' h h1) (hf:∀ b∈fs',b∈fs\/h.get? b=none) (hx:∀ b∈ex',h.get? b=none):Un fs ex H H' h h2 where
 keep:=λb o q n h1' h2'=>m.keep b o (λz=>(hf b z).elim h1' λy=>by rw [q] at y; cases y) (λz=>by have y:=hx b z; rw [q] at y; cases y) (u.keep b o q n h1' h2')
 slot:=λb o q n h1' h2'=>by
  obtain ⟨sl,e⟩:=u.slot b o q n h1' h2'
  obtain ⟨sl',e2⟩:=m.slot b _ (λz=>by have y:=hx b z; rw [q] at y; cases y) e
  exact ⟨sl',e2⟩
 free:=u.free
 there:=λb o q n=>by
  obtain ⟨o',e⟩:=u.there b o q n
  obtain ⟨sl,e2⟩:=m.slot b o' (λz=>by have y:=hx b z; rw [q] at y; cases y) e
  exact ⟨_,e2⟩
 tups:=u.tups
 frzs:=u.frzs
 tbls:=u.tbls
structure Exo (h:Heap) (e T:Addr) (cls:δ) (dx:Option Addr) (fl:δ):Prop where
 obj:∃ oe vs,h.get? e=some oe/\oe.cls=cls/\oe.dict=dx/\oe.data=.fields vs/\vs[1]?=some (.ref T)/\vs[2]?=some .none
 tb:∃ oT ts,h.get? T=some oT/\oT.data=.fields ts/\ts[3]?=some fl
 ne:T≠e
def Exn (h:Heap) (e:Addr) (cls:δ) (dx:Option Addr):Prop:=∃ oe vs,h.get? e=some oe/\oe.cls=cls/\oe.dict=dx/\oe.data=.fields vs/\vs[1]?=some .none/\vs[2]?=some .none
section
variable {M:Fa} {A:Χ} {E:δ->ζ->Prop} {s:ζ} {base:Heap} {env:Env} {outer:List Env} {L e T:Addr} {cls:δ} {dx:Option Addr}
theorem lQ {oe:Obj} {vs:Array δ} {head:δ} {hadNext:Bool} {Q:Unit->ζ->Prop} (hfr:A.frames=some (env :: outer)) (hl:s.heap.FunFrames base (env :: outer)) (hf:env.frame=some L)
  (he:s.heap.get? e=some oe) (hc:oe.cls=cls) (hdx:oe.dict=dx) (hd:oe.data=.fields vs) (hsz:1 < vs.size) (h2:vs[2]?=some .none)
  (h:∀ h' T,s.heap.objs.size<=T->Mv (frs (env :: outer)) [e] s.heap h'->Exo h' e T cls dx (rawInt L)->Q () { s with heap:=h' }) :
  wpAny M A (do let a <- frameOf env; let pl <- entryPlaceOf L hadNext; let b <- EntryCells.newEntry head a .none (rawInt L) .none pl; setField (.ref e) 1 b) Q E s:=by
 have hene:e∉frs (env :: outer):=λhm=>by
  obtain ⟨_,o,ho,hnf⟩:=hl.mem hm
  rw [he] at ho; cases ho; exact hnf vs hd
 refine γ (wpAny_frameOf_fun hfr hl hf λh₁ hs=>γ (wpAny_entryPlaceOf λpl hpl=>?_))
 unfold EntryCells.newEntry newFields
 refine γ (Ϗ ?_ (hpl.sizeOk5 _ _ _ _ _))
 have e1:h₁.get? e=some oe:=(hs.2.1 e hene).trans he
 generalize ho:({ cls:=.type "traceback",dict:=none,data:=.fields ([head,.ref L,.none,rawInt L,.none] ++ (if pl.isEmpty then Α 6 Ϫ else pl)).toArray }:Obj)=oT
 have e2:=η (h:=h₁) oT e1
 have nT:h₁.objs.size≠e:=j7 (χ e1)
 have d3:=Ca hd (·.setIfInBounds 1 (Η h₁.objs.size))
 refine A2 e2 hd hsz (h _ h₁.objs.size (by rw [hs.1]; exact π _) ⟨λb o n1 n2 z=>?_,λb o n z=>?_⟩ ⟨⟨_,_,Ϛ _ e2 (Dj d3),by rw [Obj.cls_mapFields]; exact hc,?_,d3,by simp [hsz],by rw [Array.getElem?_setIfInBounds_ne ∅]; exact h2⟩,⟨oT,_,?_,by rw [<- ho],?_⟩,nT⟩)
 ·rw [ύ _ _ (λq=>n2 (by rw [<- q]; simp))]
  exact η _ ((hs.2.1 b n1).trans z)
 ·obtain ⟨sl,q⟩:=hs.2.2 b o z
  refine ⟨sl,?_⟩
  rw [ύ _ _ (λq=>n (by rw [<- q]; simp))]
  exact η _ q
 ·rw [<- hdx]; obtain ⟨c1,c2,c3,c4⟩:=oe; cases c3 <;> rfl
 ·rw [ύ _ _ (ώ nT)]
  exact τ _ (by rw [<- ho]; rfl)
 ·first | (simp; done) | (rcases hpl with rfl | ⟨_,_,_,_,_,_,_,rfl⟩ <;> simp)
theorem oJ {Q:Unit->ζ->Prop} (hfr:A.frames=some (env :: outer)) (hl:s.heap.FunFrames base (env :: outer)) (hf:env.frame=some L) (x:Exn s.heap e cls dx)
  (h:∀ h' T,s.heap.objs.size<=T->Mv (frs (env :: outer)) [e] s.heap h'->Exo h' e T cls dx (rawInt L)->Q () { s with heap:=h' }):wpAny M A (noteFrame (.ref e) env) Q E s:=by
 obtain ⟨oe,vs,he,hc,hdx,hd,h1,h2⟩:=x
 unfold noteFrame
 simp only [hf]
 refine γ (ϱ he hd h1 ?_)
 rw [if_neg ∅]
 exact lQ hfr hl hf he hc hdx hd (A4.mp h1).1 h2 h
theorem jz {Q:Unit->ζ->Prop} (hfr:A.frames=some (env :: outer)) (hl:s.heap.FunFrames base (env :: outer)) (hf:env.frame=some L) (x:Exo s.heap e T cls dx .none)
  (h:∀ h' T',s.heap.objs.size<=T'->Mv (frs (env :: outer)) [e,T] s.heap h'->Exo h' e T' cls dx (rawInt L)->Q () { s with heap:=h' }):wpAny M A (noteFrame (.ref e) env) Q E s:=by
 obtain ⟨⟨oe,vs,he,hc,hdx,hd,h1,h2⟩,⟨oT,ts,hT,hdT,h3⟩,ne⟩:=x
 unfold noteFrame
 simp only [hf]
 refine γ (ϱ he hd h1 ?_)
 rw [if_pos ∅]
 refine γ (ϱ hT hdT h3 ?_)
 rw [if_neg (by simp [rawInt])]
 refine γ (A2 hT hdT (A4.mp h3).1 ?_)
 have ot:∀ b,b≠T->(s.heap.update T (DB (·.setIfInBounds 3 Ϫ))).get? b=s.heap.get? b:=λb hb=>ύ _ _ (ώ hb)
 have m1:Mv (frs (env :: outer)) [e,T] s.heap (s.heap.update T (DB (·.setIfInBounds 3 Ϫ))):=⟨λb o _ n z=>(ot b λq=>n (by rw [q]; simp)).trans z,λb o n z=>⟨o.slots,(ot b λq=>n (by rw [q]; simp)).trans z⟩⟩
 refine lQ hfr (hl.of_keeps λb o hb hnf=>⟨o,(ot b λq=>?_).trans hb,rfl⟩) hf ((ot e (ώ ne)).trans he) hc hdx hd (A4.mp h1).1 h2 λh' T' l m x=>h h' T' (by have e:=l; simpa using e) (m1.trans (m.mono (λ_ z=>z) λb z=>ν.mpr (.inl (θ.mp z)))) x
 rw [q,hT] at hb; cases hb; exact hnf ts hdT
theorem dR {fl:δ} {Q:Unit->ζ->Prop} (x:Exo s.heap e T cls dx fl) (h:∀ h',Mv [] [T] s.heap h'->Exo h' e T cls dx .none->Q () { s with heap:=h' }):wpAny M A (setFlight (.ref e) none) Q E s:=by
 obtain ⟨⟨oe,vs,he,hc,hdx,hd,h1,h2⟩,⟨oT,ts,hT,hdT,h3⟩,ne⟩:=x
 have z3:=(A4.mp h3).1
 have ot:∀ b,b≠T->(s.heap.update T (DB (·.setIfInBounds 3 Ϫ))).get? b=s.heap.get? b:=λb hb=>ύ _ _ (ώ hb)
 refine wpAny_setFlight_none he hd h1 hT hdT z3 (h _ ⟨λb o _ n z=>(ot b λq=>n (by rw [q]; simp)).trans z,λb o n z=>⟨o.slots,(ot b λq=>n (by rw [q]; simp)).trans z⟩⟩ ?_)
 exact ⟨⟨oe,vs,(ot e (ώ ne)).trans he,hc,hdx,hd,h1,h2⟩,⟨_,_,Ϛ _ hT (Dj (Ca hdT _)),Ca hdT _,by simp [z3]⟩,ne⟩
theorem mO {Q:Unit->ζ->Prop} (hfr:A.frames=some (env :: outer)) (hl:s.heap.FunFrames base (env :: outer)) (hf:env.frame=some L) (x:Exn s.heap e cls dx)
  (h:∀ h' T,s.heap.objs.size<=T->Mv (frs (env :: outer)) [e,T] s.heap h'->Exo h' e T cls dx .none->Q () { s with heap:=h' }):wpAny M A (leaving env (.ref e)) Q E s:=by
 unfold leaving
 refine γ (oJ hfr hl hf x λh1 T l m1 x1=>dR x1 λh2 m2 x2=>h h2 T l ((m1.mono (λ_ z=>z) λb z=>ν.mpr (.inl (θ.mp z))).trans (m2.mono (λ_ z=>absurd z ∅) λb z=>ρ _ z)) x2)
theorem oQ {Q:Unit->ζ->Prop} (hfr:A.frames=some (env :: outer)) (hl:s.heap.FunFrames base (env :: outer)) (hf:env.frame=some L) (x:Exo s.heap e T cls dx .none)
  (h:∀ h' T',s.heap.objs.size<=T'->Mv (frs (env :: outer)) [e,T,T'] s.heap h'->Exo h' e T' cls dx .none->Q () { s with heap:=h' }):wpAny M A (leaving env (.ref e)) Q E s:=by
 unfold leaving
 refine γ (jz hfr hl hf x λh1 T' l m1 x1=>dR x1 λh2 m2 x2=>h h2 T' l ((m1.mono (λ_ z=>z) λb z=>?_).trans (m2.mono (λ_ z=>absurd z ∅) λb z=>?_)) x2)
 ·rcases ν.mp z with z | z
  ·exact ν.mpr (.inl z)
  ·exact ρ _ (ν.mpr (.inl (θ.mp z)))
 ·exact ρ _ (ρ _ z)
end
open PySem PySem.Spec PyProof.Rows PySem.W
section
variable {P:Β} {w:Ν} {A:Χ} {E:δ->ζ->Prop} {h:Heap} {g:Array Cq} {d:DY} {t:Nat} {os:EZ}
variable {nm q:Str} {C D N e:Addr} {bs bmB:List δ} {sn:List Str} {sub:List δ} {ab:Bool} {col:Option Bool} {dd:Option Addr} {k0 k1 k2 k3 k5:Option δ} {B newId:String} {oe:Obj}
theorem wW:(".".intercalate ("object.__class__".cutAt '.').dropLast)="object":=by decide +kernel
theorem zc {R:Ea->ζ->Prop} (hC:h.get? C=some (excClassObj nm q C N bs (.ref D :: bmB) true sn sub ab col dd k0 k1 k2 k3 k5 newId)) (he:h.get? e=some oe) (hc:oe.cls=.ref C) (hO:bmB.contains (.type "object")=true) (hq:R (.ok (.ret (.ref C))) ⟨h,g,d,t,os⟩) :
  codeAny (model P w) A (.call (.builtin "getset_descriptor.__get__") ⟨[.builtin "object.__class__",.ref e,.ref C],[]⟩) R ⟨h,g,d,t,os⟩:=by
 have b1:=aX.up (a:=C) (aX.up (a:=D) hO)
 have y5:(⟨h,g,d,t,os⟩:ζ).TypeIs (.builtin "object.__class__") "getset_descriptor":=Dk
 have o1:=wW
 refine n5 F.slot_gs_get.plain F.entry_gs_get (F.slot_gs_get.check _ _ _ _ _ _ _ _ y5 (F.args_gs_get _ _ _) ?_)
 repeat (any_goals (first | assumption | (with_reducible refine Ξ he ?_; rw [hc]) | (rw [o1]; with_reducible refine ϳ hC ?_; rw [b1]) | wp_step))
 refine ⟨z_ _ ∅,c9 F.entry_object_class ?_⟩
 repeat (any_goals (first | assumption | (with_reducible refine Ξ he ?_; rw [hc]) | wp_step))
variable {tk:Tok}
theorem uW {Q:Fin->ζ->Prop} (hC:h.get? C=some (excClassObj nm q C N bs (.ref D :: bmB) true sn sub ab col dd k0 k1 k2 k3 k5 newId)) (he:h.get? e=some oe) (hc:oe.cls=.ref C) (hO:bmB.contains (.type "object")=true) (hl:bF P w h C "__class__" (some (.builtin "object.__class__"))) (hq:Q (.done (.ret (.ref C))) ⟨h,g,d,t,os⟩) :
  wpAny (model P w) A (Ϡ.«object.__getattribute__» ⟨[.ref e,.str "__class__" tk],[]⟩) Q E ⟨h,g,d,t,os⟩:=by
 have y5:(⟨h,g,d,t,os⟩:ζ).TypeIs (.builtin "object.__class__") "getset_descriptor":=Dk
 have f5:=Dk
 have f6:=F.slot_gs_get.lookup
 have f7:=F.slot_gs_set.lookup
 unfold Ϡ.«object.__getattribute__»
 repeat (first | (with_reducible refine Ξ he ?_; rw [hc]) | wp_step)
 refine hl (λ_ _ z=>z) ?_
 repeat (any_goals (first | assumption | (with_reducible refine Ξ he ?_; rw [hc]) | wp_step))
 refine zc hC he hc hO ?_
 repeat (any_goals (first | assumption | wp_step))
theorem Aq {Q:δ->ζ->Prop} (FB:EH B bmB) (hC:h.get? C=some (excClassObj nm q C N bs (.ref D :: bmB) true sn sub ab col dd k0 k1 k2 k3 k5 newId)) (he:h.get? e=some oe) (hc:oe.cls=.ref C) (hO:bmB.contains (.type "object")=true) (hl:bF P w h C "__class__" (some (.builtin "object.__class__")))
  (hg:bF P w h C "__getattribute__" (some (.builtin "BaseException.__getattribute__"))) (hh:bF P w h C "__getattr__" none) (hq:Q (.ref C) ⟨h,g,d,t,os⟩) :
  wpAny (model P w) A (getAttrBy (.ref e) (.str "__class__" tk) false) Q E ⟨h,g,d,t,os⟩:=by
 have f3:=FB.ga.bind (.ref e)
 have z2:(y7 "BaseException.__getattribute__" == y7 "object.__getattribute__")=false:=by decide +kernel
 have z1:(onTheHeap (Η C) && y7 "BaseException.__getattribute__" == y7 "object.__getattribute__")=false:=by rw [z2]; rfl
 unfold getAttrBy
 repeat (any_goals (first | assumption | (with_reducible refine Ξ he ?_; rw [hc]) | wp_step))
 refine hg (λ_ _ z=>z) ?_
 dsimp only
 rw [z1]
 repeat (any_goals (first | assumption | (with_reducible refine Ξ he ?_; rw [hc]) | wp_step))
 refine hh (λ_ _ z=>z) ?_
 repeat (any_goals (first | assumption | wp_step))
 refine n5 FB.ga.plain F.entry_bexc_ga (fM FB hC he hc (uW hC he hc hO hl ?_))
 repeat (any_goals (first | assumption | wp_step))
theorem wI {Q:Option δ->ζ->Prop} (FB:EH B bmB) (hC:h.get? C=some (excClassObj nm q C N bs (.ref D :: bmB) true sn sub ab col dd k0 k1 k2 k3 k5 newId)) (he:h.get? e=some oe) (hc:oe.cls=.ref C) (hO:bmB.contains (.type "object")=true) (hl:bF P w h C "__class__" (some (.builtin "object.__class__")))
  (hg:bF P w h C "__getattribute__" (some (.builtin "BaseException.__getattribute__"))) (hh:bF P w h C "__getattr__" none) (hq:Q (some (.ref C)) ⟨h,g,d,t + 1,os⟩) :
  wpAny (model P w) A (getAttr? (.ref e) "__class__") Q E ⟨h,g,d,t,os⟩:=by
 unfold getAttr? getAttrBy?
 repeat (any_goals (first | assumption | with_reducible apply Aq FB hC he hc hO hl hg hh | wp_step))
theorem ox {M:Fa} (he:h.get? e=some oe) (hc:oe.cls=.ref C):E8 M h (typeOf (.ref e)) (.ref C):=λA Q E s k q=>by
 unfold typeOf
 exact γ (Fj (k _ _ he) (μ (by show Q oe.cls s; rw [hc]; exact q)))
theorem ye {M:Fa} {c:δ} {b:Bool} (hC:h.get? C=some (excClassObj nm q C N bs (.ref D :: bmB) true sn sub ab col dd k0 k1 k2 k3 k5 newId)) (hn:(Η C :: .ref D :: bmB).contains c=b):E8 M h (isSubtype (.ref C) c) b:=λA Q E s k q=>by
 obtain ⟨h',g',d',t',os'⟩:=s
 exact ϳ (k _ _ hC) (by rw [hn]; exact q)
theorem ya {M:Fa} (hC:h.get? C=some (excClassObj nm q C N bs (.ref D :: bmB) true sn sub ab col dd k0 k1 k2 k3 k5 newId)):E8 M h (isType (.ref C)) true:=λA Q E s k q=>by
 unfold isType loadHead
 exact γ (Fj (k _ _ hC) (μ q))
theorem wB {c:δ} {Q:δ->ζ->Prop} (FB:EH B bmB) (hC:h.get? C=some (excClassObj nm q C N bs (.ref D :: bmB) true sn sub ab col dd k0 k1 k2 k3 k5 newId)) (he:h.get? e=some oe) (hc:oe.cls=.ref C) (hO:bmB.contains (.type "object")=true) (hl:bF P w h C "__class__" (some (.builtin "object.__class__")))
  (hg:bF P w h C "__getattribute__" (some (.builtin "BaseException.__getattribute__"))) (hh:bF P w h C "__getattr__" none) (hne:(Η C == c)=false) (hn:(Η C :: .ref D :: bmB).contains c=false) (hty:E8 (model P w) h (typeOf c) (.type "type")) (his:E8 (model P w) h (isType c) true)
  (hq:Q (.bool false) ⟨h,g,d,t + 1,os⟩):wpAny (model P w) A (call (.builtin "isinstance") [.ref e,c]) Q E ⟨h,g,d,t,os⟩:=by
 have L0:=ox (M:=model P w) he hc
 have L1:=ye (M:=model P w) hC hn
 have L2:E8 (model P w) h (isInstance (.ref e) c) false:=L0.andThen L1
 refine Es ?_ (by intro z; cases z)
 unfold Ϡ.«isinstance.nested»
 refine γ (L0.at ?_)
 rw [if_neg (λz=>by rw [hne] at z; cases z)]
 refine γ (hty.at ?_)
 rw [if_pos (beq_self_eq_true _)]
 k_delta "plainIsInstance"
 refine γ (γ (his.at ?_))
 rw [if_neg ∅]
 refine γ (L2.at ?_)
 rw [if_neg ∅]
 refine γ (wI FB hC he hc hO hl hg hh (γ ((ya hC).at ?_)))
 rw [if_neg ∅]
 refine γ (w_ (L1.at ?_))
 first | exact μ hq | exact μ (μ hq) | exact γ (μ (μ hq))
theorem uO {Q:δ->ζ->Prop} (he:h.get? e=some oe) (hc:oe.cls=.ref C) (hq:Q (.bool true) ⟨h,g,d,t,os⟩):wpAny (model P w) A (call (.builtin "isinstance") [.ref e,.ref C]) Q E ⟨h,g,d,t,os⟩:=by
 refine Es ?_ (by intro z; cases z)
 unfold Ϡ.«isinstance.nested»
 refine γ ((ox (M:=model P w) he hc).at ?_)
 rw [if_pos (beq_self_eq_true _)]
 repeat (first | refine μ ?_ | refine w_ ?_ | refine γ ?_)
 exact hq
theorem rS {c:δ} {Q:δ->ζ->Prop} (hC:h.get? C=some (excClassObj nm q C N bs (.ref D :: bmB) true sn sub ab col dd k0 k1 k2 k3 k5 newId)) (he:h.get? e=some oe) (hc:oe.cls=.ref C) (hne:(Η C == c)=false) (hn:(Η C :: .ref D :: bmB).contains c=true) (hty:E8 (model P w) h (typeOf c) (.type "type")) (his:E8 (model P w) h (isType c) true)
  (hq:Q (.bool true) ⟨h,g,d,t,os⟩):wpAny (model P w) A (call (.builtin "isinstance") [.ref e,c]) Q E ⟨h,g,d,t,os⟩:=by
 have L0:=ox (M:=model P w) he hc
 have L2:E8 (model P w) h (isInstance (.ref e) c) true:=L0.andThen (ye (M:=model P w) hC hn)
 refine Es ?_ (by intro z; cases z)
 unfold Ϡ.«isinstance.nested»
 refine γ (L0.at ?_)
 rw [if_neg (λz=>by rw [hne] at z; cases z)]
 refine γ (hty.at ?_)
 rw [if_pos (beq_self_eq_true _)]
 k_delta "plainIsInstance"
 refine γ (γ (his.at ?_))
 rw [if_neg ∅]
 refine γ (L2.at ?_)
 rw [if_pos rfl]
 first | exact μ hq | exact μ (μ hq) | exact γ (μ (μ hq))
end
open PySem PySem.Spec PyProof.Rows PySem.W
abbrev veM:List δ:=[.type "ValueError",.type "Exception",.type "BaseException",.type "object"]
structure cx (K:Frag) (D fI C:Addr):Prop where
 obj:∃ nm q N bs sn sub ab col dd k0 k1 k2 k3 k5,K.lookup C=some (excClassObj nm q C N bs (.ref D :: veM) true sn sub ab col dd k0 k1 k2 k3 k5 "ValueError.__new__")
 init:findIn K (.ref C) "__init__"=some (some (.ref fI))
 fn:typeIn K (.ref fI)=some (.type "function")
 sa:findIn K (.ref C) "__setattr__"=some (some (.builtin "object.__setattr__"))
 pl:findIn K (.ref C) "place"=some none
 ga:findIn K (.ref C) "__getattribute__"=some (some (.builtin "BaseException.__getattribute__"))
 gh:findIn K (.ref C) "__getattr__"=some none
 cl:findIn K (.ref C) "__class__"=some (some (.builtin "object.__class__"))
 kp:keepIn K (.ref C)=true
 ne:C≠D
structure AV (K:Frag) (D:Addr):Prop where
 obj:∃ nm q N bs sn sub ab col dd k0 k1 k2 k3 k5,K.lookup D=some (excClassObj nm q D N bs veM true sn sub ab col dd k0 k1 k2 k3 k5 "ValueError.__new__")
theorem ug (D:Addr):aX "ValueError" (.ref D :: veM):=⟨aX.up ∅,aX.up ∅,aX.up ∅⟩
def Xr (C t a:Addr):HO:=.ext λh=>h.get? a=some (eS C t)
def Xo (C t dx a:Addr):HO:=.ext λh=>h.get? a=some { eS C t with dict:=some dx }
section
variable {X:Cx} {pins:List (Addr×Obj)} {σ:St} {H:Hp} {s:ζ} {C D fI t dx a:Addr}
theorem fV {K:Frag} {P:Β} {w:Ν} {h:Heap} {x:Str} {y:Option δ} (k:K.In h) (e:findIn K (.ref C) x=some y):bF P w h C x y:=λ{A E Q s} kk q=>looks_findIn k e A Q E s kk q
theorem Xr.at_ (I:Inv X pins σ H s) (e:H a=some (Xr C t a)):s.heap.get? a=some (eS C t):=(I.hok a _ e).1
theorem Xo.at_ (I:Inv X pins σ H s) (e:H a=some (Xo C t dx a)):s.heap.get? a=some { eS C t with dict:=some dx }:=(I.hok a _ e).1
theorem yj {P:Β} {w:Ν} {H:Hp} {h:Heap} (e:h.get? a=some (eS C t)):aI P w H h a (Xr C t a):=⟨e,⟨_,e⟩,λ_ _ p k=>k _ p⟩
theorem AS {P:Β} {w:Ν} {H:Hp} {h:Heap} (e:h.get? a=some { eS C t with dict:=some dx }):aI P w H h a (Xo C t dx a):=⟨e,⟨_,e⟩,λ_ _ p k=>k _ p⟩
theorem xN {us:List δ} (I:Inv X pins σ H s):Inv X pins σ (upd H (s.heap.objs.size + 1) (Xr C s.heap.objs.size (s.heap.objs.size + 1))) { s with heap:=(s.heap.push (jG us)).push (eS C s.heap.objs.size) }:=
 I.laid (t':=s.toks) (λb u q=>η _ (η _ q)) (t_ _) (yj (Heap.get?_push_at (by simp only [Ϩ]) rfl))
variable {k:Nat} {fd:Μ} {ps:List Str} {sp:Sp} {Q:VK} {us:List δ} {vs:List V}
theorem xI {R:Addr->Hp->Prop} {QQ:δ->ζ->Prop} (c:cx X.K D fI C) (FI:aF X.prog X.w X.K X.mg X.base CX0 k fI fd ps sp) (hr:bz (k + 1) X.A) (hb:bx X.K fd ps []) (I:Inv X pins σ H s) (r:ar vs us) (hz:vs.length<=sizeLine)
  (h:∀ e t,H e=none->sp (.ref e :: vs) (upd H e (Xr C t e)) (λv H2=>v=.non/\R e H2) E0) (hq:∀ e s' H2,X.s₀.heap.objs.size<=e->H e=none->Inv X pins σ H2 s'->R e H2->QQ (.ref e) s') :
  wpAny (model X.prog X.w) X.A (call (.ref C) us) QQ X.xe s:=by
 obtain ⟨nm,q,N,bs,sn,sub,ab,col,dd,k0,k1,k2,k3,k5,lk⟩:=c.obj
 obtain ⟨oI,lI,cI⟩:=k4.mp (show (X.K.lookup fI).map (·.cls)=_ from c.fn)
 have KX:=I.kIn
 have I2:=xN (C:=C) (us:=us) I
 have fr:H (s.heap.objs.size + 1)=none:=I.hok.fresh (t_ _)
 have hs:=h (s.heap.objs.size + 1) s.heap.objs.size fr
 have r2:ar (V.ref (s.heap.objs.size + 1) :: vs) (Η (s.heap.objs.size + 1) :: us):=.cons rfl r
 have hl:(Η (s.heap.objs.size + 1) :: us ++ []).length=ps.length:=by
  rw [m5,<- r2.length]; exact FI.len _ _ _ _ hs
 obtain ⟨hh,g,d,tk,os⟩:=s
 refine wU F.excBase_ValueError (ug D) (KX _ _ lk) (by rw [<- r.length]; exact hz) (KX _ _ lI) cI (fV KX c.init) ?_
 refine Do (x9 (FI.run _ X.stack _ _ ⟨Η (hh.objs.size + 1) :: us,[]⟩ (Η (hh.objs.size + 1) :: us ++ []) _ _ E0 (hr.make C us []) (I2.env0.make C us []) (hb _ (Η (hh.objs.size + 1) :: us) I2.kIn hl) (by rw [m5]; exact r2) hs) λz s' hq'=>?_)
 cases z with
 | error e=>exact k8 hq'
 | ok fl=>
  cases fl with
  | ret u=>
   obtain ⟨v,H',I3,rv,ev,q3⟩:=I2.after hq'
   subst ev
   exact ⟨rv,hq _ s' H' (ϟ I.sz (t_ _)) fr I3 q3⟩
  | next=>exact k8 hq'
  | brk=>exact k8 hq'
  | cont=>exact k8 hq'
end
open PySem PySem.Spec PyProof.Rows PySem.W
def CXe (P:Β) (w:Ν):CXT:=λouter H s E ev s'=>∃ e T C dx H',ev=.ref e/\s'.os=s.os/\DS s'.gens/\Un (frs outer) [] H H' s.heap s'.heap/\HOk P w H' s'.heap /\
 Exo s'.heap e T (.ref C) (some dx) .none/\s.heap.get? e=none/\s.heap.get? T=none/\H' e=none/\H' T=none/\E (.ref C) (some dx) H'
def vX (X:Cx) (E:XK):Prop:=∀ (pins:List (Addr×Obj)) (σ:St) (H:Hp) (s:ζ) (e C t dx:Addr),Inv X pins σ H s->H e=some (Xo C t dx e)->X.s₀.heap.objs.size<=e->E (.ref C) (some dx) (λb=>if b=e then none else H b)->X.xe (.ref e) s
theorem xt {fs ex:List Addr} {H0 H:Hp} {h0 h:Heap} {e:Addr} {φ:Heap->Prop} (u:Un fs ex H0 H h0 h) (he:H e=some (.ext φ)) (hn:h0.get? e=none):Un fs ex H0 (λb=>if b=e then none else H b) h0 h where
 keep:=u.keep
 slot:=u.slot
 free:=λb o q n x=>by
  show (if b=e then none else H b)=none
  split
  ·rfl
  ·exact u.free b o q n x
 there:=u.there
 tups:=λb xs q=>by
  have z:=u.tups b xs q
  show (if b=e then none else H b)=_
  rw [if_neg (λy=>by rw [y,he] at z; cases z)]; exact z
 frzs:=λb o v q=>by
  have z:=u.frzs b o v q
  show (if b=e then none else H b)=_
  rw [if_neg (λy=>by rw [y,he] at z; cases z)]; exact z
 tbls:=λb ps q=>by
  obtain ⟨m,z⟩:=u.tbls b ps q
  refine ⟨m,?_⟩
  show (if b=e then none else H b)=_
  rw [if_neg (λy=>by rw [y,he] at z; cases z)]; exact z
theorem wk {P:Β} {w:Ν} {H:Hp} {h:Heap} {e:Addr} {φ:Heap->Prop} (x:HOk P w H h) (he:H e=some (.ext φ)):HOk P w (λb=>if b=e then none else H b) h:=λa o q=>by
 have q':H a=some o:=by
  by_cases z:a=e
  ·simp only [z,if_true] at q; cases q
  ·simpa only [z,if_false] using q
 refine (x a o q').stay (λ_ _ _ z=>z) (λb z=>?_) λb xs z=>?_
 ·show (if b=e then none else H b)=_
  rw [if_neg (λy=>by rw [y,he] at z; cases z)]; exact z
 ·show (if b=e then none else H b)=_
  rw [if_neg (λy=>by rw [y,he] at z; cases z)]; exact z
section
variable {P:Β} {w:Ν} {K:Frag} {mg:Str->Option δ} {base:Heap} {N:List Str} {qual:Str} {scope:C1} {f:Addr} {cd:δ} {A:Χ} {outer:List Env} {s0:ζ} {H0:Hp} {E:XK}
theorem dP:vX (cM (CXe P w) P w K mg base N qual scope f cd A outer s0 H0 E) E:=by
 intro pins σ H s e C t dx I he hz hE
 have ho:=Xo.at_ I he
 have nw:s0.heap.get? e=none:=Ϲ hz
 refine mO (cls:=.ref C) (dx:=some dx) (base:=base) (L:=s0.heap.objs.size) I.ok.frames I.stack rfl ⟨_,_,ho,rfl,rfl,rfl,rfl,rfl⟩ λh' T lT m x=>?_
 have hf:∀ b∈frs (cM (CXe P w) P w K mg base N qual scope f cd A outer s0 H0 E).stack,(λb=>if b=e then none else H b) b=none:=λb hb=>by
  show (if b=e then none else H b)=none
  rw [I.stkFree b hb]; split <;> rfl
 have hx:∀ b∈[e,T],(λb=>if b=e then none else H b) b=none:=λb hb=>by
  show (if b=e then none else H b)=none
  split
  ·rfl
  ·rcases ν.mp hb with z | z
   ·contradiction
   ·rw [θ.mp z]; exact I.hok.fresh lT
 refine ⟨e,T,C,dx,_,rfl,I.os,I.bare,m.un (xt I.base he nw) (λb hb=>?_) (λb hb=>?_),m.hok (wk I.hok he) hf hx,x,nw,?_,hx e ∅,hx T ∅,hE⟩
 ·rcases ν.mp (I.stkSub b hb) with z | z
  ·exact .inr (by rw [z]; exact Ϲ (π _))
  ·exact .inl z
 ·rcases ν.mp hb with z | z
  ·rw [z]; exact nw
  ·rw [θ.mp z]; exact Ϲ (ϟ I.sz lT)
 ·exact Ϲ (ϟ I.sz lT)
theorem xF:lD (CXe P w) (cM (CXe P w) P w K mg base N qual scope f cd A outer s0 H0 E) E:=by
 intro pins σ H s ev s' I hx
 obtain ⟨e,T,C,dx,H',rfl,os,bare,un,hok,xo,ne,nT,ue,uT,q⟩:=hx
 have I':Inv (cM (CXe P w) P w K mg base N qual scope f cd A outer s0 H0 E) pins σ H' s':=I.call' (ch:=[]) os un hok bare λb z=>absurd z ∅
 have old:∀ b:Addr,s.heap.get? b=none->s0.heap.get? b=none:=λb hb=>by
  cases z:s0.heap.get? b with
  | none=>rfl
  | some o=>
   obtain ⟨o',z'⟩:=I.base.there b o z (λy=>absurd (show b∈([]:List Addr) from y) ∅)
   rw [hb] at z'; cases z'
 refine oQ (base:=base) (L:=s0.heap.objs.size) I'.ok.frames I'.stack rfl xo λh' T' lT m x=>?_
 have hx:∀ b∈[e,T,T'],H' b=none:=λb hb=>by
  rcases ν.mp hb with z | hb
  ·rw [z]; exact ue
  ·rcases ν.mp hb with z | z
   ·rw [z]; exact uT
   ·rw [θ.mp z]; exact hok.fresh lT
 have nw:∀ b∈[e,T,T'],s0.heap.get? b=none:=λb hb=>by
  rcases ν.mp hb with z | hb
  ·rw [z]; exact old e ne
  ·rcases ν.mp hb with z | z
   ·rw [z]; exact old T nT
   ·rw [θ.mp z]; exact Ϲ (ϟ I'.sz lT)
 refine ⟨e,T',C,dx,H',rfl,I'.os,bare,m.un I'.base (λb hb=>?_) nw,m.hok hok I'.stkFree hx,x,nw e ∅,nw T' ∅,ue,hx T' ∅,q⟩
 rcases ν.mp (I'.stkSub b hb) with z | z
 ·exact .inr (by rw [z]; exact Ϲ (π _))
 ·exact .inl z
end
def yV (C:Addr) (E:XK) (ta:TA):TS:=λ_ σ H=>ta σ H λvs H1=>∃ v,vs=[v]/\∀ dx,H1 dx=none->E (.ref C) (some dx) (upd H1 dx (.xd [("place",v)]))
def eP (K:Frag) (D fI:Addr):Sp:=λvs H Q _=>∃ e C t v,vs=[.ref e,v]/\H e=some (Xr C t e)/\cx K D fI C/\∀ dx t',H dx=none->dx≠e->Q .non (upd (upd H dx (.xd [("place",v)])) e (Xo C t' dx e))
theorem zh {M:Fa} {A:Χ} {E:δ->ζ->Prop} {s:ζ} {env:Env} {x:Sem δ} {Q:Flow->ζ->Prop} (hh:A.handled=none)
  (h:wpAny M A x (λv s₁=>∃ e C D nm q N bs sn sub ab col dd k0 k1 k2 k3 k5 nid t dx,v=.ref e/\s₁.heap.get? C=some (excClassObj nm q C N bs (.ref D :: veM) true sn sub ab col dd k0 k1 k2 k3 k5 nid)/\s₁.heap.get? e=some { eS C t with dict:=some dx }/\E (.ref e) s₁) E s) :
  wpAny M A (raiseStmt env (some x) none) Q E s:=by
 unfold raiseStmt
 refine γ (Ϻ h (λv s₁ h₁=>?_) λ_ _ x=>x)
 obtain ⟨e,C,D,nm,q,N,bs,sn,sub,ab,col,dd,k0,k1,k2,k3,k5,nid,t,dx,rfl,hC,he,hE⟩:=h₁
 obtain ⟨hp,g,d,tk,os⟩:=s₁
 have b1:(Η C :: .ref D :: veM).contains (.type "BaseException")=true:=aX.up (aX.up ∅)
 unfold eS at he
 repeat (first | with_reducible refine Ξ he ?_ | with_reducible refine Ξ hC ?_ | (with_reducible refine ϳ hC ?_; rw [b1]) | wp_step)
 exact wpAny_raiseNew_none hh hE
section
variable {X:Cx} {D fI C:Addr} {x:Str} {np cpos pos:Pos} {e:Expr} {es:List Expr} {t:TA} {E:XK} {k:Nat} {fd:Μ} {ps:List Str}
theorem ps_raise (c:cx X.K D fI C) (FI:aF X.prog X.w X.K X.mg X.base CX0 k fI fd ps (eP X.K D fI)) (hr:bz (k + 1) X.A) (hb:bx X.K fd ps []) (hg:Gl X x) (hm:X.mg x=some (.ref C)) (hR:vX X E) (ha:PA X (e :: es) t)
  (hdb:(x == ("__debug__" : Str))=false:=by decide) (he:starEach (e :: es) X.env=(false,eval e X.env) :: starEach es X.env:=by rfl) (hpl:(backTo cpos (starEach es X.env)).any (·.1)=false:=by rfl) :
  PS X (.Raise (some (.Call (.Name x np) (e :: es) [] cpos)) none pos) (yV C E t):=by
 intro pins s σ H Dn I h
 obtain ⟨nm,q,N,bs,sn,sub,ab,col,dd,k0,k1,k2,k3,k5,lk⟩:=c.obj
 rw [arm_exec_Raise]
 refine γ (Dx (zh hr.hd ?_))
 refine γ (Ϻ (Q:=λv s₁=>∃ e H2 dx t',v=.ref e/\Inv X pins σ H2 s₁/\H2 e=some (Xo C t' dx e)/\X.s₀.heap.objs.size<=e/\E (.ref C) (some dx) (λb=>if b=e then none else H2 b)) (m8 (fL I hg hm ?_ hdb)) (λv s₃ h₃=>γ (Dx (μ ?_))) λ_ _ x=>x)
 ·refine CV (h₀:=X.base) I.ok.mod.kin c.kp (thn (ha cpos pins s σ H _ I h) λus s1 ⟨vs,H1,I1,r,v,ev,q⟩=>⟨I1.kIn,?_⟩) he hpl
  subst ev
  refine xI (R:=λe H2=>∃ dx t t',H1 dx=none/\dx≠e/\H2=upd (upd (upd H1 e (Xr C t e)) dx (.xd [("place",v)])) e (Xo C t' dx e)) c FI hr hb I1 r (by rw [υ]; show 1<=_; omega) (λe t hn=>⟨e,C,t,v,rfl,aa,c,λdx t' hd hne=>⟨rfl,dx,t,t',?_,hne,rfl⟩⟩) λe s' H2 lz hn I2 ⟨dx,t,t',hd,hne,eH⟩=>?_
  ·rw [ah hne] at hd; exact hd
  ·subst eH
   refine ⟨e,_,dx,t',rfl,I2,aa,lz,?_⟩
   have z:=q dx hd
   have y:(λb=>if b=e then none else upd (upd (upd H1 e (Xr C t e)) dx (.xd [("place",v)])) e (Xo C t' dx e) b)=upd H1 dx (.xd [("place",v)]):=by
    funext b
    by_cases hb:b=e
    ·rw [if_pos hb,hb,ah (ώ hne),hn]
    ·rw [if_neg hb,ah hb]
     unfold upd
     split
     ·rfl
     ·first | rfl | rw [if_neg hb]
   rw [y]; exact z
 ·obtain ⟨e,H2,dx,t',rfl,I2,he2,lz,hE⟩:=h₃
  exact ⟨e,C,D,nm,q,N,bs,sn,sub,ab,col,dd,k0,k1,k2,k3,k5,_,t',dx,rfl,I2.kIn _ _ lk,Xo.at_ I2 he2,hR pins σ H2 s₃ e C t' dx I2 he2 lz hE⟩
end
open PySem PySem.Spec PyProof.Rows PySem.W
def tVI (K:Frag) (D fI:Addr) (t:TA):TE:=λσ H Q=>t σ H λvs H1=>∃ e C t0 v,vs=[.ref e,v]/\H1 e=some (Xr C t0 e)/\cx K D fI C/\∀ t',Q .non (upd H1 e (Xr C t' e))
theorem xJ {K:Frag}:findCls K (.type "ValueError") (.type "type") "__init__"=some (.val (.builtin "ValueError.__init__")):=by kernel_rfl
theorem qG:typeOf (.type "ValueError")=pure (.type "type"):=by kernel_rfl
theorem wS:handedIn (.builtin "ValueError.__init__")=true:=by kernel_rfl
theorem xb:Manifest.isStub "ValueError"=false:=by decide +kernel
section
variable {X:Cx} {D fI C:Addr} {x:Str} {np apos cpos pos pos':Pos} {e o value:Expr} {es:List Expr} {t:TA} {ta tv:TE} {pl:Sem Bool}
theorem pe_vinit (hg:Gl X "ValueError") (hm:X.mg "ValueError"=none) (hv:bootBuiltins "ValueError"=some (.type "ValueError")) (ha:PA X (e :: es) t)
  (ht:eval (.Call (.Attribute (.Name "ValueError" np) "__init__" apos) (e :: es) [] pos) X.env=(do
   let ov <- eval (.Name "ValueError" np) X.env
   standAt apos.atName
   let (f,first) <- holding [ov] (getMethod ov "__init__" pl)
   callWith pos f first (backTo pos (starEach (e :: es) X.env)) (backToKw pos (keywordEach [] X.env))):=by rfl)
  (hs:starEach (e :: es) X.env=(false,eval e X.env) :: starEach es X.env:=by rfl) (hpl:(backTo pos (starEach es X.env)).any (·.1)=false:=by rfl) :
  PE X (.Call (.Attribute (.Name "ValueError" np) "__init__" apos) (e :: es) [] pos) (tVI X.K D fI t):=by
 intro pins s σ H Q I h
 refine PySem.W.methodCall_KW (pl:=pl) (cy I hg hm hv ?_ ∅ ∅) ht
 obtain ⟨m,Fr0⟩:=I.fr
 refine method_type (name:="__init__") (T:="ValueError") (v:=.builtin "ValueError.__init__") (K:=X.K) Fr0 I.ok.mod.kin qG xb (xJ (K:=X.K)) wS ?_
 have hA:=ha pos pins _ σ H _ (I.tok (s.toks + 1)) h
 rw [hs] at hA ⊢
 refine C5 (by show (false || (backTo pos (starEach es X.env)).any (·.1))=false; rw [hpl] <;> rfl) (Calls.evalArgs_plain ?_)
 refine thn hA λus s2 ⟨vs,H2,I2,r2,e,C,t0,v,ev,he,c,q⟩=>?_
 subst ev
 obtain ⟨u0,u1,rfl,ru0,ru1⟩:∃ u0 u1,us=[u0,u1]/\aw (.ref e) u0/\aw v u1:=by
  cases r2 with
  | cons a r=>
   cases r with
   | cons b r=>cases r with | nil=>exact ⟨_,_,rfl,a,b⟩
 obtain rfl:u0=Η e:=ru0
 obtain ⟨nm,q',N,bs,sn,sub,ab,col,dd,k0,k1,k2,k3,k5,lk⟩:=c.obj
 have ho:=Xr.at_ I2 he
 have mu:Mut (H2 e):=by rw [he]; exact BQ
 obtain ⟨hh,g,d,tk,os⟩:=s2
 refine wn F.excBase_ValueError (ug D) (I2.kIn _ _ lk) ho rfl (a0:=t0) rfl (by rw [υ]; show 1<=_; omega) λh' k1 k2 _=>?_
 exact ⟨.non,_,I2.write (t':=tk) (x:=e) (e:=e) (o:=Xr C hh.objs.size e) mu (.inl rfl) k1 ⟨_,k2⟩ (yj k2),rfl,q _⟩
def sXs (K:Frag) (D fI:Addr) (ta tv:TE):TS:=λDn σ H=>tv σ H λy H1=>ta σ H1 λx H2=>∃ e C t,x=.ref e/\H2 e=some (Xr C t e)/\cx K D fI C/\∀ dx,H2 dx=none->dx≠e->Dn.nx σ (upd (upd H2 dx (.xd [("place",y)])) e (Xo C t dx e))
theorem ps_xset (ha:PE X o ta) (hv:PE X value tv) (hs:swapsWith value (some (.Attribute o "place" pos')) pos.line X.env=pure false:=by rfl):PS X (.Assign [.Attribute o "place" pos'] value pos) (sXs X.K D fI ta tv):=by
 intro pins s σ H Dn I h
 refine plainObj_wpAny_Assign_Attribute (thn (hv pins s σ H _ I h) λu s1 ⟨y,H1,I1,ry,q⟩=>thn (ha pins s1 σ H1 _ I1 q) λov s2 ⟨x,H2,I2,rx,e,C,t,ex,he,c,q2⟩=>?_) hs
 subst ex
 obtain rfl:ov=Η e:=rx
 obtain ⟨nm,q',N,bs,sn,sub,ab,col,dd,k0,k1,k2,k3,k5,lk⟩:=c.obj
 have ho:=Xr.at_ I2 he
 have KX:=I2.kIn
 obtain ⟨hh,g,d,tk,os⟩:=s2
 refine sR F.store_ValueError (KX _ _ lk) (fV KX c.sa) (fV KX c.pl) ho rfl (a0:=t) rfl rfl λh' tk' k1 k2 k3=>?_
 have fr:H2 hh.objs.size=none:=I2.hok.fresh (π _)
 have nx:hh.objs.size≠e:=λz=>by rw [z,he] at fr; cases fr
 have hin:∀ b o,hh.get? b=some o->b≠hh.objs.size:=λb o z=>Ρ (χ z)
 refine ⟨σ,_,I2.un (t':=tk') (H':=upd (upd H2 hh.objs.size (.xd [("place",y)])) e (Xo C t hh.objs.size e)) ⟨λb o z n _ _=>k1 b o (λw=>by rw [w,he] at n; cases n) z,λb o z n _ _=>⟨o.slots,k1 b o (λw=>by rw [w,he] at n; cases n) z⟩,λb o z n _=>?_,λb o z _=>?_,λb xs z=>?_,λb o v z=>?_,λb ps z=>⟨#[],?_⟩⟩ (λb v z=>?_),q2 _ fr nx⟩
 ·rw [ah (λw=>by rw [w,he] at n; cases n),ah (hin b o z)]; exact n
 ·by_cases w:b=e
  ·rw [w]; exact ⟨_,k2⟩
  ·exact ⟨o,k1 b o w z⟩
 ·rw [ah (λw=>by rw [w,he] at z; cases z),ah (λw=>by rw [w,fr] at z; cases z)]; exact z
 ·rw [ah (λw=>by rw [w,he] at z; cases z),ah (λw=>by rw [w,fr] at z; cases z)]; exact z
 ·rw [ah (λw=>by rw [w,he] at z; cases z),ah (λw=>by rw [w,fr] at z; cases z),z]; simp
 ·by_cases w:b=e
  ·rw [w,aa] at z; cases z; rw [w]; exact AS k2
  ·rw [ah w] at z
   by_cases w2:b=hh.objs.size
   ·rw [w2,aa] at z; cases z; rw [w2]
    refine ⟨_,k3,λf=>?_⟩
    by_cases wf:f="place"
    ·rw [wf]; exact ry
    ·rw [if_neg wf,d_,beq_false_of_ne wf]; exact BQ
   ·rw [ah w2] at z
    refine (I2.hok b v z).stay (λc o hc y=>k1 c o (λw=>?_) y) (λc hc=>?_) λc xs hc=>?_
    ·rcases hc with hc | hc
     ·exact absurd (hc.symm.trans w) (by assumption)
     ·rw [w,he] at hc; cases hc
    ·rw [ah (λw=>by rw [w,he] at hc; cases hc),ah (λw=>by rw [w,fr] at hc; cases hc)]; exact hc
    ·rw [ah (λw=>by rw [w,he] at hc; cases hc),ah (λw=>by rw [w,fr] at hc; cases hc)]; exact hc
end
open PySem PySem.Spec PyProof.Rows PySem.W
abbrev pD (X:Cx) (e:Addr):Cx:={ X with A:=X.A.mark (some (.ref e)),calm:=false,xe:=λ_ _=>False }
section
variable {X:Cx} {pins:List (Addr×Obj)} {σ:St} {H:Hp} {s:ζ} {h':Heap} {e:Addr}
theorem xu (ok:X.Ok) (e:Addr):(pD X e).Ok:=
 ⟨ok.mod,ok.kind,ok.glob,ok.blt,ok.above,ok.inj,ok.has,ok.cab,λz=>(Θ z).elim,ok.frames,ok.stk,ok.exf,ok.bs,ok.bsz,ok.noex,ok.exfs,ok.funs,ok.frf⟩
theorem nA (I:Inv X pins σ H s) (e:Addr):Inv (pD X e) pins σ H s:=⟨xu I.ok e,I.os,I.bare,I.base,I.loc,I.cell,I.free,I.freeC,I.pin,I.hok,I.len⟩
theorem oC (ok:X.Ok) (I:Inv (pD X e) pins σ H s):Inv X pins σ H s:=⟨ok,I.os,I.bare,I.base,I.loc,I.cell,I.free,I.freeC,I.pin,I.hok,I.len⟩
theorem wj {ex:List Addr} (I:Inv X pins σ H s) (m:Mv (frs X.stack) ex s.heap h') (h0:∀ b∈ex,X.s₀.heap.get? b=none) (h1:∀ b∈ex,H b=none) (h2:∀ b∈ex,b≠X.env.locals) (h3:∀ b∈ex,∀ x c,X.env.cells.lookup x=some c->c≠b) (h4:∀ b∈ex,∀ p∈X.pn ++ pins,p.1≠b) :
  Inv X pins σ H { s with heap:=h' }:=by
 have cl:∀ x c,X.env.cells.lookup x=some c->∀ v,s.heap.IsCell c v->h'.IsCell c v:=λx c q v ⟨o,ho,hd⟩=>by
  obtain ⟨sl,z⟩:=m.slot c o (λy=>h3 c y x c q rfl) ho
  exact ⟨_,z,hd⟩
 obtain ⟨mm,⟨o,es,ep,ho,r⟩,hl⟩:=id I.loc
 obtain ⟨sl,hL⟩:=m.slot _ o (λy=>h2 _ y rfl) ho
 refine ⟨I.ok,I.os,I.bare,m.un I.base (λb hb=>?_) h0,⟨mm,⟨_,es,ep,hL,r⟩,λi x v a b c=>?_⟩,λx c q=>?_,I.free,I.freeC,λp hp=>?_,m.hok I.hok I.stkFree h1,I.len⟩
 ·rcases ν.mp (I.stkSub b hb) with z | z
  ·exact .inr (by rw [z]; exact Ϲ I.ok.above)
  ·exact .inl z
 ·obtain ⟨u,ru,l⟩:=hl i x v a b c
  refine ⟨u,ru,?_⟩
  rcases l with l | ⟨k,c',q,z⟩
  ·exact .inl l
  ·exact .inr ⟨k,c',q,cl x c' q _ z⟩
 ·obtain ⟨v,z⟩:=I.cell x c q
  exact ⟨v,cl x c q v z⟩
 ·obtain ⟨q,n,ne,nf,d⟩:=I.pin p hp
  exact ⟨m.keep _ _ (λy=>(ν.mp (I.stkSub _ y)).elim ne nf) (λy=>h4 _ y p hp rfl) q,n,ne,nf,d⟩
theorem tS {i t':Nat} {n:Str} {v:Option δ} {m:Str->Option δ} (I:Inv X pins σ H s) (hN:X.N.Nodup) (hi:X.N[i]?=some n) (hs:x6 X.env.locals s.heap h') (hn:h'.Ns X.env.locals (λx=>if x=n then v else m x))
  (hl:∀ (j:Nat) (x:Str) (w:V),X.N[j]?=some x->σ[j]?=some (some w)->Vis X.env.scope x->∃ u,aw w u/\As X.env s.heap m x u):Inv X pins (σ.set i none) H { s with heap:=h',toks:=t' }:=by
 have mv:Mv [] [X.env.locals] s.heap h':=⟨λb o _ q z=>(hs.2 b λy=>q (by rw [y]; simp)).trans z,λb o q z=>⟨o.slots,(hs.2 b λy=>q (by rw [y]; simp)).trans z⟩⟩
 refine ⟨I.ok,I.os,I.bare,mv.un I.base (λb hb=>absurd hb ∅) (λb hb=>by rw [θ.mp hb]; exact Ϲ I.ok.above),⟨_,hn,λj x w a b c=>?_⟩,λx c q=>?_,I.free,I.freeC,λp hp=>?_,mv.hok I.hok (λb hb=>absurd hb ∅) (λb hb=>by rw [θ.mp hb]; exact I.free),by simpa using I.len⟩
 ·by_cases hj:j=i
  ·subst hj
   have:j < σ.length:=by rw [I.len]; exact (ο.mp a).1
   rw [B8 this] at b; cases b
  ·rw [BN (ώ hj)] at b
   obtain ⟨u,ru,l⟩:=hl j x w a b c
   refine ⟨u,ru,?_⟩
   rcases l with ⟨k,q⟩ | ⟨k,c',q,z⟩
   ·have nx:x≠n:=λq=>hj (iF hN a (q▸hi))
    exact .inl ⟨k,(if_neg nx).trans q⟩
   ·exact .inr ⟨k,c',q,z.sameBut hs (I.cne x c' q)⟩
 ·obtain ⟨w,z⟩:=I.cell x c q
  exact ⟨w,z.sameBut hs (I.cne x c q)⟩
 ·obtain ⟨q,n,ne,nf,d⟩:=I.pin p hp
  exact ⟨(hs.2 p.1 ne).trans q,n,ne,nf,d⟩
end
theorem tE {X:Cx} {pins:List (Addr×Obj)} {σ:St} {H:Hp} {s:ζ} {a:Addr} {o:HO} (I:Inv X pins σ H s) (hn:H a=none) (h0:X.s₀.heap.get? a=none) (h2:a≠X.env.locals) (h3:∀ x c,X.env.cells.lookup x=some c->c≠a) (h4:∀ p∈X.pn ++ pins,p.1≠a) (new:aI X.prog X.w (upd H a o) s.heap a o) :
  Inv X pins σ (upd H a o) s:=by
 have st:∀ b u,H b=some u->upd H a o b=some u:=λb u q=>by rw [ah (λz=>by rw [z,hn] at q; cases q)]; exact q
 refine ⟨I.ok,I.os,I.bare,⟨I.base.keep,I.base.slot,λb ob q n x=>?_,I.base.there,λb xs q=>st _ _ (I.base.tups b xs q),λb ob v q=>st _ _ (I.base.frzs b ob v q),λb ps q=>?_⟩,I.loc,I.cell,(ah (ώ h2)).trans I.free,λx c q=>(ah (h3 x c q)).trans (I.freeC x c q),λp hp=>?_,λb u q=>?_,I.len⟩
 ·rw [ah (λz=>by rw [z,h0] at q; cases q)]
  exact I.base.free b ob q n x
 ·obtain ⟨more,z⟩:=I.base.tbls b ps q
  exact ⟨more,st _ _ z⟩
 ·obtain ⟨q,n,ne,nf,d⟩:=I.pin p hp
  exact ⟨q,(ah (h4 p hp)).trans n,ne,nf,d⟩
 ·by_cases z:b=a
  ·rw [z,aa] at q; cases q; rw [z]; exact new
  ·rw [ah z] at q
   exact (I.hok b u q).stay (λ_ _ _ y=>y) (λc y=>st _ _ y) λc xs y=>st _ _ y
def Xh (C dx a:Addr):HO:=.ext λh=>∃ ws sl,h.get? a=some { cls:=.ref C,dict:=some dx,data:=.fields ws,slots:=sl }/\ws[2]?=some .none
theorem zJ {P:Β} {w:Ν} {H:Hp} {h:Heap} {C T dx a:Addr} {fl:δ} (x:Exo h a T (.ref C) (some dx) fl):aI P w H h a (Xh C dx a):=by
 obtain ⟨⟨oe,vs,he,hc,hd,hdt,_,h2⟩,_⟩:=x
 obtain ⟨c1,c2,c3,c4⟩:=oe
 simp only at hc hd hdt
 subst hc; subst hd; subst hdt
 exact ⟨⟨_,_,he,h2⟩,⟨_,he⟩,λ_ _ ⟨ws,sl,p,z⟩ k=>⟨ws,sl,k _ p,z⟩⟩
theorem vn {M:Fa} {A:Χ} {E:δ->ζ->Prop} {h:Heap} {g:Array Cq} {d:DY} {t:Nat} {os:EZ} {C D e N N':Addr} {oe:Obj} {nm q nm' q':Str} {bs sub bs' sub':List δ} {sn sn':List Str} {ab ab':Bool} {col col':Option Bool} {dd dd':Option Addr} {k0 k1 k2 k3 k5 j0 j1 j2 j3 j5:Option δ} {nid nid':String} {Q:Bool->ζ->Prop}
  (hC:h.get? C=some (excClassObj nm q C N bs (.ref D :: veM) true sn sub ab col dd k0 k1 k2 k3 k5 nid)) (hD:h.get? D=some (excClassObj nm' q' D N' bs' veM true sn' sub' ab' col' dd' j0 j1 j2 j3 j5 nid')) (he:h.get? e=some oe) (hc:oe.cls=.ref C) (hq:Q true ⟨h,g,d,t,os⟩) :
  wpAny M A (excMatches (.ref e) (.ref D)) Q E ⟨h,g,d,t,os⟩:=by
 have b1:(Η D :: veM).contains (.type "BaseException")=true:=aX.up ∅
 have b2:(Η C :: .ref D :: veM).contains (.ref D)=true:=by simp
 have f:=tc_notTuple
 unfold excMatches
 repeat (first | (with_reducible refine Ξ he ?_; rw [hc]) | with_reducible refine Ξ hD ?_ | (with_reducible refine ϳ hD ?_; rw [b1]) | (with_reducible refine ϳ hC ?_; rw [b2]) | wp_step)
 exact hq
def Bn (K:Frag) (D fI:Addr) (i:Nat) (sp:Sp) (t:TA) (ts:Addr->TS):TS:=λDn σ H=>t σ H λvs H1=>sp vs H1 (λ_ H2=>Dn.nx σ H2) λcv dxo H2=>∃ C dx v,cv=.ref C/\dxo=some dx/\cx K D fI C/\H2 dx=some (.xd [("place",v)]) /\
 ∀ e,H2 e=none->ts e { nx:=λσ' H'=>Dn.nx (σ'.set i none) H',rt:=Dn.rt,bk:=λσ' H'=>Dn.bk (σ'.set i none) H',ct:=λσ' H'=>Dn.ct (σ'.set i none) H' } (σ.set i (some (.ref e))) (upd H2 e (Xh C dx e))
section
variable {X:Cx} {D fI f:Addr} {x xD n:Str} {np cpos epos tp hpos pos:Pos} {e:Expr} {es:List Expr} {t:TA} {k i:Nat} {fd:Μ} {ps:List Str} {sp:Sp} {b₀:Stmt} {suite:List Stmt} {ts:Addr->TS}
theorem ps_try (F:aF X.prog X.w X.K X.mg X.base (CXe X.prog X.w) k f fd ps sp) (hr:bz k X.A) (hg:Gl X x) (hm:X.mg x=some (.ref f)) (hk:keepIn X.K (.ref f)=true) (hb:bx X.K fd ps []) (ha:PA X (e :: es) t) (hx0:∀ v s,X.xe v s->False) (hex:X.ex=[])
  (hT:AV X.K D) (hgD:Gl X xD) (hmD:X.mg xD=some (.ref D)) (hst:X.stack=X.env :: X.outer) (hfr:X.env.frame=some X.env.locals) (hN:X.N.Nodup) (hi:X.N[i]?=some n) (hloc:X.env.scope.names.lookup n=some .local)
  (hsu:∀ e,PSs (pD X e) (b₀ :: suite) (ts e)) (hdb:(x == ("__debug__" : Str))=false:=by decide) (hdD:(xD == ("__debug__" : Str))=false:=by decide)
  (he:starEach (e :: es) X.env=(false,eval e X.env) :: starEach es X.env:=by rfl) (hpl:(backTo cpos (starEach es X.env)).any (·.1)=false:=by rfl) (hsw:swapsWith (.Call (.Name x np) (e :: es) [] cpos) none epos.line X.env=pure false:=by rfl) :
  PS X (.Try [.Expr (.Call (.Name x np) (e :: es) [] cpos) epos] [.ExceptHandler (some (.Name xD tp)) (some n) (b₀ :: suite) hpos] [] [] pos) (Bn X.K D fI i sp t ts):=by
 intro pins s σ H Dn I h
 refine wpAny_Try_except (EL (wpAny_Expr_any (m8 (fL I hg hm ?_ hdb)) I.quiet hsw))
 refine CV (h₀:=X.base) I.ok.mod.kin hk (Ϻ (ha cpos pins s σ H _ I h) (λus s1 ⟨vs,H1,I1,r,q⟩=>⟨I1.kIn,?_⟩) λv s' z=>(hx0 v s' z).elim) he hpl
 have hl:(us ++ []).length=ps.length:=by rw [m5,<- r.length]; exact F.len _ _ _ _ q
 refine Do (x9 (F.run X.A X.stack s1 H1 ⟨us,[]⟩ (us ++ []) vs _ _ hr I1.env0 (hb s1 us I1.kIn hl) (by rw [m5]; exact r) q) λz s' hq=>?_)
 cases z with
 | ok fl=>
  cases fl with
  | ret u=>
   obtain ⟨v,H2,I2,rv,q2⟩:=I1.after hq
   exact Cc (Cc ⟨σ,H2,I2,q2⟩)
  | next=>exact k8 hq
  | brk=>exact k8 hq
  | cont=>exact k8 hq
 | error ev=>
  obtain ⟨a,T,C0,dx0,H',rfl,os,bare,un,hok,xo,ne,nT,ue,uT,C,dx,v,ec,ed,c,hdx,q2⟩:=hq
  cases ec; cases ed
  have I2:Inv X pins σ H' s':=I1.call' (ch:=[]) os un hok bare λb z=>absurd z ∅
  have old:∀ b:Addr,s1.heap.get? b=none->X.s₀.heap.get? b=none:=λb hb=>by
   cases z:X.s₀.heap.get? b with
   | none=>rfl
   | some o=>
    obtain ⟨o',z'⟩:=I1.base.there b o z (by rw [hex]; simp)
    rw [hb] at z'; cases z'
  have hfr':X.A.frames=some (X.env :: X.outer):=by rw [<- hst]; exact I2.ok.frames
  have hfun:s'.heap.FunFrames X.base (X.env :: X.outer):=hst▸I2.stack
  have flds:∀ b o vs,s'.heap.get? b=some o->o.data=.fields vs->b≠X.env.locals/\∀ x c,X.env.cells.lookup x=some c->c≠b:=λb o vs q hd=>by
   refine ⟨λz=>?_,λx c qc z=>?_⟩
   ·obtain ⟨m,⟨o',es,ep,ho',hd',_⟩,_⟩:=I2.loc
    rw [<- z,q] at ho'; cases ho'; rw [hd] at hd'; cases hd'
   ·obtain ⟨v,o',ho',hd'⟩:=I2.cell x c qc
    rw [z,q] at ho'; cases ho'; rw [hd] at hd'; cases hd'
  have pin1:∀ b,s1.heap.get? b=none->∀ p∈X.pn ++ pins,p.1≠b:=λb hb p hp z=>by
   have y:=(I1.pin p hp).1
   rw [z,hb] at y; cases y
  have fe:=let ⟨⟨oe,vs,he,_,_,hd,_⟩,_,_⟩:=xo; flds a oe vs he hd
  have fT:=let ⟨_,⟨oT,ts,hT,hd,_⟩,_⟩:=xo; flds T oT ts hT hd
  refine jz (base:=X.base) (L:=X.env.locals) hfr' hfun hfr xo λh1 T1 l1 m1 x1=>?_
  refine dR (s:={ s' with heap:=h1 }) x1 λh2 m2 x2=>?_
  have mm:Mv (frs X.stack) [a,T,T1] s'.heap h2:=by
   rw [hst]
   refine (m1.mono (λ_ z=>z) λb z=>?_).trans (m2.mono (λ_ z=>absurd z ∅) λb z=>?_)
   ·rcases ν.mp z with z | z
    ·exact ν.mpr (.inl z)
    ·exact ρ _ (ν.mpr (.inl (θ.mp z)))
   ·exact ρ _ (ρ _ z)
  have all3:∀ {p:Addr->Prop},p a->p T->p T1->∀ b∈[a,T,T1],p b:=λp1 p2 p3 b hb=>by
   rcases ν.mp hb with z | hb
   ·rw [z]; exact p1
   ·rcases ν.mp hb with z | z
    ·rw [z]; exact p2
    ·rw [θ.mp z]; exact p3
  have lt1:∀ b o,s'.heap.get? b=some o->b≠T1:=λb o q=>Ρ (ϔ (χ q) l1)
  have g0:=all3 (p:=λb=>X.s₀.heap.get? b=none) (old a ne) (old T nT) (Ϲ (ϟ I2.sz l1))
  have g1:=all3 (p:=λb=>H' b=none) ue uT (hok.fresh l1)
  have g2:=all3 (p:=λb=>b≠X.env.locals) fe.1 fT.1 (j7 (ϔ I2.lt l1))
  have g3:=all3 (p:=λb=>∀ x c,X.env.cells.lookup x=some c->c≠b) fe.2 fT.2 λx c q=>let ⟨_,o,z,_⟩:=I2.cell x c q; lt1 c o z
  have g4:=all3 (p:=λb=>∀ p∈X.pn ++ pins,p.1≠b) (pin1 a ne) (pin1 T nT) λp hp=>lt1 _ _ (I2.pin p hp).1
  have I3:Inv X pins σ H' { s' with heap:=h2 }:=wj I2 mm g0 g1 g2 g3 g4
  obtain ⟨nm,q',N,bs,sn,sub,ab,col,dd,k0,k1,k2,k3,k5,lk⟩:=c.obj
  obtain ⟨nm',q'',N',bs',sn',sub',ab',col',dd',j0,j1,j2,j3,j5,lkD⟩:=hT.obj
  refine wpAny_handleBy_cons (codeAny_handlers_test (fL (X:=pD X a) (nA I3 a) hgD hmD ?_ hdD)) (by intro z; cases z)
  obtain ⟨oe,vs,he2,hc2,hd2,_⟩:=x2.obj
  obtain ⟨hp0,g,dr,tk,os0⟩:=s'
  refine vn (I3.kIn _ _ lk) (I3.kIn _ _ lkD) he2 hc2 ?_
  refine codeAny_handlers_suite_as (dR (s:=⟨h2,g,dr,tk,os0⟩) x2 λh3 m3 x3=>?_)
  have I4:Inv X pins σ H' ⟨h3,g,dr,tk,os0⟩:=wj I3 ((m3.mono (λ_ z=>absurd z ∅) λb z=>ρ _ (ρ _ z)):Mv (frs X.stack) [a,T,T1] h2 h3) g0 g1 g2 g3 g4
  have I5:=tE (o:=Xh C0 dx0 a) I4 ue (old a ne) fe.1 fe.2 (pin1 a ne) (zJ x3)
  refine fz (X:=pD X a) (nA I5 a) hN hi (.inl hloc) (v:=.ref a) rfl (λs6 I6=>?_) (.inr hloc)
  refine Ϻ (hsu a pins s6 _ _ _ I6 (q2 a ue)) (λfl s7 h7=>?_) λ_ _ z=>z.elim
  have goes:∀ (σ':St) (H7:Hp) (Q:ζ->Prop),Inv (pD X a) pins σ' H7 s7->(∀ s8,Inv X pins (σ'.set i none) H7 s8->Q s8)->wpAny (model X.prog X.w) X.A (do bindName X.env n .none; unbindBehindTheSuite X.env n hpos) (λ_ s8=>Q s8) X.xe s7:=λσ' H7 Q I7 hQ=>by
   have I7':=oC I.ok I7
   obtain ⟨m7,hn7,hl7⟩:=id I7'.loc
   exact wpAny_nameGoes_keeps hloc hn7 (by rw [I.ok.kind]; rfl) λh8 v8 n8 s8=>hQ _ (tS I7' hN hi s8 n8 hl7)
  cases fl with
  | next=>
   obtain ⟨σ',H7,I7,z⟩:=h7
   exact goes σ' H7 _ I7 λs8 I8=>⟨_,H7,I8,z⟩
  | brk=>
   obtain ⟨σ',H7,I7,z⟩:=h7
   exact goes σ' H7 _ I7 λs8 I8=>⟨_,H7,I8,z⟩
  | cont=>
   obtain ⟨σ',H7,I7,z⟩:=h7
   exact goes σ' H7 _ I7 λs8 I8=>⟨_,H7,I8,z⟩
  | ret u=>
   obtain ⟨v,σ',H7,I7,rv,z⟩:=h7
   exact goes σ' H7 _ I7 λs8 I8=>⟨v,_,H7,I8,rv,z⟩
end
open PySem PySem.Spec PyProof.Rows PySem.W
structure yH (K:Frag) (D C:Addr):Prop where
 obj:∃ nm q N bs sn sub ab col dd k0 k1 k2 k3 k5,K.lookup C=some (excClassObj nm q C N bs (.ref D :: veM) true sn sub ab col dd k0 k1 k2 k3 k5 "ValueError.__new__")
 ne:C≠D
theorem cx.sub {K:Frag} {D fI C:Addr} (c:cx K D fI C):yH K D C:=⟨c.obj,c.ne⟩
section
variable {X:Cx} {D fI:Addr}
theorem Ap {M:Fa} {h:Heap}:E8 M h (isType (.type "ValueError")) true:=λA Q E s k q=>μ q
theorem aU:bE X (.builtin "isinstance") (λxs H Q=>∃ a C dx c,xs=[.ref a,c]/\H a=some (Xh C dx a)/\cx X.K D fI C/\((∃ C' b,c=.ref C'/\yH X.K D C'/\decide (C'=C)=b/\Q (.bl b) H)\/(c=.ty "ValueError"/\Q (.bl true) H))):=by
 intro pins s σ H xs us Q I r h
 obtain ⟨a,C,dx,c0,rfl,ha,c,h⟩:=h
 obtain ⟨u,w',rfl,rx,rn⟩:=qW r
 obtain rfl:u=Η a:=rx
 obtain ⟨⟨ws,sl,ho,_⟩,_⟩:=I.hok a _ ha
 obtain ⟨nm,q',N,bs,sn,sub,ab,col,dd,k0,k1,k2,k3,k5,lk⟩:=c.obj
 have KX:=I.kIn
 have tk1:=I.tok (s.toks + 1)
 obtain ⟨hh,g,d,tk,os⟩:=s
 rcases h with ⟨C',b,rfl,c',rfl,q⟩ | ⟨rfl,q⟩
 ·obtain rfl:w'=Η C':=rn
  obtain ⟨nm',q'',N',bs',sn',sub',ab',col',dd',j0,j1,j2,j3,j5,lk'⟩:=c'.obj
  have hC':hh.get? C'=_:=KX _ _ lk'
  by_cases z:C'=C
  ·subst z
   rw [decide_eq_true rfl] at q
   exact uO ho rfl ⟨.bl true,H,I,rfl,q⟩
  ·rw [decide_eq_false z] at q
   have hty:E8 (model X.prog X.w) hh (typeOf (.ref C')) (.type "type"):=λA Q E s k q=>by
    unfold typeOf
    exact γ (Fj (k _ _ hC') (μ q))
   have e1:(Η C == Η C')=false:=by simp [ώ z]
   have e2:(Η D == Η C')=false:=by simp [ώ c'.ne]
   refine wB F.attrBase_ValueError (KX _ _ lk) ho rfl ∅ (fV KX c.cl) (fV KX c.ga) (fV KX c.gh) e1 ?_ hty (ya hC') ⟨.bl false,H,tk1,rfl,q⟩
   rw [Ep,Ep]
   have f1:(Η C' == Η C)=false:=by simp [z]
   have f2:(Η C' == Η D)=false:=by simp [c'.ne]
   rw [f1,f2]; rfl
 ·obtain rfl:w'=k7 "ValueError":=rn
  exact rS (KX _ _ lk) ho rfl rfl (aX.up (aX.up ∅)) (E8.of_pure qG) Ap ⟨.bl true,H,I,rfl,q⟩
variable {o:Expr} {to:TE} {pos:Pos}
def tXf (K:Frag) (D fI:Addr) (to:TE):TE:=λσ H Q=>to σ H λx H1=>∃ a C dx v,x=.ref a/\H1 a=some (Xh C dx a)/\cx K D fI C/\H1 dx=some (.xd [("place",v)])/\Q v H1
theorem pe_xfld (he:PE X o to) (hb:attributeBase o "place" X.env (eval o X.env)=eval o X.env:=by rfl):PE X (.Attribute o "place" pos) (tXf X.K D fI to):=by
 intro pins s σ H Q I h
 refine wH hb (thn (he pins s σ H _ I h) λu s1 ⟨x,H1,I1,rx,a,C,dx,v,ex,ha,c,hd,q⟩=>?_)
 subst ex
 obtain rfl:u=Η a:=rx
 obtain ⟨⟨ws,sl,ho,_⟩,_⟩:=I1.hok a _ ha
 obtain ⟨mA,hn,rel⟩:=I1.hok dx _ hd
 obtain ⟨nm,q',N,bs,sn,sub,ab,col,dd,k0,k1,k2,k3,k5,lk⟩:=c.obj
 have rp:=rel "place"
 have KX:=I1.kIn
 have tk1:=I1.tok (s1.toks + 1)
 obtain ⟨hh,g,d,tk,os⟩:=s1
 cases em:mA "place" with
 | none=>rw [em] at rp; exact rp.elim
 | some u=>
  rw [em] at rp
  have rp:aw v u:=rp
  exact yK F.attrBase_ValueError (KX _ _ lk) (fV KX c.ga) (fV KX c.gh) (fV KX c.pl) ho hn em (by rw [handedOut_of (tm rp)]) ⟨v,H1,tk1,rp,q⟩
end
theorem oE:entryFor table "proto.unchain"=some Ϡ.«proto.unchain»:=entryFor_of_fast (by kernel_rfl)
section
variable {prog:Β} {w:Ν} {A:Χ} {E:δ->ζ->Prop} {s:ζ} {e:Addr}
theorem pb {α:Type} {a:Addr} {oa oe:Obj} {vs ws:Array δ} {Q:α->ζ->Prop} (hh:A.handled=some (.ref e)) (he:s.heap.get? e=some oe) (hde:oe.data=.fields ws) (h2:ws[2]?=some .none) (ha:s.heap.get? a=some oa) (hda:oa.data=.fields vs) (hz:2 < vs.size) (ne:e≠a)
  (h:E (.ref a) { s with heap:=s.heap.update a (DB (·.setIfInBounds 2 (.ref e))) }):wpAny (model prog w) A (raiseNew (.ref a):Sem α) Q E s:=by
 unfold raiseNew
 refine γ (wpAny_handled ?_)
 rw [hh]
 show wpAny _ _ (if (Η e != Η a)=true then _ else _) _ _ _
 rw [if_pos (by simp [ne])]
 refine γ (ϻ (Db (c9 oE ?_)))
 refine γ (ϱ he hde h2 ?_)
 rw [if_pos ∅]
 refine γ (μ (μ ?_))
 exact γ (A2 ha hda hz (wpAny_throw h))
theorem tV {it l:Addr} {i:Nat} {items:Array δ} {oe:Obj} {ws:Array δ} {Q:Option δ->ζ->Prop} (hh:A.handled=some (.ref e)) (he:s.heap.get? e=some oe) (hde:oe.data=.fields ws) (h2:ws[2]?=some .none) (hit:s.heap.IsListIter it l i) (hl:s.heap.IsList l items) (hx:items[i]?=none) (ne:e≠it)
  (hQ:∀ h',Heap.ExtBut it s.heap h'->Q none { s with heap:=h' }):wpAny (model prog w) A (pyNext (.ref it)) Q E s:=by
 obtain ⟨o1,ho1,_,hd1⟩:=id hit
 obtain ⟨o2,ho2,_,n2,hd2⟩:=hl
 unfold pyNext
 refine γ (Ch (ϥ (name:=ξ "__next__") hit.typeIs slot_listiter_next (ϙ slot_listiter_next hit.typeIs entry_listiter_next ?_ (args_listiter_next _))))
 show wpAny (model prog w) A.in1 (field (.ref it) 0 >>= _) _ _ s
 refine γ (ϱ ho1 hd1 (x:=.ref l) rfl ?_)
 show wpAny (model prog w) A.in1 (if (Η l == Ϫ)=true then _ else _) _ _ s
 rw [if_neg ∅]
 show wpAny (model prog w) A.in1 (field (.ref it) 1 >>= _) _ _ s
 refine γ (ϱ ho1 hd1 (x:=.int i 0) rfl ?_)
 show wpAny (model prog w) A.in1 (seqItems? (.ref l) >>= _) _ _ s
 refine γ (i8 ho2 hd2 ?_)
 simp only [hx,ϭ]
 refine γ (w_ (γ (A2 ho1 hd1 ∅ ?_)))
 show wpAny (model prog w) A.in1 (newExc (.type "StopIteration") [] >>= _) _ _ _
 refine γ ?_
 simp only [newTuple,newExc]
 refine γ (Ϗ (γ (m:=firstArgMember _ _) (Fe (a:=Ϫ) (by first | rfl | (simp only [firstArgMember]; rfl)) (Ϗ ?_ (by size_fits)))) (by size_fits))
 have x1:=(r_ s.heap it (DB (·.setIfInBounds 0 Ϫ))).extBut
 refine pb (A:=A.in1) hh (η _ (η _ (x1 e oe ne he))) hde h2 (τ _ rfl) rfl (by rw [EF]; exact ϔ (by decide:2 < 6) (j8 6 _)) ?_ ?_
 ·refine Ρ ?_
  simp only [Ϩ]
  exact k_ (χ (x1 e oe ne he))
 ·refine γ (CF (T:="StopIteration") (b:=true) ⟨_,Ϛ _ (τ _ rfl) rfl,rfl⟩ Fg (μ (hQ _ λb o hb z=>?_)))
  have y:=x1 b o hb z
  rw [ύ _ _ (j7 (by simp only [Ϩ]; exact k_ (χ y)))]
  exact η _ (η _ y)
theorem rV {it ax:Addr} {C dx:Addr} (hh:A.handled=some (.ref e)) (hne:ax≠it) (ne:e≠it) (items:Array δ) :
  Ft prog w A it [it,ax,e] [it] items.size (λi v=>items[i]?=some v) (λi h=>(h.IsListIter it ax i/\h.IsList ax items)/\∃ ws sl,h.get? e=some { cls:=.ref C,dict:=some dx,data:=.fields ws,slots:=sl }/\ws[2]?=some .none) where
 sub:=λb hb=>by rw [θ.mp hb]; simp
 frame:=λ_ _ _ st hk=>⟨⟨st.1.1.at λo q=>hk it ∅ o q,st.1.2.at λo q=>hk ax ∅ o q⟩,let ⟨ws,sl,q,z⟩:=st.2; ⟨ws,sl,hk e ∅ _ q,z⟩⟩
 item:=λi s Q E hi st hQ=>by
  refine wpAny_pyNext_list_item st.1.1 st.1.2 (x:=items[i]) (by simp [hi]) λh' t1 t2=>?_
  obtain ⟨ws,sl,q,z⟩:=st.2
  exact hQ _ h' s.toks (by simp [hi]) ⟨⟨t1,st.1.2.extBut t2.extBut hne⟩,ws,sl,t2.extBut e _ ne q,z⟩ λb o hb q=>t2.extBut b o (λy=>hb (by simp [y])) q
 done:=λs Q E st hQ=>by
  obtain ⟨ws,sl,q,z⟩:=st.2
  exact tV hh q rfl z st.1.1 st.1.2 ∅ ne λh' t=>hQ h' s.toks λb o hb q=>t b o (λy=>hb (by simp [y])) q
 self:=λ_ _ _ _ st hQ=>wpAny_pyIter_listiter st.1.1 hQ
end
theorem sU {X:Cx} {e:Addr} (hh:X.A.handled=some (.ref e)):bE X (.builtin "any") (λxs H Q=>∃ (a:Addr) (bs:List Bool) (C dx:Addr),xs=[.ref a]/\H a=some (.lst (bs.map V.bl))/\H e=some (Xh C dx e)/\Q (.bl (bs.any id)) H):=by
 intro pins s σ H xs us Q I r h
 obtain ⟨a,bs,C,dx,rfl,hq,hx,q⟩:=h
 obtain ⟨u,rfl,ru⟩:=cj r
 cases ru
 obtain ⟨its,rv,p,hz⟩:=I.list (SqL.of hq)
 have hl:=p.isList
 have hlt:a < s.heap.objs.size:=by obtain ⟨_,q,_⟩:=hl; exact χ q
 obtain ⟨⟨ws,sl,ho,h2⟩,_⟩:=I.hok e _ hx
 refine call_any_walk (C2 hl ?_)
 refine ⟨s.heap.objs.size,_,_,its.toArray.size,_,_,λi=>(bs[i]?).getD false,rfl,rV (A:=X.A.in1) (C:=C) (dx:=dx) hh (Ρ hlt) (Ρ (χ ho)) its.toArray,
  ⟨⟨⟨_,τ _ rfl,rfl,rfl⟩,hl.push _⟩,ws,sl,η _ ho,h2⟩,λi v s' Q' E' hP hQ=>?_,λh' tk hk=>?_⟩
 ·obtain ⟨b,z,rfl⟩:=jc rv i v (by simpa using hP)
  have hQ:Q' ((bs[i]?).getD false) s':=hQ
  rw [z] at hQ
  exact e_ hQ
 ·have hlen:=rv.length
  have z:((Φ its.toArray.size).any λi=>(bs[i]?).getD false)=bs.any id:=by
   rw [ς,<- hlen,ε,s_,j_,j_]
   constructor
   ·rintro ⟨i,hi,z⟩
    have hi':=ϸ.mp hi
    rw [Ζ hi'] at z
    exact ⟨_,j9 hi',z⟩
   ·rintro ⟨b,hb,z⟩
    obtain ⟨i,hi,rfl⟩:=r9 hb
    exact ⟨i,ϸ.mpr hi,by rw [Ζ hi]; exact z⟩
  rw [z]
  exact ⟨.bl _,H,I.kept (fR hk),rfl,q⟩
open PySem PySem.Spec PyProof.Rows PySem.W
section
variable {P:Β} {w:Ν} {K:Frag} {mg:Str->Option δ} {base:Heap}
theorem okX {x qual:Str} {st:Stmt} {f:Addr} {fd:Μ} {N ps:List Str} {k:Nat} {sp:Sp} (F:Fun K x qual st f fd) (S:ao N ps (ae st)) (len:∀ vs H Q E,sp vs H Q E->vs.length=ps.length)
  (hbody:∀ (cdv:δ) (A:Χ) (outer:List Env) (s:ζ) (H:Hp) (vs:List V) (Q:VK) (E:XK),bz k (A.deeper (envOfC qual (ae st) s.heap.objs.size f cdv))->sp vs H Q E ->
   ∃ t,PSs (cM (CXe P w) P w K mg base N qual (ae st) f cdv A outer s H E) (bq st) t/\t { nx:=λ_ H'=>Q .non H',rt:=Q } (eh N vs) H):aF P w K mg base (CXe P w) (k + 1) f fd ps sp:=by
 obtain ⟨oc,od,kV,doc,pm,an,cdv,ct,osl,rfl,lk,hcd⟩:=F.ex
 exact we lk hcd S len λA outer s H vs Q E hr hsp=>hbody cdv A outer s H vs Q E hr hsp
structure mV (P:Β) (w:Ν) (K:Frag) (mg:Str->Option δ) (base:Heap) (k:Nat) (x:Str) (ps:List Str) (sp:Sp):Prop where
 ex:∃ f fd,aF P w K mg base (CXe P w) k f fd ps sp/\bx K fd ps []/\keepIn K (.ref f)=true/\mg x=some (.ref f)
theorem mV.up {j k:Nat} {x:Str} {ps:List Str} {sp:Sp} (d:mV P w K mg base j x ps sp) (h:j<=k):mV P w K mg base k x ps sp:=
 let ⟨f,fd,F,b,kp,m⟩:=d.ex
 ⟨f,fd,F.mono h,b,kp,m⟩
variable {N:List Str} {qual:Str} {scope:C1} {f0:Addr} {cd:δ} {A:Χ} {outer:List Env} {s0:ζ} {H0:Hp} {E:XK} {k:Nat} {x:Str} {ps:List Str} {sp:Sp} {p pos:Pos} {e:Expr} {es:List Expr} {t:TA}
theorem pe_defX (d:mV P w K mg base k x ps sp) (hr:bz k (A.deeper (envOfC qual scope s0.heap.objs.size f0 cd))) (hg:Gl (cM (CXe P w) P w K mg base N qual scope f0 cd A outer s0 H0 E) x) (ha:PA (cM (CXe P w) P w K mg base N qual scope f0 cd A outer s0 H0 E) (e :: es) t) (hdb:(x == ("__debug__" : Str))=false:=by decide)
  (he:starEach (e :: es) (cM (CXe P w) P w K mg base N qual scope f0 cd A outer s0 H0 E).env=(false,eval e (cM (CXe P w) P w K mg base N qual scope f0 cd A outer s0 H0 E).env) :: starEach es (cM (CXe P w) P w K mg base N qual scope f0 cd A outer s0 H0 E).env:=by rfl)
  (hpl:(backTo pos (starEach es (cM (CXe P w) P w K mg base N qual scope f0 cd A outer s0 H0 E).env)).any (·.1)=false:=by rfl):PE (cM (CXe P w) P w K mg base N qual scope f0 cd A outer s0 H0 E) (.Call (.Name x p) (e :: es) [] pos) (uk sp [] E t):=by
 obtain ⟨f,fd,F,b,kp,m⟩:=d.ex
 exact qE F hr hg m kp b .nil xF ha hdb he hpl
end
end L2.EX
namespace L2
open PySem PySem.Spec PyProof.Rows PySem.W
section
variable {X:Cx}
end
section
variable {cmp:Nat->Nat->(Bool->ζ->Prop)->ζ->Prop} {n:Nat} {s:ζ}
def Ans (cmp:Nat->Nat->(Bool->ζ->Prop)->ζ->Prop) (n:Nat) (s:ζ):Prop:=∀ i j C,i < n->j < n->(∀ b,C b s)->cmp i j C s
theorem jd {α:Type} {b:Bool} {t u:KasT α} {Q:α->ζ->Prop} (h1:t.kasWp cmp Q s) (h2:u.kasWp cmp Q s):(if b=true then t else u).kasWp cmp Q s:=by
 cases b
 ·exact h2
 ·exact h1
theorem fu {p:Array Nat} {i m:Nat} (r:Re n p):Re n (Fv p i m):=Re.of_perm ((mirror_perm p i m _).trans r.perm)
theorem kD {p:Array Nat} {Q:Nat->ζ->Prop} (O:Ans cmp n s) (r:Re n p):∀ (f m:Nat),1<=m->m + f<=n->(∀ m',m<=m'->m'<=m + f->Q m' s)->(kas_asc p f m).kasWp cmp Q s
 | 0,m,h1,hm,q=>q m (π _) (π _)
 | f + 1,m,h1,hm,q=>O _ _ _ (r.lt m ∅) (r.lt (m - 1) ∅) λb=>jd (q m (π _) ∅) (kD O r f (m + 1) ∅ ∅ λm' a b=>q m' ∅ ∅)
theorem nN {Q:Array Nat×Nat×Nat->ζ->Prop} (O:Ans cmp n s):∀ (f m:Nat) (p:Array Nat) (e:Nat),Re n p->1<=m->m + f<=n->(∀ p' m' e',Re n p'->m<=m'->m'<=m + f->Q (p',m',e') s)->(kas_desc f p m e).kasWp cmp Q s
 | 0,m,p,e,r,h1,hm,q=>q p m e r (π _) (π _)
 | f + 1,m,p,e,r,h1,hm,q=>O _ _ _ (r.lt m ∅) (r.lt (m - 1) ∅) λb=>by
  have go:∀ (p:Array Nat) (e:Nat),Re n p->(kas_desc f p (m + 1) e).kasWp cmp Q s:=λp e r=>nN O f (m + 1) p e r ∅ ∅ λp' m' e' r' a b=>q p' m' e' r' ∅ ∅
  refine jd ?_ (O _ _ _ (r.lt (m - 1) ∅) (r.lt m ∅) λb=>jd (q p m e r (π _) ∅) (go p _ r))
  split
  ·exact go _ _ (fu r)
  ·exact go _ _ r
theorem me {Q:Nat×Array Nat->ζ->Prop} {p:Array Nat} {m:Nat} (O:Ans cmp n s) (r:Re n p) (h1:1<=m) (hm:m + 1<=n) (q:∀ m p',Re n p'->1<=m->m<=n->Q (m,p') s):(kas_descPart m n p).kasWp cmp Q s:=by
 unfold kas_descPart
 rw [m6]
 refine nN O _ _ p 0 r ∅ ∅ λp' m' e' r' a b=>?_
 have go:∀ p:Array Nat,Re n p->(EO m' n p).kasWp cmp Q s:=λp r=>by
  unfold EO
  rw [m6]
  exact kD O (fu r) _ _ ∅ ∅ λm2 a2 b2=>q m2 _ (fu r) ∅ ∅
 show (if e' > 0 then EO m' n (Fv p' (m' - (e' + 1)) m') else EO m' n p').kasWp cmp Q s
 split
 ·exact go _ (fu r')
 ·exact go _ r'
theorem gB {p:Array Nat} {k:Nat} {Q:Nat->ζ->Prop} (O:Ans cmp n s) (r:Re n p) (hk:k < n) (q:∀ l,l<=k->Q l s):∀ (f l e:Nat),l<=e->e<=k->(EQ p k f l e).kasWp cmp Q s
 | 0,l,e,h1,h2=>q l ∅
 | f + 1,l,e,h1,h2=>by
  show (if l>=e then Fu l else _).kasWp cmp Q s
  by_cases h:l>=e
  ·rw [if_pos h]
   exact q l ∅
  ·rw [if_neg h]
   exact O _ _ _ (r.lt k hk) (r.lt _ ∅) λb=>jd (gB O r hk q f l _ ∅ ∅) (gB O r hk q f _ e ∅ h2)
theorem qr {Q:Array Nat->ζ->Prop} (O:Ans cmp n s) (q:∀ p,Re n p->Q p s):∀ (f k:Nat) (p:Array Nat),Re n p->k + f=n->(Fw f p k).kasWp cmp Q s
 | 0,k,p,r,hn=>q p r
 | f + 1,k,p,r,hn=>by
  show ((EQ p k k 0 k).bind λl=>Fw f (bubble p k (k - l)) (k + 1)).kasWp cmp Q s
  rw [m6]
  exact gB O r ∅ (λl hl=>qr O q f (k + 1) _ (Re.of_perm ((bubble_perm p k _).trans r.perm)) ∅) k 0 k (Ω _) (π _)
theorem uz {Q:Array Nat->ζ->Prop} (O:Ans cmp n s) (h2:2<=n) (q:∀ p,Re n p->Q p s):(kas_sort n).kasWp cmp Q s:=by
 unfold kas_sort
 rw [m6]
 have r0:Re n (List.toArray (Φ n)):=Re.of_perm (Array.Perm.refl _)
 have fin:∀ m (p:Array Nat),Re n p->1<=m->m<=n->(if m < n then Fw (n - max m 1) p (max m 1) else .ret p).kasWp cmp Q s:=λm p r h1 hm=>by
  split
  ·exact qr O q _ _ p r ∅
  ·exact q p r
 unfold kas_count
 rw [m6]
 refine kD O r0 (n - 1) 1 (π _) ∅ λm a b=>?_
 by_cases hm:(m == n)=true
 ·rw [if_pos hm]
  exact fin m _ r0 a ∅
 ·rw [if_neg hm]
  have hmn:m≠n:=by simpa using hm
  by_cases h1:m > 1
  ·rw [if_pos h1]
   exact O _ _ _ (r0.lt 0 ∅) (r0.lt (m - 1) ∅) λb=>jd (fin m _ r0 a ∅) (me O (fu r0) a ∅ λm p r x y=>fin m p r x y)
  ·rw [if_neg h1]
   exact me O r0 a ∅ λm p r x y=>fin m p r x y
end
section
variable {X:Cx} {pins:List (Addr×Obj)} {σ:St} {H:Hp} {s:ζ}
theorem sW {A:Χ} {E:δ->ζ->Prop} {l:Addr} {ps:List Str} {Q:δ->ζ->Prop} (I:Inv X pins σ H s) (hq:H l=some (.lst (ps.map V.str))) (h64:ps.length < 64)
  (q:∀ (qs:List Str) (h':Heap),qs.Perm ps->Inv X pins σ (upd H l (.lst (qs.map V.str))) { s with heap:=h' }->Q .none { s with heap:=h' }):wpAny (model X.prog X.w) A (call (.builtin "list.sort") [.ref l]) Q E s:=by
 obtain ⟨hz,its,n,rv,at0⟩:=(show aI X.prog X.w H s.heap l (.lst (ps.map V.str)) from I.hok l _ hq)
 have li:its.length=ps.length:=by have:=rv.length; rw [ε] at this; exact this.symm
 obtain ⟨m,hm,_⟩:=I.loc
 have nL:l≠X.env.locals:=λz=>by rw [z,I.free] at hq; cases hq
 by_cases few:ps.length < 2
 ·refine ϙ Cw ⟨_,at0,rfl⟩ Cf (cw at0 ∅ λhp ep k2 e2=>⟨_,rfl,?_⟩) (Cy _)
  exact q ps hp (C_ _) (I.setList hm hq rv hz (hm.at' λo e=>k2 _ o (ώ nL) e) (λb o _ hb z=>k2 b o hb z) e2)
 ·have F0:Fr (Att.noObjs s.heap) X.env.locals s.heap m:=Att.fr_all hm
  generalize hN:(dQ (Att.noObjs s.heap) s.heap X.env.locals).filter (λp=>decide (p.1≠l))=nw
  have N0:News (Att.noObjs s.heap) X.env.locals s.heap nw:=λp hp=>by rw [<- hN] at hp; exact iI p (i3.mp hp).1
  have nl0:∀ p∈nw,p.1≠l:=λp hp=>by rw [<- hN] at hp; exact of_decide_eq_true (i3.mp hp).2
  refine ϙ Cw ⟨_,at0,rfl⟩ Cf (kat_list_sort F0 N0 at0 nL (Att.noObjs_get _ _) nl0 ∅ ∅ λe1 h' F' N'=>?_) (Cy _)
  have keep:∀ (g:Heap) (x:Obj),News (Att.noObjs s.heap) X.env.locals g ((l,x) :: nw)->∀ b o,b≠X.env.locals->b≠l->s.heap.get? b=some o->g.get? b=some o:=λg x N b o hb hl e=>
   (N (b,o) (ρ _ (by rw [<- hN]; exact i3.mpr ⟨dl hb (Att.noObjs_get _ _) e,decide_eq_true hl⟩))).1
  have kk:keyKind' its.toArray=pure oneType':=by
   have st:=fS rv
   match its,li,st with
   | v1 :: v2 :: r,_,st=>exact keyKind_strs st
   | [_],li,_=>simp at li; omega
   | [],li,_=>simp at li; omega
  rw [kk]
  refine μ ?_
  rw [li]
  have O:Ans (kas_ask X.prog X.w A.in1 oneType' its) ps.length { s with heap:=h' }:=λi j C hi hj hC=>by
   show wpAny _ _ (keyLt' _ _ _) C _ _
   obtain ⟨t1,e1⟩:=cp rv i hi
   obtain ⟨t2,e2⟩:=cp rv j hj
   rw [e1,e2]
   exact kas_lt_str (hC _)
  refine uz O ∅ λp re=>?_
  have hl2:p.toList.Perm (Φ ps.length):=by simpa using p_.mp re.perm
  have outs:∀ il:List Nat,(∀ i∈il,i < ps.length)->ar ((il.map λi=>ps.getD i default).map V.str) (il.map λi=>its.getD i .none):=by
   intro il
   induction il with
   | nil=>intro _; exact .nil
   | cons i il ih=>
    intro h
    obtain ⟨t1,e1⟩:=cp rv i (h i Δ)
    refine .cons ?_ (ih λx hx=>h x (ρ _ hx))
    exact ⟨t1,e1⟩
  have rv2:=outs p.toList λi hi=>ϸ.mp ((C7 hl2).mp hi)
  refine KasFin.intro (news:=(l,seqObj "list" #[] e1) :: nw) (g:=λo'=>(l,o') :: nw) F' N' (.head nl0) λh2 c F2 N2=>?_
  have pq:=gs (d:=default) rfl re
  have I2:=I.setList (D:=l) hm hq rv2 (by rw [ε,pq.length_eq]; simpa using hz) F2.ns (keep h2 _ N2) (N2 (l,_) Δ).1
  exact ⟨_,rfl,q _ h2 pq I2⟩
end
section
variable {X:Cx}
theorem pX {pins:List (Addr×Obj)} {σ:St} {H:Hp} {s:ζ} {A:Χ} {E:δ->ζ->Prop} {l:Addr} {ps:List Str} {Q:δ->ζ->Prop} (I:Inv X pins σ H s) (hq:H l=some (.lst (ps.map V.str))) (h64:ps.length < 64)
  (q:∀ (qs:List Str) (h':Heap),qs.Perm ps->(ps.Nodup->qs.Pairwise lK)->Inv X pins σ (upd H l (.lst (qs.map V.str))) { s with heap:=h' }->Q .none { s with heap:=h' }):wpAny (model X.prog X.w) A (call (.builtin "list.sort") [.ref l]) Q E s:=by
 by_cases nd:ps.Nodup
 ·exact jE I hq nd h64 λqs h' p w I'=>q qs h' p (λ_=>w) I'
 ·exact sW I hq h64 λqs h' p I'=>q qs h' p (λz=>absurd z nd) I'
theorem kC {prog:Β} {w:Ν} {A:Χ} {E:δ->ζ->Prop} {s:ζ} {l:Addr} {vs:List δ} {Q:List δ->ζ->Prop} (hl:s.heap.IsTuple l vs.toArray)
  (h:Q vs { s with heap:=(s.heap.push (seqObj "list" #[] 0)).update s.heap.objs.size (i5 (· ++ vs.toArray)) }) (hsz:vs.length<=sizeLine):wpAny (model prog w) A (collect (.ref l)) Q E s:=by
 obtain ⟨o,ho,hc,n,hd⟩:=id hl
 unfold collect
 refine γ (Db (c9 entry_proto_collect' ?_))
 show wpAny _ _ (do again (.builtin "list.__iadd__" ⟨[<- newList [],.ref l],[]⟩)) _ _ s
 refine γ (Dy (μ ⟨z_ _ ∅,c9 entry_list_iadd' ?_⟩))
 show wpAny _ _ (ϩ (.ref s.heap.objs.size) (.ref l) (.ref s.heap.objs.size)) _ _ { s with heap:=s.heap.push (seqObj "list" #[] 0) }
 unfold ϩ
 have ho':(s.heap.push (seqObj "list" #[] 0)).get? l=some o:=η _ ho
 refine γ (B9 (T:="tuple") ⟨o,ho',hc⟩ ?_)
 rw [if_pos (by rw [show (k7 "tuple" == k7 "tuple")=true by rfl]; simp)]
 refine γ (listItems_at ho' hd (γ (listItems_at (xs:=#[]) (n:=0) (τ _ rfl) rfl ?_)))
 rw [if_neg ∅]
 refine γ (listUpdate_at (xs:=#[]) (n:=0) (τ _ rfl) rfl ?_ (Ω _) (by show (#[] ++ vs.toArray).size<=sizeLine + 1; simp only [EF,ς,u_]; omega))
 refine μ ?_
 show wpAny (model prog w) A (do
   let o <- load s.heap.objs.size
   match o.data with
   | .seq xs _=>pure xs.toList
   | _=>unsupported "internal:collect") Q E { s with heap:=(s.heap.push (seqObj "list" #[] 0)).update s.heap.objs.size (i5 (· ++ vs.toArray)) }
 refine γ (Fp (E7 (τ _ rfl) _) ?_)
 show wpAny _ _ (pure ((#[]:Array δ) ++ vs.toArray).toList) Q E _
 rw [show ((#[]:Array δ) ++ vs.toArray).toList=vs by simp]
 exact μ h
theorem fQ:bE X (.builtin "sorted") (λxs H Q=>∃ (a:Addr) (ps:List Str),xs=[.ref a]/\(H a=some (.lst (ps.map V.str))\/H a=some (.tup (ps.map V.str)))/\ps.length < 64 /\
  ∀ (l:Addr) (qs:List Str),H l=none->qs.Perm ps->(ps.Nodup->qs.Pairwise lK)->Q (.ref l) (upd H l (.lst (qs.map V.str)))):=by
 intro pins s σ H xs us Q I r h
 obtain ⟨a,ps,rfl,ha,h64,q⟩:=h
 obtain ⟨u,rfl,ru⟩:=cj r
 cases ru
 refine CI kind_sorted plain_sorted entry_sorted (args_sorted1 _) ?_
 unfold Ϡ.«sorted»
 refine γ (m:=checkCount "sorted" 1 1 _) (μ (γ ?_))
 obtain ⟨its,rv,at0⟩:∃ its,ar (ps.map V.str) its/\((∃ n,s.heap.get? a=some (seqObj "list" its.toArray n))\/s.heap.IsTuple a its.toArray):=by
  rcases ha with ha | ha
  ·obtain ⟨hz,its,n,rv,at0⟩:=(show aI X.prog X.w H s.heap a (.lst (ps.map V.str)) from I.hok a _ ha)
   exact ⟨its,rv,.inl ⟨n,at0⟩⟩
  ·obtain ⟨hz,its,rv,at0,_⟩:=(show aI X.prog X.w H s.heap a (.tup (ps.map V.str)) from I.hok a _ ha)
   exact ⟨its,rv,.inr at0⟩
 have li:its.length=ps.length:=by have:=rv.length; rw [ε] at this; exact this.symm
 have line:its.length<=sizeLine:=by rw [υ]; omega
 have kp:∀ b o,s.heap.get? b=some o->((s.heap.push (seqObj "list" #[] 0)).update s.heap.objs.size (i5 (· ++ its.toArray))).get? b=some o:=λb o e=>by
  rw [DP _ _ _ _ (nlt (χ e)),Co _ _ _ (nlt (χ e))]
  exact e
 rcases at0 with ⟨n,at0⟩ | at0
 refine collect_list (vs:=its) ⟨_,at0,rfl,_,rfl⟩ ?_ line
 rotate_left
 refine kC (vs:=its) at0 ?_ line
 all_goals
  generalize (s.heap.push (seqObj "list" #[] 0)).update s.heap.objs.size (i5 (· ++ its.toArray))=h' at kp ⊢
  have I1:Inv X pins σ H { s with heap:=h' }:=I.call (ch:=[]) (Un.kept kp) (I.hok.kept kp) I.bare λb hb=>nomatch hb
  refine γ (Dy ?_ line)
  have I2:=I1.lnew (t':=s.toks) rv (by rw [ε,υ]; omega)
  refine γ (ϻ (pX (A:=X.A.in1) (l:=h'.objs.size) (ps:=ps) I2 aa h64 λqs h2 pq pw I3=>?_))
  rw [qg] at I3
  exact μ ⟨_,rfl,.ref h'.objs.size,_,I3,rfl,q _ qs I1.fresh pq pw⟩
theorem rD (hu:X.A.units < cLine):OpR X (compareOp .NotEq) (λx y H Q=>∃ (l b:Addr) (xs ys:List Str) (k:Bool),x=.ref l/\y=.ref b/\SqL X.K H l (xs.map V.str)/\SqL X.K H b (ys.map V.str)/\(if k=true then xs.length≠ys.length else xs=ys)/\Q (.bl k) H):=by
 intro pins s σ H x y v u Q I rx ry h
 obtain ⟨l,b,xs,ys,k,rfl,rfl,hl,hb,hk,q⟩:=h
 cases k with
 | false=>
  rw [if_neg ∅] at hk
  subst hk
  exact zz hu pins s σ H _ _ v u Q I rx ry ⟨l,b,xs,rfl,rfl,hl,hb,q⟩
 | true=>
  rw [if_pos rfl] at hk
  cases rx
  cases ry
  obtain ⟨its,r1,p1,_⟩:=I.list hl
  obtain ⟨its2,r2,p2,_⟩:=I.list hb
  have l1:=r1.length
  have l2:=r2.length
  rw [ε] at l1 l2
  refine Eo p1.isList p2.isList ?_ hu X.prog X.w X.xe _ ⟨.bl true,H,I,rfl,q⟩
  rw [ς,ς,bne_iff_ne]
  omega
theorem yT {xs ys:List Str} (h1:xs.Pairwise lK) (h2:ys.Pairwise lK) (p:xs.Perm ys):xs=ys:=Fm.eq_of_pairwise (λa b _ _ h g=>absurd h (List.lt_asymm g)) h1 h2 p
end
end L2
namespace WR
open PySem L2 L2.EX
structure Bx (p:Prop):Prop where
 h:p
theorem ap {p:Prop} (h:p):autoParam p Lean.Syntax.missing:=h
def okV (N:List Str) (sc:C1) (i:Nat) (x:Str):Bool:=decide (N[i]?=some x) && ((sc.names.lookup x == some .local || sc.names.lookup x == some .cell || sc.names.lookup x == some .free) && (x == ("__debug__" : Str) || x == ("__classdict__" : Str)) == false)
theorem wv {X:Cx} (i:Nat) {x:Str} {pos:Pos} (h:okV X.N X.env.scope i x=true):Bx (PE X (.Name x pos) (iP i)):=by
 simp only [okV,Ε,DH,decide_eq_true_eq,beq_iff_eq] at h
 obtain ⟨a,b,c⟩:=h
 have c1:=Bool.or_eq_false_iff.mp c
 exact ⟨pv i a (by rcases b with (b | b) | b; exact .inl b; exact .inr (.inl b); exact .inr (.inr b)) c1.1 c1.2⟩
def wab:=λ{v0 v1 v2} (v3:Bx _)=>Bx.mk (@L2.PW.pt v0 v1 v2 v3.h)
def wac:=λ{v0 v1 v2 v3 v4 v5 v6 v7} (v8:Bx _) (v9:Bx _) (v10:Bx _)=>Bx.mk (@L2.pe_ifExp v0 v1 v2 v3 v4 v5 v6 v7 v8.h v9.h v10.h)
def wae:=λ{v0 v1 v2 v3 v4} (v5:Bx _) (v6:Bx _) v7=>Bx.mk (@L2.pa_cons v0 v1 v2 v3 v4 v5.h v6.h (ap v7))
def waf:=λ{v0}=>Bx.mk (@L2.pa_nil v0)
def wag:=λ{v0 v1 v2 v3 v4 v5 v6} (v7:Bx _) (v8:Bx _)=>Bx.mk (@L2.pe_and v0 v1 v2 v3 v4 v5 v6 v7.h v8.h)
def wah:=λ{v0 v1 v2 v3}=>Bx.mk (@L2.pe_bl v0 v1 v2 v3)
def wai:=λ{v0 v1 v3 v4} v2 v5 v6 v7 v8 v9 v10=>Bx.mk (@L2.pe_bltn v0 v1 v2 v3 v4 v5 v6 v7 v8 (ap v9) (ap v10))
def waj:=λ{v0 v1 v2 v3 v4 v5 v6 v7 v8 v9 v10 v11} v12 v13 v14 v15 (v16:Bx _) (v17:Bx _) v18 v19 v20 v21 v22=>Bx.mk (@L2.pe_bm v0 v1 v2 v3 v4 v5 v6 v7 v8 v9 v10 v11 v12 v13 v14 v15 v16.h v17.h (ap v18) (ap v19) (ap v20) (ap v21) (ap v22))
def wak:=λ{v0 v1 v2 v3 v4 v5 v6 v7 v8} v9 v10 v11 v12 (v13:Bx _) v14 v15=>Bx.mk (@L2.pe_bm0 v0 v1 v2 v3 v4 v5 v6 v7 v8 v9 v10 v11 v12 v13.h (ap v14) (ap v15))
def wal:=λ{v0 v1 v2 v3 v4 v5 v6 v7 v8} v9 v10 v11 v12 (v13:Bx _) v14 v15 v16 v17=>Bx.mk (@L2.pe_callB v0 v1 v2 v3 v4 v5 v6 v7 v8 v9 v10 v11 v12 v13.h (ap v14) (ap v15) (ap v16) (ap v17))
def wam:=λ{v0 v1 v2 v3 v4 v5 v6 v7 v8} v9 v10 v11 v12 (v13:Bx _) v14 v15 v16 v17=>Bx.mk (@L2.pe_callTy v0 v1 v2 v3 v4 v5 v6 v7 v8 v9 v10 v11 v12 v13.h (ap v14) (ap v15) (ap v16) (ap v17))
def wan:=λ{v0 v1 v2 v3 v4 v5 v6 v7 v8 v9 v10 v11} v12 v13 v14 v15 v16 (v17:Bx _) v18 v19 v20 v21 v22 v23=>Bx.mk (@L2.pe_callV v0 v1 v2 v3 v4 v5 v6 v7 v8 v9 v10 v11 v12 v13 v14 v15 v16 v17.h (ap v18) (ap v19) (ap v20) (ap v21) (ap v22) (ap v23))
def wao:=λ{v0 v1 v2 v3 v4 v5 v6 v7 v8 v9 v10 v11} v12 v13 (v14:Bx _) (v15:Bx _) (v16:Bx _) v17=>Bx.mk (@L2.pe_chain v0 v1 v2 v3 v4 v5 v6 v7 v8 v9 v10 v11 v12 v13 v14.h v15.h v16.h (ap v17))
def wap:=λ{v0 v1 v2 v3 v4 v5 v6 v7} v8 (v9:Bx _) (v10:Bx _) v11=>Bx.mk (@L2.pe_cmpR v0 v1 v2 v3 v4 v5 v6 v7 v8 v9.h v10.h v11)
def waq:=λ{v0 v1 v2 v3 v4 v5 v6 v7 v8 v9} v10 v11 v12 (v13:Bx _) v14 v15 v16=>Bx.mk (@L2.pe_def v0 v1 v2 v3 v4 v5 v6 v7 v8 v9 v10 v11 v12 v13.h (ap v14) (ap v15) (ap v16))
def waA:=λ{v0 v1}=>Bx.mk (@L2.pe_dnewK v0 v1)
def waB:=λ{v0 v1 v3 v4} v2 v5 v6 v7 v8=>Bx.mk (@L2.pe_glob v0 v1 v2 v3 v4 v5 v6 v7 (ap v8))
def waC:=λ{v0 v1 v2 v3}=>Bx.mk (@L2.pe_int v0 v1 v2 v3)
def waD:=λ{v0 v1 v2 v3 v4 v5 v6} v7 (v8:Bx _) (v9:Bx _) v10=>Bx.mk (@L2.pe_ix v0 v1 v2 v3 v4 v5 v6 v7 v8.h v9.h v10)
def waE:=λ{v0 v1 v4 v5 v6 v7 v8 v9 v10 v11 v12} v2 v3 (v13:Bx _) v14 v15 (v16:∀ x0 x1 x2,Bx _) v17 (v18:∀ x0 x1 x2,Bx _) (v19:∀ x0 x1 x2,Bx _) v20=>Bx.mk (@L2.pe_lc v0 v1 v2 v3 v4 v5 v6 v7 v8 v9 v10 v11 v12 v13.h v14 v15 (λx0 x1 x2=>(v16 x0 x1 x2).h) v17 (λx0 x1 x2=>(v18 x0 x1 x2).h) (λx0 x1 x2=>(v19 x0 x1 x2).h) (ap v20))
def waF:=λ{v0 v1 v2 v3 v4 v5 v6} v7 v8 v9 v10 v11 (v12:Bx _) v13 v14=>Bx.mk (@L2.pe_listrev v0 v1 v2 v3 v4 v5 v6 v7 v8 v9 v10 v11 v12.h (ap v13) (ap v14))
def waM:=λ{v0 v1 v2 v3} (v4:Bx _)=>Bx.mk (@L2.pe_lst v0 v1 v2 v3 v4.h)
def waN:=λ{v0 v1 v2}=>Bx.mk (@L2.pe_non v0 v1 v2)
def waO:=λ{v0 v1 v2 v3} (v4:Bx _)=>Bx.mk (@L2.pe_not v0 v1 v2 v3 v4.h)
def waP:=λ{v0 v1 v2 v3 v4} (v5:Bx _)=>Bx.mk (@L2.pe_one v0 v1 v2 v3 v4 v5.h)
def waQ:=λ{v0 v1 v2 v3 v4 v5 v6 v7} v8 (v9:Bx _) (v10:Bx _)=>Bx.mk (@L2.pe_op v0 v1 v2 v3 v4 v5 v6 v7 v8 v9.h v10.h)
def waR:=λ{v0 v1 v2 v3 v4 v5 v6} (v7:Bx _) (v8:Bx _)=>Bx.mk (@L2.pe_or v0 v1 v2 v3 v4 v5 v6 v7.h v8.h)
def waT:=λ{v0 v1 v2 v3 v4 v5 v6 v7 v8 v9} v10 (v11:Bx _) (v12:Bx _) (v13:Bx _)=>Bx.mk (@L2.pe_slice v0 v1 v2 v3 v4 v5 v6 v7 v8 v9 v10 v11.h v12.h v13.h)
def waV:=λ{v0 v1 v2 v3}=>Bx.mk (@L2.pe_str v0 v1 v2 v3)
def waX:=λ{v0 v1 v2 v3 v4} (v5:Bx _)=>Bx.mk (@L2.pe_tup v0 v1 v2 v3 v4 v5.h)
def waY:=λ{v0 v1 v2 v3 v4 v5} v6 (v7:Bx _)=>Bx.mk (@L2.pe_un v0 v1 v2 v3 v4 v5 v6 v7.h)
def waZ:=λ{v0 v1 v3} v2 v4 v5 v6 v7=>Bx.mk (@L2.pg_name v0 v1 v2 v3 v4 v5 v6 (ap v7))
def wba:=λ{v0 v1 v2 v3 v4 v5 v6} (v7:Bx _) (v8:Bx _) v9 v10=>Bx.mk (@L2.pg_sub v0 v1 v2 v3 v4 v5 v6 v7.h v8.h v9 (ap v10))
def wbb:=λ{v0 v1 v2 v3 v4 v5} v6 (v7:Bx _) v8 v9=>Bx.mk (@L2.pg_tup v0 v1 v2 v3 v4 v5 v6 v7.h (ap v8) (ap v9))
def wbd:=λ{v0 v1 v2 v3 v4} (v5:Bx _) (v6:Bx _) v7=>Bx.mk (@L2.pgs_cons v0 v1 v2 v3 v4 v5.h v6.h (ap v7))
def wbe:=λ{v0}=>Bx.mk (@L2.pgs_nil v0)
def wbg:=λ{v0 v1 v2 v3 v4 v5 v6 v7} v8 v9 (v10:Bx _) v11=>Bx.mk (@L2.pi_enum v0 v1 v2 v3 v4 v5 v6 v7 v8 v9 v10.h (ap v11))
def wbi:=λ{v0 v1 v2 v3} (v4:Bx _)=>Bx.mk (@L2.pi_list v0 v1 v2 v3 v4.h)
def wbk:=λ{v0 v1 v2 v3 v4 v5} v6 v7 (v8:Bx _) v9=>Bx.mk (@L2.pi_range1 v0 v1 v2 v3 v4 v5 v6 v7 v8.h (ap v9))
def wbm:=λ{v0 v1 v2 v3 v4 v5 v6 v7} v8 v9 (v10:Bx _) v11 v12=>Bx.mk (@L2.pi_range3 v0 v1 v2 v3 v4 v5 v6 v7 v8 v9 v10.h (ap v11) (ap v12))
def wbn:=λ{v0 v1 v2 v3} (v4:Bx _)=>Bx.mk (@L2.pi_str v0 v1 v2 v3 v4.h)
def wbo:=λ{v0 v1 v2 v3} (v4:Bx _)=>Bx.mk (@L2.pi_tup v0 v1 v2 v3 v4.h)
def wbs:=λ{v0 v1 v2 v3 v4 v5 v6 v7 v8} v9 v10 (v11:Bx _) v12 v13=>Bx.mk (@L2.pi_zipTT v0 v1 v2 v3 v4 v5 v6 v7 v8 v9 v10 v11.h (ap v12) (ap v13))
def wbu:=λ{v0 v1 v2 v3 v4 v5 v6 v7} v8 (v9:Bx _) (v10:Bx _) v11=>Bx.mk (@L2.pe_getF v0 v1 v2 v3 v4 v5 v6 v7 v8 v9.h v10.h v11)
def wbw:=λ{v0 v1 v2 v3 v4 v5 v6} (v7:Bx _) (v8:Bx _)=>Bx.mk (@L2.pe_revL v0 v1 v2 v3 v4 v5 v6 v7.h v8.h)
def wbx:=λ{v0}=>Bx.mk (@L2.pif_nil v0)
def wbz:=λ{v0}=>Bx.mk (@L2.po_none v0)
def wbA:=λ{v0 v1 v2} (v3:Bx _)=>Bx.mk (@L2.po_some v0 v1 v2 v3.h)
def wbD:=λ{v0 v1 v2 v3 v4 v5} (v6:Bx _) (v7:Bx _) v8 v9 v10=>Bx.mk (@L2.ps_asg v0 v1 v2 v3 v4 v5 v6.h v7.h (ap v8) (ap v9) (ap v10))
def wbE:=λ{v0 v1 v3 v4 v5 v6 v7 v8} v2 v9 v10 v11 (v12:Bx _) v13 v14=>Bx.mk (@L2.ps_aug v0 v1 v2 v3 v4 v5 v6 v7 v8 v9 v10 v11 v12.h v13 (ap v14))
def wbF:=λ{v0 v1 v2 v3 v4 v5 v6 v7 v8} v9 (v10:Bx _) (v11:Bx _) (v12:Bx _) v13=>Bx.mk (@L2.ps_dput v0 v1 v2 v3 v4 v5 v6 v7 v8 v9 v10.h v11.h v12.h v13)
def wbG:=λ{v0 v1 v2 v3} (v4:Bx _) v5=>Bx.mk (@L2.ps_expr v0 v1 v2 v3 v4.h (ap v5))
def wbH:=λ{v0 v1 v2 v3 v4 v5 v6 v7} v8 v9 (v10:Bx _) (v11:Bx _) (v12:Bx _) v13=>Bx.mk (@L2.ps_for v0 v1 v2 v3 v4 v5 v6 v7 v8 v9 v10.h v11.h v12.h (ap v13))
def wbI:=λ{v0 v1 v2 v3 v4 v5 v6 v7} (v8:Bx _) (v9:Bx _) (v10:Bx _)=>Bx.mk (@L2.ps_if v0 v1 v2 v3 v4 v5 v6 v7 v8.h v9.h v10.h)
def wbJ:=λ{v0 v1 v4 v5 v6 v7 v8 v9 v10 v11 v12 v13 v14 v16} v2 v3 v15 v17 v18 v19 (v20:Bx _) v21 v22 (v23:∀ x0 x1 x2,Bx _) v24 (v25:∀ x0 x1 x2,Bx _) (v26:∀ x0 x1 x2,Bx _) v27 v28=>Bx.mk (@L2.ps_lc v0 v1 v2 v3 v4 v5 v6 v7 v8 v9 v10 v11 v12 v13 v14 v15 v16 v17 v18 v19 v20.h v21 v22 (λx0 x1 x2=>(v23 x0 x1 x2).h) v24 (λx0 x1 x2=>(v25 x0 x1 x2).h) (λx0 x1 x2=>(v26 x0 x1 x2).h) (ap v27) (ap v28))
def wbK:=λ{v0 v1 v2 v3} (v4:Bx _)=>Bx.mk (@L2.ps_ret v0 v1 v2 v3 v4.h)
def wbM:=λ{v0 v1 v3 v4 v5 v6} v2 v7 v8 v9 (v10:Bx _) v11 v12=>Bx.mk (@L2.ps_set v0 v1 v2 v3 v4 v5 v6 v7 v8 v9 v10.h (ap v11) (ap v12))
def wbN:=λ{v0 v1 v2 v3 v4 v5} v6 (v7:Bx _) (v8:Bx _)=>Bx.mk (@L2.ps_while v0 v1 v2 v3 v4 v5 v6 v7.h v8.h)
def wbO:=λ{v0 v1 v2 v3 v4} (v5:Bx _) (v6:Bx _)=>Bx.mk (@L2.pss_cons v0 v1 v2 v3 v4 v5.h v6.h)
def wbP:=λ{v0}=>Bx.mk (@L2.pss_nil v0)
def wbQ:=λ{v0 v1 v2} (v3:Bx _)=>Bx.mk (@L2.pss_one v0 v1 v2 v3.h)
def wbR:=λ{v0 v1 v2 v3 v4 v5 v6 v7 v8 v9 v10 v11} v12 v13 (v14:Bx _) (v15:Bx _) (v16:Bx _) v17=>Bx.mk (@L2.pt_chain v0 v1 v2 v3 v4 v5 v6 v7 v8 v9 v10 v11 v12 v13 v14.h v15.h v16.h (ap v17))
def wbS:=λ{v0 v1 v2 v3 v4 v5 v6 v7} v8 (v9:Bx _) (v10:Bx _) v11=>Bx.mk (@L2.pt_cmpR v0 v1 v2 v3 v4 v5 v6 v7 v8 v9.h v10.h v11)
def wbT:=λ{v0 v1 v2 v3} (v4:Bx _)=>Bx.mk (@L2.pt_not v0 v1 v2 v3 v4.h)
def wbU:=λ{v0 v1 v2} (v3:Bx _) v4=>Bx.mk (@L2.pt_truth v0 v1 v2 v3.h v4)
def wbV:=λ{v0 v1 v2} (v3:Bx _) v4=>Bx.mk (@L2.pt_val v0 v1 v2 v3.h (ap v4))
def wbW:=λ{v0 v1 v2 v3 v4 v5 v6} (v7:Bx _) (v8:Bx _)=>Bx.mk (@L2.pw_and v0 v1 v2 v3 v4 v5 v6 v7.h v8.h)
def wbX:=λ{v0 v1 v2 v3} (v4:Bx _)=>Bx.mk (@L2.pw_and1 v0 v1 v2 v3 v4.h)
def wbY:=λ{v0 v1 v2 v3 v4 v5 v6} (v7:Bx _) (v8:Bx _)=>Bx.mk (@L2.pw_or v0 v1 v2 v3 v4 v5 v6 v7.h v8.h)
def wbZ:=λ{v0 v1 v2 v3} (v4:Bx _)=>Bx.mk (@L2.pw_or1 v0 v1 v2 v3 v4.h)
def wca:=λ{v0 v1 v2 v3 v4 v5 v6 v7 v8 v9 v10 v11 v12 v13 v14} v15 v16 v17 v18 v19 v20 v21 (v22:Bx _) v23 v24 v25=>Bx.mk (@L2.EX.ps_raise v0 v1 v2 v3 v4 v5 v6 v7 v8 v9 v10 v11 v12 v13 v14 v15 v16 v17 v18 v19 v20 v21 v22.h (ap v23) (ap v24) (ap v25))
def wcb:=λ{v0 v1 v2 v3 v4 v5 v6 v7 v8 v9 v10 v11 v12 v13 v14 v15 v16 v17 v18 v19 v20 v21 v22 v23} v24 v25 v26 (v27:Bx _) v28 v29 v30=>Bx.mk (@L2.EX.pe_defX v0 v1 v2 v3 v4 v5 v6 v7 v8 v9 v10 v11 v12 v13 v14 v15 v16 v17 v18 v19 v20 v21 v22 v23 v24 v25 v26 v27.h (ap v28) (ap v29) (ap v30))
def wcc:=λ{v0 v3 v4 v5 v6 v7 v8 v9 v10 v11 v12 v13 v14 v15 v16 v18 v19 v20 v21 v22 v23} v1 v2 v17 v24 v25 v26 v27 v28 v29 (v30:Bx _) v31 v32 v33 v34 v35 v36 v37 v38 v39 v40 (v41:∀ x0,Bx _) v42 v43 v44 v45 v46=>Bx.mk (@L2.EX.ps_try v0 v1 v2 v3 v4 v5 v6 v7 v8 v9 v10 v11 v12 v13 v14 v15 v16 v17 v18 v19 v20 v21 v22 v23 v24 v25 v26 v27 v28 v29 v30.h v31 v32 v33 v34 v35 v36 v37 v38 v39 v40 (λx0=>(v41 x0).h) (ap v42) (ap v43) (ap v44) (ap v45) (ap v46))
def wcd:=λ{v0 v3 v4 v5 v6 v7 v8 v9} v1 v2 v10 v11 v12 (v13:Bx _) v14 v15 v16=>Bx.mk (@L2.EX.pe_vinit v0 v1 v2 v3 v4 v5 v6 v7 v8 v9 v10 v11 v12 v13.h (ap v14) (ap v15) (ap v16))
def wce:=λ{v0 v3 v4 v5 v6 v7 v8} v1 v2 (v9:Bx _) (v10:Bx _) v11=>Bx.mk (@L2.EX.ps_xset v0 v1 v2 v3 v4 v5 v6 v7 v8 v9.h v10.h (ap v11))
def wcf:=λ{v0 v3 v4 v5} v1 v2 (v6:Bx _) v7=>Bx.mk (@L2.EX.pe_xfld v0 v1 v2 v3 v4 v5 v6.h (ap v7))
theorem un {X:Cx} {b:List Stmt} {t:TS} (h:Bx (PSs X b t)):PSs X b t:=h.h
end WR
namespace K26
open PySem L2 KB XB WR
def top (i : Nat) : Stmt := PySem.Challenge.pw_indexwise_k26_told_twice.main.body.getD i (.Pass ⟨0, 0, 0, 0⟩)
def vM:List Str:=["plus","minus","times","less","same"]
structure Txt (K:ι) (mg:Str->Option δ):Prop where
 len:mg "len"=none
 isinstance:mg "isinstance"=none
 int:mg "int"=none
 bool:mg "bool"=none
 str:mg "str"=none
 tuple:mg "tuple"=none
 list:mg "list"=none
 all:mg "all"=none
 zip:mg "zip"=none
 range:mg "range"=none
 enumerate:mg "enumerate"=none
 max:mg "max"=none
 set:mg "set"=none
 sorted:mg "sorted"=none
 reversed:mg "reversed"=none
 any:mg "any"=none
 ValueError:mg "ValueError"=none
 lLONGEST_NAME:∃ t,mg "LONGEST_NAME"=some (.int 8 t)
 lGREATEST_SIZE:∃ t,mg "GREATEST_SIZE"=some (.int 12 t)
 lGREATEST_NUMBER:∃ t,mg "GREATEST_NUMBER"=some (.int 99 t)
 lWHOLE_BOUND:∃ t,mg "WHOLE_BOUND"=some (.int 1000000000000 t)
 lMOST_NODES:∃ t,mg "MOST_NODES"=some (.int 40 t)
 lMOST_ABOVE:∃ t,mg "MOST_ABOVE"=some (.int 7 t)
 lMOST_THINGS:∃ t,mg "MOST_THINGS"=some (.int 4 t)
 lMOST_ROWS:∃ t,mg "MOST_ROWS"=some (.int 12 t)
theorem Txt.g_LONGEST_NAME {X:Cx} {pos:Pos} (T:Txt X.K X.mg) (hg:Gl X "LONGEST_NAME"):PE X (.Name "LONGEST_NAME" pos) (tC (.int 8)):=by
 obtain ⟨t,e⟩:=T.lLONGEST_NAME
 exact pe_glob hg e ⟨t,rfl⟩
theorem Txt.g_GREATEST_SIZE {X:Cx} {pos:Pos} (T:Txt X.K X.mg) (hg:Gl X "GREATEST_SIZE"):PE X (.Name "GREATEST_SIZE" pos) (tC (.int 12)):=by
 obtain ⟨t,e⟩:=T.lGREATEST_SIZE
 exact pe_glob hg e ⟨t,rfl⟩
theorem Txt.g_GREATEST_NUMBER {X:Cx} {pos:Pos} (T:Txt X.K X.mg) (hg:Gl X "GREATEST_NUMBER"):PE X (.Name "GREATEST_NUMBER" pos) (tC (.int 99)):=by
 obtain ⟨t,e⟩:=T.lGREATEST_NUMBER
 exact pe_glob hg e ⟨t,rfl⟩
theorem Txt.g_WHOLE_BOUND {X:Cx} {pos:Pos} (T:Txt X.K X.mg) (hg:Gl X "WHOLE_BOUND"):PE X (.Name "WHOLE_BOUND" pos) (tC (.int 1000000000000)):=by
 obtain ⟨t,e⟩:=T.lWHOLE_BOUND
 exact pe_glob hg e ⟨t,rfl⟩
theorem Txt.g_MOST_NODES {X:Cx} {pos:Pos} (T:Txt X.K X.mg) (hg:Gl X "MOST_NODES"):PE X (.Name "MOST_NODES" pos) (tC (.int 40)):=by
 obtain ⟨t,e⟩:=T.lMOST_NODES
 exact pe_glob hg e ⟨t,rfl⟩
theorem Txt.g_MOST_ABOVE {X:Cx} {pos:Pos} (T:Txt X.K X.mg) (hg:Gl X "MOST_ABOVE"):PE X (.Name "MOST_ABOVE" pos) (tC (.int 7)):=by
 obtain ⟨t,e⟩:=T.lMOST_ABOVE
 exact pe_glob hg e ⟨t,rfl⟩
theorem Txt.g_MOST_THINGS {X:Cx} {pos:Pos} (T:Txt X.K X.mg) (hg:Gl X "MOST_THINGS"):PE X (.Name "MOST_THINGS" pos) (tC (.int 4)):=by
 obtain ⟨t,e⟩:=T.lMOST_THINGS
 exact pe_glob hg e ⟨t,rfl⟩
theorem Txt.g_MOST_ROWS {X:Cx} {pos:Pos} (T:Txt X.K X.mg) (hg:Gl X "MOST_ROWS"):PE X (.Name "MOST_ROWS" pos) (tC (.int 12)):=by
 obtain ⟨t,e⟩:=T.lMOST_ROWS
 exact pe_glob hg e ⟨t,rfl⟩
abbrev eF:Stmt:=top 15
abbrev gF:Stmt:=top 16
abbrev gv:Stmt:=top 17
abbrev dm:Stmt:=top 18
abbrev dy:Stmt:=top 19
def bA:Dv->Bool
 | .int _=>true
 | _=>false
def aV:Dv->Bool
 | .str x=>nmB x
 | _=>false
def geD (k:Int):Dv->Bool
 | .int i=>decide (k<=i)
 | _=>false
def eD:Dv->Bool
 | .tup [a,b]=>aV a && (bA b && geD 1 b)
 | _=>false
def headD:Dv->Str
 | .tup (.str x :: _)=>x
 | _=>""
def goD (last:Str):List Dv->Bool
 | []=>true
 | p :: r=>eD p && (decide (last.cps.toList < (headD p).cps.toList) && goD (headD p) r)
def iA:Dv->Bool
 | .tup xs=>goD "" xs
 | _=>false
def mZ:Dv->Bool
 | .tup [a,b]=>bA a && (geD 0 a && iA b)
 | _=>false
def spD (f:Dv->Bool):Sp:=λvs H Q _=>∃ v d,vs=[v]/\Rep H d v/\∀ H',af H H'->Q (.bl (f d)) H'
variable {P:Β} {w:Ν} {K:ι} {mg:Str->Option δ} {base:Heap}
theorem lW:ao ["thing"] ["thing"] (ae eF):=by trivial
theorem nF {f:Addr} {fd:Μ} (F:Fun K "is_whole" "is_whole" eF f fd) (T:Txt K mg):aF P w K mg base CX0 1 f fd ["thing"] (spD bA):=by
 refine F.ok lW (λvs H Q E h=>?_) (λcdv A outer s H vs Q E hr h=>?_)
 ·obtain ⟨v,d,rfl,_⟩:=h
  rfl
 obtain ⟨v,d,rfl,R,q⟩:=h
 refine ⟨_,(@un _ _ _ (wbQ (wbK (wag (wal bb rfl T.isinstance ∅ (wae (wv 0 rfl) (wae (wai (.ty "int") rfl T.int ∅ rfl ∅ ∅) waf rfl) rfl) ∅ ∅ rfl rfl) (waP (waO (wal bb rfl T.isinstance ∅ (wae (wv 0 rfl) (wae (wai (.ty "bool") rfl T.bool ∅ rfl ∅ ∅) waf rfl) rfl) ∅ ∅ rfl rfl))))))),?_⟩
 refine ⟨_,rfl,v,_,_,_,rfl,R.ty,wy K d,_,rfl,?_⟩
 cases d with
 | int i=>exact av ⟨_,rfl,v,_,_,_,rfl,R.ty,nU K _,_,rfl,q H (af.refl H)⟩
 | bl b=>exact av ⟨_,rfl,v,_,_,_,rfl,R.ty,nU K _,_,rfl,q H (af.refl H)⟩
 | _=>exact aq (q H (af.refl H))
def spS (f:Dv->Bool):Sp:=λvs H Q _=>∃ v d,vs=[v]/\Rep H d v/\d.small=true/\∀ H',af H H'->Q (.bl (f d)) H'
theorem uA (a b:Nat):decide (([a]:List Nat) < [b])=decide (a < b):=by
 by_cases h:a < b
 ·rw [decide_eq_true h]
  exact decide_eq_true (List.cons_lt_cons_iff.mpr (.inl h))
 ·rw [decide_eq_false h]
  exact decide_eq_false λz=>by
   rcases List.cons_lt_cons_iff.mp z with z | ⟨_,z⟩
   ·exact h z
   ·exact List.not_lt_nil _ z
theorem yI (x:Str):((Φ x.cps.size).map λi=>azB (x.cps.getD i 0)).all id=x.cps.toList.all azB:=by
 have e:(Φ x.cps.size).map (λi=>azB (x.cps.getD i 0))=x.cps.toList.map azB:=by
  apply C8
  intro i
  rw [Ψ,Ψ]
  by_cases hi:i < x.cps.size
  ·rw [DQ hi]
   simp [hi]
  ·rw [b_ (by simpa using hi),b_ (by simpa using hi)]
   rfl
 rw [e,CG]
 rfl
theorem pP:ao ["thing"] ["thing"] (ae gF):=by trivial
theorem pc {f:Addr} {fd:Μ} (F:Fun K "is_name" "is_name" gF f fd) (T:Txt K mg):aF P w K mg base CX0 1 f fd ["thing"] (spS aV):=by
 refine F.ok pP (λvs H Q E h=>?_) (λcdv A outer s H vs Q E hr h=>?_)
 ·obtain ⟨v,d,rfl,_⟩:=h
  rfl
 obtain ⟨v,d,rfl,R,hsm,q⟩:=h
 refine ⟨_,(@un _ _ _ (wbO (wbI (wab (wbY (wbT (wbV (wal bb rfl T.isinstance ∅ (wae (wv 0 rfl) (wae (wai (.ty "str") rfl T.str ∅ rfl ∅ ∅) waf rfl) rfl) ∅ ∅ rfl rfl) ∅)) (wbZ (wbT (wbR jU jU waC (wal fH rfl T.len ∅ (wae (wv 0 rfl) waf rfl) ∅ ∅ rfl rfl) ⟨T.g_LONGEST_NAME rfl⟩ (by with_unfolding_all rfl)))))) (wbQ (wbK wah)) wbP) (wbQ (wbK (wal (fF rfl) rfl T.all ∅ (wae (waE ["sign"] [] (wbn (wv 0 rfl)) (.of rfl) rfl (λ_ _ _=>⟨pg_name (i:=0) (bB (l:=["sign"]) (∅) rfl) rfl (Ι rfl)⟩) (bu ∅) (λ_ _ _=>wbx) (λ_ _ _=>(wao gg gg waV (wv 0 rfl) waV (by with_unfolding_all rfl))) ∅) waf rfl) ∅ ∅ rfl rfl))))),?_⟩
 refine ⟨_,rfl,v,_,_,_,rfl,R.ty,kF K d,_,rfl,?_⟩
 cases d with
 | str x=>
  have hx:x.cps.size<=1000:=by simpa [Dv.small] using hsm
  obtain rfl:v=.str x:=R
  refine aq ⟨_,rfl,x,rfl,wR hx,_,_,rfl,rfl,_,rfl,?_⟩
  have no:nmB x=false->Q (.bl false) H:=λe=>by
   have:=q H (af.refl H)
   rwa [show aV (.str x)=false from e] at this
  refine au (λh1=>?_) (λh1=>?_)
  ·refine ⟨_,_,rfl,rfl,_,rfl,?_⟩
   have h1':1<=x.cps.size:=by
    have:=of_decide_eq_true h1
    have e:x.length=x.cps.size:=rfl
    omega
   by_cases h8:x.cps.size<=8
   ·rw [show decide (((x.length:Nat):Int)<=8)=true from decide_eq_true (by have e:x.length=x.cps.size:=rfl; omega)]
    refine aq ?_
    refine ⟨_,rfl,x,rfl,pd (F:=λi=>V.bl (azB (x.cps.getD i 0))) (λi ys hi hl=>?_) λa ha=>⟨a,(Φ x.cps.size).map λi=>azB (x.cps.getD i 0),rfl,SqL.of ?_,?_⟩⟩
    ·refine bp ⟨_,rfl,_,_,rfl,rfl,_,rfl,?_⟩
     have e1:decide ((⟨#[x.cps.getD i 0]⟩:Str).cps.toList < (ξ "a").cps.toList)=decide (x.cps.getD i 0 < 97):=uA _ _
     have e2:decide ((ξ "z").cps.toList < (⟨#[x.cps.getD i 0]⟩:Str).cps.toList)=decide (122 < x.cps.getD i 0):=uA _ _
     rw [e1]
     by_cases c1:x.cps.getD i 0 < 97
     ·rw [decide_eq_true c1]
      refine aq ⟨by rw [hl,υ]; omega,?_,rfl⟩
      unfold azB
      rw [decide_eq_false ∅]
      rfl
     ·rw [decide_eq_false c1]
      refine av ⟨_,_,rfl,rfl,?_⟩
      refine ⟨by rw [hl,υ]; omega,?_,rfl⟩
      rw [e2]
      unfold azB
      rw [decide_eq_true (show 97<=x.cps.getD i 0 by omega)]
      by_cases c2:122 < x.cps.getD i 0
      ·rw [decide_eq_true c2,decide_eq_false ∅]; rfl
      ·rw [decide_eq_false c2,decide_eq_true ∅]; rfl
    ·rw [aa,ϓ]
     rfl
    ·rw [yI]
     have:=q _ (ac ha (.lst ((Φ x.cps.size).map λi=>V.bl (azB (x.cps.getD i 0)))))
     rwa [show aV (.str x)=x.cps.toList.all azB by
      show nmB x=_
      unfold nmB
      rw [decide_eq_true h1',decide_eq_true h8]
      rfl] at this
   ·rw [show decide (((x.length:Nat):Int)<=8)=false from decide_eq_false (by have e:x.length=x.cps.size:=rfl; omega)]
    refine av (no ?_)
    unfold nmB
    rw [decide_eq_false h8,Ee,i6]
  ·refine ⟨_,rfl,av (no ?_)⟩
   have h1':¬ 1<=x.cps.size:=by
    have:=of_decide_eq_false (Cp.mpr h1)
    have e:x.length=x.cps.size:=rfl
    omega
   unfold nmB
   rw [decide_eq_false h1',i6,i6]
 | _=>exact av (av (q H (af.refl H)))
theorem oG (ds:List Dv):(∃ a b,ds=[a,b])\/(∀ a b,ds≠[a,b]):=by
 match ds with
 | []=>exact .inr λa b e=>nomatch e
 | [_]=>exact .inr λa b e=>nomatch e
 | [a,b]=>exact .inl ⟨a,b,rfl⟩
 | _ :: _ :: _ :: _=>exact .inr λa b e=>nomatch e
theorem kx {ds:List Dv} (h:∀ a b,ds≠[a,b]):ds.length≠2:=λe=>by
 match ds,e with
 | [a,b],_=>exact h a b rfl
theorem vK {ds:List Dv} (h:∀ a b,ds≠[a,b]):eD (.tup ds)=false:=by
 match ds with
 | []=>rfl
 | [_]=>rfl
 | [a,b]=>exact absurd rfl (h a b)
 | _ :: _ :: _ :: _=>rfl
theorem xA {ds:List Dv} (h:∀ a b,ds≠[a,b]):mZ (.tup ds)=false:=by
 match ds with
 | []=>rfl
 | [_]=>rfl
 | [a,b]=>exact absurd rfl (h a b)
 | _ :: _ :: _ :: _=>rfl
theorem qJ {k:Int} {d:Dv} (h:bA d=true):∃ i,d=.int i/\geD k d=decide (k<=i):=by
 cases d with
 | int i=>exact ⟨i,rfl,rfl⟩
 | _=>cases h
theorem ka {a b:Dv} (h:(Dv.tup [a,b]).small=true):a.small=true/\b.small=true:=by
 simp only [Dv.small,smalls,Ε] at h
 exact ⟨h.1.1,h.1.2.1⟩
theorem oA:ao ["thing"] ["thing"] (ae gv):=by trivial
theorem ou {f:Addr} {fd:Μ} {k:Nat} (F:Fun K "is_part" "is_part" gv f fd) (T:Txt K mg) (Dis_whole:Def P w K mg base k "is_whole" ["thing"] (spD bA)) (Dis_name:Def P w K mg base k "is_name" ["thing"] (spS aV)) :
  aF P w K mg base CX0 (k + 1) f fd ["thing"] (spS eD):=by
 refine F.ok oA (λvs H Q E h=>?_) (λcdv A outer s H vs Q E hr h=>?_)
 ·obtain ⟨v,d,rfl,_⟩:=h
  rfl
 obtain ⟨v,d,rfl,R,hsm,q⟩:=h
 refine ⟨_,(@un _ _ _ (wbO (wbI (wab (wbY (wbT (wbV (wal bb rfl T.isinstance ∅ (wae (wv 0 rfl) (wae (wai (.ty "tuple") rfl T.tuple ∅ rfl ∅ ∅) waf rfl) rfl) ∅ ∅ rfl rfl) ∅)) (wbZ (wbS fY (wal ak rfl T.len ∅ (wae (wv 0 rfl) waf rfl) ∅ ∅ rfl rfl) waC (ai _))))) (wbQ (wbK wah)) wbP) (wbQ (wbK (wag (waq Dis_name hr rfl (wae (waD aj (wv 0 rfl) waC (λ_ _=>rfl)) waf rfl) ∅ rfl rfl) (wag (waq Dis_whole hr rfl (wae (waD aj (wv 0 rfl) waC (λ_ _=>rfl)) waf rfl) ∅ rfl rfl) (waP (wap xZ (waD aj (wv 0 rfl) waC (λ_ _=>rfl)) waC (ai _))))))))),?_⟩
 refine ⟨_,rfl,v,_,_,_,rfl,R.ty,bY K d,_,rfl,?_⟩
 cases d with
 | tup ds=>
  obtain ⟨a,vs,rfl,ha,rs⟩:=Rep.tup_inv R
  have hl:=rs.length
  refine aq ⟨_,rfl,a,vs,rfl,.inr (SqT.of ha),rfl,_,rfl,?_⟩
  rcases oG ds with ⟨d0,d1,rfl⟩ | no
  ·obtain ⟨x,y,rfl,R0,R1⟩:=Reps.two rs
   obtain ⟨z0,z1⟩:=ka hsm
   refine yp rfl ?_
   have qe:∀ c H',af H H'->eD (.tup [d0,d1])=c->Q (.bl c) H':=λc H' s1 e=>e▸q H' s1
   refine ⟨_,rfl,a,_,0,x,rfl,rfl,SqT.of ha,ad (j:=0) rfl,x,d0,rfl,R0,z0,λH1 s1=>⟨_,rfl,?_⟩⟩
   cases c0:aV d0 with
   | false=>exact aq (qe _ H1 s1 (by show (aV d0 && _)=false; rw [c0]; rfl))
   | true=>
    refine av ⟨_,rfl,a,_,1,y,rfl,rfl,SqT.of (s1 _ _ ha),ad (j:=1) rfl,y,d1,rfl,R1.mono s1,λH2 s2=>⟨_,rfl,?_⟩⟩
    cases c1:bA d1 with
    | false=>exact aq (qe _ H2 (s1.trans s2) (by show (aV d0 && (bA d1 && _))=false; rw [c0,c1]; rfl))
    | true=>
     obtain ⟨i,rfl,e⟩:=qJ (k:=1) c1
     obtain rfl:y=.int i:=R1
     refine av ⟨_,rfl,a,_,1,.int i,rfl,rfl,SqT.of (s2 _ _ (s1 _ _ ha)),ad (j:=1) rfl,_,_,rfl,rfl,?_⟩
     refine qe _ H2 (s1.trans s2) ?_
     show (aV d0 && (bA (.int i) && geD 1 (.int i)))=_
     rw [c0,c1,e]
     rfl
  ·have hn:¬ (V.int ((vs.length:Nat):Int)=V.int 2):=λe=>kx no (by injection e with e; omega)
   rw [decide_eq_false hn]
   refine av ?_
   have:=q H (af.refl H)
   rwa [vK no] at this
 | _=>exact av (av (q H (af.refl H)))
theorem kc:ao ["thing"] ["thing"] (ae dy):=by trivial
theorem kH {f:Addr} {fd:Μ} {k:Nat} (F:Fun K "is_length" "is_length" dy f fd) (T:Txt K mg) (Dis_whole:Def P w K mg base k "is_whole" ["thing"] (spD bA)) (Dare_parts:Def P w K mg base k "are_parts" ["thing"] (spS iA)) :
  aF P w K mg base CX0 (k + 1) f fd ["thing"] (spS mZ):=by
 refine F.ok kc (λvs H Q E h=>?_) (λcdv A outer s H vs Q E hr h=>?_)
 ·obtain ⟨v,d,rfl,_⟩:=h
  rfl
 obtain ⟨v,d,rfl,R,hsm,q⟩:=h
 refine ⟨_,(@un _ _ _ (wbO (wbI (wab (wbY (wbT (wbV (wal bb rfl T.isinstance ∅ (wae (wv 0 rfl) (wae (wai (.ty "tuple") rfl T.tuple ∅ rfl ∅ ∅) waf rfl) rfl) ∅ ∅ rfl rfl) ∅)) (wbZ (wbS fY (wal ak rfl T.len ∅ (wae (wv 0 rfl) waf rfl) ∅ ∅ rfl rfl) waC (ai _))))) (wbQ (wbK wah)) wbP) (wbQ (wbK (wag (waq Dis_whole hr rfl (wae (waD aj (wv 0 rfl) waC (λ_ _=>rfl)) waf rfl) ∅ rfl rfl) (wag (wap xZ (waD aj (wv 0 rfl) waC (λ_ _=>rfl)) waC (ai _)) (waP (waq Dare_parts hr rfl (wae (waD aj (wv 0 rfl) waC (λ_ _=>rfl)) waf rfl) ∅ rfl rfl)))))))),?_⟩
 refine ⟨_,rfl,v,_,_,_,rfl,R.ty,bY K d,_,rfl,?_⟩
 cases d with
 | tup ds=>
  obtain ⟨a,vs,rfl,ha,rs⟩:=Rep.tup_inv R
  have hl:=rs.length
  refine aq ⟨_,rfl,a,vs,rfl,.inr (SqT.of ha),rfl,_,rfl,?_⟩
  rcases oG ds with ⟨d0,d1,rfl⟩ | no
  ·obtain ⟨x,y,rfl,R0,R1⟩:=Reps.two rs
   obtain ⟨z0,z1⟩:=ka hsm
   refine yp rfl ?_
   have qe:∀ c H',af H H'->mZ (.tup [d0,d1])=c->Q (.bl c) H':=λc H' s1 e=>e▸q H' s1
   refine ⟨_,rfl,a,_,0,x,rfl,rfl,SqT.of ha,ad (j:=0) rfl,x,d0,rfl,R0,λH1 s1=>⟨_,rfl,?_⟩⟩
   cases c0:bA d0 with
   | false=>exact aq (qe _ H1 s1 (by show (bA d0 && _)=false; rw [c0]; rfl))
   | true=>
    obtain ⟨i,rfl,e⟩:=qJ (k:=0) c0
    obtain rfl:x=.int i:=R0
    refine av ⟨_,rfl,a,_,0,.int i,rfl,rfl,SqT.of (s1 _ _ ha),ad (j:=0) rfl,_,_,rfl,rfl,_,rfl,?_⟩
    by_cases c1:0<=i
    ·rw [decide_eq_true c1]
     refine av ⟨_,rfl,a,_,1,y,rfl,rfl,SqT.of (s1 _ _ ha),ad (j:=1) rfl,y,d1,rfl,R1.mono s1,z1,λH2 s2=>?_⟩
     refine qe _ H2 (s1.trans s2) ?_
     show (bA (.int i) && (geD 0 (.int i) && iA d1))=_
     rw [c0,e,decide_eq_true c1]
     rfl
    ·rw [decide_eq_false c1]
     refine aq (qe _ H1 s1 ?_)
     show (bA (.int i) && (geD 0 (.int i) && iA d1))=_
     rw [c0,e,decide_eq_false c1]
     rfl
  ·have hn:¬ (V.int ((vs.length:Nat):Int)=V.int 2):=λe=>kx no (by injection e with e; omega)
   rw [decide_eq_false hn]
   refine av ?_
   have:=q H (af.refl H)
   rwa [xA no] at this
 | _=>exact av (av (q H (af.refl H)))
theorem iR {d:Dv} (h:eD d=true):∃ nm b,d=.tup [.str nm,.int b]/\headD d=nm/\nmB nm=true/\1<=b:=by
 match d,h with
 | .tup [a,b],h=>
  simp only [eD,Ε] at h
  obtain ⟨h1,h2,h3⟩:=h
  cases a with
  | str x=>
   cases b with
   | int i=>exact ⟨x,i,rfl,rfl,h1,of_decide_eq_true h3⟩
   | _=>cases h2
  | _=>cases h1
theorem fK:ao ["thing","last","part"] ["thing"] (ae dm):=by trivial
theorem kB {f:Addr} {fd:Μ} {k:Nat} (F:Fun K "are_parts" "are_parts" dm f fd) (T:Txt K mg) (Dis_part:Def P w K mg base k "is_part" ["thing"] (spS eD)) :
  aF P w K mg base CX0 (k + 1) f fd ["thing"] (spS iA):=by
 have nd:=fK.nd
 refine F.ok fK (λvs H Q E h=>?_) (λcdv A outer s H vs Q E hr h=>?_)
 ·obtain ⟨v,d,rfl,_⟩:=h
  rfl
 obtain ⟨v,d,rfl,R,hsm,q⟩:=h
 refine ⟨_,(@un _ _ _ (wbO (wbI (wbT (wbV (wal bb rfl T.isinstance ∅ (wae (wv 0 rfl) (wae (wai (.ty "tuple") rfl T.tuple ∅ rfl ∅ ∅) waf rfl) rfl) ∅ ∅ rfl rfl) ∅)) (wbQ (wbK wah)) wbP) (wbO (wbM 1 nd rfl (Ι rfl) waV rfl ∅) (wbO (wbH Ϯ rfl (wbo (wv 0 rfl)) (waZ 2 nd rfl (Ι rfl) ∅) (wbO (wbI (wab (wbY (wbT (wbV (waq Dis_part hr rfl (wae (wv 2 rfl) waf rfl) ∅ rfl rfl) ∅)) (wbZ (wbS gg (waD aj (wv 2 rfl) waC (λ_ _=>rfl)) (wv 1 rfl) (ai _))))) (wbQ (wbK wah)) wbP) (wbQ (wbM 1 nd rfl (Ι rfl) (waD aj (wv 2 rfl) waC (λ_ _=>rfl)) rfl ∅))) ∅) (wbQ (wbK wah)))))),?_⟩
 refine ⟨_,rfl,v,_,_,_,rfl,R.ty,bY K d,_,rfl,?_⟩
 cases d with
 | tup ds=>
  obtain ⟨a,vs,rfl,ha,rs⟩:=Rep.tup_inv R
  have hl:=rs.length
  have hds:smalls ds=true:=by
   simp only [Dv.small,Ε] at hsm
   exact hsm.1
  refine aq ?_
  refine ⟨_,rfl,a,rfl,⟨vs,SqT.of ha⟩,qo (xs:=vs) (λi σ H'=>∃ (last:Str) (pv:Option V),σ=[some (.ref a),some (.str last),pv]/\af H H'/\goD last (ds.drop i)=goD "" ds)
   ⟨"",none,rfl,af.refl H,rfl⟩ (λi σ H' _ ⟨_,_,_,s1,_⟩=>SqT.of (s1 _ _ ha)) ?_ ?_⟩
  ·rintro i x σ H1 hi ⟨last,pv,rfl,s1,hg⟩
   obtain ⟨d,hd,Rd⟩:=rs.get hi
   have hdi:ds.drop i=d :: ds.drop (i + 1):=by
    obtain ⟨h1,h2⟩:=ο.mp hd
    rw [u7 h1,h2]
   have hsd:=cf hds hd
   rw [hdi] at hg
   refine ⟨_,rfl,x,d,rfl,Rd.mono s1,hsd,λH2 s2=>⟨_,rfl,?_⟩⟩
   have no:goD last (d :: ds.drop (i + 1))=false->∀ H',af H H'->Q (.bl false) H':=λe H' s'=>by
    have:=q H' s'
    rwa [show iA (.tup ds)=false by show goD "" ds=false; rw [<- hg,e]] at this
   cases c:eD d with
   | false=>
    refine av (av (no ?_ H2 (s1.trans s2)))
    simp only [goD,c,i6]
   | true=>
    obtain ⟨nm,b,rfl,hh,_⟩:=iR c
    obtain ⟨p,us,rfl,hp,ru⟩:=Rep.tup_inv Rd
    obtain ⟨y,z,rfl,R0,R1⟩:=Reps.two ru
    obtain rfl:y=.str nm:=R0
    have hp2:H2 p=some (.tup [.str nm,z]):=s2 _ _ (s1 _ _ hp)
    refine aq ⟨_,rfl,p,_,0,.str nm,rfl,rfl,SqT.of hp2,ad (j:=0) rfl,_,rfl,_,_,rfl,rfl,_,rfl,?_⟩
    by_cases lt:last.cps.toList < nm.cps.toList
    ·rw [decide_eq_true lt]
     refine aq ⟨_,rfl,p,_,0,.str nm,rfl,rfl,SqT.of hp2,ad (j:=0) rfl,nm,_,rfl,s1.trans s2,?_⟩
     rw [<- hg]
     simp only [goD,c,hh,Ϧ]
     rw [decide_eq_true lt,Ϧ]
    ·rw [decide_eq_false lt]
     refine av (no ?_ H2 (s1.trans s2))
     simp only [goD,c,hh,Ϧ]
     rw [decide_eq_false lt,i6]
  ·rintro σ H1 ⟨last,pv,rfl,s1,hg⟩
   have:=q H1 s1
   rw [show iA (.tup ds)=true by
    show goD "" ds=true
    rw [<- hg,hl,ET]
    rfl] at this
   exact this
 | _=>exact av (q H (af.refl H))
abbrev eV:Stmt:=top 24
abbrev eO:Stmt:=top 25
abbrev eR:Stmt:=top 26
abbrev bM:Stmt:=top 27
def eT:Dv->Int
 | .tup [_,.int n]=>n
 | _=>0
def BG:Dv->Int
 | .tup (.int c :: _)=>c
 | _=>0
def xq:Dv->List Dv
 | .tup [_,.tup ps]=>ps
 | _=>[]
def slD (d:Dv):Bool:=mZ d && (decide (BG d<=99) && (xq d).all λp=>decide (eT p<=99))
def de:Dv->Bool
 | .tup (.str _ :: _)=>true
 | _=>false
def ck:Dv->Bool
 | .tup [.str x]=>decide (x="whole")
 | .tup [.str x,l]=>decide (x="place") && slD l
 | .tup [.str x,a,_]=>(decide (x="row") && slD a) || decide (x="pair")
 | _=>false
def kids {α:Type} (x:Str) (r:List α):List α:=if x="row" then r.drop 1 else if x="pair" then r else []
theorem tf {d:Dv} (h:mZ d=true):∃ c ps,d=.tup [.int c,.tup ps]/\0<=c/\goD "" ps=true:=by
 match d,h with
 | .tup [a,b],h=>
  simp only [mZ,Ε] at h
  obtain ⟨h1,h2,h3⟩:=h
  cases a with
  | int i=>
   cases b with
   | tup ps=>exact ⟨i,ps,rfl,of_decide_eq_true h2,h3⟩
   | _=>cases h3
  | _=>cases h1
theorem mR:∀ {l:Str} {ps:List Dv},goD l ps=true->∀ p∈ps,eD p=true
 | _,[],_,p,hp=>by cases hp
 | l,x :: ps,h,p,hp=>by
  simp only [goD,Ε] at h
  rcases ν.mp hp with rfl | hp
  ·exact h.1
  ·exact mR h.2.2 p hp
def yk:Sp:=λvs H Q _=>∃ (a:Addr) (x:Str) (us:List V),vs=[.ref a]/\H a=some (.tup (.str x :: us))/\(x="row"->us.length=2)/\(x="pair"->us.length=2)/\∀ (l:Addr),H l=none->Q (.ref l) (upd H l (.lst (kids x us)))
theorem bg (x y:Str):decide (V.str x=V.str y)=decide (x=y):=by
 by_cases h:x=y
 ·rw [decide_eq_true h,decide_eq_true (by rw [h])]
 ·rw [decide_eq_false h,decide_eq_false (λz=>h (by injection z))]
theorem nW:ao ["thing"] ["thing"] (ae eV):=by trivial
theorem mB {f:Addr} {fd:Μ} {k:Nat} (F:Fun K "is_small_length" "is_small_length" eV f fd) (T:Txt K mg) (Dis_length:Def P w K mg base k "is_length" ["thing"] (spS mZ)) :
  aF P w K mg base CX0 (k + 1) f fd ["thing"] (spS slD):=by
 refine F.ok nW (λvs H Q E h=>?_) (λcdv A outer s H vs Q E hr h=>?_)
 ·obtain ⟨v,d,rfl,_⟩:=h
  rfl
 obtain ⟨v,d,rfl,R,hsm,q⟩:=h
 refine ⟨_,(@un _ _ _ (wbO (wbI (wab (wbY (wbT (wbV (waq Dis_length hr rfl (wae (wv 0 rfl) waf rfl) ∅ rfl rfl) ∅)) (wbZ (wbS dY (waD aj (wv 0 rfl) waC (λ_ _=>rfl)) ⟨T.g_GREATEST_NUMBER rfl⟩ (ai _))))) (wbQ (wbK wah)) wbP) (wbQ (wbK (wal (fF rfl) rfl T.all ∅ (wae (waE (["name","times"]) [] (wbo (waD aj (wv 0 rfl) waC (λ_ _=>rfl))) (.of rfl) rfl (λ_ _ _=>⟨pg_tup rfl (pgs_cons (pg_name (i:=0) (bB (l:=["name","times"]) (∅) rfl) rfl (Ι rfl)) (pgs_cons (pg_name (i:=1) (bB (l:=["name","times"]) (∅) rfl) rfl (Ι rfl)) pgs_nil))⟩) (kn ∅ ∅) (λ_ _ _=>wbx) (λ_ _ _=>(wap jU (wv 1 rfl) ⟨T.g_GREATEST_NUMBER rfl⟩ (ai _))) ∅) waf rfl) ∅ ∅ rfl rfl))))),?_⟩
 refine ⟨_,rfl,v,d,rfl,R,hsm,λH1 s1=>⟨_,rfl,?_⟩⟩
 cases c0:mZ d with
 | false=>
  refine av ?_
  have:=q H1 s1
  rwa [show slD d=false by unfold slD; rw [c0]; rfl] at this
 | true=>
  refine aq ?_
  obtain ⟨c,ps,rfl,hc,hg⟩:=tf c0
  obtain ⟨a,vs,rfl,ha,rs⟩:=Rep.tup_inv R
  obtain ⟨x,y,rfl,R0,R1⟩:=Reps.two rs
  obtain rfl:x=.int c:=R0
  obtain ⟨b,us,rfl,hb,ru⟩:=Rep.tup_inv R1
  have hps:ps.length<=1000:=by
   have:=(ka hsm).2
   simp only [Dv.small,Ε,decide_eq_true_eq] at this
   exact this.2
  have hl:=ru.length
  have e0:slD (.tup [.int c,.tup ps])=(decide (c<=99) && ps.all λp=>decide (eT p<=99)):=by
   unfold slD; rw [c0]; rfl
  refine ⟨_,rfl,a,_,0,.int c,rfl,rfl,SqT.of (s1 _ _ ha),ad (j:=0) rfl,_,_,rfl,rfl,_,rfl,?_⟩
  refine au (λh=>?_) (λh=>?_)
  ·have h':99 < c:=of_decide_eq_true h
   have:=q H1 s1
   rw [e0,decide_eq_false ∅,i6] at this
   exact this
  have h':c<=99:=by have:=of_decide_eq_false (Cp.mpr h); omega
  have hb1:=s1 _ _ hb
  refine ⟨_,rfl,a,_,1,.ref b,rfl,rfl,SqT.of (s1 _ _ ha),ad (j:=1) rfl,b,rfl,⟨us,SqT.of hb1⟩,eW (xs:=us) (λi ys H'=>H'=H1/\ys=(ps.take i).map λp=>V.bl (decide (eT p<=99))) ⟨rfl,rfl⟩ (λi ys H' _ p=>by rw [p.1]; exact SqT.of hb1) ?_ ?_⟩
  ·rintro i ys H' x hx ⟨rfl,rfl⟩
   obtain ⟨d,hd,Rd⟩:=ru.get hx
   obtain ⟨hi,ed⟩:=ο.mp hd
   obtain ⟨nm,t,rfl,hh,_⟩:=iR (mR hg d (Λ hd))
   obtain ⟨p,zs,rfl,hp,rz⟩:=Rep.tup_inv Rd
   obtain ⟨y,z,rfl,Ry,Rz⟩:=Reps.two rz
   obtain rfl:y=.str nm:=Ry
   obtain rfl:z=.int t:=Rz
   refine iV (s1 _ _ hp) ⟨_,rfl,_,_,rfl,rfl,?_,rfl,?_⟩
   ·rw [ε,ϊ,υ]; omega
   ·rw [ϣ,hd,ω]
    rfl
  ·rintro ys H' ⟨rfl,rfl⟩ r hr'
   rw [hl,Ϥ]
   refine ⟨r,ps.map λp=>decide (eT p<=99),rfl,SqL.of (by rw [aa,ϓ]; rfl),?_⟩
   have:=q _ (s1.trans (ac hr' (.lst (ps.map λp=>V.bl (decide (eT p<=99))))))
   rw [e0,decide_eq_true h',Ϧ] at this
   rw [CG]
   exact this
theorem mW:ao ["thing"] ["thing"] (ae eO):=by trivial
theorem nC {f:Addr} {fd:Μ} (F:Fun K "has_word" "has_word" eO f fd) (T:Txt K mg):aF P w K mg base CX0 1 f fd ["thing"] (spD de):=by
 refine F.ok mW (λvs H Q E h=>?_) (λcdv A outer s H vs Q E hr h=>?_)
 ·obtain ⟨v,d,rfl,_⟩:=h
  rfl
 obtain ⟨v,d,rfl,R,q⟩:=h
 refine ⟨_,(@un _ _ _ (wbQ (wbK (wag (wal bb rfl T.isinstance ∅ (wae (wv 0 rfl) (wae (wai (.ty "tuple") rfl T.tuple ∅ rfl ∅ ∅) waf rfl) rfl) ∅ ∅ rfl rfl) (wag (wap dY (wal ak rfl T.len ∅ (wae (wv 0 rfl) waf rfl) ∅ ∅ rfl rfl) waC (ai _)) (waP (wal bb rfl T.isinstance ∅ (wae (waD aj (wv 0 rfl) waC (λ_ _=>rfl)) (wae (wai (.ty "str") rfl T.str ∅ rfl ∅ ∅) waf rfl) rfl) ∅ ∅ rfl rfl))))))),?_⟩
 refine ⟨_,rfl,v,_,_,_,rfl,R.ty,bY K d,_,rfl,?_⟩
 cases d with
 | tup ds=>
  obtain ⟨a,vs,rfl,ha,rs⟩:=Rep.tup_inv R
  refine av ⟨_,rfl,a,vs,rfl,.inr (SqT.of ha),_,_,rfl,rfl,_,rfl,?_⟩
  cases ds with
  | nil=>
   simp only [Reps] at rs
   subst rs
   exact aq (q H (af.refl H))
  | cons d0 ds=>
   simp only [Reps] at rs
   obtain ⟨x,r,rfl,R0,rr⟩:=rs
   rw [show decide (((0:Int)) < (((x :: r).length:Nat):Int))=true from decide_eq_true (by rw [ό]; omega)]
   refine av ⟨_,rfl,a,_,0,x,rfl,rfl,SqT.of ha,ad (j:=0) rfl,x,_,_,_,rfl,R0.ty,kF K d0,?_⟩
   have:=q H (af.refl H)
   cases d0 <;> exact this
 | _=>exact aq (q H (af.refl H))
theorem eU {d:Dv} (h:de d=true):∃ x r,d=.tup (.str x :: r):=by
 match d,h with
 | .tup (.str x :: r),_=>exact ⟨x,r,rfl⟩
theorem oY {d:Dv} (h:de d=false):ck d=false:=by
 match d,h with
 | .tup [.str x],h=>cases h
 | .tup [.str x,l],h=>cases h
 | .tup [.str x,a,b],h=>cases h
 | .tup (.str x :: a :: b :: c :: r),h=>cases h
 | .tup [],_=>rfl
 | .tup (.non :: r),_=>rfl
 | .tup (.bl _ :: r),_=>rfl
 | .tup (.int _ :: r),_=>rfl
 | .tup (.tup _ :: r),_=>rfl
 | .tup (.lst _ :: r),_=>rfl
 | .tup (.dct :: r),_=>rfl
 | .non,_=>rfl
 | .bl _,_=>rfl
 | .int _,_=>rfl
 | .str _,_=>rfl
 | .lst _,_=>rfl
 | .dct,_=>rfl
theorem w1:(ξ "whole")≠(ξ "place"):=by decide +kernel
theorem w2:(ξ "whole")≠(ξ "row"):=by decide +kernel
theorem w3:(ξ "whole")≠(ξ "pair"):=by decide +kernel
theorem w4:(ξ "place")≠(ξ "row"):=by decide +kernel
theorem w5:(ξ "place")≠(ξ "pair"):=by decide +kernel
theorem w6:(ξ "row")≠(ξ "pair"):=by decide +kernel
theorem xB {r:List Dv}:ck (.tup (.str "whole" :: r))=decide (r.length=0):=by
 match r with
 | []=>show decide (ξ "whole"=ξ "whole")=_; rw [decide_eq_true rfl]; rfl
 | [l]=>show (decide (ξ "whole"=ξ "place") && slD l)=_; rw [decide_eq_false w1]; rfl
 | [a,b]=>show ((decide (ξ "whole"=ξ "row") && slD a) || decide (ξ "whole"=ξ "pair"))=_; rw [decide_eq_false w2,decide_eq_false w3]; rfl
 | a :: b :: c :: r=>rfl
theorem qH {r:List Dv}:ck (.tup (.str "place" :: r))=(decide (r.length=1) && slD (r.headD .non)):=by
 match r with
 | []=>show decide (ξ "place"=ξ "whole")=_; rw [decide_eq_false (ώ w1)]; rfl
 | [l]=>show (decide (ξ "place"=ξ "place") && slD l)=_; rw [decide_eq_true rfl]; rfl
 | [a,b]=>show ((decide (ξ "place"=ξ "row") && slD a) || decide (ξ "place"=ξ "pair"))=_; rw [decide_eq_false w4,decide_eq_false w5]; rfl
 | a :: b :: c :: r=>
  rw [decide_eq_false ∅]; rfl
theorem yl {r:List Dv}:ck (.tup (.str "row" :: r))=(decide (r.length=2) && slD (r.headD .non)):=by
 match r with
 | []=>show decide (ξ "row"=ξ "whole")=_; rw [decide_eq_false (ώ w2)]; rfl
 | [l]=>show (decide (ξ "row"=ξ "place") && slD l)=_; rw [decide_eq_false (ώ w4)]; rfl
 | [a,b]=>show ((decide (ξ "row"=ξ "row") && slD a) || decide (ξ "row"=ξ "pair"))=_; rw [decide_eq_true rfl,decide_eq_false w6,EJ]; rfl
 | a :: b :: c :: r=>
  rw [decide_eq_false ∅]; rfl
theorem zu {x:Str} {r:List Dv} (h1:x≠"whole") (h2:x≠"place") (h3:x≠"row"):ck (.tup (.str x :: r))=(decide (r.length=2) && decide (x="pair")):=by
 match r with
 | []=>show decide (x="whole")=_; rw [decide_eq_false h1]; rfl
 | [l]=>show (decide (x="place") && slD l)=_; rw [decide_eq_false h2]; rfl
 | [a,b]=>show ((decide (x="row") && slD a) || decide (x="pair"))=_; rw [decide_eq_false h3,i6,BR]; rfl
 | a :: b :: c :: r=>
  rw [decide_eq_false ∅]; rfl
theorem dO {vs:List V} {r:List Dv} {x:V} (h:vs.length=r.length) (n m:Nat) (e:m=n + 1):decide (V.int (((x :: vs).length:Nat):Int)=V.int (m:Int))=decide (r.length=n):=by
 by_cases z:r.length=n
 ·rw [decide_eq_true z,decide_eq_true (by rw [ό,h,z,e])]
 ·rw [decide_eq_false z,decide_eq_false (λy=>z (by injection y with y; rw [ό,h] at y; omega))]
theorem md:ao ["thing"] ["thing"] (ae eR):=by trivial
theorem nu {f:Addr} {fd:Μ} {k:Nat} (F:Fun K "is_point" "is_point" eR f fd) (T:Txt K mg) (Dhas_word:Def P w K mg base k "has_word" ["thing"] (spD de)) (Dis_small_length:Def P w K mg base k "is_small_length" ["thing"] (spS slD)) :
  aF P w K mg base CX0 (k + 1) f fd ["thing"] (spS ck):=by
 refine F.ok md (λvs H Q E h=>?_) (λcdv A outer s H vs Q E hr h=>?_)
 ·obtain ⟨v,d,rfl,_⟩:=h
  rfl
 obtain ⟨v,d,rfl,R,hsm,q⟩:=h
 refine ⟨_,(@un _ _ _ (wbO (wbI (wbT (wbV (waq Dhas_word hr rfl (wae (wv 0 rfl) waf rfl) ∅ rfl rfl) ∅)) (wbQ (wbK wah)) wbP) (wbO (wbI (wbS ay (waD aj (wv 0 rfl) waC (λ_ _=>rfl)) waV (ai _)) (wbQ (wbK (wap ay (wal ak rfl T.len ∅ (wae (wv 0 rfl) waf rfl) ∅ ∅ rfl rfl) waC (ai _)))) wbP) (wbO (wbI (wbS ay (waD aj (wv 0 rfl) waC (λ_ _=>rfl)) waV (ai _)) (wbQ (wbK (wag (wap ay (wal ak rfl T.len ∅ (wae (wv 0 rfl) waf rfl) ∅ ∅ rfl rfl) waC (ai _)) (waP (waq Dis_small_length hr rfl (wae (waD aj (wv 0 rfl) waC (λ_ _=>rfl)) waf rfl) ∅ rfl rfl))))) wbP) (wbO (wbI (wbS ay (waD aj (wv 0 rfl) waC (λ_ _=>rfl)) waV (ai _)) (wbQ (wbK (wag (wap ay (wal ak rfl T.len ∅ (wae (wv 0 rfl) waf rfl) ∅ ∅ rfl rfl) waC (ai _)) (waP (waq Dis_small_length hr rfl (wae (waD aj (wv 0 rfl) waC (λ_ _=>rfl)) waf rfl) ∅ rfl rfl))))) wbP) (wbQ (wbK (wag (wap ay (wal ak rfl T.len ∅ (wae (wv 0 rfl) waf rfl) ∅ ∅ rfl rfl) waC (ai _)) (waP (wap ay (waD aj (wv 0 rfl) waC (λ_ _=>rfl)) waV (ai _))))))))))),?_⟩
 refine ⟨_,rfl,v,d,rfl,R,λH1 s1=>⟨_,rfl,?_⟩⟩
 cases c0:de d with
 | false=>
  refine av ?_
  have:=q H1 s1
  rwa [oY c0] at this
 | true=>
  refine aq ?_
  obtain ⟨x,r,rfl⟩:=eU c0
  obtain ⟨a,vs,rfl,ha,rs⟩:=Rep.tup_inv (R.mono s1)
  simp only [Reps] at rs
  obtain ⟨y,us,rfl,R0,ru⟩:=rs
  obtain rfl:y=.str x:=R0
  have hl:=ru.length
  refine ⟨_,rfl,a,_,0,.str x,rfl,rfl,SqT.of ha,ad (j:=0) rfl,rfl,_,rfl,?_⟩
  show if decide (V.str x=V.str "whole")=true then _ else _
  rw [bg]
  by_cases h1:x="whole"
  ·subst h1
   rw [decide_eq_true rfl]
   refine av ⟨_,rfl,a,_,rfl,.inr (SqT.of ha),rfl,?_⟩
   have:=q H1 s1
   rw [xB,<- dO (x:=.str "whole") hl 0 1 rfl] at this
   exact this
  rw [decide_eq_false h1]
  refine aq ⟨_,rfl,a,_,0,.str x,rfl,rfl,SqT.of ha,ad (j:=0) rfl,rfl,_,rfl,?_⟩
  show if decide (V.str x=V.str "place")=true then _ else _
  rw [bg]
  by_cases h2:x="place"
  ·subst h2
   rw [decide_eq_true rfl]
   refine av ⟨_,rfl,a,_,rfl,.inr (SqT.of ha),rfl,_,rfl,?_⟩
   show if decide (V.int _=V.int ((2:Nat):Int))=true then _ else _
   rw [dO (x:=.str "place") hl 1 2 rfl]
   by_cases z:r.length=1
   ·rw [decide_eq_true z]
    match r,us,z,ru with
    | [l],us,_,ru=>
     simp only [Reps] at ru
     obtain ⟨u,rest,rfl,Ru,rfl⟩:=ru
     refine av ⟨_,rfl,a,_,1,u,rfl,rfl,SqT.of ha,ad (j:=1) rfl,u,l,rfl,Ru,cf (i:=1) (ds:=[.str "place",l]) (by simp only [Dv.small,Ε] at hsm; exact hsm.1) rfl,λH2 s2=>?_⟩
     have:=q H2 (s1.trans s2)
     rw [qH] at this
     exact this
   ·rw [decide_eq_false z]
    refine aq ?_
    have:=q H1 s1
    rw [qH,decide_eq_false z] at this
    exact this
  rw [decide_eq_false h2]
  refine aq ⟨_,rfl,a,_,0,.str x,rfl,rfl,SqT.of ha,ad (j:=0) rfl,rfl,_,rfl,?_⟩
  show if decide (V.str x=V.str "row")=true then _ else _
  rw [bg]
  by_cases h3:x="row"
  ·subst h3
   rw [decide_eq_true rfl]
   refine av ⟨_,rfl,a,_,rfl,.inr (SqT.of ha),rfl,_,rfl,?_⟩
   show if decide (V.int _=V.int ((3:Nat):Int))=true then _ else _
   rw [dO (x:=.str "row") hl 2 3 rfl]
   by_cases z:r.length=2
   ·rw [decide_eq_true z]
    match r,us,z,ru with
    | [l,m],us,_,ru=>
     obtain ⟨u,u',rfl,Ru,Ru'⟩:=Reps.two ru
     refine av ⟨_,rfl,a,_,1,u,rfl,rfl,SqT.of ha,ad (j:=1) rfl,u,l,rfl,Ru,cf (i:=1) (ds:=[.str "row",l,m]) (by simp only [Dv.small,Ε] at hsm; exact hsm.1) rfl,λH2 s2=>?_⟩
     have:=q H2 (s1.trans s2)
     rw [yl] at this
     exact this
   ·rw [decide_eq_false z]
    refine aq ?_
    have:=q H1 s1
    rw [yl,decide_eq_false z] at this
    exact this
  rw [decide_eq_false h3]
  refine aq ⟨_,rfl,a,_,rfl,.inr (SqT.of ha),rfl,_,rfl,?_⟩
  show if decide (V.int _=V.int ((3:Nat):Int))=true then _ else _
  rw [dO (x:=.str x) hl 2 3 rfl]
  have qq:=q H1 s1
  rw [zu h1 h2 h3] at qq
  by_cases z:r.length=2
  ·rw [decide_eq_true z] at qq ⊢
   refine av ⟨_,rfl,a,_,0,.str x,rfl,rfl,SqT.of ha,ad (j:=0) rfl,rfl,?_⟩
   rw [Ϧ,<- bg] at qq
   exact qq
  ·rw [decide_eq_false z] at qq ⊢
   exact aq qq
theorem pJ:ao ["point"] ["point"] (ae bM):=by trivial
theorem pf {f:Addr} {fd:Μ} (F:Fun K "things_of" "things_of" bM f fd) (T:Txt K mg):aF P w K mg base CX0 1 f fd ["point"] yk:=by
 refine F.ok pJ (λvs H Q E h=>?_) (λcdv A outer s H vs Q E hr h=>?_)
 ·obtain ⟨a,x,us,rfl,_⟩:=h
  rfl
 obtain ⟨a,x,us,rfl,ha,hr2,hp2,q⟩:=h
 refine ⟨_,(@un _ _ _ (wbO (wbI (wbS ay (waD aj (wv 0 rfl) waC (λ_ _=>rfl)) waV (ai _)) (wbQ (wbK (waM (wae (waD aj (wv 0 rfl) waC (λ_ _=>rfl)) waf rfl)))) wbP) (wbO (wbI (wbS ay (waD aj (wv 0 rfl) waC (λ_ _=>rfl)) waV (ai _)) (wbQ (wbK (waM (wae (waD aj (wv 0 rfl) waC (λ_ _=>rfl)) (wae (waD aj (wv 0 rfl) waC (λ_ _=>rfl)) waf rfl) rfl)))) wbP) (wbQ (wbK (waM waf)))))),?_⟩
 refine ⟨_,rfl,a,_,0,.str x,rfl,rfl,SqT.of ha,ad (j:=0) rfl,rfl,_,rfl,?_⟩
 show if decide (V.str x=V.str "row")=true then _ else _
 rw [bg]
 by_cases h1:x="row"
 ·subst h1
  have hl:=hr2 rfl
  match us,hl with
  | [u,u'],_=>
   rw [decide_eq_true rfl]
   refine av ⟨_,rfl,a,_,2,u',rfl,rfl,SqT.of ha,ad (j:=2) rfl,z1,λl hl=>q l hl⟩
 rw [decide_eq_false h1]
 refine aq ⟨_,rfl,a,_,0,.str x,rfl,rfl,SqT.of ha,ad (j:=0) rfl,rfl,_,rfl,?_⟩
 show if decide (V.str x=V.str "pair")=true then _ else _
 rw [bg]
 by_cases h2:x="pair"
 ·subst h2
  have hl:=hp2 rfl
  match us,hl with
  | [u,u'],_=>
   rw [decide_eq_true rfl]
   refine av ⟨_,rfl,a,_,1,u,rfl,rfl,SqT.of ha,ad (j:=1) rfl,_,rfl,a,_,2,u',rfl,rfl,SqT.of ha,ad (j:=2) rfl,z2,λl hl=>?_⟩
   have:=q l hl
   rw [show kids (ξ "pair") [u,u']=[u,u'] by unfold kids; rw [if_neg (ώ w6),if_pos rfl]] at this
   exact this
 rw [decide_eq_false h2]
 refine aq ⟨Ω _,λl hl=>?_⟩
 have:=q l hl
 rw [show kids x us=[] by unfold kids; rw [if_neg h1,if_neg h2]] at this
 exact this
abbrev gH:Stmt:=top 29
def aD:Dv->Nat
 | .tup [.str x]=>if x="whole" then 1 else 99
 | .tup [.str x,l]=>if x="place"/\slD l=true then 1 else 99
 | .tup [.str x,a,b]=>if x="pair" then 1 + aD a + aD b else if x="row"/\slD a=true then 1 + aD b else 99
 | _=>99
termination_by d=>sizeOf d
decreasing_by all_goals simp_wf; omega
theorem qz {d:Dv} (h:ck d=false):aD d=99:=by
 match d,h with
 | .tup [.str x],h=>
  rw [aD,if_neg (of_decide_eq_false h)]
 | .tup [.str x,l],h=>
  rw [aD,if_neg (λz=>by
   have h':(decide (x="place") && slD l)=false:=h
   rw [decide_eq_true z.1,z.2] at h'; cases h')]
 | .tup [.str x,a,b],h=>
  have h':((decide (x="row") && slD a) || decide (x="pair"))=false:=h
  rw [Bool.or_eq_false_iff] at h'
  rw [aD,if_neg (of_decide_eq_false h'.2),if_neg (λz=>by
   have h2:=h'.1
   rw [decide_eq_true z.1,z.2] at h2; cases h2)]
 | .tup (.str x :: a :: b :: c :: r),_=>rw [aD] <;> simp
 | .tup [],_=>rw [aD] <;> simp
 | .tup (.non :: r),_=>rw [aD] <;> simp
 | .tup (.bl _ :: r),_=>rw [aD] <;> simp
 | .tup (.int _ :: r),_=>rw [aD] <;> simp
 | .tup (.tup _ :: r),_=>rw [aD] <;> simp
 | .tup (.lst _ :: r),_=>rw [aD] <;> simp
 | .tup (.dct :: r),_=>rw [aD] <;> simp
 | .non,_=>rw [aD] <;> simp
 | .bl _,_=>rw [aD] <;> simp
 | .int _,_=>rw [aD] <;> simp
 | .str _,_=>rw [aD] <;> simp
 | .lst _,_=>rw [aD] <;> simp
 | .dct,_=>rw [aD] <;> simp
theorem gM {d:Dv} (h:ck d=true):∃ x r,d=.tup (.str x :: r)/\(x="row"->r.length=2)/\(x="pair"->r.length=2)/\aD d=1 + ((kids x r).map aD).sum:=by
 match d,h with
 | .tup [.str x],h=>
  have h':x="whole":=of_decide_eq_true h
  subst h'
  exact ⟨_,_,rfl,λz=>absurd z w2,λz=>absurd z w3,by rw [aD,if_pos rfl]; unfold kids; rw [if_neg w2,if_neg w3]; rfl⟩
 | .tup [.str x,l],h=>
  have h':(decide (x="place") && slD l)=true:=h
  rw [Ε] at h'
  have e:x="place":=of_decide_eq_true h'.1
  subst e
  exact ⟨_,_,rfl,λz=>absurd z w4,λz=>absurd z w5,by rw [aD,if_pos ⟨rfl,h'.2⟩]; unfold kids; rw [if_neg w4,if_neg w5]; rfl⟩
 | .tup [.str x,a,b],h=>
  have h':((decide (x="row") && slD a) || decide (x="pair"))=true:=h
  rw [DH,Ε] at h'
  refine ⟨x,_,rfl,λ_=>rfl,λ_=>rfl,?_⟩
  rw [aD]
  rcases h' with ⟨h1,h2⟩ | h1
  ·have e:x="row":=of_decide_eq_true h1
   subst e
   rw [if_neg w6,if_pos ⟨rfl,h2⟩]
   unfold kids
   rw [if_pos rfl]
   simp
  ·have e:x="pair":=of_decide_eq_true h1
   subst e
   rw [if_pos rfl]
   unfold kids
   rw [if_neg (ώ w6),if_pos rfl]
   simp [Nat.add_assoc]
theorem size_pos (d:Dv):1<=aD d:=by
 cases h:ck d with
 | false=>rw [qz h]; decide
 | true=>obtain ⟨x,r,_,_,_,e⟩:=gM h; rw [e]; omega
theorem sk {H:Hp} {x:Str} {r:List Dv} {us:List V} (h:Reps H r us):Reps H (kids x r) (kids x us):=by
 unfold kids
 split
 ·match r,us,h with
  | [],us,h=>simp only [Reps] at h; subst h; simp only [List.drop_nil,Reps]
  | d :: r,us,h=>simp only [Reps] at h; obtain ⟨v,q,rfl,_,h2⟩:=h; exact h2
 ·split
  ·exact h
  ·simp only [Reps]
theorem oo {x:Str} {r:List Dv} (h:smalls r=true):smalls (kids x r)=true:=by
 unfold kids
 split
 ·match r,h with
  | [],_=>rfl
  | d :: r,h=>simp only [smalls,Ε] at h; exact h.2
 ·split
  ·exact h
  ·rfl
theorem ma {α:Type} {x:Str} {r:List α} (h1:x="row"->r.length=2) (h2:x="pair"->r.length=2):(kids x r).length<=2:=by
 unfold kids
 split
 ·rename_i e; rw [c_,h1 e]; decide
 ·split
  ·rename_i e; rw [h2 e]; exact π _
  ·exact Ω _
theorem iX:∀ {xs ys:List Dv},smalls xs=true->smalls ys=true->smalls (xs ++ ys)=true
 | [],_,_,h=>h
 | x :: xs,ys,g,h=>by
  simp only [smalls,Ε,CD] at g ⊢
  exact ⟨g.1,iX g.2 h⟩
theorem gU:∀ {xs:List Dv} {y:Dv},smalls (xs ++ [y])=true->smalls xs=true/\y.small=true
 | [],y,h=>by simpa [smalls] using h
 | x :: xs,y,h=>by
  simp only [smalls,Ε,CD] at h ⊢
  have:=gU h.2
  exact ⟨⟨h.1,this.1⟩,this.2⟩
theorem kN {H:Hp} {l:Addr} {o:HO}:af (aS H l) (aS (upd H l o) l):=λb u h=>by
 unfold aS at h ⊢
 split at h
 ·cases h
 ·rename_i e; rw [if_neg e,ah e]; exact h
def iZ:Sp:=spS λd=>decide (aD d<=12)
theorem iL:ao ["thing","size","waiting","point"] ["thing"] (ae gH):=by trivial
theorem oy {f:Addr} {fd:Μ} {k:Nat} (F:Fun K "is_kind" "is_kind" gH f fd) (T:Txt K mg) (Dis_point:Def P w K mg base k "is_point" ["thing"] (spS ck)) (Dthings_of:Def P w K mg base k "things_of" ["point"] yk) :
  aF P w K mg base CX0 (k + 1) f fd ["thing"] iZ:=by
 have nd:=iL.nd
 refine F.ok iL (λvs H Q E h=>?_) (λcdv A outer s H vs Q E hr h=>?_)
 ·obtain ⟨v,d,rfl,_⟩:=h
  rfl
 obtain ⟨v,d,rfl,R,hsm,q⟩:=h
 replace q:∀ (H':Hp),af H H'->Q (V.bl (decide (aD d<=12))) H':=q
 refine ⟨_,(@un _ _ _ (wbO (wbM 1 nd rfl (Ι rfl) waC rfl ∅) (wbO (wbM 2 nd rfl (Ι rfl) (waM (wae (wv 0 rfl) waf rfl)) rfl ∅) (wbO (wbN Ϯ (wbU (wv 2 rfl) (λ_=>rfl)) (wbO (wbM 3 nd rfl (Ι rfl) (wak Ο A5 A6 iE (wv 2 rfl) rfl rfl) rfl ∅) (wbO (wbE 1 nd rfl (Ι rfl) waC vF ∅) (wbO (wbI (wab (wbY (wbS dY (wv 1 rfl) ⟨T.g_GREATEST_SIZE rfl⟩ (ai _)) (wbZ (wbT (wbV (waq Dis_point hr rfl (wae (wv 3 rfl) waf rfl) ∅ rfl rfl) ∅))))) (wbQ (wbK wah)) wbP) (wbQ (wbG (waj Ο BY BZ gy (wv 2 rfl) (wae (waq Dthings_of hr rfl (wae (wv 3 rfl) waf rfl) ∅ rfl rfl) waf rfl) rfl rfl rfl rfl rfl) rfl)))))) (wbQ (wbK wah)))))),?_⟩
 refine ⟨_,rfl,z1,λW1 hW=>?_⟩
 have q1:=ac hW (.lst [v])
 refine mT (λm σ H'=>∃ (o3:Option V) (sz:Nat) (ws:List Dv) (vs:List V),σ=[some v,some (.int sz),some (.ref W1),o3]/\af H (aS H' W1)/\H' W1=some (.lst vs)/\Reps (aS H' W1) ws vs/\smalls ws=true/\(sz + (ws.map aD).sum<=12↔aD d<=12)/\m=12 - sz/\sz<=12/\ws.length<=1 + sz) 12
  ⟨_,0,[d],[v],rfl,fP q1 hW,aa,aN (R.mono (fP q1 hW)),by simp only [smalls,hsm,Bool.and_self],∅,rfl,∅,π _⟩ ?_ eX
 rintro m σ H1 D1 gR gD ⟨o3,sz,ws,vs,rfl,s1,w1,R1,sm,eq,rfl,s12,lw⟩
 have s01:af H H1:=s1.trans br
 refine ⟨_,rfl,_,.inl ⟨vs,SqL.of w1,rfl⟩,?_⟩
 by_cases ne:ws=[]
 ·subst ne
  have e:vs=[]:=by simpa only [Reps] using R1
  subst e
  refine aq ?_
  have:=q H1 s01
  rw [decide_eq_true (eq.mp (by simpa using s12))] at this
  exact this
 ·obtain ⟨w0,x,rfl⟩:=fO ne
  obtain ⟨v0,u,rfl,Ra,Ru⟩:=bZ R1
  have e:(!(v0 ++ [u]).isEmpty)=true:=by simp
  rw [e]
  refine av ?_
  rw [ω,BM,Υ,ϰ,DC,List.sum_nil] at eq
  rw [ψ,ϧ] at lw
  obtain ⟨sm0,smx⟩:=gU sm
  refine ⟨_,rfl,.inl ⟨rfl,_,SqL.of w1⟩,W1,_,_,rfl,rfl,w1,dM _ _,?_⟩
  rw [BP]
  have t2:af (aS H1 W1) (aS (upd H1 W1 (.lst v0)) W1):=kN
  have w2:upd H1 W1 (.lst v0) W1=some (.lst v0):=aa
  have s02:af H _:=s1.trans (t2.trans br)
  generalize upd H1 W1 (.lst v0)=H2 at t2 w2 s02 ⊢
  have xp:=size_pos x
  refine ⟨_,rfl,_,_,rfl,rfl,?_⟩
  refine ⟨_,rfl,_,_,rfl,rfl,_,rfl,?_⟩
  refine au (λh=>?_) (λh=>?_)
  ·have h':(12:Int) < (sz:Int) + 1:=of_decide_eq_true h
   have:=q H2 s02
   rw [decide_eq_false (λz=>by have:=eq.mpr z; omega)] at this
   exact av (gR _ _ this)
  have h':sz + 1<=12:=by have z:¬ ((12:Int) < (sz:Int) + 1):=of_decide_eq_false (Cp.mpr h); omega
  refine ⟨_,rfl,u,x,rfl,Ru.mono (t2.trans br),smx,λH3 s3=>⟨_,rfl,?_⟩⟩
  have s03:=s02.trans s3
  cases c:ck x with
  | false=>
   have:=q H3 s03
   rw [decide_eq_false (λz=>by have:=eq.mpr z; rw [qz c] at this; omega)] at this
   exact av (gR _ _ this)
  | true=>
   refine aq ?_
   obtain ⟨wd,r,rfl,k1,k2,es⟩:=gM c
   have Rx:Rep (aS H3 W1) (.tup (.str wd :: r)) u:=Ru.mono (t2.trans (bo s3))
   obtain ⟨a,us,rfl,ha,rs⟩:=Rep.tup_inv Rx
   simp only [Reps] at rs
   obtain ⟨y,ur,rfl,R0,ru⟩:=rs
   obtain rfl:y=.str wd:=R0
   have hl:=ru.length
   have w3:=s3 _ _ w2
   have lk:(kids wd ur).length<=2:=ma (λz=>by rw [hl]; exact k1 z) (λz=>by rw [hl]; exact k2 z)
   have lv:v0.length<=12:=by rw [Ra.length]; omega
   refine ⟨_,rfl,.inl ⟨rfl,_,SqL.of w3⟩,_,rfl,a,wd,ur,rfl,br _ _ ha,λz=>by rw [hl]; exact k1 z,λz=>by rw [hl]; exact k2 z,λl hl4=>?_⟩
   have q4:=ac hl4 (.lst (kids wd ur))
   refine ⟨W1,l,_,_,rfl,rfl,q4 _ _ w3,aa,by rw [υ]; omega,?_⟩
   have t5:af (aS H3 W1) (aS (upd (upd H3 l (.lst (kids wd ur))) W1 (.lst (v0 ++ kids wd ur))) W1):=(bo q4).trans kN
   have t15:=t2.trans ((bo s3).trans t5)
   refine gD (12 - (sz + 1)) _ _ ∅ ⟨_,sz + 1,w0 ++ kids wd r,v0 ++ kids wd ur,rfl,s1.trans t15,aa,Reps.append (Ra.mono t15) ((sk ru).mono t5),iX sm0 (oo (by simp only [Dv.small,smalls,Ε] at smx; exact smx.1.2)),?_,rfl,h',?_⟩
   ·rw [<- eq,es,ω,BM]
    constructor <;> intro z <;> omega
   ·have:=ma (α:=Dv) k1 k2
    rw [ψ]; omega
abbrev eM:Stmt:=top 32
abbrev cu:Stmt:=top 40
abbrev iO:Stmt:=top 41
abbrev pN:Stmt:=top 42
def uU (b:Int):Dv->Bool
 | .int i=>decide (0<=i) && decide (i < b)
 | _=>false
def dI (b:Int):Dv->Bool
 | .tup ds=>decide (b<=(ds.length:Int)) && decide ((ds.length:Int)<=4)
 | _=>false
def gQ (x:Str):Bool:=inV (.str x) (vM.map V.str)
def cY (x:Str):Bool:=WT.any λp=>decide (p.1=x)
def fv:Dv->Bool
 | .str x=>nmB x && (!cY x && !gQ x)
 | _=>false
def zW:Dv->Bool
 | .str x=>gQ x
 | _=>false
def wm:So->Dv->Bool
 | .n,d=>uU 1000000000000 d
 | .x,d=>aV d
 | .y,d=>aV d
 | .l,d=>slD d
 | .k,d=>decide (aD d<=12)
 | .w,d=>zW d
 | .f,d=>fv d
 | .a,d=>dI 0 d
 | .r,d=>dI 1 d
 | .e,_=>true
def qR:Sp:=λvs H Q _=>∃ (v:V) (d:Dv) (b:Int),vs=[v,.int b]/\Rep H d v/\∀ H',af H H'->Q (.bl (uU b d)) H'
def qw:Sp:=λvs H Q _=>∃ (v:V) (d:Dv) (b:Int),vs=[v,.int b]/\Rep H d v/\∀ H',af H H'->Q (.bl (dI b d)) H'
def uH:Sp:=λvs H Q _=>∃ (s:So) (v:V) (d:Dv),vs=[.str (srt s),v]/\Rep H d v/\d.small=true/\∀ H',af H H'->Q (.bl (wm s d)) H'
theorem mr:ao ["thing","bound"] ["thing","bound"] (ae eM):=by trivial
theorem lX {f:Addr} {fd:Μ} {k:Nat} (F:Fun K "is_below" "is_below" eM f fd) (T:Txt K mg) (Dis_whole:Def P w K mg base k "is_whole" ["thing"] (spD bA)):aF P w K mg base CX0 (k + 1) f fd ["thing","bound"] qR:=by
 refine F.ok mr (λvs H Q E h=>?_) (λcdv A outer s H vs Q E hr h=>?_)
 ·obtain ⟨v,d,b,rfl,_⟩:=h
  rfl
 obtain ⟨v,d,b,rfl,R,q⟩:=h
 refine ⟨_,(@un _ _ _ (wbQ (wbK (wag (waq Dis_whole hr rfl (wae (wv 0 rfl) waf rfl) ∅ rfl rfl) (waP (wao jU nX waC (wv 0 rfl) (wv 1 rfl) (by with_unfolding_all rfl))))))),?_⟩
 refine ⟨_,rfl,v,d,rfl,R,λH1 s1=>⟨_,rfl,?_⟩⟩
 have qq:=q H1 s1
 cases d with
 | int i=>
  obtain rfl:v=.int i:=R
  refine av ⟨_,rfl,_,_,rfl,rfl,_,rfl,?_⟩
  have qq':Q (.bl (decide (0<=i) && decide (i < b))) H1:=qq
  by_cases h:0<=i
  ·rw [decide_eq_true h] at qq' ⊢
   exact av ⟨_,rfl,_,_,rfl,rfl,qq'⟩
  ·rw [decide_eq_false h] at qq' ⊢
   exact aq qq'
 | _=>exact aq qq
theorem tF:ao ["thing","least"] ["thing","least"] (ae iO):=by trivial
theorem sH {f:Addr} {fd:Μ} (F:Fun K "is_few" "is_few" iO f fd) (T:Txt K mg):aF P w K mg base CX0 1 f fd ["thing","least"] qw:=by
 refine F.ok tF (λvs H Q E h=>?_) (λcdv A outer s H vs Q E hr h=>?_)
 ·obtain ⟨v,d,b,rfl,_⟩:=h
  rfl
 obtain ⟨v,d,b,rfl,R,q⟩:=h
 refine ⟨_,(@un _ _ _ (wbQ (wbK (wag (wal bb rfl T.isinstance ∅ (wae (wv 0 rfl) (wae (wai (.ty "tuple") rfl T.tuple ∅ rfl ∅ ∅) waf rfl) rfl) ∅ ∅ rfl rfl) (waP (wao jU jU (wv 1 rfl) (wal ak rfl T.len ∅ (wae (wv 0 rfl) waf rfl) ∅ ∅ rfl rfl) ⟨T.g_MOST_THINGS rfl⟩ (by with_unfolding_all rfl))))))),?_⟩
 have qq:=q H (af.refl H)
 refine ⟨_,rfl,v,_,_,_,rfl,R.ty,bY K d,_,rfl,?_⟩
 cases d with
 | tup ds=>
  obtain ⟨a,vs,rfl,ha,rs⟩:=Rep.tup_inv R
  have hl:=rs.length
  refine av ⟨_,rfl,_,rfl,a,vs,rfl,.inr (SqT.of ha),_,_,rfl,rfl,_,rfl,?_⟩
  have qq':Q (.bl (decide (b<=(ds.length:Int)) && decide ((ds.length:Int)<=4))) H:=qq
  rw [<- hl] at qq'
  by_cases h:b<=(vs.length:Int)
  ·rw [decide_eq_true h] at qq' ⊢
   exact av ⟨_,_,rfl,rfl,qq'⟩
  ·rw [decide_eq_false h] at qq' ⊢
   exact aq qq'
 | _=>exact aq qq
theorem jb:ao ["thing"] ["thing"] (ae cu):=by trivial
theorem iu {f gS gR:Addr} {fd:Μ} {k:Nat} (F:Fun K "is_def_name" "is_def_name" cu f fd) (T:Txt K mg) (S:Shp P w K gS) (GS:mg "SHAPES"=some (.ref gS)) (GR:mg "RECKONS"=some (.ref gR)) (hR:∀ H,SqT K H gR (vM.map V.str)) (Dis_name:Def P w K mg base k "is_name" ["thing"] (spS aV)):aF P w K mg base CX0 (k + 1) f fd ["thing"] (spS fv):=by
 refine F.ok jb (λvs H Q E h=>?_) (λcdv A outer s H vs Q E hr h=>?_)
 ·obtain ⟨v,d,rfl,_⟩:=h
  rfl
 obtain ⟨v,d,rfl,R,sm,q⟩:=h
 obtain ⟨kvs,FS,_,hS⟩:=S.ex
 refine ⟨_,(@un _ _ _ (wbQ (wbK (wag (waq Dis_name hr rfl (wae (wv 0 rfl) waf rfl) ∅ rfl rfl) (wag (wap (jw FS) (wv 0 rfl) (waB (.ref gS) rfl GS rfl ∅) (by with_unfolding_all rfl)) (waP (wap fj (wv 0 rfl) (waB (.ref gR) rfl GR rfl ∅) (by with_unfolding_all rfl)))))))),?_⟩
 refine ⟨_,rfl,v,d,rfl,R,sm,λH1 s1=>⟨_,rfl,?_⟩⟩
 have qq:=q H1 s1
 cases d with
 | str x=>
  obtain rfl:v=.str x:=R
  have qq':Q (.bl (nmB x && (!cY x && !gQ x))) H1:=qq
  show if nmB x=true then _ else _
  cases hn:nmB x with
  | false=>rw [hn] at qq'; exact aq qq'
  | true=>
   rw [hn] at qq'
   refine av ⟨_,rfl,x,rfl,rfl,_,rfl,?_⟩
   rw [hS x]
   show if xor true (cY x)=true then _ else _
   cases hw:cY x with
   | true=>rw [hw] at qq'; exact aq qq'
   | false=>
    rw [hw] at qq'
    exact av ⟨_,rfl,gR,_,rfl,.inr (hR _),rfl,∅,qq'⟩
 | _=>exact aq qq
theorem wA:ao ["sort","thing"] ["sort","thing"] (ae pN):=by trivial
theorem wN {f gR:Addr} {fd:Μ} {k:Nat} (F:Fun K "fits" "fits" pN f fd) (T:Txt K mg) (GR:mg "RECKONS"=some (.ref gR)) (hR:∀ H,SqT K H gR (vM.map V.str)) (Dis_below:Def P w K mg base k "is_below" ["thing","bound"] qR) (Dis_name:Def P w K mg base k "is_name" ["thing"] (spS aV)) (Dis_small_length:Def P w K mg base k "is_small_length" ["thing"] (spS slD)) (Dis_kind:Def P w K mg base k "is_kind" ["thing"] iZ) (Dis_def_name:Def P w K mg base k "is_def_name" ["thing"] (spS fv)) (Dis_few:Def P w K mg base k "is_few" ["thing","least"] qw):aF P w K mg base CX0 (k + 1) f fd ["sort","thing"] uH:=by
 refine F.ok wA (λvs H Q E h=>?_) (λcdv A outer s H vs Q E hr h=>?_)
 ·obtain ⟨s,v,d,rfl,_⟩:=h
  rfl
 obtain ⟨so,v,d,rfl,R,sm,q⟩:=h
 refine ⟨_,(@un _ _ _ (wbO (wbI (wbS ay (wv 0 rfl) waV (ai _)) (wbQ (wbK (waq Dis_below hr rfl (wae (wv 1 rfl) (wae ⟨T.g_WHOLE_BOUND rfl⟩ waf rfl) rfl) ∅ rfl rfl))) wbP) (wbO (wbI (wbS ay (wv 0 rfl) waV (ai _)) (wbQ (wbK (waq Dis_name hr rfl (wae (wv 1 rfl) waf rfl) ∅ rfl rfl))) wbP) (wbO (wbI (wbS ay (wv 0 rfl) waV (ai _)) (wbQ (wbK (waq Dis_small_length hr rfl (wae (wv 1 rfl) waf rfl) ∅ rfl rfl))) wbP) (wbO (wbI (wbS ay (wv 0 rfl) waV (ai _)) (wbQ (wbK (waq Dis_kind hr rfl (wae (wv 1 rfl) waf rfl) ∅ rfl rfl))) wbP) (wbO (wbI (wbS ay (wv 0 rfl) waV (ai _)) (wbQ (wbK (wag (wal bb rfl T.isinstance ∅ (wae (wv 1 rfl) (wae (wai (.ty "str") rfl T.str ∅ rfl ∅ ∅) waf rfl) rfl) ∅ ∅ rfl rfl) (waP (wap jB (wv 1 rfl) (waB (.ref gR) rfl GR rfl ∅) (by with_unfolding_all rfl)))))) wbP) (wbO (wbI (wbS ay (wv 0 rfl) waV (ai _)) (wbQ (wbK (waq Dis_def_name hr rfl (wae (wv 1 rfl) waf rfl) ∅ rfl rfl))) wbP) (wbO (wbI (wbS ay (wv 0 rfl) waV (ai _)) (wbQ (wbK (waq Dis_few hr rfl (wae (wv 1 rfl) (wae waC waf rfl) rfl) ∅ rfl rfl))) wbP) (wbO (wbI (wbS ay (wv 0 rfl) waV (ai _)) (wbQ (wbK (waq Dis_few hr rfl (wae (wv 1 rfl) (wae waC waf rfl) rfl) ∅ rfl rfl))) wbP) (wbQ (wbK wah))))))))))),?_⟩
 refine ⟨_,rfl,rfl,_,rfl,au (λh=>?_) (λh1=>?_)⟩
 ·have e:=(xS so).mp (of_decide_eq_true h)
  subst e
  exact ⟨_,rfl,v,d,_,rfl,R,q⟩
 refine ⟨_,rfl,rfl,_,rfl,au (λh=>?_) (λh2=>?_)⟩
 ·rcases (vz so).mp (of_decide_eq_true h) with e | e
  ·subst e; exact ⟨_,rfl,v,d,rfl,R,sm,q⟩
  ·subst e; exact ⟨_,rfl,v,d,rfl,R,sm,q⟩
 refine ⟨_,rfl,rfl,_,rfl,au (λh=>?_) (λh3=>?_)⟩
 ·have e:=(xQ so).mp (of_decide_eq_true h)
  subst e
  exact ⟨_,rfl,v,d,rfl,R,sm,q⟩
 refine ⟨_,rfl,rfl,_,rfl,au (λh=>?_) (λh4=>?_)⟩
 ·have e:=(yt so).mp (of_decide_eq_true h)
  subst e
  exact ⟨_,rfl,v,d,rfl,R,sm,q⟩
 refine ⟨_,rfl,rfl,_,rfl,au (λh=>?_) (λh5=>?_)⟩
 ·have e:=(xT so).mp (of_decide_eq_true h)
  subst e
  refine ⟨_,rfl,v,_,_,_,rfl,R.ty,kF K d,_,rfl,?_⟩
  have qq:=q H (af.refl H)
  cases d with
  | str x=>
   obtain rfl:v=.str x:=R
   exact av ⟨_,rfl,gR,_,rfl,.inr (hR _),rfl,∅,qq⟩
  | _=>exact aq qq
 refine ⟨_,rfl,rfl,_,rfl,au (λh=>?_) (λh6=>?_)⟩
 ·have e:=(yr so).mp (of_decide_eq_true h)
  subst e
  exact ⟨_,rfl,v,d,rfl,R,sm,q⟩
 refine ⟨_,rfl,rfl,_,rfl,au (λh=>?_) (λh7=>?_)⟩
 ·have e:=(mL so).mp (of_decide_eq_true h)
  subst e
  exact ⟨_,rfl,v,d,_,rfl,R,q⟩
 refine ⟨_,rfl,rfl,_,rfl,au (λh=>?_) (λh8=>?_)⟩
 ·have e:=(nY so).mp (of_decide_eq_true h)
  subst e
  exact ⟨_,rfl,v,d,_,rfl,R,q⟩
 have e:so=.e:=by
  cases so with
  | e=>rfl
  | n=>exact absurd (decide_eq_true ((xS .n).mpr rfl)) h1
  | x=>exact absurd (decide_eq_true ((vz .x).mpr (.inl rfl))) h2
  | y=>exact absurd (decide_eq_true ((vz .y).mpr (.inr rfl))) h2
  | l=>exact absurd (decide_eq_true ((xQ .l).mpr rfl)) h3
  | k=>exact absurd (decide_eq_true ((yt .k).mpr rfl)) h4
  | w=>exact absurd (decide_eq_true ((xT .w).mpr rfl)) h5
  | f=>exact absurd (decide_eq_true ((yr .f).mpr rfl)) h6
  | a=>exact absurd (decide_eq_true ((mL .a).mpr rfl)) h7
  | r=>exact absurd (decide_eq_true ((nY .r).mpr rfl)) h8
 subst e
 exact q H (af.refl H)
abbrev gm:Stmt:=top 43
abbrev eJ:Stmt:=top 44
def rH:Sp:=λvs H Q _=>∃ (v:V) (d:Dv) (G:Hp),vs=[v]/\af G H/\Rep G d v/\yP d/\∀ (H':Hp) (l:Addr) (us:List V),af H H'->H l=none->H' l=some (.lst us)->Reps G (bH d) us->Q (.ref l) H'
def okF:List So->List Dv->Bool
 | [],[]=>true
 | s :: ss,d :: ds=>wm s d && okF ss ds
 | _,_=>false
def jT:List Dv->Bool
 | .str x :: _ :: .str y :: _=>decide (x≠y)
 | _=>false
def dj:Dv->Bool
 | .tup (.str w :: ds)=>match WT.find? (λq=>decide (q.1=w)) with
  | some p=>okF p.2.2 ds && (decide (w≠"fold") || jT ds)
  | none=>false
 | _=>false
theorem rN {d:Dv} (h:de d=false):dj d=false:=by
 match d,h with
 | .tup (.str x :: r),h=>cases h
 | .tup [],_=>rfl
 | .tup (.non :: r),_=>rfl
 | .tup (.bl _ :: r),_=>rfl
 | .tup (.int _ :: r),_=>rfl
 | .tup (.tup _ :: r),_=>rfl
 | .tup (.lst _ :: r),_=>rfl
 | .tup (.dct :: r),_=>rfl
 | .non,_=>rfl
 | .bl _,_=>rfl
 | .int _,_=>rfl
 | .str _,_=>rfl
 | .lst _,_=>rfl
 | .dct,_=>rfl
theorem qX {x:Str} {ds:List Dv} (h:cY x=false):dj (.tup (.str x :: ds))=false:=by
 have e:WT.find? (λq=>decide (q.1=x))=none:=by
  rw [Eh]
  intro p hp
  have:=C3.mp h p hp
  exact this
 show (match WT.find? (λq=>decide (q.1=x)) with | some p'=>okF p'.2.2 ds && (decide (x≠"fold") || jT ds) | none=>false)=_
 rw [e]
theorem qv {x:Str} (h:cY x=true):∃ p∈WT,p.1=x:=by
 obtain ⟨p,hp,e⟩:=j_.mp h
 exact ⟨p,hp,of_decide_eq_true e⟩
theorem fD {p:Wd} (hp:p∈WT) (ds:List Dv):dj (.tup (.str p.1 :: ds))=(okF p.2.2 ds && (decide (p.1≠"fold") || jT ds)):=by
 show (match WT.find? (λq=>decide (q.1=p.1)) with | some p'=>okF p'.2.2 ds && (decide (p.1≠"fold") || jT ds) | none=>false)=_
 rw [qa yc hp]
theorem kE:∀ {ss:List So} {ds:List Dv},okF ss ds=true->ds.length=ss.length
 | [],[],_=>rfl
 | s :: ss,d :: ds,h=>by
  simp only [okF,Ε] at h
  rw [ό,ό,kE h.2]
 | [],_ :: _,h=>by cases h
 | _ :: _,[],h=>by cases h
theorem vO {ss:List So} {ds:List Dv} {i:Nat} {s:So} {d:Dv} (hs:ss[i]?=some s) (hd:ds[i]?=some d):okF (ss.drop i) (ds.drop i)=(wm s d && okF (ss.drop (i + 1)) (ds.drop (i + 1))):=by
 obtain ⟨h1,rfl⟩:=ο.mp hs
 obtain ⟨h2,rfl⟩:=ο.mp hd
 rw [u7 h1,u7 h2]
 rfl
theorem qt {b:Int} {d:Dv} (h:dI b d=true):∃ es,d=.tup es/\b<=(es.length:Int)/\es.length<=4:=by
 cases d with
 | tup es=>
  simp only [dI,Ε,decide_eq_true_eq] at h
  exact ⟨es,rfl,h.1,∅⟩
 | _=>cases h
theorem vH:∀ {ss:List So} {ds:List Dv},okF ss ds=true->F2 (Fld (λ_=>True) (λ_ _=>True)) ss ds
 | [],[],_=>.nil
 | s :: ss,d :: ds,h=>by
  simp only [okF,Ε] at h
  refine .cons ?_ (vH h.2)
  cases s with
  | a=>obtain ⟨es,rfl,_,h4⟩:=qt (b:=0) h.1; exact ⟨es,rfl,h4,λ_ _=>trivial⟩
  | r=>obtain ⟨es,rfl,h1,h4⟩:=qt (b:=1) h.1; exact ⟨es,rfl,∅,h4,λ_ _=>trivial⟩
  | e=>trivial
  | _=>trivial
 | [],_ :: _,h=>by cases h
 | _ :: _,[],h=>by cases h
theorem sg {d:Dv} (h:dj d=true):yP d:=by
 match d,h with
 | .tup (.str x :: ds),h=>
  cases hw:cY x with
  | false=>rw [qX hw] at h; cases h
  | true=>
   obtain ⟨p,hp,rfl⟩:=qv hw
   rw [fD hp,Ε] at h
   exact ⟨p,ds,hp,rfl,vH h.1⟩
 | .tup [],h=>cases h
 | .tup (.non :: r),h=>cases h
 | .tup (.bl _ :: r),h=>cases h
 | .tup (.int _ :: r),h=>cases h
 | .tup (.tup _ :: r),h=>cases h
 | .tup (.lst _ :: r),h=>cases h
 | .tup (.dct :: r),h=>cases h
 | .non,h=>cases h
 | .bl _,h=>cases h
 | .int _,h=>cases h
 | .str _,h=>cases h
 | .lst _,h=>cases h
 | .dct,h=>cases h
theorem Bq {ds:List Dv} (h:ds.length=5):∃ a b c d e,ds=[a,b,c,d,e]:=by
 match ds,h with
 | [a,b,c,d,e],_=>exact ⟨a,b,c,d,e,rfl⟩
theorem wo:∀ p∈WT,p.1="fold"->p.2.2=[.x,.l,.y,.e,.e]:=by decide +kernel
theorem mq {d:Dv} (h:aV d=true):∃ x,d=.str x:=by
 cases d with
 | str x=>exact ⟨x,rfl⟩
 | _=>cases h
theorem gT:ao ["node","parts","sort","given"] ["node"] (ae eJ):=by trivial
theorem mE {f gS:Addr} {fd:Μ} (F:Fun K "parts_of" "parts_of" eJ f fd) (T:Txt K mg) (S:Shp P w K gS) (GS:mg "SHAPES"=some (.ref gS)):aF P w K mg base CX0 1 f fd ["node"] rH:=by
 have nd:=gT.nd
 refine F.ok gT (λvs H Q E h=>?_) (λcdv A outer s H vs Q E hr h=>?_)
 ·obtain ⟨v,d,G,rfl,_⟩:=h
  rfl
 obtain ⟨v,d,G,rfl,sG,R,⟨p,ds,hp,rfl,hf⟩,q⟩:=h
 obtain ⟨kvs,FS,hS,_⟩:=S.ex
 obtain ⟨a,vs,rfl,haG,rs⟩:=Rep.tup_inv R
 obtain ⟨v0,ws,rfl,R0,rw'⟩:=cH rs
 have ha:=sG _ _ haG
 obtain rfl:v0=.str p.1:=R0
 obtain ⟨b,hb,hbT⟩:=hS p hp
 have lds:=hf.length
 have lws:=rw'.length
 have h5:=rf p hp
 refine ⟨_,(@un _ _ _ (wbO (wbM 1 nd rfl (Ι rfl) (waM waf) rfl ∅) (wbO (wbH Ϯ rfl (wbs rfl T.zip (wae (wbu FS (waB (.ref gS) rfl GS rfl ∅) (waD aj (wv 0 rfl) waC (λ_ _=>rfl)) (λ_ _=>rfl)) (wae (waT kY (wv 0 rfl) (wbA waC) wbz) waf rfl) rfl) rfl rfl) (wbb rfl (wbd (waZ 2 nd rfl (Ι rfl) ∅) (wbd (waZ 3 nd rfl (Ι rfl) ∅) wbe rfl) rfl) rfl rfl) (wbO (wbI (wbS ay (wv 2 rfl) waV (ai _)) (wbQ (wbG (waj Ο ϫ Ϭ bd (wv 1 rfl) (wae (wv 3 rfl) waf rfl) rfl rfl rfl rfl rfl) rfl)) wbP) (wbQ (wbI (wab (wbY (wbS ay (wv 2 rfl) waV (ai _)) (wbZ (wbS ay (wv 2 rfl) waV (ai _))))) (wbQ (wbG (waj Ο BY BZ xK (wv 1 rfl) (wae (wv 3 rfl) waf rfl) rfl rfl rfl rfl rfl) rfl)) wbP))) ∅) (wbQ (wbK (wv 1 rfl)))))),?_⟩
 refine ⟨Ω _,λl hl=>?_⟩
 have q1:=ac hl (.lst [])
 have l1:upd H l (.lst []) l=some (.lst []):=aa
 generalize upd H l (.lst [])=H1 at q1 l1 ⊢
 refine gnm ?_
 dsimp only
 refine ⟨_,rfl,a,_,0,.str p.1,rfl,rfl,SqT.of (q1 _ _ ha),ad (j:=0) rfl,p.1,b,rfl,rfl,hb,?_⟩
 refine ⟨_,rfl,1,rfl,?_⟩
 dsimp only [lH]
 refine qp (q1 _ _ ha) λH2 t s2 ht=>?_
 have ec:aB (V.str p.1 :: ws) (some 1) none=ws:=bG (V.str p.1 :: ws) 1
 rw [ec] at ht
 have s02:=q1.trans s2
 have l2:=s2 _ _ l1
 refine ⟨b,t,rfl,⟨_,hbT _⟩,⟨_,SqT.of ht⟩,gK (D:={ nx:=zA (iP 1) { nx:=λx H'=>Q V.non H',rt:=Q },rt:=Q }) (xs:=p.2.2.map λs=>V.str (srt s)) (ys:=ws) (λi σ H'=>∃ (o2 o3:Option V) (us:List V),σ=[some (.ref a),some (.ref l),o2,o3]/\af H H'/\H' t=some (.tup ws)/\H' l=some (.lst us)/\Reps G (aW (p.2.2.take i) (ds.take i)) us/\us.length<=4 * i) ⟨_,_,[],rfl,s02,ht,l2,by simp [aW,Reps],π _⟩ (λi σ H' ⟨_,_,_,_,_,h,_⟩=>⟨hbT _,SqT.of h⟩) ?T1 ?_⟩
 case T1=>
  rintro i x y σ H3 t3 D1 gR gD hx hy ⟨o2,o3,us,rfl,s3,ht3,l3,R3,lu⟩ hp3
  rw [Ψ] at hx
  obtain ⟨so,hso,rfl⟩:=k4.mp hx
  have hi:i < p.2.2.length:=(ο.mp hso).1
  obtain ⟨d,hd,hfd⟩:=hf.get hso
  obtain ⟨y',hy',Ry⟩:=tG rw' hd
  rw [hy] at hy'
  cases hy'
  have q4:=ac hp3 (.tup [.str (srt so),y])
  have ht4:upd H3 t3 (.tup [.str (srt so),y]) t3=some (.tup [.str (srt so),y]):=aa
  have s4:=s3.trans q4
  have l4:=q4 _ _ l3
  have t4:=q4 _ _ ht3
  generalize upd H3 t3 (.tup [.str (srt so),y])=H4 at ht4 s4 l4 t4 ⊢
  refine ⟨t3,_,rfl,SqT.of ht4,rfl,_,_,rfl,_,_,rfl,rfl,?_⟩
  have put:∀ (us':List V),Reps G (ptD so d) us'->us'.length<=4->(∃ (o2 o3:Option V) (us2:List V),[some (V.ref a),some (.ref l),some (.str (srt so)),some y]=[some (.ref a),some (.ref l),o2,o3]/\af H (upd H4 l (.lst (us ++ us')))/\upd H4 l (.lst (us ++ us')) t=some (.tup ws)/\upd H4 l (.lst (us ++ us')) l=some (.lst us2)/\Reps G (aW (p.2.2.take (i + 1)) (ds.take (i + 1))) us2/\us2.length<=4 * (i + 1)):=λus' Ru lu'=>by
   refine ⟨_,_,us ++ us',rfl,λg o e=>?_,?_,aa,?_,by rw [ψ]; omega⟩
   ·rw [ah (ag e hl)]; exact s4 g o e
   ·rw [ah (λe=>by rw [e,l4] at t4; cases t4)]; exact t4
   ·rw [jx _ _ _ hso hd]
    exact Reps.append R3 Ru
  have same:ptD so d=[]->(∃ (o2 o3:Option V) (us2:List V),[some (V.ref a),some (.ref l),some (.str (srt so)),some y]=[some (.ref a),some (.ref l),o2,o3]/\af H H4/\H4 t=some (.tup ws)/\H4 l=some (.lst us2)/\Reps G (aW (p.2.2.take (i + 1)) (ds.take (i + 1))) us2/\us2.length<=4 * (i + 1)):=λe=>by
   refine ⟨_,_,us,rfl,s4,t4,l4,?_,∅⟩
   rw [jx _ _ _ hso hd,e,m5]
   exact R3
  replace put:=λus' h1 h2=>gD _ _ (put us' h1 h2)
  replace same:=λe=>gD _ _ (same e)
  refine ⟨_,rfl,rfl,_,rfl,au (λh=>?_) (λh=>?_)⟩
  ·have e:=(xU so).mp (of_decide_eq_true h)
   subst e
   refine ⟨_,rfl,.inl ⟨rfl,_,SqL.of l4⟩,_,rfl,l,_,_,rfl,rfl,l4,by rw [υ]; omega,?_⟩
   have fin:=put [y] (aN Ry) (by show 1<=4; decide)
   refine ⟨_,rfl,rfl,_,rfl,au (λh2=>absurd ((mL .e).mp (of_decide_eq_true h2)) ∅) (λ_=>⟨_,rfl,rfl,_,rfl,?_⟩)⟩
   rw [show decide (V.str (srt .e)=V.str "things")=false from decide_eq_false λh2=>absurd ((nY .e).mp h2) ∅]
   exact aq fin
  ·have ne:so≠.e:=λe=>h (decide_eq_true ((xU so).mpr e))
   by_cases har:so=.a\/so=.r
   ·obtain ⟨es,rfl,l4e⟩:∃ es,d=.tup es/\es.length<=4:=by
     rcases har with e | e
     ·subst e; obtain ⟨es,h1,h2,_⟩:=hfd; exact ⟨es,h1,h2⟩
     ·subst e; obtain ⟨es,h1,_,h2,_⟩:=hfd; exact ⟨es,h1,h2⟩
    have ek:ptD so (.tup es)=es:=by rcases har with e | e <;> subst e <;> rfl
    obtain ⟨b2,zs,rfl,hb2,rz⟩:=Rep.tup_inv Ry
    have lz:=rz.length
    refine tnx ?_
    dsimp only
    refine zi (av ?_) λqT=>?_
    ·refine ⟨_,rfl,.inl ⟨rfl,_,SqL.of l4⟩,_,rfl,l,b2,_,zs,rfl,rfl,l4,SqT.of (s4 _ _ (sG _ _ hb2)),by rw [υ]; omega,put zs (by rw [ek]; exact rz) ∅⟩
    ·rcases har with e | e
     ·exact ⟨_,rfl,rfl,_,rfl,au (λ_=>qT) (λh2=>absurd (decide_eq_true ((mL so).mpr e)) h2)⟩
     ·refine ⟨_,rfl,rfl,_,rfl,au (λ_=>qT) (λ_=>⟨_,rfl,rfl,_,rfl,?_⟩)⟩
      rw [decide_eq_true ((nY so).mpr e)]
      exact qT
   ·have na:so≠.a:=λe=>har (.inl e)
    have nr:so≠.r:=λe=>har (.inr e)
    refine tnx ⟨_,rfl,rfl,_,rfl,au (λh2=>absurd ((mL so).mp (of_decide_eq_true h2)) na) (λ_=>⟨_,rfl,rfl,_,rfl,?_⟩)⟩
    rw [show decide (V.str (srt so)=V.str "things")=false from decide_eq_false λh2=>nr ((nY so).mp h2)]
    refine aq (same ?_)
    cases so with
    | e=>exact absurd rfl ne
    | a=>exact absurd rfl na
    | r=>exact absurd rfl nr
    | _=>rfl
 rintro σ H3 ⟨o2,o3,us,rfl,s3,ht3,l3,R3,lu⟩
 refine ⟨_,rfl,q H3 l us s3 hl l3 ?_⟩
 rw [ε,Cg ∅,Ϥ,<- lds,Ϥ] at R3
 rw [parts_of hp]
 exact R3
theorem iT:ao ["thing","shape","sort","given"] ["thing"] (ae gm):=by trivial
theorem pH {f gS:Addr} {fd:Μ} {k:Nat} (F:Fun K "is_node" "is_node" gm f fd) (T:Txt K mg) (S:Shp P w K gS) (GS:mg "SHAPES"=some (.ref gS)) (Dhas_word:Def P w K mg base k "has_word" ["thing"] (spD de)) (Dfits:Def P w K mg base k "fits" ["sort","thing"] uH):aF P w K mg base CX0 (k + 1) f fd ["thing"] (spS dj):=by
 have nd:=iT.nd
 refine F.ok iT (λvs H Q E h=>?_) (λcdv A outer s H vs Q E hr h=>?_)
 ·obtain ⟨v,d,rfl,_⟩:=h
  rfl
 obtain ⟨v,d,rfl,R,hsm,q⟩:=h
 obtain ⟨kvs,FS,hS,hS2⟩:=S.ex
 refine ⟨_,(@un _ _ _ (wbO (wbI (wab (wbY (wbT (wbV (waq Dhas_word hr rfl (wae (wv 0 rfl) waf rfl) ∅ rfl rfl) ∅)) (wbZ (wbS (jw FS) (waD aj (wv 0 rfl) waC (λ_ _=>rfl)) (waB (.ref gS) rfl GS rfl ∅) (by with_unfolding_all rfl))))) (wbQ (wbK wah)) wbP) (wbO (wbM 1 nd rfl (Ι rfl) (wbu FS (waB (.ref gS) rfl GS rfl ∅) (waD aj (wv 0 rfl) waC (λ_ _=>rfl)) (λ_ _=>rfl)) rfl ∅) (wbO (wbI (wbS fY (wal ak rfl T.len ∅ (wae (wv 0 rfl) waf rfl) ∅ ∅ rfl rfl) (waQ bC (wal ak rfl T.len ∅ (wae (wv 1 rfl) waf rfl) ∅ ∅ rfl rfl) waC) (ai _)) (wbQ (wbK wah)) wbP) (wbO (wbH Ϯ rfl (wbs rfl T.zip (wae (wv 1 rfl) (wae (waT kY (wv 0 rfl) (wbA waC) wbz) waf rfl) rfl) rfl rfl) (wbb rfl (wbd (waZ 2 nd rfl (Ι rfl) ∅) (wbd (waZ 3 nd rfl (Ι rfl) ∅) wbe rfl) rfl) rfl rfl) (wbQ (wbI (wbT (wbV (waq Dfits hr rfl (wae (wv 2 rfl) (wae (wv 3 rfl) waf rfl) rfl) ∅ rfl rfl) ∅)) (wbQ (wbK wah)) wbP)) ∅) (wbQ (wbK (waR (wap fY (waD aj (wv 0 rfl) waC (λ_ _=>rfl)) waV (ai _)) (waP (wap fY (waD aj (wv 0 rfl) waC (λ_ _=>rfl)) (waD aj (wv 0 rfl) waC (λ_ _=>rfl)) (ai _))))))))))),?_⟩
 refine ⟨_,rfl,v,d,rfl,R,λH1 s1=>⟨_,rfl,?_⟩⟩
 cases c0:de d with
 | false=>
  refine av (av ?_)
  have:=q H1 s1
  rwa [rN c0] at this
 | true=>
  refine aq ?_
  obtain ⟨x,ds,rfl⟩:=eU c0
  obtain ⟨a,vs,rfl,ha,rs⟩:=Rep.tup_inv (R.mono s1)
  obtain ⟨y,ws,rfl,R0,ru⟩:=cH rs
  obtain rfl:y=.str x:=R0
  have lws:=ru.length
  have hds:smalls ds=true:=by
   simp only [Dv.small,smalls,Ε] at hsm
   exact hsm.1.2
  refine ⟨_,rfl,a,_,0,.str x,rfl,rfl,SqT.of ha,ad (j:=0) rfl,x,rfl,rfl,_,rfl,?_⟩
  rw [hS2 x]
  show if xor true (cY x)=true then _ else _
  cases hw:cY x with
  | false=>
   refine av ?_
   have:=q H1 s1
   rwa [qX hw] at this
  | true=>
   refine aq ?_
   obtain ⟨p,hp,rfl⟩:=qv hw
   obtain ⟨b,hb,hbT⟩:=hS p hp
   have h5:=rf p hp
   refine ⟨_,rfl,a,_,0,.str p.1,rfl,rfl,SqT.of ha,ad (j:=0) rfl,p.1,b,rfl,rfl,hb,?_⟩
   refine ⟨_,rfl,a,_,rfl,.inr (SqT.of ha),_,rfl,b,_,rfl,.inr (hbT _),_,_,rfl,rfl,rfl,_,rfl,?_⟩
   by_cases hl:ds.length=p.2.2.length
   ·rw [show (!decide (V.int (((V.str p.1 :: ws).length:Nat):Int)=V.int ((((p.2.2.map λs=>V.str (srt s)).length:Nat):Int) + 1)))=false by
     rw [ό,lws,hl,ε,show ((p.2.2.length + 1:Nat):Int)=(p.2.2.length:Int) + 1 by omega,decide_eq_true rfl]; rfl]
    refine aq ?_
    refine ⟨_,rfl,_,rfl,1,rfl,?_⟩
    dsimp only [lH]
    refine qp ha λH2 t s2 ht=>?_
    have ec:aB (V.str p.1 :: ws) (some 1) none=ws:=bG (V.str p.1 :: ws) 1
    rw [ec] at ht
    have s02:=s1.trans s2
    refine ⟨b,t,rfl,⟨_,hbT _⟩,⟨_,SqT.of ht⟩,gK (D:={ nx:=zA (Ax (tOp rNe (tOp (ux K) (iP 0) (tC (V.int 0))) (tC (V.str (ξ "fold")))) (tOp rNe (tOp (ux K) (iP 0) (tC (V.int 1))) (tOp (ux K) (iP 0) (tC (V.int 3))))) { nx:=λx H'=>Q V.non H',rt:=Q },rt:=Q }) (xs:=p.2.2.map λs=>V.str (srt s)) (ys:=ws) (λi σ H'=>∃ (o2 o3:Option V),σ=[some (.ref a),some (.ref b),o2,o3]/\af H2 H'/\okF p.2.2 ds=okF (p.2.2.drop i) (ds.drop i)) ⟨_,_,rfl,af.refl _,rfl⟩ (λi σ H' ⟨_,_,_,h,_⟩=>⟨hbT _,SqT.of (h _ _ ht)⟩) ?T1 ?_⟩
    case T1=>
     rintro i x y σ H3 t3 D1 gR gD hx hy ⟨o2,o3,rfl,s3,ok3⟩ hp3
     rw [Ψ] at hx
     obtain ⟨so,hso,rfl⟩:=k4.mp hx
     obtain ⟨d,hd,Ry⟩:=ru.get hy
     have q4:=ac hp3 (.tup [.str (srt so),y])
     have ht4:upd H3 t3 (.tup [.str (srt so),y]) t3=some (.tup [.str (srt so),y]):=aa
     have s4:=s2.trans (s3.trans q4)
     have s24:=s3.trans q4
     generalize upd H3 t3 (.tup [.str (srt so),y])=H4 at ht4 s4 s24 ⊢
     refine ⟨t3,_,rfl,SqT.of ht4,rfl,_,_,rfl,_,_,rfl,rfl,?_⟩
     refine ⟨_,rfl,_,rfl,so,y,d,rfl,Ry.mono s4,cf hds hd,λH5 s5=>⟨_,rfl,?_⟩⟩
     rw [vO hso hd] at ok3
     cases hfit:wm so d with
     | false=>
      refine av ?_
      have:=q H5 (s1.trans (s4.trans s5))
      rw [fD hp,ok3,hfit] at this
      exact gR _ _ this
     | true=>
      refine aq (gD _ _ ⟨_,_,rfl,s24.trans s5,?_⟩)
      rw [ok3,hfit,Ϧ]
    rintro σ H3 ⟨o2,o3,rfl,s3,ok3⟩
    have okk:okF p.2.2 ds=true:=by
     rw [ok3,ε,Cg ∅,ET,<- hl,ET]
     rfl
    have s23:=s2.trans s3
    have qq:=q H3 (s1.trans s23)
    rw [fD hp,okk,Ϧ] at qq
    refine ⟨_,rfl,a,_,0,.str p.1,rfl,rfl,SqT.of (s23 _ _ ha),ad (j:=0) rfl,rfl,_,rfl,?_⟩
    show if (!decide (V.str p.1=V.str "fold"))=true then _ else _
    rw [bg]
    by_cases hf:p.1="fold"
    ·rw [decide_eq_true hf]
     refine aq ?_
     have hss:=wo p hp hf
     rw [hss] at okk
     have l5:ds.length=5:=by rw [hl,hss]; rfl
     obtain ⟨d1,d2,d3,d4,d5,rfl⟩:=Bq l5
     ·simp only [okF,wm,Ε] at okk
      obtain ⟨x1,rfl⟩:=mq okk.1
      obtain ⟨x3,rfl⟩:=mq okk.2.2.1
      obtain ⟨u1,r1,rfl,R1,ru⟩:=cH ru
      obtain ⟨u2,r2,rfl,R2,ru⟩:=cH ru
      obtain ⟨u3,r3,rfl,R3,ru⟩:=cH ru
      obtain rfl:u1=.str x1:=R1
      obtain rfl:u3=.str x3:=R3
      refine ⟨_,rfl,a,_,1,.str x1,rfl,rfl,SqT.of (s23 _ _ ha),ad (j:=1) rfl,_,rfl,a,_,3,.str x3,rfl,rfl,SqT.of (s23 _ _ ha),ad (j:=3) rfl,rfl,?_⟩
      show Q (.bl (!decide (V.str x1=V.str x3))) H3
      rw [bg]
      rw [show decide (p.1≠"fold")=false from decide_eq_false (λz=>z hf),BR] at qq
      have e:jT [.str x1,d2,.str x3,d4,d5]=!decide (x1=x3):=by
       show decide (x1≠x3)=_
       by_cases h:x1=x3
       ·rw [decide_eq_true h,decide_eq_false (λz=>z h)]; rfl
       ·rw [decide_eq_false h,decide_eq_true h]; rfl
      rw [e] at qq
      exact qq
    ·rw [decide_eq_false hf]
     refine av ?_
     rw [decide_eq_true hf,Bool.true_or] at qq
     exact qq
   ·rw [show (!decide (V.int (((V.str p.1 :: ws).length:Nat):Int)=V.int ((((p.2.2.map λs=>V.str (srt s)).length:Nat):Int) + 1)))=true by
     rw [decide_eq_false λz=>hl (by injection z with z; rw [ό,lws,ε] at z; omega)]; rfl]
    refine av ?_
    have:=q H1 s1
    rw [fD hp] at this
    cases ho:okF p.2.2 ds with
    | true=>exact absurd (kE ho) hl
    | false=>rw [ho] at this; exact this
abbrev gp:Stmt:=top 45
def exN:Nat->Dv->Nat
 | 0,_=>99
 | n + 1,d=>if dj d=true then 1 + ((bH d).map (exN n)).sum else 99
def mU:Sp:=spS λd=>decide (exN 8 d<=40)
theorem xf (n:Nat) (d:Dv):1<=exN n d:=by
 cases n with
 | zero=>show 1<=99; decide
 | succ n=>unfold exN; split <;> omega
def prD (p:Dv×Nat):Dv:=.tup [p.1,.int p.2]
def iK (ws:List (Dv×Nat)):Nat:=(ws.map λp=>exN (8 - p.2) p.1).sum
theorem nS (xs ys:List (Dv×Nat)):iK (xs ++ ys)=iK xs + iK ys:=by unfold iK; rw [ω,BM]
theorem oZ {ds:List Dv} (h:smalls ds=true):∀ d∈ds,d.small=true:=by
 induction ds with
 | nil=>intro d hd; cases hd
 | cons x ds ih=>
  simp only [smalls,Ε] at h
  intro d hd
  rcases ν.mp hd with rfl | hd
  ·exact h.1
  ·exact ih h.2 d hd
theorem aZ {ds:List Dv} (h:(Dv.tup ds).small=true):∀ d∈ds,d.small=true:=by
 simp only [Dv.small,Ε] at h
 exact oZ h.1
theorem gN {d:Dv} (h:d.small=true):∀ e∈qi d,e.small=true:=by
 cases d with
 | tup ds=>exact aZ h
 | _=>intro e he; cases he
theorem jP:∀ (ss:List So) (ds:List Dv),(∀ d∈ds,d.small=true)->∀ e∈aW ss ds,e.small=true
 | [],_,_,e,he=>by simp [aW] at he
 | _ :: _,[],_,e,he=>by simp [aW] at he
 | s :: ss,d :: ds,h,e,he=>by
  rcases ϒ.mp (show e∈ptD s d ++ aW ss ds from he) with h1 | h1
  ·cases s with
   | e=>rw [θ.mp h1]; exact h d Δ
   | a=>exact gN (h d Δ) e h1
   | r=>exact gN (h d Δ) e h1
   | _=>cases h1
  ·exact jP ss ds (λx hx=>h x (ρ _ hx)) e h1
theorem mJ {d:Dv} (h:d.small=true):∀ e∈bH d,e.small=true:=by
 match d,h with
 | .tup (.str w :: ds),h=>exact jP _ ds λx hx=>aZ h x (ρ _ hx)
 | .tup [],_=>intro e he; cases he
 | .tup (.non :: r),_=>intro e he; cases he
 | .tup (.bl _ :: r),_=>intro e he; cases he
 | .tup (.int _ :: r),_=>intro e he; cases he
 | .tup (.tup _ :: r),_=>intro e he; cases he
 | .tup (.lst _ :: r),_=>intro e he; cases he
 | .tup (.dct :: r),_=>intro e he; cases he
 | .non,_=>intro e he; cases he
 | .bl _,_=>intro e he; cases he
 | .int _,_=>intro e he; cases he
 | .str _,_=>intro e he; cases he
 | .lst _,_=>intro e he; cases he
 | .dct,_=>intro e he; cases he
theorem nG {d:Dv} (h:yP d):(bH d).length<=4:=by
 obtain ⟨p,ds,hp,rfl,hf⟩:=h
 rw [XB.parts_of hp]
 exact ϟ (dW hf).2 (wY p hp)
theorem im:ao ["thing","count","waiting","found","node","above"] ["thing"] (ae gp):=by trivial
theorem oM {f:Addr} {fd:Μ} {k:Nat} (F:Fun K "is_expression" "is_expression" gp f fd) (T:Txt K mg) (Dis_node:Def P w K mg base k "is_node" ["thing"] (spS dj)) (Dparts_of:Def P w K mg base k "parts_of" ["node"] rH):aF P w K mg base CX0 (k + 1) f fd ["thing"] mU:=by
 have nd:=im.nd
 refine F.ok im (λvs H Q E h=>?_) (λcdv A outer s H vs Q E hr h=>?_)
 ·obtain ⟨v,d,rfl,_⟩:=h
  rfl
 obtain ⟨v,d,rfl,R,hsm,q⟩:=h
 replace q:∀ (H':Hp),af H H'->Q (V.bl (decide (exN 8 d<=40))) H':=q
 refine ⟨_,(@un _ _ _ (wbO (wbM 1 nd rfl (Ι rfl) waC rfl ∅) (wbO (wbM 2 nd rfl (Ι rfl) (waM (wae (waX (wae (wv 0 rfl) (wae waC waf rfl) rfl)) waf rfl)) rfl ∅) (wbO (wbN Ϯ (wbU (wv 2 rfl) (λ_=>rfl)) (wbO (wbM 3 nd rfl (Ι rfl) (wak Ο A5 A6 iE (wv 2 rfl) rfl rfl) rfl ∅) (wbO (wbM 4 nd rfl (Ι rfl) (waD aj (wv 3 rfl) waC (λ_ _=>rfl)) rfl ∅) (wbO (wbM 5 nd rfl (Ef rfl) (waD aj (wv 3 rfl) waC (λ_ _=>rfl)) rfl ∅) (wbO (wbE 1 nd rfl (Ι rfl) waC vF ∅) (wbO (wbI (wab (wbY (wbS dY (wv 1 rfl) ⟨T.g_MOST_NODES rfl⟩ (ai _)) (wbY (wbS dY (wv 5 rfl) ⟨T.g_MOST_ABOVE rfl⟩ (ai _)) (wbZ (wbT (wbV (waq Dis_node hr rfl (wae (wv 4 rfl) waf rfl) ∅ rfl rfl) ∅)))))) (wbQ (wbK wah)) wbP) (wbQ (wbG (waj Ο BY BZ gy (wv 2 rfl) (wae (waE ["part"] [5] (wbi (waq Dparts_of hr rfl (wae (wv 4 rfl) waf rfl) ∅ rfl rfl)) (.of rfl) rfl (λ_ _ _=>⟨pg_name (i:=0) (bB (l:=["part","above"]) (∅) rfl) rfl (Ι rfl)⟩) (bu ∅) (λ_ _ _=>wbx) (λ_ _ _=>(waX (wae (wv 0 rfl) (wae (waQ bC (wv 1 rfl) waC) waf rfl) rfl))) ∅) waf rfl) rfl rfl rfl rfl rfl) rfl)))))))) (wbQ (wbK wah)))))),?_⟩
 refine ⟨_,rfl,z2,λt0 ht0=>⟨z1,λW1 hW=>?_⟩⟩
 have q0:=ac ht0 (.tup [v,.int 0])
 have q1:=ac hW (.lst [.ref t0])
 have r0:Rep (upd H t0 (.tup [v,.int 0])) (prD (d,0)) (.ref t0):=by
  unfold prD
  rw [Rep]
  exact ⟨t0,_,rfl,aa,by simp only [Reps]; exact ⟨_,_,rfl,R.mono q0,_,_,rfl,by simp only [Rep]; rfl,rfl⟩⟩
 refine mT (λm σ H'=>∃ (o3 o4 o5:Option V) (cnt:Nat) (ws:List (Dv×Nat)) (vs:List V),σ=[some v,some (.int cnt),some (.ref W1),o3,o4,o5]/\af H (aS H' W1)/\H' W1=some (.lst vs)/\Reps (aS H' W1) (ws.map prD) vs/\(∀ p∈ws,p.1.small=true/\p.2<=8)/\(cnt + iK ws<=40↔exN 8 d<=40)/\m=40 - cnt/\cnt<=40/\ws.length<=1 + 4 * cnt) 40
  ⟨_,_,_,0,[(d,0)],[.ref t0],rfl,q0.trans (fP q1 hW),aa,aN (r0.mono (fP q1 hW)),λp hp=>by rw [θ.mp hp]; exact ⟨hsm,Ω _⟩,by simp [iK],rfl,∅,π _⟩ ?_ eX
 rintro m σ H1 D1 gR gD ⟨o3,o4,o5,cnt,ws,vs,rfl,s1,w1,R1,sm,eq,rfl,c40,lw⟩
 have s01:af H H1:=s1.trans br
 refine ⟨_,rfl,_,.inl ⟨vs,SqL.of w1,rfl⟩,?_⟩
 by_cases ne:ws=[]
 ·subst ne
  have e:vs=[]:=by simpa only [ϰ,Reps] using R1
  subst e
  refine aq ?_
  have:=q H1 s01
  rw [decide_eq_true (eq.mp (by simpa [iK] using c40))] at this
  exact this
 ·obtain ⟨w0,x,rfl⟩:=fO ne
  rw [ω] at R1
  obtain ⟨v0,u,rfl,Ra,Ru⟩:=bZ R1
  have e:(!(v0 ++ [u]).isEmpty)=true:=by simp
  rw [e]
  refine av ?_
  rw [nS] at eq
  have wx:iK [x]=exN (8 - x.2) x.1:=by simp [iK]
  rw [wx] at eq
  rw [ψ,ϧ] at lw
  obtain ⟨smx,x8⟩:=sm x ∅
  refine ⟨_,rfl,.inl ⟨rfl,_,SqL.of w1⟩,W1,_,_,rfl,rfl,w1,dM _ _,?_⟩
  rw [BP]
  have t2:af (aS H1 W1) (aS (upd H1 W1 (.lst v0)) W1):=kN
  have w2:upd H1 W1 (.lst v0) W1=some (.lst v0):=aa
  have s02:af H _:=s1.trans (t2.trans br)
  generalize upd H1 W1 (.lst v0)=H2 at t2 w2 s02 ⊢
  obtain ⟨t,us,rfl,ht,ru⟩:=Rep.tup_inv (show Rep (aS H1 W1) (.tup [x.1,.int x.2]) u from Ru)
  obtain ⟨y,z,rfl,Ry,Rz⟩:=Reps.two ru
  obtain rfl:z=.int x.2:=Rz
  have ht2:=br _ _ (t2 _ _ ht)
  have xp:=xf (8 - x.2) x.1
  refine ⟨_,rfl,t,_,0,y,rfl,rfl,SqT.of ht2,ad (j:=0) rfl,?_⟩
  refine ⟨_,rfl,t,_,1,.int x.2,rfl,rfl,SqT.of ht2,ad (j:=1) rfl,?_⟩
  refine ⟨_,rfl,_,_,rfl,rfl,?_⟩
  refine ⟨_,rfl,_,_,rfl,rfl,_,rfl,?_⟩
  refine au (λh=>?_) (λh=>?_)
  ·have h':(40:Int) < (cnt:Int) + 1:=of_decide_eq_true h
   have:=q H2 s02
   rw [decide_eq_false (λz=>by have:=eq.mpr z; omega)] at this
   exact av (gR _ _ this)
  have h':cnt + 1<=40:=by have z:¬ ((40:Int) < (cnt:Int) + 1):=of_decide_eq_false (Cp.mpr h); omega
  refine ⟨_,rfl,_,_,rfl,rfl,_,rfl,?_⟩
  refine au (λh2=>?_) (λh2=>?_)
  ·have h2':(7:Int) < (x.2:Int):=of_decide_eq_true h2
   have:=q H2 s02
   rw [decide_eq_false (λz=>by
    have:=eq.mpr z
    rw [show 8 - x.2=0 by omega] at this
    have e99:exN 0 x.1=99:=rfl
    omega)] at this
   exact av (gR _ _ this)
  have h2':x.2<=7:=by have z:¬ ((7:Int) < (x.2:Int)):=of_decide_eq_false (Cp.mpr h2); omega
  obtain ⟨j,hj⟩:∃ j,8 - x.2=j + 1:=⟨7 - x.2,∅⟩
  refine ⟨_,rfl,y,x.1,rfl,Ry.mono (t2.trans br),smx,λH3 s3=>⟨_,rfl,?_⟩⟩
  have s03:=s02.trans s3
  cases c:dj x.1 with
  | false=>
   have:=q H3 s03
   rw [decide_eq_false (λz=>by
    have:=eq.mpr z
    have e99:exN (8 - x.2) x.1=99:=by rw [hj]; unfold exN; rw [c]; rfl
    omega)] at this
   exact av (gR _ _ this)
  | true=>
   refine aq ?_
   have w3:=s3 _ _ w2
   have t3:=t2.trans (bo (l:=W1) s3)
   have hW3:H3 W1≠none:=by rw [w3]; exact nofun
   have nn:=sg c
   have p4:=nG nn
   have exj:exN (8 - x.2) x.1=1 + ((bH x.1).map (exN j)).sum:=by rw [hj]; show (if dj x.1=true then _ else _)=_; rw [c]; rfl
   refine tnx ⟨_,rfl,.inl ⟨rfl,_,SqL.of w3⟩,_,rfl,y,x.1,aS H3 W1,rfl,br,Ry.mono t3,nn,λH4 l ks s4 hl h4 R4=>⟨l,rfl,⟨_,SqL.of h4⟩,jX (xs:=ks) (λi ys H'=>af H4 H'/\Reps (aS H' W1) (((bH x.1).take i).map λe=>prD (e,x.2 + 1)) ys) ⟨af.refl _,by simp [Reps]⟩ (λi ys H' _ p=>SqL.of (p.1 _ _ h4)) ?_ ?_⟩⟩
   ·rintro i ys H5 pv hpv ⟨s5,R5⟩
    obtain ⟨e,he,Re⟩:=R4.get hpv
    have hi:i < (bH x.1).length:=(ο.mp he).1
    refine bp ⟨_,rfl,_,rfl,_,_,rfl,rfl,z2,λp hp=>⟨?_,s5.trans (ac hp _),?_⟩⟩
    ·rw [R5.length,ε,ϊ,υ]; omega
    ·have hW5:H5 W1≠none:=by rw [s5 _ _ (s4 _ _ w3)]; exact nofun
     obtain ⟨e1,e2⟩:=sA (o:=.tup [pv,.int ((x.2:Int) + 1)]) hW5 hp
     rw [ϣ,he,ω]
     refine Reps.append (R5.mono e2) ?_
     refine aN (show Rep _ (.tup [e,.int ((x.2 + 1:Nat):Int)]) (.ref p) from ?_)
     rw [Rep]
     refine ⟨p,_,rfl,e1,?_⟩
     simp only [Reps]
     exact ⟨_,_,rfl,(Re.mono (bo (s4.trans s5))).mono e2,_,_,rfl,by simp only [Rep]; rfl,rfl⟩
   ·rintro ys H5 ⟨s5,R5⟩ r hr'
    have q6:=ac hr' (.lst ys)
    have lk:=R4.length
    rw [lk,Ϥ] at R5
    have lys:=R5.length
    rw [ε] at lys
    have w5:=q6 _ _ (s5 _ _ (s4 _ _ w3))
    have lv:=Ra.length
    rw [ε] at lv
    refine ⟨W1,r,_,_,rfl,rfl,w5,aa,by rw [υ]; omega,?_⟩
    have hW5:H5 W1≠none:=by rw [s5 _ _ (s4 _ _ w3)]; exact nofun
    have t6:af (aS H5 W1) (aS (upd (upd H5 r (.lst ys)) W1 (.lst (v0 ++ ys))) W1):=(bo q6).trans kN
    have t16:=t3.trans ((bo (s4.trans s5)).trans t6)
    refine gD (40 - (cnt + 1)) _ _ ∅ ⟨_,_,_,cnt + 1,w0 ++ (bH x.1).map λe=>(e,x.2 + 1),v0 ++ ys,rfl,s1.trans t16,aa,?_,?_,?_,rfl,h',?_⟩
    ·rw [ω]
     refine Reps.append (Ra.mono t16) ?_
     rw [ϓ]
     exact R5.mono t6
    ·intro p hp
     rcases ϒ.mp hp with h1 | h1
     ·exact sm p (m9 _ h1)
     ·obtain ⟨e,he,rfl⟩:=Κ.mp h1
      exact ⟨mJ smx e he,by show x.2 + 1<=8; omega⟩
    ·rw [<- eq,nS,exj]
     have e7:iK ((bH x.1).map λe=>(e,x.2 + 1))=((bH x.1).map (exN j)).sum:=by
      unfold iK
      rw [ϓ]
      congr 1
      refine CJ λe _=>?_
      show exN (8 - (x.2 + 1)) e=exN j e
      rw [show 8 - (x.2 + 1)=j by omega]
     rw [e7]
     constructor <;> intro z <;> omega
    ·rw [ψ,ε]; omega
theorem AK {x:Str}:aD (.tup [.str x])=if x="whole" then 1 else 99:=by rw [aD]
theorem Bv {x:Str} {l:Dv}:aD (.tup [.str x,l])=if x="place"/\slD l=true then 1 else 99:=by rw [aD]
theorem AM {x:Str} {a b:Dv}:aD (.tup [.str x,a,b])=if x="pair" then 1 + aD a + aD b else if x="row"/\slD a=true then 1 + aD b else 99:=by rw [aD]
def SL (c:Int) (ps:List Pr):Prop:=slD (bn c ps)=true/\(bn c ps).small=true
theorem nv:∀ {ps:List Pr} {l:Str},ps.Pairwise (λp q=>p.1.cps.toList < q.1.cps.toList)->(∀ p∈ps,1<=p.2)->(∀ p∈ps,nmB p.1=true)->(∀ p∈ps,l.cps.toList < p.1.cps.toList)->goD l (aG ps)=true
 | [],_,_,_,_,_=>rfl
 | p :: ps,l,h1,h2,h3,h4=>by
  have e:aG (p :: ps)=.tup [.str p.1,.int p.2] :: aG ps:=rfl
  rw [e,goD]
  have h1':=List.pairwise_cons.mp h1
  show (eD _ && (decide (l.cps.toList < p.1.cps.toList) && goD p.1 (aG ps)))=true
  rw [nv h1'.2 (λq hq=>h2 q (ρ _ hq)) (λq hq=>h3 q (ρ _ hq)) (λq hq=>h1'.1 q hq)]
  show ((nmB p.1 && (true && decide (1<=p.2))) && (decide (l.cps.toList < p.1.cps.toList) && true))=true
  rw [h3 p Δ,decide_eq_true (h2 p Δ),decide_eq_true (h4 p Δ)]
  rfl
theorem fb:∀ {ps:List Pr},(∀ p∈ps,p.1.cps.size<=8)->smalls (aG ps)=true
 | [],_=>rfl
 | p :: ps,h=>by
  simp only [aG,Υ,smalls,Dv.small,Ε,decide_eq_true_eq]
  refine ⟨⟨⟨by have:=h p Δ; omega,trivial,trivial⟩,∅⟩,fb λq hq=>h q (ρ _ hq)⟩
theorem kZ {x:Str} (h:nmB x=true):1<=x.cps.size/\x.cps.size<=8:=by
 unfold nmB at h
 simp only [Ε,decide_eq_true_eq] at h
 exact h.1
theorem vT {x:Str} (h:nmB x=true):(ξ "").cps.toList < x.cps.toList:=by
 have:=(kZ h).1
 have e:(ξ "").cps.toList=[]:=by decide +kernel
 rw [e]
 cases hx:x.cps.toList with
 | nil=>
  have:x.cps.toList.length=x.cps.size:=by simp
  rw [hx] at this; simp at this; omega
 | cons c cs=>exact List.nil_lt_cons c cs
theorem pO {c:Int} {ps:List Pr} (c0:0<=c) (c1:c<=99) (can:qY ps) (hl:ps.length<=900) (hn':∀ p∈ps,nmB p.1=true/\p.2<=99):SL c ps:=by
 constructor
 ·show ((true && (decide (0<=c) && goD "" (aG ps))) && (decide (c<=99) && (aG ps).all λp=>decide (eT p<=99)))=true
  rw [nv can.1 can.2 (λp hp=>(hn' p hp).1) (λp hp=>vT (hn' p hp).1),decide_eq_true c0,decide_eq_true c1]
  rw [show ((aG ps).all λp=>decide (eT p<=99))=true by
   rw [ϵ]
   intro d hd
   obtain ⟨p,hp,rfl⟩:=Κ.mp hd
   exact decide_eq_true (hn' p hp).2]
  rfl
 ·have h8:∀ p∈ps,p.1.cps.size<=8:=λp hp=>(kZ (hn' p hp).1).2
  have h1:=fb h8
  have h2:(Dv.tup (aG ps)).small=true:=by
   simp only [Dv.small,h1,Ϧ]
   exact decide_eq_true (by rw [show (aG ps).length=ps.length from ε _]; omega)
  show (Dv.tup [.int c,.tup (aG ps)]).small=true
  simp only [Dv.small,smalls] at h2 ⊢
  simp only [h2,Ϧ,Bool.and_true]
  rfl
theorem aP {ds:List Dv} (h:∀ d∈ds,d.small=true) (hl:ds.length<=1000):(Dv.tup ds).small=true:=by
 have:∀ ds:List Dv,(∀ d∈ds,d.small=true)->smalls ds=true:=by
  intro ds
  induction ds with
  | nil=>intro _; rfl
  | cons d ds ih=>intro h; simp only [smalls,Ε]; exact ⟨h d Δ,ih λe he=>h e (ρ _ he)⟩
 simp only [Dv.small,this ds h,Ϧ]
 exact decide_eq_true hl
theorem fA:∀ {k:Kd},k.All SL->k.dv.small=true
 | .whole,_=>by decide +kernel
 | .place c ps,h=>aP (λd hd=>by
   rcases ν.mp hd with rfl | hd
   ·decide +kernel
   ·rw [θ.mp hd]; exact h.2) (by show 2<=1000; decide)
 | .row c ps k,h=>aP (λd hd=>by
   rcases ν.mp hd with rfl | hd
   ·decide +kernel
   ·rcases ν.mp hd with rfl | hd
    ·exact h.1.2
    ·rw [θ.mp hd]; exact fA h.2) (by show 3<=1000; decide)
 | .pair i j,h=>aP (λd hd=>by
   rcases ν.mp hd with rfl | hd
   ·decide +kernel
   ·rcases ν.mp hd with rfl | hd
    ·exact fA h.1
    ·rw [θ.mp hd]; exact fA h.2) (by show 3<=1000; decide)
theorem hU:∀ {k:Kd},k.All SL->aD k.dv=k.size
 | .whole,_=>by show aD (.tup [.str "whole"])=1; rw [AK,if_pos rfl]
 | .place c ps,h=>by show aD (.tup [.str "place",bn c ps])=1; rw [Bv,if_pos ⟨rfl,h.1⟩]
 | .row c ps k,h=>by show aD (.tup [.str "row",bn c ps,k.dv])=k.size + 1; rw [AM,if_neg w6,if_pos ⟨rfl,h.1.1⟩,hU h.2]; omega
 | .pair i j,h=>by show aD (.tup [.str "pair",i.dv,j.dv])=i.size + j.size + 1; rw [AM,if_pos rfl,hU h.1,hU h.2]; omega
abbrev lC:Stmt:=top 59
abbrev kX:Stmt:=top 60
theorem le4:4<=sizeLine:=by rw [υ]; decide
def Dr (H:Hp) (a:Addr) (n:Nat):Prop:=∃ ns:List Int,H a=some (.lst (ns.map V.int))/\ns.length=n/\∀ x∈ns,0<=x/\x < 10 ^ 14
theorem Dr.b {H H':Hp} {a b:Addr} {n:Nat} (h:Dr H a n) (s:aE b H H') (ne:a≠b):Dr H' a n:=let ⟨i,e,r⟩:=h; ⟨i,s _ _ ne e,r⟩
theorem Dr.m {H H':Hp} {a:Addr} {n:Nat} (h:Dr H a n) (s:af H H'):Dr H' a n:=let ⟨i,e,r⟩:=h; ⟨i,s _ _ e,r⟩
theorem Dr.tups {H H':Hp} {a:Addr} {n:Nat} (h:Dr H a n) (s:aE a H H'):cm H H':=let ⟨_,e,_⟩:=h; s.tups e
theorem Dr.some {H:Hp} {a:Addr} {n:Nat} (h:Dr H a n):H a≠none:=let ⟨_,e,_⟩:=h; λz=>by rw [e] at z; cases z
def kb (K:ι):Sp:=λvs H Q _=>∃ (c:Addr) (m:Int) (cells:List Int),vs=[.ref c,.int m]/\SqL K H c (cells.map V.int)/\1<=cells.length/\cells.length<=9/\0<=m/\m<=1000/\∀ (H':Hp) (a:Addr),af H H'->H a=none->Dr H' a m.toNat->Q (.ref a) H'
def eQ:Sp:=λvs H Q _=>∃ (a:Addr) (n:Nat),vs=[.ref a]/\Dr H a n/\∀ (H':Hp) (x:Int),aE a H H'->Dr H' a (n - 1)->0<=x->x < 10 ^ 14->Q (.int x) H'
theorem nq:ao ["_law_cells","_law_many","_law_rests","_law_found","_law_k","_law_j","_law_number"] ["_law_cells","_law_many"] (ae lC):=by trivial
theorem uh {f:Addr} {fd:Μ} (F:Fun K "_law_draws" "_law_draws" lC f fd) (T:Txt K mg):aF P w K mg base CX0 1 f fd ["_law_cells","_law_many"] (kb K):=by
 have nd:=nq.nd
 refine F.ok nq (λvs H Q E h=>?_) (λcdv A outer s H vs Q E hr h=>?_)
 ·obtain ⟨c,m,cells,rfl,_⟩:=h
  rfl
 obtain ⟨c,m,cells,rfl,hS,l0,l9,m0,m1,q⟩:=h
 refine ⟨_,(@un _ _ _ (wbO (wbJ ["_law_cell"] [] 2 nd rfl rfl (wbi (wv 0 rfl)) (.of rfl) rfl (λ_ _ _=>⟨pg_name (i:=0) (bB (l:=["_law_cell"]) (∅) rfl) rfl (Ι rfl)⟩) (bu ∅) (λ_ _ _=>wbx) (λ_ _ _=>(waQ cc (wv 0 rfl) waC)) rfl ∅) (wbO (wbM 3 nd rfl (Ι rfl) (waM waf) rfl ∅) (wbO (wbH Ϯ rfl (wbk rfl T.range (wae (wv 1 rfl) waf rfl) rfl) (waZ 4 nd rfl (Ι rfl) ∅) (wbO (wbM 5 nd rfl (Ι rfl) (waQ aA (wv 4 rfl) (wal ak rfl T.len ∅ (wae (wv 0 rfl) waf rfl) ∅ ∅ rfl rfl)) rfl ∅) (wbQ (wbI (wab (wbW (wbS ay (waQ aA (waD aJ (wv 0 rfl) (wv 5 rfl) (λ_ _=>rfl)) waC) waC (ai _)) (wbX (wbS dY (waD aJ (wv 2 rfl) (wv 5 rfl) (λ_ _=>rfl)) waC (ai _))))) (wbO (wbG (waj Ο ϫ Ϭ bd (wv 3 rfl) (wae (waQ aA (waD aJ (wv 2 rfl) (wv 5 rfl) (λ_ _=>rfl)) (waQ ll waC waC)) waf rfl) rfl rfl rfl rfl rfl) rfl) (wbQ (wbD (waQ cc (waD aJ (wv 2 rfl) (wv 5 rfl) (λ_ _=>rfl)) (waQ ll waC waC)) (wba (wv 2 rfl) (wv 5 rfl) nk ∅) rfl rfl rfl))) (wbO (wbM 6 nd rfl (Ι rfl) (waQ aA (waQ iY (waQ bC (waQ bC (waQ aA (waD aJ (wv 0 rfl) (wv 5 rfl) (λ_ _=>rfl)) (waQ ll waC waC)) (waQ iY waC (wv 4 rfl))) waC) waC) waC) rfl ∅) (wbQ (wbG (waj Ο ϫ Ϭ bd (wv 3 rfl) (wae (waQ aA (waQ iY (waQ iY (wv 6 rfl) (wv 6 rfl)) waC) waC) waf rfl) rfl rfl rfl rfl rfl) rfl)))))) ∅) (wbQ (wbK (wbw (wv 3 rfl) (wbA (waY gf waC))))))))),?_⟩
 have p14:wp 10 14:=⟨∅,∅,∅⟩
 have p30:wp 10 30:=⟨∅,∅,∅⟩
 refine ⟨_,rfl,c,rfl,⟨_,hS⟩,jX (xs:=cells.map V.int) (λi ys H'=>H'=H/\∃ rs:List Int,ys=rs.map V.int/\rs.length=i) ⟨rfl,[],rfl,rfl⟩ (λi ys H' _ p=>by rw [p.1]; exact hS) ?_ ?_⟩
 ·rintro i ys H' x hx ⟨rfl,rs,rfl,lr⟩
  have hi:i < 9:=by have:=(ο.mp hx).1; rw [ε] at this; omega
  rw [Ψ] at hx
  obtain ⟨y,_,rfl⟩:=k4.mp hx
  refine bp ⟨_,rfl,_,_,rfl,rfl,⟨∅,∅⟩,?_,rfl,rs ++ [y / 2],∅,by simp [lr]⟩
  rw [ε,υ]; omega
 rintro ys H1 ⟨rfl,rs,rfl,lr⟩ R hR
 rw [ε] at lr
 refine ⟨Ω _,λFo hF=>?_⟩
 have q1:=ac hR (.lst (rs.map V.int))
 have q2:=ac hF (.lst [])
 have hRF:R≠Fo:=ag (aa (H:=H1) (a:=R) (o:=.lst (rs.map V.int))) hF
 have hFn:H1 Fo=none:=q1.free hF
 have e1:=q2 _ _ (aa (H:=H1) (a:=R) (o:=.lst (rs.map V.int)))
 have e2:upd (upd H1 R (.lst (rs.map V.int))) Fo (.lst []) Fo=some (.lst []):=aa
 have s2:=q1.trans q2
 generalize upd (upd H1 R (.lst (rs.map V.int))) Fo (.lst [])=H2 at e1 e2 s2 ⊢
 refine ⟨_,rfl,m,rfl,∅,∅,gP (n:=m.toNat) (λi σ H'=>∃ (o4 o5 o6:Option V) (rs ns:List Int),σ=[some (.ref c),some (.int m),some (.ref R),some (.ref Fo),o4,o5,o6]/\af H1 H'/\H' R=some (.lst (rs.map V.int))/\rs.length=cells.length/\H' Fo=some (.lst (ns.map V.int))/\ns.length=i/\∀ x∈ns,0<=x/\x < 10 ^ 14) ⟨_,_,_,rs,[],rfl,s2,e1,lr,e2,rfl,∅⟩ ?T1 ?_⟩
 case T1=>
  rintro i σ H3 D1 gD hi ⟨o4,o5,o6,rs,ns,rfl,s3,r3,lr,f3,ln,hb⟩
  have ci:∃ y,atI (cells.map V.int) ((0 + (i:Int)) % ((cells.map V.int).length:Int))=some (.int y)/\True:=by
   obtain ⟨b0,b1⟩:=mod_lt (a:=(0 + (i:Int))) ((cells.map V.int).length:Int) (by rw [ε]; omega)
   rw [ε] at b0 b1 ⊢
   obtain ⟨v,hv⟩:=qN (ns:=cells) b0 b1
   exact ⟨v,hv,trivial⟩
  have ri:∃ y,atI (rs.map V.int) ((0 + (i:Int)) % ((cells.map V.int).length:Int))=some (.int y):=by
   obtain ⟨b0,b1⟩:=mod_lt (a:=(0 + (i:Int))) ((cells.map V.int).length:Int) (by rw [ε]; omega)
   rw [ε] at b0 b1 ⊢
   exact qN (ns:=rs) b0 ∅
  have rn:∃ j,ixN (rs.map V.int).length ((0 + (i:Int)) % ((cells.map V.int).length:Int))=some j:=by
   obtain ⟨b0,b1⟩:=mod_lt (a:=(0 + (i:Int))) ((cells.map V.int).length:Int) (by rw [ε]; omega)
   rw [ε] at b0 b1
   rw [ε,ε]
   refine ⟨((0 + (i:Int)) % (cells.length:Int)).toNat,?_⟩
   unfold ixN
   rw [if_pos b0,if_pos ∅]
  obtain ⟨y,hy,_⟩:=ci
  obtain ⟨z,hz⟩:=ri
  obtain ⟨j,hj⟩:=rn
  refine ⟨_,rfl,_,rfl,c,_,rfl,.inl (s3.seq hS),_,_,rfl,rfl,?_,?_⟩
  ·show (0:Int) < ((cells.map V.int).length:Int)
   rw [ε]; omega
  refine gnm ?_
  dsimp only
  generalize (0 + (i:Int)) % ((cells.map V.int).length:Int)=jj at hy hz hj
  have hRc:∀ (H':Hp) ,aE R H3 H'->af H1 H':=λH' s g o e=>s g o (ag e hR) (s3 g o e)
  refine rq True (λ_=>av ?TT) (aq ?EE) (λqT qF=>⟨_,rfl,_,rfl,c,_,jj,.int y,rfl,rfl,s3.seq hS,hy,_,_,rfl,rfl,(by show (0:Int) < 2; decide),rfl,_,rfl,au (λ_=>⟨_,rfl,_,rfl,R,_,jj,.int z,rfl,rfl,SqL.of r3,hz,_,_,rfl,rfl,_,rfl,(by generalize decide ((0:Int) < z)=b; cases b; exact qF; exact qT trivial)⟩) (λ_=>qF)⟩)
  case TT=>
   have m1:=mod_lt (a:=z) ((10:Int) ^ (14:Int).toNat) ∅
   refine ⟨_,rfl,.inl ⟨rfl,_,SqL.of f3⟩,_,rfl,_,rfl,R,_,jj,.int z,rfl,rfl,SqL.of r3,hz,_,_,rfl,rfl,p14,_,_,rfl,rfl,(by show (0:Int) < 10 ^ (14:Int).toNat; decide),Fo,_,_,rfl,rfl,f3,by rw [ε,υ]; omega,?_⟩
   have r4:upd H3 Fo (.lst (ns.map V.int ++ [.int (z % 10 ^ (14:Int).toNat)])) R=some (.lst (rs.map V.int)):=by rw [ah hRF]; exact r3
   refine ⟨_,rfl,_,rfl,R,_,jj,.int z,rfl,rfl,SqL.of r4,hz,_,_,rfl,rfl,p14,_,_,rfl,rfl,⟨∅,∅⟩,_,rfl,_,rfl,R,_,jj,j,rfl,rfl,r4,hj,?_⟩
   refine gD _ _ ⟨_,_,_,rs.set j (z / 10 ^ (14:Int).toNat),ns ++ [z % 10 ^ (14:Int).toNat],rfl,λg o e=>?_,?_,?_,?_,?_,?_⟩
   ·rw [ah (ag e hR),ah (ag e hFn)]; exact s3 g o e
   ·rw [aa,E1]
   ·rw [Cd]; exact lr
   ·rw [ah (ώ hRF),aa,ω]; rfl
   ·rw [ψ,ln]; rfl
   ·intro x hx
    rcases ϒ.mp hx with h | h
    ·exact hb x h
    ·rw [θ.mp h]; exact m1
  case EE=>
   refine ⟨_,rfl,_,rfl,c,_,jj,.int y,rfl,rfl,s3.seq hS,hy,_,_,rfl,rfl,p30,_,_,rfl,rfl,(by show (0:Int) < 10 ^ (30:Int).toNat; decide),_,rfl,_,_,rfl,rfl,.inl ⟨∅,∅⟩,_,_,rfl,rfl,_,_,rfl,rfl,_,_,rfl,rfl,.inr ⟨∅,∅⟩,_,_,rfl,rfl,(by show (0:Int) < 2147483647; decide),?_⟩
   obtain ⟨u0,u1⟩:=mod_lt (a:=(y % 10 ^ (30:Int).toNat + 7919 * (0 + (i:Int)) + 3) * 69621) 2147483647 ∅
   refine gnm ?_
   dsimp only
   generalize (y % 10 ^ (30:Int).toNat + 7919 * (0 + (i:Int)) + 3) * 69621 % 2147483647=u at u0 u1
   obtain ⟨v0,v1⟩:=mod_lt (a:=u * u * 48271) 99999999999973 ∅
   refine ⟨_,rfl,.inl ⟨rfl,_,SqL.of f3⟩,_,rfl,_,rfl,_,_,rfl,rfl,.inl ⟨∅,∅⟩,_,_,rfl,rfl,.inr ⟨∅,∅⟩,_,_,rfl,rfl,(by show (0:Int) < 99999999999973; decide),Fo,_,_,rfl,rfl,f3,by rw [ε,υ]; omega,?_⟩
   refine gD _ _ ⟨_,_,_,rs,ns ++ [u * u * 48271 % 99999999999973],rfl,λg o e=>?_,?_,lr,?_,?_,?_⟩
   ·rw [ah (ag e hFn)]; exact s3 g o e
   ·rw [ah hRF]; exact r3
   ·rw [aa,ω]; rfl
   ·rw [ψ,ln]; rfl
   ·intro x hx
    rcases ϒ.mp hx with h | h
    ·exact hb x h
    ·rw [θ.mp h]; exact ⟨v0,∅⟩
 rintro σ H3 ⟨o4,o5,o6,rs,ns,rfl,s3,r3,lr,f3,ln,hb⟩
 refine ⟨_,rfl,1,rfl,_,rfl,Fo,_,rfl,rfl,SqL.of f3,λp hp=>?_⟩
 have q3:=ac hp (.lst (ns.map V.int).reverse)
 refine q _ p (s3.trans q3) (s3.free hp) ⟨ns.reverse,by rw [aa,Dw],by rw [ϲ]; exact ln,λx hx=>hb x (List.mem_reverse.mp hx)⟩
theorem wu:ao ["_law_draws_here"] ["_law_draws_here"] (ae kX):=by trivial
theorem wK {f:Addr} {fd:Μ} (F:Fun K "_law_next" "_law_next" kX f fd) (T:Txt K mg):aF P w K mg base CX0 1 f fd ["_law_draws_here"] eQ:=by
 refine F.ok wu (λvs H Q E h=>?_) (λcdv A outer s H vs Q E hr h=>?_)
 ·obtain ⟨a,n,rfl,_⟩:=h
  rfl
 obtain ⟨a,n,rfl,⟨ns,ha,ln,hb⟩,q⟩:=h
 have huL:(A.deeper (x4 "_law_next" (ae kX) s.heap.objs.size f cdv)).units < cLine:=B_ (j8 _ 150) (fE hr)
 refine ⟨_,(@un _ _ _ (wbO (wbI (wbS (vI huL) (wv 0 rfl) (waM waf) (ai _)) (wbQ (wbK waC)) wbP) (wbQ (wbK (wak Ο A5 A6 iE (wv 0 rfl) rfl rfl))))),?_⟩
 refine ⟨_,rfl,Ω _,λe he=>⟨a,e,_,rfl,rfl,SqL.of (ac he _ _ _ ha),SqL.of aa,_,rfl,?_⟩⟩
 have q1:=ac he (.lst [])
 generalize upd H e (.lst [])=H1 at q1 ⊢
 have h1:=q1 _ _ ha
 by_cases c:ns=[]
 ·subst c
  refine av (q H1 0 (af.b a q1) ⟨[],h1,by rw [<- ln]; rfl,∅⟩ ∅ ∅)
 ·obtain ⟨n0,x,rfl⟩:=fO c
  rw [show (Fd V.int (n0 ++ [x])).isEmpty=false by simp]
  refine aq ⟨_,rfl,.inl ⟨rfl,_,SqL.of h1⟩,a,_,.int x,rfl,rfl,h1,by rw [ω]; exact dM _ _,?_⟩
  obtain ⟨x0,x1⟩:=hb x ∅
  refine q _ x ((af.b a q1).trans (aE.upd _ _ _)) ⟨n0,?_,?_,λy hy=>hb y (m9 _ hy)⟩ x0 x1
  ·rw [aa,ω,Υ,ϰ,BP]
  ·rw [<- ln,ψ,ϧ]; rfl
abbrev kT:Stmt:=top 61
def zB (x:Str):Prop:=∃ j,1<=j/\x.cps.toList[j]?=some 122
structure Nms (xs:List Str):Prop where
 len:xs.length=5
 nm:∀ x∈xs,nmB x=true
 nd:xs.Nodup
 z:∀ x∈xs,zB x
def nmf (pre post:Str) (t:Int) (k:Nat):Str:=pre ++ ⟨#[97 + ((t + 5 * (k:Int)) % 26).toNat]⟩ ++ ξ "z" ++ post
theorem yG:(ξ "z").cps.toList=[122]:=by decide +kernel
theorem mF (pre post:Str) (t:Int) (k:Nat):(nmf pre post t k).cps.toList=pre.cps.toList ++ ((97 + ((t + 5 * (k:Int)) % 26).toNat) :: 122 :: post.cps.toList):=by
 unfold nmf
 rw [CL,CL,CL,yG]
 simp
theorem zC:Az (ξ "z") 1:=⟨by rw [yG]; rfl,λc hc=>by rw [yG,θ] at hc; rw [hc]; rfl⟩
theorem ie (t:Int):azB (97 + (t % 26).toNat)=true:=by
 obtain ⟨b0,b1⟩:=mod_lt (a:=t) 26 ∅
 unfold azB
 rw [decide_eq_true ∅,decide_eq_true ∅]
 rfl
theorem xH {pre post:Str} {n m:Nat} (h1:Az pre n) (h2:Az post m) (h6:n + m<=6) (t:Int):Nms ((Φ 5).map (nmf pre post t)):=by
 refine ⟨rfl,λx hx=>?_,?_,λx hx=>?_⟩
 ·obtain ⟨k,_,rfl⟩:=Κ.mp hx
  exact zU (gu (gu (gu h1 (ii (ie _))) zC) h2) ∅ ∅
 ·have inj:∀ i j:Nat,i < 5->j < 5->nmf pre post t i=nmf pre post t j->i=j:=λi j hi hj e=>by
   have e1:=congrArg (λx:Str=>x.cps.toList) e
   simp only [mF] at e1
   have e2:=List.append_cancel_left e1
   injection e2 with e3 _
   obtain ⟨b0,b1⟩:=mod_lt (a:=t + 5 * (i:Int)) 26 ∅
   obtain ⟨c0,c1⟩:=mod_lt (a:=t + 5 * (j:Int)) 26 ∅
   omega
  rw [CB]
  refine EK.map (R:=λi j=>i < 5/\j < 5/\i≠j) _ (λi j h e=>h.2.2 (inj i j h.1 h.2.1 e)) ?_
  decide
 ·obtain ⟨k,_,rfl⟩:=Κ.mp hx
  refine ⟨n + 1,∅,?_⟩
  rw [mF,y9 (by rw [h1.1]; omega),h1.1]
  simp
theorem rE {i:Int} (h0:0<=i) (h1:i < 26):atI (ξ "abcdefghijklmnopqrstuvwxyz").cps.toList i=some (97 + i.toNat):=by
 have h:∀ j,j < 26->(ξ "abcdefghijklmnopqrstuvwxyz").cps.toList[j]?=some (97 + j):=by decide +kernel
 have q:=ad (h i.toNat ∅)
 rwa [show ((i.toNat:Nat):Int)=i by omega] at q
def rc:Sp:=λvs H Q _=>∃ c:Int,vs=[.int c]/\0<=c/\∀ (H':Hp) (r:Addr) (xs:List Str),af H H'->H r=none->H' r=some (.lst (xs.map V.str))->Nms xs->Q (.ref r) H'
theorem nH:ao ["_law_cell","_law_some","_law_stem","_law_k","_law_at"] ["_law_cell"] (ae kT):=by trivial
theorem vL {f:Addr} {fd:Μ} (F:Fun K "_law_names" "_law_names" kT f fd) (T:Txt K mg):aF P w K mg base CX0 1 f fd ["_law_cell"] rc:=by
 have nd:=nH.nd
 refine F.ok nH (λvs H Q E h=>?_) (λcdv A outer s H vs Q E hr h=>?_)
 ·obtain ⟨c,rfl,_⟩:=h
  rfl
 obtain ⟨c,rfl,c0,q⟩:=h
 refine ⟨_,(@un _ _ _ (wbO (wbM 1 nd rfl (Ef rfl) waV rfl ∅) (wbO (wbM 2 nd rfl (Ef rfl) waV rfl ∅) (wbO (wbH Ϯ rfl (wbk rfl T.range (wae (waQ aA (wv 0 rfl) waC) waf rfl) rfl) (waZ 3 nd rfl (Ι rfl) ∅) (wbQ (wbM 2 nd rfl (Ef rfl) (waQ bi (wv 2 rfl) (waD oq (wv 1 rfl) (waQ aA (waQ cc (wv 0 rfl) (waD aJ (waM (wae waC (wae waC (wae waC (wae waC (wae waC (wae waC waf rfl) rfl) rfl) rfl) rfl) rfl)) (wv 3 rfl) (λ_ _=>rfl))) waC) (λ_ _=>rfl))) rfl ∅)) ∅) (wbO (wbM 4 nd rfl (Ef rfl) (waQ aA (waQ cc (wv 0 rfl) waC) (waQ bC (wal fH rfl T.len ∅ (wae (wv 2 rfl) waf rfl) ∅ ∅ rfl rfl) waC)) rfl ∅) (wbQ (wbK (waE ["_law_k"] ([0,1,2,4]) (wbk rfl T.range (wae waC waf rfl) rfl) (.of rfl) rfl (λ_ _ _=>⟨pg_name (i:=0) (bB (l:=["_law_k","_law_cell","_law_some","_law_stem","_law_at"]) (∅) rfl) rfl (Ι rfl)⟩) (bu ∅) (λ_ _ _=>wbx) (λ_ _ _=>(waQ bi (waQ bi (waQ bi (waT tR (wv 3 rfl) wbz (wbA (wv 4 rfl))) (waD oq (wv 2 rfl) (waQ aA (waQ bC (waQ cc (wv 1 rfl) waC) (waQ iY waC (wv 0 rfl))) waC) (λ_ _=>rfl))) waV) (waT tR (wv 3 rfl) (wbA (wv 4 rfl)) wbz))) ∅)))))))),?_⟩
 have abc:(ξ "abcdefghijklmnopqrstuvwxyz").length<=sizeLine:=by rw [υ]; decide +kernel
 obtain ⟨m0,m1⟩:=mod_lt (a:=c) 7 ∅
 refine ⟨_,rfl,_,_,rfl,rfl,(by show (0:Int) < 7; decide),_,rfl,∅,∅,gP (n:=(c % 7).toNat) (λi σ H'=>∃ (stem:Str) (o3:Option V),σ=[some (.int c),some (.str "abcdefghijklmnopqrstuvwxyz"),some (.str stem),o3,none]/\af H H'/\Az stem i) ⟨_,_,rfl,af.refl _,vp⟩ ?T1 ?_⟩
 case T1=>
  rintro i σ H2 D1 gD hi ⟨stem,o1,rfl,s2,az⟩
  have h6:∃ d,atI [V.int 7,.int 182,.int 4732,.int 123032,.int 3198832,.int 83169632] (0 + (i:Int))=some (.int d)/\0 < d/\d < 10 ^ 60:=by
   have e:i=0\/i=1\/i=2\/i=3\/i=4\/i=5:=by omega
   rcases e with e | e | e | e | e | e <;> subst e
   ·exact ⟨_,rfl,∅,∅⟩
   ·exact ⟨_,rfl,∅,∅⟩
   ·exact ⟨_,rfl,∅,∅⟩
   ·exact ⟨_,rfl,∅,∅⟩
   ·exact ⟨_,rfl,∅,∅⟩
   ·exact ⟨_,rfl,∅,∅⟩
  obtain ⟨d,hd,d0,d1⟩:=h6
  obtain ⟨b0,b1⟩:=mod_lt (a:=c / d) 26 ∅
  refine ⟨_,rfl,_,rfl,_,rfl,(by show 6<=sizeLine; rw [υ]; decide),λp hp=>⟨_,rfl,p,_,_,.int d,rfl,rfl,SqL.of aa,hd,_,_,rfl,rfl,⟨d0,d1⟩,_,_,rfl,rfl,(by show (0:Int) < 26; decide),_,_,_,rfl,rfl,abc,rE b0 b1,_,_,rfl,rfl,?_,?_⟩⟩
  ·rw [az.len,(ii (ie _)).len,υ]; omega
  ·exact gD _ _ ⟨_,_,rfl,s2.trans (ac hp _),gu az (ii (ie _))⟩
 rintro σ H2 ⟨stem,o1,rfl,s2,az⟩
 have ln:=az.len
 have stl:stem.length<=sizeLine:=by rw [ln,υ]; omega
 refine ⟨_,rfl,_,_,rfl,rfl,⟨∅,∅⟩,_,rfl,_,rfl,stl,_,_,rfl,rfl,_,_,rfl,rfl,(by show (0:Int) < (stem.length:Int) + 1; omega),?_⟩
 obtain ⟨y0,y1⟩:=mod_lt (a:=c / 2162410432) ((stem.length:Int) + 1) ∅
 refine gnm ?_
 dsimp only
 generalize c / 2162410432 % ((stem.length:Int) + 1)=y at y0 y1
 have at1:y<=(c % 7).toNat:=by rw [ln] at y1; omega
 have zf:=wt az y0 at1
 have zt:=zP az y0 at1
 refine ⟨_,rfl,∅,∅,uu (lo:=0) (n:=5) (λi ys H'=>H'=H2/\ys=((Φ i).map (nmf (Txt.slice stem none (some y)) (Txt.slice stem (some y) none) (c / 15136873024))).map V.str) ⟨rfl,rfl⟩ ?_ ?_⟩
 ·rintro i ys H5 hi ⟨rfl,rfl⟩
  obtain ⟨b0,b1⟩:=mod_lt (a:=c / 15136873024 + 5 * ((0:Int) + (i:Int))) 26 ∅
  have e1:=gu zt (ii (ie (c / 15136873024 + 5 * ((0:Int) + (i:Int)))))
  have e2:=gu e1 zC
  refine bp ⟨_,rfl,_,rfl,_,rfl,_,rfl,stl,_,rfl,_,rfl,_,_,rfl,rfl,⟨∅,∅⟩,_,rfl,_,_,rfl,rfl,.inl ⟨∅,∅⟩,_,_,rfl,rfl,_,_,rfl,rfl,(by show (0:Int) < 26; decide),_,_,_,rfl,rfl,abc,rE b0 b1,_,_,rfl,rfl,?_,_,_,rfl,rfl,?_,_,rfl,_,rfl,_,rfl,_,rfl,stl,_,_,rfl,rfl,?_,?_,rfl,?_⟩
  ·rw [zt.len,(ii (ie _)).len,υ]; omega
  ·rw [e1.len,zC.len,υ]; omega
  ·rw [e2.len,zf.len,υ]; omega
  ·rw [ε,ε,ED,υ]; omega
  ·rw [CS,ω,ω]
   rw [show (0:Int) + (i:Int)=(i:Int) by omega]
   rfl
 ·rintro ys H5 ⟨rfl,rfl⟩ r hr'
  exact q _ r _ (s2.trans (ac hr' _)) (s2.free hr') aa (xH zt zf ∅ _)
abbrev du:Stmt:=top 28
abbrev eG:Stmt:=top 30
abbrev dc:Stmt:=top 31
def mi:Sp:=λvs H Q _=>∃ (v:V) (k:Kd),vs=[v]/\Rep H k.dv v/\∀ (H':Hp) (l:Addr) (us:List V),af H H'->H l=none->H' l=some (.lst us)->Reps H' (k.kids.map Kd.dv) us->Q (.ref l) H'
def qh:Sp:=λvs H Q _=>∃ (v:V) (k:Kd),vs=[v]/\Rep H k.dv v/\∀ u,Rep H (rY k.len?) u->Q u H
def ju (fT:Addr):Sp:=λvs H Q _=>∃ (v:V) (k:Kd),vs=[v,.ref fT]/\Rep H k.dv v/\k.size<=40/\∀ (H':Hp) (l:Addr) (us:List V),af H H'->H l=none->H' l=some (.lst us)->Reps H' (k.pts.map Kd.dv) us->Q (.ref l) H'
def iy:Sp:=λvs H Q _=>∃ (v:V) (k:Kd),vs=[v]/\Rep H k.dv v/\k.size<=40/\∀ (H':Hp) (l:Addr) (us:List V),af H H'->H l=none->H' l=some (.lst us)->Reps H' (k.pts.map Kd.dv) us->Q (.ref l) H'
theorem kq:ao ["point"] ["point"] (ae bM):=by trivial
theorem kL {f:Addr} {fd:Μ} (F:Fun K "things_of" "things_of" bM f fd) (T:Txt K mg):aF P w K mg base CX0 1 f fd ["point"] mi:=by
 refine F.ok kq (λvs H Q E h=>?_) (λcdv A outer s H vs Q E hr h=>?_)
 ·obtain ⟨v,k,rfl,_⟩:=h
  rfl
 obtain ⟨v,k,rfl,R,q⟩:=h
 refine ⟨_,(@un _ _ _ (wbO (wbI (wbS ay (waD aj (wv 0 rfl) waC (λ_ _=>rfl)) waV (ai _)) (wbQ (wbK (waM (wae (waD aj (wv 0 rfl) waC (λ_ _=>rfl)) waf rfl)))) wbP) (wbO (wbI (wbS ay (waD aj (wv 0 rfl) waC (λ_ _=>rfl)) waV (ai _)) (wbQ (wbK (waM (wae (waD aj (wv 0 rfl) waC (λ_ _=>rfl)) (wae (waD aj (wv 0 rfl) waC (λ_ _=>rfl)) waf rfl) rfl)))) wbP) (wbQ (wbK (waM waf)))))),?_⟩
 obtain ⟨a,vs,rfl,ha,hv⟩:=Kd.inv R
 refine ⟨_,rfl,a,_,0,.str k.word,rfl,rfl,SqT.of ha,ad (j:=0) rfl,rfl,_,rfl,?_⟩
 cases k with
 | whole=>
  refine au (λh=>absurd (of_decide_eq_true h) (wne Ai)) (λ_=>⟨_,rfl,a,_,0,.str "whole",rfl,rfl,SqT.of ha,ad (j:=0) rfl,rfl,_,rfl,au (λh=>absurd (of_decide_eq_true h) (wne Bt)) (λ_=>⟨Ω _,λl hl=>?_⟩)⟩)
  exact q _ l [] (ac hl _) hl aa (by simp only [Kd.kids,ϰ,Reps])
 | place c ps=>
  refine au (λh=>absurd (of_decide_eq_true h) (wne AA)) (λ_=>⟨_,rfl,a,_,0,.str "place",rfl,rfl,SqT.of ha,ad (j:=0) rfl,rfl,_,rfl,au (λh=>absurd (of_decide_eq_true h) (wne Au)) (λ_=>⟨Ω _,λl hl=>?_⟩)⟩)
  exact q _ l [] (ac hl _) hl aa (by simp only [Kd.kids,ϰ,Reps])
 | row c ps j=>
  obtain ⟨l1,u,rfl,_,Ru⟩:=hv
  refine au (λ_=>⟨_,rfl,a,_,2,u,rfl,rfl,SqT.of ha,ad (j:=2) rfl,z1,λl hl=>?_⟩) (λh=>absurd (decide_eq_true rfl) h)
  exact q _ l [u] (ac hl _) hl aa (aN (Ru.mono (ac hl _)))
 | pair i j=>
  obtain ⟨u,w',rfl,Ru,Rw⟩:=hv
  refine au (λh=>absurd (of_decide_eq_true h) (wne (ώ Ag))) (λ_=>⟨_,rfl,a,_,0,.str "pair",rfl,rfl,SqT.of ha,ad (j:=0) rfl,rfl,_,rfl,au (λ_=>⟨_,rfl,a,_,1,u,rfl,rfl,SqT.of ha,ad (j:=1) rfl,_,rfl,a,_,2,w',rfl,rfl,SqT.of ha,ad (j:=2) rfl,z2,λl hl=>?_⟩) (λh=>absurd (decide_eq_true rfl) h)⟩)
  exact q _ l [u,w'] (ac hl _) hl aa (Reps.append (aN (Ru.mono (ac hl _))) (aN (Rw.mono (ac hl _))))
theorem lA:ao ["point"] ["point"] (ae du):=by trivial
theorem kh {f:Addr} {fd:Μ} (F:Fun K "length_at" "length_at" du f fd) (T:Txt K mg):aF P w K mg base CX0 1 f fd ["point"] qh:=by
 refine F.ok lA (λvs H Q E h=>?_) (λcdv A outer s H vs Q E hr h=>?_)
 ·obtain ⟨v,k,rfl,_⟩:=h
  rfl
 obtain ⟨v,k,rfl,R,q⟩:=h
 refine ⟨_,(@un _ _ _ (wbO (wbI (wab (wbY (wbS ay (waD aj (wv 0 rfl) waC (λ_ _=>rfl)) waV (ai _)) (wbZ (wbS ay (waD aj (wv 0 rfl) waC (λ_ _=>rfl)) waV (ai _))))) (wbQ (wbK (waD aj (wv 0 rfl) waC (λ_ _=>rfl)))) wbP) (wbQ (wbK waN)))),?_⟩
 obtain ⟨a,vs,rfl,ha,hv⟩:=Kd.inv R
 refine ⟨_,rfl,a,_,0,.str k.word,rfl,rfl,SqT.of ha,ad (j:=0) rfl,rfl,_,rfl,?_⟩
 cases k with
 | whole=>
  refine au (λh=>absurd (of_decide_eq_true h) (wne BH)) (λ_=>⟨_,rfl,a,_,0,.str "whole",rfl,rfl,SqT.of ha,ad (j:=0) rfl,rfl,_,rfl,au (λh=>absurd (of_decide_eq_true h) (wne Ai)) (λ_=>?_)⟩)
  exact q .non (by simp only [Kd.len?,rY,Rep])
 | place c ps=>
  obtain ⟨l1,rfl,Rl⟩:=hv
  exact au (λ_=>av ⟨_,rfl,a,_,1,l1,rfl,rfl,SqT.of ha,ad (j:=1) rfl,q l1 Rl⟩) (λh=>absurd (decide_eq_true rfl) h)
 | row c ps j=>
  obtain ⟨l1,u,rfl,Rl,Ru⟩:=hv
  refine au (λh=>absurd (of_decide_eq_true h) (wne (ώ AA))) (λ_=>⟨_,rfl,a,_,0,.str "row",rfl,rfl,SqT.of ha,ad (j:=0) rfl,rfl,_,rfl,au (λ_=>⟨_,rfl,a,_,1,l1,rfl,rfl,SqT.of ha,ad (j:=1) rfl,q l1 Rl⟩) (λh=>absurd (decide_eq_true rfl) h)⟩)
 | pair i j=>
  refine au (λh=>absurd (of_decide_eq_true h) (wne (ώ Au))) (λ_=>⟨_,rfl,a,_,0,.str "pair",rfl,rfl,SqT.of ha,ad (j:=0) rfl,rfl,_,rfl,au (λh=>absurd (of_decide_eq_true h) (wne (ώ Ag))) (λ_=>?_)⟩)
  exact q .non (by simp only [Kd.len?,rY,Rep])
theorem gO:ao ["whole","parts_of","points","waiting","point"] ["whole","parts_of"] (ae eG):=by trivial
theorem mo {f fT:Addr} {fd fdT:Μ} {k0:Nat} (F:Fun K "in_order" "in_order" eG f fd) (T:Txt K mg) (FV:aF P w K mg base CX0 k0 fT fdT ["point"] mi) (KV:l7 K (.ref fT)=true) (BV:bx K fdT ["point"] []):aF P w K mg base CX0 (k0 + 1) f fd ["whole","parts_of"] (ju fT):=by
 have nd:=gO.nd
 refine F.ok gO (λvs H Q E h=>?_) (λcdv A outer s H vs Q E hr h=>?_)
 ·obtain ⟨v,k,rfl,_⟩:=h
  rfl
 obtain ⟨v,k,rfl,R,k40,q⟩:=h
 refine ⟨_,(@un _ _ _ (wbO (wbM 2 nd rfl (Ι rfl) (waM waf) rfl ∅) (wbO (wbM 3 nd rfl (Ι rfl) (waM (wae (wv 0 rfl) waf rfl)) rfl ∅) (wbO (wbN Ϯ (wbU (wv 3 rfl) (λ_=>rfl)) (wbO (wbM 4 nd rfl (Ι rfl) (wak Ο A5 A6 iE (wv 3 rfl) rfl rfl) rfl ∅) (wbO (wbG (waj Ο ϫ Ϭ bd (wv 2 rfl) (wae (wv 4 rfl) waf rfl) rfl rfl rfl rfl rfl) rfl) (wbQ (wbG (waj Ο BY BZ gy (wv 3 rfl) (wae (waF rfl T.list rfl T.reversed rfl (wan 1 FV hr KV BV (wae (wv 4 rfl) waf rfl) rfl ∅ ∅ ∅ rfl rfl) rfl rfl) waf rfl) rfl rfl rfl rfl rfl) rfl))))) (wbQ (wbK (wv 2 rfl))))))),?_⟩
 refine ⟨Ω _,λP1 hP=>?_⟩
 refine ⟨_,rfl,z1,λW1 hW=>?_⟩
 have q1:=ac hP (.lst [])
 have q2:=ac hW (.lst [v])
 have hPW:P1≠W1:=ag (aa (H:=H) (a:=P1) (o:=.lst [])) hW
 have hWn:H W1=none:=q1.free hW
 refine qK (λm σ H'=>∃ (o4:Option V) (dn ws:List Kd) (us vs:List V),σ=[some v,some (.ref fT),some (.ref P1),some (.ref W1),o4]/\af H H'/\H' P1=some (.lst us)/\H' W1=some (.lst vs)/\Reps H' (dn.map Kd.dv) us/\Reps H' (ws.map Kd.dv) vs/\k.pts=dn ++ ws.reverse.flatMap Kd.pts/\m=(ws.map Kd.size).sum/\m<=40) k.size
  ⟨_,[],[k],[],[v],rfl,q1.trans q2,q2 _ _ aa,aa,by simp only [ϰ,Reps],aN ((R.mono q1).mono q2),∅,∅,k40⟩ ?_ eX
 rintro m σ H1 ⟨o4,dn,ws,us,vs,rfl,s1,p1,w1,R1,R2,ep,rfl,m40⟩
 refine ⟨_,rfl,_,.inl ⟨vs,SqL.of w1,rfl⟩,?_⟩
 have ldn:us.length<=40:=by
  have h1:=R1.length
  have h2:=congrArg List.length ep
  rw [Kd.pts_len,ψ] at h2
  rw [ε] at h1
  omega
 by_cases ne:ws=[]
 ·subst ne
  have e:vs=[]:=by simpa only [ϰ,Reps] using R2
  subst e
  refine aq ⟨_,rfl,q H1 P1 us s1 hP p1 ?_⟩
  rw [ep]
  simpa using R1
 ·obtain ⟨w0,x,rfl⟩:=fO ne
  rw [ω] at R2
  obtain ⟨v0,u,rfl,Ra,Ru⟩:=bZ R2
  have e:(!(v0 ++ [u]).isEmpty)=true:=by simp
  rw [e]
  refine av ?_
  have lv0:v0.length<=40:=by
   have h1:=Ra.length
   rw [ε] at h1
   have h2:∀ l:List Kd,l.length<=(l.map Kd.size).sum:=by
    intro l
    induction l with
    | nil=>simp
    | cons y l ih=>rw [ό,Υ,DC]; have:=y.size_pos; omega
   have h3:=h2 w0
   rw [ω,BM] at m40
   omega
  refine ⟨_,rfl,.inl ⟨rfl,_,SqL.of w1⟩,W1,_,_,rfl,rfl,w1,dM _ _,?_⟩
  rw [BP]
  have s2:=aE.upd H1 W1 (.lst v0)
  have w2:upd H1 W1 (.lst v0) W1=some (.lst v0):=aa
  have p2:=s2 _ _ hPW p1
  have t2:cm H1 _:=s2.tups w1
  generalize upd H1 W1 (.lst v0)=H2 at s2 w2 p2 t2 ⊢
  refine ⟨_,rfl,.inl ⟨rfl,_,SqL.of p2⟩,_,rfl,P1,_,_,rfl,rfl,p2,by rw [υ]; omega,?_⟩
  have s3:=aE.upd H2 P1 (.lst (us ++ [u]))
  have p3:upd H2 P1 (.lst (us ++ [u])) P1=some (.lst (us ++ [u])):=aa
  have w3:=s3 _ _ (ώ hPW) w2
  have t3:cm H1 _:=t2.trans (s3.tups p2)
  generalize upd H2 P1 (.lst (us ++ [u]))=H3 at s3 p3 w3 t3 ⊢
  refine ⟨_,rfl,.inl ⟨rfl,_,SqL.of w3⟩,rfl,_,rfl,u,x,rfl,Kd.tupS t3 Ru,λH4 l ks s4 hl h4 R4=>⟨l,ks,rfl,SqL.of h4,λa ha=>?_⟩⟩
  have s5:=s4.trans (ac ha (.lst ks.reverse))
  have lks:ks.length<=2:=by
   have h1:=R4.length
   rw [ε] at h1
   rw [h1]
   cases x <;> simp [Kd.kids]
  refine ⟨W1,a,_,_,rfl,rfl,s5 _ _ w3,aa,by rw [ϲ,υ]; omega,?_⟩
  have R5:Reps (upd H4 a (.lst ks.reverse)) (x.kids.reverse.map Kd.dv) ks.reverse:=by
   have R4':=R4.mono (ac ha (.lst ks.reverse))
   cases x with
   | whole=>simp only [Kd.kids,ϰ,Reps] at R4' ⊢; subst R4'; simp [Kd.kids,Reps]
   | place c ps=>simp only [Kd.kids,ϰ,Reps] at R4' ⊢; subst R4'; simp [Kd.kids,Reps]
   | row c ps j=>
    simp only [Kd.kids,Υ,ϰ,Reps] at R4'
    obtain ⟨y,r,rfl,hy,rfl⟩:=R4'
    exact aN hy
   | pair i j=>
    simp only [Kd.kids,Υ,ϰ,Reps] at R4'
    obtain ⟨y,r,rfl,hy,z,r2,rfl,hz,rfl⟩:=R4'
    exact Reps.append (aN hz) (aN hy)
  have s6:=aE.upd (upd H4 a (.lst ks.reverse)) W1 (.lst (v0 ++ ks.reverse))
  have t6:cm H1 _:=t3.trans ((af.tups s5).trans (s6.tups (s5 _ _ w3)))
  refine ⟨_,?_,_,dn ++ [x],w0 ++ x.kids.reverse,us ++ [u],v0 ++ ks.reverse,rfl,?_,s6 _ _ hPW (s5 _ _ p3),aa,?_,?_,?_,rfl,?_⟩
  ·rw [ω,BM,ω,BM]
   have h1:=x.size_kids
   have h2:(x.kids.reverse.map Kd.size).sum=(x.kids.map Kd.size).sum:=by rw [Dw,List.sum_reverse]
   simp only [Υ,ϰ,DC,List.sum_nil]
   omega
  ·exact λg o e=>s6 g o (λz=>by rw [z,hWn] at e; cases e) (s5 _ _ (s3 g o (ag e hP) (s2 g o (λz=>by rw [z,hWn] at e; cases e) (s1 g o e))))
  ·rw [ω]
   exact Reps.append (aL (λd hd v r=>by obtain ⟨y,_,rfl⟩:=Κ.mp hd; exact Kd.tupS t6 r) R1) (aN (Kd.tupS t6 Ru))
  ·rw [ω]
   exact Reps.append (aL (λd hd v r=>by obtain ⟨y,_,rfl⟩:=Κ.mp hd; exact Kd.tupS t6 r) Ra) (aL (λd hd v r=>by obtain ⟨y,_,rfl⟩:=Κ.mp hd; exact Kd.tupS (s6.tups (s5 _ _ w3)) r) R5)
  ·rw [ep]
   simp only [List.reverse_append,Ez,List.reverse_nil,CQ,List.reverse_reverse,c6,De,List.flatMap_nil,m5,List.singleton_append,Cm]
   rw [x.pts_kids]
   simp
  ·rw [ω,BM] at m40 ⊢
   have h1:=x.size_kids
   have h2:(x.kids.reverse.map Kd.size).sum=(x.kids.map Kd.size).sum:=by rw [Dw,List.sum_reverse]
   simp only [Υ,ϰ,DC,List.sum_nil] at m40
   omega
theorem lb:ao ["kind"] ["kind"] (ae dc):=by trivial
theorem lG {f fthings_of:Addr} {fd:Μ} {k0:Nat} (F:Fun K "points_of" "points_of" dc f fd) (T:Txt K mg) (Din_order:Def P w K mg base k0 "in_order" ["whole","parts_of"] (ju fthings_of)) (Gthings_of:mg "things_of"=some (.ref fthings_of)):aF P w K mg base CX0 (k0 + 1) f fd ["kind"] iy:=by
 refine F.ok lb (λvs H Q E h=>?_) (λcdv A outer s H vs Q E hr h=>?_)
 ·obtain ⟨v,k,rfl,_⟩:=h
  rfl
 obtain ⟨v,k,rfl,R,k40,q⟩:=h
 refine ⟨_,(@un _ _ _ (wbQ (wbK (waq Din_order hr rfl (wae (wv 0 rfl) (wae (waB (.ref fthings_of) rfl Gthings_of rfl ∅) waf rfl) rfl) ∅ rfl rfl)))),?_⟩
 exact ⟨_,rfl,v,k,rfl,R,k40,q⟩
abbrev gA:Stmt:=top 51
abbrev cq:Stmt:=top 52
abbrev dC:Stmt:=top 53
def bdK (bs:List Str):List (Key×V):=bs.map λx=>(ϕ x,V.bl true)
theorem lJ:∀ (bs:List Str) (x:Str),(dD (bdK bs) (ϕ x)).isSome=decide (x∈bs)
 | [],x=>by rw [decide_eq_false ∅]; rfl
 | b :: bs,x=>by
  by_cases h:b=x
  ·have e:dD (bdK (b :: bs)) (ϕ x)=some (V.bl true):=fX (p:=(ϕ b,V.bl true)) (by rw [h])
   rw [e,decide_eq_true (by simp [h])]; rfl
  ·have e:dD (bdK (b :: bs)) (ϕ x)=dD (bdK bs) (ϕ x):=fG (p:=(ϕ b,V.bl true)) (λz=>h (by injection z))
   rw [e,lJ bs x]
   by_cases h2:x∈bs
   ·rw [decide_eq_true h2,decide_eq_true (ρ _ h2)]
   ·rw [decide_eq_false h2,decide_eq_false (λz=>by rcases ν.mp z with z | z; exact h z.symm; exact h2 z)]
def bS (bs:List Str) (ps:List Pr):List Pr:=ps.filter λp=>!decide (p.1∈bs)
def xV:Sp:=λvs H Q _=>∃ (v:V) (b:Addr) (c:Int) (ps:List Pr) (bs:List Str),vs=[v,.ref b]/\Rep H (bn c ps) v/\ps.length<=40/\H b=some (.dK (bdK bs)) /\
 ∀ (H':Hp) (l:Addr) (us:List V),af H H'->H l=none->H' l=some (.lst us)->Reps H' (aG (bS bs ps)) us->Q (.ref l) H'
theorem oV:ao ["length","bound"] ["length","bound"] (ae gA):=by trivial
theorem oF {f:Addr} {fd:Μ} (F:Fun K "unbound" "unbound" gA f fd) (T:Txt K mg):aF P w K mg base CX0 1 f fd ["length","bound"] xV:=by
 refine F.ok oV (λvs H Q E h=>?_) (λcdv A outer s H vs Q E hr h=>?_)
 ·obtain ⟨v,b,c,ps,bs,rfl,_⟩:=h
  rfl
 obtain ⟨v,b,c,ps,bs,rfl,R,h40,hb,q⟩:=h
 have hu:=og hr
 obtain ⟨a,a1,us,rfl,ha,ha1,ru,lu⟩:=xw R
 refine ⟨_,(@un _ _ _ (wbQ (wbK (waE ["part"] [1] (wbo (waD aj (wv 0 rfl) waC (λ_ _=>rfl))) (.of rfl) rfl (λ_ _ _=>⟨pg_name (i:=0) (bB (l:=["part","bound"]) (∅) rfl) rfl (Ι rfl)⟩) (bu ∅) (λ_ _ _=>⟨kM (pt_cmpR (rJ hu) (pe_ix (fm K rfl) (pv 0) pe_int (λ_ _=>rfl)) (pv 1) (by with_unfolding_all rfl))⟩) (λ_ _ _=>(wv 0 rfl)) ∅)))),?_⟩
 refine ⟨_,rfl,a,_,1,.ref a1,rfl,rfl,SqT.of ha,ad (j:=1) rfl,a1,rfl,⟨us,SqT.of ha1⟩,eW (xs:=us) (λi ys H'=>H'=H/\ys.length<=i/\Reps H (aG (bS bs (ps.take i))) ys) ⟨rfl,π _,by simp [bS,Reps]⟩ (λi ys H' _ p=>by rw [p.1]; exact SqT.of ha1) ?_ ?_⟩
 ·rintro i ys H' x hx ⟨rfl,ly,Ry⟩
  obtain ⟨p,e,hp,rfl,he⟩:=rk ru hx
  have hi:i < us.length:=(ο.mp hx).1
  have hti:ps.take (i + 1)=ps.take i ++ [p]:=by rw [ϣ,hp]; rfl
  refine lF ⟨_,rfl,e,_,0,.str p.1,rfl,rfl,SqT.of he,ad (j:=0) rfl,_,rfl,b,_,rfl,oz.k (k:=ϕ p.1) hb,?_⟩
  refine ⟨_,rfl,?_⟩
  show if (!(dD (bdK bs) (ϕ p.1)).isSome)=true then _ else _
  rw [lJ]
  by_cases h:p.1∈bs
  ·rw [decide_eq_true h]
   refine aq ⟨rfl,∅,?_⟩
   have:bS bs (ps.take (i + 1))=bS bs (ps.take i):=by unfold bS; rw [hti,List.filter_append]; simp [h]
   rw [this]; exact Ry
  ·rw [decide_eq_false h]
   refine av ⟨_,rfl,by rw [υ]; omega,rfl,by rw [ψ,ϧ]; omega,?_⟩
   have:bS bs (ps.take (i + 1))=bS bs (ps.take i) ++ [p]:=by unfold bS; rw [hti,List.filter_append]; simp [h]
   rw [this,show aG (bS bs (ps.take i) ++ [p])=aG (bS bs (ps.take i)) ++ aG [p] from ω]
   refine Reps.append Ry (aN ?_)
   rw [Rep]
   exact ⟨e,_,rfl,he,by simp only [Reps]; exact ⟨_,_,rfl,by simp only [Rep],_,_,rfl,by simp only [Rep],rfl⟩⟩
 ·rintro ys H' ⟨rfl,ly,Ry⟩ r hr'
  rw [lu,Ϥ] at Ry
  exact q _ r ys (ac hr' _) hr' aa (Ry.mono (ac hr' _))
def si (k:Kd) (fs:List Pr) (ns:List Str):Bool:=fs.isEmpty || (decide (k.word="row") && (decide (fs.length=1) && (fs.map λp=>decide (p∈ns.map λx=>(x,(1:Int)))).headD false))
def yi:Sp:=λvs H Q _=>∃ (v u:V) (l:Addr) (k:Kd) (fs:List Pr) (us:List V) (ns:List Str),vs=[v,.ref l,u]/\Rep H k.dv v/\H l=some (.lst us)/\Reps H (aG fs) us/\Rep H (.tup (ns.map Dv.str)) u/\ns.length<=40/\∀ H',af H H'->Q (.bl (si k fs ns)) H'
theorem pG {p q:Pr} (h:Dv.tup [.str p.1,.int p.2]=.tup [.str q.1,.int q.2]):p=q:=by
 injection h with h; injection h with h1 h2; injection h2 with h2 _; injection h1 with h1; injection h2 with h2
 exact Prod.ext h1 h2
theorem lh:ao ["point","fresh","names"] ["point","fresh","names"] (ae cq):=by trivial
theorem kP {f:Addr} {fd:Μ} (F:Fun K "may_stand" "may_stand" cq f fd) (T:Txt K mg):aF P w K mg base CX0 1 f fd ["point","fresh","names"] yi:=by
 refine F.ok lh (λvs H Q E h=>?_) (λcdv A outer s H vs Q E hr h=>?_)
 ·obtain ⟨v,u,l,k,fs,us,ns,rfl,_⟩:=h
  rfl
 obtain ⟨v,u,l,k,fs,us,ns,rfl,R,hl,Rf,Rn,n40,q⟩:=h
 have hu9:=fE hr
 have huL:(A.deeper (x4 (ξ "may_stand") (ae cq) s.heap.objs.size f cdv)).units < cLine:=by omega
 obtain ⟨a,vs,rfl,ha⟩:=yg R
 obtain ⟨b,ws,rfl,hb,Rw⟩:=Rep.tup_inv Rn
 have lf:us.length=fs.length:=by have:=Rf.length; rwa [ε] at this
 refine ⟨_,(@un _ _ _ (wbO (wbI (wbS (vI huL) (wv 1 rfl) (waM waf) (ai _)) (wbQ (wbK wah)) wbP) (wbQ (wbK (wag (wap ay (waD aj (wv 0 rfl) waC (λ_ _=>rfl)) waV (ai _)) (wag (wap ay (wal ak rfl T.len ∅ (wae (wv 1 rfl) waf rfl) ∅ ∅ rfl rfl) waC (ai _)) (waP (wap (zF hu9) (waD aJ (wv 1 rfl) waC (λ_ _=>rfl)) (waE ["name"] [] (wbo (wv 2 rfl)) (.of rfl) rfl (λ_ _ _=>⟨pg_name (i:=0) (bB (l:=["name"]) (∅) rfl) rfl (Ι rfl)⟩) (bu ∅) (λ_ _ _=>wbx) (λ_ _ _=>(waX (wae (wv 0 rfl) (wae waC waf rfl) rfl))) ∅) (by with_unfolding_all rfl))))))))),?_⟩
 refine ⟨_,rfl,Ω _,λe he=>?_⟩
 have s1:=ac he (.lst [])
 refine ⟨l,e,us,rfl,rfl,SqL.of (s1 _ _ hl),SqL.of aa,_,rfl,?_⟩
 cases fs with
 | nil=>
  obtain rfl:us=[]:=f_ lf
  exact av (q _ s1)
 | cons p fs=>
  obtain ⟨y,us,rfl⟩:∃ y z,us=y :: z:=by cases us with | nil=>cases lf | cons y z=>exact ⟨y,z,rfl⟩
  refine aq ?_
  have qq:=λH' (s:af H H')=>q H' s
  simp only [si,List.isEmpty_cons,BR,Υ,List.headD_cons] at qq
  refine ⟨_,rfl,a,_,0,.str k.word,rfl,rfl,SqT.of (s1 _ _ ha),ad (j:=0) rfl,rfl,_,rfl,?_⟩
  show if decide (V.str k.word=V.str "row")=true then _ else _
  rw [bg]
  by_cases hw:k.word="row"
  ·rw [decide_eq_true hw]
   refine av ⟨_,rfl,l,_,rfl,.inl (SqL.of (s1 _ _ hl)),rfl,_,rfl,?_⟩
   simp only [decide_eq_true hw,Ϧ] at qq
   by_cases h1:us.length=0
   ·obtain rfl:us=[]:=f_ h1
    have ef:fs=[]:=f_ (by simpa using lf.symm)
    subst ef
    refine av ⟨_,rfl,l,_,0,y,rfl,rfl,SqL.of (s1 _ _ hl),ad (j:=0) rfl,?_⟩
    simp only [ϧ,decide_true,Ϧ] at qq
    have Ry:Rep H (.tup [.str p.1,.int p.2]) y:=by
     simp only [Υ,ϰ,Reps] at Rf
     obtain ⟨z,r,e1,Rz,_⟩:=Rf
     cases e1; exact Rz
    refine ⟨_,rfl,b,rfl,⟨ws,SqT.of (s1 _ _ hb)⟩,eW (xs:=ws) (λi ys H'=>af (upd H e (.lst [])) H'/\Reps H' (aG ((ns.take i).map λx=>(x,(1:Int)))) ys) ⟨af.refl _,by simp [Reps]⟩ (λi ys H' _ p=>SqT.of (p.1 _ _ (s1 _ _ hb))) ?_ ?_⟩
    ·rintro i ys H2 x hx ⟨s2,R2⟩
     obtain ⟨n,hn,Rx⟩:=bf Rw hx
     have ex:x=.str n:=by simpa only [Rep] using Rx
     subst ex
     have hi:i < ws.length:=(ο.mp hx).1
     have lw:ws.length=ns.length:=by have:=Rw.length; rwa [ε] at this
     refine bp ⟨_,rfl,z2,λt ht=>⟨?_,s2.trans (ac ht _),?_⟩⟩
     ·rw [R2.length,ε,ε,ϊ,υ]; omega
     ·have s3:=ac ht (.tup [.str n,.int 1])
      rw [ϣ,hn,ω,show aG (Fd (λx=>(x,(1:Int))) (ns.take i) ++ Fd (λx=>(x,(1:Int))) (some n).toList)=aG (Fd (λx=>(x,(1:Int))) (ns.take i)) ++ aG [(n,1)] from ω]
      refine Reps.append (R2.mono s3) (aN ?_)
      rw [Rep]
      exact ⟨t,_,rfl,aa,by simp only [Reps]; exact ⟨_,_,rfl,by simp only [Rep],_,_,rfl,by simp only [Rep],rfl⟩⟩
    ·rintro ys H2 ⟨s2,R2⟩ r hr'
     have lw:ws.length=ns.length:=by have:=Rw.length; rwa [ε] at this
     rw [lw,Ϥ] at R2
     have s3:=ac hr' (.lst ys)
     have plp:∀ p:Pr,L2.Pl 1 (.tup [.str p.1,.int p.2]):=λp=>.tup λd hd=>by
      rcases ν.mp hd with rfl | hd
      ·exact .str
      ·rw [θ.mp hd]; exact .int
     refine ⟨r,ys,1,_,_,rfl,SqL.of aa,R2.mono s3,λd hd=>?_,plp p,∅,((Ry.mono s1).mono s2).mono s3,λc hc=>?_⟩
     ·obtain ⟨z,_,rfl⟩:=Κ.mp hd
      exact plp z
     ·have e2:c=decide (p∈ns.map λx=>(x,(1:Int))):=by
       rw [s_,hc,decide_eq_true_iff]
       exact ⟨λz=>by obtain ⟨y,hy,e⟩:=Κ.mp z; rw [<- pG e]; exact hy,λz=>ϯ (f:=λp:Pr=>Dv.tup [.str p.1,.int p.2]) z⟩
      rw [e2]
      exact qq _ (s1.trans (s2.trans s3))
   ·have:¬ V.int (((y :: us).length:Nat):Int)=V.int 1:=λz=>h1 (by injection z with z; simp at z; omega)
    rw [decide_eq_false this]
    have h2:¬ (p :: fs).length=1:=λz=>h1 (by rw [ό] at z; rw [ό,ό] at lf; omega)
    simp only [decide_eq_false h2,i6] at qq
    exact aq (qq _ s1)
  ·rw [decide_eq_false hw]
   simp only [decide_eq_false hw,i6] at qq
   exact aq (qq _ s1)
def bT (bs:List Str) (k:Kd):List Pr:=match k.len? with | none=>[] | some p=>bS bs p.2
def kI (ns bs:List Str) (k:Kd):Option (List Str):=if si k (bT bs k) ns=true then some (bs ++ (bT bs k).map (·.1)) else none
def cZ (ns:List Str):List Str->List Kd->Option (List Str)
 | bs,[]=>some bs
 | bs,k :: ks=>match kI ns bs k with | none=>none | some cs=>cZ ns cs ks
theorem cF (ns:List Str):∀ (xs ys:List Kd) (bs:List Str),cZ ns bs (xs ++ ys)=match cZ ns bs xs with | none=>none | some cs=>cZ ns cs ys
 | [],_,_=>rfl
 | x :: xs,ys,bs=>by
  show (match kI ns bs x with | none=>none | some cs=>cZ ns cs (xs ++ ys))=match (match kI ns bs x with | none=>none | some cs=>cZ ns cs xs) with | none=>none | some cs=>cZ ns cs ys
  cases kI ns bs x with
  | none=>rfl
  | some cs=>exact cF ns xs ys cs
abbrev Prm:=Str×Kd
def bw (p:Prm):Dv:=.tup [.str p.1,p.2.dv]
def om (ns:List Str) (ps:List Prm):Bool:=match cZ ns [] (ps.flatMap λp=>p.2.pts) with | none=>false | some bs=>decide (bs.length=ns.length)
def L40 (_:Int) (ps:List Pr):Prop:=ps.length<=40
def qk:Sp:=λvs H Q _=>∃ (v u:V) (ns:List Str) (ps:List Prm),vs=[v,u]/\Rep H (.tup (ns.map Dv.str)) v/\Rep H (.tup (ps.map bw)) u/\ns.length<=4/\ps.length<=4/\(∀ p∈ps,p.2.size<=12/\p.2.All L40)/\∀ H',af H H'->Q (.bl (om ns ps)) H'
theorem dq {H:Hp} {p:Prm} {v:V} (R:Rep H (bw p) v):∃ a u,v=.ref a/\H a=some (.tup [.str p.1,u])/\Rep H p.2.dv u:=by
 obtain ⟨a,vs,rfl,ha,rs⟩:=Rep.tup_inv R
 obtain ⟨x,y,rfl,r1,r2⟩:=Reps.two rs
 simp only [Rep] at r1
 subst r1
 exact ⟨a,y,rfl,ha,r2⟩
theorem qP {k:Kd} {fs:List Pr} {ns:List Str} (h:si k fs ns=true):fs=[]\/∃ x,fs=[(x,1)]:=by
 unfold si at h
 match fs,h with
 | [],_=>exact .inl rfl
 | [p],h=>
  refine .inr ?_
  simp only [List.isEmpty_cons,BR,Υ,ϰ,List.headD_cons,Ε,decide_eq_true_eq] at h
  obtain ⟨x,_,e⟩:=Κ.mp h.2.2
  exact ⟨x,by rw [<- e]⟩
 | p :: q :: r,h=>simp at h
theorem sT {bs:List Str} {k:Kd} {p:Pr} (h:p∈bT bs k):p.1∉bs:=by
 unfold bT at h
 cases e:k.len? with
 | none=>rw [e] at h; cases h
 | some q=>
  rw [e] at h
  have:=(i3.mp h).2
  simpa using this
theorem uJ {bs:List Str} {x:Str} (h:x∉bs):cG (bdK bs) (ϕ x) (.bl true)=bdK (bs ++ [x]):=by
 have:cG (bdK bs) (ϕ x) (.bl true)=bdK bs ++ [(ϕ x,.bl true)]:=by
  unfold cG
  rw [if_neg]
  have:=lJ bs x
  rw [decide_eq_false h] at this
  intro z
  rw [j_] at z
  obtain ⟨p,hp,e⟩:=z
  obtain ⟨y,hy,rfl⟩:=Κ.mp hp
  have e':(ϕ y:Key)=ϕ x:=of_decide_eq_true e
  injection e' with e'
  exact h (e'▸hy)
 rw [this]
 unfold bdK
 rw [ω]; rfl
theorem dW {P:Int->List Pr->Prop}:∀ {k:Kd},k.All P->∀ j∈k.pts,∀ c ps,j.len?=some (c,ps)->P c ps
 | .whole,_,j,hj,c,ps,e=>by
  rw [θ.mp hj] at e; cases e
 | .place c ps,h,j,hj,c',ps',e=>by
  rw [θ.mp hj] at e; cases e; exact h
 | .row c ps k,h,j,hj,c',ps',e=>by
  rcases ν.mp hj with rfl | hj
  ·cases e; exact h.1
  ·exact dW h.2 j hj c' ps' e
 | .pair a b,h,j,hj,c',ps',e=>by
  rcases ν.mp hj with rfl | hj
  ·cases e
  ·rcases ϒ.mp hj with hj | hj
   ·exact dW h.1 j hj c' ps' e
   ·exact dW h.2 j hj c' ps' e
theorem wT {ns bs cs:List Str} {ps:List Prm} {i j:Nat} {p:Prm} {k:Kd} (hp:ps[i]?=some p) (hj:p.2.pts[j]?=some k) (e1:cZ ns [] ((ps.take i).flatMap λp=>p.2.pts)=some bs) (e3:cZ ns bs (p.2.pts.take j)=some cs) (h:kI ns cs k=none):cZ ns [] (ps.flatMap λp=>p.2.pts)=none:=by
 obtain ⟨hi,hpe⟩:=ο.mp hp
 obtain ⟨hj',hje⟩:=ο.mp hj
 have e:ps=ps.take i ++ p :: ps.drop (i + 1):=by rw [<- hpe,<- u7 hi,Dl]
 have e':p.2.pts=p.2.pts.take j ++ k :: p.2.pts.drop (j + 1):=by rw [<- hje,<- u7 hj',Dl]
 have h1:ps.flatMap (λp=>p.2.pts)=((ps.take i).flatMap λp=>p.2.pts) ++ (p.2.pts ++ (ps.drop (i + 1)).flatMap λp=>p.2.pts):=by
  conv=>lhs; rw [e]
  rw [c6,De]
 have h2:cZ ns bs p.2.pts=none:=by
  rw [e',cF,e3]
  show (match kI ns cs k with | none=>none | some c=>cZ ns c _)=none
  rw [h]
 rw [h1,cF,e1]
 show cZ ns bs _=none
 rw [cF,h2]
theorem fw:ao ["names","params","bound","x","kind","point","fresh","name","times"] ["names","params"] (ae dC):=by trivial
theorem lE {f:Addr} {fd:Μ} {k:Nat} (F:Fun K "are_bound" "are_bound" dC f fd) (T:Txt K mg) (Dpoints_of:Def P w K mg base k "points_of" ["kind"] iy) (Dlength_at:Def P w K mg base k "length_at" ["point"] qh) (Dunbound:Def P w K mg base k "unbound" ["length","bound"] xV) (Dmay_stand:Def P w K mg base k "may_stand" ["point","fresh","names"] yi) :
  aF P w K mg base CX0 (k + 1) f fd ["names","params"] qk:=by
 have nd:=fw.nd
 refine F.ok fw (λvs H Q E h=>?_) (λcdv A outer s H vs Q E hr h=>?_)
 ·obtain ⟨v,u,ns,ps,rfl,_⟩:=h
  rfl
 obtain ⟨v,u,ns,ps,rfl,Rn,Rp,n4,p4,hk,q⟩:=h
 have hu:=og hr
 obtain ⟨b,ws,rfl,hb,Rw⟩:=Rep.tup_inv Rn
 obtain ⟨a,us,rfl,ha,Ru⟩:=Rep.tup_inv Rp
 have lu:us.length=ps.length:=by have:=Ru.length; rwa [ε] at this
 have lw:ws.length=ns.length:=by have:=Rw.length; rwa [ε] at this
 refine ⟨_,(@un _ _ _ (wbO (wbM 2 nd rfl (Ι rfl) waA rfl ∅) (wbO (wbH Ϯ rfl (wbo (wv 1 rfl)) (wbb rfl (wbd (waZ 3 nd rfl (Ι rfl) ∅) (wbd (waZ 4 nd rfl (Ι rfl) ∅) wbe rfl) rfl) rfl rfl) (wbQ (wbH Ϯ rfl (wbi (waq Dpoints_of hr rfl (wae (wv 4 rfl) waf rfl) ∅ rfl rfl)) (waZ 5 nd rfl (Ι rfl) ∅) (wbO (wbM 6 nd rfl (Ι rfl) (wac (wbS oB (waq Dlength_at hr rfl (wae (wv 5 rfl) waf rfl) ∅ rfl rfl) waN (ai _)) (waM waf) (waq Dunbound hr rfl (wae (waq Dlength_at hr rfl (wae (wv 5 rfl) waf rfl) ∅ rfl rfl) (wae (wv 2 rfl) waf rfl) rfl) ∅ rfl rfl)) rfl ∅) (wbO (wbI (wbT (wbV (waq Dmay_stand hr rfl (wae (wv 5 rfl) (wae (wv 6 rfl) (wae (wv 0 rfl) waf rfl) rfl) rfl) ∅ rfl rfl) ∅)) (wbQ (wbK wah)) wbP) (wbQ (wbH Ϯ rfl (wbi (wv 6 rfl)) (wbb rfl (wbd (waZ 7 nd rfl (Ι rfl) ∅) (wbd (waZ 8 nd rfl (Ι rfl) ∅) wbe rfl) rfl) rfl rfl) (wbQ (wbF hu (wv 2 rfl) (wv 7 rfl) wah rfl)) ∅)))) ∅)) ∅) (wbQ (wbK (wap ay (wal rX rfl T.len ∅ (wae (wv 2 rfl) waf rfl) ∅ ∅ rfl rfl) (wal ak rfl T.len ∅ (wae (wv 0 rfl) waf rfl) ∅ ∅ rfl rfl) (ai _))))))),?_⟩
 intro d hd
 have s0:af H (upd H d (.dK [])):=ac hd _
 have d0:upd H d (.dK []) d=some (.dK (bdK [])):=aa
 generalize upd H d (.dK [])=H0 at s0 d0 ⊢
 refine ⟨_,rfl,a,rfl,⟨us,SqT.of (s0 _ _ ha)⟩,qo (xs:=us) (λi σ H'=>∃ (o1 o2 o3 o4 o5 o6:Option V) (bs:List Str),σ=[some (.ref b),some (.ref a),some (.ref d),o1,o2,o3,o4,o5,o6]/\af H H'/\H' d=some (.dK (bdK bs))/\cZ ns [] ((ps.take i).flatMap λp=>p.2.pts)=some bs/\bs.length<=12 * i)
  ⟨_,_,_,_,_,_,[],rfl,s0,d0,rfl,∅⟩ (λi σ H' _ ⟨_,_,_,_,_,_,_,_,s1,_⟩=>SqT.of (s1 _ _ ha)) ?T1 ?_⟩
 case T1=>
  rintro i x σ H1 hx ⟨o1,o2,o3,o4,o5,o6,bs,rfl,s1,d1,e1,l1⟩
  obtain ⟨p,hp,Rx⟩:=bf (f:=bw) Ru hx
  obtain ⟨e,z,rfl,he,Rz⟩:=dq Rx
  have hi:i < us.length:=(ο.mp hx).1
  have hti:ps.take (i + 1)=ps.take i ++ [p]:=by rw [ϣ,hp]; rfl
  obtain ⟨k12,kA⟩:=hk p (Λ hp)
  refine ⟨e,_,rfl,SqT.of (s1 _ _ he),rfl,_,_,rfl,_,_,rfl,rfl,?_⟩
  refine ⟨_,rfl,z,p.2,rfl,Rz.mono s1,∅,λH2 g ks s2 hg0 hg Rg=>?_⟩
  have lk:ks.length=p.2.pts.length:=by have:=Rg.length; rwa [ε] at this
  have gd:g≠d:=λz=>by rw [z,d1] at hg0; cases hg0
  have lp:=Kd.pts_len p.2
  refine ⟨g,rfl,⟨ks,SqL.of hg⟩,mN (xs:=ks) (λj σ H'=>∃ (o3 o4 o5 o6:Option V) (cs:List Str),σ=[some (.ref b),some (.ref a),some (.ref d),some (.str p.1),some z,o3,o4,o5,o6]/\aE d H2 H'/\H' d=some (.dK (bdK cs))/\cZ ns bs (p.2.pts.take j)=some cs/\cs.length<=12 * i + j)
   ⟨_,_,_,_,bs,rfl,aE.refl _ _,s2 _ _ d1,rfl,∅⟩ (λj σ H' _ ⟨_,_,_,_,_,_,sx,_⟩=>SqL.of (sx _ _ gd hg)) ?T2 ?_⟩
  case T2=>
   rintro j y σ H3 hy ⟨o3,o4,o5,o6,cs,rfl,s3,d3,e3,l3⟩
   obtain ⟨kj,hj,Ry⟩:=bf Rg hy
   have hjm:=Λ hj
   have hjl:j < ks.length:=(ο.mp hy).1
   have htj:p.2.pts.take (j + 1)=p.2.pts.take j ++ [kj]:=by rw [ϣ,hj]; rfl
   have t3:cm H2 H3:=s3.tupsD (s2 _ _ d1)
   have Ry3:=Kd.tupS t3 Ry
   have s03:af H H3:=λx o e=>s3 x o (ag e hd) (s2 _ _ (s1 _ _ e))
   refine gl (λσ' H4=>∃ (l:Addr) (zs:List V),σ'=[some (.ref b),some (.ref a),some (.ref d),some (.str p.1),some z,some y,some (.ref l),o5,o6]/\af H3 H4/\H3 l=none/\H4 l=some (.lst zs)/\Reps H4 (aG (bT cs kj)) zs) ?N1 (λnx=>?_)
   case N1=>
    rintro _ H4 ⟨l,zs,rfl,s4,hl0,hl,Rz'⟩
    have lz:zs.length=(bT cs kj).length:=by have:=Rz'.length; rwa [ε] at this
    refine ⟨_,rfl,_,rfl,_,rfl,y,.ref b,l,kj,bT cs kj,zs,ns,rfl,Ry3.mono s4,hl,Rz',by rw [Rep]; exact ⟨b,ws,rfl,s4 _ _ (s03 _ _ hb),Rw.mono (s03.trans s4)⟩,∅,λH5 s5=>⟨_,rfl,?_⟩⟩
    cases hm:si kj (bT cs kj) ns with
    | false=>
     refine av ?_
     have hf:om ns ps=false:=by
      unfold om
      rw [wT hp hj e1 e3 (by unfold kI; rw [hm]; rfl)]
     exact hf▸q H5 (s03.trans (s4.trans s5))
    | true=>
     refine aq ?_
     have d5:=s5 _ _ (s4 _ _ d3)
     have ld:l≠d:=λz=>by rw [z,d3] at hl0; cases hl0
     refine ⟨_,rfl,l,rfl,⟨zs,SqL.of (s5 _ _ hl)⟩,mN (xs:=zs) (λm σ H'=>∃ (o5 o6:Option V),σ=[some (.ref b),some (.ref a),some (.ref d),some (.str p.1),some z,some y,some (.ref l),o5,o6]/\aE d H5 H'/\H' d=some (.dK (bdK (cs ++ ((bT cs kj).take m).map (·.1)))))
      ⟨_,_,rfl,aE.refl _ _,by rw [d5]; simp⟩ (λm σ H' _ ⟨_,_,_,sx,_⟩=>SqL.of (sx _ _ ld (s5 _ _ hl))) ?T3 ?_⟩
     case T3=>
      rintro m c σ H6 hc ⟨o5,o6,rfl,s6,d6⟩
      obtain ⟨r,e,hr',rfl,he'⟩:=rk Rz' hc
      have ed:e≠d:=λz=>by have:=s5 _ _ he'; rw [z,d5] at this; cases this
      refine ⟨e,_,rfl,SqT.of (s6 _ _ ed (s5 _ _ he')),rfl,_,_,rfl,_,_,rfl,rfl,?_⟩
      rcases qP hm with hn | ⟨x,hn⟩
      ·rw [hn] at hr'; simp at hr'
      rw [hn] at hr'
      obtain rfl:m=0:=by cases m with | zero=>rfl | succ m=>simp at hr'
      obtain rfl:(x,(1:Int))=r:=by simpa using hr'
      have xn:x∉cs:=sT (p:=(x,1)) (by rw [hn]; exact θ.mpr rfl)
      rw [hn] at d6 ⊢
      simp only [List.take_zero,ϰ,m5] at d6
      refine ⟨_,rfl,_,rfl,d,_,rfl,mw.k (k:=ϕ x) d6 ?_,?_⟩
      ·rw [show (bdK cs).length=cs.length from ε _,υ]; omega
      ·refine ⟨_,_,rfl,s6.trans (aE.upd _ _ _),?_⟩
       rw [aa,uJ xn]
       rfl
     rintro σ H6 ⟨o5,o6,rfl,s6,d6⟩
     rw [lz,Ϥ] at d6
     have lf:(bT cs kj).length<=1:=by rcases qP hm with hn | ⟨x,hn⟩ <;> rw [hn] <;> simp
     refine ⟨_,_,_,_,_,rfl,s3.trans ((af.b d (s4.trans s5)).trans s6),d6,?_,?_⟩
     ·rw [htj,cF,e3]
      show (match kI ns cs kj with | none=>none | some c=>cZ ns c [])=_
      unfold kI
      rw [hm]; rfl
     ·rw [ψ,ε]; omega
   refine ⟨_,rfl,y,kj,rfl,Ry3,λw1 Rw1=>⟨rfl,_,rfl,?_⟩⟩
   rcases va Rw1 with ⟨e,rfl⟩ | ⟨r,ds,e,ed,Rd⟩
   ·refine av ⟨Ω _,λl hl=>gnm (nx _ _ ⟨l,[],rfl,ac hl _,hl,aa,?_⟩)⟩
    unfold bT
    rw [e]
    simp [Reps]
   ·have hw:w1≠.non:=λz=>by subst z; simp only [Rep] at Rd; obtain ⟨_,_,z,_⟩:=Rd; cases z
    rw [show decide (w1=V.non)=false by simp [hw]]
    refine aq ⟨_,rfl,y,kj,rfl,Ry3,λw2 Rw2=>⟨_,rfl,w2,d,r.1,r.2,cs,rfl,by rw [e] at Rw2; exact Rw2,dW kA kj hjm r.1 r.2 e,d3,λH4 l zs s4 hl0 hl Rz'=>gnm (nx _ _ ⟨l,zs,rfl,s4,hl0,hl,?_⟩)⟩⟩
    unfold bT
    rw [e]
    exact Rz'
  rintro σ H3 ⟨o3,o4,o5,o6,cs,rfl,s3,d3,e3,l3⟩
  rw [lk,Ϥ] at e3
  refine ⟨_,_,_,_,_,_,cs,rfl,λx o e=>s3 x o (ag e hd) (s2 _ _ (s1 _ _ e)),d3,?_,∅⟩
  rw [hti,c6,cF,e1]
  show cZ ns bs (p.2.pts ++ [])=_
  rw [m5]; exact e3
 rintro σ H1 ⟨o1,o2,o3,o4,o5,o6,bs,rfl,s1,d1,e1,l1⟩
 rw [lu,Ϥ] at e1
 refine ⟨_,rfl,d,_,rfl,d1,_,rfl,b,ws,rfl,.inr (SqT.of (s1 _ _ hb)),rfl,?_⟩
 have qq:=q H1 s1
 have e:om ns ps=decide (V.int ((bdK bs).length:Nat)=V.int (ws.length:Nat)):=by
  unfold om
  rw [e1,show (bdK bs).length=bs.length from ε _,lw]
  show decide (bs.length=ns.length)=_
  by_cases z:bs.length=ns.length
  ·rw [decide_eq_true z,decide_eq_true (by rw [z])]
  ·rw [decide_eq_false z,decide_eq_false (λy=>z (by injection y with y; omega))]
 exact e▸qq
abbrev dh:Stmt:=top 46
abbrev eN:Stmt:=top 47
abbrev cL:Stmt:=top 48
abbrev iB:Stmt:=top 49
def cS:Dv->Bool
 | .tup ds=>dI 0 (.tup ds) && ds.all aV
 | _=>false
def cW:Dv->Bool
 | .tup [a,b]=>aV a && decide (aD b<=12)
 | _=>false
def bX:Dv->Bool
 | .tup ds=>dI 0 (.tup ds) && ds.all cW
 | _=>false
def exD (d:Dv):Bool:=decide (exN 8 d<=40)
def Br:List Dv->Bool
 | [e]=>exD e
 | _=>false
def dfD:List Dv->Bool
 | [a,b,c,e]=>fv a && (cS b && (bX c && exD e))
 | _=>false
def bt:Dv->Bool
 | .tup (.str x :: r)=>if x="ask" then Br r else decide (x="def") && dfD r
 | _=>false
theorem rG (e:Dv):bt (.tup [.str "ask",e])=exD e:=by rw [bt,if_pos rfl]; rfl
theorem hZ (a b c e:Dv):bt (.tup [.str "def",a,b,c,e])=(fv a && (cS b && (bX c && exD e))):=by
 have h:¬ ξ "def"=ξ "ask":=by decide +kernel
 rw [bt,if_neg h,decide_eq_true rfl,Ϧ]; rfl
theorem wM {d:Dv} (h:de d=false):bt d=false:=by
 match d,h with
 | .tup (.str x :: r),h=>cases h
 | .tup [],_=>rfl
 | .tup (.non :: r),_=>rfl
 | .tup (.bl _ :: r),_=>rfl
 | .tup (.int _ :: r),_=>rfl
 | .tup (.tup _ :: r),_=>rfl
 | .tup (.lst _ :: r),_=>rfl
 | .tup (.dct :: r),_=>rfl
 | .non,_=>rfl
 | .bl _,_=>rfl
 | .int _,_=>rfl
 | .str _,_=>rfl
 | .lst _,_=>rfl
 | .dct,_=>rfl
theorem sq {ds:List Dv} (h:∀ a b,ds≠[a,b]):cW (.tup ds)=false:=by
 match ds with
 | []=>rfl
 | [_]=>rfl
 | [a,b]=>exact absurd rfl (h a b)
 | _ :: _ :: _ :: _=>rfl
theorem rd {ds:List Dv} (h:dI 0 (.tup ds)=true):ds.length<=4:=by
 simp only [dI,Ε,decide_eq_true_eq] at h
 omega
theorem kg:ao ["thing"] ["thing"] (ae dh):=by trivial
theorem kz {f:Addr} {fd:Μ} {k:Nat} (F:Fun K "are_names" "are_names" dh f fd) (T:Txt K mg) (Dis_few:Def P w K mg base k "is_few" ["thing","least"] qw) (Dis_name:Def P w K mg base k "is_name" ["thing"] (spS aV)):aF P w K mg base CX0 (k + 1) f fd ["thing"] (spS cS):=by
 refine F.ok kg (λvs H Q E h=>?_) (λcdv A outer s H vs Q E hr h=>?_)
 ·obtain ⟨v,d,rfl,_⟩:=h
  rfl
 obtain ⟨v,d,rfl,R,sm,q⟩:=h
 refine ⟨_,(@un _ _ _ (wbQ (wbK (wag (waq Dis_few hr rfl (wae (wv 0 rfl) (wae waC waf rfl) rfl) ∅ rfl rfl) (waP (wal (fF rfl) rfl T.all ∅ (wae (waE ["name"] [] (wbo (wv 0 rfl)) (.of rfl) rfl (λ_ _ _=>⟨pg_name (i:=0) (bB (l:=["name"]) (∅) rfl) rfl (Ι rfl)⟩) (bu ∅) (λ_ _ _=>wbx) (λ_ _ _=>(waq Dis_name hr rfl (wae (wv 0 rfl) waf rfl) ∅ rfl rfl)) ∅) waf rfl) ∅ ∅ rfl rfl)))))),?_⟩
 refine ⟨_,rfl,v,d,0,rfl,R,λH1 s1=>⟨_,rfl,?_⟩⟩
 have qq:=q H1 s1
 cases d with
 | tup ds=>
  have qd:∀ b H',af H H'->(dI 0 (.tup ds) && ds.all aV)=b->Q (.bl b) H':=λb H' s' e=>e▸q H' s'
  cases c0:dI 0 (.tup ds) with
  | false=>exact aq (qd _ H1 s1 (by rw [c0]; rfl))
  | true=>
   obtain ⟨a,us,rfl,ha,ru⟩:=Rep.tup_inv R
   have hl:=ru.length
   have l4:=rd c0
   refine av ⟨_,rfl,a,rfl,⟨us,SqT.of (s1 _ _ ha)⟩,eW (xs:=us) (λi ys H'=>af H H'/\ys=(ds.take i).map λp=>V.bl (aV p)) ⟨s1,rfl⟩ (λi ys H' _ p=>SqT.of (p.1 _ _ ha)) ?_ ?_⟩
   ·rintro i ys H2 x hx ⟨s2,rfl⟩
    obtain ⟨d,hd,Rd⟩:=ru.get hx
    have hi:=(ο.mp hd).1
    refine bp ⟨_,rfl,x,d,rfl,Rd.mono s2,aZ sm d (Λ hd),λH3 s3=>⟨?_,s2.trans s3,?_⟩⟩
    ·rw [ε,ϊ,υ]; omega
    ·rw [ϣ,hd,ω]; rfl
   ·rintro ys H2 ⟨s2,rfl⟩ r hr'
    rw [hl,Ϥ]
    refine ⟨r,ds.map aV,rfl,SqL.of (by rw [aa,ϓ]; rfl),?_⟩
    exact qd _ _ (s2.trans (ac hr' _)) (by rw [c0,CG]; rfl)
 | _=>exact aq qq
theorem mj:ao ["thing"] ["thing"] (ae eN):=by trivial
theorem lO {f:Addr} {fd:Μ} {k:Nat} (F:Fun K "is_param" "is_param" eN f fd) (T:Txt K mg) (Dis_name:Def P w K mg base k "is_name" ["thing"] (spS aV)) (Dis_kind:Def P w K mg base k "is_kind" ["thing"] iZ):aF P w K mg base CX0 (k + 1) f fd ["thing"] (spS cW):=by
 refine F.ok mj (λvs H Q E h=>?_) (λcdv A outer s H vs Q E hr h=>?_)
 ·obtain ⟨v,d,rfl,_⟩:=h
  rfl
 obtain ⟨v,d,rfl,R,sm,q⟩:=h
 refine ⟨_,(@un _ _ _ (wbQ (wbK (wag (wal bb rfl T.isinstance ∅ (wae (wv 0 rfl) (wae (wai (.ty "tuple") rfl T.tuple ∅ rfl ∅ ∅) waf rfl) rfl) ∅ ∅ rfl rfl) (wag (wap ay (wal ak rfl T.len ∅ (wae (wv 0 rfl) waf rfl) ∅ ∅ rfl rfl) waC (ai _)) (wag (waq Dis_name hr rfl (wae (waD aj (wv 0 rfl) waC (λ_ _=>rfl)) waf rfl) ∅ rfl rfl) (waP (waq Dis_kind hr rfl (wae (waD aj (wv 0 rfl) waC (λ_ _=>rfl)) waf rfl) ∅ rfl rfl)))))))),?_⟩
 refine ⟨_,rfl,v,_,_,_,rfl,R.ty,bY K d,_,rfl,?_⟩
 have qq:=q H (af.refl H)
 cases d with
 | tup ds=>
  obtain ⟨a,vs,rfl,ha,rs⟩:=Rep.tup_inv R
  have hl:=rs.length
  refine av ⟨_,rfl,a,vs,rfl,.inr (SqT.of ha),rfl,_,rfl,?_⟩
  rcases oG ds with ⟨d0,d1,rfl⟩ | no
  ·obtain ⟨x,y,rfl,R0,R1⟩:=Reps.two rs
   obtain ⟨z0,z1⟩:=ka sm
   have qe:∀ c H',af H H'->(aV d0 && decide (aD d1<=12))=c->Q (.bl c) H':=λc H' s1 e=>e▸q H' s1
   refine av ⟨_,rfl,a,_,0,x,rfl,rfl,SqT.of ha,ad (j:=0) rfl,x,d0,rfl,R0,z0,λH1 s1=>⟨_,rfl,?_⟩⟩
   cases c0:aV d0 with
   | false=>exact aq (qe _ H1 s1 (by rw [c0]; rfl))
   | true=>exact av ⟨_,rfl,a,_,1,y,rfl,rfl,SqT.of (s1 _ _ ha),ad (j:=1) rfl,y,d1,rfl,R1.mono s1,z1,λH2 s2=>qe _ H2 (s1.trans s2) (by rw [c0]; rfl)⟩
  ·have hn:¬ (V.int ((vs.length:Nat):Int)=V.int 2):=λe=>kx no (by injection e with e; omega)
   rw [decide_eq_false hn]
   rw [sq no] at qq
   exact aq qq
 | _=>exact aq qq
theorem ji:ao ["thing"] ["thing"] (ae cL):=by trivial
theorem jt {f:Addr} {fd:Μ} {k:Nat} (F:Fun K "are_params" "are_params" cL f fd) (T:Txt K mg) (Dis_few:Def P w K mg base k "is_few" ["thing","least"] qw) (Dis_param:Def P w K mg base k "is_param" ["thing"] (spS cW)):aF P w K mg base CX0 (k + 1) f fd ["thing"] (spS bX):=by
 refine F.ok ji (λvs H Q E h=>?_) (λcdv A outer s H vs Q E hr h=>?_)
 ·obtain ⟨v,d,rfl,_⟩:=h
  rfl
 obtain ⟨v,d,rfl,R,sm,q⟩:=h
 refine ⟨_,(@un _ _ _ (wbQ (wbK (wag (waq Dis_few hr rfl (wae (wv 0 rfl) (wae waC waf rfl) rfl) ∅ rfl rfl) (waP (wal (fF rfl) rfl T.all ∅ (wae (waE ["param"] [] (wbo (wv 0 rfl)) (.of rfl) rfl (λ_ _ _=>⟨pg_name (i:=0) (bB (l:=["param"]) (∅) rfl) rfl (Ι rfl)⟩) (bu ∅) (λ_ _ _=>wbx) (λ_ _ _=>(waq Dis_param hr rfl (wae (wv 0 rfl) waf rfl) ∅ rfl rfl)) ∅) waf rfl) ∅ ∅ rfl rfl)))))),?_⟩
 refine ⟨_,rfl,v,d,0,rfl,R,λH1 s1=>⟨_,rfl,?_⟩⟩
 have qq:=q H1 s1
 cases d with
 | tup ds=>
  have qd:∀ b H',af H H'->(dI 0 (.tup ds) && ds.all cW)=b->Q (.bl b) H':=λb H' s' e=>e▸q H' s'
  cases c0:dI 0 (.tup ds) with
  | false=>exact aq (qd _ H1 s1 (by rw [c0]; rfl))
  | true=>
   obtain ⟨a,us,rfl,ha,ru⟩:=Rep.tup_inv R
   have hl:=ru.length
   have l4:=rd c0
   refine av ⟨_,rfl,a,rfl,⟨us,SqT.of (s1 _ _ ha)⟩,eW (xs:=us) (λi ys H'=>af H H'/\ys=(ds.take i).map λp=>V.bl (cW p)) ⟨s1,rfl⟩ (λi ys H' _ p=>SqT.of (p.1 _ _ ha)) ?_ ?_⟩
   ·rintro i ys H2 x hx ⟨s2,rfl⟩
    obtain ⟨d,hd,Rd⟩:=ru.get hx
    have hi:=(ο.mp hd).1
    refine bp ⟨_,rfl,x,d,rfl,Rd.mono s2,aZ sm d (Λ hd),λH3 s3=>⟨?_,s2.trans s3,?_⟩⟩
    ·rw [ε,ϊ,υ]; omega
    ·rw [ϣ,hd,ω]; rfl
   ·rintro ys H2 ⟨s2,rfl⟩ r hr'
    rw [hl,Ϥ]
    refine ⟨r,ds.map cW,rfl,SqL.of (by rw [aa,ϓ]; rfl),?_⟩
    exact qd _ _ (s2.trans (ac hr' _)) (by rw [c0,CG]; rfl)
 | _=>exact aq qq
theorem sj:ao ["thing"] ["thing"] (ae iB):=by trivial
theorem rQ {f:Addr} {fd:Μ} {k:Nat} (F:Fun K "is_row" "is_row" iB f fd) (T:Txt K mg) (Dhas_word:Def P w K mg base k "has_word" ["thing"] (spD de)) (Dis_expression:Def P w K mg base k "is_expression" ["thing"] mU) (Dis_def_name:Def P w K mg base k "is_def_name" ["thing"] (spS fv)) (Dare_names:Def P w K mg base k "are_names" ["thing"] (spS cS)) (Dare_params:Def P w K mg base k "are_params" ["thing"] (spS bX)):aF P w K mg base CX0 (k + 1) f fd ["thing"] (spS bt):=by
 refine F.ok sj (λvs H Q E h=>?_) (λcdv A outer s H vs Q E hr h=>?_)
 ·obtain ⟨v,d,rfl,_⟩:=h
  rfl
 obtain ⟨v,d,rfl,R,sm,q⟩:=h
 refine ⟨_,(@un _ _ _ (wbO (wbI (wbT (wbV (waq Dhas_word hr rfl (wae (wv 0 rfl) waf rfl) ∅ rfl rfl) ∅)) (wbQ (wbK wah)) wbP) (wbO (wbI (wbS ay (waD aj (wv 0 rfl) waC (λ_ _=>rfl)) waV (ai _)) (wbQ (wbK (wag (wap ay (wal ak rfl T.len ∅ (wae (wv 0 rfl) waf rfl) ∅ ∅ rfl rfl) waC (ai _)) (waP (waq Dis_expression hr rfl (wae (waD aj (wv 0 rfl) waC (λ_ _=>rfl)) waf rfl) ∅ rfl rfl))))) wbP) (wbO (wbI (wab (wbY (wbS fY (waD aj (wv 0 rfl) waC (λ_ _=>rfl)) waV (ai _)) (wbZ (wbS fY (wal ak rfl T.len ∅ (wae (wv 0 rfl) waf rfl) ∅ ∅ rfl rfl) waC (ai _))))) (wbQ (wbK wah)) wbP) (wbQ (wbK (wag (waq Dis_def_name hr rfl (wae (waD aj (wv 0 rfl) waC (λ_ _=>rfl)) waf rfl) ∅ rfl rfl) (wag (waq Dare_names hr rfl (wae (waD aj (wv 0 rfl) waC (λ_ _=>rfl)) waf rfl) ∅ rfl rfl) (wag (waq Dare_params hr rfl (wae (waD aj (wv 0 rfl) waC (λ_ _=>rfl)) waf rfl) ∅ rfl rfl) (waP (waq Dis_expression hr rfl (wae (waD aj (wv 0 rfl) waC (λ_ _=>rfl)) waf rfl) ∅ rfl rfl))))))))))),?_⟩
 refine ⟨_,rfl,v,d,rfl,R,λH1 s1=>⟨_,rfl,?_⟩⟩
 cases c0:de d with
 | false=>
  refine av ?_
  have:=q H1 s1
  rwa [wM c0] at this
 | true=>
  refine aq ?_
  obtain ⟨x,r,rfl⟩:=eU c0
  obtain ⟨a,vs,rfl,ha,rs⟩:=Rep.tup_inv (R.mono s1)
  simp only [Reps] at rs
  obtain ⟨y,us,rfl,R0,ru⟩:=rs
  obtain rfl:y=.str x:=R0
  have hl:=ru.length
  have sr:∀ d∈r,d.small=true:=λd hd=>aZ sm d (ρ _ hd)
  have qd:∀ b H',af H1 H'->bt (.tup (.str x :: r))=b->Q (.bl b) H':=λb H' s' e=>e▸q H' (s1.trans s')
  refine ⟨_,rfl,a,_,0,.str x,rfl,rfl,SqT.of ha,ad (j:=0) rfl,rfl,_,rfl,?_⟩
  show if decide (V.str x=V.str "ask")=true then _ else _
  rw [bg]
  by_cases h1:x="ask"
  ·subst h1
   rw [decide_eq_true rfl]
   refine av ⟨_,rfl,a,_,rfl,.inr (SqT.of ha),rfl,_,rfl,?_⟩
   show if decide (V.int _=V.int ((2:Nat):Int))=true then _ else _
   rw [dO (x:=.str "ask") hl 1 2 rfl]
   by_cases z:r.length=1
   ·rw [decide_eq_true z]
    match r,us,z,ru,sr,qd with
    | [e],us,_,ru,sr,qd=>
     simp only [Reps] at ru
     obtain ⟨u,rest,rfl,Ru,rfl⟩:=ru
     exact av ⟨_,rfl,a,_,1,u,rfl,rfl,SqT.of ha,ad (j:=1) rfl,u,e,rfl,Ru,sr e Δ,λH2 s2=>qd _ H2 s2 (rG e)⟩
   ·rw [decide_eq_false z]
    refine aq (qd _ H1 (af.refl _) ?_)
    rw [bt,if_pos rfl]
    match r,z with
    | [],_=>rfl
    | [e],z=>exact absurd rfl z
    | _ :: _ :: _,_=>rfl
  rw [decide_eq_false h1]
  refine aq ⟨_,rfl,a,_,0,.str x,rfl,rfl,SqT.of ha,ad (j:=0) rfl,rfl,_,rfl,?_⟩
  show if (!decide (V.str x=V.str "def"))=true then _ else _
  rw [bg]
  by_cases h2:x="def"
  ·subst h2
   rw [decide_eq_true rfl]
   refine aq ⟨_,rfl,a,_,rfl,.inr (SqT.of ha),rfl,_,rfl,?_⟩
   show if (!decide (V.int _=V.int ((5:Nat):Int)))=true then _ else _
   rw [dO (x:=.str "def") hl 4 5 rfl]
   by_cases z:r.length=4
   ·rw [decide_eq_true z]
    match r,us,z,ru,sr,qd with
    | [d1,d2,d3,d4],us,_,ru,sr,qd=>
     simp only [Reps] at ru
     obtain ⟨u1,_,rfl,R1,u2,_,rfl,R2,u3,_,rfl,R3,u4,_,rfl,R4,rfl⟩:=ru
     have qf:∀ b H',af H1 H'->(fv d1 && (cS d2 && (bX d3 && exD d4)))=b->Q (.bl b) H':=λb H' s' e=>qd b H' s' ((hZ _ _ _ _).trans e)
     refine aq ⟨_,rfl,a,_,1,u1,rfl,rfl,SqT.of ha,ad (j:=1) rfl,u1,d1,rfl,R1,sr d1 ∅,λH2 s2=>⟨_,rfl,?_⟩⟩
     cases c1:fv d1 with
     | false=>exact aq (qf _ H2 s2 (by rw [c1]; rfl))
     | true=>
      refine av ⟨_,rfl,a,_,2,u2,rfl,rfl,SqT.of (s2 _ _ ha),ad (j:=2) rfl,u2,d2,rfl,R2.mono s2,sr d2 ∅,λH3 s3=>⟨_,rfl,?_⟩⟩
      cases c2:cS d2 with
      | false=>exact aq (qf _ H3 (s2.trans s3) (by rw [c1,c2]; rfl))
      | true=>
       refine av ⟨_,rfl,a,_,3,u3,rfl,rfl,SqT.of (s3 _ _ (s2 _ _ ha)),ad (j:=3) rfl,u3,d3,rfl,R3.mono (s2.trans s3),sr d3 ∅,λH4 s4=>⟨_,rfl,?_⟩⟩
       cases c3:bX d3 with
       | false=>exact aq (qf _ H4 (s2.trans (s3.trans s4)) (by rw [c1,c2,c3]; rfl))
       | true=>exact av ⟨_,rfl,a,_,4,u4,rfl,rfl,SqT.of (s4 _ _ (s3 _ _ (s2 _ _ ha))),ad (j:=4) rfl,u4,d4,rfl,R4.mono (s2.trans (s3.trans s4)),sr d4 ∅,λH5 s5=>qf _ H5 (s2.trans (s3.trans (s4.trans s5))) (by rw [c1,c2,c3]; rfl)⟩
   ·rw [decide_eq_false z]
    refine av (qd _ H1 (af.refl _) ?_)
    rw [bt,if_neg h1,decide_eq_true rfl,Ϧ]
    match r,z with
    | [],_=>rfl
    | [_],_=>rfl
    | [_,_],_=>rfl
    | [_,_,_],_=>rfl
    | [_,_,_,_],z=>exact absurd rfl z
    | _ :: _ :: _ :: _ :: _ :: _,_=>rfl
  rw [decide_eq_false h2]
  refine av (av (qd _ H1 (af.refl _) ?_))
  rw [bt,if_neg h1,decide_eq_false h2]; rfl
abbrev eI:Stmt:=top 50
abbrev dw:Stmt:=top 54
abbrev di:Stmt:=top 55
abbrev cJ:Stmt:=top 56
abbrev gE:Stmt:=top 57
theorem qO:∀ {ys:List Str},¬ ys.Nodup->∃ zs:List Str,zs.length < ys.length/\∀ x∈ys,x∈zs
 | [],h=>absurd List.nodup_nil h
 | y :: ys,h=>by
  by_cases hy:y∈ys
  ·exact ⟨ys,y8 _,λx hx=>by rcases ν.mp hx with rfl | hx; exact hy; exact hx⟩
  ·obtain ⟨zs,h1,h2⟩:=qO (ys:=ys) λz=>h (j4.mpr ⟨hy,z⟩)
   exact ⟨y :: zs,Nat.succ_lt_succ h1,λx hx=>by
    rcases ν.mp hx with rfl | hx
    ·exact Δ
    ·exact ρ _ (h2 x hx)⟩
theorem mK {zs ys:List Str} (nd:zs.Nodup) (h:∀ x,x∈zs↔x∈ys):decide ((zs.length:Int) < (ys.length:Int))=!decide ys.Nodup:=by
 by_cases n:ys.Nodup
 ·have:=DN ys zs n λx hx=>(h x).mpr hx
  rw [decide_eq_true n,decide_eq_false ∅]; rfl
 ·obtain ⟨xs,h1,h2⟩:=qO n
  have:=DN zs xs nd λx hx=>h2 x ((h x).mp hx)
  rw [decide_eq_false n,decide_eq_true ∅]; rfl
def qj (K:ι):Sp:=λvs H Q _=>∃ (l:Addr) (ys:List Str),vs=[.ref l]/\(SqL K H l (ys.map V.str)\/SqT K H l (ys.map V.str))/\ys.length<=1000/\∀ H',af H H'->Q (.bl (!decide ys.Nodup)) H'
inductive Rw where
 | ask (e:Dv)
 | df (f:Str) (ns:List Str) (ps:List Prm) (e:Dv)
def Rw.dv:Rw->Dv
 | .ask e=>.tup [.str "ask",e]
 | .df f ns ps e=>.tup [.str "def",.str f,.tup (ns.map Dv.str),.tup (ps.map bw),e]
def Rw.f?:Rw->List Str
 | .ask _=>[]
 | .df f _ _ _=>[f]
def Rw.Ok:Rw->Prop
 | .ask _=>True
 | .df _ ns ps _=>ns.Nodup/\(ps.map (·.1)).Nodup/\ns.length<=4/\ps.length<=4/\∀ p∈ps,p.2.size<=12/\p.2.All L40
structure yL (rs:List Rw):Prop where
 len:rs.length<=12
 row:∀ r∈rs,bt r.dv=true/\r.dv.small=true
 ok:∀ r∈rs,r.Ok
 nd:(rs.flatMap Rw.f?).Nodup
theorem fq:¬ (V.str (ξ "ask")=V.str (ξ "def")):=wne ∅
theorem Rw.inv {H:Hp} {r:Rw} {v:V} (R:Rep H r.dv v):∃ a,v=.ref a/\match r with
  | .ask _=>∃ u,H a=some (.tup [.str "ask",u])
  | .df f ns ps _=>∃ b c u,H a=some (.tup [.str "def",.str f,.ref b,.ref c,u])/\Rep H (.tup (ns.map Dv.str)) (.ref b)/\Rep H (.tup (ps.map bw)) (.ref c):=by
 cases r with
 | ask e=>
  obtain ⟨a,vs,rfl,ha,rs⟩:=Rep.tup_inv (show Rep H (.tup [.str "ask",e]) v from R)
  obtain ⟨x,y,rfl,r1,r2⟩:=Reps.two rs
  simp only [Rep] at r1
  subst r1
  exact ⟨a,rfl,y,ha⟩
 | df f ns ps e=>
  obtain ⟨a,vs,rfl,ha,rs⟩:=Rep.tup_inv (show Rep H (.tup [.str "def",.str f,.tup (ns.map Dv.str),.tup (ps.map bw),e]) v from R)
  simp only [Reps] at rs
  obtain ⟨u1,_,rfl,R1,u2,_,rfl,R2,u3,_,rfl,R3,u4,_,rfl,R4,u5,_,rfl,R5,rfl⟩:=rs
  simp only [Rep] at R1 R2
  subst R1; subst R2
  obtain ⟨b,_,rfl,_⟩:=Rep.tup_inv R3
  obtain ⟨c,_,rfl,_⟩:=Rep.tup_inv R4
  exact ⟨a,rfl,b,c,u5,ha,R3,R4⟩
theorem bD {H:Hp}:∀ {ns:List Str} {ws:List V},Reps H (ns.map Dv.str) ws->ws=ns.map V.str
 | [],ws,h=>by simpa only [ϰ,Reps] using h
 | n :: ns,ws,h=>by
  simp only [Υ,Reps] at h
  obtain ⟨v,r,rfl,h1,h2⟩:=h
  simp only [Rep] at h1
  rw [h1,bD h2]; rfl
theorem af.seqT {K:ι} {H H':Hp} {a:Addr} {xs:List V} (e:af H H') (h:SqT K H a xs):SqT K H' a xs:=by
 rcases h with h | h
 ·exact .inl (h.imp (λz=>e _ _ z) λ⟨o,z⟩=>⟨o,e _ _ z⟩)
 ·exact .inr h
theorem lP:ao ["things"] ["things"] (ae eI):=by trivial
theorem nM {f:Addr} {fd:Μ} (F:Fun K "is_twice" "is_twice" eI f fd) (T:Txt K mg):aF P w K mg base CX0 1 f fd ["things"] (qj K):=by
 refine F.ok lP (λvs H Q E h=>?_) (λcdv A outer s H vs Q E hr h=>?_)
 ·obtain ⟨l,ys,rfl,_⟩:=h
  rfl
 obtain ⟨l,ys,rfl,hs,hl,q⟩:=h
 refine ⟨_,(@un _ _ _ (wbQ (wbK (wap nX (wal sJ rfl T.len ∅ (wae (wam (gq rfl) rfl T.set ∅ (wae (wv 0 rfl) waf rfl) ∅ ∅ rfl rfl) waf rfl) ∅ ∅ rfl rfl) (wal ak rfl T.len ∅ (wae (wv 0 rfl) waf rfl) ∅ ∅ rfl rfl) (ai _))))),?_⟩
 refine ⟨_,rfl,l,ys,rfl,hs,hl,λa zs ha nd mz lz=>⟨a,zs,rfl,aa,?_⟩⟩
 have s1:=ac ha (SetO P w a zs)
 have hs1:SqL K (upd H a (SetO P w a zs)) l (ys.map V.str)\/SqT K (upd H a (SetO P w a zs)) l (ys.map V.str):=hs.imp (λh=>s1.seq h) (λh=>af.seqT s1 h)
 refine ⟨_,rfl,l,_,rfl,hs1,_,_,rfl,rfl,?_⟩
 show Q (.bl (decide ((zs.length:Int) < ((ys.map V.str).length:Nat)))) _
 rw [ε,mK nd mz]
 exact q _ s1
abbrev cU:Stmt:=top 62
def Xp (h c:Nat) (d:Dv):Prop:=d.small=true/\∀ m,h < m->exN m d<=c
theorem vB {c:Nat}:∀ {l:List Nat},(∀ x∈l,x<=c)->l.sum<=l.length * c
 | [],_=>by simp
 | x :: l,h=>by
  have h1:=h x Δ
  have h2:=vB (l:=l) λy hy=>h y (ρ _ hy)
  rw [DC,ό,Nat.succ_mul]; omega
theorem uy:∀ p∈WT,(Dv.str p.1).small=true:=by decide +kernel
theorem gL (x z:String) (ss:List So) (hp:((ξ x,ξ z,ss):Wd)∈WT) {ds:List Dv} (hok:okF ss ds=true) (hf:(decide (ξ x≠"fold") || jT ds)=true) (hsm:∀ d∈ds,d.small=true) {h c k:Nat} (hall:∀ e∈aW ss ds,Xp h c e) (hk:(aW ss ds).length<=k):Xp (h + 1) (1 + k * c) (.tup (.str x :: ds)):=by
 have hl:=kE hok
 have hn:dj (.tup (.str x :: ds))=true:=by rw [show (Dv.str (ξ x))=.str ((ξ x,ξ z,ss):Wd).1 from rfl,fD hp,hok,hf]; rfl
 have l9:ss.length<=9:=(by decide +kernel:∀ p∈WT,p.2.2.length<=9) _ hp
 refine ⟨aP (λd hd=>?_) (by rw [ό]; omega),λm hm=>?_⟩
 ·rcases ν.mp hd with rfl | hd
  ·exact uy _ hp
  ·exact hsm d hd
 ·obtain ⟨m,rfl⟩:∃ j,m=j + 1:=⟨m - 1,∅⟩
  have e1:exN (m + 1) (.tup (.str x :: ds))=1 + ((bH (.tup (.str x :: ds))).map (exN m)).sum:=by show (if dj _=true then _ else _)=_; rw [hn]; rfl
  rw [e1,show bH (.tup (.str x :: ds))=aW ss ds from XB.parts_of hp ds]
  have h1:=vB (c:=c) (l:=(aW ss ds).map (exN m)) λy hy=>by
   obtain ⟨e,he,rfl⟩:=Κ.mp hy
   exact (hall e he).2 m ∅
  rw [ε] at h1
  have h2:=Nat.mul_le_mul_right c hk
  omega
theorem zI {h c:Nat} {d:Dv} (x:Xp h c d) (a:h<=7) (b:c<=40):exD d=true:=decide_eq_true (ϟ (x.2 8 ∅) b)
theorem db {x:Str} (h:nmB x=true):(Dv.str x).small=true:=by
 simp only [Dv.small]; exact decide_eq_true (by have:=(kZ h).2; omega)
theorem AY {x y:Str} (h:zB x) (hy:(y.cps.toList.drop 1).all (λc=>decide (c≠122))=true):y≠x:=λe=>by
 subst e
 obtain ⟨j,hj,hz⟩:=h
 have hm:(122:Nat)∈y.cps.toList.drop 1:=by
  refine Λ (i:=j - 1) ?_
  rw [List.getElem?_drop,show 1 + (j - 1)=j by omega]
  exact hz
 have:=ϵ.mp hy 122 hm
 simp at this
theorem noz:∀ p∈WT,(p.1.cps.toList.drop 1).all (λc=>decide (c≠122))=true:=by decide +kernel
theorem Bh:∀ x∈vM,(x.cps.toList.drop 1).all (λc=>decide (c≠122))=true:=by decide +kernel
theorem AR {x:Str} (hn:nmB x=true) (hz:zB x):fv (.str x)=true:=by
 have h1:cY x=false:=by
  unfold cY
  rw [C3]
  intro p hp
  simpa using AY hz (noz p hp)
 have h2:gQ x=false:=by
  unfold gQ inV
  rw [C3]
  intro y hy
  obtain ⟨z,hz',rfl⟩:=Κ.mp hy
  have:=AY hz (Bh z hz')
  simpa [eqV] using this
 show (nmB x && (!cY x && !gQ x))=true
 rw [hn,h1,h2]
 rfl
section
variable {σ:St} {H:Hp} {ds:List Dv} {ta ti:TE} {d:Dv}
theorem kQ {i:Int} (h:∀ H1 (Q:VK),Q (.int i) H1->ta σ H1 Q):gZ ta σ H (.int i):=λH1 _ Q q=>h H1 Q (q H1 _ (af.refl _) (by simp [Rep]))
theorem ia {K:ι} {i:Nat} {r:Addr} {xs:List Str} {y:Str} {j:Int} (hv:σ[i]?=some (some (.ref r))) (hr:H r=some (.lst (xs.map V.str))) (hi:∀ H1 (Q:VK),Q (.int j) H1->ti σ H1 Q) (h0:0<=j) (hy:xs[j.toNat]?=some y):gZ (tOp (wD K) (iP i) ti) σ H (.str y):=λH1 s Q q=>
 ⟨_,hv,hi H1 _ ⟨r,_,j,.str y,rfl,rfl,SqL.of (s _ _ hr),by
  have:=ad (show (xs.map V.str)[j.toNat]?=some (V.str y) by rw [Ψ,hy]; rfl)
  rwa [show ((j.toNat:Nat):Int)=j by omega] at this,q H1 _ (af.refl _) (by simp only [Rep])⟩⟩
theorem sQ {K:ι} {ys:List Str} {y:Str} {j:Int} (h:gZ ta σ H (.lst (ys.map Dv.str))) (hi:∀ H1 (Q:VK),Q (.int j) H1->ti σ H1 Q) (h0:0<=j) (hy:ys[j.toNat]?=some y):gZ (tOp (wD K) ta ti) σ H (.str y):=λH1 s Q q=>
 h H1 s _ λH2 v s2 R=>hi H2 _ (by
  rw [Rep] at R
  obtain ⟨a,us,rfl,ha,ru⟩:=R
  have e:us=ys.map V.str:=bD ru
  subst e
  exact ⟨a,_,j,.str y,rfl,rfl,SqL.of ha,by
   have:=ad (show (ys.map V.str)[j.toNat]?=some (V.str y) by rw [Ψ,hy]; rfl)
   rwa [show ((j.toNat:Nat):Int)=j by omega] at this,q H2 _ s2 (by simp only [Rep])⟩)
theorem uE {α:Type} (k:Nat) (v:α):(Α k [v]).flatten=Α k v:=by
 induction k with
 | zero=>rfl
 | succ k ih=>rw [k9,Ck,ih]; rfl
theorem nZ {v:V} (R:Rep H d v):∀ k:Nat,Reps H (Α k d) (Α k v)
 | 0=>by simp [Reps]
 | k + 1=>by rw [k9,k9,Reps]; exact ⟨v,_,rfl,R,nZ R k⟩
theorem tO {K:ι} {j:Int} (h:gZ ta σ H (.tup [d])) (hi:∀ H1 (Q:VK),Q (.int j) H1->ti σ H1 Q) (h0:0<=j) (h1:j<=1000):gZ (tOp (xW K) ta ti) σ H (.tup (Α j.toNat d)):=λH1 s Q q=>
 h H1 s _ λH2 v s2 R=>hi H2 _ (by
  rw [Rep] at R
  obtain ⟨a,us,rfl,ha,ru⟩:=R
  simp only [Reps] at ru
  obtain ⟨u,_,rfl,Ru,rfl⟩:=ru
  refine ⟨a,j,[u],rfl,rfl,SqT.of ha,∅,h0,h1,by simp; omega,λe=>?_,λe p hp=>?_⟩
  ·subst e
   exact q H2 _ s2 (by rw [Rep]; exact ⟨a,[u],rfl,ha,by simp only [Int.toNat_one,List.replicate_one,Reps]; exact ⟨u,_,rfl,Ru,rfl⟩⟩)
  ·have s3:=ac hp (.tup (Α j.toNat [u]).flatten)
   exact q _ _ (s2.trans s3) (by rw [Rep]; exact ⟨p,_,rfl,aa,(uE j.toNat u).symm▸nZ (Ru.mono s3) _⟩))
end
def pY:Sp:=λvs H Q _=>∃ (a r:Addr) (n:Nat) (xs:List Str),vs=[.ref a,.ref r]/\Dr H a n/\H r=some (.lst (xs.map V.str))/\r≠a/\Nms xs/\∀ (H':Hp) (v:V) (d:Dv),aE a H H'->Dr H' a (n - 1 - 1)->Rep H' d v->exD d=true->d.small=true->L2.Pl 8 d->Q v H'
theorem jo {n:Nat} {ds:List Dv} (h:∀ d∈ds,L2.Pl n d):L2.Pl (n + 1) (.tup ds):=.tup h
theorem dZ:ao ["_law_draws_here","_law_names_here","_law_cell","_law_more","_law_x","_law_way"] ["_law_draws_here","_law_names_here"] (ae cU):=by trivial
theorem jn {f:Addr} {fd:Μ} {k:Nat} (F:Fun K "_law_expression" "_law_expression" cU f fd) (T:Txt K mg) (D_law_next:Def P w K mg base k "_law_next" ["_law_draws_here"] eQ):aF P w K mg base CX0 (k + 1) f fd ["_law_draws_here","_law_names_here"] pY:=by
 have nd:=dZ.nd
 refine F.ok dZ (λvs H Q E h=>?_) (λcdv A outer s H vs Q E hr h=>?_)
 ·obtain ⟨a,r,n,xs,rfl,_⟩:=h
  rfl
 obtain ⟨a,r,n,xs,rfl,hD,hR,ra,nms,q⟩:=h
 have p12:wp 10 12:=⟨∅,∅,∅⟩
 have lx:=nms.len
 have pick:∀ j:Int,0<=j->j < 5->∃ y,xs[j.toNat]?=some y/\y∈xs:=λj h0 h1=>by
  have hlt:j.toNat < xs.length:=by omega
  exact ⟨xs[j.toNat],Ζ hlt,j9 hlt⟩
 refine ⟨_,(@un _ _ _ (wbO (wbM 2 nd rfl (Ι rfl) (waq D_law_next hr rfl (wae (wv 0 rfl) waf rfl) ∅ rfl rfl) rfl ∅) (wbO (wbM 3 nd rfl (Ι rfl) (waq D_law_next hr rfl (wae (wv 0 rfl) waf rfl) ∅ rfl rfl) rfl ∅) (wbO (wbM 4 nd rfl (Ι rfl) (waX (wae waV (wae (waD aJ (wv 1 rfl) (waQ aA (waQ ba (wv 2 rfl) waC) waC) (λ_ _=>rfl)) waf rfl) rfl)) rfl ∅) (wbO (wbM 5 nd rfl (Ι rfl) (waQ aA (wv 2 rfl) waC) rfl ∅) (wbO (wbI (wbS ay (wv 5 rfl) waC (ai _)) (wbQ (wbK (wv 4 rfl))) wbP) (wbO (wbI (wbS ay (wv 5 rfl) waC (ai _)) (wbQ (wbK (waX (wae waV (wae (waQ aA (wv 3 rfl) (waQ ll waC waC)) waf rfl) rfl)))) wbP) (wbO (wbI (wbS ay (wv 5 rfl) waC (ai _)) (wbQ (wbK (waX (wae waV (wae (waX (wae (waQ aA (wv 3 rfl) waC) (wae (waX (wae (waX (wae (waD aJ (wv 1 rfl) (waQ aA (waQ ba (wv 3 rfl) waC) waC) (λ_ _=>rfl)) (wae (waQ bC waC (waQ aA (waQ ba (wv 3 rfl) waC) waC)) waf rfl) rfl)) waf rfl)) waf rfl) rfl)) waf rfl) rfl)))) wbP) (wbO (wbI (wbS ay (wv 5 rfl) waC (ai _)) (wbQ (wbK (waX (wae waV (wae (waD aJ (waM (wae waV (wae waV waf rfl) rfl)) (waQ aA (wv 3 rfl) waC) (λ_ _=>rfl)) (wae (wv 4 rfl) (wae (wv 4 rfl) waf rfl) rfl) rfl) rfl)))) wbP) (wbO (wbI (wbS ay (wv 5 rfl) waC (ai _)) (wbQ (wbK (waX (wae waV (wae (waD aJ (wv 1 rfl) (waQ aA (wv 3 rfl) waC) (λ_ _=>rfl)) (wae (waQ wF (waX (wae (wv 4 rfl) waf rfl)) (waQ aA (waQ ba (wv 3 rfl) waC) waC)) waf rfl) rfl) rfl)))) wbP) (wbO (wbI (wbS ay (wv 5 rfl) waC (ai _)) (wbQ (wbK (waX (wae waV (wae (waD aJ (wv 1 rfl) (waQ aA (wv 3 rfl) waC) (λ_ _=>rfl)) (wae (waX (wae (waQ aA (waQ ba (wv 3 rfl) waC) waC) (wae (waX waf) waf rfl) rfl)) (wae (waX (wae waV (wae (wv 4 rfl) (wae (wv 4 rfl) waf rfl) rfl) rfl)) waf rfl) rfl) rfl) rfl)))) wbP) (wbQ (wbK (waX (wae waV (wae (waX (wae waV waf rfl)) waf rfl) rfl))))))))))))))),?_⟩
 refine ⟨_,rfl,a,n,rfl,hD,λH1 c s1 D1 c0 c1=>?_⟩
 refine ⟨_,rfl,a,n - 1,rfl,D1,λH2 m s2 D2 m0 m1=>?_⟩
 have r2:=(s1.trans s2) _ _ ra hR
 obtain ⟨b0,b1⟩:=mod_lt (a:=c / 7) 5 ∅
 obtain ⟨y,hy,my⟩:=pick _ b0 b1
 have ny:=nms.nm y my
 have q2:∀ (H':Hp) (v:V) (d:Dv),af H2 H'->Rep H' d v->exD d=true->d.small=true->L2.Pl 8 d->Q v H':=λH' v d s R e sm pl=>q H' v d ((s1.trans s2).trans (af.b a s)) (D2.m s) R e sm pl
 refine uS (d:=.tup [.str "name",.str y]) (aR (am bh (am (ia (j:=c / 7 % 5) rfl r2 (λH1 Q q=>⟨_,rfl,_,_,rfl,rfl,⟨∅,∅⟩,_,_,rfl,rfl,(by show (0:Int) < 5; decide),q⟩) b0 hy) aM)) (ϑ rfl)) λH3 vx s3 Rx=>?_
 have xx:Xp 1 1 (.tup [.str "name",.str y]):=gL "name" "x" [.x] ∅ (h:=0) (c:=0) (k:=0) (by show (nmB y && true)=true; rw [ny]; rfl) rfl (λd hd=>by rw [θ.mp hd]; exact db ny) (λe he=>by simp [aW,XB.ptD] at he) (by simp [aW,XB.ptD])
 have px:L2.Pl 4 (.tup [.str "name",.str y]):=jo λd hd=>by
  rcases ν.mp hd with rfl | hd
  ·exact .str
  ·rw [θ.mp hd]; exact .str
 have sx:=xx.1
 have q3:∀ (H':Hp) (v:V) (d:Dv) {h c:Nat},af H3 H'->Rep H' d v->Xp h c d->h<=7->c<=40->L2.Pl 8 d->Q v H':=λH' v d h c s R x a b pl=>q2 H' v d (s3.trans s) R (zI x a b) x.1 pl
 have r3:=s3 _ _ r2
 refine ⟨_,rfl,_,_,rfl,rfl,(by show (0:Int) < 7; decide),?_⟩
 refine ⟨_,rfl,rfl,_,rfl,au (λ_=>?_) (λ_=>?_)⟩
 ·exact ⟨_,rfl,q3 H3 vx _ (af.refl _) Rx xx ∅ ∅ (px.up ∅)⟩
 refine ⟨_,rfl,rfl,_,rfl,au (λ_=>?_) (λ_=>?_)⟩
 ·obtain ⟨d0,d1⟩:=mod_lt (a:=m) (10 ^ (12:Int).toNat) ∅
  refine aR (ds:=[.str "number",.int (m % 10 ^ (12:Int).toNat)]) (am bh (am (kQ λH1 Q q=>⟨_,rfl,_,_,rfl,rfl,p12,_,_,rfl,rfl,(by show (0:Int) < 10 ^ (12:Int).toNat; decide),q⟩) aM)) (ϑ rfl) H3 (af.refl _) _ λH4 v s4 R=>?_
  refine q3 H4 v _ s4 R (gL "number" "n" [.n] ∅ (h:=0) (c:=0) (k:=0) ?_ rfl (λd hd=>by rw [θ.mp hd]; rfl) (λe he=>by simp [aW,XB.ptD] at he) (by simp [aW,XB.ptD])) ∅ ∅ ?_
  ·show ((decide (0<=m % 10 ^ (12:Int).toNat) && decide (m % 10 ^ (12:Int).toNat < 1000000000000)) && true)=true
   rw [decide_eq_true d0,decide_eq_true (show m % 10 ^ (12:Int).toNat < 1000000000000 from d1)]; rfl
  ·exact (jo (n:=0) λd hd=>by
    rcases ν.mp hd with rfl | hd
    ·exact .str
    ·rw [θ.mp hd]; exact .int).up ∅
 refine ⟨_,rfl,rfl,_,rfl,au (λ_=>?_) (λ_=>?_)⟩
 ·obtain ⟨e0,e1⟩:=mod_lt (a:=m) 100 ∅
  obtain ⟨f0,f1⟩:=mod_lt (a:=m / 100) 5 ∅
  obtain ⟨g0,g1⟩:=mod_lt (a:=m / 500) 99 ∅
  obtain ⟨z,hz,mz⟩:=pick _ f0 f1
  have nz:=nms.nm z mz
  have sl:SL (m % 100) [(z,1 + m / 500 % 99)]:=pO e0 ∅ ⟨CY _ _,λp hp=>by rw [θ.mp hp]; show 1<=1 + m / 500 % 99; omega⟩ (by show 1<=900; decide) λp hp=>by rw [θ.mp hp]; exact ⟨nz,by show 1 + m / 500 % 99<=99; omega⟩
  refine aR (ds:=[.str "length",bn (m % 100) [(z,1 + m / 500 % 99)]]) (am bh (am (aR (am (kQ λH1 Q q=>⟨_,rfl,_,_,rfl,rfl,(by show (0:Int) < 100; decide),q⟩) (am (aR (am (aR (am (ia (j:=m / 100 % 5) rfl r3 (λH1 Q q=>⟨_,rfl,_,_,rfl,rfl,⟨∅,∅⟩,_,_,rfl,rfl,(by show (0:Int) < 5; decide),q⟩) f0 hz) (am (kQ λH1 Q q=>⟨_,rfl,_,_,rfl,rfl,⟨∅,∅⟩,_,_,rfl,rfl,(by show (0:Int) < 99; decide),_,_,rfl,rfl,q⟩) aM)) (ϑ rfl)) aM) (ϑ rfl)) aM)) (ϑ rfl)) aM)) (ϑ rfl) H3 (af.refl _) _ λH4 v s4 R=>?_
  refine q3 H4 v _ s4 R (gL "length" "l" [.l] ∅ (h:=0) (c:=0) (k:=0) (by show (slD (bn _ _) && true)=true; rw [sl.1]; rfl) rfl (λd hd=>by rw [θ.mp hd]; exact sl.2) (λe he=>by simp [aW,XB.ptD] at he) (by simp [aW,XB.ptD])) ∅ ∅ ?_
  exact (jo (n:=3) λd hd=>by
    rcases ν.mp hd with rfl | hd
    ·exact .str
    ·rw [θ.mp hd]; exact gG _ _).up ∅
 refine ⟨_,rfl,rfl,_,rfl,au (λ_=>?_) (λ_=>?_)⟩
 ·obtain ⟨f0,f1⟩:=mod_lt (a:=m) 2 ∅
  obtain ⟨z,hz,mz⟩:∃ z:Str,[ξ "plus",ξ "less"][(m % 2).toNat]?=some z/\gQ z=true/\(Dv.str z).small=true:=by
   rcases (by omega:m % 2=0\/m % 2=1) with e | e
   ·rw [e]; exact ⟨ξ "plus",rfl,∅,∅⟩
   ·rw [e]; exact ⟨ξ "less",rfl,∅,∅⟩
  refine aR (ds:=[.str "reckon",.str z,.tup [.str "name",.str y],.tup [.str "name",.str y]]) (am bh (am (sQ (ys:=[ξ "plus",ξ "less"]) (uP (am bh (am bh aM)) (ϑ rfl)) (λH1 Q q=>⟨_,rfl,_,_,rfl,rfl,(by show (0:Int) < 2; decide),q⟩) f0 hz) (am (dB rfl Rx) (am (dB rfl Rx) aM)))) (ϑ rfl) H3 (af.refl _) _ λH4 v s4 R=>?_
  refine q3 H4 v _ s4 R (gL "reckon" "wee" [.w,.e,.e] ∅ (h:=1) (c:=1) (k:=2) (by show (gQ z && (true && (true && true)))=true; rw [mz.1]; rfl) rfl (λd hd=>?_) (λe he=>?_) (by simp [aW,XB.ptD])) ∅ ∅ ?_
  ·rcases ν.mp hd with rfl | hd
   ·exact mz.2
   rcases ν.mp hd with rfl | hd
   ·exact sx
   ·rw [θ.mp hd]; exact sx
  ·have:e=.tup [.str "name",.str y]:=by simpa [aW,XB.ptD] using he
   rw [this]; exact xx
  ·exact (jo (n:=4) λd hd=>by
    rcases ν.mp hd with rfl | hd
    ·exact .str
    rcases ν.mp hd with rfl | hd
    ·exact .str
    rcases ν.mp hd with rfl | hd
    ·exact px
    ·rw [θ.mp hd]; exact px).up ∅
 refine ⟨_,rfl,rfl,_,rfl,au (λ_=>?_) (λ_=>?_)⟩
 ·obtain ⟨f0,f1⟩:=mod_lt (a:=m) 5 ∅
  obtain ⟨g0,g1⟩:=mod_lt (a:=m / 5) 5 ∅
  obtain ⟨z,hz,mz⟩:=pick _ f0 f1
  have nz:=nms.nm z mz
  have lr:(Α (m / 5 % 5).toNat (Dv.tup [.str "name",.str y])).length<=4:=by rw [u8]; omega
  refine aR (ds:=[.str "call",.str z,.tup (Α (m / 5 % 5).toNat (.tup [.str "name",.str y]))]) (am bh (am (ia (j:=m % 5) rfl r3 (λH1 Q q=>⟨_,rfl,_,_,rfl,rfl,(by show (0:Int) < 5; decide),q⟩) f0 hz) (am (tO (j:=m / 5 % 5) (aR (am (dB rfl Rx) aM) (ϑ rfl)) (λH1 Q q=>⟨_,rfl,_,_,rfl,rfl,⟨∅,∅⟩,_,_,rfl,rfl,(by show (0:Int) < 5; decide),q⟩) g0 ∅) aM))) (ϑ rfl) H3 (af.refl _) _ λH4 v s4 R=>?_
  refine q3 H4 v _ s4 R (gL "call" "fa" [.f,.a] ∅ (h:=1) (c:=1) (k:=4) ?_ rfl (λd hd=>?_) (λe he=>?_) ?_) ∅ ∅ ?_
  ·show (fv (.str z) && ((decide ((0:Int)<=((Α (m / 5 % 5).toNat (Dv.tup [.str "name",.str y])).length:Int)) && decide (((Α (m / 5 % 5).toNat (Dv.tup [.str "name",.str y])).length:Int)<=4)) && true))=true
   rw [AR nz (nms.z z mz),decide_eq_true ∅,decide_eq_true ∅]; rfl
  ·rcases ν.mp hd with rfl | hd
   ·exact db nz
   ·rw [θ.mp hd]; exact aP (λd hd=>by rw [CO hd]; exact sx) ∅
  ·have:e∈Α (m / 5 % 5).toNat (Dv.tup [.str "name",.str y]):=by simpa [aW,XB.ptD,qi] using he
   rw [CO this]; exact xx
  ·show (XB.ptD .f (.str z) ++ (Α (m / 5 % 5).toNat (Dv.tup [.str "name",.str y]) ++ [])).length<=4
   rw [ψ,ψ]; simp only [XB.ptD,u_]; omega
  ·exact (jo (n:=5) λd hd=>by
    rcases ν.mp hd with rfl | hd
    ·exact .str
    rcases ν.mp hd with rfl | hd
    ·exact .str
    ·rw [θ.mp hd]; exact jo λd hd=>by rw [CO hd]; exact px).up ∅
 refine ⟨_,rfl,rfl,_,rfl,au (λ_=>?_) (λ_=>?_)⟩
 ·obtain ⟨f0,f1⟩:=mod_lt (a:=m) 5 ∅
  obtain ⟨g0,g1⟩:=mod_lt (a:=m / 5) 100 ∅
  obtain ⟨z,hz,mz⟩:=pick _ f0 f1
  have nz:=nms.nm z mz
  have sl:SL (m / 5 % 100) []:=pO g0 ∅ ⟨.nil,∅⟩ (by show 0<=900; decide) ∅
  have xp:Xp 2 3 (.tup [.str "pair",.tup [.str "name",.str y],.tup [.str "name",.str y]]):=gL "pair" "ee" [.e,.e] ∅ (h:=1) (c:=1) (k:=2) rfl rfl (λd hd=>by
    rcases ν.mp hd with rfl | hd
    ·exact sx
    ·rw [θ.mp hd]; exact sx) (λe he=>by
    have:e=.tup [.str "name",.str y]:=by simpa [aW,XB.ptD] using he
    rw [this]; exact xx) (by simp [aW,XB.ptD])
  refine aR (ds:=[.str "loop",.str z,bn (m / 5 % 100) [],.tup [.str "pair",.tup [.str "name",.str y],.tup [.str "name",.str y]]]) (am bh (am (ia (j:=m % 5) rfl r3 (λH1 Q q=>⟨_,rfl,_,_,rfl,rfl,(by show (0:Int) < 5; decide),q⟩) f0 hz) (am (aR (am (kQ λH1 Q q=>⟨_,rfl,_,_,rfl,rfl,⟨∅,∅⟩,_,_,rfl,rfl,(by show (0:Int) < 100; decide),q⟩) (am (aR aM (ϑ rfl)) aM)) (ϑ rfl)) (am (aR (am bh (am (dB rfl Rx) (am (dB rfl Rx) aM))) (ϑ rfl)) aM)))) (ϑ rfl) H3 (af.refl _) _ λH4 v s4 R=>?_
  refine q3 H4 v _ s4 R (gL "loop" "xle" [.x,.l,.e] ∅ (h:=2) (c:=3) (k:=1) (by show (nmB z && (slD (bn _ _) && (true && true)))=true; rw [nz,sl.1]; rfl) rfl (λd hd=>?_) (λe he=>?_) (by simp [aW,XB.ptD])) ∅ ∅ ?_
  ·rcases ν.mp hd with rfl | hd
   ·exact db nz
   rcases ν.mp hd with rfl | hd
   ·exact sl.2
   ·rw [θ.mp hd]; exact xp.1
  ·have:e=.tup [.str "pair",.tup [.str "name",.str y],.tup [.str "name",.str y]]:=by simpa [aW,XB.ptD] using he
   rw [this]; exact xp
  ·exact (jo (n:=5) λd hd=>by
    rcases ν.mp hd with rfl | hd
    ·exact .str
    rcases ν.mp hd with rfl | hd
    ·exact .str
    rcases ν.mp hd with rfl | hd
    ·exact (gG _ _).up ∅
    ·rw [θ.mp hd]; exact jo λd hd=>by
      rcases ν.mp hd with rfl | hd
      ·exact .str
      rcases ν.mp hd with rfl | hd
      ·exact px
      ·rw [θ.mp hd]; exact px).up ∅
 refine aR (ds:=[.str "none",.tup [.str "whole"]]) (am bh (am (aR (am bh aM) (ϑ rfl)) aM)) (ϑ rfl) H3 (af.refl _) _ λH4 v s4 R=>?_
 refine q3 H4 v _ s4 R (gL "none" "k" [.k] ∅ (h:=0) (c:=0) (k:=0) ?_ rfl (λd hd=>by rw [θ.mp hd]; decide +kernel) (λe he=>by simp [aW,XB.ptD] at he) (by simp [aW,XB.ptD])) ∅ ∅ ?_
 ·show (decide (aD (.tup [.str "whole"])<=12) && true)=true
  rw [AK,if_pos rfl]; rfl
 ·exact (jo (n := 1) λd hd => by
    rcases ν.mp hd with rfl | hd
    ·exact .str
    ·rw [θ.mp hd]; exact jo λd hd=>by rw [θ.mp hd]; exact .str).up ∅
abbrev tT:Stmt:=top 63
structure Sm (ns:List Str) (x:Str) (c:Int) (ps:List Pr):Prop where
 c0:0<=c
 c1:c<=99
 can:qY ps
 len:ps.length<=5
 all:∀ p∈ps,p.2<=99/\(p.1∈ns\/(x≠""/\p=(x,1)))
 new:x≠""->(x,(1:Int))∈ps
def xY:Sp:=λvs H Q _=>∃ (a t:Addr) (n:Nat) (ns:List Str) (x:Str),vs=[.ref a,.ref t,.str x]/\Dr H a n/\H t=some (.lst (ns.map V.str))/\t≠a/\ns.length<=4/\x∉ns /\
 ∀ (H':Hp) (v:V) (c:Int) (ps:List Pr),aE a H H'->Dr H' a (n - 1)->Rep H' (bn c ps) v->Sm ns x c ps->Q v H'
theorem yA {i:Nat} (h:i < 4):∃ n:Int,atI ([V.int 16,V.int 1584,V.int 156816,V.int 15524784]:List V) (i:Int)=some (.int n)/\0 < n/\n < 10 ^ 9:=by
 rcases (by omega:i=0\/i=1\/i=2\/i=3) with rfl | rfl | rfl | rfl
 ·exact ⟨16,ad (j:=0) rfl,∅⟩
 ·exact ⟨1584,ad (j:=1) rfl,∅⟩
 ·exact ⟨156816,ad (j:=2) rfl,∅⟩
 ·exact ⟨15524784,ad (j:=3) rfl,∅⟩
theorem uw:ao ["_law_draws_here","_law_told","_law_new","_law_cell","_law_parts","_law_k","_law_name"] ["_law_draws_here","_law_told","_law_new"] (ae tT):=by trivial
theorem zq {f:Addr} {fd:Μ} {k:Nat} (F:Fun K "_law_sum" "_law_sum" tT f fd) (T:Txt K mg) (D_law_next:Def P w K mg base k "_law_next" ["_law_draws_here"] eQ):aF P w K mg base CX0 (k + 1) f fd ["_law_draws_here","_law_told","_law_new"] xY:=by
 have nd:=uw.nd
 refine F.ok uw (λvs H Q E h=>?_) (λcdv A outer s H vs Q E hr h=>?_)
 ·obtain ⟨a,t,n,ns,x,rfl,_⟩:=h
  rfl
 obtain ⟨a,t,n,ns,x,rfl,hD,hT,ta,l4,xn,q⟩:=h
 have hu:=og hr
 refine ⟨_,(@un _ _ _ (wbO (wbM 3 nd rfl (Ι rfl) (waq D_law_next hr rfl (wae (wv 0 rfl) waf rfl) ∅ rfl rfl) rfl ∅) (wbO (wbM 4 nd rfl (Ι rfl) waA rfl ∅) (wbO (wbH Ϯ rfl (wbg rfl T.enumerate (wae (wv 1 rfl) waf rfl) rfl) (wbb rfl (wbd (waZ 5 nd rfl (Ι rfl) ∅) (wbd (waZ 6 nd rfl (Ι rfl) ∅) wbe rfl) rfl) rfl rfl) (wbQ (wbI (wbS ay (waQ zn (waQ zy (wv 3 rfl) (wv 5 rfl)) waC) waC (ai _)) (wbQ (wbF hu (wv 4 rfl) (wv 6 rfl) (waQ bC waC (waQ aA (waQ cc (wv 3 rfl) (waD aJ (waM (wae waC (wae waC (wae waC (wae waC waf rfl) rfl) rfl) rfl)) (wv 5 rfl) (λ_ _=>rfl))) waC)) rfl)) wbP)) ∅) (wbO (wbI (wbS fY (wv 2 rfl) waV (ai _)) (wbQ (wbF hu (wv 4 rfl) (wv 2 rfl) waC rfl)) wbP) (wbQ (wbK (waX (wae (waQ aA (waQ cc (wv 3 rfl) waC) waC) (wae (wam cz rfl T.tuple ∅ (wae (wal (jZ rfl) rfl T.sorted ∅ (wae (wak PySem.F.plainAttrs_dict PySem.F.slot_dict_items PySem.F.type_dict_items tY (wv 4 rfl) rfl rfl) waf rfl) ∅ ∅ rfl rfl) waf rfl) ∅ ∅ rfl rfl) waf rfl) rfl))))))))),?_⟩
 refine ⟨_,rfl,a,n,rfl,hD,λH1 c s1 D1 c0 c1=>?_⟩
 intro d hd
 have da:d≠a:=λe=>D1.some (e▸hd)
 have t1:=s1 _ _ ta hT
 have dt:t≠d:=ag t1 hd
 have s2:=ac hd (.dK [])
 have d2:upd H1 d (.dK []) d=some (.dK (dk [])):=aa
 have D2:=D1.m s2
 have t2:=s2 _ _ t1
 generalize upd H1 d (.dK [])=H2 at s2 d2 D2 t2 ⊢
 refine ⟨_,rfl,t,rfl,⟨_,SqL.of t2⟩,cE (xs:=ns.map V.str) (λi σ H'=>∃ (kvs:List Pr) (o1 o2:Option V),σ=[some (.ref a),some (.ref t),some (.str x),some (.int c),some (.ref d),o1,o2]/\af H1 H'/\H' d=some (.dK (dk kvs))/\(kvs.map (·.1)).Nodup/\kvs.length<=i/\∀ p∈kvs,p.1∈ns/\1<=p.2/\p.2<=99)
  ⟨[],_,_,rfl,s2,d2,∅,∅,∅⟩ (λi σ H' _ ⟨_,_,_,_,sx,_⟩=>SqL.of (sx _ _ t1)) ?T1 ?_⟩
 case T1=>
  rintro i y σ H3 p hx ⟨kvs,o1,o2,rfl,s3,d3,ndk,lk,hall⟩ hp
  rw [Ψ] at hx
  obtain ⟨z,hz,rfl⟩:=k4.mp hx
  have hi:i < ns.length:=(ο.mp hz).1
  have zm:=Λ hz
  have s4:=s3.trans (ac hp (.tup [.int i,.str z]))
  have d4:=ac hp (.tup [.int i,.str z]) _ _ d3
  refine ⟨p,_,rfl,SqT.of aa,rfl,_,_,rfl,_,_,rfl,rfl,?_⟩
  generalize upd H3 p (.tup [.int i,.str z])=H4 at s4 d4 ⊢
  refine ⟨_,rfl,_,rfl,_,_,rfl,rfl,(by show (0:Int)<=(i:Int); omega),_,_,rfl,rfl,rfl,_,rfl,au (λ_=>?_) (λ_=>⟨kvs,_,_,rfl,s4,d4,ndk,∅,hall⟩)⟩
  obtain ⟨m,hm,m0,m1⟩:=yA (i:=i) ∅
  refine ⟨_,rfl,le4,λl hl=>?_⟩
  have s5:=ac hl (.lst [V.int 16,.int 1584,.int 156816,.int 15524784])
  have d5:=s5 _ _ d4
  obtain ⟨g0,g1⟩:=mod_lt (a:=c / m) 99 ∅
  refine ⟨_,rfl,l,_,_,.int m,rfl,rfl,SqL.of aa,hm,_,_,rfl,rfl,⟨m0,∅⟩,_,_,rfl,rfl,(by show (0:Int) < 99; decide),_,_,rfl,rfl,_,rfl,_,rfl,d,_,rfl,mw.k (k:=ϕ z) d5 ?_,?_⟩
  ·rw [show (dk kvs).length=kvs.length from ε _,υ]; omega
  refine ⟨ij kvs z (1 + c / m % 99),_,_,rfl,λe o he=>?_,?_,sY ndk,ϟ (vA _ _ _) ∅,uN (R:=λp=>p.1∈ns/\1<=p.2/\p.2<=99) hall ⟨zm,by show 1<=1 + c / m % 99; omega,by show 1 + c / m % 99<=99; omega⟩⟩
  ·rw [ah (ag he hd)]; exact s5 _ _ (s4 _ _ he)
  ·rw [aa,vS]
 rintro σ H3 ⟨kvs,o1,o2,rfl,s3,d3,ndk,lk,hall⟩
 rw [ε] at lk
 have s03:aE a H H3:=s1.trans (af.b a s3)
 have D3:=D1.m s3
 obtain ⟨g0,g1⟩:=mod_lt (a:=c / 1536953616) 100 ∅
 have fin:∀ (H4:Hp) (kv:List Pr),aE a H H4->Dr H4 a (n - 1)->H4 d=some (.dK (dk kv))->kv.length<=5->(∀ p∈kv,1<=p.2)->(∀ p∈kv,p.2<=99/\(p.1∈ns\/(x≠""/\p=(x,1))))->(x≠""->(x,(1:Int))∈kv)->∀ v,H4 v=none->∀ (H5:Hp) (l:Addr) (qs:List TK),af (upd H4 v (gJ v d)) H5->(∀ r∈qs,H5 r.1=some (.tup (.str r.2.1 :: r.2.2))/\upd H4 v (gJ v d) r.1=none)->H5 l=some (.lst (qs.map λr=>V.ref r.1))->(qs.map (·.2)).Perm ((kv.map λp=>(p.1,V.int p.2)).map λp=>(p.1,[p.2]))->qs.Pairwise tM ->
   ∀ t,H5 t=none->2<=sizeLine/\∀ p,upd H5 t (.tup (qs.map λr=>V.ref r.1)) p=none->Q (.ref p) (upd (upd H5 t (.tup (qs.map λr=>V.ref r.1))) p (.tup [.int (c / 1536953616 % 100),.ref t])):=λH4 kv s4 D4 d4 l5 ge all new v hv H5 l qs s5 hq hl pq pw t ht=>by
  obtain ⟨perm,can,rep⟩:=mM hq pq pw ge
  refine ⟨z2,λp hp=>?_⟩
  have s6:=(ac hv (gJ v d)).trans (s5.trans (ac ht (.tup (qs.map λr=>V.ref r.1))))
  have s7:=ac hp (.tup [.int (c / 1536953616 % 100),.ref t])
  exact q _ _ _ _ (s4.trans (af.b a (s6.trans s7))) (D4.m (s6.trans s7)) (uo aa ((rep t ht).mono s7)) ⟨g0,∅,can,by rw [perm.length_eq]; exact l5,λp hp=>all p (perm.mem_iff.mp hp),λe=>perm.mem_iff.mpr (new e)⟩
 have two:∀ (H4:Hp) (kv:List Pr) (v:Addr),H4 d=some (.dK (dk kv))->H4 v=none->upd H4 v (gJ v d) d=some (.dK ((kv.map λp=>(p.1,V.int p.2)).map λp=>((ϕ p.1:Key),p.2))):=λH4 kv v d4 hv=>by rw [ah (ag d4 hv),d4,ϓ]; rfl
 refine ⟨_,rfl,rfl,_,rfl,?_⟩
 show if (!decide (V.str x=V.str ""))=true then _ else _
 rw [bg]
 by_cases hx:x=""
 ·rw [decide_eq_true hx]
  refine aq ⟨_,rfl,_,_,rfl,rfl,⟨∅,∅⟩,_,_,rfl,rfl,(by show (0:Int) < 100; decide),?_⟩
  refine ⟨_,rfl,.inr (.inr (.inl ⟨rfl,.inl ⟨_,d3⟩⟩)),d,_,rfl,rfl,d3,λv hv=>?_⟩
  refine ⟨v,d,kvs.map λp=>(p.1,V.int p.2),rfl,aa,two H3 kvs v d3 hv,by rw [ε]; omega,λH4 l4 qs s4 _ hq hl4 pq pw=>⟨l4,_,rfl,.inl ⟨SqL.of hl4,λt ht=>?_⟩⟩⟩
  exact fin H3 kvs s03 D3 d3 ∅ (λp hp=>(hall p hp).2.1) (λp hp=>⟨(hall p hp).2.2,.inl (hall p hp).1⟩) (λz=>absurd hx z) v hv H4 l4 qs s4 hq hl4 pq pw t ht
 ·rw [decide_eq_false hx]
  have xk:x∉kvs.map (·.1):=λz=>by obtain ⟨p,hp,e⟩:=Κ.mp z; exact xn (e▸(hall p hp).1)
  refine av ⟨_,rfl,_,rfl,d,_,rfl,mw.k (k:=ϕ x) d3 ?_,?_⟩
  ·rw [show (dk kvs).length=kvs.length from ε _,υ]; omega
  have d4:upd H3 d (.dK (cG (dk kvs) (ϕ x) (.int 1))) d=some (.dK (dk (kvs ++ [(x,1)]))):=by rw [aa,<- vS,vg xk]
  have s4:aE a H (upd H3 d (.dK (cG (dk kvs) (ϕ x) (.int 1)))):=λg o hg e=>by
   by_cases z:g=d
   ·subst z
    rw [s1 _ _ hg e] at hd; cases hd
   ·rw [ah z]; exact s03 g o hg e
  have D4:=D3.b (aE.upd H3 d (.dK (cG (dk kvs) (ϕ x) (.int 1)))) (ώ da)
  generalize upd H3 d (.dK (cG (dk kvs) (ϕ x) (.int 1)))=H4 at d4 s4 D4 ⊢
  refine ⟨_,rfl,_,_,rfl,rfl,⟨∅,∅⟩,_,_,rfl,rfl,(by show (0:Int) < 100; decide),?_⟩
  refine ⟨_,rfl,.inr (.inr (.inl ⟨rfl,.inl ⟨_,d4⟩⟩)),d,_,rfl,rfl,d4,λv hv=>?_⟩
  refine ⟨v,d,(kvs ++ [(x,1)]).map λp:Pr=>(p.1,V.int p.2),rfl,aa,two H4 _ v d4 hv,by rw [ε,ψ,ϧ]; omega,λH5 l4 qs s5 _ hq hl4 pq pw=>⟨l4,_,rfl,.inl ⟨SqL.of hl4,λt ht=>?_⟩⟩⟩
  refine fin H4 _ s4 D4 d4 (by rw [ψ,ϧ]; omega) (λp hp=>?_) (λp hp=>?_) (λ_=>by simp) v hv H5 l4 qs s5 hq hl4 pq pw t ht
  ·rcases ϒ.mp hp with h | h
   ·exact (hall p h).2.1
   ·rw [θ.mp h]; exact Int.le_refl 1
  ·rcases ϒ.mp hp with h | h
   ·exact ⟨(hall p h).2.2,.inl (hall p h).1⟩
   ·rw [θ.mp h]; exact ⟨by show (1:Int)<=99; decide,.inr ⟨hx,rfl⟩⟩
structure SmK (os:List Str) (c:Int) (ps:List Pr):Prop where
 c0:0<=c
 c1:c<=99
 can:qY ps
 len:ps.length<=5
 all:∀ p∈ps,p.2<=99/\p.1∈os
theorem Sm.k {os ns:List Str} {x:Str} {c:Int} {ps:List Pr} (h:Sm ns x c ps) (hs:∀ y∈ns,y∈os) (hx:x≠""->x∈os):SmK os c ps:=⟨h.c0,h.c1,h.can,h.len,λp hp=>⟨(h.all p hp).1,by
 rcases (h.all p hp).2 with z | z
 ·exact hs _ z
 ·rw [z.2]; exact hx z.1⟩⟩
theorem vZ {k:Kd} (h:k.word="row"):∃ c ps j,k=.row c ps j:=by
 cases k with
 | whole=>exact absurd h ∅
 | place c ps=>exact absurd (show ξ "place"=ξ "row" from h) ∅
 | row c ps j=>exact ⟨c,ps,j,rfl⟩
 | pair i j=>exact absurd (show ξ "pair"=ξ "row" from h) ∅
structure jq (os:List Str) (i:Nat) (ks:List Kd):Prop where
 all:∀ k∈ks,k.size<=4/\k.All (SmK os)
 len:ks.length<=i
section
variable {os:List Str} {i:Nat} {x:Str} {c:Int} {ps:List Pr} {j:Kd} {ks:List Kd}
theorem sV (h:os[i]?=some x):os.take (i + 1)=os.take i ++ [x]:=by rw [ϣ,h]; rfl
theorem vm (nd:os.Nodup) (h:os[i]?=some x):x∉os.take i:=λz=>by
 have h1:(os.take (i + 1)).Nodup:=(List.take_sublist _ _).nodup nd
 rw [sV h,Da] at h1
 exact h1.2.2 x z x ∅ rfl
theorem fo {k:Kd} (I:jq os i ks) (sz:k.size<=4) (al:k.All (SmK os)):jq os (i + 1) (ks ++ [k]):=by
 refine ⟨λk' hk=>?_,by rw [ψ,ϧ]; have:=I.len; omega⟩
 rcases ϒ.mp hk with hk | hk
 ·exact I.all k' hk
 ·rw [θ.mp hk]; exact ⟨sz,al⟩
theorem tP (h:os[i]?=some x) (sm:Sm (os.take i) x c ps):SmK os c ps:=sm.k (λy hy=>n_ hy) (λ_=>Λ h)
theorem uM (I:jq os i ks) (h:os[i]?=some x) (sm:Sm (os.take i) x c ps) (sz:j.size<=1) (al:j.All (SmK os)):jq os (i + 1) (ks ++ [.row c ps j]):=fo I (by show j.size + 1<=4; omega) ⟨tP h sm,al⟩
theorem rL {c1:Int} {p1:List Pr} (I:jq os i ks) (h:os[i]?=some x) (sm:Sm (os.take i) x c ps) (sz:j.size<=1) (al:j.All (SmK os)) (s1:Sm (os.take i) "" c1 p1):jq os (i + 1) (ks ++ [.pair (.place c1 p1) (.row c ps j)]):=fo I (by show 1 + (j.size + 1) + 1<=4; omega) ⟨s1.k (λy hy=>n_ hy) (λz=>absurd rfl z),tP h sm,al⟩
theorem wG {c0:Int} {p0:List Pr} {j0:Kd} (I:jq os i (ks ++ [.row c0 p0 j0])) (h:os[i]?=some x) (sm:Sm (os.take i) x c ps) (sz:j.size<=1) (al:j.All (SmK os)):jq os (i + 1) (ks ++ [.row c0 p0 (.row c ps j)]):=by
 have h0:=I.all (.row c0 p0 j0) ∅
 exact fo ⟨λk hk=>I.all k (m9 _ hk),by have:=I.len; rw [ψ] at this; omega⟩ (by show (j.size + 1) + 1<=4; omega) ⟨h0.2.1,tP h sm,al⟩
end
structure BK (os:List Str) (ks:List Kd):Prop where
 all:∀ k∈ks,k.size<=4/\k.All (SmK os)
 len:ks.length<=4
theorem wL {os:List Str} {ks:List Kd} {c:Int} {ps:List Pr} (h:BK os ks) (l3:ks.length < 4) (sm:Sm os "" c ps):BK os (ks ++ [.row c ps (.pair .whole .whole)]):=by
 obtain ⟨a,b⟩:=fo ⟨h.all,π _⟩ (k:=.row c ps (.pair .whole .whole)) (by show 4<=4; decide) ⟨sm.k (λy hy=>hy) (λz=>absurd rfl z),trivial,trivial⟩
 exact ⟨a,∅⟩
abbrev bK:Stmt:=top 64
theorem iz (os:List Str) (n:Nat) (h:n<=os.length):aB (os.map V.str) none (some (n:Int))=(os.take n).map V.str:=by
 rw [yZ _ n (by rw [ε]; exact h),CP]
theorem sy (os:List Str) (n:Nat) (h:n + 1<=os.length):aB (os.map V.str) none (some ((n:Int) + 1))=(os.take (n + 1)).map V.str:=iz os (n + 1) h
theorem yb {x:Str} (h:nmB x=true):x≠ξ "":=λe=>by
 subst e
 exact absurd h ∅
def Al:Sp:=λvs H Q _=>∃ (o a:Addr) (n:Nat) (os:List Str),vs=[.ref o,.ref a]/\Dr H a n/\H o=some (.lst (os.map V.str))/\o≠a/\os.Nodup/\os.length<=4/\(∀ x∈os,nmB x=true) /\
 ∀ (H':Hp) (l:Addr) (us:List V) (ks:List Kd) (n':Nat),aE a H H'->Dr H' a n'->H l=none->l≠a->H' l=some (.lst us)->Reps H' (ks.map Kd.dv) us->BK os ks->Q (.ref l) H'
theorem dz:ao ["_law_order","_law_draws_here","_law_kinds","_law_k","_law_name","_law_length","_law_cell","_law_inner","_law_one","_law_way"] ["_law_order","_law_draws_here"] (ae bK):=by trivial
theorem ik {f:Addr} {fd:Μ} {k:Nat} (F:Fun K "_law_bound_kinds" "_law_bound_kinds" bK f fd) (T:Txt K mg) (D_law_next:Def P w K mg base k "_law_next" ["_law_draws_here"] eQ) (D_law_sum:Def P w K mg base k "_law_sum" ["_law_draws_here","_law_told","_law_new"] xY):aF P w K mg base CX0 (k + 1) f fd ["_law_order","_law_draws_here"] Al:=by
 have nd:=dz.nd
 refine F.ok dz (λvs H Q E h=>?_) (λcdv A outer s H vs Q E hr h=>?_)
 ·obtain ⟨o,a,n,os,rfl,_⟩:=h
  rfl
 obtain ⟨o,a,n,os,rfl,hD,hO,oa,ndo,l4,nmo,q⟩:=h
 have hu:=og hr
 have huL:(A.deeper (x4 (ξ "_law_bound_kinds") (ae bK) s.heap.objs.size f cdv)).units < cLine:=by omega
 have emp:ξ ""∉os:=λz=>yb (nmo _ z) rfl
 refine ⟨_,(@un _ _ _ (wbO (wbM 2 nd rfl (Ι rfl) (waM waf) rfl ∅) (wbO (wbH Ϯ rfl (wbg rfl T.enumerate (wae (wv 0 rfl) waf rfl) rfl) (wbb rfl (wbd (waZ 3 nd rfl (Ι rfl) ∅) (wbd (waZ 4 nd rfl (Ι rfl) ∅) wbe rfl) rfl) rfl rfl) (wbO (wbM 5 nd rfl (Ι rfl) (waq D_law_sum hr rfl (wae (wv 1 rfl) (wae (waT be (wv 0 rfl) wbz (wbA (wv 3 rfl))) (wae (wv 4 rfl) waf rfl) rfl) rfl) ∅ rfl rfl) rfl ∅) (wbO (wbM 6 nd rfl (Ι rfl) (waq D_law_next hr rfl (wae (wv 1 rfl) waf rfl) ∅ rfl rfl) rfl ∅) (wbO (wbM 7 nd rfl (Ι rfl) (waX (wae waV waf rfl)) rfl ∅) (wbO (wbI (wbS ay (waQ aA (wv 6 rfl) waC) waC (ai _)) (wbQ (wbM 7 nd rfl (Ι rfl) (waX (wae waV (wae (waq D_law_sum hr rfl (wae (wv 1 rfl) (wae (waT be (wv 0 rfl) wbz (wbA (waQ bC (wv 3 rfl) waC))) (wae waV waf rfl) rfl) rfl) ∅ rfl rfl) waf rfl) rfl)) rfl ∅)) wbP) (wbO (wbM 8 nd rfl (Ι rfl) (waX (wae waV (wae (wv 5 rfl) (wae (wv 7 rfl) waf rfl) rfl) rfl)) rfl ∅) (wbO (wbM 9 nd rfl (Ι rfl) (waQ aA (waQ ba (wv 6 rfl) waC) waC) rfl ∅) (wbO (wbI (wab (wbW (wbS ay (wv 9 rfl) waC (ai _)) (wbX (wbS dY (wv 3 rfl) waC (ai _))))) (wbQ (wbM 8 nd rfl (Ι rfl) (waX (wae waV (wae (waX (wae waV (wae (waq D_law_sum hr rfl (wae (wv 1 rfl) (wae (waT be (wv 0 rfl) wbz (wbA (wv 3 rfl))) (wae waV waf rfl) rfl) rfl) ∅ rfl rfl) waf rfl) rfl)) (wae (wv 8 rfl) waf rfl) rfl) rfl)) rfl ∅)) wbP) (wbO (wbI (wab (wbW (wbS ay (wv 9 rfl) waC (ai _)) (wbW (wbS (uQ huL) (wv 2 rfl) (waM waf) (ai _)) (wbW (wbS ay (waD aj (waD aJ (wv 2 rfl) (waY gf waC) (λ_ _=>rfl)) waC (λ_ _=>rfl)) waV (ai _)) (wbX (wbS fY (waD aj (waD aj (waD aJ (wv 2 rfl) (waY gf waC) (λ_ _=>rfl)) waC (λ_ _=>rfl)) waC (λ_ _=>rfl)) waV (ai _))))))) (wbO (wbM 8 nd rfl (Ι rfl) (waX (wae (waD aj (waD aJ (wv 2 rfl) (waY gf waC) (λ_ _=>rfl)) waC (λ_ _=>rfl)) (wae (waD aj (waD aJ (wv 2 rfl) (waY gf waC) (λ_ _=>rfl)) waC (λ_ _=>rfl)) (wae (wv 8 rfl) waf rfl) rfl) rfl)) rfl ∅) (wbQ (wbG (wak Ο A5 A6 iE (wv 2 rfl) rfl rfl) rfl))) wbP) (wbQ (wbG (waj Ο ϫ Ϭ bd (wv 2 rfl) (wae (wv 8 rfl) waf rfl) rfl rfl rfl rfl rfl) rfl)))))))))) ∅) (wbO (wbI (wab (wbW (wbS nX (wal ak rfl T.len ∅ (wae (wv 2 rfl) waf rfl) ∅ ∅ rfl rfl) waC (ai _)) (wbX (wbS ay (waQ aA (waq D_law_next hr rfl (wae (wv 1 rfl) waf rfl) ∅ rfl rfl) waC) waC (ai _))))) (wbQ (wbG (waj Ο ϫ Ϭ bd (wv 2 rfl) (wae (waX (wae waV (wae (waq D_law_sum hr rfl (wae (wv 1 rfl) (wae (wv 0 rfl) (wae waV waf rfl) rfl) rfl) ∅ rfl rfl) (wae (waX (wae waV (wae (waX (wae waV waf rfl)) (wae (waX (wae waV waf rfl)) waf rfl) rfl) rfl)) waf rfl) rfl) rfl)) waf rfl) rfl rfl rfl rfl rfl) rfl)) wbP) (wbQ (wbK (wv 2 rfl))))))),?_⟩
 refine ⟨Ω _,λL hL=>?_⟩
 have s0:=ac hL (.lst [])
 have h0:upd H L (.lst []) L=some (.lst []):=aa
 have D0:=hD.m s0
 have La:L≠a:=λe=>hD.some (e▸hL)
 generalize upd H L (.lst [])=H0 at s0 h0 D0 ⊢
 refine ⟨_,rfl,o,rfl,⟨_,SqL.of (s0 _ _ hO)⟩,cE (xs:=os.map V.str) (λi σ H'=>∃ (o3 o4 o5 o6 o7 o8 o9:Option V) (ks:List Kd) (us:List V) (n':Nat),σ=[some (.ref o),some (.ref a),some (.ref L),o3,o4,o5,o6,o7,o8,o9]/\aE a H H'/\Dr H' a n'/\H' L=some (.lst us)/\Reps H' (ks.map Kd.dv) us/\jq os i ks)
  ⟨_,_,_,_,_,_,_,[],[],n,rfl,af.b a s0,D0,h0,by simp [Reps],⟨∅,Ω _⟩⟩ (λi σ H' _ ⟨_,_,_,_,_,_,_,_,_,_,_,sx,_⟩=>SqL.of (sx _ _ oa hO)) ?T1 ?_⟩
 case T1=>
  rintro i y σ H1 p hx ⟨o3,o4,o5,o6,o7,o8,o9,ks,us,n1,rfl,s1,D1,L1,R1,I1⟩ hp
  rw [Ψ] at hx
  obtain ⟨x,hx',rfl⟩:=k4.mp hx
  have hi:i < os.length:=(ο.mp hx').1
  have xm:=Λ hx'
  have x0:=yb (nmo x xm)
  have xn:=vm ndo hx'
  have p1:=ac hp (.tup [.int i,.str x])
  refine ⟨p,_,rfl,SqT.of aa,rfl,_,_,rfl,_,_,rfl,rfl,?_⟩
  have s2:=s1.trans (af.b a p1)
  have D2:=D1.m p1
  have L2':=p1 _ _ L1
  have R2:=R1.mono p1
  generalize upd H1 p (.tup [.int i,.str x])=H2 at s2 D2 L2' R2 ⊢
  refine ⟨_,rfl,_,rfl,_,rfl,_,rfl,o,_,rfl,SqL.of (s2 _ _ oa hO),λt ht=>?_⟩
  rw [iz os i ∅]
  have p2:=ac ht (.lst ((os.take i).map V.str))
  have ta:t≠a:=λe=>D2.some (e▸ht)
  refine ⟨_,rfl,a,t,n1,os.take i,x,rfl,D2.m p2,aa,ta,by rw [ϊ]; omega,xn,λH3 v c ps s3 D3 Rv sm=>?_⟩
  have s03:aE a H H3:=s2.trans ((af.b a p2).trans s3)
  have t3:cm H2 H3:=(af.tups p2).trans ((D2.m p2).tups s3)
  have L3:H3 L=some (.lst us):=s3 _ _ La (p2 _ _ L2')
  have R3:=aL (λd hd v r=>by obtain ⟨y,_,rfl⟩:=Κ.mp hd; exact Kd.tupS t3 r) R2
  refine gnm ?_
  dsimp only
  clear t3 R2 R1 p1
  refine ⟨_,rfl,a,_,rfl,D3,λH4 cell s4 D4 cl0 cl1=>?_⟩
  have t4:cm H3 H4:=D3.tups s4
  have s04:=s03.trans s4
  have L4:=s4 _ _ La L3
  have R4:=aL (λd hd v r=>by obtain ⟨y,_,rfl⟩:=Κ.mp hd; exact Kd.tupS t4 r) R3
  have Rv4:=cD t4 (gG c ps) Rv
  refine gnm ?_
  dsimp only
  refine ⟨z1,λe he=>?_⟩
  have p5:=ac he (.tup [.str "whole"])
  have W5:Rep (upd H4 e (.tup [.str "whole"])) Kd.whole.dv (.ref e):=gi aa
  have s05:=s04.trans (af.b a p5)
  have D5:=D4.m p5
  have L5:=p5 _ _ L4
  have R5:=R4.mono p5
  have Rv5:=Rv4.mono p5
  generalize upd H4 e (.tup [.str "whole"])=H5 at W5 s05 D5 L5 R5 Rv5 ⊢
  refine gnm ?_
  dsimp only
  clear R4 Rv4 D4 L4 s04 D3 L3 R3 Rv s03
  refine gl (λσ' H6=>∃ (j:Kd) (vj:V) (n6:Nat),σ'=[some (.ref o),some (.ref a),some (.ref L),some (.int i),some (.str x),some v,some (.int cell),some vj,o8,o9]/\aE a H H6/\Dr H6 a n6/\H6 L=some (.lst us)/\Reps H6 (ks.map Kd.dv) us/\Rep H6 (bn c ps) v/\Rep H6 j.dv vj/\j.size<=1/\j.All (SmK os)) ?N1 (λnx=>?_)
  case N1=>
   rintro _ H6 ⟨j,vj,n6,rfl,s06,D6,L6,R6,Rv6,Rj,js,jA⟩
   refine ⟨_,rfl,_,rfl,z3,λg hg=>?_⟩
   have p7:=ac hg (.tup [.str "row",v,vj])
   have R7:Rep (upd H6 g (.tup [.str "row",v,vj])) (Kd.row c ps j).dv (.ref g):=kW aa (Rv6.mono p7) (Rj.mono p7)
   have s07:=s06.trans (af.b a p7)
   have D7:=D6.m p7
   have L7:=p7 _ _ L6
   have Rk7:=R6.mono p7
   generalize upd H6 g (.tup [.str "row",v,vj])=H7 at R7 s07 D7 L7 Rk7 ⊢
   refine gnm ?_
   dsimp only
   refine ⟨_,rfl,_,_,rfl,rfl,⟨∅,∅⟩,_,_,rfl,rfl,(by show (0:Int) < 4; decide),?_⟩
   refine gnm ?_
   dsimp only
   generalize cell / 2 % 4=way
   refine gl (λσ' H8=>∃ (k1:Kd) (v1:V) (n8:Nat),σ'=[some (.ref o),some (.ref a),some (.ref L),some (.int i),some (.str x),some v,some (.int cell),some vj,some v1,some (.int way)]/\aE a H H8/\Dr H8 a n8/\H8 L=some (.lst us)/\Reps H8 (ks.map Kd.dv) us/\Rep H8 k1.dv v1/\(k1=.row c ps j\/(way=0/\∃ c1 p1,Sm (os.take i) "" c1 p1/\k1=.pair (.place c1 p1) (.row c ps j)))) ?N2 (λnx2=>?_)
   case N2=>
    rintro _ H8 ⟨k1,v1,n8,rfl,s08,D8,L8,R8,Rk1,ho⟩
    refine gl (λσ' H9=>∃ (k2:Kd) (v2:V) (ks':List Kd) (us':List V) (n9:Nat),σ'=[some (.ref o),some (.ref a),some (.ref L),some (.int i),some (.str x),some v,some (.int cell),some vj,some v2,some (.int way)]/\aE a H H9/\Dr H9 a n9/\H9 L=some (.lst us')/\Reps H9 (ks'.map Kd.dv) us'/\Rep H9 k2.dv v2/\jq os (i + 1) (ks' ++ [k2])) ?N3 (λnx3=>?_)
    case N3=>
     rintro _ H9 ⟨k2,v2,ks',us',n9,rfl,s09,D9,L9,R9,Rk2,I9⟩
     have lu:us'.length=ks'.length:=by have:=R9.length; rwa [ε] at this
     have lk:=I9.len
     rw [ψ,ϧ] at lk
     refine ⟨_,rfl,.inl ⟨rfl,_,SqL.of L9⟩,_,rfl,L,_,_,rfl,rfl,L9,by rw [υ]; omega,?_⟩
     have sB:=aE.upd H9 L (.lst (us' ++ [v2]))
     refine ⟨_,_,_,_,_,_,_,ks' ++ [k2],us' ++ [v2],n9,rfl,λg ob hg e=>sB g ob (ag e hL) (s09 g ob hg e),D9.b sB (ώ La),aa,?_,I9⟩
     have tB:=sB.tups L9
     rw [ω]
     exact Reps.append (aL (λd hd v r=>by obtain ⟨y,_,rfl⟩:=Κ.mp hd; exact Kd.tupS tB r) R9) (aN (Kd.tupS tB Rk2))
    have lus:us.length=ks.length:=by have:=R8.length; rwa [ε] at this
    refine yC (way=1/\∃ ks0 c0 p0 j0,ks=ks0 ++ [Kd.row c0 p0 j0]/\j0.word≠ξ "row") ?A1 ?A0 (λqT qF=>?_)
    case A0=>
     intro H9 p9
     refine aq (nx3 _ _ ⟨k1,v1,ks,us,n8,rfl,s08.trans (af.b a p9),D8.m p9,p9 _ _ L8,R8.mono p9,Rk1.mono p9,?_⟩)
     rcases ho with rfl | ⟨_,c1,p1,sm1,rfl⟩
     ·exact uM I1 hx' sm js jA
     ·exact rL I1 hx' sm js jA sm1
    case A1=>
     rintro ⟨w1,ks0,c0,p0,j0,e0,hj0⟩ H9 p9
     subst e0
     have k1e:k1=.row c ps j:=by
      rcases ho with h | ⟨h,_⟩
      ·exact h
      ·omega
     subst k1e
     have R9:=R8.mono p9
     rw [ω] at R9
     obtain ⟨u0,ul,rfl,Ra,Rl⟩:=bZ R9
     obtain ⟨al,vs,rfl,hal,hv⟩:=Kd.inv Rl
     obtain ⟨vl,uj,rfl,Rvl,Ruj⟩:=hv
     have L9:=p9 _ _ L8
     refine av ?_
     refine ⟨_,rfl,1,rfl,L,_,_,_,rfl,rfl,SqL.of L9,cC _ _,al,_,0,.str "row",rfl,rfl,SqT.of hal,ad (j:=0) rfl,_,rfl,1,rfl,L,_,_,_,rfl,rfl,SqL.of L9,cC _ _,al,_,1,vl,rfl,rfl,SqT.of hal,ad (j:=1) rfl,_,rfl,z3,λm hm=>?_⟩
     have p10:=ac hm (.tup [.str "row",vl,v1])
     have R10:Rep (upd H9 m (.tup [.str "row",vl,v1])) (Kd.row c0 p0 (.row c ps j)).dv (.ref m):=kW aa (Rvl.mono p10) ((Rk1.mono p9).mono p10)
     have s10:=s08.trans (af.b a (p9.trans p10))
     have D10:=D8.m (p9.trans p10)
     have L10:=p10 _ _ L9
     have Ra10:=Ra.mono p10
     generalize upd H9 m (.tup [.str "row",vl,v1])=H10 at R10 s10 D10 L10 Ra10 ⊢
     refine gnm ?_
     dsimp only
     refine ⟨_,rfl,.inl ⟨rfl,_,SqL.of L10⟩,L,_,_,rfl,rfl,L10,dM _ _,?_⟩
     rw [BP]
     have sB:=aE.upd H10 L (.lst u0)
     have tB:=sB.tups L10
     refine nx3 _ _ ⟨.row c0 p0 (.row c ps j),.ref m,ks0,u0,n8,rfl,λg ob hg e=>sB g ob (ag e hL) (s10 g ob hg e),D10.b sB (ώ La),aa,aL (λd hd v r=>by obtain ⟨y,_,rfl⟩:=Κ.mp hd; exact Kd.tupS tB r) Ra10,Kd.tupS tB R10,wG I1 hx' sm js jA⟩
    refine ⟨_,rfl,rfl,_,rfl,au (λh1=>?_) (λ_=>qF H8 (af.refl _))⟩
    have w1:=eqI h1
    refine ⟨_,rfl,Ω _,λb hb=>⟨L,b,us,rfl,rfl,SqL.of (ac hb _ _ _ L8),SqL.of aa,_,rfl,?_⟩⟩
    have p9:=ac hb (.lst [])
    by_cases ne:ks=[]
    ·have e:us=[]:=f_ (by rw [lus,ne]; rfl)
     rw [e]
     exact aq (qF _ p9)
    obtain ⟨ks0,kl,e0⟩:=fO ne
    have R9:=R8.mono p9
    rw [e0,ω] at R9
    obtain ⟨u0,ul,eu,Ra,Rl⟩:=bZ R9
    subst eu
    obtain ⟨al,vs,rfl,hal,hv⟩:=Kd.inv Rl
    have L9:=p9 _ _ L8
    have ee:(!(u0 ++ [V.ref al]).isEmpty)=true:=by simp
    rw [ee]
    refine av ⟨_,rfl,1,rfl,L,_,_,_,rfl,rfl,SqL.of L9,cC _ _,al,_,0,.str kl.word,rfl,rfl,SqT.of hal,ad (j:=0) rfl,rfl,_,rfl,au (λh2=>?_) (λ_=>qF _ p9)⟩
    have hw:kl.word=ξ "row":=V.str.inj (of_decide_eq_true h2)
    obtain ⟨c0,p0,j0,ek⟩:=vZ hw
    subst ek
    obtain ⟨vl,uj,rfl,Rvl,Ruj⟩:=hv
    obtain ⟨bj,vj',rfl,hbj⟩:=yg Ruj
    refine ⟨_,rfl,1,rfl,L,_,_,_,rfl,rfl,SqL.of L9,cC _ _,al,_,2,.ref bj,rfl,rfl,SqT.of hal,ad (j:=2) rfl,bj,_,0,.str j0.word,rfl,rfl,SqT.of hbj,ad (j:=0) rfl,rfl,_,rfl,?_⟩
    by_cases hj:j0.word=ξ "row"
    ·rw [show (!decide (V.str j0.word=V.str (ξ "row")))=false by rw [bg,decide_eq_true hj]; rfl]
     exact aq (qF _ p9)
    ·rw [show (!decide (V.str j0.word=V.str (ξ "row")))=true by rw [bg,decide_eq_false hj]; rfl]
     exact av (qT ⟨w1,ks0,c0,p0,j0,e0,hj⟩ _ p9)
   refine rq (way=0/\0 < (i:Int)) ?A1 ?A0 (λqT qF=>⟨_,rfl,rfl,_,rfl,au (λh1=>⟨_,rfl,_,_,rfl,rfl,_,rfl,au (λh2=>ifT (qT ⟨eqI h1,of_decide_eq_true h2⟩)) (λ_=>ifF qF)⟩) (λ_=>qF)⟩)
   case A0=>exact aq (nx2 _ _ ⟨.row c ps j,.ref g,n6,rfl,s07,D7,L7,Rk7,R7,.inl rfl⟩)
   case A1=>
    rintro ⟨w0,i0⟩
    refine av ⟨_,rfl,_,rfl,_,rfl,_,rfl,o,_,rfl,SqL.of (s07 _ _ oa hO),λt' ht'=>?_⟩
    rw [iz os i ∅]
    have p8:=ac ht' (.lst ((os.take i).map V.str))
    have ta':t'≠a:=λe=>D7.some (e▸ht')
    refine ⟨a,t',n6,os.take i,_,rfl,D7.m p8,aa,ta',by rw [ϊ]; omega,λz=>emp (n_ z),λH8 u c1 p1 s8 D8 Ru sm1=>?_⟩
    have t8:cm H7 H8:=(af.tups p8).trans ((D7.m p8).tups s8)
    refine ⟨z2,λm hm=>⟨_,rfl,z3,λm2 hm2=>?_⟩⟩
    have p9:=ac hm (.tup [.str "place",u])
    have p10:=ac hm2 (.tup [.str "pair",.ref m,.ref g])
    have t10:=t8.trans (af.tups (p9.trans p10))
    refine gnm (nx2 _ _ ⟨.pair (.place c1 p1) (.row c ps j),.ref m2,_,rfl,s07.trans ((af.b a p8).trans (s8.trans (af.b a (p9.trans p10)))),D8.m (p9.trans p10),p10 _ _ (p9 _ _ (s8 _ _ La (p8 _ _ L7))),aL (λd hd v r=>by obtain ⟨y,_,rfl⟩:=Κ.mp hd; exact Kd.tupS t10 r) Rk7,mI aa ((jQ aa (Ru.mono p9)).mono p10) (Kd.tupS t10 R7),.inr ⟨w0,c1,p1,sm1,rfl⟩⟩)
  refine ⟨_,rfl,_,_,rfl,rfl,(by show (0:Int) < 2; decide),rfl,_,rfl,au (λ_=>?_) (λ_=>nx _ _ ⟨.whole,.ref e,_,rfl,s05,D5,L5,R5,Rv5,W5,∅,trivial⟩)⟩
  refine ⟨_,rfl,_,rfl,_,rfl,_,_,rfl,rfl,_,rfl,o,_,rfl,SqL.of (s05 _ _ oa hO),λt' ht'=>?_⟩
  rw [sy os i ∅]
  have p6:=ac ht' (.lst ((os.take (i + 1)).map V.str))
  have ta':t'≠a:=λe=>D5.some (e▸ht')
  refine ⟨a,t',_,os.take (i + 1),_,rfl,D5.m p6,aa,ta',by rw [ϊ]; omega,λz=>emp (n_ z),λH8 u c1 p1 s8 D8 Ru sm1=>?_⟩
  have t8:cm H5 H8:=(af.tups p6).trans ((D5.m p6).tups s8)
  refine ⟨z2,λm hm=>?_⟩
  have p9:=ac hm (.tup [.str "place",u])
  have t9:=t8.trans (af.tups p9)
  refine gnm (nx _ _ ⟨.place c1 p1,.ref m,_,rfl,s05.trans ((af.b a p6).trans (s8.trans (af.b a p9))),D8.m p9,p9 _ _ (s8 _ _ La (p6 _ _ L5)),aL (λd hd v r=>by obtain ⟨y,_,rfl⟩:=Κ.mp hd; exact Kd.tupS t9 r) R5,cD t9 (gG c ps) Rv5,jQ aa (Ru.mono p9),by show 1<=1; decide,sm1.k (λy hy=>n_ hy) (λz=>absurd rfl z)⟩)
 rintro σ H1 ⟨o3,o4,o5,o6,o7,o8,o9,ks,us,n1,rfl,s1,D1,L1,R1,I1⟩
 have bk:BK os ks:=⟨I1.all,by have:=I1.len; rw [ε] at this; omega⟩
 have lus:us.length=ks.length:=by have:=R1.length; rwa [ε] at this
 dsimp only
 refine gl (λσ' H6=>∃ (ks:List Kd) (us:List V) (n6:Nat),σ'=[some (.ref o),some (.ref a),some (.ref L),o3,o4,o5,o6,o7,o8,o9]/\aE a H H6/\Dr H6 a n6/\H6 L=some (.lst us)/\Reps H6 (ks.map Kd.dv) us/\BK os ks) ?N4 (λnx=>?_)
 case N4=>
  rintro _ H6 ⟨ks,us,n6,rfl,s6,D6,L6,R6,bk⟩
  exact ⟨_,rfl,q H6 L us ks n6 s6 D6 hL La L6 R6 bk⟩
 refine ⟨_,rfl,L,us,rfl,.inl (SqL.of L1),_,_,rfl,rfl,_,rfl,au (λh1=>?_) (λ_=>aq (nx _ _ ⟨ks,us,n1,rfl,s1,D1,L1,R1,bk⟩))⟩
 have l3:us.length < 4:=by have:((us.length:Nat):Int) < 4:=of_decide_eq_true h1; omega
 refine ⟨_,rfl,a,_,rfl,D1,λH2 z s2 D2 _ _=>?_⟩
 have t2:cm H1 H2:=D1.tups s2
 have R2:=aL (λd hd v r=>by obtain ⟨y,_,rfl⟩:=Κ.mp hd; exact Kd.tupS t2 r) R1
 have s02:=s1.trans s2
 have L2':=s2 _ _ La L1
 refine ⟨_,_,rfl,rfl,(by show (0:Int) < 3; decide),rfl,_,rfl,au (λ_=>?_) (λ_=>nx _ _ ⟨ks,us,_,rfl,s02,D2,L2',R2,bk⟩)⟩
 refine ⟨_,rfl,.inl ⟨rfl,_,SqL.of L2'⟩,_,rfl,_,rfl,a,o,_,os,_,rfl,D2,s02 _ _ oa hO,oa,l4,emp,λH3 u c ps s3 D3 Ru sm=>?_⟩
 have t3:cm H2 H3:=D2.tups s3
 have R3:=aL (λd hd v r=>by obtain ⟨y,_,rfl⟩:=Κ.mp hd; exact Kd.tupS t3 r) R2
 refine ⟨z1,λm1 hm1=>⟨z1,λm2 hm2=>⟨z3,λm3 hm3=>⟨z3,λm4 hm4=>?_⟩⟩⟩⟩
 have p1:=ac hm1 (.tup [.str "whole"])
 have p2:=ac hm2 (.tup [.str "whole"])
 have p3:=ac hm3 (.tup [.str "pair",.ref m1,.ref m2])
 have p4:=ac hm4 (.tup [.str "row",u,.ref m3])
 have p14:=p1.trans (p2.trans (p3.trans p4))
 have Rr:Rep _ (Kd.row c ps (.pair .whole .whole)).dv (.ref m4):=kW aa (Ru.mono p14) (Rep.mono p4 (mI aa ((gi (p2 _ _ aa)).mono p3) ((gi aa).mono p3)))
 have L4:=p14 _ _ (s3 _ _ La L2')
 have R4:=R3.mono p14
 have s04:=(s02.trans s3).trans (af.b a p14)
 have D4:=D3.m p14
 generalize upd _ m4 (.tup [.str "row",u,.ref m3])=H4 at Rr L4 R4 s04 D4 ⊢
 refine ⟨L,_,_,rfl,rfl,L4,by rw [υ]; omega,?_⟩
 have sB:=aE.upd H4 L (.lst (us ++ [.ref m4]))
 have tB:=sB.tups L4
 refine nx _ _ ⟨ks ++ [.row c ps (.pair .whole .whole)],us ++ [.ref m4],_,rfl,λg ob hg e=>sB g ob (ag e hL) (s04 g ob hg e),D4.b sB (ώ La),aa,?_,wL bk ∅ sm⟩
 rw [ω]
 exact Reps.append (aL (λd hd v r=>by obtain ⟨y,_,rfl⟩:=Κ.mp hd; exact Kd.tupS tB r) R4) (aN (Kd.tupS tB Rr))
abbrev vY:Stmt:=top 65
theorem qy {k:Nat} {ix:List Nat} {g:TG} {tt:TT} {te:TE} {σ:St} {H1:Hp} {Q:List V->Hp->Prop} {K:ι} {a:Addr} {xs:List V} (Pv:Nat->List V->Hp->Prop) (h0:Pv 0 [] H1) (hl:∀ i zs H,Pv i zs H->SqL K H a xs)
  (hs:∀ i zs H x p,xs[i]?=some x->Pv i zs H->H p=none->ca k ix g tt te σ (.ref p) zs (upd H p (.tup [.int i,x])) (Pv (i + 1))) (hd:∀ zs H,Pv xs.length zs H->Q zs H):rLC (Ite K a) k ix g tt te σ H1 Q:=by
 refine rF (n:=xs.length) Pv h0 (λi zs H h p=>?_) (λzs H p=>?_) (λi zs H x H' h p y=>?_) hd
 ·exact ⟨xs,xs[i],hl i zs H p,by simp [h]⟩
 ·exact ⟨xs,hl _ zs H p,π _⟩
 ·obtain ⟨c,x',hb,e1,e2,hx⟩:=y
  subst e1 e2
  exact hs i zs H x' c (hx xs (hl i zs H p)) p hb
theorem bG (xs:List V) (n:Nat):aB xs (some (n:Int)) none=xs.drop n:=by
 unfold aB
 rw [HT.sIx_none,HT.sIx_nat]
 rcases Nat.le_total n xs.length with h | h
 ·rw [Cg h]
  exact Cb (by rw [c_]; omega)
 ·rw [ES h,List.drop_eq_nil_of_le (π _),List.drop_eq_nil_of_le h,List.take_nil]
def nmA (xs:List Str) (c:Int) (k:Nat):Str:=xs.getD ((c + (k:Int)) % 5).toNat default
theorem fg {xs:List Str} (nms:Nms xs) (c:Int) (k:Nat):xs[((c + (k:Int)) % 5).toNat]?=some (nmA xs c k):=by
 obtain ⟨b0,b1⟩:=mod_lt (a:=c + (k:Int)) 5 ∅
 have hl:=nms.len
 have hlt:((c + (k:Int)) % 5).toNat < xs.length:=by omega
 unfold nmA
 rw [Ζ hlt]
 simp [u9,hlt]
theorem rb {xs:List Str} (nms:Nms xs) (c:Int) (k:Nat):nmA xs c k∈xs:=Λ (fg nms c k)
theorem vQ {xs:List Str} (nms:Nms xs) (c:Int) {m:Nat} (hm:m<=5):((Φ m).map (nmA xs c)).Nodup:=by
 rw [CB,EB]
 have:∀ i j:Nat,i < 5->j < 5->i≠j->nmA xs c i≠nmA xs c j:=λi j hi hj hij e=>by
  have h1:=fg nms c i
  have h2:=fg nms c j
  rw [<- e] at h2
  obtain ⟨l1,e1⟩:=ο.mp h1
  obtain ⟨l2,e2⟩:=ο.mp h2
  have:=(B4 nms.nd).mp (e1.trans e2.symm)
  obtain ⟨b0,b1⟩:=mod_lt (a:=c + (i:Int)) 5 ∅
  obtain ⟨d0,d1⟩:=mod_lt (a:=c + (j:Int)) 5 ∅
  omega
 refine EK.imp_of_mem (λ{i j} hi hj hij=>this i j (by have:=ϸ.mp hi; omega) (by have:=ϸ.mp hj; omega) hij) (CB.mp List.nodup_range)
structure yR (xs os:List Str):Prop where
 nd:os.Nodup
 len:os.length<=4
 mem:∀ x∈os,x∈xs
theorem Kd.All.imp {P Q:Int->List Pr->Prop} (h:∀ c ps,P c ps->Q c ps):∀ {k:Kd},k.All P->k.All Q
 | .whole,_=>trivial
 | .place _ _,x=>h _ _ x
 | .row _ _ _,x=>⟨h _ _ x.1,Kd.All.imp h x.2⟩
 | .pair _ _,x=>⟨Kd.All.imp h x.1,Kd.All.imp h x.2⟩
theorem wl {xs os ns:List Str} {ks:List Kd} {ps:List Prm} {x:Str} {e:Dv} (nms:Nms xs) (O:yR xs os) (bk:BK os ks) (hn:ns.Perm os) (hp:ps.map (·.2)=ks) (nd:(ps.map (·.1)).Nodup) (hx:∀ p∈ps,p.1∈xs) (df:fv (.str x)=true) (sx:(Dv.str x).small=true) (ex:exD e=true) (se:e.small=true) (pe:L2.Pl 8 e):bt (Rw.df x ns ps e).dv=true/\(Rw.df x ns ps e).dv.small=true/\(Rw.df x ns ps e).Ok/\L2.Pl 12 (Rw.df x ns ps e).dv:=by
 have lp:ps.length<=4:=by have:=bk.len; rw [<- hp,ε] at this; exact this
 have ln:ns.length<=4:=by rw [hn.length_eq]; exact O.len
 have mn:∀ y∈ns,nmB y=true:=λy hy=>nms.nm y (O.mem y (hn.mem_iff.mp hy))
 have kA:∀ p∈ps,p.2.size<=4/\p.2.All (SmK os):=λp hp'=>bk.all p.2 (by rw [<- hp]; exact ϯ hp')
 have kS:∀ p∈ps,p.2.All SL:=λp hp'=>Kd.All.imp (λc qs h=>pO h.c0 h.c1 h.can (by have:=h.len; omega) λq hq=>⟨nms.nm _ (O.mem _ (h.all q hq).2),(h.all q hq).1⟩) (kA p hp').2
 refine ⟨?_,?_,?_,?_⟩
 ·show bt (.tup [.str "def",.str x,.tup (ns.map Dv.str),.tup (ps.map bw),e])=true
  rw [hZ,df,ex,Bool.and_true]
  have h1:cS (.tup (ns.map Dv.str))=true:=by
   show ((decide ((0:Int)<=((ns.map Dv.str).length:Int)) && decide (((ns.map Dv.str).length:Int)<=4)) && (ns.map Dv.str).all aV)=true
   rw [ε,decide_eq_true ∅,decide_eq_true ∅,Ϧ,Ϧ,CG,ϵ]
   exact λy hy=>mn y hy
  have h2:bX (.tup (ps.map bw))=true:=by
   show ((decide ((0:Int)<=((ps.map bw).length:Int)) && decide (((ps.map bw).length:Int)<=4)) && (ps.map bw).all cW)=true
   rw [ε,decide_eq_true ∅,decide_eq_true ∅,Ϧ,Ϧ,CG,ϵ]
   intro p hp'
   show (nmB p.1 && decide (aD p.2.dv<=12))=true
   rw [nms.nm _ (hx p hp'),hU (kS p hp'),decide_eq_true (by have:=(kA p hp').1; omega)]; rfl
  rw [h1,h2]; rfl
 ·refine aP (λd hd=>?_) (by show 5<=1000; decide)
  rcases ν.mp hd with rfl | hd
  ·decide +kernel
  rcases ν.mp hd with rfl | hd
  ·exact sx
  rcases ν.mp hd with rfl | hd
  ·exact aP (λd hd=>by obtain ⟨y,hy,rfl⟩:=Κ.mp hd; exact db (mn y hy)) (by rw [ε]; omega)
  rcases ν.mp hd with rfl | hd
  ·refine aP (λd hd=>?_) (by rw [ε]; omega)
   obtain ⟨p,hp',rfl⟩:=Κ.mp hd
   refine aP (λd hd=>?_) (by show 2<=1000; decide)
   rcases ν.mp hd with rfl | hd
   ·exact db (nms.nm _ (hx p hp'))
   ·rw [θ.mp hd]; exact fA (kS p hp')
  ·rw [θ.mp hd]; exact se
 ·exact ⟨hn.nodup_iff.mpr O.nd,nd,ln,lp,λp hp'=>⟨by have:=(kA p hp').1; omega,Kd.All.imp (λc qs h=>by have:=h.len; show qs.length<=40; omega) (kA p hp').2⟩⟩
 ·refine .tup λd hd=>?_
  rcases ν.mp hd with rfl | hd
  ·exact .str
  rcases ν.mp hd with rfl | hd
  ·exact .str
  rcases ν.mp hd with rfl | hd
  ·exact .tup λd hd=>by obtain ⟨y,hy,rfl⟩:=Κ.mp hd; exact .str
  rcases ν.mp hd with rfl | hd
  ·refine .tup λd hd=>?_
   obtain ⟨p,hp',rfl⟩:=Κ.mp hd
   refine .tup λd hd=>?_
   rcases ν.mp hd with rfl | hd
   ·exact .str
   ·rw [θ.mp hd]; exact p.2.pl.up (by have:=(kA p hp').1; omega)
  ·rw [θ.mp hd]; exact pe.up ∅
theorem um (os:List Str) (n:Nat):(os.drop n ++ os.take n).Perm os:=(List.perm_append_comm).trans (by rw [Dl])
theorem gr {H:Hp}:∀ ns:List Str,Reps H (ns.map Dv.str) (ns.map V.str)
 | []=>by simp [Reps]
 | n :: ns=>by simp only [Υ,Reps]; exact ⟨_,_,rfl,by simp only [Rep],gr ns⟩
def yo:Sp:=λvs H Q _=>∃ (x:Str) (a r:Addr) (n:Nat) (xs:List Str),vs=[.str x,.ref a,.ref r]/\Dr H a n/\H r=some (.lst (xs.map V.str))/\r≠a/\Nms xs/\fv (.str x)=true/\(Dv.str x).small=true /\
 ∀ (H':Hp) (v:V) (ns:List Str) (ps:List Prm) (e:Dv) (n':Nat),aE a H H'->Dr H' a n'->Rep H' (Rw.df x ns ps e).dv v->bt (Rw.df x ns ps e).dv=true->(Rw.df x ns ps e).dv.small=true->(Rw.df x ns ps e).Ok->L2.Pl 12 (Rw.df x ns ps e).dv->Q v H'
theorem vd:ao ["_law_f","_law_draws_here","_law_names_here","_law_cell","_law_order","_law_kinds","_law_params","_law_told"] ["_law_f","_law_draws_here","_law_names_here"] (ae vY):=by trivial
theorem yF {f:Addr} {fd:Μ} {k:Nat} (F:Fun K "_law_def" "_law_def" vY f fd) (T:Txt K mg) (D_law_next:Def P w K mg base k "_law_next" ["_law_draws_here"] eQ) (D_law_bound_kinds:Def P w K mg base k "_law_bound_kinds" ["_law_order","_law_draws_here"] Al) (D_law_expression:Def P w K mg base k "_law_expression" ["_law_draws_here","_law_names_here"] pY):aF P w K mg base CX0 (k + 1) f fd ["_law_f","_law_draws_here","_law_names_here"] yo:=by
 have nd:=vd.nd
 refine F.ok vd (λvs H Q E h=>?_) (λcdv A outer s H vs Q E hr h=>?_)
 ·obtain ⟨x,a,r,n,xs,rfl,_⟩:=h
  rfl
 obtain ⟨x,a,r,n,xs,rfl,hD,hR,ra,nms,df,sx,q⟩:=h
 refine ⟨_,(@un _ _ _ (wbO (wbM 3 nd rfl (Ef rfl) (waq D_law_next hr rfl (wae (wv 1 rfl) waf rfl) ∅ rfl rfl) rfl ∅) (wbO (wbJ ["_law_k"] ([2,3]) 4 nd rfl rfl (wbk rfl T.range (wae (waQ aA (waQ ba (wv 3 rfl) waC) waC) waf rfl) rfl) (.of rfl) rfl (λ_ _ _=>⟨pg_name (i:=0) (bB (l:=["_law_k","_law_names_here","_law_cell"]) (∅) rfl) rfl (Ι rfl)⟩) (bu ∅) (λ_ _ _=>wbx) (λ_ _ _=>(waD (nO K rfl) (wv 1 rfl) (waQ aA (waQ bC (wv 2 rfl) (wv 0 rfl)) waC) (λ_ _=>rfl))) rfl ∅) (wbO (wbI (wbS ay (waQ aA (waQ ba (wv 3 rfl) waC) waC) waC (ai _)) (wbQ (wbG (wak Ο PySem.F.slot_list_reverse PySem.F.type_list_reverse pM (wv 4 rfl) rfl rfl) rfl)) wbP) (wbO (wbM 5 nd rfl (Ι rfl) (waq D_law_bound_kinds hr rfl (wae (wv 4 rfl) (wae (wv 1 rfl) waf rfl) rfl) ∅ rfl rfl) rfl ∅) (wbO (wbJ (["_law_k","_law_kind"]) ([2,3]) 6 nd rfl rfl (wbg rfl T.enumerate (wae (wv 5 rfl) waf rfl) rfl) (.of rfl) rfl (λ_ _ _=>⟨pg_tup rfl (pgs_cons (pg_name (i:=0) (bB (l:=["_law_k","_law_kind","_law_names_here","_law_cell"]) (∅) rfl) rfl (Ι rfl)) (pgs_cons (pg_name (i:=1) (bB (l:=["_law_k","_law_kind","_law_names_here","_law_cell"]) (∅) rfl) rfl (Ι rfl)) pgs_nil))⟩) (kn ∅ ∅) (λ_ _ _=>wbx) (λ_ _ _=>(waX (wae (waD (nO K rfl) (wv 2 rfl) (waQ aA (waQ bC (waQ ba (wv 3 rfl) waC) (wv 0 rfl)) waC) (λ_ _=>rfl)) (wae (wv 1 rfl) waf rfl) rfl))) rfl ∅) (wbO (wbM 7 nd rfl (Ι rfl) (waQ eL (waT be (wv 4 rfl) (wbA (waQ aA (waQ ba (wv 3 rfl) waC) waC)) wbz) (waT be (wv 4 rfl) wbz (wbA (waQ aA (waQ ba (wv 3 rfl) waC) waC)))) rfl ∅) (wbQ (wbK (waX (wae waV (wae (wv 0 rfl) (wae (wam cz rfl T.tuple ∅ (wae (wv 7 rfl) waf rfl) ∅ ∅ rfl rfl) (wae (wam cz rfl T.tuple ∅ (wae (wv 6 rfl) waf rfl) ∅ ∅ rfl rfl) (wae (waq D_law_expression hr rfl (wae (wv 1 rfl) (wae (wv 2 rfl) waf rfl) rfl) ∅ rfl rfl) waf rfl) rfl) rfl) rfl) rfl))))))))))),?_⟩
 refine ⟨_,rfl,a,n,rfl,hD,λH1 c s1 D1 c0 c1=>?_⟩
 have r1:=s1 _ _ ra hR
 refine gnm ?_
 dsimp only
 obtain ⟨m0,m1⟩:=mod_lt (a:=c / 5) 5 ∅
 refine ⟨_,rfl,_,_,rfl,rfl,⟨∅,∅⟩,_,_,rfl,rfl,(by show (0:Int) < 5; decide),c / 5 % 5,rfl,∅,∅,kt (F:=λk=>V.str (nmA xs c k)) (n:=(c / 5 % 5).toNat) (λi ys hi ly=>bp ?_) ?_⟩
 ·refine ⟨_,rfl,_,rfl,_,rfl,_,_,rfl,rfl,_,_,rfl,rfl,(by show (0:Int) < 5; decide),r,_,_,.str (nmA xs c i),rfl,rfl,SqL.of r1,?_,by rw [ly,υ]; omega,rfl,rfl⟩
  obtain ⟨b0,b1⟩:=mod_lt (a:=c + (i:Int)) 5 ∅
  have:=ad (show (xs.map V.str)[((c + (i:Int)) % 5).toNat]?=some (V.str (nmA xs c i)) by rw [Ψ,fg nms c i]; rfl)
  rw [show ((((c + (i:Int)) % 5).toNat:Nat):Int)=(c + (i:Int)) % 5 by omega] at this
  simpa using this
 intro o ho
 have O0:yR xs ((Φ (c / 5 % 5).toNat).map (nmA xs c)):=⟨vQ nms c ∅,by rw [ε,ED]; omega,λy hy=>by obtain ⟨j,_,rfl⟩:=Κ.mp hy; exact rb nms c j⟩
 have o2:upd H1 o (.lst ((Φ (c / 5 % 5).toNat).map λk=>V.str (nmA xs c k))) o=some (.lst (((Φ (c / 5 % 5).toNat).map (nmA xs c)).map V.str)):=by rw [aa,ϓ]; rfl
 have p2:=ac ho (.lst ((Φ (c / 5 % 5).toNat).map λk=>V.str (nmA xs c k)))
 have oa:o≠a:=λe=>D1.some (e▸ho)
 have hO:H o=none:=by
  cases e:H o with
  | none=>rfl
  | some u=>rw [s1 _ _ oa e] at ho; cases ho
 have s2:=s1.trans (af.b a p2)
 have D2:=D1.m p2
 generalize (Φ (c / 5 % 5).toNat).map (nmA xs c)=os0 at O0 o2
 generalize upd H1 o (.lst ((Φ (c / 5 % 5).toNat).map λk=>V.str (nmA xs c k)))=H2 at o2 s2 D2 p2 ⊢
 refine gnm ?_
 dsimp only
 refine gl (λσ' H3=>∃ os:List Str,σ'=[some (.str x),some (.ref a),some (.ref r),some (.int c),some (.ref o),none,none,none]/\aE a H H3/\Dr H3 a (n - 1)/\H3 o=some (.lst (os.map V.str))/\yR xs os) ?N1 (λnx=>?_)
 case N1=>
  rintro _ H3 ⟨os,rfl,s3,D3,o3,O⟩
  have r3:=s3 _ _ ra hR
  refine ⟨_,rfl,_,rfl,o,a,_,os,rfl,D3,o3,oa,O.nd,O.len,λy hy=>nms.nm y (O.mem y hy),λH4 l us ks n4 s4 D4 hl la Hl Rk bk=>?_⟩
  have s04:=s3.trans s4
  have r4:=s04 _ _ ra hR
  have o4:=s4 _ _ oa o3
  have lus:us.length=ks.length:=by have:=Rk.length; rwa [ε] at this
  have lk:=bk.len
  refine gnm ?_
  dsimp only
  refine ⟨_,rfl,l,rfl,⟨us,SqL.of Hl⟩,qy (xs:=us) (λi zs H'=>af H4 H'/\∃ pl:List Prm,zs.length=i/\Reps H' (pl.map bw) zs/\pl.map (·.2)=ks.take i/\pl.map (·.1)=(Φ i).map (nmA xs (c / 50))) ⟨af.refl _,[],rfl,by simp [Reps],rfl,rfl⟩ (λi zs H' p=>SqL.of (p.1 _ _ Hl)) ?L1 ?_⟩
  case L1=>
   rintro i zs H5 u p hu ⟨s5,pl,lz,Rz,e1,e2⟩ hp
   obtain ⟨kd,hkd,Ru⟩:=bf Rk hu
   have hi:i < us.length:=(ο.mp hu).1
   have p6:=ac hp (.tup [.int i,u])
   have s6:=s5.trans p6
   refine iV aa ⟨_,rfl,_,rfl,_,_,rfl,rfl,⟨∅,∅⟩,_,rfl,_,_,rfl,rfl,_,_,rfl,rfl,(by show (0:Int) < 5; decide),r,_,_,.str (nmA xs (c / 50) i),rfl,rfl,SqL.of (s6 _ _ r4),?_,_,rfl,z2,λt ht=>⟨by rw [lz,υ]; omega,?_⟩⟩
   ·obtain ⟨b0,b1⟩:=mod_lt (a:=c / 50 + (i:Int)) 5 ∅
    have:=ad (show (xs.map V.str)[((c / 50 + (i:Int)) % 5).toNat]?=some (V.str (nmA xs (c / 50) i)) by rw [Ψ,fg nms (c / 50) i]; rfl)
    rwa [show ((((c / 50 + (i:Int)) % 5).toNat:Nat):Int)=(c / 50 + (i:Int)) % 5 by omega] at this
   ·have p7:=ac ht (.tup [.str (nmA xs (c / 50) i),u])
    refine ⟨s6.trans p7,pl ++ [(nmA xs (c / 50) i,kd)],by rw [ψ,lz]; rfl,?_,?_,?_⟩
    ·rw [ω]
     refine Reps.append (Rz.mono (p6.trans p7)) (aN (show Rep _ (.tup [.str (nmA xs (c / 50) i),kd.dv]) (.ref t) from ?_))
     rw [Rep]
     exact ⟨t,_,rfl,aa,by simp only [Reps]; exact ⟨_,_,rfl,by simp only [Rep],_,_,rfl,(Ru.mono s6).mono p7,rfl⟩⟩
    ·rw [ω,e1,ϣ,hkd]; rfl
    ·rw [ω,e2,CS,ω]; rfl
  rintro zs H5 ⟨s5,ps,lz,Rz,e1,e2⟩ pp hpp
  rw [lus,Ϥ] at e1
  rw [lus] at e2
  have p6:=ac hpp (.lst zs)
  have h6:upd H5 pp (.lst zs) pp=some (.lst zs):=aa
  have s46:=s5.trans p6
  have R6:=Rz.mono p6
  have pa:pp≠a:=λe=>(D4.m s5).some (e▸hpp)
  generalize upd H5 pp (.lst zs)=H6 at h6 s46 R6 p6 ⊢
  refine gnm ?_
  dsimp only
  obtain ⟨g0,g1⟩:=mod_lt (a:=c / 250) 5 ∅
  obtain ⟨gn,hgn⟩:∃ gn:Nat,c / 250 % 5=(gn:Int):=⟨(c / 250 % 5).toNat,∅⟩
  refine ⟨_,rfl,_,rfl,_,_,rfl,rfl,⟨∅,∅⟩,_,_,rfl,rfl,(by show (0:Int) < 5; decide),_,rfl,o,_,rfl,SqL.of (s46 _ _ o4),λt1 ht1=>?_⟩
  have p7:=ac ht1 (.lst (aB (os.map V.str) (some (c / 250 % 5)) none))
  refine ⟨_,rfl,_,rfl,_,_,rfl,rfl,⟨∅,∅⟩,_,_,rfl,rfl,(by show (0:Int) < 5; decide),_,rfl,o,_,rfl,SqL.of (p7 _ _ (s46 _ _ o4)),λt2 ht2=>?_⟩
  have p8:=ac ht2 (.lst (aB (os.map V.str) none (some (c / 250 % 5))))
  refine ⟨t1,t2,_,_,rfl,rfl,p8 _ _ aa,aa,?_,λt3 ht3=>?_⟩
  ·rw [hgn,bG,cK,c_,ϊ,ε,υ]; have:=O.len; omega
  have p9:=ac ht3 (.lst (aB (os.map V.str) (some (c / 250 % 5)) none ++ aB (os.map V.str) none (some (c / 250 % 5))))
  have e9:aB (os.map V.str) (some (c / 250 % 5)) none ++ aB (os.map V.str) none (some (c / 250 % 5))=(os.drop gn ++ os.take gn).map V.str:=by rw [hgn,bG,cK,ω,List.map_drop,CP]
  have h9:=aa (H:=upd (upd H6 t1 (.lst (aB (os.map V.str) (some (c / 250 % 5)) none))) t2 (.lst (aB (os.map V.str) none (some (c / 250 % 5))))) (a:=t3) (o:=.lst (aB (os.map V.str) (some (c / 250 % 5)) none ++ aB (os.map V.str) none (some (c / 250 % 5))))
  have s69:=p7.trans (p8.trans p9)
  rw [e9] at h9 s69
  rw [e9]
  generalize upd _ t3 _=H9 at h9 s69 ⊢
  refine gnm ?_
  dsimp only
  have s49:=s46.trans s69
  refine ⟨_,rfl,_,rfl,t3,_,rfl,.inl ⟨SqL.of h9,λu1 hu1=>?_⟩⟩
  have p10:=ac hu1 (.tup ((os.drop gn ++ os.take gn).map V.str))
  refine ⟨_,rfl,pp,_,rfl,.inl ⟨SqL.of (p10 _ _ (s69 _ _ h6)),λu2 hu2=>?_⟩⟩
  have p11:=ac hu2 (.tup zs)
  have q1:=p11 _ _ (aa (H:=H9) (a:=u1) (o:=.tup ((os.drop gn ++ os.take gn).map V.str)))
  have q2:=aa (H:=upd H9 u1 (.tup ((os.drop gn ++ os.take gn).map V.str))) (a:=u2) (o:=.tup zs)
  have s411:=s49.trans (p10.trans p11)
  have R11:=R6.mono (s69.trans (p10.trans p11))
  generalize upd (upd H9 u1 (.tup ((os.drop gn ++ os.take gn).map V.str))) u2 (.tup zs)=H11 at q1 q2 s411 R11 ⊢
  refine ⟨_,rfl,_,rfl,a,r,n4,xs,rfl,D4.m s411,s411 _ _ r4,ra,nms,λH12 ve e s12 D12 Re ee se pe=>⟨by rw [υ]; show 5<=16777216; decide,λw0 hw0=>?_⟩⟩
  have t12:=(D4.m s411).tups s12
  have p13:=ac hw0 (.tup [.str "def",.str x,.ref u1,.ref u2,ve])
  have pse:∀ p∈ps,p.1∈xs:=λp hp=>by
   have:p.1∈ps.map (·.1):=ϯ hp
   rw [e2] at this
   obtain ⟨j,_,hj⟩:=Κ.mp this
   rw [<- hj]; exact rb nms _ j
  obtain ⟨g1',g2',g3',g4'⟩:=wl (ns:=os.drop gn ++ os.take gn) nms O bk (um os gn) e1 (by rw [e2]; exact vQ nms _ ∅) pse df sx ee se pe
  refine q _ _ _ ps e _ ((s04.trans (af.b a s411)).trans (s12.trans (af.b a p13))) (D12.m p13) ?_ g1' g2' g3' g4'
  show Rep _ (.tup [.str "def",.str x,.tup ((os.drop gn ++ os.take gn).map Dv.str),.tup (ps.map bw),e]) (.ref w0)
  rw [Rep]
  refine ⟨w0,_,rfl,aa,?_⟩
  have h1:Rep (upd H12 w0 (.tup [.str "def",.str x,.ref u1,.ref u2,ve])) (.tup ((os.drop gn ++ os.take gn).map Dv.str)) (.ref u1):=by
   rw [Rep]; exact ⟨u1,_,rfl,p13 _ _ (t12 _ _ q1),gr _⟩
  have h2:Rep (upd H12 w0 (.tup [.str "def",.str x,.ref u1,.ref u2,ve])) (.tup (ps.map bw)) (.ref u2):=by
   rw [Rep]
   refine ⟨u2,zs,rfl,p13 _ _ (t12 _ _ q2),?_⟩
   refine aL (λd hd v rr=>?_) R11
   obtain ⟨p,hp,rfl⟩:=Κ.mp hd
   exact cD (t12.trans (af.tups p13)) (n:=p.2.size + 4) (.tup λd hd=>by
    rcases ν.mp hd with rfl | hd
    ·exact .str
    ·rw [θ.mp hd]; exact p.2.pl) rr
  simp only [Reps]
  exact ⟨_,_,rfl,by simp only [Rep],_,_,rfl,by simp only [Rep],_,_,rfl,h1,_,_,rfl,h2,_,_,rfl,Re.mono p13,rfl⟩
 refine ⟨_,rfl,_,_,rfl,rfl,⟨∅,∅⟩,_,_,rfl,rfl,(by show (0:Int) < 2; decide),rfl,_,rfl,au (λ_=>?_) (λ_=>nx _ _ ⟨os0,rfl,s2,D2,o2,O0⟩)⟩
 refine ⟨_,rfl,.inl ⟨rfl,_,SqL.of o2⟩,o,_,rfl,rfl,o2,?_⟩
 have sB:=aE.upd H2 o (.lst (os0.map V.str).reverse)
 refine nx _ _ ⟨os0.reverse,rfl,λg ob hg e=>sB g ob (ag e hO) (s2 g ob hg e),D2.b sB (ώ oa),by rw [aa,Dw],⟨(List.reverse_perm os0).nodup_iff.mpr O0.nd,by rw [ϲ]; exact O0.len,λy hy=>O0.mem y (List.mem_reverse.mp hy)⟩⟩
abbrev gc:Stmt:=top 66
def fN (i:Nat):Str:=ξ "f" ++ ⟨#[97 + i]⟩
theorem zV:∀ i,i < 12->fv (.str (fN i))=true/\(Dv.str (fN i)).small=true:=by decide +kernel
theorem ze:∀ i,i < 12->∀ j,j < 12->fN i=fN j->i=j:=by decide +kernel
theorem Bi {i:Nat} (h1:i < 12):atI (ξ "abcdefghijkl").cps.toList ((i:Int) % 12)=some (97 + i):=by
 have h:∀ j,j < 12->(ξ "abcdefghijkl").cps.toList[j]?=some (97 + j):=by decide +kernel
 rw [Int.emod_eq_of_lt ∅ ∅]
 exact ad (h i h1)
structure jf (i:Nat) (rs:List Rw):Prop where
 len:rs.length=i
 row:∀ r∈rs,bt r.dv=true/\r.dv.small=true
 ok:∀ r∈rs,r.Ok
 pl:∀ r∈rs,L2.Pl 12 r.dv
 nd:(rs.flatMap Rw.f?).Nodup
 fs:∀ x∈rs.flatMap Rw.f?,∃ j,j < i/\x=fN j
theorem jf.ask {i:Nat} {rs:List Rw} {e:Dv} (I:jf i rs) (ex:exD e=true) (se:e.small=true) (pe:L2.Pl 8 e):jf (i + 1) (rs ++ [.ask e]):=by
 have ef:(rs ++ [Rw.ask e]).flatMap Rw.f?=rs.flatMap Rw.f?:=by rw [c6]; simp [Rw.f?]
 refine ⟨by rw [ψ,I.len]; rfl,λr hr=>?_,λr hr=>?_,λr hr=>?_,by rw [ef]; exact I.nd,λx hx=>by rw [ef] at hx; obtain ⟨j,hj,e⟩:=I.fs x hx; exact ⟨j,∅,e⟩⟩
 ·rcases ϒ.mp hr with h | h
  ·exact I.row r h
  ·rw [θ.mp h]
   exact ⟨by show bt (.tup [.str "ask",e])=true; rw [rG]; exact ex,aP (λd hd=>by
    rcases ν.mp hd with rfl | hd
    ·decide +kernel
    ·rw [θ.mp hd]; exact se) (by show 2<=1000; decide)⟩
 ·rcases ϒ.mp hr with h | h
  ·exact I.ok r h
  ·rw [θ.mp h]; exact trivial
 ·rcases ϒ.mp hr with h | h
  ·exact I.pl r h
  ·rw [θ.mp h]
   exact .tup λd hd=>by
    rcases ν.mp hd with rfl | hd
    ·exact .str
    ·rw [θ.mp hd]; exact pe.up ∅
theorem jf.df {i:Nat} {rs:List Rw} {ns:List Str} {ps:List Prm} {e:Dv} (I:jf i rs) (hi:i < 12) (h1:bt (Rw.df (fN i) ns ps e).dv=true) (h2:(Rw.df (fN i) ns ps e).dv.small=true) (h3:(Rw.df (fN i) ns ps e).Ok) (h4:L2.Pl 12 (Rw.df (fN i) ns ps e).dv):jf (i + 1) (rs ++ [.df (fN i) ns ps e]):=by
 have ef:(rs ++ [Rw.df (fN i) ns ps e]).flatMap Rw.f?=rs.flatMap Rw.f? ++ [fN i]:=by rw [c6]; simp [Rw.f?]
 refine ⟨by rw [ψ,I.len]; rfl,λr hr=>?_,λr hr=>?_,λr hr=>?_,?_,λx hx=>?_⟩
 ·rcases ϒ.mp hr with h | h
  ·exact I.row r h
  ·rw [θ.mp h]; exact ⟨h1,h2⟩
 ·rcases ϒ.mp hr with h | h
  ·exact I.ok r h
  ·rw [θ.mp h]; exact h3
 ·rcases ϒ.mp hr with h | h
  ·exact I.pl r h
  ·rw [θ.mp h]; exact h4
 ·rw [ef]
  refine Da.mpr ⟨I.nd,∅,λx hx y hy e=>?_⟩
  rw [θ.mp hy] at e
  obtain ⟨j,hj,e2⟩:=I.fs x hx
  have:=ze j ∅ i hi (e2.symm.trans e)
  omega
 ·rw [ef] at hx
  rcases ϒ.mp hx with h | h
  ·obtain ⟨j,hj,e⟩:=I.fs x h; exact ⟨j,∅,e⟩
  ·exact ⟨i,∅,θ.mp h⟩
theorem jf.pg {i:Nat} {rs:List Rw} (I:jf i rs) (h:i<=12):yL rs:=⟨by rw [I.len]; exact h,I.row,I.ok,I.nd⟩
theorem ky (ns:List Int) (lo hi:Option Int):∃ ms:List Int,aB (ns.map V.int) lo hi=ms.map V.int/\ms.length<=ns.length:=by
 unfold aB
 rw [ε]
 refine ⟨(ns.drop (HT.sIx ns.length 0 lo)).take (HT.sIx ns.length ns.length hi - HT.sIx ns.length 0 lo),by rw [CP,List.map_drop],?_⟩
 rw [ϊ,c_]
 omega
theorem rs6 (n:Nat) (h:n<=63):(ϖ 0 (if (n:Int) > 1 then (n:Int) else 1) 6).toNat<=12:=by
 unfold ϖ
 split <;> (repeat' split) <;> omega
def vy (K:ι):Sp:=λvs H Q _=>∃ (sc r:Addr) (ns:List Int) (xs:List Str),vs=[.ref sc,.ref r]/\SqL K H sc (ns.map V.int)/\ns.length<=63/\H r=some (.lst (xs.map V.str))/\Nms xs /\
 ∀ (H':Hp) (l:Addr) (us:List V) (rs:List Rw),af H H'->H l=none->H' l=some (.lst us)->Reps H' (rs.map Rw.dv) us->yL rs->(∀ r∈rs,L2.Pl 12 r.dv)->(∀ x∈rs.flatMap Rw.f?,∃ j,j < 12/\x=fN j)->Q (.ref l) H'
theorem ip:ao ["_law_script","_law_names_here","_law_rows","_law_begin","_law_draws_here","_law_way"] ["_law_script","_law_names_here"] (ae gc):=by trivial
theorem pT {f:Addr} {fd:Μ} {k:Nat} (F:Fun K "_law_program" "_law_program" gc f fd) (T:Txt K mg) (D_law_draws:Def P w K mg base k "_law_draws" ["_law_cells","_law_many"] (kb K)) (D_law_next:Def P w K mg base k "_law_next" ["_law_draws_here"] eQ) (D_law_expression:Def P w K mg base k "_law_expression" ["_law_draws_here","_law_names_here"] pY) (D_law_def:Def P w K mg base k "_law_def" ["_law_f","_law_draws_here","_law_names_here"] yo):aF P w K mg base CX0 (k + 1) f fd ["_law_script","_law_names_here"] (vy K):=by
 have nd:=ip.nd
 refine F.ok ip (λvs H Q E h=>?_) (λcdv A outer s H vs Q E hr h=>?_)
 ·obtain ⟨sc,r,ns,xs,rfl,_⟩:=h
  rfl
 obtain ⟨sc,r,ns,xs,rfl,hS,h63,hR,nms,q⟩:=h
 refine ⟨_,(@un _ _ _ (wbO (wbM 2 nd rfl (Ι rfl) (waM waf) rfl ∅) (wbO (wbH Ϯ rfl (wbm rfl T.range (wae waC (wae (wal (jS rfl) rfl T.max ∅ (wae waC (wae (wal ak rfl T.len ∅ (wae (wv 0 rfl) waf rfl) ∅ ∅ rfl rfl) waf rfl) rfl) ∅ ∅ rfl rfl) (wae waC waf rfl) rfl) rfl) rfl rfl) (waZ 3 nd rfl (Ι rfl) ∅) (wbO (wbM 4 nd rfl (Ι rfl) (waq D_law_draws hr rfl (wae (waT be (waQ eL (waT be (wv 0 rfl) (wbA (wv 3 rfl)) (wbA (waQ bC (wv 3 rfl) waC))) (waQ uG (waM (wae waC waf rfl)) waC)) wbz (wbA waC)) (wae waC waf rfl) rfl) ∅ rfl rfl) rfl ∅) (wbO (wbM 5 nd rfl (Ι rfl) (waq D_law_next hr rfl (wae (wv 4 rfl) waf rfl) ∅ rfl rfl) rfl ∅) (wbQ (wbI (wbS ay (waQ aA (wv 5 rfl) waC) waC (ai _)) (wbQ (wbG (waj Ο ϫ Ϭ bd (wv 2 rfl) (wae (waX (wae waV (wae (waq D_law_expression hr rfl (wae (wv 4 rfl) (wae (wv 1 rfl) waf rfl) rfl) ∅ rfl rfl) waf rfl) rfl)) waf rfl) rfl rfl rfl rfl rfl) rfl)) (wbQ (wbG (waj Ο ϫ Ϭ bd (wv 2 rfl) (wae (waq D_law_def hr rfl (wae (waQ bi waV (waD oq waV (waQ aA (wal ak rfl T.len ∅ (wae (wv 2 rfl) waf rfl) ∅ ∅ rfl rfl) waC) (λ_ _=>rfl))) (wae (wv 4 rfl) (wae (wv 1 rfl) waf rfl) rfl) rfl) ∅ rfl rfl) waf rfl) rfl rfl rfl rfl rfl) rfl)))))) ∅) (wbQ (wbK (waT be (wv 2 rfl) wbz (wbA waC))))))),?_⟩
 refine ⟨Ω _,λL hL=>?_⟩
 have s0:=ac hL (.lst [])
 have h0:upd H L (.lst []) L=some (.lst []):=aa
 generalize upd H L (.lst [])=H0 at s0 h0 ⊢
 have B2:(if ((ns.map V.int).length:Int) > 1 then ((ns.map V.int).length:Int) else 1) < (1000000:Int):=by
  rw [ε]
  split <;> omega
 refine ⟨_,rfl,sc,_,rfl,.inl (s0.seq hS),_,_,rfl,0,_,6,rfl,⟨∅,∅,∅,∅,?B1,B2⟩,jN (λi σ H'=>∃ (o3 o4 o5:Option V) (rs:List Rw) (us:List V),σ=[some (.ref sc),some (.ref r),some (.ref L),o3,o4,o5]/\af H H'/\H' L=some (.lst us)/\Reps H' (rs.map Rw.dv) us/\jf i rs) ⟨_,_,_,[],[],rfl,s0,h0,by simp [Reps],⟨rfl,∅,∅,∅,∅,∅⟩⟩ ?T1 ?_⟩
 case B1=>
  show (-1000000:Int)<=(if ((ns.map V.int).length:Int) > 1 then ((ns.map V.int).length:Int) else 1)
  split <;> omega
 case T1=>
  rintro i σ H2 D1 go1 hi ⟨o3,o4,o5,rs,us,rfl,s2,L2',R2,I2⟩
  have s02:=s2
  have i12:i < 12:=by have:=rs6 ns.length h63; rw [ε] at hi; omega
  obtain ⟨ms,hms,lms⟩:=ky ns (some (0 + (i:Int) * 6)) (some (0 + (i:Int) * 6 + 6))
  refine ⟨_,rfl,_,rfl,_,rfl,_,rfl,_,_,rfl,rfl,_,rfl,sc,_,rfl,s02.seq hS,λe1 he1=>⟨z1,λe2 he2=>⟨e2,6,_,rfl,rfl,aa,∅,∅,by rw [υ]; decide,λe3 he3=>?_⟩⟩⟩
  have c1:=ac he1 (.lst (aB (ns.map V.int) (some (0 + (i:Int) * 6)) (some (0 + (i:Int) * 6 + 6))))
  have c2:=ac he2 (.lst [.int 0])
  have c3:=ac he3 (.lst (Α (6:Int).toNat [V.int 0]).flatten)
  have f1:=c3 _ _ (c2 _ _ (aa (H:=H2) (a:=e1) (o:=.lst (aB (ns.map V.int) (some (0 + (i:Int) * 6)) (some (0 + (i:Int) * 6 + 6))))))
  refine ⟨e1,e3,_,_,rfl,rfl,f1,aa,?_,λe4 he4=>?_⟩
  ·rw [hms,ε,υ]
   have:(Α (6:Int).toNat [V.int 0]).flatten.length=6:=by decide
   omega
  have c4:=ac he4 (.lst (aB (ns.map V.int) (some (0 + (i:Int) * 6)) (some (0 + (i:Int) * 6 + 6)) ++ (Α (6:Int).toNat [V.int 0]).flatten))
  refine ⟨6,rfl,e4,_,rfl,SqL.of aa,λe5 he5=>?_⟩
  have c5:=ac he5 (.lst (aB (aB (ns.map V.int) (some (0 + (i:Int) * 6)) (some (0 + (i:Int) * 6 + 6)) ++ (Α (6:Int).toNat [V.int 0]).flatten) none (some 6)))
  have hcells:∃ cells:List Int,aB (aB (ns.map V.int) (some (0 + (i:Int) * 6)) (some (0 + (i:Int) * 6 + 6)) ++ (Α (6:Int).toNat [V.int 0]).flatten) none (some 6)=cells.map V.int/\cells.length=6:=by
   refine ⟨(ms ++ Α 6 0).take 6,?_,by rw [ϊ,ψ,u8]; omega⟩
   have e:=cK (aB (ns.map V.int) (some (0 + (i:Int) * 6)) (some (0 + (i:Int) * 6 + 6)) ++ (Α (6:Int).toNat [V.int 0]).flatten) 6
   rw [CP,ω,<- hms]
   exact e
  obtain ⟨cells,hc,lc⟩:=hcells
  have s5:=c1.trans (c2.trans (c3.trans (c4.trans c5)))
  have f5:=aa (H:=upd (upd (upd (upd H2 e1 (.lst (aB (ns.map V.int) (some (0 + (i:Int) * 6)) (some (0 + (i:Int) * 6 + 6))))) e2 (.lst [.int 0])) e3 (.lst (Α (6:Int).toNat [V.int 0]).flatten)) e4 (.lst (aB (ns.map V.int) (some (0 + (i:Int) * 6)) (some (0 + (i:Int) * 6 + 6)) ++ (Α (6:Int).toNat [V.int 0]).flatten))) (a:=e5) (o:=.lst (aB (aB (ns.map V.int) (some (0 + (i:Int) * 6)) (some (0 + (i:Int) * 6 + 6)) ++ (Α (6:Int).toNat [V.int 0]).flatten) none (some 6)))
  rw [hc] at f5 s5
  rw [hc]
  generalize upd _ e5 _=H3 at f5 s5 ⊢
  clear c1 c2 c3 c4 c5 f1 he1 he2 he3 he4 he5
  refine ⟨e5,36,cells,rfl,SqL.of f5,∅,∅,∅,∅,λH4 dA s4 hdA d4=>?_⟩
  have s24:=s5.trans s4
  have dAn:H2 dA=none:=s5.free hdA
  refine gnm ?_
  dsimp only
  refine ⟨_,rfl,dA,_,rfl,d4,λH5 x s5' d5 x0 x1=>?_⟩
  have s25:af H2 H5:=λg o e=>s5' g o (ag e dAn) (s24 _ _ e)
  have s05:=s02.trans s25
  have L5:=s25 _ _ L2'
  have LA:L≠dA:=ag L2' dAn
  have rA:r≠dA:=ag (s02 _ _ hR) dAn
  have r5:=s05 _ _ hR
  have lus:us.length=rs.length:=by have:=R2.length; rwa [ε] at this
  have lrs:=I2.len
  have rr:∀ {G G':Hp} {vs:List V},cm G G'->Reps G (rs.map Rw.dv) vs->Reps G' (rs.map Rw.dv) vs:=λt R=>aL (λd hd v r=>by obtain ⟨y,hy,rfl⟩:=Κ.mp hd; exact cD t (I2.pl y hy) r) R
  have R5:=R2.mono s25
  have hAn:H dA=none:=by
   cases e:H dA with
   | none=>rfl
   | some u=>rw [s02 _ _ e] at dAn; cases dAn
  refine gnm ?_
  dsimp only
  have fin:∀ (H6:Hp) (v:V) (rw':Rw),aE dA H5 H6->cm H5 H6->Rep H6 rw'.dv v->jf (i + 1) (rs ++ [rw'])->H6 L=some (.lst us)/\us.length < sizeLine/\D1.nx [some (.ref sc),some (.ref r),some (.ref L),some (.int (0 + (i:Int) * 6)),some (.ref dA),some (.int x)] (upd H6 L (.lst (us ++ [v]))):=λH6 v rw' s6 t6 Rv I6=>by
   have L6:=s6 _ _ LA L5
   have sB:=aE.upd H6 L (.lst (us ++ [v]))
   have tB:=sB.tups L6
   refine ⟨L6,by rw [υ]; omega,go1 _ _ ⟨_,_,_,rs ++ [rw'],us ++ [v],rfl,λg o e=>sB g o (ag e hL) (s6 g o (ag e hAn) (s05 _ _ e)),aa,?_,I6⟩⟩
   rw [ω]
   exact Reps.append (rr (t6.trans tB) R5) (aN (cD tB (I6.pl rw' ∅) Rv))
  refine ⟨_,rfl,_,_,rfl,rfl,(by show (0:Int) < 4; decide),rfl,_,rfl,au (λ_=>?_) (λ_=>?_)⟩
  ·refine ⟨_,rfl,.inl ⟨rfl,_,SqL.of L5⟩,_,rfl,_,rfl,dA,r,_,xs,rfl,d5,r5,rA,nms,λH6 v e s6 D6 Re ee se pe=>⟨z2,λt ht=>?_⟩⟩
   have p7:=ac ht (.tup [.str "ask",v])
   have Ra:Rep (upd H6 t (.tup [.str "ask",v])) (Rw.ask e).dv (.ref t):=by
    show Rep _ (.tup [.str "ask",e]) _
    rw [Rep]
    exact ⟨t,_,rfl,aa,by simp only [Reps]; exact ⟨_,_,rfl,by simp only [Rep],_,_,rfl,Re.mono p7,rfl⟩⟩
   obtain ⟨g1,g2,g3⟩:=fin _ (.ref t) (.ask e) (s6.trans (af.b dA p7)) ((d5.tups s6).trans (af.tups p7)) Ra (I2.ask ee se pe)
   exact ⟨L,_,_,rfl,rfl,g1,g2,g3⟩
  ·obtain ⟨k1,k2⟩:=zV i i12
   have hl:(((us.length:Nat):Int) % 12)=((i:Int) % 12):=by rw [lus,lrs]
   have hat:atI (ξ "abcdefghijkl").cps.toList (((us.length:Nat):Int) % 12)=some (97 + i):=by rw [hl]; exact Bi i12
   refine ⟨_,rfl,.inl ⟨rfl,_,SqL.of L5⟩,_,rfl,L,us,rfl,.inl (SqL.of L5),_,_,rfl,rfl,(by show (0:Int) < 12; decide),_,_,_,rfl,rfl,(by rw [υ]; decide +kernel),hat,_,_,rfl,rfl,?_,_,rfl,_,rfl,fN i,dA,r,_,xs,rfl,d5,r5,rA,nms,k1,k2,λH6 v qs ps e n6 s6 D6 Rv h1 h2 h3 h4=>?_⟩
   ·rw [υ]; show _<=16777216; exact ϟ (show (ξ "f").length + 1<=2 by decide +kernel) ∅
   ·obtain ⟨g1,g2,g3⟩:=fin H6 v (.df (fN i) qs ps e) s6 (d5.tups s6) Rv (I2.df i12 h1 h2 h3 h4)
    exact ⟨L,_,_,rfl,rfl,g1,g2,g3⟩
 rintro σ H2 ⟨o3,o4,o5,rs,us,rfl,s2,L2',R2,I2⟩
 have n12:=rs6 ns.length h63
 rw [ε] at I2
 have lus:us.length=rs.length:=by have:=R2.length; rwa [ε] at this
 have lrs:=I2.len
 refine ⟨_,rfl,12,rfl,L,us,rfl,SqL.of L2',λl hl=>?_⟩
 have e:aB us none (some 12)=us:=by
  rw [show (12:Int)=((12:Nat):Int) from rfl,cK]
  exact Cb ∅
 rw [e]
 have p3:=ac hl (.lst us)
 exact q _ l us rs (s2.trans p3) (s2.free hl) aa (R2.mono p3) (I2.pg ∅) I2.pl λx hx=>let ⟨j,hj,e⟩:=I2.fs x hx; ⟨j,∅,e⟩
open PySem L2 KB XB L2.EX WR
def zZ (s:Stmt) (i:Nat):Stmt:=match s with | .ClassDef _ _ _ body _ _ _ _ _ _ _=>body.getD i (.Pass ⟨0,0,0,0⟩) | _=>.Pass ⟨0,0,0,0⟩
abbrev dX:Stmt:=zZ (top 1) 0
def Thr (E:XK) (H:Hp) (C:Addr) (i:Nat):Prop:=∀ (H':Hp) (dx p:Addr),af H H'->H' dx=some (.xd [("place",.ref p)])->H' p=some (.tup [.int i,.int 0])->E (.ref C) (some dx) H'
theorem Thr.same {E:XK} {H H1:Hp} {C:Addr} {i:Nat} (h:Thr E H C i) (s:af H H1):Thr E H1 C i:=λH' dx p s1 h1 h2=>h H' dx p (s.trans s1) h1 h2
theorem Thr.at_ {E:XK} {H H1:Hp} {C p:Addr} {i:Nat} (h:Thr E H C i) (s:af H H1) (hp:H1 p=none):∀ dx,upd H1 p (.tup [.int (i:Int),.int 0]) dx=none->E (.ref C) (some dx) (upd (upd H1 p (.tup [.int (i:Int),.int 0])) dx (.xd [("place",.ref p)])):=λdx hd=>
 h _ dx p (s.trans ((ac hp _).trans (ac hd _))) aa (ac hd _ _ _ aa)
def Rw.Fit:Rw->Prop
 | .ask _=>True
 | .df _ ns ps _=>ns.length<=4/\ps.length<=4/\∀ p∈ps,p.2.size<=12/\p.2.All L40
def twB (rs:List Rw) (i:Nat):Prop:=∃ f ns ps e,rs[i]?=some (.df f ns ps e)/\(f∈(rs.take i).flatMap Rw.f?\/¬ ns.Nodup\/¬ (ps.map (·.1)).Nodup)
def nbB (rs:List Rw) (i:Nat):Prop:=∃ f ns ps e,rs[i]?=some (.df f ns ps e)/\om ns ps=false
def Ab (c:Addr):Sp:=λvs H Q E=>∃ (l:Addr) (us:List V) (ds:List Dv),vs=[.ref l]/\H l=some (.lst us)/\Reps H ds us/\(∀ d∈ds,d.small=true)/\ds.length<=12/\((∀ d∈ds,bt d=true)->∀ H',af H H'->Q .non H') /\
 ∀ i d,ds[i]?=some d->bt d=false->(∀ j d',j < i->ds[j]?=some d'->bt d'=true)->Thr E H c i
def xl (bad:List Rw->Nat->Prop) (c:Addr):Sp:=λvs H Q E=>∃ (l:Addr) (us:List V) (rs:List Rw),vs=[.ref l]/\H l=some (.lst us)/\Reps H (rs.map Rw.dv) us/\(∀ r∈rs,r.Fit)/\rs.length<=12/\((∀ i,¬ bad rs i)->∀ H',af H H'->Q .non H') /\
 ∀ i,bad rs i->(∀ j,j < i->¬ bad rs j)->Thr E H c i
theorem tK:ao ["self","place"] ["self","place"] (ae dX):=by trivial
theorem vR {D fI:Addr} {fd:Μ} {dV:δ} (F:sK K "__init__" "IndexwiseError.__init__" dX fI fd dV) (T:Txt K mg):aF P w K mg base CX0 1 fI fd ["self","place"] (eP K D fI):=by
 refine F.ok tK (λvs H Q E h=>?_) (λcdv A outer s H vs Q E hr h=>?_)
 ·obtain ⟨e,C,t,v,rfl,_⟩:=h
  rfl
 obtain ⟨e,C,t,v,rfl,he,c,q⟩:=h
 refine ⟨_,(@un _ _ _ (wbO (wbG (wcd D fI rfl T.ValueError ∅ (wae (wv 0 rfl) (wae (wv 1 rfl) waf rfl) rfl) rfl rfl rfl) rfl) (wbQ (wce D fI (wv 0 rfl) (wv 1 rfl) rfl)))),?_⟩
 refine ⟨_,rfl,_,rfl,e,C,t,v,rfl,he,c,λt'=>⟨_,rfl,_,rfl,e,C,t',rfl,aa,c,λdx hd hne=>?_⟩⟩
 have hd':H dx=none:=by rw [ah hne] at hd; exact hd
 have z:=q dx t' hd' hne
 have y:upd (upd (upd H e (Xr C t' e)) dx (.xd [("place",v)])) e (Xo C t' dx e)=upd (upd H dx (.xd [("place",v)])) e (Xo C t' dx e):=by
  funext b
  by_cases hb:b=e
  ·rw [hb,aa,aa]
  ·rw [ah hb,ah hb]
   by_cases hx:b=dx
   ·rw [hx,aa,aa]
   ·rw [ah hx,ah hx,ah hb]
 show Q .non (upd (upd (upd H e (Xr C t' e)) dx (.xd [("place",v)])) e (Xo C t' dx e))
 rw [y]; exact z
theorem eC:ao ["rows","number","row"] ["rows"] (ae dw):=by trivial
theorem jk {f D fI aNoProgram:Addr} {fd fdI:Μ} {psI:List Str} {k:Nat} (F:Fun K "hold_rows" "hold_rows" dw f fd) (T:Txt K mg) (c_NoProgram:cx K D fI aNoProgram) (G_NoProgram:mg "NoProgram"=some (.ref aNoProgram)) (FI:aF P w K mg base CX0 k fI fdI psI (eP K D fI)) (BI:bx K fdI psI [])
  (Dis_row:Def P w K mg base (k + 1) "is_row" ["thing"] (spS bt)):aF P w K mg base (CXe P w) (k + 2) f fd ["rows"] (Ab aNoProgram):=by
 have nd:=eC.nd
 refine okX F eC (λvs H Q E h=>?_) (λcdv A outer s H vs Q E hr h=>?_)
 ·obtain ⟨l,us,rs,rfl,_⟩:=h
  rfl
 obtain ⟨l,us,ds,rfl,hl,Ru,sm,l12,q,bad⟩:=h
 refine ⟨_,(@un _ _ _ (wbQ (wbH EI rfl (wbg rfl T.enumerate (wae (wv 0 rfl) waf rfl) rfl) (wbb rfl (wbd (waZ 1 nd rfl (Ι rfl) ∅) (wbd (waZ 2 nd rfl (Ι rfl) ∅) wbe rfl) rfl) rfl rfl) (wbQ (wbI (wbT (wbV (waq Dis_row hr rfl (wae (wv 2 rfl) waf rfl) ∅ rfl rfl) ∅)) (wbQ (wca c_NoProgram FI hr BI rfl G_NoProgram dP (wae (waX (wae (wv 1 rfl) (wae waC waf rfl) rfl)) waf rfl) ∅ rfl rfl)) wbP)) ∅))),?_⟩
 have lu:us.length=ds.length:=Ru.length
 refine ⟨_,rfl,l,rfl,⟨us,SqL.of hl⟩,cE (xs:=us) (λi σ H'=>∃ (o1 o2:Option V),σ=[some (.ref l),o1,o2]/\af H H'/\∀ j d',j < i->ds[j]?=some d'->bt d'=true) ⟨_,_,rfl,af.refl _,λj _ h=>absurd h (BJ _)⟩ (λi σ H' _ ⟨_,_,_,s1,_⟩=>SqL.of (s1 _ _ hl)) ?T1 ?_⟩
 case T1=>
  rintro i x σ H1 p hx ⟨o1,o2,rfl,s1,g1⟩ hp
  obtain ⟨d,hd,Rx⟩:=Ru.get hx
  have s2:=s1.trans (ac hp (.tup [.int i,x]))
  refine ⟨p,_,rfl,SqT.of aa,rfl,_,_,rfl,_,_,rfl,rfl,?_⟩
  refine ⟨_,rfl,x,_,rfl,Rx.mono s2,sm d (Λ hd),λH2 s3=>⟨_,rfl,?_⟩⟩
  cases hr:bt d with
  | true=>exact aq ⟨_,_,rfl,s2.trans s3,λj d' hj h'=>by
    rcases Nat.lt_succ_iff_lt_or_eq.mp hj with z | z
    ·exact g1 j d' z h'
    ·rw [z,hd] at h'; cases h'; exact hr⟩
  | false=>exact av ⟨_,rfl,z2,λp2 hp2=>⟨_,rfl,(bad i d hd hr g1).at_ (s2.trans s3) hp2⟩⟩
 rintro σ H1 ⟨o1,o2,rfl,s1,g1⟩
 refine q (λd hd=>?_) H1 s1
 obtain ⟨j,hj,e⟩:=r9 hd
 exact g1 j d ∅ (by rw [<- e]; simp)
inductive rO | ok | np (i:Nat) | tw (i:Nat) | nb (i:Nat)
def qZ (ds:List Dv):rO->Prop
 | .np i=>∃ d,ds[i]?=some d/\bt d=false/\∀ j d',j < i->ds[j]?=some d'->bt d'=true
 | .tw i=>∃ rs:List Rw,ds=rs.map Rw.dv/\(∀ r∈rs,bt r.dv=true/\r.Fit)/\twB rs i/\∀ j,j < i->¬ twB rs j
 | .nb i=>∃ rs:List Rw,ds=rs.map Rw.dv/\(∀ r∈rs,bt r.dv=true/\r.Fit)/\(∀ j,¬ twB rs j)/\nbB rs i/\∀ j,j < i->¬ nbB rs j
 | .ok=>∃ rs:List Rw,ds=rs.map Rw.dv/\(∀ r∈rs,bt r.dv=true/\r.Fit)/\(∀ j,¬ twB rs j)/\∀ j,¬ nbB rs j
def yf (cN cT cB:Addr) (H:Hp) (Q:VK) (E:XK):rO->Prop
 | .np i=>Thr E H cN i
 | .tw i=>Thr E H cT i
 | .nb i=>Thr E H cB i
 | .ok=>∀ v H',af H H'->Q v H'
def yh (cN cT cB:Addr):Sp:=λvs H Q E=>∃ (l:Addr) (us:List V) (ds:List Dv) (ft:rO),vs=[.ref l]/\H l=some (.lst us)/\Reps H ds us/\(∀ d∈ds,d.small=true)/\ds.length<=12/\qZ ds ft/\yf cN cT cB H Q E ft
theorem bc {j i:Nat} {p:Nat->Prop} (h:j < i + 1) (h1:∀ j,j < i->p j) (h2:p i):p j:=by
 rcases Nat.lt_succ_iff_lt_or_eq.mp h with z | z
 ·exact h1 j z
 ·rw [z]; exact h2
theorem eA:ao ["rows","seen","number","row"] ["rows"] (ae di):=by trivial
theorem jg {f D fI aTwice:Addr} {fd fdI:Μ} {psI:List Str} {k:Nat} (F:Fun K "hold_once" "hold_once" di f fd) (T:Txt K mg) (c_Twice:cx K D fI aTwice) (G_Twice:mg "Twice"=some (.ref aTwice)) (FI:aF P w K mg base CX0 k fI fdI psI (eP K D fI)) (BI:bx K fdI psI [])
  (Dis_twice:Def P w K mg base (k + 1) "is_twice" ["things"] (qj K)):aF P w K mg base (CXe P w) (k + 2) f fd ["rows"] (xl twB aTwice):=by
 have nd:=eA.nd
 refine okX F eA (λvs H Q E h=>?_) (λcdv A outer s H vs Q E hr h=>?_)
 ·obtain ⟨l,us,rs,rfl,_⟩:=h
  rfl
 obtain ⟨l,us,rs,rfl,hl,Ru,hC,l12,q,bad⟩:=h
 have hu:=og hr
 have lu:us.length=rs.length:=by have:=Ru.length; rwa [ε] at this
 refine ⟨_,(@un _ _ _ (wbO (wbM 1 nd rfl (Ι rfl) waA rfl ∅) (wbQ (wbH EI rfl (wbg rfl T.enumerate (wae (wv 0 rfl) waf rfl) rfl) (wbb rfl (wbd (waZ 2 nd rfl (Ι rfl) ∅) (wbd (waZ 3 nd rfl (Ι rfl) ∅) wbe rfl) rfl) rfl rfl) (wbQ (wbI (wbS ay (waD aj (wv 3 rfl) waC (λ_ _=>rfl)) waV (ai _)) (wbO (wbI (wab (wbY (wbS (yB hu) (waD aj (wv 3 rfl) waC (λ_ _=>rfl)) (wv 1 rfl) (by with_unfolding_all rfl)) (wbY (wbV (waq Dis_twice hr rfl (wae (waD aj (wv 3 rfl) waC (λ_ _=>rfl)) waf rfl) ∅ rfl rfl) ∅) (wbZ (wbV (waq Dis_twice hr rfl (wae (waE (["x","kind"]) [] (wbo (waD aj (wv 3 rfl) waC (λ_ _=>rfl))) (.of rfl) rfl (λ_ _ _=>⟨pg_tup rfl (pgs_cons (pg_name (i:=0) (bB (l:=["x","kind"]) (∅) rfl) rfl (Ι rfl)) (pgs_cons (pg_name (i:=1) (bB (l:=["x","kind"]) (∅) rfl) rfl (Ι rfl)) pgs_nil))⟩) (kn ∅ ∅) (λ_ _ _=>wbx) (λ_ _ _=>(wv 0 rfl)) ∅) waf rfl) ∅ rfl rfl) ∅))))) (wbQ (wca c_Twice FI hr BI rfl G_Twice dP (wae (waX (wae (wv 2 rfl) (wae waC waf rfl) rfl)) waf rfl) ∅ rfl rfl)) wbP) (wbQ (wbF hu (wv 1 rfl) (waD aj (wv 3 rfl) waC (λ_ _=>rfl)) wah rfl))) wbP)) ∅)))),?_⟩
 intro d hd
 have s0:af H (upd H d (.dK [])):=ac hd _
 have d0:upd H d (.dK []) d=some (.dK (bdK [])):=aa
 generalize upd H d (.dK [])=H0 at s0 d0 ⊢
 refine ⟨_,rfl,l,rfl,⟨us,SqL.of (s0 _ _ hl)⟩,cE (xs:=us) (λi σ H'=>∃ (o1 o2:Option V),σ=[some (.ref l),some (.ref d),o1,o2]/\af H H'/\H' d=some (.dK (bdK ((rs.take i).flatMap Rw.f?)))/\∀ j,j < i->¬ twB rs j) ⟨_,_,rfl,s0,d0,λj h=>absurd h (BJ _)⟩ (λi σ H' _ ⟨_,_,_,s1,_⟩=>SqL.of (s1 _ _ hl)) ?T1 ?_⟩
 case T1=>
  rintro i x σ H1 p hx ⟨o1,o2,rfl,s1,d1,g1⟩ hp
  obtain ⟨r,hr',Rx⟩:=bf (f:=Rw.dv) Ru hx
  have hi:i < us.length:=(ο.mp hx).1
  have ok:=hC r (Λ hr')
  have hti:rs.take (i + 1)=rs.take i ++ [r]:=by rw [ϣ,hr']; rfl
  have lf:((rs.take i).flatMap Rw.f?).length<=12:=by
   have h1:∀ l:List Rw,(l.flatMap Rw.f?).length<=l.length:=by
    intro l
    induction l with
    | nil=>simp
    | cons y l ih=>rw [De,ψ,ό]; have:y.f?.length<=1:=(by cases y <;> simp [Rw.f?]); omega
   have h2:=h1 (rs.take i)
   rw [ϊ] at h2
   omega
  have s2:=s1.trans (ac hp (.tup [.int i,x]))
  have d2:=ac hp (.tup [.int i,x]) _ _ d1
  refine ⟨p,_,rfl,SqT.of aa,rfl,_,_,rfl,_,_,rfl,rfl,?_⟩
  generalize upd H1 p (.tup [.int i,x])=H2 at s2 d2 ⊢
  obtain ⟨a,rfl,inv⟩:=Rw.inv (Rx.mono s2)
  cases r with
  | ask e=>
   obtain ⟨u,ha⟩:=inv
   refine ⟨_,rfl,a,_,0,.str "ask",rfl,rfl,SqT.of ha,ad (j:=0) rfl,rfl,_,rfl,au (λh=>absurd (of_decide_eq_true h) fq) (λ_=>?_)⟩
   refine ⟨_,_,rfl,s2,?_,λj hj=>bc (p:=λj=>¬ twB rs j) hj g1 λ⟨f,ns,ps,e',h',_⟩=>by rw [hr'] at h'; cases h'⟩
   rw [hti,c6]
   simpa [Rw.f?] using d2
  | df g ns ps e=>
   obtain ⟨b,c,u,ha,Rn,Rp⟩:=inv
   obtain ⟨n4,p4,_⟩:=ok
   refine ⟨_,rfl,a,_,0,.str "def",rfl,rfl,SqT.of ha,ad (j:=0) rfl,rfl,_,rfl,au (λ_=>?_) (λh=>absurd (decide_eq_true rfl) h)⟩
   refine ⟨_,rfl,a,_,1,.str g,rfl,rfl,SqT.of ha,ad (j:=1) rfl,_,rfl,d,_,rfl,oz.k (k:=ϕ g) d2,_,rfl,?_⟩
   show if (dD (bdK ((rs.take i).flatMap Rw.f?)) (ϕ g)).isSome=true then _ else _
   rw [lJ]
   refine au (λh=>av ⟨_,rfl,z2,λp2 hp2=>⟨_,rfl,(bad i ⟨g,ns,ps,e,hr',.inl (of_decide_eq_true h)⟩ g1).at_ s2 hp2⟩⟩) (λh=>?_)
   have gn:g∉(rs.take i).flatMap Rw.f?:=λz=>h (decide_eq_true z)
   obtain ⟨b',ws,e1,hb,Rw'⟩:=Rep.tup_inv Rn
   cases e1
   obtain ⟨c',zs,e2,hc,Rz⟩:=Rep.tup_inv Rp
   cases e2
   have ew:ws=ns.map V.str:=bD Rw'
   subst ew
   refine ⟨_,rfl,a,_,2,.ref b,rfl,rfl,SqT.of ha,ad (j:=2) rfl,b,ns,rfl,.inr (SqT.of hb),∅,λH3 s3=>⟨_,rfl,?_⟩⟩
   refine au (λh=>av ⟨_,rfl,z2,λp2 hp2=>⟨_,rfl,(bad i ⟨g,ns,ps,e,hr',.inr (.inl λz=>by rw [decide_eq_true z] at h; cases h)⟩ g1).at_ (s2.trans s3) hp2⟩⟩) (λh=>?_)
   have n1:ns.Nodup:=A9 λz=>h (by rw [decide_eq_false z]; rfl)
   have lz:zs.length=ps.length:=by have:=Rz.length; rwa [ε] at this
   refine ⟨_,rfl,a,_,3,.ref c,rfl,rfl,SqT.of (s3 _ _ ha),ad (j:=3) rfl,c,rfl,⟨zs,SqT.of (s3 _ _ hc)⟩,eW (xs:=zs) (λi ys H'=>H'=H3/\ys=(ps.take i).map λp=>V.str p.1) ⟨rfl,rfl⟩ (λi ys H' _ p=>by rw [p.1]; exact SqT.of (s3 _ _ hc)) ?_ ?_⟩
   ·rintro i ys H' x hx ⟨rfl,rfl⟩
    obtain ⟨p,hp,Rx⟩:=bf (f:=bw) Rz hx
    obtain ⟨e,z,rfl,he,_⟩:=dq Rx
    refine iV (s3 _ _ he) ⟨_,rfl,?_,rfl,?_⟩
    ·rw [ε,ϊ,υ]; omega
    ·rw [ϣ,hp,ω]; rfl
   ·rintro ys H' ⟨rfl,rfl⟩ r hr''
    rw [lz,Ϥ]
    have s4:=ac hr'' (.lst (ps.map λp=>V.str p.1))
    refine ⟨r,ps.map (·.1),rfl,.inl (SqL.of (by rw [aa,ϓ]; rfl)),by rw [ε]; omega,λH5 s5=>⟨_,rfl,?_⟩⟩
    have s25:=s3.trans (s4.trans s5)
    refine au (λh=>⟨_,rfl,z2,λp2 hp2=>⟨_,rfl,(bad i ⟨g,ns,ps,e,hr',.inr (.inr λz=>by rw [decide_eq_true z] at h; cases h)⟩ g1).at_ (s2.trans s25) hp2⟩⟩) (λh=>?_)
    have n2:(ps.map (·.1)).Nodup:=A9 λz=>h (by rw [decide_eq_false z]; rfl)
    refine ⟨_,rfl,_,rfl,a,_,1,.str g,rfl,rfl,SqT.of (s25 _ _ ha),ad (j:=1) rfl,d,_,rfl,mw.k (k:=ϕ g) (s25 _ _ d2) ?_,?_⟩
    ·rw [show (bdK ((rs.take i).flatMap Rw.f?)).length=((rs.take i).flatMap Rw.f?).length from ε _,υ]; omega
    ·refine ⟨_,_,rfl,λx o e=>by rw [ah (ag e hd)]; exact s25 _ _ (s2 _ _ e),?_,λj hj=>bc (p:=λj=>¬ twB rs j) hj g1 λ⟨f,ns',ps',e',h',z⟩=>?_⟩
     ·rw [aa,uJ gn,hti,c6]
      rfl
     ·rw [hr'] at h'
      cases h'
      rcases z with z | z | z
      ·exact gn z
      ·exact z n1
      ·exact z n2
 rintro σ H1 ⟨o1,o2,rfl,s1,_,g1⟩
 refine q (λi z=>?_) H1 s1
 obtain ⟨f,ns,ps,e,h,_⟩:=id z
 exact g1 i (by rw [lu]; exact (ο.mp h).1) z
theorem dg:ao ["rows","number","row"] ["rows"] (ae cJ):=by trivial
theorem ja {f D fI aNoBind:Addr} {fd fdI:Μ} {psI:List Str} {k:Nat} (F:Fun K "hold_bound" "hold_bound" cJ f fd) (T:Txt K mg) (c_NoBind:cx K D fI aNoBind) (G_NoBind:mg "NoBind"=some (.ref aNoBind)) (FI:aF P w K mg base CX0 k fI fdI psI (eP K D fI)) (BI:bx K fdI psI [])
  (Dare_bound:Def P w K mg base (k + 1) "are_bound" ["names","params"] qk):aF P w K mg base (CXe P w) (k + 2) f fd ["rows"] (xl nbB aNoBind):=by
 have nd:=dg.nd
 refine okX F dg (λvs H Q E h=>?_) (λcdv A outer s H vs Q E hr h=>?_)
 ·obtain ⟨l,us,rs,rfl,_⟩:=h
  rfl
 obtain ⟨l,us,rs,rfl,hl,Ru,hC,l12,q,bad⟩:=h
 have lu:us.length=rs.length:=by have:=Ru.length; rwa [ε] at this
 refine ⟨_,(@un _ _ _ (wbQ (wbH EI rfl (wbg rfl T.enumerate (wae (wv 0 rfl) waf rfl) rfl) (wbb rfl (wbd (waZ 1 nd rfl (Ι rfl) ∅) (wbd (waZ 2 nd rfl (Ι rfl) ∅) wbe rfl) rfl) rfl rfl) (wbQ (wbI (wab (wbW (wbS ay (waD aj (wv 2 rfl) waC (λ_ _=>rfl)) waV (ai _)) (wbX (wbT (wbV (waq Dare_bound hr rfl (wae (waD aj (wv 2 rfl) waC (λ_ _=>rfl)) (wae (waD aj (wv 2 rfl) waC (λ_ _=>rfl)) waf rfl) rfl) ∅ rfl rfl) ∅))))) (wbQ (wca c_NoBind FI hr BI rfl G_NoBind dP (wae (waX (wae (wv 1 rfl) (wae waC waf rfl) rfl)) waf rfl) ∅ rfl rfl)) wbP)) ∅))),?_⟩
 refine ⟨_,rfl,l,rfl,⟨us,SqL.of hl⟩,cE (xs:=us) (λi σ H'=>∃ (o1 o2:Option V),σ=[some (.ref l),o1,o2]/\af H H'/\∀ j,j < i->¬ nbB rs j) ⟨_,_,rfl,af.refl _,λj h=>absurd h (BJ _)⟩ (λi σ H' _ ⟨_,_,_,s1,_⟩=>SqL.of (s1 _ _ hl)) ?T1 ?_⟩
 case T1=>
  rintro i x σ H1 p hx ⟨o1,o2,rfl,s1,g1⟩ hp
  obtain ⟨r,hr',Rx⟩:=bf (f:=Rw.dv) Ru hx
  have ok:=hC r (Λ hr')
  have s2:=s1.trans (ac hp (.tup [.int i,x]))
  refine ⟨p,_,rfl,SqT.of aa,rfl,_,_,rfl,_,_,rfl,rfl,?_⟩
  generalize upd H1 p (.tup [.int i,x])=H2 at s2 ⊢
  obtain ⟨a,rfl,inv⟩:=Rw.inv (Rx.mono s2)
  cases r with
  | ask e=>
   obtain ⟨u,ha⟩:=inv
   exact ⟨_,rfl,a,_,0,.str "ask",rfl,rfl,SqT.of ha,ad (j:=0) rfl,rfl,_,rfl,au (λh=>absurd (of_decide_eq_true h) fq) (λ_=>aq ⟨_,_,rfl,s2,λj hj=>bc (p:=λj=>¬ nbB rs j) hj g1 λ⟨f,ns,ps,e',h',_⟩=>by rw [hr'] at h'; cases h'⟩)⟩
  | df g ns ps e=>
   obtain ⟨b,c,u,ha,Rn,Rp⟩:=inv
   obtain ⟨n4,p4,pk⟩:=ok
   refine ⟨_,rfl,a,_,0,.str "def",rfl,rfl,SqT.of ha,ad (j:=0) rfl,rfl,_,rfl,au (λ_=>?_) (λh=>absurd (decide_eq_true rfl) h)⟩
   refine ⟨_,rfl,a,_,2,.ref b,rfl,rfl,SqT.of ha,ad (j:=2) rfl,_,rfl,a,_,3,.ref c,rfl,rfl,SqT.of ha,ad (j:=3) rfl,.ref b,.ref c,ns,ps,rfl,Rn,Rp,n4,p4,pk,λH3 s3=>⟨_,rfl,?_⟩⟩
   cases hb:om ns ps with
   | true=>exact aq ⟨_,_,rfl,s2.trans s3,λj hj=>bc (p:=λj=>¬ nbB rs j) hj g1 λ⟨f,ns',ps',e',h',z⟩=>by rw [hr'] at h'; cases h'; rw [hb] at z; cases z⟩
   | false=>exact av ⟨_,rfl,z2,λp2 hp2=>⟨_,rfl,(bad i ⟨g,ns,ps,e,hr',hb⟩ g1).at_ (s2.trans s3) hp2⟩⟩
 rintro σ H1 ⟨o1,o2,rfl,s1,g1⟩
 refine q (λi z=>?_) H1 s1
 obtain ⟨f,ns,ps,e,h,_⟩:=id z
 exact g1 i (by rw [lu]; exact (ο.mp h).1) z
theorem gX:ao ["thing","rows"] ["thing"] (ae gE):=by trivial
theorem lV {f D fI aNoProgram cT cB:Addr} {fd fdI:Μ} {psI:List Str} {k:Nat} (F:Fun K "checked" "checked" gE f fd) (T:Txt K mg) (c_NoProgram:cx K D fI aNoProgram) (G_NoProgram:mg "NoProgram"=some (.ref aNoProgram)) (FI:aF P w K mg base CX0 k fI fdI psI (eP K D fI)) (BI:bx K fdI psI [])
  (Dhold_rows:mV P w K mg base (k + 1) "hold_rows" ["rows"] (Ab aNoProgram)) (Dhold_once:mV P w K mg base (k + 1) "hold_once" ["rows"] (xl twB cT)) (Dhold_bound:mV P w K mg base (k + 1) "hold_bound" ["rows"] (xl nbB cB)):aF P w K mg base (CXe P w) (k + 2) f fd ["thing"] (yh aNoProgram cT cB):=by
 have nd:=gX.nd
 refine okX F gX (λvs H Q E h=>?_) (λcdv A outer s H vs Q E hr h=>?_)
 ·obtain ⟨l,us,rs,ft,rfl,_⟩:=h
  rfl
 obtain ⟨l,us,ds,ft,rfl,hl,Ru,sm,l12,ff,fe⟩:=h
 have lu:us.length=ds.length:=Ru.length
 have Rl:Rep H (.lst ds) (.ref l):=by rw [Rep]; exact ⟨l,us,rfl,hl,Ru⟩
 refine ⟨_,(@un _ _ _ (wbO (wbI (wab (wbY (wbT (wbV (wal bb rfl T.isinstance ∅ (wae (wv 0 rfl) (wae (wai (.ty "list") rfl T.list ∅ rfl ∅ ∅) waf rfl) rfl) ∅ ∅ rfl rfl) ∅)) (wbZ (wbS dY (wal ak rfl T.len ∅ (wae (wv 0 rfl) waf rfl) ∅ ∅ rfl rfl) ⟨T.g_MOST_ROWS rfl⟩ (ai _))))) (wbQ (wca c_NoProgram FI hr BI rfl G_NoProgram dP (wae (waX (wae waC (wae waC waf rfl) rfl)) waf rfl) ∅ rfl rfl)) wbP) (wbO (wbM 1 nd rfl (Ι rfl) (wam kr rfl T.list ∅ (wae (wv 0 rfl) waf rfl) ∅ ∅ rfl rfl) rfl ∅) (wbO (wbG (wcb Dhold_rows hr rfl (wae (wv 1 rfl) waf rfl) ∅ rfl rfl) rfl) (wbO (wbG (wcb Dhold_once hr rfl (wae (wv 1 rfl) waf rfl) ∅ rfl rfl) rfl) (wbO (wbG (wcb Dhold_bound hr rfl (wae (wv 1 rfl) waf rfl) ∅ rfl rfl) rfl) (wbQ (wbK (wv 1 rfl))))))))),?_⟩
 refine ⟨_,rfl,_,_,_,_,rfl,Rl.ty,tZ K _,_,rfl,?_⟩
 refine aq ⟨_,rfl,l,us,rfl,.inl (SqL.of hl),_,_,rfl,rfl,_,rfl,?_⟩
 rw [decide_eq_false ∅]
 refine aq ⟨_,rfl,l,us,rfl,.inl (SqL.of hl),λr hr'=>?_⟩
 have s1:=ac hr' (.lst us)
 have h1:upd H r (.lst us) r=some (.lst us):=aa
 generalize upd H r (.lst us)=H1 at s1 h1 ⊢
 have no:∀ {rs:List Rw},ds=rs.map Rw.dv->(∀ r∈rs,bt r.dv=true/\r.Fit)->∀ i d,ds[i]?=some d->bt d=false->False:=λe ok i d hd hf=>by
  subst e
  obtain ⟨y,hy,rfl⟩:=Κ.mp (Λ hd)
  rw [(ok y hy).1] at hf; cases hf
 have l12':∀ {rs:List Rw},ds=rs.map Rw.dv->rs.length<=12:=λe=>by subst e; rwa [ε] at l12
 refine ⟨_,rfl,r,us,ds,rfl,h1,Ru.mono s1,sm,l12,λall H2 s2=>?_,λi d hd hf hj=>?_⟩
 ·have R2:=Ru.mono (s1.trans s2)
  have h2:=s2 _ _ h1
  have s02:=s1.trans s2
  cases ft with
  | np i=>
   obtain ⟨d,hd,hf,_⟩:=ff
   rw [all d (Λ hd)] at hf; cases hf
  | tw i=>
   obtain ⟨rs,e,ok,tw,tj⟩:=ff
   refine ⟨_,rfl,r,us,rs,rfl,h2,by rw [<- e]; exact R2,λr hr=>(ok r hr).2,l12' e,λz=>absurd tw (z i),λj z zj=>?_⟩
   have:j=i:=by
    rcases Dg j i with y | y | y
    ·exact absurd z (tj j y)
    ·exact y
    ·exact absurd tw (zj i y)
   rw [this]; exact Thr.same fe s02
  | nb i=>
   obtain ⟨rs,e,ok,tw,nb,nj⟩:=ff
   refine ⟨_,rfl,r,us,rs,rfl,h2,by rw [<- e]; exact R2,λr hr=>(ok r hr).2,l12' e,λ_ H3 s3=>?_,λj z _=>absurd z (tw j)⟩
   refine ⟨_,rfl,r,us,rs,rfl,s3 _ _ h2,by rw [<- e]; exact R2.mono s3,λr hr=>(ok r hr).2,l12' e,λz=>absurd nb (z i),λj z zj=>?_⟩
   have:j=i:=by
    rcases Dg j i with y | y | y
    ·exact absurd z (nj j y)
    ·exact y
    ·exact absurd nb (zj i y)
   rw [this]; exact Thr.same fe (s02.trans s3)
  | ok=>
   obtain ⟨rs,e,ok,tw,nb⟩:=ff
   refine ⟨_,rfl,r,us,rs,rfl,h2,by rw [<- e]; exact R2,λr hr=>(ok r hr).2,l12' e,λ_ H3 s3=>?_,λj z _=>absurd z (tw j)⟩
   refine ⟨_,rfl,r,us,rs,rfl,s3 _ _ h2,by rw [<- e]; exact R2.mono s3,λr hr=>(ok r hr).2,l12' e,λ_ H4 s4=>?_,λj z _=>absurd z (nb j)⟩
   exact ⟨_,rfl,fe _ H4 (s02.trans (s3.trans s4))⟩
 ·cases ft with
  | np i'=>
   obtain ⟨d',hd',hf',hj'⟩:=ff
   have:i=i':=by
    rcases Dg i i' with y | y | y
    ·rw [hj' i d y hd] at hf; cases hf
    ·exact y
    ·rw [hj i' d' y hd'] at hf'; cases hf'
   rw [this]; exact Thr.same fe s1
  | tw i'=>obtain ⟨rs,e,ok,_⟩:=ff; exact (no e ok i d hd hf).elim
  | nb i'=>obtain ⟨rs,e,ok,_⟩:=ff; exact (no e ok i d hd hf).elim
  | ok=>obtain ⟨rs,e,ok,_⟩:=ff; exact (no e ok i d hd hf).elim
abbrev gj:Stmt:=top 69
structure yD (K:ι) (mg:Str->Option δ) (D fI aNoProgram aTwice aNoBind aNoName aUnlike aParts aTooGreat aTooLong aNoValue aNoWords aNoLine:Addr):Prop where
 top:AV K D
 gD:mg "IndexwiseError"=some (.ref D)
 cN:cx K D fI aNoProgram
 cT:cx K D fI aTwice
 cB:cx K D fI aNoBind
 oth:∀ b∈[aNoName,aUnlike,aParts,aTooGreat,aTooLong,aNoValue,aNoWords,aNoLine],yH K D b
 gNoProgram:mg "NoProgram"=some (.ref aNoProgram)
 gTwice:mg "Twice"=some (.ref aTwice)
 gNoBind:mg "NoBind"=some (.ref aNoBind)
 gNoName:mg "NoName"=some (.ref aNoName)
 gUnlike:mg "Unlike"=some (.ref aUnlike)
 gParts:mg "Parts"=some (.ref aParts)
 gTooGreat:mg "TooGreat"=some (.ref aTooGreat)
 gTooLong:mg "TooLong"=some (.ref aTooLong)
 gNoValue:mg "NoValue"=some (.ref aNoValue)
 gNoWords:mg "NoWords"=some (.ref aNoWords)
 gNoLine:mg "NoLine"=some (.ref aNoLine)
 nd:[aNoProgram,aTwice,aNoBind,aNoName,aUnlike,aParts,aTooGreat,aTooLong,aNoValue,aNoWords,aNoLine].Nodup
def uD:rO->Dv
 | .ok=>.tup [.str "taken",.non]
 | .np i=>.tup [.str "program",.tup [.int i,.int 0]]
 | .tw i=>.tup [.str "twice",.tup [.int i,.int 0]]
 | .nb i=>.tup [.str "bind",.tup [.int i,.int 0]]
def yu:Sp:=λvs H Q _=>∃ (l:Addr) (us:List V) (ds:List Dv) (ft:rO),vs=[.ref l]/\H l=some (.lst us)/\Reps H ds us/\(∀ d∈ds,d.small=true)/\ds.length<=12/\qZ ds ft/\∀ H' v,af H H'->Rep H' (uD ft) v->Q v H'
def ic (b1 b2 b3:Bool):Str:=(Txt.mul "program" (if b1 then 1 else 0) ++ Txt.mul "twice" (if b2 then 1 else 0)) ++ Txt.mul "bind" (if b3 then 1 else 0) ++ Txt.mul "-" (if false then 1 else 0)
theorem AQ:ic true false false="program":=by decide +kernel
theorem Aa:ic false true false="twice":=by decide +kernel
theorem zQ:ic false false true="bind":=by decide +kernel
theorem uB:∀ b1 b2 b3:Bool,(Txt.mul "program" (if b1 then 1 else 0)).length + (Txt.mul "twice" (if b2 then 1 else 0)).length<=12/\(Txt.mul "program" (if b1 then 1 else 0) ++ Txt.mul "twice" (if b2 then 1 else 0)).length + (Txt.mul "bind" (if b3 then 1 else 0)).length<=16/\((Txt.mul "program" (if b1 then 1 else 0) ++ Txt.mul "twice" (if b2 then 1 else 0)) ++ Txt.mul "bind" (if b3 then 1 else 0)).length + (Txt.mul "-" (if false then 1 else 0)).length<=17:=by decide +kernel
theorem xz {K:ι} {mg:Str->Option δ} {D fI aNoProgram aTwice aNoBind aNoName aUnlike aParts aTooGreat aTooLong aNoValue aNoWords aNoLine:Addr} {H H0:Hp} {Q Q':VK} {E:XK} {ft:rO} (Er:yD K mg D fI aNoProgram aTwice aNoBind aNoName aUnlike aParts aTooGreat aTooLong aNoValue aNoWords aNoLine) (q:∀ H' v,af H H'->Rep H' (uD ft) v->Q v H') (h0:ft=.ok->∀ v H',af H0 H'->Q' v H')
  (key:∀ (C:Addr) (b1 b2 b3:Bool),cx K D fI C->(∀ b∈[aNoName,aUnlike,aParts,aTooGreat,aTooLong,aNoValue,aNoWords,aNoLine],decide (b=C)=false)->decide (aNoProgram=C)=b1->decide (aTwice=C)=b2->decide (aNoBind=C)=b3->∀ i:Nat,(∀ H' v,af H H'->Rep H' (.tup [.str (ic b1 b2 b3),.tup [.int i,.int 0]]) v->Q v H')->Thr E H0 C i):yf aNoProgram aTwice aNoBind H0 Q' E ft:=by
 have all:∀ {C:Addr},C∉[aNoName,aUnlike,aParts,aTooGreat,aTooLong,aNoValue,aNoWords,aNoLine]->∀ b∈[aNoName,aUnlike,aParts,aTooGreat,aTooLong,aNoValue,aNoWords,aNoLine],decide (b=C)=false:=λh b hb=>decide_eq_false λz=>h (z▸hb)
 have n1:=j4.mp Er.nd
 have n2:=j4.mp n1.2
 have n3:=j4.mp n2.2
 have e12:aNoProgram≠aTwice:=λz=>n1.1 (by rw [z]; simp)
 have e13:aNoProgram≠aNoBind:=λz=>n1.1 (by rw [z]; simp)
 have e23:aTwice≠aNoBind:=λz=>n2.1 (by rw [z]; simp)
 cases ft with
 | ok=>exact h0 rfl
 | np i=>exact key aNoProgram true false false Er.cN (all λz=>n1.1 (ρ _ (ρ _ z))) (decide_eq_true rfl) (decide_eq_false (ώ e12)) (decide_eq_false (ώ e13)) i (by rw [AQ]; exact q)
 | tw i=>exact key aTwice false true false Er.cT (all λz=>n2.1 (ρ _ z)) (decide_eq_false e12) (decide_eq_true rfl) (decide_eq_false (ώ e23)) i (by rw [Aa]; exact q)
 | nb i=>exact key aNoBind false false true Er.cB (all n3.1) (decide_eq_false e13) (decide_eq_false e23) (decide_eq_true rfl) i (by rw [zQ]; exact q)
theorem zle {n m:Nat} (h:n<=m) (hm:m<=1000):n<=sizeLine:=by rw [υ]; omega
theorem iD:ao ["_law_thing","_law_told","_law_e","_law_others","_law_word"] ["_law_thing"] (ae gj):=by trivial
theorem on {f fc D fI aNoProgram aTwice aNoBind aNoName aUnlike aParts aTooGreat aTooLong aNoValue aNoWords aNoLine:Addr} {fd fdc:Μ} {k:Nat} (F:Fun K "_law_refused" "_law_refused" gj f fd) (T:Txt K mg) (Er:yD K mg D fI aNoProgram aTwice aNoBind aNoName aUnlike aParts aTooGreat aTooLong aNoValue aNoWords aNoLine)
  (F_checked:aF P w K mg base (CXe P w) k fc fdc ["thing"] (yh aNoProgram aTwice aNoBind)) (G_checked:mg "checked"=some (.ref fc)) (K_checked:l7 K (.ref fc)=true) (B_checked:bx K fdc ["thing"] []):aF P w K mg base CX0 (k + 1) f fd ["_law_thing"] yu:=by
 have nd:=iD.nd
 have G_NoProgram:=Er.gNoProgram
 have G_Twice:=Er.gTwice
 have G_NoBind:=Er.gNoBind
 have G_NoName:=Er.gNoName
 have G_Unlike:=Er.gUnlike
 have G_Parts:=Er.gParts
 have G_TooGreat:=Er.gTooGreat
 have G_TooLong:=Er.gTooLong
 have G_NoValue:=Er.gNoValue
 have G_NoWords:=Er.gNoWords
 have G_NoLine:=Er.gNoLine
 have G_IndexwiseError:=Er.gD
 have XT:=Er.top
 refine F.ok iD (λvs H Q E h=>?_) (λcdv A outer s H vs Q E hr h=>?_)
 ·obtain ⟨l,us,ds,ft,rfl,_⟩:=h
  rfl
 obtain ⟨l,us,ds,ft,rfl,hl,Ru,sm,l12,ff,q⟩:=h
 refine ⟨_,(@un _ _ _ (wbO (wbM 1 nd rfl (Ι rfl) (waX (wae waV (wae waN waf rfl) rfl)) rfl ∅) (wbO (wcc D fI 2 F_checked hr rfl G_checked K_checked B_checked (wae (wv 0 rfl) waf rfl) (λ_ _ z=>z) rfl XT rfl G_IndexwiseError rfl rfl nd rfl rfl (λeH=>(wbO (wbM 3 nd rfl (Ι rfl) (waM (wae (wal (aU (D:=D) (fI:=fI)) rfl T.isinstance ∅ (wae (wv 2 rfl) (wae (waB (.ref aNoName) rfl G_NoName rfl ∅) waf rfl) rfl) ∅ ∅ rfl rfl) (wae (wal (aU (D:=D) (fI:=fI)) rfl T.isinstance ∅ (wae (wv 2 rfl) (wae (waB (.ref aUnlike) rfl G_Unlike rfl ∅) waf rfl) rfl) ∅ ∅ rfl rfl) (wae (wal (aU (D:=D) (fI:=fI)) rfl T.isinstance ∅ (wae (wv 2 rfl) (wae (waB (.ref aParts) rfl G_Parts rfl ∅) waf rfl) rfl) ∅ ∅ rfl rfl) (wae (wal (aU (D:=D) (fI:=fI)) rfl T.isinstance ∅ (wae (wv 2 rfl) (wae (waB (.ref aTooGreat) rfl G_TooGreat rfl ∅) waf rfl) rfl) ∅ ∅ rfl rfl) waf rfl) rfl) rfl) rfl)) rfl ∅) (wbO (wbM 3 nd rfl (Ι rfl) (waQ eL (wv 3 rfl) (waM (wae (wal (aU (D:=D) (fI:=fI)) rfl T.isinstance ∅ (wae (wv 2 rfl) (wae (waB (.ref aTooLong) rfl G_TooLong rfl ∅) waf rfl) rfl) ∅ ∅ rfl rfl) (wae (wal (aU (D:=D) (fI:=fI)) rfl T.isinstance ∅ (wae (wv 2 rfl) (wae (waB (.ref aNoValue) rfl G_NoValue rfl ∅) waf rfl) rfl) ∅ ∅ rfl rfl) (wae (wal (aU (D:=D) (fI:=fI)) rfl T.isinstance ∅ (wae (wv 2 rfl) (wae (waB (.ref aNoWords) rfl G_NoWords rfl ∅) waf rfl) rfl) ∅ ∅ rfl rfl) waf rfl) rfl) rfl))) rfl ∅) (wbO (wbG (waj Ο ϫ Ϭ bd (wv 3 rfl) (wae (wal (aU (D:=D) (fI:=fI)) rfl T.isinstance ∅ (wae (wv 2 rfl) (wae (waB (.ref aNoLine) rfl G_NoLine rfl ∅) waf rfl) rfl) ∅ ∅ rfl rfl) waf rfl) rfl rfl rfl rfl rfl) rfl) (wbO (wbM 4 nd rfl (Ι rfl) (waQ bi (waQ cO waV (wam dN rfl T.int ∅ (wae (wal (aU (D:=D) (fI:=fI)) rfl T.isinstance ∅ (wae (wv 2 rfl) (wae (waB (.ref aNoProgram) rfl G_NoProgram rfl ∅) waf rfl) rfl) ∅ ∅ rfl rfl) waf rfl) ∅ ∅ rfl rfl)) (waQ cO waV (wam dN rfl T.int ∅ (wae (wal (aU (D:=D) (fI:=fI)) rfl T.isinstance ∅ (wae (wv 2 rfl) (wae (waB (.ref aTwice) rfl G_Twice rfl ∅) waf rfl) rfl) ∅ ∅ rfl rfl) waf rfl) ∅ ∅ rfl rfl))) rfl ∅) (wbO (wbM 4 nd rfl (Ι rfl) (waQ bi (waQ bi (wv 4 rfl) (waQ cO waV (wam dN rfl T.int ∅ (wae (wal (aU (D:=D) (fI:=fI)) rfl T.isinstance ∅ (wae (wv 2 rfl) (wae (waB (.ref aNoBind) rfl G_NoBind rfl ∅) waf rfl) rfl) ∅ ∅ rfl rfl) waf rfl) ∅ ∅ rfl rfl))) (waQ cO waV (wam dN rfl T.int ∅ (wae (waR (wal (sU (e:=eH) rfl) rfl T.any ∅ (wae (wv 3 rfl) waf rfl) ∅ ∅ rfl rfl) (waP (waO (wal (aU (D:=D) (fI:=fI)) rfl T.isinstance ∅ (wae (wv 2 rfl) (wae (wai (.ty "ValueError") rfl T.ValueError ∅ rfl ∅ ∅) waf rfl) rfl) ∅ ∅ rfl rfl)))) waf rfl) ∅ ∅ rfl rfl))) rfl ∅) (wbQ (wbM 1 nd rfl (Ι rfl) (waX (wae (wv 4 rfl) (wae (wcf D fI (wv 2 rfl) rfl) waf rfl) rfl)) rfl ∅)))))))) ∅ ∅ rfl rfl rfl) (wbQ (wbK (wv 1 rfl)))))),?_⟩
 refine ⟨z2,λp0 hp0=>?_⟩
 have s0:=ac hp0 (.tup [.str "taken",.non])
 have h0:upd H p0 (.tup [.str "taken",.non]) p0=some (.tup [.str "taken",.non]):=aa
 generalize upd H p0 (.tup [.str "taken",.non])=H0 at s0 h0 ⊢
 refine ⟨_,rfl,l,us,ds,ft,rfl,s0 _ _ hl,Ru.mono s0,sm,l12,ff,?_⟩
 refine xz Er q (λe v H' s'=>?m0) ?key
 case m0=>
  rw [e] at q
  refine ⟨_,rfl,q H' (.ref p0) (s0.trans s') ?_⟩
  show Rep H' (.tup [.str "taken",.non]) _
  rw [Rep]
  exact ⟨p0,_,rfl,s' _ _ h0,by simp only [Reps]; exact ⟨_,_,rfl,by simp only [Rep],_,_,rfl,by simp only [Rep],rfl⟩⟩
 case key=>
  intro C b1 b2 b3 c ho g1 g2 g3 i hq H1 dx p s1 hdx hp
  refine ⟨C,dx,.ref p,rfl,rfl,c,hdx,λe he=>?_⟩
  have t1:=s0.trans (s1.trans (ac he (Xh C dx e)))
  have hX:upd H1 e (Xh C dx e) e=some (Xh C dx e):=aa
  have hd1:=ac he (Xh C dx e) _ _ hdx
  have hp1:=ac he (Xh C dx e) _ _ hp
  generalize upd H1 e (Xh C dx e)=H2 at t1 hX hd1 hp1 ⊢
  refine ⟨_,rfl,e,C,dx,_,rfl,hX,c,.inl ⟨_,_,rfl,(Er.oth aNoName ∅),(ho aNoName ∅),⟨_,rfl,e,C,dx,_,rfl,hX,c,.inl ⟨_,_,rfl,(Er.oth aUnlike ∅),(ho aUnlike ∅),⟨_,rfl,e,C,dx,_,rfl,hX,c,.inl ⟨_,_,rfl,(Er.oth aParts ∅),(ho aParts ∅),⟨_,rfl,e,C,dx,_,rfl,hX,c,.inl ⟨_,_,rfl,(Er.oth aTooGreat ∅),(ho aTooGreat ∅),⟨zle (π 4) ∅,λq1 hq1=>?_⟩⟩⟩⟩⟩⟩⟩⟩⟩
  have t2:=ac hq1 (.lst [.bl false,.bl false,.bl false,.bl false])
  have hX:=t2 _ _ hX
  have w2:upd H2 q1 (.lst [.bl false,.bl false,.bl false,.bl false]) q1=some (.lst [.bl false,.bl false,.bl false,.bl false]):=aa
  generalize upd H2 q1 (.lst [.bl false,.bl false,.bl false,.bl false])=H3 at t2 hX w2 ⊢
  refine ⟨_,rfl,⟨_,rfl,e,C,dx,_,rfl,hX,c,.inl ⟨_,_,rfl,(Er.oth aTooLong ∅),(ho aTooLong ∅),⟨_,rfl,e,C,dx,_,rfl,hX,c,.inl ⟨_,_,rfl,(Er.oth aNoValue ∅),(ho aNoValue ∅),⟨_,rfl,e,C,dx,_,rfl,hX,c,.inl ⟨_,_,rfl,(Er.oth aNoWords ∅),(ho aNoWords ∅),⟨zle (π 3) ∅,λq2 hq2=>?_⟩⟩⟩⟩⟩⟩⟩⟩
  have t3:=ac hq2 (.lst [.bl false,.bl false,.bl false])
  refine ⟨q1,q2,_,_,rfl,rfl,t3 _ _ w2,aa,zle (π 7) ∅,λq3 hq3=>?_⟩
  have t4:=t3.trans (ac hq3 (.lst [.bl false,.bl false,.bl false,.bl false,.bl false,.bl false,.bl false]))
  have hX:=t4 _ _ hX
  have w4:upd (upd H3 q2 (.lst [.bl false,.bl false,.bl false])) q3 (.lst ([.bl false,.bl false,.bl false,.bl false] ++ [.bl false,.bl false,.bl false])) q3=some (.lst [.bl false,.bl false,.bl false,.bl false,.bl false,.bl false,.bl false]):=aa
  have n3:H3 q3=none:=t3.free hq3
  replace t4:af H3 (upd (upd H3 q2 (.lst [.bl false,.bl false,.bl false])) q3 (.lst ([.bl false,.bl false,.bl false,.bl false] ++ [.bl false,.bl false,.bl false]))):=t4
  replace hX:upd (upd H3 q2 (.lst [.bl false,.bl false,.bl false])) q3 (.lst ([.bl false,.bl false,.bl false,.bl false] ++ [.bl false,.bl false,.bl false])) e=some (Xh C dx e):=hX
  generalize upd (upd H3 q2 (.lst [.bl false,.bl false,.bl false])) q3 (.lst ([.bl false,.bl false,.bl false,.bl false] ++ [.bl false,.bl false,.bl false]))=H4 at t4 hX w4 ⊢
  refine ⟨_,rfl,.inl ⟨rfl,_,SqL.of w4⟩,_,rfl,e,C,dx,_,rfl,hX,c,.inl ⟨_,_,rfl,(Er.oth aNoLine ∅),(ho aNoLine ∅),⟨q3,_,_,rfl,rfl,w4,by rw [υ]; show 7 < 16777216; decide,?_⟩⟩⟩
  have t5:af H3 (upd H4 q3 (.lst (([false,false,false,false,false,false,false,false]:List Bool).map V.bl))):=λg o z=>by rw [ah (ag z n3)]; exact t4 _ _ z
  have w5:upd H4 q3 (.lst (([false,false,false,false,false,false,false,false]:List Bool).map V.bl)) q3=some (.lst (([false,false,false,false,false,false,false,false]:List Bool).map V.bl)):=aa
  have ne3:e≠q3:=λz=>by rw [z] at hX; rw [hX] at w4; cases w4
  have hX:upd H4 q3 (.lst (([false,false,false,false,false,false,false,false]:List Bool).map V.bl)) e=some (Xh C dx e):=by rw [ah ne3]; exact hX
  show sZ _ _ _ _ (upd H4 q3 (.lst (([false,false,false,false,false,false,false,false]:List Bool).map V.bl)))
  generalize upd H4 q3 (.lst (([false,false,false,false,false,false,false,false]:List Bool).map V.bl))=H5 at t5 hX w5 ⊢
  obtain ⟨l1,l2,l3⟩:=uB b1 b2 b3
  refine ⟨_,rfl,e,C,dx,_,rfl,hX,c,.inl ⟨_,_,rfl,Er.cN.sub,g1,(.inr ⟨_,rfl,_,_,rfl,rfl,∅,by cases b1 <;> decide,by cases b1 <;> decide,?_⟩)⟩⟩
  refine ⟨_,rfl,e,C,dx,_,rfl,hX,c,.inl ⟨_,_,rfl,Er.cT.sub,g2,(.inr ⟨_,rfl,_,_,rfl,rfl,∅,by cases b2 <;> decide,by cases b2 <;> decide,?_⟩)⟩⟩
  refine ⟨_,_,rfl,rfl,zle l1 ∅,?_⟩
  refine ⟨_,rfl,⟨_,rfl,e,C,dx,_,rfl,hX,c,.inl ⟨_,_,rfl,Er.cB.sub,g3,(.inr ⟨_,rfl,_,_,rfl,rfl,∅,by cases b3 <;> decide,by cases b3 <;> decide,?_⟩)⟩⟩⟩
  refine ⟨_,_,rfl,rfl,zle l2 ∅,?_⟩
  refine ⟨_,rfl,q3,_,C,dx,rfl,w5,hX,false,rfl,aq ⟨_,rfl,e,C,dx,_,rfl,hX,c,.inr ⟨rfl,_,rfl,.inr ⟨_,rfl,_,_,rfl,rfl,∅,∅,∅,?_⟩⟩⟩⟩
  refine ⟨_,_,rfl,rfl,zle l3 ∅,?_⟩
  refine ⟨_,rfl,_,rfl,e,C,dx,_,rfl,hX,c,t5 _ _ (t2 _ _ hd1),z2,λq9 hq9=>?_⟩
  have t6:=ac hq9 (.tup [.str (ic b1 b2 b3),.ref p])
  refine ⟨_,rfl,hq _ (.ref q9) (t1.trans (t2.trans (t5.trans t6))) ?_⟩
  rw [Rep]
  refine ⟨q9,_,rfl,aa,?_⟩
  simp only [Reps]
  refine ⟨_,_,rfl,by simp only [Rep]; rfl,_,_,rfl,?_,rfl⟩
  rw [Rep]
  exact ⟨p,_,rfl,t6 _ _ (t5 _ _ (t2 _ _ hp1)),by simp only [Reps]; exact ⟨_,_,rfl,by simp only [Rep],_,_,rfl,by simp only [Rep],rfl⟩⟩
abbrev kJ:Stmt:=top 67
abbrev ib:Stmt:=top 68
def RwK (r:Rw):Prop:=bt r.dv=true/\r.dv.small=true/\r.Fit
structure DfK (f:Str) (ns:List Str) (ps:List Prm) (e:Dv):Prop where
 f1:fv (.str f)=true/\(Dv.str f).small=true
 n1:∀ n∈ns,aV (.str n)=true/\(Dv.str n).small=true
 n4:ns.length<=4
 p1:∀ p∈ps,(aV (.str p.1)=true/\(Dv.str p.1).small=true)/\(aD p.2.dv<=12/\p.2.dv.small=true)/\p.2.size<=12/\p.2.All L40
 p4:ps.length<=4
 e1:exD e=true/\e.small=true
theorem RwK.inv {f:Str} {ns:List Str} {ps:List Prm} {e:Dv} (h:RwK (.df f ns ps e)):DfK f ns ps e:=by
 obtain ⟨h1,h2,n4,p4,hp⟩:=h
 have h1:bt (.tup [.str "def",.str f,.tup (ns.map Dv.str),.tup (ps.map bw),e])=true:=h1
 rw [hZ] at h1
 simp only [Ε] at h1
 obtain ⟨a1,a2,a3,a4⟩:=h1
 have a2:(dI 0 (.tup (ns.map Dv.str)) && (ns.map Dv.str).all aV)=true:=a2
 have a3:(dI 0 (.tup (ps.map bw)) && (ps.map bw).all cW)=true:=a3
 simp only [Ε,ϵ] at a2 a3
 have sm:=aZ (show (Dv.tup [.str "def",.str f,.tup (ns.map Dv.str),.tup (ps.map bw),e]).small=true from h2)
 have sn:=aZ (sm (.tup (ns.map Dv.str)) ∅)
 have sp:=aZ (sm (.tup (ps.map bw)) ∅)
 refine ⟨⟨a1,sm _ ∅⟩,λn hn=>⟨a2.2 _ (ϯ hn),sn _ (ϯ hn)⟩,n4,λp hp'=>?_,p4,a4,sm _ ∅⟩
 have b1:(aV (.str p.1) && decide (aD p.2.dv<=12))=true:=a3.2 _ (ϯ hp')
 have b2:=aZ (show (Dv.tup [.str p.1,p.2.dv]).small=true from sp _ (ϯ hp'))
 simp only [Ε,decide_eq_true_eq] at b1
 exact ⟨⟨b1.1,b2 _ ∅⟩,⟨b1.2,b2 _ ∅⟩,hp p hp'⟩
theorem Ay {ds:List Dv} (h:ds.length<=4):dI 0 (.tup ds)=true:=by
 simp only [dI,Ε,decide_eq_true_eq]
 omega
theorem DfK.row {f:Str} {ns:List Str} {ps:List Prm} {e:Dv} (h:DfK f ns ps e):RwK (.df f ns ps e):=by
 refine ⟨?_,aP (λd hd=>?_) (by show 5<=1000; decide),h.n4,h.p4,λp hp=>(h.p1 p hp).2.2⟩
 ·show bt (.tup [.str "def",.str f,.tup (ns.map Dv.str),.tup (ps.map bw),e])=true
  rw [hZ,h.f1.1,h.e1.1]
  have a2:cS (.tup (ns.map Dv.str))=true:=by
   rw [cS,Ay (by rw [ε]; exact h.n4),Ϧ,ϵ]
   intro d hd
   obtain ⟨n,hn,rfl⟩:=Κ.mp hd
   exact (h.n1 n hn).1
  have a3:bX (.tup (ps.map bw))=true:=by
   rw [bX,Ay (by rw [ε]; exact h.p4),Ϧ,ϵ]
   intro d hd
   obtain ⟨p,hp,rfl⟩:=Κ.mp hd
   show (aV (.str p.1) && decide (aD p.2.dv<=12))=true
   rw [(h.p1 p hp).1.1,decide_eq_true (h.p1 p hp).2.1.1]; rfl
  rw [a2,a3]; rfl
 ·have l4:∀ {n:Nat},n<=4->n<=1000:=λh=>by omega
  simp only [ν,Ϸ,or_false] at hd
  rcases hd with rfl | rfl | rfl | rfl | rfl
  ·decide +kernel
  ·exact h.f1.2
  ·refine aP (λd hd=>?_) (by rw [ε]; exact l4 h.n4)
   obtain ⟨n,hn,rfl⟩:=Κ.mp hd
   exact (h.n1 n hn).2
  ·refine aP (λd hd=>?_) (by rw [ε]; exact l4 h.p4)
   obtain ⟨p,hp,rfl⟩:=Κ.mp hd
   refine aP (λd hd=>?_) (by show 2<=1000; decide)
   rcases ν.mp hd with rfl | hd
   ·exact (h.p1 p hp).1.2
   ·rw [θ.mp hd]; exact (h.p1 p hp).2.1.2
  ·exact h.e1.2
theorem Ah {α:V} {xs:List V}:aB (α :: xs) (some 1) none=xs:=by
 simp [aB,HT.sIx]
theorem oh {ss:List Str} (h:ss≠[]) (k:Int):∃ x∈ss,atI (ss.map V.str) (k % ((ss.map V.str).length:Int))=some (.str x):=by
 have hp:0 < ss.length:=DR.mpr h
 rw [ε]
 have h0:0<=k % (ss.length:Int):=E_ _ ∅
 have h1:k % (ss.length:Int) < ss.length:=En _ ∅
 obtain ⟨j,hj⟩:∃ j:Nat,k % (ss.length:Int)=j:=⟨(k % (ss.length:Int)).toNat,∅⟩
 have hv:j < ss.length:=by omega
 exact ⟨ss[j],j9 hv,by rw [hj]; exact ad (by rw [Ψ,Ζ hv]; rfl)⟩
theorem AC {rs:List Rw} {x:Str} (h:x∈rs.flatMap Rw.f?):∃ ns ps e,Rw.df x ns ps e∈rs:=by
 obtain ⟨r,hr,hx⟩:=List.mem_flatMap.mp h
 cases r with
 | ask e=>cases hx
 | df f ns ps e=>rw [θ.mp hx]; exact ⟨ns,ps,e,hr⟩
theorem Rw.few_f:∀ {rs:List Rw},(rs.flatMap Rw.f?).length<=rs.length
 | []=>π _
 | r :: rs=>by
  have:=Rw.few_f (rs:=rs)
  rw [De,ψ,ό]
  have:r.f?.length<=1:=by cases r <;> simp [Rw.f?]
  omega
theorem cC {xs:List V} {v:V} (h:xs[xs.length - 1]?=some v):atI xs (-1)=some v:=by
 have hp:0 < xs.length:=by have:=(ο.mp h).1; omega
 have e:ixN xs.length (-1)=some (xs.length - 1):=by
  simp [ixN]
  omega
 rw [atI,e]
 exact h
theorem lS {n:Nat} (h:1 < n) {p:Prop}:¬ (HT.sIx n 0 (some 1)=0/\p):=λ⟨z,_⟩=>by
 simp [HT.sIx] at z
 omega
def At:Sp:=λvs H Q _=>∃ (v:V) (c:Int) (l:Addr) (us:List V) (rs:List Rw) (f:Str) (ns:List Str) (ps:List Prm) (e:Dv),vs=[v,.int c,.ref l]/\H l=some (.lst us)/\Reps H (rs.map Rw.dv) us/\rs.length<=12/\(∀ r∈rs,RwK r)/\Rw.df f ns ps e∈rs/\Rep H (Rw.df f ns ps e).dv v /\
 ∀ (H':Hp) (v':V) (f':Str) (ns':List Str) (ps':List Prm),af H H'->Rep H' (Rw.df f' ns' ps' e).dv v'->RwK (.df f' ns' ps' e)->Q v' H'
theorem lU:ao ["_law_row","_law_cell","_law_rows","_law_word","_law_f","_law_told","_law_params","_law_e","_law_way","_law_others"] ["_law_row","_law_cell","_law_rows"] (ae kJ):=by trivial
theorem vW {f:Addr} {fd:Μ} (F:Fun K "_law_twice" "_law_twice" kJ f fd) (T:Txt K mg):aF P w K mg base CX0 1 f fd ["_law_row","_law_cell","_law_rows"] At:=by
 have nd:=lU.nd
 refine F.ok lU (λvs H Q E h=>?_) (λcdv A outer s H vs Q E hr h=>?_)
 ·obtain ⟨v,c,l,us,rs,f,ns,ps,e,rfl,_⟩:=h
  rfl
 obtain ⟨v,c,l,us,rs,f,ns,ps,e,rfl,hl,Ru,l12,hk,hm,Rv,q⟩:=h
 refine ⟨_,(@un _ _ _ (wbO (wbD (wv 0 rfl) (wbb rfl (wbd (waZ 3 nd rfl (Ι rfl) ∅) (wbd (waZ 4 nd rfl (Ι rfl) ∅) (wbd (waZ 5 nd rfl (Ι rfl) ∅) (wbd (waZ 6 nd rfl (Ι rfl) ∅) (wbd (waZ 7 nd rfl (Ι rfl) ∅) wbe rfl) rfl) rfl) rfl) rfl) rfl rfl) rfl rfl rfl) (wbO (wbM 8 nd rfl (Ι rfl) (waQ aA (wv 1 rfl) waC) rfl ∅) (wbO (wbI (wbS ay (wv 8 rfl) waC (ai _)) (wbO (wbJ ["_law_one"] [] 9 nd rfl rfl (wbi (wv 2 rfl)) (.of rfl) rfl (λ_ _ _=>⟨pg_name (i:=0) (bB (l:=["_law_one"]) (∅) rfl) rfl (Ι rfl)⟩) (bu ∅) (λ_ _ _=>⟨kM (pt_cmpR ay (pe_ix (fm K rfl) (pv 0) pe_int (λ_ _=>rfl)) pe_str (ai _))⟩) (λ_ _ _=>(waD (fm K rfl) (wv 0 rfl) waC (λ_ _=>rfl))) rfl ∅) (wbQ (wbM 4 nd rfl (Ι rfl) (waD aJ (wv 9 rfl) (waQ aA (waQ ba (wv 1 rfl) waC) (wal ak rfl T.len ∅ (wae (wv 9 rfl) waf rfl) ∅ ∅ rfl rfl)) (λ_ _=>rfl)) rfl ∅))) wbP) (wbO (wbI (wab (wbW (wbS ay (wv 8 rfl) waC (ai _)) (wbX (wbR nX nX waC (wal ak rfl T.len ∅ (wae (wv 5 rfl) waf rfl) ∅ ∅ rfl rfl) waC (by with_unfolding_all rfl))))) (wbQ (wbM 5 nd rfl (Ι rfl) (waQ le (wv 5 rfl) (waX (wae (waD aj (wv 5 rfl) (waQ aA (waQ ba (wv 1 rfl) waC) (wal ak rfl T.len ∅ (wae (wv 5 rfl) waf rfl) ∅ ∅ rfl rfl)) (λ_ _=>rfl)) waf rfl))) rfl ∅)) wbP) (wbO (wbI (wab (wbW (wbS ay (wv 8 rfl) waC (ai _)) (wbX (wbS dY (wal ak rfl T.len ∅ (wae (wv 6 rfl) waf rfl) ∅ ∅ rfl rfl) waC (ai _))))) (wbQ (wbM 6 nd rfl (Ι rfl) (waQ le (waX (wae (waX (wae (waD aj (waD aj (wv 6 rfl) (waY gf waC) (λ_ _=>rfl)) waC (λ_ _=>rfl)) (wae (waD aj (waD aj (wv 6 rfl) waC (λ_ _=>rfl)) waC (λ_ _=>rfl)) waf rfl) rfl)) waf rfl)) (waT oH (wv 6 rfl) (wbA waC) wbz)) rfl ∅)) wbP) (wbO (wbI (wab (wbW (wbS ay (wv 8 rfl) waC (ai _)) (wbX (wbS dY (wal ak rfl T.len ∅ (wae (wv 5 rfl) waf rfl) ∅ ∅ rfl rfl) waC (ai _))))) (wbQ (wbM 5 nd rfl (Ι rfl) (waQ le (waX (wae (waD aj (wv 5 rfl) waC (λ_ _=>rfl)) waf rfl)) (waT oH (wv 5 rfl) (wbA waC) wbz)) rfl ∅)) wbP) (wbQ (wbK (waX (wae (wv 3 rfl) (wae (wv 4 rfl) (wae (wv 5 rfl) (wae (wv 6 rfl) (wae (wv 7 rfl) waf rfl) rfl) rfl) rfl) rfl))))))))))),?_⟩
 obtain ⟨a,vs,rfl,ha,r5⟩:=Rep.tup_inv (show Rep H (.tup [.str "def",.str f,.tup (ns.map Dv.str),.tup (ps.map bw),e]) v from Rv)
 simp only [Reps] at r5
 obtain ⟨u1,_,rfl,R1,u2,_,rfl,R2,u3,_,rfl,R3,u4,_,rfl,R4,u5,_,rfl,R5,rfl⟩:=r5
 simp only [Rep] at R1 R2
 subst R1; subst R2
 obtain ⟨b,ws,rfl,hb,Rb⟩:=Rep.tup_inv R3
 have ew:=bD Rb
 subst ew
 obtain ⟨d,zs,rfl,hd,Rd⟩:=Rep.tup_inv R4
 have lz:zs.length=ps.length:=by rw [Rd.length,ε]
 have dk:=(hk _ hm).inv
 have n4:=dk.n4
 have p4:=dk.p4
 have fin:∀ (H1:Hp) (f1:Str) (b1 d1:Addr) (ns1:List Str) (ps1:List Prm) (xs1:List V),af H H1->H1 b1=some (.tup (ns1.map V.str))->H1 d1=some (.tup xs1)->Reps H1 (ps1.map bw) xs1->DfK f1 ns1 ps1 e->∀ p,H1 p=none->Q (.ref p) (upd H1 p (.tup [.str "def",.str f1,.ref b1,.ref d1,u5])):=λH1 f1 b1 d1 ns1 ps1 xs1 s1 h1 h2 h3 k p hp=>by
  have t:=ac hp (.tup [.str "def",.str f1,.ref b1,.ref d1,u5])
  refine q _ _ f1 ns1 ps1 (s1.trans t) ?_ k.row
  show Rep _ (.tup [.str "def",.str f1,.tup (ns1.map Dv.str),.tup (ps1.map bw),e]) _
  rw [Rep]
  refine ⟨p,_,rfl,aa,?_⟩
  simp only [Reps]
  refine ⟨_,_,rfl,by simp only [Rep],_,_,rfl,by simp only [Rep],_,_,rfl,?_,_,_,rfl,?_,_,_,rfl,R5.mono (s1.trans t),rfl⟩
  ·rw [Rep]; exact ⟨b1,_,rfl,t _ _ h1,gr _⟩
  ·rw [Rep]; exact ⟨d1,_,rfl,t _ _ h2,h3.mono t⟩
 have z5:5<=sizeLine:=zle (π 5) ∅
 have z1:1<=sizeLine:=zle (π 1) ∅
 refine ⟨_,rfl,a,_,rfl,SqT.of ha,rfl,_,_,rfl,gnm ⟨_,_,rfl,gnm ⟨_,_,rfl,gnm ⟨_,_,rfl,gnm ⟨_,_,rfl,gnm ⟨rfl,?_⟩⟩⟩⟩⟩⟩
 refine ⟨_,rfl,_,_,rfl,rfl,(by show (0:Int) < 4; decide),gnm ?_⟩
 have hw:c % 4=0\/c % 4=1\/c % 4=2\/c % 4=3:=by omega
 have ne:∀ {i:Int} (j:Int),c % 4=i->i≠j->¬ decide (V.int (c % 4)=V.int j)=true:=λj h z y=>by
  have:=of_decide_eq_true y
  injection this
  omega
 rcases hw with hw | hw | hw | hw
 ·refine ⟨_,rfl,rfl,_,rfl,au (λ_=>?_) (λh=>absurd (decide_eq_true (congrArg V.int hw)) h)⟩
  refine ⟨_,rfl,l,rfl,⟨us,SqL.of hl⟩,jX (xs:=us) (λi ys H'=>H'=H/\ys=((rs.take i).flatMap Rw.f?).map V.str) ⟨rfl,rfl⟩ (λi ys H' _ p=>by rw [p.1]; exact SqL.of hl) ?_ ?_⟩
  ·rintro i ys H' x hx ⟨rfl,rfl⟩
   obtain ⟨r,hr',Rx⟩:=bf (f:=Rw.dv) Ru hx
   obtain ⟨a',rfl,z⟩:=Rw.inv Rx
   have hti:rs.take (i + 1)=rs.take i ++ [r]:=by rw [ϣ,hr']; rfl
   rw [hti,c6,ω]
   cases r with
   | ask e'=>
    obtain ⟨u,h2⟩:=z
    refine lF ⟨_,rfl,a',_,0,.str "ask",rfl,rfl,SqT.of h2,ad (j:=0) rfl,rfl,_,rfl,?_⟩
    rw [decide_eq_false fq]
    exact aq ⟨rfl,by simp [Rw.f?]⟩
   | df f' ns' ps' e'=>
    obtain ⟨b',c',u,h2,_⟩:=z
    refine lF ⟨_,rfl,a',_,0,.str "def",rfl,rfl,SqT.of h2,ad (j:=0) rfl,rfl,_,rfl,?_⟩
    refine au (λ_=>⟨_,rfl,a',_,1,.str f',rfl,rfl,SqT.of h2,ad (j:=1) rfl,?_,rfl,rfl⟩) (λh=>absurd (decide_eq_true rfl) h)
    rw [ε,υ]
    have:=Rw.few_f (rs:=rs.take i)
    rw [ϊ] at this
    omega
  ·rintro ys H' ⟨rfl,rfl⟩ p hp
   rw [show us.length=rs.length by rw [Ru.length,ε],Ϥ]
   have s1:=ac hp (.lst ((rs.flatMap Rw.f?).map V.str))
   have hf:f∈rs.flatMap Rw.f?:=List.mem_flatMap.mpr ⟨_,hm,θ.mpr rfl⟩
   obtain ⟨x,hx,hax⟩:=oh (List.ne_nil_of_mem hf) (c / 4)
   obtain ⟨ns',ps',e',hm'⟩:=AC hx
   have lp:0 < (rs.flatMap Rw.f?).length:=List.length_pos_of_mem hf
   have hp1:upd H' p (.lst ((rs.flatMap Rw.f?).map V.str)) p=some (.lst ((rs.flatMap Rw.f?).map V.str)):=aa
   refine gnm ⟨_,rfl,_,rfl,_,_,rfl,rfl,⟨∅,∅⟩,_,rfl,p,_,rfl,.inl (SqL.of hp1),_,_,rfl,rfl,(by rw [ε]; show (0:Int) < _; omega),p,_,_,.str x,rfl,rfl,SqL.of hp1,hax,gnm ?_⟩
   generalize upd H' p (.lst ((rs.flatMap Rw.f?).map V.str))=H1 at s1 ⊢
   refine ⟨_,rfl,rfl,_,rfl,au (λh=>absurd h (ne 1 hw ∅)) (λ_=>aq (tnx ?_))⟩
   refine ⟨_,rfl,rfl,_,rfl,au (λh=>absurd h (ne 2 hw ∅)) (λ_=>aq (tnx ?_))⟩
   refine ⟨_,rfl,rfl,_,rfl,au (λh=>absurd h (ne 3 hw ∅)) (λ_=>aq (tnx ?_))⟩
   exact ⟨_,rfl,_,rfl,_,rfl,_,rfl,_,rfl,z5,fin H1 x b d ns ps zs s1 (s1 _ _ hb) (s1 _ _ hd) (Rd.mono s1) { dk with f1:=(hk _ hm').inv.f1 }⟩
 ·refine ⟨_,rfl,rfl,_,rfl,au (λh=>absurd h (ne 0 hw ∅)) (λ_=>tnx ?_)⟩
  refine ⟨_,rfl,rfl,_,rfl,au (λ_=>?_) (λh=>absurd (decide_eq_true (congrArg V.int hw)) h)⟩
  have no:∀ p,H p=none->Q (.ref p) (upd H p (.tup [.str "def",.str f,.ref b,.ref d,u5])):=fin H f b d ns ps zs (λ_ _ z=>z) hb hd Rd dk
  refine ⟨_,rfl,b,_,rfl,.inr (SqT.of hb),_,_,rfl,rfl,_,rfl,au (λh1=>⟨_,_,rfl,rfl,_,rfl,au (λh2=>?_) (λ_=>tnx ?_)⟩) (λ_=>⟨_,rfl,aq (tnx ?_)⟩)⟩
  rotate_left
  ·refine ⟨_,rfl,rfl,_,rfl,au (λh=>absurd h (ne 2 hw ∅)) (λ_=>aq (tnx ?_))⟩
   refine ⟨_,rfl,rfl,_,rfl,au (λh=>absurd h (ne 3 hw ∅)) (λ_=>aq (tnx ?_))⟩
   exact ⟨_,rfl,_,rfl,_,rfl,_,rfl,_,rfl,z5,no⟩
  ·refine ⟨_,rfl,rfl,_,rfl,au (λh=>absurd h (ne 2 hw ∅)) (λ_=>aq (tnx ?_))⟩
   refine ⟨_,rfl,rfl,_,rfl,au (λh=>absurd h (ne 3 hw ∅)) (λ_=>aq (tnx ?_))⟩
   exact ⟨_,rfl,_,rfl,_,rfl,_,rfl,_,rfl,z5,no⟩
  have g1:=of_decide_eq_true h1
  have g2:=of_decide_eq_true h2
  rw [ε] at g1 g2
  have l0:ns≠[]:=λz=>by rw [z] at g1; exact absurd g1 ∅
  obtain ⟨x,hx,hax⟩:=oh l0 (c / 4)
  refine ⟨_,rfl,_,rfl,_,rfl,_,_,rfl,rfl,⟨∅,∅⟩,_,rfl,b,_,rfl,.inr (SqT.of hb),_,_,rfl,rfl,(by rw [ε]; exact g1),b,_,_,.str x,rfl,rfl,SqT.of hb,hax,z1,λp1 hp1=>?_⟩
  have s1:=ac hp1 (.tup [.str x])
  refine ⟨b,p1,_,_,rfl,rfl,SqT.of (s1 _ _ hb),SqT.of aa,(by rw [ε,υ]; show _ + 1<=_; omega),λz=>absurd (List.map_eq_nil_iff.mp z) l0,λz=>(nomatch z),λp2 hp2=>gnm ?_⟩
  have s2:=s1.trans (ac hp2 (.tup (ns.map V.str ++ [.str x])))
  have hp3:upd (upd H p1 (.tup [.str x])) p2 (.tup (ns.map V.str ++ [.str x])) p2=some (.tup ((ns ++ [x]).map V.str)):=by rw [aa,ω]; rfl
  refine ⟨_,rfl,rfl,_,rfl,au (λh=>absurd h (ne 2 hw ∅)) (λ_=>aq (tnx ?_))⟩
  refine ⟨_,rfl,rfl,_,rfl,au (λh=>absurd h (ne 3 hw ∅)) (λ_=>aq (tnx ?_))⟩
  exact ⟨_,rfl,_,rfl,_,rfl,_,rfl,_,rfl,z5,fin _ f p2 d (ns ++ [x]) ps zs s2 hp3 (s2 _ _ hd) (Rd.mono s2) { dk with n4:=by rw [ψ]; show _ + 1<=4; omega,n1:=λn hn=>(ϒ.mp hn).elim (dk.n1 n) λz=>by rw [θ.mp z]; exact dk.n1 x hx }⟩
 ·refine ⟨_,rfl,rfl,_,rfl,au (λh=>absurd h (ne 0 hw ∅)) (λ_=>tnx ?_)⟩
  refine ⟨_,rfl,rfl,_,rfl,au (λh=>absurd h (ne 1 hw ∅)) (λ_=>aq (tnx ?_))⟩
  refine ⟨_,rfl,rfl,_,rfl,au (λ_=>?_) (λh=>absurd (decide_eq_true (congrArg V.int hw)) h)⟩
  refine ⟨_,rfl,d,_,rfl,.inr (SqT.of hd),_,_,rfl,rfl,_,rfl,au (λh1=>?_) (λ_=>tnx ?_)⟩
  rotate_left
  ·refine ⟨_,rfl,rfl,_,rfl,au (λh=>absurd h (ne 3 hw ∅)) (λ_=>aq (tnx ?_))⟩
   exact ⟨_,rfl,_,rfl,_,rfl,_,rfl,_,rfl,z5,(fin H f b d ns ps zs (λ_ _ z=>z) hb hd Rd dk)⟩
  have g1:=of_decide_eq_true h1
  match ps,zs,Rd,lz,g1,p4 with
  | p0 :: pr,z0 :: zr,Rd,lz,g1,p4=>
  have ln:1 < (z0 :: zr).length:=by omega
  obtain ⟨zl,hzl⟩:∃ zl,(z0 :: zr)[(z0 :: zr).length - 1]?=some zl:=⟨_,Ζ ∅⟩
  obtain ⟨pl,hpl,Rl⟩:=bf (f:=bw) Rd hzl
  have mpl:=Λ hpl
  obtain ⟨al,ul,rfl,hal,_⟩:=dq Rl
  have Rd':=Rd
  simp only [Υ,Reps] at Rd'
  obtain ⟨_,_,e9,R0,Rr⟩:=Rd'
  cases e9
  obtain ⟨a0,k0,rfl,ha0,Rk⟩:=dq R0
  refine ⟨_,rfl,1,rfl,d,_,_,.ref al,rfl,rfl,SqT.of hd,cC hzl,al,_,0,.str pl.1,rfl,rfl,SqT.of hal,ad (j:=0) rfl,_,rfl,d,_,0,.ref a0,rfl,rfl,SqT.of hd,ad (j:=0) rfl,a0,_,1,k0,rfl,rfl,SqT.of ha0,ad (j:=1) rfl,z2,λp1 hp1=>⟨z1,λp2 hp2=>?_⟩⟩
  have s1:=ac hp1 (.tup [.str pl.1,k0])
  have w1:upd H p1 (.tup [.str pl.1,k0]) p1=some (.tup [.str pl.1,k0]):=aa
  generalize upd H p1 (.tup [.str pl.1,k0])=H1 at s1 w1 hp2 ⊢
  have s2:=ac hp2 (.tup [.ref p1])
  have w2:upd H1 p2 (.tup [.ref p1]) p2=some (.tup [.ref p1]):=aa
  generalize upd H1 p2 (.tup [.ref p1])=H2 at s2 w2 ⊢
  refine ⟨_,rfl,1,rfl,d,_,rfl,SqT.of (s2 _ _ (s1 _ _ hd)),lS ln,λp3 hp3=>?_⟩
  rw [Ah]
  have s3:=ac hp3 (.tup zr)
  have w3:upd H2 p3 (.tup zr) p3=some (.tup zr):=aa
  generalize upd H2 p3 (.tup zr)=H3 at s3 w3 ⊢
  refine ⟨p2,p3,_,_,rfl,rfl,SqT.of (s3 _ _ w2),SqT.of w3,(by rw [υ]; show 1 + zr.length<=_; simp only [ό] at lz p4; omega),λz=>(nomatch z),λz=>absurd ln (by rw [z]; exact y6 1),λp4' hp4=>gnm ?_⟩
  have s4:=ac hp4 (.tup ([.ref p1] ++ zr))
  have s14:=s2.trans (s3.trans s4)
  have s04:=s1.trans s14
  have R4:Reps (upd H3 p4' (.tup ([.ref p1] ++ zr))) (((pl.1,p0.2) :: pr).map bw) ([.ref p1] ++ zr):=by
   simp only [Υ,CD,CQ,Reps]
   refine ⟨_,_,rfl,?_,Rr.mono s04⟩
   show Rep _ (.tup [.str pl.1,p0.2.dv]) _
   rw [Rep]
   refine ⟨p1,_,rfl,s14 _ _ w1,?_⟩
   simp only [Reps]
   exact ⟨_,_,rfl,by simp only [Rep],_,_,rfl,Rk.mono s04,rfl⟩
  refine ⟨_,rfl,rfl,_,rfl,au (λh=>absurd h (ne 3 hw ∅)) (λ_=>aq (tnx ?_))⟩
  exact ⟨_,rfl,_,rfl,_,rfl,_,rfl,_,rfl,z5,fin _ f b p4' ns ((pl.1,p0.2) :: pr) _ s04 (s04 _ _ hb) aa R4 { dk with p4:=p4,p1:=λp hp=>(ν.mp hp).elim (λz=>by rw [z]; exact ⟨(dk.p1 pl mpl).1,(dk.p1 p0 Δ).2⟩) λz=>dk.p1 p (ρ _ z) }⟩
 ·refine ⟨_,rfl,rfl,_,rfl,au (λh=>absurd h (ne 0 hw ∅)) (λ_=>tnx ?_)⟩
  refine ⟨_,rfl,rfl,_,rfl,au (λh=>absurd h (ne 1 hw ∅)) (λ_=>aq (tnx ?_))⟩
  refine ⟨_,rfl,rfl,_,rfl,au (λh=>absurd h (ne 2 hw ∅)) (λ_=>aq (tnx ?_))⟩
  refine ⟨_,rfl,rfl,_,rfl,au (λ_=>?_) (λh=>absurd (decide_eq_true (congrArg V.int hw)) h)⟩
  refine ⟨_,rfl,b,_,rfl,.inr (SqT.of hb),_,_,rfl,rfl,_,rfl,au (λh1=>?_) (λ_=>tnx (⟨_,rfl,_,rfl,_,rfl,_,rfl,_,rfl,z5,(fin H f b d ns ps zs (λ_ _ z=>z) hb hd Rd dk)⟩))⟩
  have g1:=of_decide_eq_true h1
  match ns,g1 with
  | n0 :: n1 :: nr,_=>
  refine ⟨_,rfl,b,_,1,.str n1,rfl,rfl,SqT.of hb,ad (j:=1) rfl,z1,λp1 hp1=>?_⟩
  have s1:=ac hp1 (.tup [.str n1])
  have w1:upd H p1 (.tup [.str n1]) p1=some (.tup [.str n1]):=aa
  generalize upd H p1 (.tup [.str n1])=H1 at s1 w1 ⊢
  refine ⟨_,rfl,1,rfl,b,_,rfl,SqT.of (s1 _ _ hb),lS (by show 1 < (nr.map V.str).length + 1 + 1; omega),λp3 hp3=>?_⟩
  rw [Υ,Ah]
  have s3:=ac hp3 (.tup ((n1 :: nr).map V.str))
  have w3:upd H1 p3 (.tup ((n1 :: nr).map V.str)) p3=some (.tup ((n1 :: nr).map V.str)):=aa
  generalize upd H1 p3 (.tup ((n1 :: nr).map V.str))=H3 at s3 w3 ⊢
  refine ⟨p1,p3,_,_,rfl,rfl,SqT.of (s3 _ _ w1),SqT.of w3,(by rw [υ,ε]; show 1 + (nr.length + 1)<=_; simp only [ό] at n4; omega),λz=>(nomatch z),λz=>(nomatch z),λp4' hp4=>gnm ?_⟩
  have s4:=s1.trans (s3.trans (ac hp4 (.tup ([.str n1] ++ (n1 :: nr).map V.str))))
  exact ⟨_,rfl,_,rfl,_,rfl,_,rfl,_,rfl,z5,fin _ f p4' d (n1 :: n1 :: nr) ps zs s4 aa (s4 _ _ hd) (Rd.mono s4) { dk with n4:=n4,n1:=λn hn=>dk.n1 n (by simp only [ν] at hn ⊢; rcases hn with z | z | z <;> simp [z]) }⟩
theorem iQ {ns zs q1 q2:List Str} (nz:zs.Nodup) (mz:∀ x,x∈zs↔x∈ns) (p1:q1.Perm zs) (w1:q1.Pairwise lK) (p2:q2.Perm ns) (w2:ns.Nodup->q2.Pairwise lK):if (!decide ns.Nodup)=true then q1.length≠q2.length else q1=q2:=by
 have sl:=mK nz mz
 by_cases n:ns.Nodup
 ·rw [decide_eq_true n,if_neg ∅]
  exact yT w1 (w2 n) (p1.trans (((List.perm_ext_iff_of_nodup nz n).mpr mz).trans p2.symm))
 ·rw [decide_eq_false n] at sl ⊢
  show q1.length≠q2.length
  rw [p1.length_eq,p2.length_eq]
  have:=of_decide_eq_true sl
  omega
theorem tD (ms:List Str):(ms.map V.str).all fJ=true:=by rw [CG,ϵ]; intro x _; rfl
theorem uK {m:Str}:∀ ms:List Str,inV (.str m) (ms.map V.str)=decide (m∈ms)
 | []=>rfl
 | y :: ms=>by
  have ih:=uK (m:=m) ms
  show (eqV (.str y) (.str m) || inV (.str m) (ms.map V.str))=_
  rw [ih]
  by_cases h:y=m
  ·subst h
   rw [decide_eq_true (Δ)]
   simp [eqV]
  ·have e1:eqV (.str y) (.str m)=false:=by simp [eqV,h]
   rw [e1,BR]
   by_cases z:m∈ms
   ·rw [decide_eq_true z,decide_eq_true (ρ _ z)]
   ·rw [decide_eq_false z,decide_eq_false (λq=>(ν.mp q).elim (λq=>h q.symm) z)]
def qU:Sp:=λvs H Q _=>∃ (l:Addr) (us:List V) (rs:List Rw),vs=[.ref l]/\H l=some (.lst us)/\Reps H (rs.map Rw.dv) us/\(∀ r∈rs,r.Fit)/\rs.length<=12/\((∀ i,¬ twB rs i)->∀ H',af H H'->Q .non H') /\
 ∀ i:Nat,twB rs i->(∀ j,j < i->¬ twB rs j)->∀ H',af H H'->Q (.int i) H'
theorem lY:ao ["_law_rows","_law_some","_law_k","_law_row","_law_xs"] ["_law_rows"] (ae ib):=by trivial
theorem vN {f:Addr} {fd:Μ} (F:Fun K "_law_first" "_law_first" ib f fd) (T:Txt K mg):aF P w K mg base CX0 1 f fd ["_law_rows"] qU:=by
 have nd:=lY.nd
 refine F.ok lY (λvs H Q E h=>?_) (λcdv A outer s H vs Q E hr h=>?_)
 ·obtain ⟨l,us,rs,rfl,_⟩:=h
  rfl
 have huL:(A.deeper (x4 "_law_first" (ae ib) s.heap.objs.size f cdv)).units < cLine:=B_ (j8 _ 150) (fE hr)
 obtain ⟨l,us,rs,rfl,hl,Ru,hC,l12,good,bad⟩:=h
 refine ⟨_,(@un _ _ _ (wbO (wbM 1 nd rfl (Ι rfl) (waM waf) rfl ∅) (wbO (wbH Ϯ rfl (wbg rfl T.enumerate (wae (wv 0 rfl) waf rfl) rfl) (wbb rfl (wbd (waZ 2 nd rfl (Ι rfl) ∅) (wbd (waZ 3 nd rfl (Ι rfl) ∅) wbe rfl) rfl) rfl rfl) (wbQ (wbI (wbS ay (waD aj (wv 3 rfl) waC (λ_ _=>rfl)) waV (ai _)) (wbO (wbJ ["_law_param"] [] 4 nd rfl rfl (wbo (waD aj (wv 3 rfl) waC (λ_ _=>rfl))) (.of rfl) rfl (λ_ _ _=>⟨pg_name (i:=0) (bB (l:=["_law_param"]) (∅) rfl) rfl (Ι rfl)⟩) (bu ∅) (λ_ _ _=>wbx) (λ_ _ _=>(waD (fm K rfl) (wv 0 rfl) waC (λ_ _=>rfl))) rfl ∅) (wbO (wbI (wab (wbY (wbS jB (waD aj (wv 3 rfl) waC (λ_ _=>rfl)) (wv 1 rfl) (by with_unfolding_all rfl)) (wbY (wbS (rD huL) (wal (fC rfl) rfl T.sorted ∅ (wae (wam (gq rfl) rfl T.set ∅ (wae (waD aj (wv 3 rfl) waC (λ_ _=>rfl)) waf rfl) ∅ ∅ rfl rfl) waf rfl) ∅ ∅ rfl rfl) (wal fQ rfl T.sorted ∅ (wae (waD aj (wv 3 rfl) waC (λ_ _=>rfl)) waf rfl) ∅ ∅ rfl rfl) (ai _)) (wbZ (wbS (rD huL) (wal (fC rfl) rfl T.sorted ∅ (wae (wam (gq rfl) rfl T.set ∅ (wae (wv 4 rfl) waf rfl) ∅ ∅ rfl rfl) waf rfl) ∅ ∅ rfl rfl) (wal fQ rfl T.sorted ∅ (wae (wv 4 rfl) waf rfl) ∅ ∅ rfl rfl) (ai _)))))) (wbQ (wbK (wv 2 rfl))) wbP) (wbQ (wbG (waj Ο ϫ Ϭ bd (wv 1 rfl) (wae (waD aj (wv 3 rfl) waC (λ_ _=>rfl)) waf rfl) rfl rfl rfl rfl rfl) rfl)))) wbP)) ∅) (wbQ (wbK waN))))),?_⟩
 have lu:us.length=rs.length:=by have:=Ru.length; rwa [ε] at this
 refine ⟨Ω _,λS hS=>gnm ?_⟩
 have s0:=ac hS (.lst [])
 have d0:upd H S (.lst []) S=some (.lst (([]:List Str).map V.str)):=aa
 generalize upd H S (.lst [])=H0 at s0 d0 ⊢
 refine ⟨_,rfl,l,rfl,⟨us,SqL.of (s0 _ _ hl)⟩,cE (xs:=us) (λi σ H'=>∃ (o1 o2 o3:Option V),σ=[some (.ref l),some (.ref S),o1,o2,o3]/\af H H'/\H' S=some (.lst (((rs.take i).flatMap Rw.f?).map V.str))/\∀ j,j < i->¬ twB rs j) ⟨_,_,_,rfl,s0,d0,λj h=>absurd h (BJ _)⟩ (λi σ H' _ ⟨_,_,_,_,s1,_⟩=>SqL.of (s1 _ _ hl)) ?T1 ?_⟩
 case T1=>
  rintro i x σ H1 p hx ⟨o1,o2,o3,rfl,s1,d1,g1⟩ hp
  obtain ⟨r,hr',Rx⟩:=bf (f:=Rw.dv) Ru hx
  have hi:i < us.length:=(ο.mp hx).1
  have ok:=hC r (Λ hr')
  have hti:rs.take (i + 1)=rs.take i ++ [r]:=by rw [ϣ,hr']; rfl
  have lf:((rs.take i).flatMap Rw.f?).length<=12:=by
   have h2:=Rw.few_f (rs:=rs.take i)
   rw [ϊ] at h2
   omega
  have s2:=s1.trans (ac hp (.tup [.int i,x]))
  have d2:=ac hp (.tup [.int i,x]) _ _ d1
  refine ⟨p,_,rfl,SqT.of aa,rfl,_,_,rfl,_,_,rfl,rfl,?_⟩
  generalize upd H1 p (.tup [.int i,x])=H2 at s2 d2 ⊢
  obtain ⟨a,rfl,inv⟩:=Rw.inv (Rx.mono s2)
  cases r with
  | ask e=>
   obtain ⟨u,ha⟩:=inv
   refine ⟨_,rfl,a,_,0,.str "ask",rfl,rfl,SqT.of ha,ad (j:=0) rfl,rfl,_,rfl,au (λh=>absurd (of_decide_eq_true h) fq) (λ_=>?_)⟩
   refine ⟨_,_,_,rfl,s2,?_,λj hj=>bc (p:=λj=>¬ twB rs j) hj g1 λ⟨f,ns,ps,e',h',_⟩=>by rw [hr'] at h'; cases h'⟩
   rw [hti,c6]
   simpa [Rw.f?] using d2
  | df g ns ps e=>
   obtain ⟨b,c,u,ha,Rn,Rp⟩:=inv
   obtain ⟨n4,p4,_⟩:=ok
   refine ⟨_,rfl,a,_,0,.str "def",rfl,rfl,SqT.of ha,ad (j:=0) rfl,rfl,_,rfl,au (λ_=>?_) (λh=>absurd (decide_eq_true rfl) h)⟩
   obtain ⟨b',ws,e1,hb,Rw'⟩:=Rep.tup_inv Rn
   cases e1
   obtain ⟨c',zs,e2,hc,Rz⟩:=Rep.tup_inv Rp
   cases e2
   have ew:ws=ns.map V.str:=bD Rw'
   subst ew
   have lz:zs.length=ps.length:=by have:=Rz.length; rwa [ε] at this
   refine ⟨_,rfl,a,_,3,.ref c,rfl,rfl,SqT.of ha,ad (j:=3) rfl,c,rfl,⟨zs,SqT.of hc⟩,eW (xs:=zs) (λi ys H'=>H'=H2/\ys=((ps.map (·.1)).take i).map V.str) ⟨rfl,rfl⟩ (λi ys H' _ p=>by rw [p.1]; exact SqT.of hc) ?_ ?_⟩
   ·rintro i ys H' x hx ⟨rfl,rfl⟩
    obtain ⟨p,hp,Rx⟩:=bf (f:=bw) Rz hx
    obtain ⟨e,z,rfl,he,_⟩:=dq Rx
    refine bp ⟨_,rfl,e,_,0,.str p.1,rfl,rfl,SqT.of he,ad (j:=0) rfl,?_,rfl,?_⟩
    ·rw [ε,ϊ,ε,υ]; omega
    ·rw [ϣ,Ψ,hp,ω]; rfl
   ·rintro ys H' ⟨rfl,rfl⟩ r hr''
    rw [lz,show ps.length=(ps.map (·.1)).length by rw [ε],Ϥ]
    have lp:(ps.map (·.1)).length<=4:=by rw [ε]; exact p4
    have s3:=ac hr'' (.lst ((ps.map (·.1)).map V.str))
    have hr3:upd H' r (.lst ((ps.map (·.1)).map V.str)) r=some (.lst ((ps.map (·.1)).map V.str)):=aa
    have t3:=s2.trans s3
    have ha:=s3 _ _ ha
    have hb:=s3 _ _ hb
    have d3:=s3 _ _ d2
    refine gnm ?_
    generalize upd H' r (.lst ((ps.map (·.1)).map V.str))=H3 at t3 ha hb hr3 d3 ⊢
    refine ⟨_,rfl,a,_,1,.str g,rfl,rfl,SqT.of ha,ad (j:=1) rfl,_,rfl,S,_,rfl,.inl (SqL.of d3),rfl,tD _,_,rfl,?_⟩
    show if (inV (.str g) (((rs.take i).flatMap Rw.f?).map V.str))=true then _ else _
    rw [uK]
    refine au (λh=>av ⟨_,rfl,bad i ⟨g,ns,ps,e,hr',.inl (of_decide_eq_true h)⟩ g1 _ t3⟩) (λh=>?_)
    have gn:g∉(rs.take i).flatMap Rw.f?:=λz=>h (decide_eq_true z)
    refine ⟨_,rfl,a,_,2,.ref b,rfl,rfl,SqT.of ha,ad (j:=2) rfl,b,ns,rfl,.inr (SqT.of hb),∅,λa1 y1 ha1 nz mz ly=>⟨a1,y1,rfl,aa,nz,∅,λl1 q1 hl1 p1 w1=>?_⟩⟩
    have s4:=(ac ha1 _).trans (ac hl1 (.lst (q1.map V.str)))
    generalize eH4:upd (upd H3 a1 _) l1 (.lst (q1.map V.str))=H4 at s4 ⊢
    have k1:H4 l1=some (.lst (q1.map V.str)):=by rw [<- eH4]; exact aa
    refine ⟨_,rfl,a,_,2,.ref b,rfl,rfl,SqT.of (s4 _ _ ha),ad (j:=2) rfl,b,ns,rfl,.inr (s4 _ _ hb),∅,λl2 q2 hl2 p2 w2=>?_⟩
    have s5:=ac hl2 (.lst (q2.map V.str))
    refine ⟨l1,l2,q1,q2,_,rfl,rfl,SqL.of (s5 _ _ k1),SqL.of aa,iQ nz mz p1 w1 p2 w2,_,rfl,?_⟩
    have t5:=s4.trans s5
    generalize upd H4 l2 (.lst (q2.map V.str))=H5 at t5 ⊢
    refine au (λh=>av ⟨_,rfl,bad i ⟨g,ns,ps,e,hr',.inr (.inl λz=>by rw [decide_eq_true z] at h; cases h)⟩ g1 _ (t3.trans t5)⟩) (λh=>?_)
    have n1:ns.Nodup:=A9 λz=>h (by rw [decide_eq_false z]; rfl)
    have hr5:=t5 _ _ hr3
    refine ⟨_,rfl,r,_,rfl,.inl (SqL.of hr5),∅,λa1 y1 ha1 nz mz ly=>⟨a1,y1,rfl,aa,nz,∅,λl1 q1 hl1 p1 w1=>?_⟩⟩
    have s6:=(ac ha1 _).trans (ac hl1 (.lst (q1.map V.str)))
    generalize eH6:upd (upd H5 a1 _) l1 (.lst (q1.map V.str))=H6 at s6 ⊢
    have k1:H6 l1=some (.lst (q1.map V.str)):=by rw [<- eH6]; exact aa
    refine ⟨_,rfl,r,_,rfl,.inl (s6 _ _ hr5),∅,λl2 q2 hl2 p2 w2=>?_⟩
    have s7:=ac hl2 (.lst (q2.map V.str))
    refine ⟨l1,l2,q1,q2,_,rfl,rfl,SqL.of (s7 _ _ k1),SqL.of aa,iQ nz mz p1 w1 p2 w2,_,rfl,?_⟩
    have t7:=t5.trans (s6.trans s7)
    generalize upd H6 l2 (.lst (q2.map V.str))=H7 at t7 ⊢
    refine au (λh=>⟨_,rfl,bad i ⟨g,ns,ps,e,hr',.inr (.inr λz=>by rw [decide_eq_true z] at h; cases h)⟩ g1 _ (t3.trans t7)⟩) (λh=>?_)
    have n2:(ps.map (·.1)).Nodup:=A9 λz=>h (by rw [decide_eq_false z]; rfl)
    refine ⟨_,rfl,.inl ⟨rfl,_,SqL.of (t7 _ _ d3)⟩,_,rfl,a,_,1,.str g,rfl,rfl,SqT.of (t7 _ _ ha),ad (j:=1) rfl,S,_,_,rfl,rfl,t7 _ _ d3,?_,?_⟩
    ·rw [ε,υ]; omega
    ·refine ⟨_,_,_,rfl,λx o e=>by rw [ah (ag e hS)]; exact t7 _ _ (t3 _ _ e),?_,λj hj=>bc (p:=λj=>¬ twB rs j) hj g1 λ⟨f,ns',ps',e',h',z⟩=>?_⟩
     ·rw [aa,hti,c6,ω]
      rfl
     ·rw [hr'] at h'
      cases h'
      rcases z with z | z | z
      ·exact gn z
      ·exact z n1
      ·exact z n2
 rintro σ H1 ⟨o1,o2,o3,rfl,s1,_,g1⟩
 refine good (λi z=>?_) H1 s1
 obtain ⟨f,ns,ps,e,h,_⟩:=id z
 exact g1 i (by rw [lu]; exact (ο.mp h).1) z
abbrev ir:Stmt:=top 70
def rl (K:ι):Sp:=λvs H Q _=>∃ (a:Addr) (ns:List Int),vs=[.ref a]/\SqL K H a (ns.map V.int)/\ns.length<=63/\∀ H',Q (.bl true) H'
theorem Am {t u:TS} {D:bP} {σ:St} {H:Hp} (h:∀ X:St->Hp->Prop,(∀ σ' H',X σ' H'↔u D σ' H')->t { D with nx:=X } σ H):sZ t u D σ H:=h _ λ_ _=>Iff.rfl
theorem mG {k:Nat} {ix:List Nat} {tt:TT} {te:TE} {σ:St} {i j:Nat} {K:ι} {a:Addr} {x y:V} {ys:List V} {H:Hp} {N:List V->Hp->Prop} (ha:H a=some (.tup [x,y])) (h:tt (((bU k ix σ).set i (some x)).set j (some y)) H λc H3=>if c=true then te (((bU k ix σ).set i (some x)).set j (some y)) H3 λy H4=>ys.length < sizeLine/\N (ys ++ [y]) H4 else N ys H3) :
  ca k ix (uL K 2 (el (cb i) (el (cb j) oj))) tt te σ (.ref a) ys H N:=⟨a,_,rfl,SqT.of ha,rfl,_,_,rfl,_,_,rfl,rfl,h⟩
def IsD (rs:List Rw) (j:Nat):Prop:=∃ f ns ps e,rs[j]?=some (.df f ns ps e)
structure Rws (H:Hp) (R:Addr) (us:List V) (rs:List Rw):Prop where
 at_:H R=some (.lst us)
 rep:Reps H (rs.map Rw.dv) us
 len:rs.length<=12
 ok:∀ x∈rs,RwK x
theorem Rws.mono {H H':Hp} {R:Addr} {us:List V} {rs:List Rw} (h:Rws H R us rs) (s:af H H'):Rws H' R us rs:=⟨s _ _ h.at_,h.rep.mono s,h.len,h.ok⟩
theorem Rws.lu {H:Hp} {R:Addr} {us:List V} {rs:List Rw} (h:Rws H R us rs):us.length=rs.length:=by have:=h.rep.length; rwa [ε] at this
theorem fB {H:Hp} {d:Dv} {v:V} (Rd:Rep H d v):∀ (j:Nat) {ds:List Dv} {vs:List V},Reps H ds vs->Reps H (ds.set j d) (vs.set j v)
 | j,[],vs,h=>by
  simp only [Reps] at h
  subst h
  simp [Reps]
 | 0,d' :: ds,vs,h=>by
  simp only [Reps] at h
  obtain ⟨v',r,rfl,_,h2⟩:=h
  simp only [List.set_cons_zero,Reps]
  exact ⟨_,_,rfl,Rd,h2⟩
 | j + 1,d' :: ds,vs,h=>by
  simp only [Reps] at h
  obtain ⟨v',r,rfl,h1,h2⟩:=h
  simp only [List.set_cons_succ,Reps]
  exact ⟨_,_,rfl,h1,fB Rd j h2⟩
theorem Rws.set {H H':Hp} {R S:Addr} {us:List V} {rs:List Rw} {v:V} {r:Rw} {j:Nat} (W:Rws H R us rs) (s:af H H') (hS:H' S=some (.lst (us.set j v))) (Rv:Rep H' r.dv v) (k:RwK r):Rws H' S (us.set j v) (rs.set j r):=by
 refine ⟨hS,?_,by rw [Cd]; exact W.len,λx hx=>?_⟩
 ·rw [E1]
  exact fB Rv j (W.rep.mono s)
 ·rcases Ev hx with z | z
  ·exact W.ok x z
  ·rw [z]; exact k
theorem wZ {us:List V} {v:V} {j:Nat} (h:j < us.length):us.take j ++ [v] ++ us.drop (j + 1)=us.set j v:=by
 rw [List.set_eq_take_append_cons_drop,if_pos h,Cm]; rfl
theorem qb {w:Str} {i:Int}:L2.Pl 2 (.tup [.str w,.tup [.int i,.int 0]]):=.tup λd hd=>by
 rcases ν.mp hd with rfl | hd
 ·exact .str
 ·rw [θ.mp hd]; exact .tup λd hd=>by
   rcases ν.mp hd with rfl | hd
   ·exact .int
   ·rw [θ.mp hd]; exact .int
theorem AJ {b:Bool} {ds:List Dv} (h:b=true↔ds≠ds):b=false:=by
 cases b with
 | false=>rfl
 | true=>exact absurd rfl (h.mp rfl)
theorem ym {p:Nat->Prop}:∀ n,p n->∃ i,p i/\∀ j,j < i->¬ p j:=by
 intro n
 induction n using Nat.strongRecOn with
 | ind n ih=>
  intro h
  by_cases z:∃ j,j < n/\p j
  ·obtain ⟨j,hj,pj⟩:=z
   exact ih j hj pj
  ·exact ⟨n,h,λj hj pj=>z ⟨j,hj,pj⟩⟩
theorem zL {rs:List Rw} (ok:∀ x∈rs,RwK x):(∃ i,twB rs i/\(∀ j,j < i->¬ twB rs j)/\qZ (rs.map Rw.dv) (.tw i))\/((∀ j,¬ twB rs j)/\∃ ft w u,qZ (rs.map Rw.dv) ft/\uD ft=.tup [.str w,u]/\inV (.str w) [.str "taken",.str "bind"]=true):=by
 have o2:∀ x∈rs,bt x.dv=true/\x.Fit:=λx hx=>⟨(ok x hx).1,(ok x hx).2.2⟩
 by_cases t:∃ i,twB rs i
 ·obtain ⟨i,hi⟩:=t
  obtain ⟨i,h1,h2⟩:=ym i hi
  exact .inl ⟨i,h1,h2,rs,rfl,o2,h1,h2⟩
 ·have nt:∀ j,¬ twB rs j:=λj h=>t ⟨j,h⟩
  refine .inr ⟨nt,?_⟩
  by_cases b:∃ i,nbB rs i
  ·obtain ⟨i,hi⟩:=b
   obtain ⟨i,h1,h2⟩:=ym i hi
   exact ⟨.nb i,_,_,⟨rs,rfl,o2,nt,h1,h2⟩,rfl,∅⟩
  ·exact ⟨.ok,_,_,⟨rs,rfl,o2,nt,λj h=>b ⟨j,h⟩⟩,rfl,∅⟩
theorem RwK.of {rs:List Rw} (ok:yL rs):∀ x∈rs,RwK x:=λx hx=>⟨(ok.row x hx).1,(ok.row x hx).2,by
 have h:=ok.ok x hx
 cases x with
 | ask e=>trivial
 | df f ns ps e=>exact ⟨h.2.2.1,h.2.2.2.1,h.2.2.2.2⟩⟩
theorem vE {js:List Nat} (h:js≠[]) (k:Int):∃ j∈js,atI (js.map λj:Nat=>V.int j) (k % ((js.map λj:Nat=>V.int j).length:Int))=some (.int j):=by
 have hp:0 < js.length:=DR.mpr h
 rw [ε]
 have h0:0<=k % (js.length:Int):=E_ _ ∅
 have h1:k % (js.length:Int) < js.length:=En _ ∅
 obtain ⟨j,hj⟩:∃ j:Nat,k % (js.length:Int)=j:=⟨(k % (js.length:Int)).toNat,∅⟩
 have hv:j < js.length:=by omega
 exact ⟨js[j],j9 hv,by rw [hj]; exact ad (by rw [Ψ,Ζ hv]; rfl)⟩
theorem vC:ao ["_law_script","_law_names_here","_law_rows","_law_begin","_law_draws_here","_law_cell","_law_defs","_law_at","_law_some","_law_word","_law_f","_law_told","_law_params","_law_e","_law_due","_law_found"] ["_law_script"] (ae ir):=by trivial
theorem yQ {f:Addr} {fd:Μ} {k0:Nat} (F:Fun K "law" "law" ir f fd) (T:Txt K mg) (D_law_draws:Def P w K mg base k0 "_law_draws" ["_law_cells","_law_many"] (kb K)) (D_law_next:Def P w K mg base k0 "_law_next" ["_law_draws_here"] eQ) (D_law_names:Def P w K mg base k0 "_law_names" ["_law_cell"] rc) (D_law_program:Def P w K mg base k0 "_law_program" ["_law_script","_law_names_here"] (vy K)) (D_law_refused:Def P w K mg base k0 "_law_refused" ["_law_thing"] yu) (D_law_twice:Def P w K mg base k0 "_law_twice" ["_law_row","_law_cell","_law_rows"] At) (D_law_first:Def P w K mg base k0 "_law_first" ["_law_rows"] qU) :
  aF P w K mg base CX0 (k0 + 1) f fd ["_law_script"] (rl K):=by
 have nd:=vC.nd
 refine F.ok vC (λvs H Q E h=>?_) (λcdv A outer s H vs Q E hr h=>?_)
 ·obtain ⟨a,ns,rfl,_⟩:=h
  rfl
 obtain ⟨sc,ns,rfl,hS,h63,q⟩:=h
 have hu9:=fE hr
 have huL:(A.deeper (x4 "law" (ae ir) s.heap.objs.size f cdv)).units < cLine:=B_ (j8 _ 150) hu9
 refine ⟨_,(@un _ _ _ (wbO (wbM 1 nd rfl (Ι rfl) (waq D_law_names hr rfl (wae (waD aJ (waq D_law_draws hr rfl (wae (waT be (waQ eL (waT be (wv 0 rfl) wbz (wbA waC)) (waM (wae waC waf rfl))) wbz (wbA waC)) (wae waC waf rfl) rfl) ∅ rfl rfl) waC (λ_ _=>rfl)) waf rfl) ∅ rfl rfl) rfl ∅) (wbO (wbM 2 nd rfl (Ι rfl) (waq D_law_program hr rfl (wae (wv 0 rfl) (wae (wv 1 rfl) waf rfl) rfl) ∅ rfl rfl) rfl ∅) (wbO (wbH Ϯ rfl (wbm rfl T.range (wae waC (wae (wal (jS rfl) rfl T.max ∅ (wae waC (wae (wal ak rfl T.len ∅ (wae (wv 0 rfl) waf rfl) ∅ ∅ rfl rfl) waf rfl) rfl) ∅ ∅ rfl rfl) (wae waC waf rfl) rfl) rfl) rfl rfl) (waZ 3 nd rfl (Ι rfl) ∅) (wbO (wbM 4 nd rfl (Ι rfl) (waq D_law_draws hr rfl (wae (waT be (waQ eL (waT be (wv 0 rfl) (wbA (wv 3 rfl)) (wbA (waQ bC (wv 3 rfl) waC))) (waQ uG (waM (wae waC waf rfl)) waC)) wbz (wbA waC)) (wae waC waf rfl) rfl) ∅ rfl rfl) rfl ∅) (wbO (wbM 5 nd rfl (Ι rfl) (waq D_law_next hr rfl (wae (wv 4 rfl) waf rfl) ∅ rfl rfl) rfl ∅) (wbO (wbJ (["_law_k","_law_row"]) [] 6 nd rfl rfl (wbg rfl T.enumerate (wae (wv 2 rfl) waf rfl) rfl) (.of rfl) rfl (λ_ _ _=>⟨pg_tup rfl (pgs_cons (pg_name (i:=0) (bB (l:=["_law_k","_law_row"]) (∅) rfl) rfl (Ι rfl)) (pgs_cons (pg_name (i:=1) (bB (l:=["_law_k","_law_row"]) (∅) rfl) rfl (Ι rfl)) pgs_nil))⟩) (kn ∅ ∅) (λ_ _ _=>⟨kM (pt_cmpR ay (pe_ix (fm K rfl) (pv 1) pe_int (λ_ _=>rfl)) pe_str (ai _))⟩) (λ_ _ _=>(wv 0 rfl)) rfl ∅) (wbQ (wbI (wbS (uQ huL) (wv 6 rfl) (waM waf) (ai _)) (wbO (wbM 7 nd rfl (Ι rfl) (waD aJ (wv 6 rfl) (waQ aA (wv 5 rfl) (wal ak rfl T.len ∅ (wae (wv 6 rfl) waf rfl) ∅ ∅ rfl rfl)) (λ_ _=>rfl)) rfl ∅) (wbO (wbM 8 nd rfl (Ι rfl) (waQ eL (waQ eL (waT be (wv 2 rfl) wbz (wbA (wv 7 rfl))) (waM (wae (waq D_law_twice hr rfl (wae (waD aJ (wv 2 rfl) (wv 7 rfl) (λ_ _=>rfl)) (wae (waq D_law_next hr rfl (wae (wv 4 rfl) waf rfl) ∅ rfl rfl) (wae (wv 2 rfl) waf rfl) rfl) rfl) ∅ rfl rfl) waf rfl))) (waT be (wv 2 rfl) (wbA (waQ bC (wv 7 rfl) waC)) wbz)) rfl ∅) (wbO (wbI (wbS ay (waQ aA (waQ ba (wv 5 rfl) waC) waC) waC (ai _)) (wbO (wbD (waD aJ (wv 8 rfl) (waD aJ (wv 6 rfl) waC (λ_ _=>rfl)) (λ_ _=>rfl)) (wbb rfl (wbd (waZ 9 nd rfl (Ι rfl) ∅) (wbd (waZ 10 nd rfl (Ι rfl) ∅) (wbd (waZ 11 nd rfl (Ι rfl) ∅) (wbd (waZ 12 nd rfl (Ι rfl) ∅) (wbd (waZ 13 nd rfl (Ι rfl) ∅) wbe rfl) rfl) rfl) rfl) rfl) rfl rfl) rfl rfl rfl) (wbQ (wbD (waX (wae (wv 9 rfl) (wae (wv 10 rfl) (wae (wv 11 rfl) (wae (waT kY (wv 12 rfl) (wbA waC) wbz) (wae (wv 13 rfl) waf rfl) rfl) rfl) rfl) rfl)) (wba (wv 8 rfl) (waD aJ (wv 6 rfl) waC (λ_ _=>rfl)) nk ∅) rfl rfl rfl))) wbP) (wbO (wbM 14 nd rfl (Ι rfl) (waq D_law_first hr rfl (wae (wv 8 rfl) waf rfl) ∅ rfl rfl) rfl ∅) (wbO (wbM 15 nd rfl (Ι rfl) (waq D_law_refused hr rfl (wae (wv 8 rfl) waf rfl) ∅ rfl rfl) rfl ∅) (wbO (wbI (wab (wbW (wbS xE (wv 14 rfl) waN (ai _)) (wbX (wbS (yS hu9) (wv 15 rfl) (waX (wae waV (wae (waX (wae (wv 14 rfl) (wae waC waf rfl) rfl)) waf rfl) rfl)) (ai _))))) (wbQ (wbK wah)) wbP) (wbO (wbI (wab (wbW (wbS oB (wv 14 rfl) waN (ai _)) (wbX (wbS fj (waD aj (wv 15 rfl) waC (λ_ _=>rfl)) (waM (wae waV (wae waV waf rfl) rfl)) (by with_unfolding_all rfl))))) (wbQ (wbK wah)) wbP) (wbQ (wbI (wab (wbW (wbS oB (wv 14 rfl) waN (ai _)) (wbX (wbS ay (waQ aA (waQ ba (wv 5 rfl) waC) waC) waC (ai _))))) (wbQ (wbM 2 nd rfl (Ι rfl) (wv 8 rfl) rfl ∅)) wbP))))))))) wbP))))) ∅) (wbQ (wbK wah)))))),?_⟩
 obtain ⟨ms,hms,lms⟩:=ky ns none (some 1)
 refine ⟨_,rfl,1,rfl,sc,_,rfl,hS,λe1 he1=>⟨z1,λe2 he2=>?_⟩⟩
 have c1:=ac he1 (.lst (aB (ns.map V.int) none (some 1)))
 have c2:=ac he2 (.lst [.int 0])
 refine ⟨e1,e2,_,_,rfl,rfl,c2 _ _ aa,aa,by rw [hms,ε,υ]; show ms.length + 1<=16777216; omega,λe3 he3=>?_⟩
 have c3:=ac he3 (.lst (aB (ns.map V.int) none (some 1) ++ [.int 0]))
 refine ⟨1,rfl,e3,_,rfl,SqL.of aa,λe4 he4=>?_⟩
 have c4:=ac he4 (.lst (aB (aB (ns.map V.int) none (some 1) ++ [.int 0]) none (some 1)))
 have hcells:∃ cells:List Int,aB (aB (ns.map V.int) none (some 1) ++ [.int 0]) none (some 1)=cells.map V.int/\cells.length=1:=by
  refine ⟨(ms ++ [0]).take 1,?_,by rw [ϊ,ψ,ϧ]; omega⟩
  have e:=cK (aB (ns.map V.int) none (some 1) ++ [.int 0]) 1
  rw [CP,ω,<- hms]
  exact e
 obtain ⟨cells,hc,lc⟩:=hcells
 have s1:=c1.trans (c2.trans (c3.trans c4))
 have f1:=aa (H:=upd (upd (upd H e1 (.lst (aB (ns.map V.int) none (some 1)))) e2 (.lst [.int 0])) e3 (.lst (aB (ns.map V.int) none (some 1) ++ [.int 0]))) (a:=e4) (o:=.lst (aB (aB (ns.map V.int) none (some 1) ++ [.int 0]) none (some 1)))
 rw [hc] at f1 s1
 rw [hc]
 generalize upd _ e4 _=H1 at f1 s1 ⊢
 clear c1 c2 c3 c4
 refine ⟨e4,3,cells,rfl,SqL.of f1,∅,∅,∅,∅,λH2 dA s2 hdA d2=>?_⟩
 obtain ⟨is,hdl,lis,his⟩:=d2
 obtain ⟨y,ys,rfl⟩:∃ y z,is=y :: z:=by cases is with | nil=>cases lis | cons y z=>exact ⟨y,z,rfl⟩
 refine ⟨dA,_,0,.int y,rfl,rfl,SqL.of hdl,ad (j:=0) rfl,y,rfl,(his y Δ).1,λH3 r xs s3 hrn hr3 nms=>?_⟩
 have s03:=s1.trans (s2.trans s3)
 refine gnm ?_
 dsimp only
 refine ⟨_,rfl,_,rfl,sc,r,ns,xs,rfl,s03.seq hS,h63,hr3,nms,λH4 L us rs s4 hLn hL R4 ok _p1 _p2=>gnm ?_⟩
 have s04:=s03.trans s4
 have W4:Rws H4 L us rs:=⟨hL,R4,ok.len,RwK.of ok⟩
 have B2:(if ((ns.map V.int).length:Int) > 1 then ((ns.map V.int).length:Int) else 1) < (1000000:Int):=by
  rw [ε]
  split <;> omega
 refine ⟨_,rfl,sc,_,rfl,.inl (s04.seq hS),_,_,rfl,0,_,6,rfl,⟨∅,∅,∅,∅,?B1,B2⟩,jN (λi σ H'=>∃ (o3 o4 o5 o6 o7 o8 o9 o10 o11 o12 o13 o14 o15:Option V) (R:Addr) (us:List V) (rs:List Rw),σ=[some (.ref sc),some (.ref r),some (.ref R),o3,o4,o5,o6,o7,o8,o9,o10,o11,o12,o13,o14,o15]/\af H H'/\Rws H' R us rs) ⟨_,_,_,_,_,_,_,_,_,_,_,_,_,L,us,rs,rfl,s04,W4⟩ ?T1 ?_⟩
 case B1=>
  show (-1000000:Int)<=(if ((ns.map V.int).length:Int) > 1 then ((ns.map V.int).length:Int) else 1)
  split <;> omega
 case T1=>
  clear W4
  rintro i σ H2 D1 go1 hi ⟨o3,o4,o5,o6,o7,o8,o9,o10,o11,o12,o13,o14,o15,R,us,rs,rfl,s02,W⟩
  obtain ⟨ms,hms,lms⟩:=ky ns (some (0 + (i:Int) * 6)) (some (0 + (i:Int) * 6 + 6))
  refine ⟨_,rfl,_,rfl,_,rfl,_,rfl,_,_,rfl,rfl,_,rfl,sc,_,rfl,s02.seq hS,λe1 he1=>⟨z1,λe2 he2=>⟨e2,6,_,rfl,rfl,aa,∅,∅,by rw [υ]; decide,λe3 he3=>?_⟩⟩⟩
  have c1:=ac he1 (.lst (aB (ns.map V.int) (some (0 + (i:Int) * 6)) (some (0 + (i:Int) * 6 + 6))))
  have c2:=ac he2 (.lst [.int 0])
  have c3:=ac he3 (.lst (Α (6:Int).toNat [V.int 0]).flatten)
  have f1:=c3 _ _ (c2 _ _ (aa (H:=H2) (a:=e1) (o:=.lst (aB (ns.map V.int) (some (0 + (i:Int) * 6)) (some (0 + (i:Int) * 6 + 6))))))
  refine ⟨e1,e3,_,_,rfl,rfl,f1,aa,?_,λe4 he4=>?_⟩
  ·rw [hms,ε,υ]
   have:(Α (6:Int).toNat [V.int 0]).flatten.length=6:=by decide
   omega
  have c4:=ac he4 (.lst (aB (ns.map V.int) (some (0 + (i:Int) * 6)) (some (0 + (i:Int) * 6 + 6)) ++ (Α (6:Int).toNat [V.int 0]).flatten))
  refine ⟨6,rfl,e4,_,rfl,SqL.of aa,λe5 he5=>?_⟩
  have c5:=ac he5 (.lst (aB (aB (ns.map V.int) (some (0 + (i:Int) * 6)) (some (0 + (i:Int) * 6 + 6)) ++ (Α (6:Int).toNat [V.int 0]).flatten) none (some 6)))
  have hcells:∃ cells:List Int,aB (aB (ns.map V.int) (some (0 + (i:Int) * 6)) (some (0 + (i:Int) * 6 + 6)) ++ (Α (6:Int).toNat [V.int 0]).flatten) none (some 6)=cells.map V.int/\cells.length=6:=by
   refine ⟨(ms ++ Α 6 0).take 6,?_,by rw [ϊ,ψ,u8]; omega⟩
   have e:=cK (aB (ns.map V.int) (some (0 + (i:Int) * 6)) (some (0 + (i:Int) * 6 + 6)) ++ (Α (6:Int).toNat [V.int 0]).flatten) 6
   rw [CP,ω,<- hms]
   exact e
  obtain ⟨cells,hc,lc⟩:=hcells
  have s5:=c1.trans (c2.trans (c3.trans (c4.trans c5)))
  have f5:=aa (H:=upd (upd (upd (upd H2 e1 (.lst (aB (ns.map V.int) (some (0 + (i:Int) * 6)) (some (0 + (i:Int) * 6 + 6))))) e2 (.lst [.int 0])) e3 (.lst (Α (6:Int).toNat [V.int 0]).flatten)) e4 (.lst (aB (ns.map V.int) (some (0 + (i:Int) * 6)) (some (0 + (i:Int) * 6 + 6)) ++ (Α (6:Int).toNat [V.int 0]).flatten))) (a:=e5) (o:=.lst (aB (aB (ns.map V.int) (some (0 + (i:Int) * 6)) (some (0 + (i:Int) * 6 + 6)) ++ (Α (6:Int).toNat [V.int 0]).flatten) none (some 6)))
  rw [hc] at f5 s5
  rw [hc]
  generalize upd _ e5 _=H3 at f5 s5 ⊢
  clear c1 c2 c3 c4 c5 f1 he1 he2 he3 he4 he5
  refine ⟨e5,24,cells,rfl,SqL.of f5,∅,∅,∅,∅,λH4 dA s4 hdA d4=>?_⟩
  have s24:=s5.trans s4
  have dAn:H2 dA=none:=s5.free hdA
  refine gnm ?_
  dsimp only
  refine ⟨_,rfl,dA,_,rfl,d4,λH5 x s5' d5 x0 x1=>gnm ?_⟩
  have s25:af H2 H5:=λg o e=>s5' g o (ag e dAn) (s24 _ _ e)
  have fin:∀ (o3 o4 o5 o6 o7 o8 o9 o10 o11 o12 o13 o14 o15:Option V) (R:Addr) (us:List V) (rs:List Rw) (H':Hp),af H2 H'->Rws H' R us rs->D1.nx [some (.ref sc),some (.ref r),some (.ref R),o3,o4,o5,o6,o7,o8,o9,o10,o11,o12,o13,o14,o15] H':=λ_ _ _ _ _ _ _ _ _ _ _ _ _ R us rs H' s' W'=>go1 _ _ ⟨_,_,_,_,_,_,_,_,_,_,_,_,_,R,us,rs,rfl,s02.trans s',W'⟩
  dsimp only
  refine ⟨_,rfl,R,rfl,⟨us,SqL.of (s25 _ _ W.at_)⟩,qy (xs:=us) (λi zs H'=>af H5 H'/\∃ js:List Nat,zs=js.map (λj:Nat=>V.int j)/\js.length<=i/\∀ j∈js,IsD rs j) ⟨af.refl _,[],rfl,π _,∅⟩ (λi zs H' p=>SqL.of (p.1 _ _ (s25 _ _ W.at_))) ?_ ?_⟩
  ·rintro i zs H' v p hx ⟨s',js,rfl,lj,hj⟩ hp
   have hi:i < us.length:=(ο.mp hx).1
   have lu:=W.lu
   have l12:=W.len
   have s6:=s'.trans (ac hp (.tup [.int i,v]))
   refine mG aa ?_
   generalize upd H' p (.tup [.int i,v])=H6 at s6 ⊢
   obtain ⟨rr,hr',Rx⟩:=bf (f:=Rw.dv) W.rep hx
   obtain ⟨a',rfl,z⟩:=Rw.inv (Rx.mono (s25.trans s6))
   cases rr with
   | ask e'=>
    obtain ⟨u,h2⟩:=z
    refine ⟨_,rfl,a',_,0,.str "ask",rfl,rfl,SqT.of h2,ad (j:=0) rfl,rfl,_,rfl,?_⟩
    rw [decide_eq_false fq]
    exact aq ⟨s6,js,rfl,∅,hj⟩
   | df f' ns' ps' e'=>
    obtain ⟨b',c',u,h2,_⟩:=z
    refine ⟨_,rfl,a',_,0,.str "def",rfl,rfl,SqT.of h2,ad (j:=0) rfl,rfl,_,rfl,?_⟩
    refine au (λ_=>⟨_,rfl,by rw [ε,υ]; omega,s6,js ++ [i],by rw [ω]; rfl,by rw [ψ]; show _ + 1<=_; omega,λj hj'=>?_⟩) (λh=>absurd (decide_eq_true rfl) h)
    rcases ϒ.mp hj' with z | z
    ·exact hj j z
    ·rw [θ.mp z]; exact ⟨_,_,_,_,hr'⟩
  ·rintro zs H6 ⟨s56,js,rfl,lj,hj⟩ D hD
   have s6D:=ac hD (.lst (js.map λj:Nat=>V.int j))
   have hD7:upd H6 D (.lst (js.map λj:Nat=>V.int j)) D=some (.lst (js.map λj:Nat=>V.int j)):=aa
   have D5:H5 D=none:=s56.free hD
   refine gnm ?_
   generalize upd H6 D (.lst (js.map λj:Nat=>V.int j))=H7 at s6D hD7 ⊢
   refine ⟨_,rfl,Ω _,λeE hE=>⟨D,eE,_,rfl,rfl,SqL.of (ac hE (.lst []) _ _ hD7),SqL.of aa,_,rfl,?_⟩⟩
   have s57:=s56.trans (s6D.trans (ac hE (.lst [])))
   have hD8:=ac hE (.lst []) _ _ hD7
   generalize upd H7 eE (.lst [])=H8 at s57 hD8 ⊢
   refine au (λh=>?_) (λ_=>tnx (fin _ _ _ _ _ _ _ _ _ _ _ _ _ R us rs _ (s25.trans s57) (W.mono (s25.trans s57))))
   have j0:js≠[]:=λz=>by rw [z] at h; cases h
   have d8:Dr H8 dA _:=let ⟨is,h1,h2⟩:=d5; ⟨is,s57 _ _ h1,h2⟩
   have dA8:H8 dA≠none:=λz=>by obtain ⟨is,h1,_⟩:=d8; rw [z] at h1; cases h1
   have DA:D≠dA:=λz=>by rw [z] at D5; obtain ⟨is,h1,_⟩:=d5; rw [h1] at D5; cases D5
   obtain ⟨j,hjm,haj⟩:=vE j0 x
   obtain ⟨f,ns',ps,e,hrj⟩:=hj j hjm
   have jl:j < rs.length:=(ο.mp hrj).1
   have lu:=W.lu
   have l12:=W.len
   have hv:=Ζ (l:=us) (i:=j) ∅
   obtain ⟨r1,hr1,Rv⟩:=bf (f:=Rw.dv) W.rep hv
   rw [hrj] at hr1
   cases hr1
   have s28:=s25.trans s57
   refine ⟨_,rfl,_,rfl,_,rfl,D,_,rfl,.inl (SqL.of hD8),_,_,rfl,rfl,(by rw [ε]; show (0:Int) < _; have:=DR.mpr j0; omega),D,_,_,.int j,rfl,rfl,SqL.of hD8,haj,gnm ?_⟩
   refine ⟨_,rfl,_,rfl,j,rfl,R,_,rfl,SqL.of (s28 _ _ W.at_),λe1 he1=>?_⟩
   rw [cK]
   have s89:=ac he1 (.lst (us.take j))
   have h1:upd H8 e1 (.lst (us.take j)) e1=some (.lst (us.take j)):=aa
   have d9:Dr (upd H8 e1 (.lst (us.take j))) dA _:=let ⟨is,h1,h2⟩:=d8; ⟨is,s89 _ _ h1,h2⟩
   have e1A:e1≠dA:=λz=>dA8 (by rw [<- z]; exact he1)
   have hD9:=s89 _ _ hD8
   generalize upd H8 e1 (.lst (us.take j))=H9 at s89 h1 d9 hD9 ⊢
   refine ⟨_,rfl,_,rfl,R,us,j,us[j],rfl,rfl,SqL.of ((s28.trans s89) _ _ W.at_),ad hv,_,rfl,dA,_,rfl,d9,λH10 y s10 d10 y0 y1=>?_⟩
   have s2A:=aE.same dAn (s28.trans s89) s10
   have hDA:=s10 _ _ DA hD9
   have h1A:=s10 _ _ e1A h1
   refine ⟨_,rfl,us[j],y,R,us,rs,f,ns',ps,e,rfl,s2A _ _ W.at_,W.rep.mono s2A,W.len,W.ok,Λ hrj,Rv.mono s2A,λH11 v' f1 ns1 ps1 s11 Rv' k1=>⟨z1,λe2 he2=>?_⟩⟩
   have sb:=ac he2 (.lst [v'])
   refine ⟨e1,e2,_,_,rfl,rfl,sb _ _ (s11 _ _ h1A),aa,by rw [ϊ,υ]; show _ + 1<=_; omega,λe3 he3=>?_⟩
   have sc':=ac he3 (.lst (us.take j ++ [v']))
   have h3:upd (upd H11 e2 (.lst [v'])) e3 (.lst (us.take j ++ [v'])) e3=some (.lst (us.take j ++ [v'])):=aa
   have s2B:=s2A.trans (s11.trans (sb.trans sc'))
   have RvB:=Rv'.mono (sb.trans sc')
   have hDB:=(s11.trans (sb.trans sc')) _ _ hDA
   generalize upd (upd H11 e2 (.lst [v'])) e3 (.lst (us.take j ++ [v']))=HB at h3 s2B RvB hDB ⊢
   refine ⟨_,rfl,_,rfl,_,_,rfl,rfl,(j:Int) + 1,rfl,R,_,rfl,SqL.of (s2B _ _ W.at_),λe4 he4=>?_⟩
   rw [show aB us (some ((j:Int) + 1)) none=us.drop (j + 1) from bG us (j + 1)]
   have sd:=ac he4 (.lst (us.drop (j + 1)))
   refine ⟨e3,e4,_,_,rfl,rfl,sd _ _ h3,aa,by rw [ψ,ϊ,c_,υ]; show _ + 1 + _<=_; omega,λS hS9=>gnm ?_⟩
   rw [wZ ∅]
   generalize upd HB e4 (.lst (us.drop (j + 1)))=HD at sd hS9 ⊢
   have R1:Reps HD ((rs.set j (.df f1 ns1 ps1 e)).map Rw.dv) (us.set j v'):=by rw [E1]; exact fB (RvB.mono sd) j (W.rep.mono (s2B.trans sd))
   have se:=ac hS9 (.lst (us.set j v'))
   have hS1:upd HD S (.lst (us.set j v')) S=some (.lst (us.set j v')):=aa
   have s2C:=s2B.trans (sd.trans se)
   have SB:HB S=none:=sd.free hS9
   have W1:=W.set s2C hS1 (RvB.mono (sd.trans se)) k1
   have hDC:=(sd.trans se) _ _ hDB
   generalize upd HD S (.lst (us.set j v'))=HC at se s2C hS1 W1 hDC ⊢
   dsimp only
   refine Am λX hX=>?_
   have key:∀ (H':Hp) (o9 o10 o11 o12 o13:Option V) (vs:List V) (rs':List Rw),af H2 H'->Rws H' S vs rs'->X [some (.ref sc),some (.ref r),some (.ref R),some (.int (0 + (i:Int) * 6)),some (.ref dA),some (.int x),some (.ref D),some (.int j),some (.ref S),o9,o10,o11,o12,o13,o14,o15] H':=by
    intro H' p9 p10 p11 p12 p13 vs rs' s' W'
    refine (hX _ _).mpr ?_
    have fit:∀ x∈rs',x.Fit:=λx hx=>(W'.ok x hx).2.2
    have sm:∀ d∈rs'.map Rw.dv,d.small=true:=λd hd=>by obtain ⟨x,hx,rfl⟩:=Κ.mp hd; exact (W'.ok x hx).2.1
    have l12':(rs'.map Rw.dv).length<=12:=by rw [ε]; exact W'.len
    rcases zL W'.ok with ⟨k,tk,lk,fk⟩ | ⟨nt,ft,wd,ud,ff,ef,iw⟩
    ·refine ⟨_,rfl,S,vs,rs',rfl,W'.at_,W'.rep,fit,W'.len,λh=>absurd tk (h k),λk' tk' lk' Ha sa=>gnm ?_⟩
     have ek:k'=k:=by
      rcases Dg k' k with z | z | z
      ·exact absurd tk' (lk k' z)
      ·exact z
      ·exact absurd tk (lk' k z)
     subst ek
     have Wa:=W'.mono sa
     refine ⟨_,rfl,S,vs,_,.tw k',rfl,Wa.at_,Wa.rep,sm,l12',fk,λHb vb sb' Rb=>gnm ?_⟩
     refine ⟨_,rfl,rfl,_,rfl,au (λ_=>?_) (λh=>absurd rfl h)⟩
     refine ⟨_,rfl,_,rfl,z2,λt1 ht1=>⟨z2,λt2 ht2=>?_⟩⟩
     have p4:=ac ht1 (.tup [.int (k':Int),.int 0])
     have p5:=ac ht2 (.tup [.str "twice",.ref t1])
     refine ⟨2,[.str "twice",.tup [.int (k':Int),.int 0]],[.str "twice",.tup [.int (k':Int),.int 0]],qb,qb,∅,Rep.mono (p4.trans p5) (show Rep Hb (.tup [.str "twice",.tup [.int (k':Int),.int 0]]) vb from Rb),?_,λb hb=>?_⟩
     ·rw [Rep]
      refine ⟨t2,_,rfl,aa,?_⟩
      simp only [Reps]
      refine ⟨_,_,rfl,by simp only [Rep],_,_,rfl,?_,rfl⟩
      rw [Rep]
      exact ⟨t1,_,rfl,p5 _ _ aa,by simp only [Reps]; exact ⟨_,_,rfl,by simp only [Rep],_,_,rfl,by simp only [Rep],rfl⟩⟩
     ·rw [AJ hb]
      refine ⟨_,rfl,aq (tnx ?_)⟩
      have s9:=s'.trans (sa.trans (sb'.trans (p4.trans p5)))
      refine ⟨_,rfl,rfl,_,rfl,au (λh=>absurd h ∅) (λ_=>aq (tnx ?_))⟩
      exact ⟨_,rfl,rfl,_,rfl,au (λh=>absurd h ∅) (λ_=>aq (tnx (fin _ _ _ _ _ _ _ _ _ _ _ _ _ R us rs _ s9 (W.mono s9))))⟩
    ·refine ⟨_,rfl,S,vs,rs',rfl,W'.at_,W'.rep,fit,W'.len,λ_ Ha sa=>gnm ?_,λk' tk'=>absurd tk' (nt k')⟩
     have Wa:=W'.mono sa
     refine ⟨_,rfl,S,vs,_,ft,rfl,Wa.at_,Wa.rep,sm,l12',ff,λHb vb sb' Rb=>gnm ?_⟩
     rw [ef] at Rb
     obtain ⟨ab,vb',rfl,hab,Rb2⟩:=Rep.tup_inv Rb
     obtain ⟨w1,w2,rfl,q1,q2⟩:=Reps.two Rb2
     simp only [Rep] at q1
     subst q1
     refine ⟨_,rfl,rfl,_,rfl,au (λh=>absurd h ∅) (λ_=>aq (tnx ?_))⟩
     refine ⟨_,rfl,rfl,_,rfl,au (λ_=>?_) (λh=>absurd (decide_eq_true rfl) h)⟩
     refine ⟨_,rfl,ab,_,0,.str wd,rfl,rfl,SqT.of hab,ad (j:=0) rfl,z2,λt1 ht1=>⟨t1,_,rfl,.inl (SqL.of aa),rfl,rfl,_,rfl,?_⟩⟩
     have p4:=ac ht1 (.lst [.str "taken",.str "bind"])
     have s9:=s'.trans (sa.trans (sb'.trans p4))
     have W9:=Wa.mono (sb'.trans p4)
     show if (!inV (.str wd) [.str "taken",.str "bind"])=true then _ else _
     rw [iw]
     refine aq (tnx ?_)
     refine ⟨_,rfl,rfl,_,rfl,au (λ_=>?_) (λh=>absurd (decide_eq_true rfl) h)⟩
     exact ⟨_,rfl,_,_,rfl,rfl,⟨∅,∅⟩,_,_,rfl,rfl,(by show (0:Int) < 3; decide),rfl,_,rfl,au (λ_=>⟨_,rfl,gnm (fin _ _ _ _ _ _ _ _ _ _ _ _ _ S vs rs' _ s9 W9)⟩) (λ_=>tnx (fin _ _ _ _ _ _ _ _ _ _ _ _ _ R us rs _ s9 (W.mono s9)))⟩
   refine ⟨_,rfl,_,_,rfl,rfl,⟨∅,∅⟩,_,_,rfl,rfl,(by show (0:Int) < 2; decide),rfl,_,rfl,au (λ_=>?_) (λ_=>tnx (key _ _ _ _ _ _ _ _ s2C W1))⟩
   obtain ⟨j1,js',rfl⟩:∃ y z,js=y :: z:=by cases js with | nil=>exact absurd rfl j0 | cons y z=>exact ⟨y,z,rfl⟩
   obtain ⟨g,gns,gps,ge,hg⟩:IsD (rs.set j (.df f1 ns1 ps1 e)) j1:=by
    by_cases z:j=j1
    ·subst z
     exact ⟨_,_,_,_,by rw [B8 jl]⟩
    ·obtain ⟨a1,a2,a3,a4,h4⟩:=hj j1 Δ
     exact ⟨a1,a2,a3,a4,by rw [BN z]; exact h4⟩
   have j1l:j1 < (us.set j v').length:=by
    have:=(ο.mp hg).1
    rw [Cd] at this ⊢
    omega
   have hv1:=Ζ j1l
   generalize (us.set j v')[j1]=u1 at hv1
   obtain ⟨r1,hr1,Ru1⟩:=bf (f:=Rw.dv) R1 hv1
   rw [hg] at hr1
   cases hr1
   have gk:=(W1.ok _ (Λ hg)).inv
   obtain ⟨a1,vs5,rfl,ha1,r5⟩:=Rep.tup_inv (show Rep HD (.tup [.str "def",.str g,.tup (gns.map Dv.str),.tup (gps.map bw),ge]) u1 from Ru1)
   simp only [Reps] at r5
   obtain ⟨w1,_,rfl,Q1,w2,_,rfl,Q2,w3,_,rfl,Q3,w4,_,rfl,Q4,u5,_,rfl,Q5,rfl⟩:=r5
   simp only [Rep] at Q1 Q2
   subst Q1; subst Q2
   obtain ⟨b1,_,rfl,hb1,Rb1⟩:=Rep.tup_inv Q3
   obtain ⟨d1,zs1,rfl,hd1,Rd1⟩:=Rep.tup_inv Q4
   have ne5:∀ {b:Addr} {o:HO},HD b=some o->b≠S:=λh=>ag h hS9
   have Rd2:Reps HD ((gps.drop 1).map bw) (aB zs1 (some 1) none):=by
    rw [show aB zs1 (some 1) none=zs1.drop 1 from bG zs1 1,List.map_drop]
    exact XB.reps_drop 1 Rd1
   have dk2:DfK g gns (gps.drop 1) ge:={ gk with p1:=λp hp=>gk.p1 p (DE hp),p4:=by rw [c_]; have:=gk.p4; omega }
   have go:∀ (HE:Hp) (d2:Addr),af HC HE->HE d2=some (.tup (aB zs1 (some 1) none))->d2≠S->∀ p2,HE p2=none->X [some (.ref sc),some (.ref r),some (.ref R),some (.int (0 + (i:Int) * 6)),some (.ref dA),some (.int x),some (.ref D),some (.int j),some (.ref S),some (.str "def"),some (.str g),some (.ref b1),some (.ref d1),some u5,o14,o15] (upd (upd HE p2 (.tup [.str "def",.str g,.ref b1,.ref d2,u5])) S (.lst ((us.set j v').set j1 (.ref p2)))):=by
    intro HE d2 sE hE dS p2 hp2
    have pS:p2≠S:=λz=>by rw [z,sE _ _ hS1] at hp2; cases hp2
    have sF:af HD (upd (upd HE p2 (.tup [.str "def",.str g,.ref b1,.ref d2,u5])) S (.lst ((us.set j v').set j1 (.ref p2)))):=λb o h=>by
     rw [ah (ne5 h)]
     exact ac hp2 _ _ _ (sE _ _ (se _ _ h))
    have dF:upd (upd HE p2 (.tup [.str "def",.str g,.ref b1,.ref d2,u5])) S (.lst ((us.set j v').set j1 (.ref p2))) d2=some (.tup (aB zs1 (some 1) none)):=by
     rw [ah dS]
     exact ac hp2 _ _ _ hE
    have pF:upd (upd HE p2 (.tup [.str "def",.str g,.ref b1,.ref d2,u5])) S (.lst ((us.set j v').set j1 (.ref p2))) p2=some (.tup [.str "def",.str g,.ref b1,.ref d2,u5]):=by rw [ah pS]; exact aa
    refine key _ _ _ _ _ _ _ ((rs.set j (.df f1 ns1 ps1 e)).set j1 (.df g gns (gps.drop 1) ge)) ((s2B.trans sd).trans sF) ⟨aa,?_,by rw [Cd]; exact W1.len,λy hy=>?_⟩
    ·rw [E1]
     refine fB ?_ j1 (R1.mono sF)
     show Rep _ (.tup [.str "def",.str g,.tup (gns.map Dv.str),.tup ((gps.drop 1).map bw),ge]) _
     rw [Rep]
     refine ⟨p2,_,rfl,pF,?_⟩
     simp only [Reps]
     refine ⟨_,_,rfl,by simp only [Rep],_,_,rfl,by simp only [Rep],_,_,rfl,Q3.mono sF,_,_,rfl,?_,_,_,rfl,Q5.mono sF,rfl⟩
     rw [Rep]
     exact ⟨d2,_,rfl,dF,Rd2.mono sF⟩
    ·rcases Ev hy with z | z
     ·exact W1.ok y z
     ·rw [z]; exact dk2.row
   have z5:5<=sizeLine:=zle (π 5) ∅
   have xj:ixN (us.set j v').length (j1:Int)=some j1:=by have h:=j1l; rw [Cd] at h; simp [ixN,h]
   refine ⟨_,rfl,_,rfl,D,_,0,.int j1,rfl,rfl,SqL.of hDC,ad (j:=0) rfl,S,_,j1,_,rfl,rfl,SqL.of hS1,ad hv1,a1,_,rfl,SqT.of (se _ _ ha1),rfl,_,_,rfl,gnm ⟨_,_,rfl,gnm ⟨_,_,rfl,gnm ⟨_,_,rfl,gnm ⟨_,_,rfl,gnm ⟨rfl,?_⟩⟩⟩⟩⟩⟩
   refine ⟨_,rfl,_,rfl,_,rfl,_,rfl,1,rfl,d1,zs1,rfl,SqT.of (se _ _ hd1),λec=>?_,λp hp=>?_⟩
   ·refine ⟨_,rfl,z5,λp2 hp2=>⟨_,rfl,_,rfl,D,_,0,.int j1,rfl,rfl,SqL.of (ac hp2 _ _ _ hDC),ad (j:=0) rfl,S,_,j1,j1,rfl,rfl,ac hp2 _ _ _ hS1,xj,?_⟩⟩
    exact go HC d1 (af.refl _) (by rw [ec]; exact se _ _ hd1) (ne5 hd1) p2 hp2
   ·have sp:=ac hp (.tup (aB zs1 (some 1) none))
    refine ⟨_,rfl,z5,λp2 hp2=>⟨_,rfl,_,rfl,D,_,0,.int j1,rfl,rfl,SqL.of (ac hp2 _ _ _ (sp _ _ hDC)),ad (j:=0) rfl,S,_,j1,j1,rfl,rfl,ac hp2 _ _ _ (sp _ _ hS1),xj,?_⟩⟩
    exact go _ p sp aa (λz=>by rw [z,hS1] at hp; cases hp) p2 hp2
 intro σ H1 _
 exact q H1
open PySem L2 KB XB L2.EX
theorem us1 {p:List δ->Prop} (h:∀ x0,p [x0]):∀ us:List δ,us.length=1->p us
 | [x0],_=>h x0
theorem us2 {p:List δ->Prop} (h:∀ x0 x1,p [x0,x1]):∀ us:List δ,us.length=2->p us
 | [x0,x1],_=>h x0 x1
theorem us3 {p:List δ->Prop} (h:∀ x0 x1 x2,p [x0,x1,x2]):∀ us:List δ,us.length=3->p us
 | [x0,x1,x2],_=>h x0 x1 x2
structure Df (K:ι) (x:Str) (st:Stmt) (f:Addr) (fd:Μ):Prop where
 a:Τ K mainGlobals x=some (some (.ref f))
 F:Fun K x x st f fd
theorem df_mk {K:ι} {x:Str} {st:Stmt} {f:Addr} {oc:δ} {od an:Option Addr} {osl:Array (Option δ)} {kV doc pm cdv ct:δ} (a:Τ K mainGlobals x=some (some (.ref f))) (l:K.lookup f=some ⟨oc,od,.func (o_ x x (bJ st) (bq st) (ae st) .none kV doc pm an cdv ct),osl⟩)
  (c:Ct K cdv x=true) (k:l7 K (.ref f)=true):Df K x st f (o_ x x (bJ st) (bq st) (ae st) .none kV doc pm an cdv ct):=⟨a,yW l c k⟩
theorem Df.d {P:Β} {w:Ν} {K:ι} {mg:Str->Option δ} {base h:Heap} {x:Str} {st:Stmt} {f:Addr} {fd:Μ} {k:Nat} {ps:List Str} {sp:Sp} (d:Df K x st f fd) (X:K.In h) (G:h.Ns mainGlobals mg) (b:bx K fd ps []) (F:aF P w K mg base CX0 k f fd ps sp):Def P w K mg base k x ps sp:=⟨f,fd,F,b,d.F.kp,ϋ X G d.a⟩
theorem Df.x {P:Β} {w:Ν} {K:ι} {mg:Str->Option δ} {base h:Heap} {x:Str} {st:Stmt} {f:Addr} {fd:Μ} {k:Nat} {ps:List Str} {sp:Sp} (d:Df K x st f fd) (X:K.In h) (G:h.Ns mainGlobals mg) (b:bx K fd ps []) (F:aF P w K mg base (CXe P w) k f fd ps sp):mV P w K mg base k x ps sp:=⟨f,fd,F,b,d.F.kp,ϋ X G d.a⟩
theorem all_mk {l:E5} {w:Ν} {K:ι} {h:Heap} {mg:Str->Option δ} {fa f1 f2 f3 f4 f5 f6 f7 f8 f9 f10 f11 f12 f13 f14 f15 f16 f17 f18 f19 f20 f21 f22 f23 f24 f25 f26 f27 f28 f29 f30 f31 f32 f33 f34 f35 f36 f37 f38 f39 f40 f41 f42 f43 f44:Addr} {g1 g2 g3 g4 g5 g6 g7 g8 g9 g10 g11 g12 g13 g14 g15 g16 g17 g18 g19 g20 g21 g22 g23 g24 g25 g26 g27 g28 g29 g30 g31 g32 g33 g34 g35 g36 g37 g38 g39 g40 g41 g42 g43 g44:Μ} (X:K.In h) (G:h.Ns mainGlobals mg) (hfa:mg "law"=some (.ref fa))
  (d1:Df K "is_whole" eF f1 g1)
  (d2:Df K "is_name" gF f2 g2)
  (d3:Df K "is_part" gv f3 g3)
  (d4:Df K "are_parts" dm f4 g4)
  (d5:Df K "is_length" dy f5 g5)
  (d6:Df K "is_small_length" eV f6 g6)
  (d7:Df K "has_word" eO f7 g7)
  (d8:Df K "is_point" eR f8 g8)
  (d9:Df K "things_of" bM f9 g9)
  (d10:Df K "is_kind" gH f10 g10)
  (d11:Df K "is_below" eM f11 g11)
  (d12:Df K "is_def_name" cu f12 g12)
  (d13:Df K "is_few" iO f13 g13)
  (d14:Df K "fits" pN f14 g14)
  (d15:Df K "is_node" gm f15 g15)
  (d16:Df K "parts_of" eJ f16 g16)
  (d17:Df K "is_expression" gp f17 g17)
  (d18:Df K "length_at" du f18 g18)
  (d19:Df K "in_order" eG f19 g19)
  (d20:Df K "points_of" dc f20 g20)
  (d21:Df K "are_names" dh f21 g21)
  (d22:Df K "is_param" eN f22 g22)
  (d23:Df K "are_params" cL f23 g23)
  (d24:Df K "is_row" iB f24 g24)
  (d25:Df K "is_twice" eI f25 g25)
  (d26:Df K "unbound" gA f26 g26)
  (d27:Df K "may_stand" cq f27 g27)
  (d28:Df K "are_bound" dC f28 g28)
  (d29:Df K "hold_rows" dw f29 g29)
  (d30:Df K "hold_once" di f30 g30)
  (d31:Df K "hold_bound" cJ f31 g31)
  (d32:Df K "checked" gE f32 g32)
  (d33:Df K "_law_draws" lC f33 g33)
  (d34:Df K "_law_next" kX f34 g34)
  (d35:Df K "_law_names" kT f35 g35)
  (d36:Df K "_law_expression" cU f36 g36)
  (d37:Df K "_law_sum" tT f37 g37)
  (d38:Df K "_law_bound_kinds" bK f38 g38)
  (d39:Df K "_law_def" vY f39 g39)
  (d40:Df K "_law_program" gc f40 g40)
  (d41:Df K "_law_twice" kJ f41 g41)
  (d42:Df K "_law_first" ib f42 g42)
  (d43:Df K "_law_refused" gj f43 g43)
  (d44:Df K "law" ir f44 g44)
  (z1:Τ K mainGlobals "len"=some none)
  (z2:Τ K mainGlobals "isinstance"=some none)
  (z3:Τ K mainGlobals "int"=some none)
  (z4:Τ K mainGlobals "bool"=some none)
  (z5:Τ K mainGlobals "str"=some none)
  (z6:Τ K mainGlobals "tuple"=some none)
  (z7:Τ K mainGlobals "list"=some none)
  (z8:Τ K mainGlobals "all"=some none)
  (z9:Τ K mainGlobals "zip"=some none)
  (z10:Τ K mainGlobals "range"=some none)
  (z11:Τ K mainGlobals "enumerate"=some none)
  (z12:Τ K mainGlobals "max"=some none)
  (z13:Τ K mainGlobals "set"=some none)
  (z14:Τ K mainGlobals "sorted"=some none)
  (z15:Τ K mainGlobals "reversed"=some none)
  (z16:Τ K mainGlobals "any"=some none)
  (z17:Τ K mainGlobals "ValueError"=some none)
  {tg0 tg1 tg2 tg3 tg4 tg5 tg6 tg7:Tok}
  (zg0:Τ K mainGlobals "LONGEST_NAME"=some (some (.int 8 tg0)))
  (zg1:Τ K mainGlobals "GREATEST_SIZE"=some (some (.int 12 tg1)))
  (zg2:Τ K mainGlobals "GREATEST_NUMBER"=some (some (.int 99 tg2)))
  (zg3:Τ K mainGlobals "WHOLE_BOUND"=some (some (.int 1000000000000 tg3)))
  (zg4:Τ K mainGlobals "MOST_NODES"=some (some (.int 40 tg4)))
  (zg5:Τ K mainGlobals "MOST_ABOVE"=some (some (.int 7 tg5)))
  (zg6:Τ K mainGlobals "MOST_THINGS"=some (some (.int 4 tg6)))
  (zg7:Τ K mainGlobals "MOST_ROWS"=some (some (.int 12 tg7)))
  {gR:Addr} {odR:Option Addr} {nR:Nat} {slR:Array (Option δ)} {tr0 tr1 tr2 tr3 tr4:Tok}
  (zR:Τ K mainGlobals "RECKONS"=some (some (.ref gR)))
  (lR:K.lookup gR=some ⟨.type "tuple",odR,.seq #[.str "plus" tr0,.str "minus" tr1,.str "times" tr2,.str "less" tr3,.str "same" tr4] nR,slR⟩)
  {gS:Addr}
  (zS:Τ K mainGlobals "SHAPES"=some (some (.ref gS)))
  (sS:XB.Shp l.prog w K gS)
  {D fI gI aNoProgram aTwice aNoBind aNoName aUnlike aParts aTooGreat aTooLong aNoValue aNoWords aNoLine:Addr}
  {ocI kVI dcI pmI cdI ctI ocg:δ} {odI anI odg:Option Addr} {slI slg:Array (Option δ)} {ng:Nat}
  (lI:K.lookup fI=some ⟨ocI,odI,.func (o_ "__init__" "IndexwiseError.__init__" (bJ dX) (bq dX) (ae dX) (.ref gI) kVI dcI pmI anI cdI ctI),slI⟩)
  (cI:Ct K cdI "IndexwiseError.__init__"=true) (lgI:K.lookup gI=some ⟨ocg,odg,.seq #[.none] ng,slg⟩) (tI:PySem.W.typeIn K (.ref fI)=some (.type "function"))
  {nmD qD:Str} {ND:Addr} {bsD subD:List δ} {snD:List Str} {abD:Bool} {colD:Option Bool} {ddD:Option Addr} {j0D j1D j2D j3D j5D:Option δ}
  (oD:Τ K mainGlobals "IndexwiseError"=some (some (.ref D)))
  (xD:K.lookup D=some (excClassObj nmD qD D ND bsD veM true snD subD abD colD ddD j0D j1D j2D j3D j5D "ValueError.__new__"))
  {nmNoProgram qNoProgram:Str} {NNoProgram:Addr} {bsNoProgram subNoProgram:List δ} {snNoProgram:List Str} {abNoProgram:Bool} {colNoProgram:Option Bool} {ddNoProgram:Option Addr} {j0NoProgram j1NoProgram j2NoProgram j3NoProgram j5NoProgram:Option δ}
  (oNoProgram:Τ K mainGlobals "NoProgram"=some (some (.ref aNoProgram)))
  (xNoProgram:K.lookup aNoProgram=some (excClassObj nmNoProgram qNoProgram aNoProgram NNoProgram bsNoProgram (.ref D :: veM) true snNoProgram subNoProgram abNoProgram colNoProgram ddNoProgram j0NoProgram j1NoProgram j2NoProgram j3NoProgram j5NoProgram "ValueError.__new__"))
  {nmTwice qTwice:Str} {NTwice:Addr} {bsTwice subTwice:List δ} {snTwice:List Str} {abTwice:Bool} {colTwice:Option Bool} {ddTwice:Option Addr} {j0Twice j1Twice j2Twice j3Twice j5Twice:Option δ}
  (oTwice:Τ K mainGlobals "Twice"=some (some (.ref aTwice)))
  (xTwice:K.lookup aTwice=some (excClassObj nmTwice qTwice aTwice NTwice bsTwice (.ref D :: veM) true snTwice subTwice abTwice colTwice ddTwice j0Twice j1Twice j2Twice j3Twice j5Twice "ValueError.__new__"))
  {nmNoBind qNoBind:Str} {NNoBind:Addr} {bsNoBind subNoBind:List δ} {snNoBind:List Str} {abNoBind:Bool} {colNoBind:Option Bool} {ddNoBind:Option Addr} {j0NoBind j1NoBind j2NoBind j3NoBind j5NoBind:Option δ}
  (oNoBind:Τ K mainGlobals "NoBind"=some (some (.ref aNoBind)))
  (xNoBind:K.lookup aNoBind=some (excClassObj nmNoBind qNoBind aNoBind NNoBind bsNoBind (.ref D :: veM) true snNoBind subNoBind abNoBind colNoBind ddNoBind j0NoBind j1NoBind j2NoBind j3NoBind j5NoBind "ValueError.__new__"))
  {nmNoName qNoName:Str} {NNoName:Addr} {bsNoName subNoName:List δ} {snNoName:List Str} {abNoName:Bool} {colNoName:Option Bool} {ddNoName:Option Addr} {j0NoName j1NoName j2NoName j3NoName j5NoName:Option δ}
  (oNoName:Τ K mainGlobals "NoName"=some (some (.ref aNoName)))
  (xNoName:K.lookup aNoName=some (excClassObj nmNoName qNoName aNoName NNoName bsNoName (.ref D :: veM) true snNoName subNoName abNoName colNoName ddNoName j0NoName j1NoName j2NoName j3NoName j5NoName "ValueError.__new__"))
  {nmUnlike qUnlike:Str} {NUnlike:Addr} {bsUnlike subUnlike:List δ} {snUnlike:List Str} {abUnlike:Bool} {colUnlike:Option Bool} {ddUnlike:Option Addr} {j0Unlike j1Unlike j2Unlike j3Unlike j5Unlike:Option δ}
  (oUnlike:Τ K mainGlobals "Unlike"=some (some (.ref aUnlike)))
  (xUnlike:K.lookup aUnlike=some (excClassObj nmUnlike qUnlike aUnlike NUnlike bsUnlike (.ref D :: veM) true snUnlike subUnlike abUnlike colUnlike ddUnlike j0Unlike j1Unlike j2Unlike j3Unlike j5Unlike "ValueError.__new__"))
  {nmParts qParts:Str} {NParts:Addr} {bsParts subParts:List δ} {snParts:List Str} {abParts:Bool} {colParts:Option Bool} {ddParts:Option Addr} {j0Parts j1Parts j2Parts j3Parts j5Parts:Option δ}
  (oParts:Τ K mainGlobals "Parts"=some (some (.ref aParts)))
  (xParts:K.lookup aParts=some (excClassObj nmParts qParts aParts NParts bsParts (.ref D :: veM) true snParts subParts abParts colParts ddParts j0Parts j1Parts j2Parts j3Parts j5Parts "ValueError.__new__"))
  {nmTooGreat qTooGreat:Str} {NTooGreat:Addr} {bsTooGreat subTooGreat:List δ} {snTooGreat:List Str} {abTooGreat:Bool} {colTooGreat:Option Bool} {ddTooGreat:Option Addr} {j0TooGreat j1TooGreat j2TooGreat j3TooGreat j5TooGreat:Option δ}
  (oTooGreat:Τ K mainGlobals "TooGreat"=some (some (.ref aTooGreat)))
  (xTooGreat:K.lookup aTooGreat=some (excClassObj nmTooGreat qTooGreat aTooGreat NTooGreat bsTooGreat (.ref D :: veM) true snTooGreat subTooGreat abTooGreat colTooGreat ddTooGreat j0TooGreat j1TooGreat j2TooGreat j3TooGreat j5TooGreat "ValueError.__new__"))
  {nmTooLong qTooLong:Str} {NTooLong:Addr} {bsTooLong subTooLong:List δ} {snTooLong:List Str} {abTooLong:Bool} {colTooLong:Option Bool} {ddTooLong:Option Addr} {j0TooLong j1TooLong j2TooLong j3TooLong j5TooLong:Option δ}
  (oTooLong:Τ K mainGlobals "TooLong"=some (some (.ref aTooLong)))
  (xTooLong:K.lookup aTooLong=some (excClassObj nmTooLong qTooLong aTooLong NTooLong bsTooLong (.ref D :: veM) true snTooLong subTooLong abTooLong colTooLong ddTooLong j0TooLong j1TooLong j2TooLong j3TooLong j5TooLong "ValueError.__new__"))
  {nmNoValue qNoValue:Str} {NNoValue:Addr} {bsNoValue subNoValue:List δ} {snNoValue:List Str} {abNoValue:Bool} {colNoValue:Option Bool} {ddNoValue:Option Addr} {j0NoValue j1NoValue j2NoValue j3NoValue j5NoValue:Option δ}
  (oNoValue:Τ K mainGlobals "NoValue"=some (some (.ref aNoValue)))
  (xNoValue:K.lookup aNoValue=some (excClassObj nmNoValue qNoValue aNoValue NNoValue bsNoValue (.ref D :: veM) true snNoValue subNoValue abNoValue colNoValue ddNoValue j0NoValue j1NoValue j2NoValue j3NoValue j5NoValue "ValueError.__new__"))
  {nmNoWords qNoWords:Str} {NNoWords:Addr} {bsNoWords subNoWords:List δ} {snNoWords:List Str} {abNoWords:Bool} {colNoWords:Option Bool} {ddNoWords:Option Addr} {j0NoWords j1NoWords j2NoWords j3NoWords j5NoWords:Option δ}
  (oNoWords:Τ K mainGlobals "NoWords"=some (some (.ref aNoWords)))
  (xNoWords:K.lookup aNoWords=some (excClassObj nmNoWords qNoWords aNoWords NNoWords bsNoWords (.ref D :: veM) true snNoWords subNoWords abNoWords colNoWords ddNoWords j0NoWords j1NoWords j2NoWords j3NoWords j5NoWords "ValueError.__new__"))
  {nmNoLine qNoLine:Str} {NNoLine:Addr} {bsNoLine subNoLine:List δ} {snNoLine:List Str} {abNoLine:Bool} {colNoLine:Option Bool} {ddNoLine:Option Addr} {j0NoLine j1NoLine j2NoLine j3NoLine j5NoLine:Option δ}
  (oNoLine:Τ K mainGlobals "NoLine"=some (some (.ref aNoLine)))
  (xNoLine:K.lookup aNoLine=some (excClassObj nmNoLine qNoLine aNoLine NNoLine bsNoLine (.ref D :: veM) true snNoLine subNoLine abNoLine colNoLine ddNoLine j0NoLine j1NoLine j2NoLine j3NoLine j5NoLine "ValueError.__new__"))
  (inNoProgram:ϡ K (.ref aNoProgram) "__init__"=some (some (.ref fI)))
  (saNoProgram:ϡ K (.ref aNoProgram) "__setattr__"=some (some (.builtin "object.__setattr__")))
  (plNoProgram:ϡ K (.ref aNoProgram) "place"=some none)
  (gaNoProgram:ϡ K (.ref aNoProgram) "__getattribute__"=some (some (.builtin "BaseException.__getattribute__")))
  (ghNoProgram:ϡ K (.ref aNoProgram) "__getattr__"=some none)
  (clNoProgram:ϡ K (.ref aNoProgram) "__class__"=some (some (.builtin "object.__class__")))
  (kpNoProgram:l7 K (.ref aNoProgram)=true)
  (inTwice:ϡ K (.ref aTwice) "__init__"=some (some (.ref fI)))
  (saTwice:ϡ K (.ref aTwice) "__setattr__"=some (some (.builtin "object.__setattr__")))
  (plTwice:ϡ K (.ref aTwice) "place"=some none)
  (gaTwice:ϡ K (.ref aTwice) "__getattribute__"=some (some (.builtin "BaseException.__getattribute__")))
  (ghTwice:ϡ K (.ref aTwice) "__getattr__"=some none)
  (clTwice:ϡ K (.ref aTwice) "__class__"=some (some (.builtin "object.__class__")))
  (kpTwice:l7 K (.ref aTwice)=true)
  (inNoBind:ϡ K (.ref aNoBind) "__init__"=some (some (.ref fI)))
  (saNoBind:ϡ K (.ref aNoBind) "__setattr__"=some (some (.builtin "object.__setattr__")))
  (plNoBind:ϡ K (.ref aNoBind) "place"=some none)
  (gaNoBind:ϡ K (.ref aNoBind) "__getattribute__"=some (some (.builtin "BaseException.__getattribute__")))
  (ghNoBind:ϡ K (.ref aNoBind) "__getattr__"=some none)
  (clNoBind:ϡ K (.ref aNoBind) "__class__"=some (some (.builtin "object.__class__")))
  (kpNoBind:l7 K (.ref aNoBind)=true)
  (ndC:(D :: [aNoProgram,aTwice,aNoBind,aNoName,aUnlike,aParts,aTooGreat,aTooLong,aNoValue,aNoWords,aNoLine]).Nodup)
  :
  ∃ fd:Μ,(∀ (s:ζ) (v:δ),Fl s fd ⟨[v],[]⟩ [("_law_script",v)])/\∀ base:Heap,K.In base->base.Ns mainGlobals mg->aF l.prog w K mg base CX0 15 fa fd ["_law_script"] (rl K):=by
 have e:=hfa.symm.trans (ϋ X G d44.a)
 cases e
 have T:Txt K mg:=⟨Ϙ X G z1,Ϙ X G z2,Ϙ X G z3,Ϙ X G z4,Ϙ X G z5,Ϙ X G z6,Ϙ X G z7,Ϙ X G z8,Ϙ X G z9,Ϙ X G z10,Ϙ X G z11,Ϙ X G z12,Ϙ X G z13,Ϙ X G z14,Ϙ X G z15,Ϙ X G z16,Ϙ X G z17,⟨tg0,ϋ X G zg0⟩,⟨tg1,ϋ X G zg1⟩,⟨tg2,ϋ X G zg2⟩,⟨tg3,ϋ X G zg3⟩,⟨tg4,ϋ X G zg4⟩,⟨tg5,ϋ X G zg5⟩,⟨tg6,ϋ X G zg6⟩,⟨tg7,ϋ X G zg7⟩⟩
 have b1:=d1.F.binds (ps:=["thing"]) λ_ _ _ _ _ _=>us1 λ_=>rfl
 have b2:=d2.F.binds (ps:=["thing"]) λ_ _ _ _ _ _=>us1 λ_=>rfl
 have b3:=d3.F.binds (ps:=["thing"]) λ_ _ _ _ _ _=>us1 λ_=>rfl
 have b4:=d4.F.binds (ps:=["thing"]) λ_ _ _ _ _ _=>us1 λ_=>rfl
 have b5:=d5.F.binds (ps:=["thing"]) λ_ _ _ _ _ _=>us1 λ_=>rfl
 have b6:=d6.F.binds (ps:=["thing"]) λ_ _ _ _ _ _=>us1 λ_=>rfl
 have b7:=d7.F.binds (ps:=["thing"]) λ_ _ _ _ _ _=>us1 λ_=>rfl
 have b8:=d8.F.binds (ps:=["thing"]) λ_ _ _ _ _ _=>us1 λ_=>rfl
 have b9:=d9.F.binds (ps:=["point"]) λ_ _ _ _ _ _=>us1 λ_=>rfl
 have b10:=d10.F.binds (ps:=["thing"]) λ_ _ _ _ _ _=>us1 λ_=>rfl
 have b11:=d11.F.binds (ps:=["thing","bound"]) λ_ _ _ _ _ _=>us2 λ_ _=>rfl
 have b12:=d12.F.binds (ps:=["thing"]) λ_ _ _ _ _ _=>us1 λ_=>rfl
 have b13:=d13.F.binds (ps:=["thing","least"]) λ_ _ _ _ _ _=>us2 λ_ _=>rfl
 have b14:=d14.F.binds (ps:=["sort","thing"]) λ_ _ _ _ _ _=>us2 λ_ _=>rfl
 have b15:=d15.F.binds (ps:=["thing"]) λ_ _ _ _ _ _=>us1 λ_=>rfl
 have b16:=d16.F.binds (ps:=["node"]) λ_ _ _ _ _ _=>us1 λ_=>rfl
 have b17:=d17.F.binds (ps:=["thing"]) λ_ _ _ _ _ _=>us1 λ_=>rfl
 have b18:=d18.F.binds (ps:=["point"]) λ_ _ _ _ _ _=>us1 λ_=>rfl
 have b19:=d19.F.binds (ps:=["whole","parts_of"]) λ_ _ _ _ _ _=>us2 λ_ _=>rfl
 have b20:=d20.F.binds (ps:=["kind"]) λ_ _ _ _ _ _=>us1 λ_=>rfl
 have b21:=d21.F.binds (ps:=["thing"]) λ_ _ _ _ _ _=>us1 λ_=>rfl
 have b22:=d22.F.binds (ps:=["thing"]) λ_ _ _ _ _ _=>us1 λ_=>rfl
 have b23:=d23.F.binds (ps:=["thing"]) λ_ _ _ _ _ _=>us1 λ_=>rfl
 have b24:=d24.F.binds (ps:=["thing"]) λ_ _ _ _ _ _=>us1 λ_=>rfl
 have b25:=d25.F.binds (ps:=["things"]) λ_ _ _ _ _ _=>us1 λ_=>rfl
 have b26:=d26.F.binds (ps:=["length","bound"]) λ_ _ _ _ _ _=>us2 λ_ _=>rfl
 have b27:=d27.F.binds (ps:=["point","fresh","names"]) λ_ _ _ _ _ _=>us3 λ_ _ _=>rfl
 have b28:=d28.F.binds (ps:=["names","params"]) λ_ _ _ _ _ _=>us2 λ_ _=>rfl
 have b29:=d29.F.binds (ps:=["rows"]) λ_ _ _ _ _ _=>us1 λ_=>rfl
 have b30:=d30.F.binds (ps:=["rows"]) λ_ _ _ _ _ _=>us1 λ_=>rfl
 have b31:=d31.F.binds (ps:=["rows"]) λ_ _ _ _ _ _=>us1 λ_=>rfl
 have b32:=d32.F.binds (ps:=["thing"]) λ_ _ _ _ _ _=>us1 λ_=>rfl
 have b33:=d33.F.binds (ps:=["_law_cells","_law_many"]) λ_ _ _ _ _ _=>us2 λ_ _=>rfl
 have b34:=d34.F.binds (ps:=["_law_draws_here"]) λ_ _ _ _ _ _=>us1 λ_=>rfl
 have b35:=d35.F.binds (ps:=["_law_cell"]) λ_ _ _ _ _ _=>us1 λ_=>rfl
 have b36:=d36.F.binds (ps:=["_law_draws_here","_law_names_here"]) λ_ _ _ _ _ _=>us2 λ_ _=>rfl
 have b37:=d37.F.binds (ps:=["_law_draws_here","_law_told","_law_new"]) λ_ _ _ _ _ _=>us3 λ_ _ _=>rfl
 have b38:=d38.F.binds (ps:=["_law_order","_law_draws_here"]) λ_ _ _ _ _ _=>us2 λ_ _=>rfl
 have b39:=d39.F.binds (ps:=["_law_f","_law_draws_here","_law_names_here"]) λ_ _ _ _ _ _=>us3 λ_ _ _=>rfl
 have b40:=d40.F.binds (ps:=["_law_script","_law_names_here"]) λ_ _ _ _ _ _=>us2 λ_ _=>rfl
 have b41:=d41.F.binds (ps:=["_law_row","_law_cell","_law_rows"]) λ_ _ _ _ _ _=>us3 λ_ _ _=>rfl
 have b42:=d42.F.binds (ps:=["_law_rows"]) λ_ _ _ _ _ _=>us1 λ_=>rfl
 have b43:=d43.F.binds (ps:=["_law_thing"]) λ_ _ _ _ _ _=>us1 λ_=>rfl
 obtain ⟨_,_,kV,doc,pm,an,cdv,ct,_,rfl,_⟩:=id d44.F.ex
 refine ⟨o_ "law" "law" (bJ ir) (bq ir) (ae ir) .none kV doc pm an cdv ct,λs v=>.of_eq rfl,λbase _ _=>?_⟩
 have hRK:∀ H,SqT K H gR (vM.map V.str):=λH=>.inr ⟨_,_,_,lR,rfl,rfl,(by show 5<=sizeLine; rw [υ]; decide),.cons ⟨_,rfl⟩ (.cons ⟨_,rfl⟩ (.cons ⟨_,rfl⟩ (.cons ⟨_,rfl⟩ (.cons ⟨_,rfl⟩ .nil))))⟩
 have D1:=d1.d X G b1 (nF d1.F T (P:=l.prog) (w:=w) (base:=base))
 have D2:=d2.d X G b2 (pc d2.F T (P:=l.prog) (w:=w) (base:=base))
 have D3:=d3.d X G b3 (ou (k:=1) d3.F T (D1.up ∅) (D2.up ∅))
 have D4:=d4.d X G b4 (kB (k:=2) d4.F T (D3.up ∅))
 have D5:=d5.d X G b5 (kH (k:=3) d5.F T (D1.up ∅) (D4.up ∅))
 have D6:=d6.d X G b6 (mB (k:=4) d6.F T (D5.up ∅))
 have D7:=d7.d X G b7 (nC d7.F T (P:=l.prog) (w:=w) (base:=base))
 have D8:=d8.d X G b8 (nu (k:=5) d8.F T (D7.up ∅) (D6.up ∅))
 have D9:=d9.d X G b9 (pf (P:=l.prog) (w:=w) (base:=base) d9.F T)
 have D10:=d10.d X G b10 (oy (k:=6) d10.F T (D8.up ∅) (D9.up ∅))
 have D11:=d11.d X G b11 (lX (k:=1) d11.F T (D1.up ∅))
 have D13:=d13.d X G b13 (sH d13.F T (P:=l.prog) (w:=w) (base:=base))
 have D12:=d12.d X G b12 (iu (k:=1) d12.F T sS (ϋ X G zS) (ϋ X G zR) hRK (D2.up ∅))
 have D14:=d14.d X G b14 (wN (k:=7) d14.F T (ϋ X G zR) hRK (D11.up ∅) (D2.up ∅) (D6.up ∅) (D10.up ∅) (D12.up ∅) (D13.up ∅))
 have D15:=d15.d X G b15 (pH (k:=8) d15.F T sS (ϋ X G zS) (D7.up ∅) (D14.up ∅))
 have D16:=d16.d X G b16 (mE d16.F T sS (ϋ X G zS) (P:=l.prog) (w:=w) (base:=base))
 have D17:=d17.d X G b17 (oM (k:=9) d17.F T (D15.up ∅) (D16.up ∅))
 have D18:=d18.d X G b18 (kh d18.F T (P:=l.prog) (w:=w) (base:=base))
 have D19:=d19.d X G b19 (mo (k0:=1) d19.F T (kL (P:=l.prog) (w:=w) (base:=base) d9.F T) d9.F.kp b9)
 have D20:=d20.d X G b20 (lG (k0:=2) d20.F T D19 (ϋ X G d9.a))
 have D21:=d21.d X G b21 (kz (k:=1) d21.F T (D13.up ∅) (D2.up ∅))
 have D22:=d22.d X G b22 (lO (k:=7) d22.F T (D2.up ∅) (D10.up ∅))
 have D23:=d23.d X G b23 (jt (k:=8) d23.F T (D13.up ∅) (D22.up ∅))
 have D24:=d24.d X G b24 (rQ (k:=10) d24.F T (D7.up ∅) (D17.up ∅) (D12.up ∅) (D21.up ∅) (D23.up ∅))
 have D25:=d25.d X G b25 (nM d25.F T (P:=l.prog) (w:=w) (base:=base))
 have D26:=d26.d X G b26 (oF d26.F T (P:=l.prog) (w:=w) (base:=base))
 have D27:=d27.d X G b27 (kP d27.F T (P:=l.prog) (w:=w) (base:=base))
 have D28:=d28.d X G b28 (lE (k:=3) d28.F T (D20.up ∅) (D18.up ∅) (D26.up ∅) (D27.up ∅))
 have FxI:sK K "__init__" "IndexwiseError.__init__" dX fI _ (.ref gI):=⟨⟨_,_,_,_,_,_,_,_,_,rfl,lI,cI⟩⟩
 have BI:=FxI.binds (ps:=["self","place"]) (ds:=[]) lgI rfl λ_ _ _ _ _ _ us hl=>match us,(show us.length=2 by simpa using hl) with | [_,_],_=>⟨_,rfl,rfl⟩
 have FI:aF l.prog w K mg base CX0 1 fI _ ["self","place"] (eP K D fI):=vR FxI T
 have ndA:=j4.mp ndC
 have neD:∀ b∈[aNoProgram,aTwice,aNoBind,aNoName,aUnlike,aParts,aTooGreat,aTooLong,aNoValue,aNoWords,aNoLine],b≠D:=λb hb z=>ndA.1 (z▸hb)
 have CNoProgram:cx K D fI aNoProgram:=⟨⟨_,_,_,_,_,_,_,_,_,_,_,_,_,_,xNoProgram⟩,inNoProgram,tI,saNoProgram,plNoProgram,gaNoProgram,ghNoProgram,clNoProgram,kpNoProgram,neD _ ∅⟩
 have CTwice:cx K D fI aTwice:=⟨⟨_,_,_,_,_,_,_,_,_,_,_,_,_,_,xTwice⟩,inTwice,tI,saTwice,plTwice,gaTwice,ghTwice,clTwice,kpTwice,neD _ ∅⟩
 have CNoBind:cx K D fI aNoBind:=⟨⟨_,_,_,_,_,_,_,_,_,_,_,_,_,_,xNoBind⟩,inNoBind,tI,saNoBind,plNoBind,gaNoBind,ghNoBind,clNoBind,kpNoBind,neD _ ∅⟩
 have Er:yD K mg D fI aNoProgram aTwice aNoBind aNoName aUnlike aParts aTooGreat aTooLong aNoValue aNoWords aNoLine:=⟨⟨_,_,_,_,_,_,_,_,_,_,_,_,_,_,xD⟩,ϋ X G oD,CNoProgram,CTwice,CNoBind,λb hb=>by
  simp only [ν,Ϸ,or_false] at hb
  rcases hb with rfl | rfl | rfl | rfl | rfl | rfl | rfl | rfl
  ·exact ⟨⟨_,_,_,_,_,_,_,_,_,_,_,_,_,_,xNoName⟩,neD _ ∅⟩
  ·exact ⟨⟨_,_,_,_,_,_,_,_,_,_,_,_,_,_,xUnlike⟩,neD _ ∅⟩
  ·exact ⟨⟨_,_,_,_,_,_,_,_,_,_,_,_,_,_,xParts⟩,neD _ ∅⟩
  ·exact ⟨⟨_,_,_,_,_,_,_,_,_,_,_,_,_,_,xTooGreat⟩,neD _ ∅⟩
  ·exact ⟨⟨_,_,_,_,_,_,_,_,_,_,_,_,_,_,xTooLong⟩,neD _ ∅⟩
  ·exact ⟨⟨_,_,_,_,_,_,_,_,_,_,_,_,_,_,xNoValue⟩,neD _ ∅⟩
  ·exact ⟨⟨_,_,_,_,_,_,_,_,_,_,_,_,_,_,xNoWords⟩,neD _ ∅⟩
  ·exact ⟨⟨_,_,_,_,_,_,_,_,_,_,_,_,_,_,xNoLine⟩,neD _ ∅⟩,ϋ X G oNoProgram,ϋ X G oTwice,ϋ X G oNoBind,ϋ X G oNoName,ϋ X G oUnlike,ϋ X G oParts,ϋ X G oTooGreat,ϋ X G oTooLong,ϋ X G oNoValue,ϋ X G oNoWords,ϋ X G oNoLine,ndA.2⟩
 have D29:=d29.x X G b29 (jk (k:=10) d29.F T CNoProgram (ϋ X G oNoProgram) (FI.mono ∅) BI (D24.up ∅))
 have D30:=d30.x X G b30 (jg (k:=1) d30.F T CTwice (ϋ X G oTwice) (FI.mono ∅) BI (D25.up ∅))
 have D31:=d31.x X G b31 (ja (k:=3) d31.F T CNoBind (ϋ X G oNoBind) (FI.mono ∅) BI (D28.up ∅))
 have Fck:=lV (k:=11) d32.F T CNoProgram (ϋ X G oNoProgram) (FI.mono ∅) BI (D29.up ∅) (D30.up ∅) (D31.up ∅)
 have D43:=d43.d X G b43 (on (k:=13) d43.F T Er Fck (ϋ X G d32.a) d32.F.kp b32)
 have D33:=d33.d X G b33 (uh d33.F T (P:=l.prog) (w:=w) (base:=base))
 have D34:=d34.d X G b34 (wK d34.F T (P:=l.prog) (w:=w) (base:=base))
 have D35:=d35.d X G b35 (vL d35.F T (P:=l.prog) (w:=w) (base:=base))
 have D36:=d36.d X G b36 (jn (k:=1) d36.F T (D34.up ∅))
 have D37:=d37.d X G b37 (zq (k:=1) d37.F T (D34.up ∅))
 have D38:=d38.d X G b38 (ik (k:=2) d38.F T (D34.up ∅) (D37.up ∅))
 have D39:=d39.d X G b39 (yF (k:=3) d39.F T (D34.up ∅) (D38.up ∅) (D36.up ∅))
 have D40:=d40.d X G b40 (pT (k:=4) d40.F T (D33.up ∅) (D34.up ∅) (D36.up ∅) (D39.up ∅))
 have D41:=d41.d X G b41 (vW d41.F T (P:=l.prog) (w:=w) (base:=base))
 have D42:=d42.d X G b42 (vN d42.F T (P:=l.prog) (w:=w) (base:=base))
 exact yQ (k0:=14) d44.F T (D33.up ∅) (D34.up ∅) (D35.up ∅) (D40.up ∅) (D43.up ∅) (D41.up ∅) (D42.up ∅)
theorem walk {l:E5} {q:Β} {loose:List Str} {XP:(Str->Option δ)->Heap->Prop} {YP:Ν->Heap->Prop} {d:DefRec} {K:Params->ι} (hn:l.most=some 63) (hdf:d.params.defaults=[])
  (hY:∀ (w:Ν) (h:Heap),YP w h->(K w.params).In h)
  (F:∀ (w:Ν) (mg:Str->Option δ) (fa:Addr) (h:Heap),(K w.params).In h->h.Ns mainGlobals mg->mg d.name=some (.ref fa) ->
   ∃ fd:Μ,(∀ (s:ζ) (u:δ),Fl s fd ⟨[u],[]⟩ [("_law_script",u)])/\∀ base:Heap,(K w.params).In base->base.Ns mainGlobals mg->aF l.prog w (K w.params) mg base CX0 15 fa fd ["_law_script"] (rl (K w.params))) :
  PySem.W.WalkO q loose XP YP l.row.toRowW d [] (λf vs=>PySem.call f vs):=
 L2.walk_of (n:=63) (k:=15) (x:="_law_script") (CX:=λ_=>CX0) (sp:=λw=>rl (K w.params)) hn ∅ hdf ⟨rfl,∅,∅⟩ hY F (λ_ _ a ns hl _ hS=>⟨a,ns,rfl,hS,hl,λ_=>rfl⟩) λ_ _ _ _ _ z=>z
end K26
namespace PySem.W.Fast
def tw12183090131573864231:=0
def tw1014397208929552154:=0
def tw9585361912499230795:=0
def tw10837992445223181700:=0
def tw8108093203273154373:=0
def tw2477100865060607935:=0
def tw5395361004032819079:=0
def tw3790216278639110785:=0
def tw3649633690401967001:=0
def tw4367531000405192285:=0
def tw3585159087913091232:=0
def tw6681608557387030872:=0
def tw5037773816391642250:=0
def tw949952887087102502:=0
def tw6645922318434643360:=0
def tw1685770773171916228:=0
def tw10341802175568473441:=0
def tw8480219707037726930:=0
def tw3211496080777393786:=0
def tw8216585707215840624:=0
def tw6376871481034968369:=0
def tw15323691360393785591:=0
def tw4406141489965468974:=0
def tw8810101612131339636:=0
def tw3416970017938464253:=0
def tw13150590320939467459:=0
def tw18373353726651089190:=0
def tw6770707269296264463:=0
def tw15472478394756105587:=0
def tw18379760454094902695:=0
def tw12731023020672674561:=0
def tw14314830950931279264:=0
def tw9634592908304158983:=0
def tw14818231324012372448:=0
def tw17199752272170912630:=0
def tw1663641150923027703:=0
def tw6985986384728544683:=0
def tw2743818384368489614:=0
def tw6431509240263567795:=0
def tw5022451583606956251:=0
def tw16919389042123601231:=0
def tw14155405858110949088:=0
def tw6684298545692247491:=0
def tw4583653271254452490:=0
def tw18050913844638289765:=0
def tw2956519920341368768:=0
def tw17937754098958982392:=0
def tw13469697565941186344:=0
def tw1536858168042252039:=0
def tw10453380462968403898:=0
def tw10264731974707656445:=0
def tw3081232883762163554:=0
def tw9554624982068331413:=0
def tw16511649821122183:=0
def tw12949096250837394276:=0
def tw17248788315281329460:=0
def tw7179592071979681556:=0
def tw18177525690129421247:=0
def tw12275819486044828402:=0
def tw2551665952453074565:=0
def tw14850978058526246178:=0
def tw548932771619518258:=0
def tw14976697322906846329:=0
def tw6006522260094007999:=0
def tw8893594304464097634:=0
def tw601790754128545400:=0
def tw5070193442356966275:=0
def tw16668524437697677291:=0
def tw4839670850734586223:=0
def tw13626897177168455258:=0
def tw17419626247801800296:=0
def tw12377977957822380381:=0
def tw12686697460743113901:=0
def tw10278655591810091023:=0
def tw5426550313990024879:=0
def tw16375762565352942674:=0
def tw9790083125550374330:=0
def tw14337825535775670373:=0
def tw12780933519796377252:=0
def tw1807571060440188165:=0
def tw3331691194229684228:=0
def tw15612226652946681478:=0
def tw4418990835180999882:=0
def tw7346189856604053827:=0
def tw8348109123608074633:=0
def tw1019733007519704097:=0
def tw875240688774388734:=0
def tw12938547883438641420:=0
def tw6498058834467604404:=0
def tw14848531882223309302:=0
def tw13980775131518600320:=0
def tw16977606032883698986:=0
def tw9206016661772069962:=0
def tw13209713475895059846:=0
def tw775880632279066560:=0
def tw6524351403353733948:=0
def tw16604716792230610381:=0
def tw16484492578311074535:=0
def tw17408645131127857507:=0
def tw13207943824920709846:=0
def tw14898342826593697330:=0
def tw8949090515849132278:=0
def tw1062515855992360124:=0
def tw1870641160960240993:=0
def tw3053744392789366093:=0
def tw9728669760112206717:=0
def tw1566927926701150890:=0
def tw4878610344381356420:=0
def tw2196700828771244957:=0
def tw17008541857046479065:=0
def tw8406064700309673886:=0
def tw7038657896542581101:=0
def tw4380517121786418567:=0
def tw12226231419990893524:=0
def tw12659149155039021855:=0
def tw13970276988551931423:=0
def tw11399084755994008906:=0
def tw493675215564709587:=0
def tw12294806999861833413:=0
def tw9561151866569642350:=0
def tw15469760840214423548:=0
def tw7790891401808382668:=0
def tw9254590441938925083:=0
def tw12539916997309675576:=0
def tw18205166227900127235:=0
def tw2582379347618260085:=0
def tw15494832785620694814:=0
def tw2482980368558433690:=0
def tw18018459514433866321:=0
def tw11997778029556564360:=0
def tw4639331071766995946:=0
def tw9506460471081740614:=0
def tw16130707103738763360:=0
def tw13021161552143835567:=0
def tw12080327847803354550:=0
def tw9797032119129397037:=0
def tw4330686671512306607:=0
def tw2126977602881671918:=0
def tw14163036830039748494:=0
def tw5317068929009122610:=0
def tw5051095817382149307:=0
def tw1919155860473121675:=0
def tw1298817203399201020:=0
def tw5232019828842264596:=0
def tw9884777960075982777:=0
def tw4823577547399836917:=0
def tw1976041397515760173:=0
def tw11816343538035297792:=0
def tw1728655782754316966:=0
def tw185487771131104396:=0
def tw3944112197580512132:=0
def tw8415169102281065817:=0
def tw16776646249270350375:=0
def tw288548920226035300:=0
def tw16243206441925738980:=0
def tw5306245613984589731:=0
def tw15038783498901797296:=0
def tw8872851569673625607:=0
def tw7591332216332245168:=0
def tw296123137101019737:=0
def tw10117823402991529591:=0
def tw9714582723780184074:=0
def tw14477967966987112242:=0
def tw9315793608111844567:=0
def tw7958279477639752631:=0
def tw1619539192639506344:=0
def tw11602710226550577417:=0
def tw5643997015008322471:=0
def tw9517615747896427278:=0
def tw12249813162487823416:=0
def tw508139713389181269:=0
def tw6064279053014970792:=0
def tw3221067085402131732:=0
def tw4365998852976151144:=0
def tw10518084584428911607:=0
def tw9740801356943344494:=0
def tw8666295170122659792:=0
def tw4760008108828004629:=0
def tw2522375386817998188:=0
def tw4147285857219027182:=0
def tw3923533327300923522:=0
def tw7620321529093228844:=0
def tw15316922521103071354:=0
def tw8288399880386824003:=0
def tw2946707417692214653:=0
def tw4956182185438414718:=0
def tw14844201175966101670:=0
def tw6617462758700635961:=0
def tw9754665356652032516:=0
def tw2818916625132117119:=0
def tw6093710245243235690:=0
def tw768428234901009372:=0
def tw3787135811756239644:=0
def tw3195982113617254217:=0
def tw313016341100929006:=0
def tw12095163584032756263:=0
def tw10392735267088841785:=0
def tw1419810739050396255:=0
def tw8789501129850375419:=0
def tw2889789903493118362:=0
def tw6797835535125205062:=0
def tw13515173481195199555:=0
def tw14051797086186953503:=0
def tw7268628876644557770:=0
def tw10966921502227396411:=0
def tw12172073724000026682:=0
def tw12101024251909788832:=0
def tw6441445884743891545:=0
def tw16327421143025687286:=0
def tw6618421572674068792:=0
def tw9067225254346011075:=0
def tw8367990878035175360:=0
def tw7349353759193546505:=0
def tw338045339033305946:=0
def tw11909909241656583855:=0
def tw14863679232959499272:=0
def tw1325802342101206970:=0
def tw5296723180412510019:=0
def tw1379627158048434365:=0
def tw10460792549223824199:=0
def tw17914730454348822234:=0
def tw11932873521088581408:=0
def tw2199210178427539771:=0
def tw901746816782894097:=0
def tw1236665355117661619:=0
def tw15328570104467390076:=0
def tw15561617534022023462:=0
def tw15952477492102647767:=0
def tw15004859607892586830:=0
def tw4810782013890609192:=0
def tw1938841320625711386:=0
def tw12204534338717274442:=0
def tw11721012903245238714:=0
def tw840919749957714063:=0
def tw16321083352043995290:=0
def tw7478107819748843031:=0
def tw1514682687526353698:=0
def tw15380916709229410713:=0
def tw498482806826357161:=0
def tw14157724534152211086:=0
def tw7600630234067872612:=0
def tw1223001686201554877:=0
def tw15598012375940278955:=0
def tw10312914261225596239:=0
def tw533360958914976281:=0
def tw4041885229771483350:=0
def tw8539895850104142199:=0
def tw2696279134830970794:=0
def tw5739965535441032381:=0
def tw9841114360035848196:=0
def tw8426879448753941427:=0
def tw12101082999855630598:=0
def tw4020080381854451492:=0
def tw2514474422076223617:=0
def tw8840444920229887095:=0
def tw4968692778525337426:=0
def tw9083102726869252745:=0
def tw5421509881412010436:=0
def tw10526193573171831908:=0
def tw10698222289184669983:=0
def tw10780225092197393169:=0
def tw7577689078836316523:=0
def tw5144464066631834663:=0
def tw12721966479458497970:=0
def tw2961191233802928943:=0
def tw16931658836292553313:=0
def tw11959501610851840468:=0
def tw6028831840275095632:=0
def tw17131857120993648521:=0
def tw7189065352700251277:=0
def tw4545639018047469246:=0
def tw1176959434026928549:=0
def tw13383010892074794949:=0
def tw13474060522869636048:=0
def tw14932739800923414996:=0
def tw8851739968320681685:=0
def tw13029311112226587998:=0
def tw7499457026969930716:=0
def tw1085955068283046162:=0
def tw7436949212804527551:=0
def tw8367638681092292931:=0
def tw17913147476121866326:=0
def tw3732617949438131682:=0
def tw4057891056689143228:=0
def tw1998239998028815265:=0
def tw3985035362489521089:=0
def tw3028527754441641121:=0
def tw5719521273571183561:=0
def tw5385626552407234351:=0
def tw10655429548372829220:=0
def tw1102340032720534059:=0
def tw3180244058045835061:=0
def tw16522959097214663623:=0
def tw15287941369894963360:=0
def tw1308934427347185307:=0
def tw7601424975998904679:=0
def tw1587920585487680785:=0
def tw4722460540119373853:=0
def tw9174166708254678866:=0
def tw11396591399405875162:=0
def tw3833567558854331358:=0
def tw2908162663354915496:=0
def tw11932964464296639770:=0
def tw5618487385421072:=0
def tw14986570210218709716:=0
def tw1868558596884669553:=0
def tw3080903513213334979:=0
def tw1012973951853451542:=0
def tw9082465378716220724:=0
def tw1170027155914707261:=0
def tw13664309729004000277:=0
def tw15895037389637381775:=0
def tw9661724821876597811:=0
def tw12049895458242284119:=0
def tw4499831815544245406:=0
def tw4347537580746880560:=0
def tw2918010811528593600:=0
def tw10499057191616529927:=0
def tw12361724098348478424:=0
def tw13996064586128313085:=0
def tw10830502702024553135:=0
def tw15580792859771099949:=0
def tw10845969230653802550:=0
def tw2297328746945308511:=0
def tw1136632066440933398:=0
def tw4226468647020472998:=0
def tw319106462716237705:=0
def tw14840836071436122185:=0
def tw3145008540410314638:=0
def tw10751173658684762073:=0
def tw4949417088165923629:=0
def tw4446006747185925836:=0
def tw10821292002569994087:=0
def tw18312530999116333532:=0
end PySem.W.Fast
open PySem PySem.W PyProof.Rows
set_option maxRecDepth 100000 in
set_option maxHeartbeats 0 in
theorem PySem.Challenge.cw_indexwise_k26_told_twice_holds : PySem.Challenge.rw_indexwise_k26_told_twice.Holds := by
 w_on; o_law; k_head; (case hw=>w_witness2)
 k_fill
 refine K26.walk (l := PySem.Challenge.rw_indexwise_k26_told_twice) rfl rfl (λw h Y => PySem.W.kIn_of Y) ?F
 case F=>
  intro w mg fa h KX G hmg
  refine' K26.all_mk KX G hmg ?d1 ?d2 ?d3 ?d4 ?d5 ?d6 ?d7 ?d8 ?d9 ?d10 ?d11 ?d12 ?d13 ?d14 ?d15 ?d16 ?d17 ?d18 ?d19 ?d20 ?d21 ?d22 ?d23 ?d24 ?d25 ?d26 ?d27 ?d28 ?d29 ?d30 ?d31 ?d32 ?d33 ?d34 ?d35 ?d36 ?d37 ?d38 ?d39 ?d40 ?d41 ?d42 ?d43 ?d44 ?z1 ?z2 ?z3 ?z4 ?z5 ?z6 ?z7 ?z8 ?z9 ?z10 ?z11 ?z12 ?z13 ?z14 ?z15 ?z16 ?z17 ?zg0 ?zg1 ?zg2 ?zg3 ?zg4 ?zg5 ?zg6 ?zg7 ?zR ?lR ?zS ?sS ?lI ?cI ?lgI ?tI ?oD ?xD ?oNoProgram ?xNoProgram ?oTwice ?xTwice ?oNoBind ?xNoBind ?oNoName ?xNoName ?oUnlike ?xUnlike ?oParts ?xParts ?oTooGreat ?xTooGreat ?oTooLong ?xTooLong ?oNoValue ?xNoValue ?oNoWords ?xNoWords ?oNoLine ?xNoLine ?inNoProgram ?saNoProgram ?plNoProgram ?gaNoProgram ?ghNoProgram ?clNoProgram ?kpNoProgram ?inTwice ?saTwice ?plTwice ?gaTwice ?ghTwice ?clTwice ?kpTwice ?inNoBind ?saNoBind ?plNoBind ?gaNoBind ?ghNoBind ?clNoBind ?kpNoBind ?ndC
  all_goals try (refine' K26.df_mk ?a ?l ?c ?k; (case a=>k_is); (case l=>k_is); (case c=>k_is); (case k=>k_is))
  (case z1=>k_is); (case z2=>k_is); (case z3=>k_is); (case z4=>k_is); (case z5=>k_is); (case z6=>k_is); (case z7=>k_is); (case z8=>k_is); (case z9=>k_is); (case z10=>k_is); (case z11=>k_is); (case z12=>k_is); (case z13=>k_is); (case z14=>k_is); (case z15=>k_is); (case z16=>k_is); (case z17=>k_is)
  (case zg0=>k_is)
  (case zg1=>k_is)
  (case zg2=>k_is)
  (case zg3=>k_is)
  (case zg4=>k_is)
  (case zg5=>k_is)
  (case zg6=>k_is)
  (case zg7=>k_is)
  (case zR=>k_is)
  (case lR=>k_is)
  (case zS=>k_is)
  (case oD=>k_is)
  (case xD=>k_is)
  (case oNoProgram=>k_is)
  (case xNoProgram=>k_is)
  (case oTwice=>k_is)
  (case xTwice=>k_is)
  (case oNoBind=>k_is)
  (case xNoBind=>k_is)
  (case oNoName=>k_is)
  (case xNoName=>k_is)
  (case oUnlike=>k_is)
  (case xUnlike=>k_is)
  (case oParts=>k_is)
  (case xParts=>k_is)
  (case oTooGreat=>k_is)
  (case xTooGreat=>k_is)
  (case oTooLong=>k_is)
  (case xTooLong=>k_is)
  (case oNoValue=>k_is)
  (case xNoValue=>k_is)
  (case oNoWords=>k_is)
  (case xNoWords=>k_is)
  (case oNoLine=>k_is)
  (case xNoLine=>k_is)
  (case inNoProgram=>k_is)
  (case lI=>k_is)
  (case cI=>k_is)
  (case lgI=>k_is)
  (case tI=>k_is)
  (case saNoProgram=>k_is)
  (case plNoProgram=>k_is)
  (case gaNoProgram=>k_is)
  (case ghNoProgram=>k_is)
  (case clNoProgram=>k_is)
  (case kpNoProgram=>k_is)
  (case inTwice=>k_is)
  (case saTwice=>k_is)
  (case plTwice=>k_is)
  (case gaTwice=>k_is)
  (case ghTwice=>k_is)
  (case clTwice=>k_is)
  (case kpTwice=>k_is)
  (case inNoBind=>k_is)
  (case saNoBind=>k_is)
  (case plNoBind=>k_is)
  (case gaNoBind=>k_is)
  (case ghNoBind=>k_is)
  (case clNoBind=>k_is)
  (case kpNoBind=>k_is)
  (case ndC=>decide)
  case sS=>
   refine' XB.shp_mk ?xShl ?xSlo ?xShe ?xSht
   (case xShl=>k_is)
   (case xSlo=>decide)
   (case xShe=>repeat (first | exact XB.Ents.nil | refine XB.Ents.cons ?_))
   case xSht=>
    refine' (XB.TupsK.cons ?xSa1 ?xSb1 (XB.TupsK.cons ?xSa2 ?xSb2 (XB.TupsK.cons ?xSa3 ?xSb3 (XB.TupsK.cons ?xSa4 ?xSb4 (XB.TupsK.cons ?xSa5 ?xSb5 (XB.TupsK.cons ?xSa6 ?xSb6 (XB.TupsK.cons ?xSa7 ?xSb7 (XB.TupsK.cons ?xSa8 ?xSb8 (XB.TupsK.cons ?xSa9 ?xSb9 (XB.TupsK.cons ?xSa10 ?xSb10 (XB.TupsK.cons ?xSa11 ?xSb11 (XB.TupsK.cons ?xSa12 ?xSb12 (XB.TupsK.cons ?xSa13 ?xSb13 (XB.TupsK.cons ?xSa14 ?xSb14 (XB.TupsK.cons ?xSa15 ?xSb15 (XB.TupsK.cons ?xSa16 ?xSb16 (XB.TupsK.cons ?xSa17 ?xSb17 (XB.TupsK.cons ?xSa18 ?xSb18 (XB.TupsK.cons ?xSa19 ?xSb19 (XB.TupsK.cons ?xSa20 ?xSb20 (XB.TupsK.cons ?xSa21 ?xSb21 (XB.TupsK.cons ?xSa22 ?xSb22 (XB.TupsK.cons ?xSa23 ?xSb23 (XB.TupsK.cons ?xSa24 ?xSb24 (XB.TupsK.cons ?xSa25 ?xSb25 (XB.TupsK.cons ?xSa26 ?xSb26 (XB.TupsK.cons ?xSa27 ?xSb27 XB.TupsK.nil)))))))))))))))))))))))))))
    (case xSa1=>k_is); (case xSb1=>repeat (first | exact XB.AreS.nil | refine XB.AreS.cons ?_))
    (case xSa2=>k_is); (case xSb2=>repeat (first | exact XB.AreS.nil | refine XB.AreS.cons ?_))
    (case xSa3=>k_is); (case xSb3=>repeat (first | exact XB.AreS.nil | refine XB.AreS.cons ?_))
    (case xSa4=>k_is); (case xSb4=>repeat (first | exact XB.AreS.nil | refine XB.AreS.cons ?_))
    (case xSa5=>k_is); (case xSb5=>repeat (first | exact XB.AreS.nil | refine XB.AreS.cons ?_))
    (case xSa6=>k_is); (case xSb6=>repeat (first | exact XB.AreS.nil | refine XB.AreS.cons ?_))
    (case xSa7=>k_is); (case xSb7=>repeat (first | exact XB.AreS.nil | refine XB.AreS.cons ?_))
    (case xSa8=>k_is); (case xSb8=>repeat (first | exact XB.AreS.nil | refine XB.AreS.cons ?_))
    (case xSa9=>k_is); (case xSb9=>repeat (first | exact XB.AreS.nil | refine XB.AreS.cons ?_))
    (case xSa10=>k_is); (case xSb10=>repeat (first | exact XB.AreS.nil | refine XB.AreS.cons ?_))
    (case xSa11=>k_is); (case xSb11=>repeat (first | exact XB.AreS.nil | refine XB.AreS.cons ?_))
    (case xSa12=>k_is); (case xSb12=>repeat (first | exact XB.AreS.nil | refine XB.AreS.cons ?_))
    (case xSa13=>k_is); (case xSb13=>repeat (first | exact XB.AreS.nil | refine XB.AreS.cons ?_))
    (case xSa14=>k_is); (case xSb14=>repeat (first | exact XB.AreS.nil | refine XB.AreS.cons ?_))
    (case xSa15=>k_is); (case xSb15=>repeat (first | exact XB.AreS.nil | refine XB.AreS.cons ?_))
    (case xSa16=>k_is); (case xSb16=>repeat (first | exact XB.AreS.nil | refine XB.AreS.cons ?_))
    (case xSa17=>k_is); (case xSb17=>repeat (first | exact XB.AreS.nil | refine XB.AreS.cons ?_))
    (case xSa18=>k_is); (case xSb18=>repeat (first | exact XB.AreS.nil | refine XB.AreS.cons ?_))
    (case xSa19=>k_is); (case xSb19=>repeat (first | exact XB.AreS.nil | refine XB.AreS.cons ?_))
    (case xSa20=>k_is); (case xSb20=>repeat (first | exact XB.AreS.nil | refine XB.AreS.cons ?_))
    (case xSa21=>k_is); (case xSb21=>repeat (first | exact XB.AreS.nil | refine XB.AreS.cons ?_))
    (case xSa22=>k_is); (case xSb22=>repeat (first | exact XB.AreS.nil | refine XB.AreS.cons ?_))
    (case xSa23=>k_is); (case xSb23=>repeat (first | exact XB.AreS.nil | refine XB.AreS.cons ?_))
    (case xSa24=>k_is); (case xSb24=>repeat (first | exact XB.AreS.nil | refine XB.AreS.cons ?_))
    (case xSa25=>k_is); (case xSb25=>repeat (first | exact XB.AreS.nil | refine XB.AreS.cons ?_))
    (case xSa26=>k_is); (case xSb26=>repeat (first | exact XB.AreS.nil | refine XB.AreS.cons ?_))
    (case xSa27=>k_is); (case xSb27=>repeat (first | exact XB.AreS.nil | refine XB.AreS.cons ?_))
