import PyProof.Rows.All
import Wide.All
import OpenK.AllK
import Wide.FinOn
import Lean
import PyProof.EqAt
import PyProof.EqKinds
import PyProof.TupleCall
import PySem.Challenge.RW_indexwise_k27_names_bound
set_option Elab.async false
set_option linter.all false
set_option maxRecDepth 100000
set_option maxHeartbeats 3200000
local macro_rules | `(tactic| trivial) => `(tactic| first | exact .inl rfl | exact .inr (.inl rfl) | exact .inr (.inr rfl) | exact .inr rfl | assumption | exact True.intro | exact ⟨rfl,rfl,rfl,by decide +kernel,rfl,by decide +kernel,by decide +kernel⟩)
local macro_rules | `(()) => `(by first | omega | decide +kernel | trivial | (intro _; rfl) | simp)
open Array renaming length_toList→Ϩ,perm_iff_toList_perm→s9,getElem?_eq_some_iff→A6,getD_eq_getD_getElem?→Dz,size_append→FG,getD→GB
open Bool renaming and_eq_true→Θ,false_ne_true→Κ,true_and→ϧ,false_and→i9,eq_iff_iff→m8,false_or→B6,false_eq_true→Dh,eq_false_iff→DD,or_false→FL,and_true→FM,or_eq_true→Gi,and_false→Gp
open False renaming elim→k4
open ForInStep renaming yield→Dl
open Function renaming comp_def→FF
open Int renaming toNat_natCast→r6,fdiv_eq_ediv_of_nonneg→DG,emod_lt_of_pos→Ek,emod_nonneg→E3,ediv_nonneg→Gh
open List renaming length_map→ε,mem_singleton→θ,mem_cons→μ,getElem?_eq_some_iff→ο,size_toArray→π,map_append→τ,mem_cons_of_mem→υ,length_append→χ,replicate→Β,getElem?_eq_getElem→Γ,mem_cons_self→Δ,mem_map→Ζ,mem_of_getElem?→Λ,getElem?_map→Ν,length_take→Φ,range→ϋ,map_cons→ό,map_map→ύ,length_cons→ϒ,take_length→ϔ,mem_append→ϖ,take_add_one→ϗ,mem_filter→ϙ,mem_append_right→ϟ,length_singleton→ϥ,map_nil→Ϫ,mem_range→Ϭ,length_reverse→Ϯ,flatMap_append→ϰ,drop_eq_getElem_cons→ϲ,length_drop→ϳ,getElem?_eq_none→a7,lookup_cons→a9,any_eq_true→a_,append_nil→c_,all_eq_true→e_,getElem_mem→f_,not_mem_nil→g_,mem_map_of_mem→h_,take_append_drop→i3,mem_append_left→i7,mem_of_mem_take→j8,find?_cons→j_,replicate_succ→k7,nodup_append→k8,eq_nil_of_length_eq_zero→k9,nodup_cons→m9,flatMap_cons→s_,filterMap_cons→t7,getElem_of_mem→t_,length_replicate→u7,append_assoc→w_,getD→x4,sum_append→x9,map_take→y7,getElem?_append_right→A2,ext_getElem?→B4,dropLast_concat→B5,map_congr_left→C3,getElem_inj→C5,take_of_length_le→Dj,range_succ→Dm,length_filter_le→Dq,getElem?_reverse→Ds,any_eq_false→Dt,reverse_cons→Dx,flatten_cons→Dy,pairwise_map→DC,getElem?_set_ne→DF,nodup_iff_pairwise_ne→DR,all_map→DT,map_reverse→DU,any_cons→D_,Pairwise→Eb,eq_of_mem_replicate→Ec,length_nil→Ed,nil_append→Ee,mem_filterMap→Ef,filter_append→El,pairwise_singleton→Eo,getElem?_set_self→Eu,cons_append→EI,sum_cons→EQ,mem_of_mem_drop→ET,length_set→EU,getElem?_range→E5,length_pos_iff→E6,find?_eq_none→Fj,contains_cons→Fq,getElem?_append_left→Ft,mem_or_eq_of_mem_set→Fy,take_sublist→FA,lookup→FE,length_range→FK,map_drop→FN,filter_cons→FP,map→FW,drop_length→F4,foldl→F6,map_set→F9,of_mem_zip→Gb,forIn_cons→Gg,Perm→GG
open List.Perm renaming mem_iff→Ex,refl→Ez
open Nat renaming le_refl→ρ,zero_le→Ξ,ne_of_lt→Ρ,le_of_ble_eq_true→ϊ,lt_of_lt_of_le→ϕ,le_trans→Ϙ,ne_of_gt→m6,le_add_right→o0,lt_irrefl→o_,lt_succ_of_lt→r_,le_of_lt→x_,le_succ→y6,min_eq_left→Dp,lt_succ_self→DS,lt_of_le_of_lt→Ej,min_eq_right→F3,not_lt_zero→Ge
open Ne renaming symm→Ϗ
open Option renaming map_eq_some_iff→c6,isSome_map→Dw
open Option.some renaming inj→ϑ
open Or renaming inl→Η,inr→Fi
open PyProof.Rows renaming callWith_type1→Ϻ,slot_tuple_getitem→ϻ,envOfC→u6,entry_list_sort→Do,slot_list_sort→DM,args_list_sort→DN,AllBare→E7,call_isinstance_of→Fs,get?_update_seq→Gj,Subscript_→Gy,IsTup→GH
open PyProof.Rows.F renaming plain_set_update_loop→Es
open PyProof.Rows.IsTup renaming new→FR
open PySem renaming wpAny_bind→γ,Value→δ,Shared→η,wpAny_pure→ν,sizeLine_eq→ω,Program→Α,FuncData→Ο,World→Υ,wpAny_loadPart_at→Χ,Around→Ω,wpAny_newObj_type→ϝ,Builtin→Ϥ,wpAny_holding→Ϧ,wpAny_call_entry→ϫ,wpAny_field→ϭ,wpAny_isSubtype_exc→ϯ,codeAny_builtin→ϴ,wpAny_truthy_bool→Ϸ,wpAny_seqItems→ϸ,strKind→b_,length_le_of_nodup_of_subset→d_,wpAny_callSpecial?_slot→i6,wpAny_mono→i8,wpAny_Call_Name_kw→i_,codeAny_call_builtin→j6,call_meets→r9,wpAny_rule→u8,plainId_quiet→u_,SetTable→w9,wpAny_setField_rec→A5,wpAny_binaryOp_repeat_ref→A8,wpAny_passesOwn→A9,wpAny_updateSeq→A_,wpAny_pyIter_list→B0,codeAny_mono→B3,IsPair→B7,mem_of_lookup→C2,wpAny_getItem_str_slice→C6,wpAny_pyIter_tuple→C9,wpAny_typeOf→Dg,wpAny_execs_nil→Dk,GenState→DE,NameKind→DH,typeIs_int→DK,wpAny_tryCatch→DL,wpAny_setField→DO,wpAny_letGo→DP,wpAny_call→Eg,tupleKind_room_in1→Ei,Scope→Et,builtinLookup_eq_fast→EA,DictEntry→ED,wpAny_standAt→EL,wpAny_newList→EM,wpAny_onRaise→EN,wpAny_updateSeq_pair→ES,post_val_or_str→EW,codeAny_of_tree→EY,ExcBaseFacts→Fb,Result→Ff,wpAny_runValue→Fk,IsZip→Fm,slot_list_getitem→FC,ExcAttrBase→FJ,wpAny_execs_cons→FO,noFill_tuple_add→FQ,wpAny_isInstance→FX,OsState→F8,Walks→Ga,wpAny_specialOf→Gc,typeLookup_type→Gk,Model→Gn,wpAny_of_eq→Gq,ZipApart→Gr,wpAny_loadPart→Gu,BindsTo→Gw,IsPart→Gz,Drawn→GC,PassesOwn→GI
open PySem.Around renaming under_plainId→j4
open PySem.AutoSeq1 renaming wpAny_loadPart'→Ϲ,sub_tuple_tuple→B8,idx_int→EJ
open PySem.Bind renaming checkArgs→Gs
open PySem.Builtin.Builtins renaming bindParams→Fa
open PySem.Builtin.Frozenset renaming updateFrom→EZ
open PySem.Builtin.List renaming listExtendWith→i4,listTooLong→l_,listLengthHint→E_,listFitsIndex→Fp
open PySem.Builtin.ObjectAttr renaming storeInDict→EK
open PySem.Builtin.Range renaming rangeSize→Ϛ
open PySem.Builtin.Slice renaming slicePlaces→A7,sliceApplied→DJ,sliceAdjust→DV
open PySem.Builtin.SmallTypes renaming nextOf→ϱ,ownedTupleIsFree→m5,ownedTupleHandOut→DY
open PySem.Builtin.Tuple renaming tupleExact→ϡ,tupleTooMany→DQ,tupleItemsOf→Fg,tupleIsExact→Fl
open PySem.Calls renaming spliced_cons→C_,callWith_builtin→De,spliced_nil→Du,call_function_entry→DX,evalArgs_plain→ER,Name_function_global→Fe
open PySem.Code renaming quiet_builtin→A3
open PySem.Data renaming cell→Gv
open PySem.F renaming plainAttrs_list→Ι,called_set→Ϝ,slot_list_append→Ϣ,type_list_append→ϣ,slot_list_pop→k_,type_list_pop→l8,slot_int_rmul→x6,plain_max_loop→y9,slot_tuple_iterator_next→A4,slot_list_extend→B_,type_list_extend→C1,slot_tuple_getattribute→DW,args_tuple_add_2→Ea,plainAttrs_dict→Em,entry_tuple_add→En,slot_dict_items→Ep,slot_tuple_add→Ev,args_int_rmul_2→Ew,typeOf_object_class→EC,slot_int_index→EF,entry_int_rmul→EG,fills_int_mul→EV,args_tuple_iterator_next_1→E1,slot_zip_next→E2,slot_enumerate_iter→E8,entry_tuple_iterator_next→E9,args_tuple_mul_2→Fn,slot_dict_getitem→Fu,plain_extend_loop→Fv,slot_list_reverse→Fw,type_list_reverse→Fx,entry_tuple_mul→FH,slot_tuple_mul→FZ,entry_max_loop→F1
open PySem.Heap renaming get?_push_of_some→ι,lt_size→ς,get?_push_size→ψ,get?_update_other→Ψ,get?_update_self→Ϡ,size_push→ϩ,get?_none_of_le→ϵ,SameBut→C8,get?_push_ne→DB,size_update→EH,get?_update_ne→E4
open PySem.Heap.SameBut renaming update→C4
open PySem.NameKind renaming free→ϓ,cell→p_
open PySem.Obj renaming mapSeq→n_,data_mapFields→Di,isFreed_of_fields→EB,mapFields→EO,putSet→F7
open PySem.PassesOwn renaming never→ϛ
open PySem.SeqAt renaming EqAt→Ϟ
open PySem.SeqAt.EqAt renaming int_str→Fc,str_int→Fd,int_int→Fh,same→Gd
open PySem.SeqAt.RcAt renaming lists_lengths→B9,lists→FY
open PySem.SetTable renaming grown→C7
open PySem.Str renaming ofString→ξ
open PySem.Value renaming ref→Ε,none→a8,str→i5,builtin→u9,type→x5,int→y8,bool→Gx
open PySem.Value.type renaming inj→j7
open PySem.W renaming Frag→ζ,nsIn→Τ,mg_of→ώ,mg_none_of→ϐ,kitOne→c9,kia_one→j9,fnOf→q_,keepIn→v_,findIn→y_,codeIn→DI,callWith_K→Eh,kitCls→Ey,methodObj→Fz,kas_tail3→FT,kas_place→FU,instObj→F_,OpenLaw→Gf,Looks→Gm,lookIn→Go,kas_rev→GE,kas_bin→GF
open PySem.W.KT renaming app_list→DZ
open PySem.W.KasT renaming kasWp_bind→m_,ret→GD
open PySem.Walks renaming list→GA
open Sum renaming inr→Μ,inl→F5
open True renaming intro→z_
theorem Q9{p:Prop}[i:Decidable p](h:p):decide p=true:=decide_eq_true h
theorem Q8{p:Prop}[i:Decidable p](h:¬p):decide p=false:=decide_eq_false h
theorem Q7{p:Prop}[i:Decidable p](h:decide p=true):p:=of_decide_eq_true h
theorem Q6{c:Prop}{h:Decidable c}(k:¬c){α:Sort u}{t e:α}:ite c t e=e:=if_neg k
theorem Q0{c:Prop}{h:Decidable c}(k:c){α:Sort u}{t e:α}:ite c t e=t:=if_pos k
namespace L2
open PySem PySem.Spec PyProof.Rows
abbrev Key:=Sum Int Str
def kX:Key->δ->Bool
 |.inl k,v=>δ.isInt k v
 |.inr x,v=>δ.isStrOf x v
def CY(w:Υ):Key->Int
 |.inl k=>hashInt k
 |.inr x=>hashStr w x
theorem aV:∀{k:Key}{v:δ},kX k v=true->(∃i t,k=F5 i/\v=y8 i t)\/(∃x t,k=Μ x/\v=i5 x t)
 |.inl i,v,h=>by
  obtain⟨t,e⟩:=δ.isInt_shape (k:=i) (v:=v) h
  exact .inl ⟨i,t,rfl,e⟩
 |.inr x,v,h=>by
  obtain⟨t,e⟩:=δ.isStrOf_shape (x:=x) (v:=v) h
  exact .inr ⟨x,t,rfl,e⟩
theorem uC(i:Int)(t:Tok):kX (.inl i) (.int i t)=true:=by simp[kX,δ.isInt]
theorem tE(x:Str)(t:Tok):kX (.inr x) (.str x t)=true:=by simp[kX,δ.isStrOf]
theorem AR(a b:Int):decide ((F5 a:Key)=F5 b)=(a==b):=by
 by_cases e:a=b
 ·subst e;simp
 ·have h:¬ (F5 a:Key)=F5 b:=λq=>e (F5.inj q)
  rw[Q8 h]
  exact(beq_eq_false_iff_ne.mpr e).symm
theorem zT(a b:Str):decide ((Μ a:Key)=Μ b)=decide (a=b):=by
 by_cases e:a=b
 ·subst e;simp
 ·have h:¬ (Μ a:Key)=Μ b:=λq=>e (Μ.inj q)
  rw[Q8 h,Q8 e]
theorem AD(a:Int)(b:Str):decide ((F5 a:Key)=Μ b)=false:=Q8 (λq=>nomatch q)
theorem Av(a:Str)(b:Int):decide ((Μ a:Key)=F5 b)=false:=Q8 (λq=>nomatch q)
def aN(prog:Α)(w:Υ):PySem.KeyKind prog w Key where
 is:=kX
 hash:=CY w
 inj:=λv a b ha hb=>by
  rcases aV ha with ⟨i,t,rfl,rfl⟩|⟨x,t,rfl,rfl⟩
  ·rcases aV hb with ⟨j,u,rfl,e⟩|⟨y,u,rfl,e⟩
   ·injection e with e1 _;rw[e1]
   ·exact nomatch e
  ·rcases aV hb with ⟨j,u,rfl,e⟩|⟨y,u,rfl,e⟩
   ·exact nomatch e
   ·injection e with e1 _;rw[e1]
 byValue:=λk v h=>by
   rcases aV h with ⟨i,t,rfl,rfl⟩|⟨x,t,rfl,rfl⟩<;>rfl
 pyHash:=λhv h=>by
  rcases aV hv with ⟨i,t,rfl,rfl⟩|⟨x,t,rfl,rfl⟩
  ·exact wpAny_pyHash_int h
  ·exact wpAny_pyHash_str h
 eqBool:=λhu hv h=>by
  rcases aV hu with ⟨i,t,rfl,rfl⟩|⟨x,t,rfl,rfl⟩
  ·rcases aV hv with ⟨j,u,rfl,rfl⟩|⟨y,u,rfl,rfl⟩
   ·rw[AR]at h;exact wpAny_eqBool_int h
   ·rw[AD]at h;exact Fc i t y u _ _ _ _ h
  ·rcases aV hv with ⟨j,u,rfl,rfl⟩|⟨y,u,rfl,rfl⟩
   ·rw[Av]at h;exact Fd x t j u _ _ _ _ h
   ·rw[zT]at h;exact wpAny_eqBool_str h
 «strs»:=λk x t v h=>by
  rcases aV h with ⟨i,u,rfl,e⟩|⟨y,u,rfl,e⟩
  ·exact nomatch e
  ·injection e with e1 _
   subst e1
   cases v<;>rfl
theorem pE(prog:Α)(w:Υ)(i:Int)(t:Tok):(aN prog w).is (.inl i) (.int i t)=true:=uC i t
theorem dW(prog:Α)(w:Υ)(x:Str)(t:Tok):(aN prog w).is (.inr x) (.str x t)=true:=tE x t
inductive V where
 |non|bl (b:Bool)|int (i:Int)|str (x:Str)|byt (b:Array UInt8)|flt (b:UInt64)|ref (a:Addr)|ty (n:String)
 deriving DecidableEq
def aw:V->δ->Prop
 |.non,u=>u=a8
 |.bl b,u=>u=Gx b
 |.int i,u=>∃t,u=y8 i t
 |.str x,u=>∃t,u=i5 x t
 |.byt b,u=>∃t,u=δ.bytes b t
 |.flt b,u=>∃t,u=δ.float b t
 |.ref a,u=>u=Ε a
 |.ty n,u=>u=x5 n
abbrev ar:List V->List δ->Prop:=Paired aw
theorem ar.length{xs:List V}{us:List δ}(r:ar xs us):xs.length=us.length:=Paired.length r
theorem ar.get:∀{xs:List V}{us:List δ}{i:Nat}{x:V},ar xs us->xs[i]?=some x->∃u,us[i]?=some u/\aw x u
 |_,_,_,_,.nil,e=>by simp at e
 |_,_,0,_,.cons r _,e=>by simp at e;subst e;exact⟨_,rfl,r⟩
 |_,_,i+1,x,.cons _ t,e=>by
  obtain⟨u,h1,h2⟩:=ar.get (i:=i) (x:=x) t (by simpa using e)
  exact⟨u,by simpa using h1,h2⟩
theorem ar.set{x:V}{u:δ}(r:aw x u):∀{xs:List V}{us:List δ}(i:Nat),ar xs us->ar (xs.set i x) (us.set i u)
 |_,_,_,.nil=>.nil
 |_,_,0,.cons _ t=>.cons r t
 |_,_,i+1,.cons q t=>.cons q (ar.set r i t)
theorem ar.append:∀{xs ys:List V}{us ws:List δ},ar xs us->ar ys ws->ar (xs++ys) (us++ws)
 |_,_,_,_,.nil,s=>s
 |_,_,_,_,.cons r t,s=>.cons r (ar.append t s)
theorem ar.take:∀{xs:List V}{us:List δ}(n:Nat),ar xs us->ar (xs.take n) (us.take n)
 |_,_,0,_=>.nil
 |_,_,_+1,.nil=>.nil
 |_,_,n+1,.cons r t=>.cons r (ar.take n t)
theorem ar.drop:∀{xs:List V}{us:List δ}(n:Nat),ar xs us->ar (xs.drop n) (us.drop n)
 |_,_,0,r=>r
 |_,_,_+1,.nil=>.nil
 |_,_,n+1,.cons _ t=>ar.drop n t
def iJ:Option V->Option δ->Prop
 |some v,some u=>aw v u
 |none,none=>True
 |_,_=>False
def KV{κ:Type}:List (κ×V)->List (κ×δ)->Prop:=Paired λ(p:κ×V) (q:κ×δ)=>p.1=q.1/\aw p.2 q.2
def kV:Key->V
 |.inl i=>.int i
 |.inr x=>.str x
inductive HO where
 |lst (xs:List V)
 |tup (xs:List V)
 |dK (kvs:List (Key×V))|dT (kvs:List (List Key×V))
 |set (S:Int->Bool) (n:Nat)
 |ins (C dx:Addr) (fs:List (Str×V))
 |own (x:Addr)
 |xd (fs:List (Str×V))
 |met (f x:Addr)
 |rng (lo hi:Int)
 |frz (o:Obj) (u:HO)
 |tbl (ps:Array δ)
 |ext (φ:Heap->Prop)
abbrev Hp:=Addr->Option HO
def upd(H:Hp)(a:Addr)(o:HO):Hp:=λb=>if b=a then some o else H b
theorem aa{H:Hp}{a:Addr}{o:HO}:upd H a o a=some o:=by unfold upd;rw[Q0 rfl]
theorem ai{H:Hp}{a b:Addr}{o:HO}(h:b≠a):upd H a o b=H b:=by unfold upd;rw[Q6 h]
theorem iS{H:Hp}{a:Addr}{o u:HO}:upd (upd H a o) a u=upd H a u:=by
 funext b;unfold upd;split<;>rfl
theorem Cc{H:Hp}{a b:Addr}{o u:HO}(h:H a=some o)(h':H b=some u)(d:o≠u):a≠b:=by
 intro e;subst e;rw[h]at h';exact d (ϑ h')
theorem af{H:Hp}{a b:Addr}{o:HO}(h:H a=some o)(h':H b=none):a≠b:=by
 intro e;subst e;rw[h]at h';cases h'
def NoD(h:Heap)(a:Addr):Prop:=∃o,h.get? a=some o/\o.dict=none
theorem NoD.new(h:Heap){o:Obj}(e:o.dict=none)(f:o.isFreed=false:=by rfl):NoD (h.push o) h.objs.size:=⟨_,ψ _ f,e⟩
section
variable(P:Α)(w:Υ)
def aM(H:Hp)(h:Heap)(a:Addr):HO->Prop
 |.lst xs=>xs.length<=sizeLine/\∃(its:List δ) (n:Nat),ar xs its/\h.get? a=some {cls:=.type "list",data:=.seq its.toArray n}
 |.tup xs=>xs.length<=sizeLine/\∃its:List δ,ar xs its/\GH h a its.toArray/\NoD h a
 |.dK kvs=>kvs.length<=sizeLine/\(a==sysModules)=false/\∃vs,KV kvs vs/\h.DictOf (aN P w) a vs
 |.dT kvs=>kvs.length<=sizeLine/\(a==sysModules)=false/\∃xs:List (List Key×Addr×δ),
   Paired (λ(p:List Key×V) (q:List Key×Addr×δ)=>p.1=q.1/\H q.2.1=some (.tup (p.1.map kV))/\aw p.2 q.2.2) kvs xs /\
   ∃o es ep,h.get? a=some o/\o.ExactDict/\o.data=.dict es ep/\es.toList=xs.map (entryOfKey (tupleKind (aN P w)))/\(xs.map (·.1)).Nodup
 |.set S n=>h.SetOf (intKind P w) a S n
 |.ins C dx fs=>H dx=some (.own a)/\fs.length<=1000/\dx≠a/\h.get? a=some (F_ C dx) /\
   ∃mA,h.Ns1 dx mA/\(∀f,iJ (fs.lookup f) (mA f))/\PySem.Within mA (fs.map (·.1))
 |.own _=>∃o,h.get? a=some o
 |.xd fs=>∃mA,h.Ns1 a mA/\∀f,iJ (fs.lookup f) (mA f)
 |.rng lo hi=>∃t u v,h.get? a=some {cls:=.type "range",data:=.fields #[.int lo t,.int hi u,.int 1 v]}
 |.frz o u=>h.get? a=some o/\aM H h a u
 |.tbl ps=>h.get? a=some {cls:=.none,data:=.fields ps}
 |.met f x=>h.get? a=some (Fz (.ref f) (.ref x))
 |.ext φ=>φ h/\(∃o,h.get? a=some o)/\∀h1 h2:Heap,φ h1->(∀o,h1.get? a=some o->h2.get? a=some o)->φ h2
def HOk(H:Hp)(h:Heap):Prop:=∀a o,H a=some o->aM P w H h a o
end
section
variable{P:Α}{w:Υ}{H H':Hp}{h h':Heap}{a:Addr}{o:HO}
theorem aM.lt(x:aM P w H h a o):a<h.objs.size:=by
 cases o with
 |lst xs=>obtain⟨_,_,_,_,e⟩:=x;exact ς e
 |tup xs=>obtain⟨_,_,_,p⟩:=x;exact p.1.lt
 |dK kvs=>obtain⟨_,_,_,_,o,_,_,e,_⟩:=x;exact ς e
 |dT kvs=>obtain⟨_,_,_,_,o,_,_,e,_⟩:=x;exact ς e
 |set S n=>obtain⟨o,_,_,_,e,_⟩:=x;exact ς e
 |ins C dx fs=>obtain⟨_,_,_,e,_⟩:=x;exact ς e
 |own y=>obtain⟨_,e⟩:=x;exact ς e
 |xd fs=>obtain⟨_,⟨_,_,_,e,_⟩,_⟩:=x;exact ς e
 |rng lo hi=>obtain⟨_,_,_,e⟩:=x;exact ς e
 |frz ob u=>obtain⟨e,_⟩:=x;exact ς e
 |tbl ps=>exact ς (show h.get? a=some _ from x)
 |met f y=>exact ς (show h.get? a=some _ from x)
 |ext φ=>obtain⟨_,⟨_,e⟩,_⟩:=x;exact ς e
theorem Paired.mapP{α β:Type}{F G:α->β->Prop}:∀{l₁:List α}{l₂:List β},Paired F l₁ l₂->(∀a b,F a b->G a b)->Paired G l₁ l₂
 |_,_,.nil,_=>.nil
 |_,_,.cons r t,f=>.cons (f _ _ r) (Paired.mapP t f)
theorem aM.stay(x:aM P w H h a o)(k:∀b u,(b=a\/H b=some (.own a))->h.get? b=some u->h'.get? b=some u)
  (ho:∀b,H b=some (.own a)->H' b=some (.own a)) (ht:∀b xs,H b=some (.tup xs)->H' b=some (.tup xs)):aM P w H' h' a o:=by
 induction o with
 |lst xs=>obtain⟨z,its,n,r,e⟩:=x;exact⟨z,its,n,r,k _ _ (.inl rfl) e⟩
 |tup xs=>obtain⟨z,its,r,⟨ob,e,c⟩,od,e2,c2⟩:=x;exact⟨z,its,r,⟨ob,k _ _ (.inl rfl) e,c⟩,od,k _ _ (.inl rfl) e2,c2⟩
 |dK kvs=>obtain⟨z,y,vs,r,ob,es,ep,e,c⟩:=x;exact⟨z,y,vs,r,ob,es,ep,k _ _ (.inl rfl) e,c⟩
 |dT kvs=>
  obtain⟨z,y,xs,r,ob,es,ep,e,c⟩:=x
  exact⟨z,y,xs,Paired.mapP r λp q z=>⟨z.1,ht _ _ z.2.1,z.2.2⟩,ob,es,ep,k _ _ (.inl rfl) e,c⟩
 |set S n=>obtain⟨ob,es,ep,t,e,c⟩:=x;exact⟨ob,es,ep,t,k _ _ (.inl rfl) e,c⟩
 |ins C dx fs=>
  obtain⟨d,z,ne,e,mA,⟨od,es,ep,e2,c⟩,r⟩:=x
  exact⟨ho _ d,z,ne,k _ _ (.inl rfl) e,mA,⟨od,es,ep,k _ _ (.inr d) e2,c⟩,r⟩
 |own y=>obtain⟨ob,e⟩:=x;exact⟨ob,k _ _ (.inl rfl) e⟩
 |xd fs=>obtain⟨mA,⟨od,es,ep,e,c⟩,r⟩:=x;exact⟨mA,⟨od,es,ep,k _ _ (.inl rfl) e,c⟩,r⟩
 |rng lo hi=>obtain⟨t,u,v,e⟩:=x;exact⟨t,u,v,k _ _ (.inl rfl) e⟩
 |frz ob u ih=>obtain⟨e,q⟩:=x;exact⟨k _ _ (.inl rfl) e,ih q⟩
 |tbl ps=>
  have e:h.get? a=some {cls:=.none,data:=.fields ps}:=x
  show h'.get? a=some {cls:=.none,data:=.fields ps}
  exact k a _ (.inl rfl) e
 |met f y=>
  have e:h.get? a=some (Fz (.ref f) (.ref y)):=x
  show h'.get? a=some (Fz (.ref f) (.ref y))
  exact k a _ (.inl rfl) e
 |ext φ=>obtain⟨p,⟨o,e⟩,st⟩:=x;exact⟨st _ _ p λo q=>k _ _ (.inl rfl) q,⟨o,k _ _ (.inl rfl) e⟩,st⟩
theorem HOk.lt(x:HOk P w H h)(e:H a=some o):a<h.objs.size:=(x a o e).lt
theorem HOk.fresh(x:HOk P w H h)(e:h.objs.size<=a):H a=none:=by
 cases q:H a with
 |none=>rfl
 |some u=>exact absurd (ϕ (x.lt q) e) (o_ _)
theorem HOk.kept(x:HOk P w H h)(k:∀b u,h.get? b=some u->h'.get? b=some u):HOk P w H h':=λa o e=>
 (x a o e).stay (λb u _ q=>k b u q) (λ_ q=>q) λ_ _ q=>q
theorem HOk.laid(x:HOk P w H h)(k:∀b u,h.get? b=some u->h'.get? b=some u)(hp:h.objs.size<=a)(new:aM P w (upd H a o) h' a o):HOk P w (upd H a o) h':=λb u e=>by
 have hn:=x.fresh hp
 by_cases hb:b=a
 ·subst hb;rw[aa]at e;cases e;exact new
 ·rw[ai hb]at e
  exact(x b u e).stay (λc v _ q=>k c v q) (λc q=>by rw[ai (af q hn)];exact q) λc xs q=>by rw[ai (af q hn)];exact q
end
def Rd(H:Hp)(a:Addr)(u:HO):Prop:=H a=some u\/∃o,H a=some (.frz o u)
theorem Rd.ok{P:Α}{w:Υ}{H:Hp}{h:Heap}{a:Addr}{u:HO}(r:Rd H a u)(x:HOk P w H h):aM P w H h a u:=by
 rcases r with r|⟨o,r⟩
 ·exact x a u r
 ·obtain⟨_,q⟩:=x a _ r
  exact q
def Mut:Option HO->Prop
 |some (.lst _)=>True
 |some (.dK _)=>True
 |some (.dT _)=>True
 |some (.set _ _)=>True
 |some (.ins _ _ _)=>True
 |some (.ext _)=>True
 |_=>False
section
variable{P:Α}{w:Υ}{H:Hp}{h h':Heap}{x e:Addr}{o':HO}
theorem HOk.write(ok:HOk P w H h)(mu:Mut (H x))(he:e=x\/H e=some (.own x))(k:∀b u,b≠e->h.get? b=some u->h'.get? b=some u)(heo:∃u,h'.get? e=some u)
  (new:aM P w (upd H x o') h' x o'):HOk P w (upd H x o') h':=λb u q=>by
 have nown:∀c y,H c=some (.own y)->c≠x:=λc y r z=>by subst z;rw[r]at mu;exact mu
 have ntup:∀c xs,H c=some (.tup xs)->c≠x:=λc xs r z=>by subst z;rw[r]at mu;exact mu
 by_cases hb:b=x
 ·subst hb;rw[aa]at q;cases q;exact new
 ·rw[ai hb]at q
  by_cases hbe:b=e
  ·have q':H b=some (.own x):=by
    rcases he with z|z
    ·exact absurd (hbe.trans z) hb
    ·rw[hbe];exact z
   rw[q]at q';cases q'
   obtain⟨v,hv⟩:=heo
   exact⟨v,by rw[hbe];exact hv⟩
  ·refine(ok b u q).stay (λc v hc r=>k c v ?_ r) (λc r=>by rw[ai (nown c b r)];exact r) λc xs r=>by rw[ai (ntup c xs r)];exact r
   rcases hc with rfl|hc
   ·exact hbe
   ·rintro rfl
    rcases he with z|z
    ·exact nown c b hc z
    ·rw[hc]at z;cases z;exact hb rfl
end
structure Un(fs ex:List Addr)(H H':Hp)(h h':Heap):Prop where
 keep:∀b o,h.get? b=some o->H b=none->b∉fs->b∉ex->h'.get? b=some o
 slot:∀b o,h.get? b=some o->H b=none->b∈fs->b∉ex->∃sl,h'.get? b=some {o with slots:=sl}
 free:∀b o,h.get? b=some o->H b=none->b∉ex->H' b=none
 there:∀b o,h.get? b=some o->b∉ex->∃o',h'.get? b=some o'
 tups:∀b xs,H b=some (.tup xs)->H' b=some (.tup xs)
 frzs:∀b o u,H b=some (.frz o u)->H' b=some (.frz o u)
 tbls:∀b ps,H b=some (.tbl ps)->∃more,H' b=some (.tbl (ps++more))
section
variable{fs fs' ex ex':List Addr}{H H1 H2:Hp}{h h1 h2 h':Heap}{a x e:Addr}{o:HO}
theorem Un.any(u:Un fs ex H H1 h h1){b:Addr}{ob:Obj}(q:h.get? b=some ob)(n:H b=none)(hx:b∉ex):∃sl,h1.get? b=some {ob with slots:=sl}:=by
 by_cases hb:b∈fs
 ·exact u.slot b ob q n hb hx
 ·exact⟨ob.slots,u.keep b ob q n hb hx⟩
theorem Un.kept(k:∀b u,h.get? b=some u->h'.get? b=some u):Un fs ex H H h h':=
 ⟨λb ob q _ _ _=>k b ob q,λb ob q _ _ _=>⟨ob.slots,k b ob q⟩,λ_ _ _ n _=>n,λb ob q _=>⟨ob,k b ob q⟩,λ_ _ q=>q,λ_ _ _ q=>q,λ_ ps q=>⟨#[],by rw[q];simp⟩⟩
theorem Un.refl:Un fs ex H H h h:=Un.kept λ_ _ q=>q
theorem Un.laid(k:∀b u,h.get? b=some u->h'.get? b=some u)(hp:h.objs.size<=a)(hn:H a=none):Un fs ex H (upd H a o) h h' where
 keep:=λb u q _ _ _=>k b u q
 slot:=λb u q _ _ _=>⟨u.slots,k b u q⟩
 free:=λb u q n _=>by rw[ai (Ρ (ϕ (ς q) hp))];exact n
 there:=λb u q _=>⟨u,k b u q⟩
 tups:=λb xs q=>by rw[ai (af q hn)];exact q
 frzs:=λb u xs q=>by rw[ai (af q hn)];exact q
 tbls:=λb ps q=>⟨#[],by rw[ai (af q hn),q];simp⟩
theorem Un.write(mu:Mut (H x))(he:e=x\/H e=some (.own x))(k:∀b u,b≠e->h.get? b=some u->h'.get? b=some u)(heo:∃u,h'.get? e=some u):Un fs ex H (upd H x o) h h':=by
 have hx:∀b,H b=none->b≠x:=λb n z=>by subst z;rw[n]at mu;exact mu
 have hb:∀b,H b=none->b≠e:=λb n z=>by
  subst z
  rcases he with r|r
  ·exact hx b n r
  ·rw[n]at r;cases r
 have hm:∀b u,H b=some u->¬ Mut (some u)->b≠x:=λb u q nm z=>by subst z;rw[q]at mu;exact nm mu
 refine⟨λb u q n _ _=>k b u (hb b n) q,λb u q n _ _=>⟨u.slots,k b u (hb b n) q⟩,λb u q n _=>by rw[ai (hx b n)];exact n,λb u q _=>?_,
  λb xs q=>by rw[ai (hm b _ q λz=>z)];exact q,λb u xs q=>by rw[ai (hm b _ q λz=>z)];exact q,λb ps q=>⟨#[],by rw[ai (hm b _ q λz=>z),q];simp⟩⟩
 by_cases hbe:b=e
 ·subst hbe;exact heo
 ·exact⟨u,k b u hbe q⟩
end
def trk(h:Heap)(H:Hp):List Addr:=(ϋ h.objs.size).filter λa=>(H a).isSome
def mD(h:Heap)(H:Hp):Heap:=PySem.W.hideAll h (trk h H)
theorem uA(h:Heap)(H:Hp):(mD h H).objs.size=h.objs.size:=PySem.W.hideAll_size _ _
theorem wS{h:Heap}{H:Hp}{b:Addr}{o:Obj}(e:h.get? b=some o)(n:H b=none):(mD h H).get? b=some o:=
 PySem.W.hideAll_get _ e λhm=>by
  have q:(H b).isSome=true:=(ϙ.mp hm).2
  rw[n]at q;simp at q
theorem xB{h:Heap}{H:Hp}{b:Addr}{o:Obj}(e:(mD h H).get? b=some o):h.get? b=some o/\H b=none:=by
 have e':h.get? b=some o:=PySem.W.of_hideAll (trk h H) e
 refine⟨e',?_⟩
 cases q:H b with
 |none=>rfl
 |some x=>
  have hm:b∈trk h H:=ϙ.mpr ⟨Ϭ.mpr (ς e'),by simp[q]⟩
  have z:(mD h H).get? b=none:=PySem.W.hideAll_none (trk h H) hm
  rw[z]at e;cases e
def eB(g h:Heap)(L:Addr):List (Addr×Obj):=(ϋ h.objs.size).filterMap λa=>if a=L\/(g.get? a).isSome=true then none else (h.get? a).map λo=>(a,o)
theorem dw{g h:Heap}{L a:Addr}{o:Obj}(h1:a≠L)(h2:g.get? a=none)(h3:h.get? a=some o):(a,o)∈eB g h L:=
 Ef.mpr ⟨a,Ϭ.mpr (ς h3),by simp[h1,h2,h3]⟩
theorem jm{g h:Heap}{L:Addr}{p:Addr×Obj}(hp:p∈eB g h L):p.1≠L/\g.get? p.1=none/\h.get? p.1=some p.2:=by
 obtain⟨b,_,e⟩:=Ef.mp hp
 split at e
 ·cases e
 ·rename_i hn
  cases q:h.get? b with
  |none=>rw[q]at e;simp at e
  |some u=>
   rw[q]at e
   simp only[Option.map_some,Option.some.injEq]at e
   subst e
   refine⟨λz=>hn (.inl z),?_,q⟩
   show g.get? b=none
   cases r:g.get? b with
   |none=>rfl
   |some v=>exact(hn (.inr (by simp[r]))).elim
theorem jL{g h:Heap}{L:Addr}:News g L h (eB g h L):=λp hp=>let ⟨a,b,c⟩:=jm hp;⟨c,a,b⟩
structure Mod(K:ζ)(mg:Str->Option δ)(base:Heap):Prop where
 kin:K.In base
 glob:base.Ns mainGlobals mg
 blt:∃mb,base.Ns builtinsNs mb/\∀x:Str,x≠"__name__"->mb x=bootBuiltins x
 nolimit:base.NoLimit
structure Cx where
 prog:Α
 w:Υ
 K:ζ
 mg:Str->Option δ
 base:Heap
 A:Ω
 N:List Str
 s₀:η
 H₀:Hp
 env:Env
 outer:List Env
 stack:List Env
 ex:List Addr
 fn:Str->Bool
 calm:Bool
 pn:List (Addr×Obj)
 xe:δ->η->Prop
def frs(l:List Env):List Addr:=l.filterMap (·.frame)
abbrev Cx.fs(X:Cx):List Addr:=frs X.outer
def Vis(sc:Et)(x:Str):Prop:=sc.names.lookup x=some .local\/sc.names.lookup x=some .cell\/sc.names.lookup x=some .free
def Loc(sc:Et)(x:Str):Prop:=sc.names.lookup x=some .local\/sc.names.lookup x=some .cell
def BJ(env:Env)(h:Heap)(m:Str->Option δ)(x:Str)(u:δ):Prop:=
 (env.kindOf x=some .local/\m x=some u)\/((env.kindOf x=some .cell\/env.kindOf x=some .free)/\∃c,env.cells.lookup x=some c/\h.IsCell c (some u))
structure Cx.Ok(X:Cx):Prop where
 mod:Mod X.K X.mg X.base
 kind:X.env.scope.kind=.function
 glob:X.env.globals=mainGlobals
 blt:X.env.builtins=builtinsNs
 above:X.s₀.heap.objs.size<=X.env.locals
 inj:∀x y c,X.env.cells.lookup x=some c->X.env.cells.lookup y=some c->x=y
 has:∀x,(X.env.kindOf x=some .cell\/X.env.kindOf x=some .free)->∃c,X.env.cells.lookup x=some c
 cab:∀x c,X.fn x=true->X.env.cells.lookup x=some c->X.s₀.heap.objs.size<=c
 hd:X.calm=true->X.A.handled=none
 frames:X.A.frames=some X.stack
 stk:X.stack=X.outer\/(X.stack=X.env::X.outer/\X.env.frame=some X.env.locals)
 exf:∀b∈X.ex,b≠X.env.locals/\∀x c,X.env.cells.lookup x=some c->c≠b
 bs:∀b o,X.base.get? b=some o->X.s₀.heap.get? b=some o/\X.H₀ b=none
 bsz:X.base.objs.size<=X.s₀.heap.objs.size
 noex:∀b o,X.base.get? b=some o->b∉X.ex
 exfs:∀b∈X.ex,b∉X.fs
 funs:X.s₀.heap.FunFrames X.base X.outer
 frf:∀b∈X.fs,X.H₀ b=none
structure Inv(X:Cx)(pins:List (Addr×Obj))(σ:List (Option V))(H:Hp)(s:η):Prop where
 ok:X.Ok
 os:s.os=X.s₀.os
 bare:E7 s.gens
 base:Un X.fs X.ex X.H₀ H X.s₀.heap s.heap
 loc:∃m,s.heap.Ns X.env.locals m/\∀(i:Nat)(x:Str)(v:V),X.N[i]?=some x->σ[i]?=some (some v)->Vis X.env.scope x->∃u,aw v u/\BJ X.env s.heap m x u
 cell:∀x c,X.env.cells.lookup x=some c->∃v,s.heap.IsCell c v
 free:H X.env.locals=none
 freeC:∀x c,X.env.cells.lookup x=some c->H c=none
 pin:∀p∈X.pn++pins,s.heap.get? p.1=some p.2/\H p.1=none/\p.1≠X.env.locals/\p.1∉X.fs/\∀v,p.2.data≠.cell v
 hok:HOk X.prog X.w H s.heap
 len:σ.length=X.N.length
section
variable{X:Cx}{pins:List (Addr×Obj)}{σ:List (Option V)}{H H':Hp}{s:η}{h':Heap}
theorem Cx.Ok.nofr(ok:X.Ok){b:Addr}{o:Obj}(e:X.base.get? b=some o):b∉X.fs:=λhb=>by
 have:=(ok.funs.mem hb).1
 rw[e]at this;cases this
theorem Inv.bs(I:Inv X pins σ H s):∀b o,X.base.get? b=some o->s.heap.get? b=some o/\H b=none:=λb o e=>
 ⟨I.base.keep b o (I.ok.bs b o e).1 (I.ok.bs b o e).2 (I.ok.nofr e) (I.ok.noex b o e),I.base.free b o (I.ok.bs b o e).1 (I.ok.bs b o e).2 (I.ok.noex b o e)⟩
theorem Inv.bk(I:Inv X pins σ H s):∀b o,X.base.get? b=some o->s.heap.get? b=some o:=λb o e=>(I.bs b o e).1
theorem Inv.mod(I:Inv X pins σ H s):Mod X.K X.mg X.base:=I.ok.mod
theorem Inv.kIn(I:Inv X pins σ H s):X.K.In s.heap:=I.ok.mod.kin.keeps I.bk
theorem Inv.fr(I:Inv X pins σ H s):∃m,Fr X.base X.env.locals s.heap m:=
 let ⟨m,hn,_⟩:=I.loc
 ⟨m,hn,I.bk,Ϙ I.ok.bsz I.ok.above⟩
theorem Inv.lt(I:Inv X pins σ H s):X.env.locals<s.heap.objs.size:=let ⟨_,hn,_⟩:=I.loc;hn.lt
theorem Inv.sz(I:Inv X pins σ H s):X.s₀.heap.objs.size<=s.heap.objs.size:=Ϙ I.ok.above (x_ I.lt)
theorem Inv.nofs(I:Inv X pins σ H s){a:Addr}(h:s.heap.objs.size<=a):a∉X.fs:=λhb=>by
 obtain⟨_,o,ho,_⟩:=I.ok.funs.mem hb
 exact absurd (ϕ (ς ho) (Ϙ I.sz h)) (o_ _)
theorem Inv.cne(I:Inv X pins σ H s):∀x c,X.env.cells.lookup x=some c->c≠X.env.locals:=λx c e z=>by
 obtain⟨v,o,ho,hd⟩:=I.cell x c e
 obtain⟨m,⟨o',es,ep,ho',hd',_⟩,_⟩:=I.loc
 rw[z,ho']at ho;cases ho;rw[hd']at hd;cases hd
theorem Inv.funs(I:Inv X pins σ H s):s.heap.FunFrames X.base X.outer:=by
 have all:∀(l:List Env),(∀b∈frs l,b∈X.fs)->X.s₀.heap.FunFrames X.base l->s.heap.FunFrames X.base l:=by
  intro l
  induction l with
  |nil=>intro _ _;trivial
  |cons env r ih=>
   intro hs hl
   obtain⟨hk,⟨L,o,hf,hn,ho,hd⟩,hr⟩:=hl
   have hL:L∈X.fs:=hs L (by unfold frs;rw[t7,hf];exact Δ)
   obtain⟨sl,e⟩:=I.base.slot L o ho (I.ok.frf L hL) hL λz=>I.ok.exfs L z hL
   exact⟨hk,⟨L,_,hf,hn,e,hd⟩,ih (λb hb=>hs b (by unfold frs;rw[t7,hf];exact υ _ hb)) hr⟩
 exact all X.outer (λ_ hb=>hb) I.ok.funs
theorem Inv.stack(I:Inv X pins σ H s):s.heap.FunFrames X.base X.stack:=by
 rcases I.ok.stk with e|⟨e,hf⟩
 ·rw[e];exact I.funs
 ·rw[e]
  obtain⟨m,hn,_⟩:=I.loc
  refine .cons (by rw[I.ok.kind];decide) hf hn ?_ I.funs
  exact ϵ (Ϙ I.ok.bsz I.ok.above)
theorem Inv.stkSub(I:Inv X pins σ H s):∀b∈frs X.stack,b∈X.env.locals::X.fs:=λb hb=>by
 rcases I.ok.stk with e|⟨e,hf⟩
 ·rw[e]at hb;exact υ _ hb
 ·rw[e]at hb
  unfold frs at hb
  rw[t7,hf]at hb
  exact hb
theorem Inv.stkFree(I:Inv X pins σ H s):∀b∈frs X.stack,H b=none:=λb hb=>by
 rcases μ.mp (I.stkSub b hb)with e|hb
 ·rw[e];exact I.free
 ·obtain⟨_,o,ho,_⟩:=I.ok.funs.mem hb
  exact I.base.free b o ho (I.ok.frf b hb) λz=>I.ok.exfs b z hb
theorem Inv.step{g':Array DE}{t':Nat}{d':GC}{ch:List Addr}(I:Inv X pins σ H s)
  (hch:∀b∈ch,(b∈X.ex\/X.s₀.heap.objs.size<=b)/\b≠X.env.locals/\(∀x c,X.env.cells.lookup x=some c->c≠b)/\∀p∈X.pn++pins,p.1≠b)
  (keep:∀b o,b≠X.env.locals->b∉X.fs->b∉ch->s.heap.get? b=some o->H b=none->h'.get? b=some o)
  (slot:∀b o,b≠X.env.locals->b∈X.fs->b∉ch->s.heap.get? b=some o->H b=none->∃sl,h'.get? b=some {o with slots:=sl}) (free:∀b o,b∉ch->s.heap.get? b=some o->H b=none->H' b=none)
  (there:∀b o,b∉ch->s.heap.get? b=some o->∃o',h'.get? b=some o')
  (tups:∀b xs,H b=some (.tup xs)->H' b=some (.tup xs)) (frzs:∀b o u,H b=some (.frz o u)->H' b=some (.frz o u)) (tbls:∀b ps,H b=some (.tbl ps)->∃more,H' b=some (.tbl (ps++more)))
  (ns:∀m,s.heap.Ns X.env.locals m->h'.Ns X.env.locals m) (hok:HOk X.prog X.w H' h') (hg:E7 g'):
  Inv X pins σ H' {s with heap:=h',gens:=g',drawn:=d',toks:=t'}:=by
 have neL:∀b o,X.s₀.heap.get? b=some o->b≠X.env.locals:=λb o e=>Ρ (ϕ (ς e) I.ok.above)
 have neC:∀b o,X.s₀.heap.get? b=some o->b∉X.ex->b∉ch:=λb o e hx hb=>by
  rcases(hch b hb).1 with z|z
  ·exact hx z
  ·exact absurd (ϕ (ς e) z) (o_ _)
 have cellK:∀x c,X.env.cells.lookup x=some c->∀v,s.heap.IsCell c v->h'.IsCell c v:=λx c e v ⟨o,ho,hd⟩=>by
  have nch:c∉ch:=λz=>(hch c z).2.2.1 x c e rfl
  by_cases hc:c∈X.fs
  ·obtain⟨sl,q⟩:=slot c o (I.cne x c e) hc nch ho (I.freeC x c e)
   exact⟨_,q,hd⟩
  ·exact⟨o,keep c o (I.cne x c e) hc nch ho (I.freeC x c e),hd⟩
 refine⟨I.ok,I.os,hg,⟨λb o e n hb hx=>?_,λb o e n hb hx=>?_,λb o e n hx=>?_,λb o e hx=>?_,λb xs e=>tups b xs (I.base.tups b xs e),λb o xs e=>frzs b o xs (I.base.frzs b o xs e),λb ps e=>?_⟩,?_,λx c e=>?_,?_,λx c e=>?_,λp hp=>?_,hok,I.len⟩
 ·exact keep b o (neL b o e) hb (neC b o e hx) (I.base.keep b o e n hb hx) (I.base.free b o e n hx)
 ·obtain⟨sl,e1⟩:=I.base.slot b o e n hb hx
  obtain⟨sl',e2⟩:=slot b _ (neL b o e) hb (neC b o e hx) e1 (I.base.free b o e n hx)
  exact⟨sl',e2⟩
 ·obtain⟨o',e1⟩:=I.base.there b o e hx
  exact free b o' (neC b o e hx) e1 (I.base.free b o e n hx)
 ·obtain⟨o',e1⟩:=I.base.there b o e hx
  exact there b o' (neC b o e hx) e1
 ·obtain⟨m1,e1⟩:=I.base.tbls b ps e
  obtain⟨m2,e2⟩:=tbls b _ e1
  exact⟨m1++m2,by rw[e2,Array.append_assoc]⟩
 ·obtain⟨m,hn,hl⟩:=I.loc
  refine⟨m,ns m hn,λi x v e1 e2 e3=>?_⟩
  obtain⟨u,r,l⟩:=hl i x v e1 e2 e3
  refine⟨u,r,?_⟩
  rcases l with l|⟨k,c,e,z⟩
  ·exact .inl l
  ·exact .inr ⟨k,c,e,cellK x c e _ z⟩
 ·obtain⟨v,z⟩:=I.cell x c e
  exact⟨v,cellK x c e v z⟩
 ·obtain⟨m,⟨o,_,_,ho,_⟩,_⟩:=I.loc
  exact free _ o (λz=>(hch _ z).2.1 rfl) ho I.free
 ·obtain⟨v,o,ho,hd⟩:=I.cell x c e
  exact free c o (λz=>(hch c z).2.2.1 x c e rfl) ho (I.freeC x c e)
 ·obtain⟨e,n,ne,nf,d⟩:=I.pin p hp
  have nch:p.1∉ch:=λz=>(hch p.1 z).2.2.2 p hp rfl
  exact⟨keep p.1 p.2 ne nf nch e n,free p.1 p.2 nch e n,ne,nf,d⟩
theorem Inv.un{t':Nat}(I:Inv X pins σ H s)(u:Un X.fs [] H H' s.heap h')(hok:HOk X.prog X.w H' h'):Inv X pins σ H' {s with heap:=h',toks:=t'}:=by
 obtain⟨m,⟨o,es,ep,ho,r⟩,_⟩:=id I.loc
 obtain⟨sl,hL⟩:=u.any ho I.free ()
 exact I.step (g':=s.gens) (d':=s.drawn) (ch:=[]) (λ_ z=>nomatch z) (λb o _ hb _ e n=>u.keep b o e n hb ()) (λb o _ hb _ e n=>u.slot b o e n hb ()) (λb o _ e n=>u.free b o e n ()) (λb o _ e=>u.there b o e ()) u.tups u.frzs u.tbls (λm' hm=>by
  obtain⟨o',es',ep',ho',r'⟩:=hm
  rw[ho]at ho';cases ho'
  exact⟨_,es',ep',hL,r'⟩) hok I.bare
theorem Inv.call{g':Array DE}{t':Nat}{d':GC}{ch:List Addr}(I:Inv X pins σ H s)(u:Un (frs X.stack) ch H H' s.heap h')(hok:HOk X.prog X.w H' h')(hg:E7 g')
  (hch:∀b∈ch,(b∈X.ex\/X.s₀.heap.objs.size<=b)/\b≠X.env.locals/\(∀x c,X.env.cells.lookup x=some c->c≠b)/\∀p∈X.pn++pins,p.1≠b):
  Inv X pins σ H' {s with heap:=h',gens:=g',drawn:=d',toks:=t'}:=by
 obtain⟨m,⟨o,es,ep,ho,r⟩,_⟩:=id I.loc
 obtain⟨sl,hL⟩:=u.any ho I.free λz=>(hch _ z).2.1 rfl
 exact I.step (ch:=ch) hch (λb o hL hb hc e n=>u.keep b o e n (λz=>(μ.mp (I.stkSub b z)).elim hL hb) hc) (λb o _ _ hc e n=>u.any e n hc) (λb o hc e n=>u.free b o e n hc) (λb o hc e=>u.there b o e hc) u.tups u.frzs u.tbls (λm' hm=>by
  obtain⟨o',es',ep',ho',r'⟩:=hm
  rw[ho]at ho';cases ho'
  exact⟨_,es',ep',hL,r'⟩) hok hg
theorem Inv.turned{t':Nat}{it:Addr}(I:Inv X pins σ H s)(k:∀b o,b≠it->s.heap.get? b=some o->h'.get? b=some o)(hn:H it=none)(hL:it≠X.env.locals)
  (h1:it∈X.ex\/X.s₀.heap.objs.size<=it) (h2:∀x c,X.env.cells.lookup x=some c->c≠it) (h3:∀p∈X.pn++pins,p.1≠it):Inv X pins σ H {s with heap:=h',toks:=t'}:=by
 have nit:∀b u,H b=some u->b≠it:=λb u e z=>by rw[z,hn]at e;cases e
 refine I.step (g':=s.gens) (d':=s.drawn) (ch:=[it]) (λb hb=>?_) (λb o _ _ hc e _=>k b o (λz=>hc (by simp[z])) e) (λb o _ _ hc e _=>⟨o.slots,k b o (λz=>hc (by simp[z])) e⟩) (λ_ _ _ _ n=>n)
  (λb o hc e=>⟨o,k b o (λz=>hc (by simp[z])) e⟩) (λ_ _ e=>e) (λ_ _ _ e=>e) (λb ps e=>⟨#[],by rw[e];simp⟩) (λm hm=>?_) (λb u e=>?_) I.bare
 ·have e:b=it:=by simpa using hb
  subst e
  exact⟨h1,hL,h2,h3⟩
 ·obtain⟨o,es,ep,ho,r⟩:=hm
  exact⟨o,es,ep,k _ o (Ϗ hL) ho,r⟩
 ·refine(I.hok b u e).stay (λc v hc q=>k c v ?_ q) (λ_ q=>q) λ_ _ q=>q
  rcases hc with z|z
  ·rw[z];exact nit b u e
  ·exact nit c _ z
theorem Inv.tok(I:Inv X pins σ H s)(t:Nat):Inv X pins σ H {s with toks:=t}:=I.un (h':=s.heap) (t':=t) Un.refl I.hok
theorem Inv.kept{t':Nat}(I:Inv X pins σ H s)(k:∀b u,s.heap.get? b=some u->h'.get? b=some u):Inv X pins σ H {s with heap:=h',toks:=t'}:=I.un (Un.kept k) (I.hok.kept k)
theorem Inv.laid{a:Addr}{o:HO}{t':Nat}(I:Inv X pins σ H s)(k:∀b u,s.heap.get? b=some u->h'.get? b=some u)(hp:s.heap.objs.size<=a)(new:aM X.prog X.w (upd H a o) h' a o):
  Inv X pins σ (upd H a o) {s with heap:=h',toks:=t'}:=I.un (Un.laid k hp (I.hok.fresh hp)) (I.hok.laid k hp new)
theorem Inv.write{x e:Addr}{o:HO}{t':Nat}(I:Inv X pins σ H s)(mu:Mut (H x))(he:e=x\/H e=some (.own x))(k:∀b u,b≠e->s.heap.get? b=some u->h'.get? b=some u)(heo:∃u,h'.get? e=some u)
  (new:aM X.prog X.w (upd H x o) h' x o):Inv X pins σ (upd H x o) {s with heap:=h',toks:=t'}:=I.un (Un.write mu he k heo) (I.hok.write mu he k heo new)
theorem Inv.weak{σ':List (Option V)}(I:Inv X pins σ H s)(hl:σ'.length=σ.length)(w:∀(i:Nat) v,σ'[i]?=some (some v)->σ[i]?=some (some v)):Inv X pins σ' H s:=
 ⟨I.ok,I.os,I.bare,I.base,let ⟨m,hn,hl'⟩:=I.loc;⟨m,hn,λi x v e1 e2 e3=>hl' i x v e1 (w i v e2) e3⟩,I.cell,I.free,I.freeC,I.pin,I.hok,hl.trans I.len⟩
theorem Inv.pins_of{pins':List (Addr×Obj)}(I:Inv X pins σ H s)(h:∀p∈pins',s.heap.get? p.1=some p.2/\H p.1=none/\p.1≠X.env.locals/\p.1∉X.fs/\∀v,p.2.data≠.cell v):Inv X pins' σ H s:=
 ⟨I.ok,I.os,I.bare,I.base,I.loc,I.cell,I.free,I.freeC,λp hp=>(ϖ.mp hp).elim (λz=>I.pin p (i7 _ z)) (h p),I.hok,I.len⟩
theorem jf{N:List Str}(hN:N.Nodup){i j:Nat}{x:Str}(a:N[i]?=some x)(b:N[j]?=some x):i=j:=by
 obtain⟨h1,e1⟩:=ο.mp a
 obtain⟨h2,e2⟩:=ο.mp b
 exact(C5 hN).mp (e1.trans e2.symm)
theorem kt{M:Gn}{A:Ω}{E:δ->η->Prop}{i:Nat}{x:Str}{v:V}{u:δ}{Q:Unit->η->Prop}(I:Inv X pins σ H s)(hN:X.N.Nodup)(hi:X.N[i]?=some x)(hx:Loc X.env.scope x)(r:aw v u)
  (h:∀s',Inv X pins (σ.set i (some v)) H s'->(∃a,C8 a s.heap s'.heap/\(a=X.env.locals\/X.env.cells.lookup x=some a))->Q Unit.unit s') (hf:X.fn x=true\/X.env.scope.names.lookup x=some .local:=by first|exact .inl rfl|exact .inr rfl|assumption):wpAny M A (storeName X.env x u) Q E s:=by
 obtain⟨m,hn,hl⟩:=id I.loc
 have hcls:(X.env.scope.kind==.class||(X.env.scope.kind==.module&&X.env.locals != X.env.globals))=false:=by rw[I.ok.kind];rfl
 have hiσ:i<σ.length:=by rw[I.len];exact(ο.mp hi).1
 have cne:=I.cne
 have tracked:∀{a:Addr}{h':Heap},(∃o,s.heap.get? a=some o/\H a=none)->C8 a s.heap h'->HOk X.prog X.w H h':=λ{a h'} ha hs b ob e=>by
  obtain⟨_,_,hfree⟩:=ha
  refine(I.hok b ob e).stay (λc w' hc q=>(hs.2 c ?_).trans q) (λ_ q=>q) λ_ _ q=>q
  rintro rfl
  rcases hc with rfl|hc
  ·rw[hfree]at e;cases e
  ·rw[hfree]at hc;cases hc
 rcases hx with hk|hk
 ·refine wpAny_storeName_local hk hn (λh' hn' hs=>?_) hcls
  obtain⟨oL,_,_,hoL,_⟩:=id hn
  refine h _ ⟨I.ok,I.os,I.bare,⟨λb o e n hb hx=>?_,λb o e n hb hx=>?_,I.base.free,λb o e hx=>?_,I.base.tups,I.base.frzs,I.base.tbls⟩,⟨_,hn',λj y v' e1 e2 e3=>?_⟩,λy c e=>?_,I.free,I.freeC,λp hp=>?_,tracked ⟨oL,hoL,I.free⟩ hs,by simpa using I.len⟩ ⟨_,hs,.inl rfl⟩
  ·exact(hs.2 b (Ρ (ϕ (ς e) I.ok.above))).trans (I.base.keep b o e n hb hx)
  ·obtain⟨sl,e1⟩:=I.base.slot b o e n hb hx
   exact⟨sl,(hs.2 b (Ρ (ϕ (ς e) I.ok.above))).trans e1⟩
  ·obtain⟨o',e1⟩:=I.base.there b o e hx
   exact⟨o',(hs.2 b (Ρ (ϕ (ς e) I.ok.above))).trans e1⟩
  ·by_cases hj:j=i
   ·subst hj
    rw[hi]at e1;cases e1
    rw[Eu hiσ]at e2
    cases e2
    exact⟨u,r,.inl ⟨hk,()⟩⟩
   ·rw[DF (Ϗ hj)]at e2
    obtain⟨u',r',q⟩:=hl j y v' e1 e2 e3
    refine⟨u',r',?_⟩
    rcases q with ⟨k,e⟩|⟨k,c,e,z⟩
    ·refine .inl ⟨k,?_⟩
     have:y≠x:=λe=>hj (jf hN e1 (e▸hi))
     simp[this,e]
    ·exact .inr ⟨k,c,e,z.sameBut hs (cne y c e)⟩
  ·obtain⟨w',z⟩:=I.cell y c e
   exact⟨w',z.sameBut hs (cne y c e)⟩
  ·obtain⟨e,n,ne,nf,d⟩:=I.pin p hp
   exact⟨(hs.2 p.1 ne).trans e,n,ne,nf,d⟩
 ·have hfn:X.fn x=true:=by
   rcases hf with z|z
   ·exact z
   ·rw[z]at hk;cases hk
  obtain⟨c,hc⟩:=I.ok.has x (.inl hk)
  obtain⟨w',z⟩:=I.cell x c hc
  refine wpAny_storeName_cell I.ok.kind hk hc z (λh' hc' hs=>?_)
  obtain⟨oc,hoc,hocd⟩:=id z
  refine h {s with heap:=h'} ⟨I.ok,I.os,I.bare,⟨λb o e n hb hx=>?_,λb o e n hb hx=>?_,I.base.free,λb o e hx=>?_,I.base.tups,I.base.frzs,I.base.tbls⟩,⟨m,hn.sameBut hs (Ϗ (cne x c hc)),λj y v' e1 e2 e3=>?_⟩,λy c' e=>?_,I.free,I.freeC,λp hp=>?_,tracked ⟨oc,hoc,I.freeC x c hc⟩ hs,by simpa using I.len⟩ ⟨c,hs,.inr hc⟩
  ·exact(hs.2 b (Ρ (ϕ (ς e) (I.ok.cab x c hfn hc)))).trans (I.base.keep b o e n hb hx)
  ·obtain⟨sl,e1⟩:=I.base.slot b o e n hb hx
   exact⟨sl,(hs.2 b (Ρ (ϕ (ς e) (I.ok.cab x c hfn hc)))).trans e1⟩
  ·obtain⟨o',e1⟩:=I.base.there b o e hx
   exact⟨o',(hs.2 b (Ρ (ϕ (ς e) (I.ok.cab x c hfn hc)))).trans e1⟩
  ·by_cases hj:j=i
   ·subst hj
    rw[hi]at e1;cases e1
    rw[Eu hiσ]at e2
    cases e2
    exact⟨u,r,.inr ⟨.inl hk,c,hc,hc'⟩⟩
   ·rw[DF (Ϗ hj)]at e2
    obtain⟨u',r',q⟩:=hl j y v' e1 e2 e3
    refine⟨u',r',?_⟩
    rcases q with q|⟨k,c',e,z'⟩
    ·exact .inl q
    ·refine .inr ⟨k,c',e,z'.sameBut hs ?_⟩
     rintro rfl
     exact hj (jf hN e1 (I.ok.inj _ _ _ e hc▸hi))
  ·by_cases hcc:c'=c
   ·subst hcc;exact⟨_,hc'⟩
   ·obtain⟨w2,z2⟩:=I.cell y c' e
    exact⟨w2,z2.sameBut hs hcc⟩
  ·obtain⟨e,n,ne,nf,d⟩:=I.pin p hp
   refine⟨(hs.2 p.1 ?_).trans e,n,ne,nf,d⟩
   intro q
   rw[q,hoc]at e
   have q':oc=p.2:=ϑ e
   exact d w' (by rw[<-q'];exact hocd)
theorem fZ{M:Gn}{A:Ω}{E:δ->η->Prop}{i:Nat}{x:Str}{v:V}{u:δ}{Q:Unit->η->Prop}(I:Inv X pins σ H s)(hN:X.N.Nodup)(hi:X.N[i]?=some x)(hx:Loc X.env.scope x)(r:aw v u)
  (h:∀s',Inv X pins (σ.set i (some v)) H s'->Q Unit.unit s') (hf:X.fn x=true\/X.env.scope.names.lookup x=some .local:=by first|exact .inl rfl|exact .inr rfl|assumption):wpAny M A (storeName X.env x u) Q E s:=
 kt I hN hi hx r (λs' I' _=>h s' I') hf
theorem Inv.call'{s':η}{ch:List Addr}(I:Inv X pins σ H s)(ho:s'.os=s.os)(u:Un (frs X.stack) ch H H' s.heap s'.heap)(hok:HOk X.prog X.w H' s'.heap)(hg:E7 s'.gens)
  (hch:∀b∈ch,(b∈X.ex\/X.s₀.heap.objs.size<=b)/\b≠X.env.locals/\(∀x c,X.env.cells.lookup x=some c->c≠b)/\∀p∈X.pn++pins,p.1≠b):Inv X pins σ H' s':=by
 obtain⟨h',g',d',t',o'⟩:=s'
 have e:o'=s.os:=ho
 subst e
 exact I.call (g':=g') (t':=t') (d':=d') u hok hg hch
end
abbrev XK:=δ->Option Addr->Hp->Prop
abbrev St:=List (Option V)
abbrev VK:=V->Hp->Prop
abbrev TE:=St->Hp->VK->Prop
abbrev TT:=St->Hp->(Bool->Hp->Prop)->Prop
abbrev TA:=St->Hp->(List V->Hp->Prop)->Prop
structure bI where
 nx:St->Hp->Prop
 rt:VK
 bk:St->Hp->Prop:=λ_ _=>False
 ct:St->Hp->Prop:=λ_ _=>False
abbrev TS:=bI->St->Hp->Prop
def EP(X:Cx)(pins:List (Addr×Obj))(σ:St)(Q:VK)(u:δ)(s':η):Prop:=∃v H',Inv X pins σ H' s'/\aw v u/\Q v H'
def TP(X:Cx)(pins:List (Addr×Obj))(σ:St)(Q:Bool->Hp->Prop)(b:Bool)(s':η):Prop:=∃H',Inv X pins σ H' s'/\Q b H'
def AP(X:Cx)(pins:List (Addr×Obj))(σ:St)(Q:List V->Hp->Prop)(us:List δ)(s':η):Prop:=∃vs H',Inv X pins σ H' s'/\ar vs us/\Q vs H'
def SP(X:Cx)(pins:List (Addr×Obj))(D:bI)(f:Flow)(s':η):Prop:=
 match f with
 |.next=>∃σ' H',Inv X pins σ' H' s'/\D.nx σ' H'
 |.brk=>∃σ' H',Inv X pins σ' H' s'/\D.bk σ' H'
 |.cont=>∃σ' H',Inv X pins σ' H' s'/\D.ct σ' H'
 |.ret u=>∃v σ' H',Inv X pins σ' H' s'/\aw v u/\D.rt v H'
def PE(X:Cx)(e:Expr)(t:TE):Prop:=
 ∀(pins:List (Addr×Obj))(s:η)(σ:St)(H:Hp)(Q:VK),Inv X pins σ H s->t σ H Q->wpAny (model X.prog X.w) X.A (eval e X.env) (EP X pins σ Q) X.xe s
def PT(X:Cx)(e:Expr)(t:TT):Prop:=
 ∀(pins:List (Addr×Obj))(s:η)(σ:St)(H:Hp)(Q:Bool->Hp->Prop),Inv X pins σ H s->t σ H Q->wpAny (model X.prog X.w) X.A (isTrue e X.env (eval e X.env)) (TP X pins σ Q) X.xe s
def PW(X:Cx)(e:Expr)(t:TT):Prop:=
 ∀(whole:Sem δ)(pins:List (Addr×Obj))(s:η)(σ:St)(H:Hp)(Q:Bool->Hp->Prop),Inv X pins σ H s->t σ H Q->wpAny (model X.prog X.w) X.A (isTrue e X.env whole) (TP X pins σ Q) X.xe s
theorem PW.pt{X:Cx}{e:Expr}{t:TT}(h:PW X e t):PT X e t:=h _
def PA(X:Cx)(es:List Expr)(t:TA):Prop:=
 ∀(pos:Pos)(pins:List (Addr×Obj))(s:η)(σ:St)(H:Hp)(Q:List V->Hp->Prop),Inv X pins σ H s->t σ H Q->wpAny (model X.prog X.w) X.A (spliced (backTo pos (starEach es X.env))) (AP X pins σ Q) X.xe s
def PS(X:Cx)(st:Stmt)(t:TS):Prop:=
 ∀(pins:List (Addr×Obj))(s:η)(σ:St)(H:Hp)(D:bI),Inv X pins σ H s->t D σ H->wpAny (model X.prog X.w) X.A (exec st X.env) (SP X pins D) X.xe s
def PSs(X:Cx)(st:List Stmt)(t:TS):Prop:=
 ∀(pins:List (Addr×Obj))(s:η)(σ:St)(H:Hp)(D:bI),Inv X pins σ H s->t D σ H->wpAny (model X.prog X.w) X.A (execs st X.env) (SP X pins D) X.xe s
theorem thn{α:Type}{t:Sem α}{Q Q':α->η->Prop}{M:Gn}{A:Ω}{E:δ->η->Prop}{s:η}(h:wpAny M A t Q E s)(hQ:∀a s,Q a s->Q' a s):wpAny M A t Q' E s:=i8 h hQ λ_ _ x=>x
section
variable{X:Cx}
def ig(i:Nat):TE:=λσ H Q=>∃v,σ[i]?=some (some v)/\Q v H
def tC(v:V):TE:=λ_ H Q=>Q v H
theorem wJ{i:Nat}{x:Str}{pos:Pos}(hN:X.N[i]?=some x)(hv:Vis X.env.scope x)(hd:(x==("__debug__" : Str))=false:=by decide)(hcd:(x==("__classdict__" : Str))=false:=by decide):PE X (.Name x pos) (ig i):=by
 intro pins s σ H Q I h
 obtain⟨v,e,h⟩:=h
 obtain⟨m,hn,hl⟩:=I.loc
 obtain⟨u,r,l⟩:=hl i x v hN e hv
 have fin:EP X pins σ Q u s:=⟨v,H,I,r,h⟩
 rcases l with ⟨hk,hm⟩|⟨hk,c,hc,hcell⟩
 ·exact wpAny_Name (wpAny_loadName_local I.ok.kind hk hn hm fin) hd
 ·rcases hk with hk|hk
  ·exact wpAny_Name (wpAny_loadName_cell I.ok.kind hk hc hcell fin) hd
  ·exact wpAny_Name (wpAny_loadName_free I.ok.kind hk hc hcell fin hcd) hd
theorem pe_int{i j pos}:PE X (.Constant (.int i) j pos) (tC (.int i)):=λ_ _ _ H _ I h=>wpAny_Constant_int ⟨.int i,H,I.tok _,⟨_,rfl⟩,h⟩
theorem pe_bl{b j pos}:PE X (.Constant (.bool b) j pos) (tC (.bl b)):=λ_ _ _ H _ I h=>Constant_bool ⟨.bl b,H,I,rfl,h⟩
theorem pe_non{j pos}:PE X (.Constant .none j pos) (tC .non):=λ_ _ _ H _ I h=>Constant_none ⟨.non,H,I,rfl,h⟩
theorem pe_str{x j pos}:PE X (.Constant (.str x) j pos) (tC (.str x)):=λ_ _ _ H _ I h=>Calls.Constant_str ⟨.str x,H,I.tok _,⟨_,rfl⟩,h⟩
def Gl(X:Cx)(x:Str):Prop:=X.env.kindOf x=some .globalImplicit
theorem fU{E:δ->η->Prop}{pins:List (Addr×Obj)}{s:η}{σ:St}{H:Hp}{x:Str}{u:δ}{pos:Pos}{Q:δ->η->Prop}(I:Inv X pins σ H s)(hg:Gl X x)(hm:X.mg x=some u)(h:Q u s)
  (hd:(x==("__debug__" : Str))=false:=by decide):wpAny (model X.prog X.w) X.A (eval (.Name x pos) X.env) Q E s:=
 Fe I.ok.kind hg (Calls.loadGlobal_global (by rw[I.ok.glob];exact I.mod.glob.keeps I.bk) hm h) hd
theorem cF{E:δ->η->Prop}{pins:List (Addr×Obj)}{s:η}{σ:St}{H:Hp}{x:Str}{u:δ}{pos:Pos}{Q:δ->η->Prop}(I:Inv X pins σ H s)(hg:Gl X x)(hm:X.mg x=none)(hv:bootBuiltins x=some u)(h:Q u s)
  (hn:x≠"__name__":=by decide) (hd:(x==("__debug__" : Str))=false:=by decide):wpAny (model X.prog X.w) X.A (eval (.Name x pos) X.env) Q E s:=by
 obtain⟨mb,h1,h2⟩:=I.mod.blt
 exact Fe I.ok.kind hg (Calls.loadGlobal_builtin (by rw[I.ok.glob];exact I.mod.glob.keeps I.bk) hm (by rw[I.ok.blt];exact h1.keeps I.bk) ((h2 x hn).trans hv) h) hd
theorem pe_glob{x:Str}{v:V}{u:δ}{pos:Pos}(hg:Gl X x)(hm:X.mg x=some u)(r:aw v u)(hd:(x==("__debug__" : Str))=false:=by decide):PE X (.Name x pos) (tC v):=
 λ_ _ _ H _ I h=>fU I hg hm ⟨v,H,I,r,h⟩ hd
theorem pe_bltn{x:Str}{v:V}{u:δ}{pos:Pos}(hg:Gl X x)(hm:X.mg x=none)(hv:bootBuiltins x=some u)(r:aw v u)(hn:x≠"__name__":=by decide)(hd:(x==("__debug__" : Str))=false:=by decide):PE X (.Name x pos) (tC v):=
 λ_ _ _ H _ I h=>cF I hg hm hv ⟨v,H,I,r,h⟩ hn hd
variable{a b:Expr}{ta tb:TE}{pos:Pos}
def tB(t:TE):TT:=λσ H Q=>t σ H λx H1=>∃c,x=.bl c/\Q c H1
theorem pt_val{e:Expr}{t:TE}(h:PE X e t)(he:∀whole,isTrue e X.env whole=(do let v <-whole;standAt e.pos;holding [v] (truthy v)):=by intro _;rfl):PT X e (tB t):=by
 intro pins s σ H Q I hw
 refine isTrue_plain (thn (h pins s σ H _ I hw) λv s1 ⟨x,H1,I1,r1,q1⟩=>?_) (he _)
 obtain⟨d,rfl,q⟩:=q1
 cases r1
 exact Ϸ ⟨H1,I1,q⟩
variable{tA tB':TT}{rest:List Expr}
def tj(t u:TT):TT:=λσ H Q=>t σ H λc H1=>if c=true then u σ H1 Q else Q false H1
def tOr(t u:TT):TT:=λσ H Q=>t σ H λc H1=>if c=true then Q true H1 else u σ H1 Q
def Cy(t:TT):TT:=λσ H Q=>t σ H λc H1=>Q (!c) H1
theorem pw_and1(ha:PT X a tA):PW X (.BoolOp .And [a] pos) tA:=by
 intro wh pins s σ H Q I h
 refine isTrue_and (thn (ha pins s σ H Q I h) λc s1 e=>?_)
 cases c with
 |true=>exact isTrue_and_nil e
 |false=>exact e
theorem pw_or1(ha:PT X a tA):PW X (.BoolOp .Or [a] pos) tA:=by
 intro wh pins s σ H Q I h
 refine isTrue_or (thn (ha pins s σ H Q I h) λc s1 e=>?_)
 cases c with
 |false=>exact isTrue_or_nil e
 |true=>exact e
theorem pw_and(ha:PT X a tA)(hb:PW X (.BoolOp .And (b::rest) pos) tB'):PW X (.BoolOp .And (a::b::rest) pos) (tj tA tB'):=by
 intro wh pins s σ H Q I h
 refine isTrue_and (thn (ha pins s σ H _ I h) λc s1 ⟨H1,I1,q1⟩=>?_)
 cases c with
 |true=>exact hb wh pins s1 σ H1 Q I1 q1
 |false=>exact⟨H1,I1,q1⟩
theorem pw_or(ha:PT X a tA)(hb:PW X (.BoolOp .Or (b::rest) pos) tB'):PW X (.BoolOp .Or (a::b::rest) pos) (tOr tA tB'):=by
 intro wh pins s σ H Q I h
 refine isTrue_or (thn (ha pins s σ H _ I h) λc s1 ⟨H1,I1,q1⟩=>?_)
 cases c with
 |true=>exact⟨H1,I1,q1⟩
 |false=>exact hb wh pins s1 σ H1 Q I1 q1
theorem pt_not(ha:PT X a tA):PT X (.UnaryOp .Not a pos) (Cy tA):=by
 intro pins s σ H Q I h
 exact isTrue_not (ha pins s σ H (λc H1=>Q (!c) H1) I h)
def Cd(ta tb:TE):TE:=λσ H Q=>ta σ H λx H1=>∃c,x=.bl c/\if c=true then tb σ H1 Q else Q (.bl false) H1
def BZ(ta tb:TE):TE:=λσ H Q=>ta σ H λx H1=>∃c,x=.bl c/\if c=true then Q (.bl true) H1 else tb σ H1 Q
def BY(ta:TE):TE:=λσ H Q=>ta σ H λx H1=>∃c,x=.bl c/\Q (.bl (!c)) H1
theorem pe_one{op}{t:TE}(h:PE X a t):PE X (.BoolOp op [a] pos) t:=λpins s σ H Q I hw=>BoolOp_one (h pins s σ H Q I hw)
theorem pe_and(ha:PE X a ta)(hb:PE X (.BoolOp .And (b::rest) pos) tb):PE X (.BoolOp .And (a::b::rest) pos) (Cd ta tb):=by
 intro pins s σ H Q I h
 refine BoolOp_and (thn (ha pins s σ H _ I h) λv s1 ⟨x,H1,I1,r1,q1⟩=>?_)
 obtain⟨c,rfl,q1⟩:=q1
 cases r1
 refine Ϸ ?_
 cases c with
 |true=>exact hb pins s1 σ H1 Q I1 q1
 |false=>exact⟨.bl false,H1,I1,rfl,q1⟩
theorem pe_or(ha:PE X a ta)(hb:PE X (.BoolOp .Or (b::rest) pos) tb):PE X (.BoolOp .Or (a::b::rest) pos) (BZ ta tb):=by
 intro pins s σ H Q I h
 refine BoolOp_or (thn (ha pins s σ H _ I h) λv s1 ⟨x,H1,I1,r1,q1⟩=>?_)
 obtain⟨c,rfl,q1⟩:=q1
 cases r1
 refine Ϸ ?_
 cases c with
 |false=>exact hb pins s1 σ H1 Q I1 q1
 |true=>exact⟨.bl true,H1,I1,rfl,q1⟩
theorem pe_not(ha:PE X a ta):PE X (.UnaryOp .Not a pos) (BY ta):=by
 intro pins s σ H Q I h
 refine UnaryOp_ (thn (ha pins s σ H _ I h) λv s1 ⟨x,H1,I1,r1,q1⟩=>?_)
 obtain⟨c,rfl,q1⟩:=q1
 cases r1
 exact not_of (Ϸ ⟨.bl (!c),H1,I1,rfl,q1⟩)
def tIf(t:TT)(ta tb:TE):TE:=λσ H Q=>t σ H λc H1=>if c=true then ta σ H1 Q else tb σ H1 Q
theorem pe_ifExp{c:Expr}(hc:PT X c tA)(ha:PE X a ta)(hb:PE X b tb):PE X (.IfExp c a b pos) (tIf tA ta tb):=by
 intro pins s σ H Q I h
 refine wpAny_IfExp (thn (hc pins s σ H _ I h) λd s1 ⟨H1,I1,q1⟩=>?_)
 cases d with
 |true=>exact ha pins s1 σ H1 Q I1 q1
 |false=>exact hb pins s1 σ H1 Q I1 q1
end
def SqL(K:ζ)(H:Hp)(a:Addr)(xs:List V):Prop:=
 Rd H a (.lst xs) \/
  ∃(o:Obj) (its:Array δ) (n:Nat),K.lookup a=some o/\o.cls=.type "list"/\o.dict=none/\o.data=.seq its n/\its.size<=sizeLine/\ar xs its.toList
def SqT(K:ζ)(H:Hp)(a:Addr)(xs:List V):Prop:=
 Rd H a (.tup xs) \/
  ∃(o:Obj) (its:Array δ) (n:Nat),K.lookup a=some o/\o.cls=.type "tuple"/\o.data=.seq its n/\its.size<=sizeLine/\ar xs its.toList
def CD:δ->Option V
 |.none=>some .non
 |.bool b=>some (.bl b)
 |.int i _=>some (.int i)
 |.str x _=>some (.str x)
 |.bytes b _=>some (.byt b)
 |.float b _=>some (.flt b)
 |.ref a=>some (.ref a)
 |.type n=>some (.ty n)
 |_=>none
theorem aw.abs{x:V}{u:δ}(r:aw x u):CD u=some x:=by
 cases x with
 |non=>cases r;rfl
 |bl _=>cases r;rfl
 |int _=>obtain⟨t,rfl⟩:=r;rfl
 |str _=>obtain⟨t,rfl⟩:=r;rfl
 |byt _=>obtain⟨t,rfl⟩:=r;rfl
 |flt _=>obtain⟨t,rfl⟩:=r;rfl
 |ref _=>cases r;rfl
 |ty _=>cases r;rfl
theorem aw.inj{x y:V}{u:δ}(r:aw x u)(q:aw y u):x=y:=ϑ (r.abs.symm.trans q.abs)
theorem ar.inj:∀{xs ys:List V}{us:List δ},ar xs us->ar ys us->xs=ys
 |_,_,_,.nil,.nil=>rfl
 |_,_,_,.cons r t,.cons r' t'=>by rw[r.inj r',ar.inj t t']
section
variable{X:Cx}{pins:List (Addr×Obj)}{σ:St}{H:Hp}{s:η}{a:Addr}{xs ys:List V}
theorem SqL.of{K:ζ}(h:H a=some (.lst xs)):SqL K H a xs:=.inl (.inl h)
theorem SqT.of{K:ζ}(h:H a=some (.tup xs)):SqT K H a xs:=.inl (.inl h)
theorem Inv.list(I:Inv X pins σ H s)(h:SqL X.K H a xs):∃its:List δ,ar xs its/\PlainL s.heap a its.toArray/\xs.length<=sizeLine:=by
 rcases h with h|⟨o,its,n,hk,hc,hd,hs,hz,r⟩
 ·obtain⟨z,its,n,r,e⟩:=h.ok I.hok
  exact⟨its,r,⟨_,n,e,rfl,rfl,rfl⟩,z⟩
 ·refine⟨its.toList,r,⟨o,n,I.kIn a o hk,hc,hd,by simpa using hs⟩,?_⟩
  have e:=r.length
  simp only[Ϩ]at e
  omega
theorem Inv.tuple(I:Inv X pins σ H s)(h:SqT X.K H a xs):∃its:List δ,ar xs its/\GH s.heap a its.toArray/\xs.length<=sizeLine:=by
 rcases h with h|⟨o,its,n,hk,hc,hs,hz,r⟩
 ·obtain⟨z,its,r,p⟩:=h.ok I.hok
  exact⟨its,r,p.1,z⟩
 ·refine⟨its.toList,r,⟨o,I.kIn a o hk,hc,n,by simpa using hs⟩,?_⟩
  have e:=r.length
  simp only[Ϩ]at e
  omega
theorem Inv.list_inj(I:Inv X pins σ H s)(h:SqL X.K H a xs)(h':SqL X.K H a ys):xs=ys:=by
 obtain⟨its,r,⟨o,n,e,_,_,d⟩,_⟩:=I.list h
 obtain⟨its',r',⟨o',n',e',_,_,d'⟩,_⟩:=I.list h'
 rw[e]at e';cases e'
 rw[d]at d'
 injection d' with d1 _
 have:its=its':=by simpa using congrArg Array.toList d1
 subst this
 exact r.inj r'
theorem Inv.tuple_inj(I:Inv X pins σ H s)(h:SqT X.K H a xs)(h':SqT X.K H a ys):xs=ys:=by
 obtain⟨its,r,⟨o,e,_,n,d⟩,_⟩:=I.tuple h
 obtain⟨its',r',⟨o',e',_,n',d'⟩,_⟩:=I.tuple h'
 rw[e]at e';cases e'
 rw[d]at d'
 injection d' with d1 _
 have:its=its':=by simpa using congrArg Array.toList d1
 subst this
 exact r.inj r'
end
abbrev Cx.wish(X:Cx)(E:δ->η->Prop):Cx:={X with xe:=E}
abbrev Cx.nox(X:Cx):Cx:=X.wish λ_ _=>False
theorem Cx.Ok.wish{X:Cx}(ok:X.Ok)(E:δ->η->Prop):(X.wish E).Ok:=
 ⟨ok.mod,ok.kind,ok.glob,ok.blt,ok.above,ok.inj,ok.has,ok.cab,ok.hd,ok.frames,ok.stk,ok.exf,ok.bs,ok.bsz,ok.noex,ok.exfs,ok.funs,ok.frf⟩
theorem Cx.Ok.unwish{X:Cx}{E:δ->η->Prop}(ok:(X.wish E).Ok):X.Ok:=
 ⟨ok.mod,ok.kind,ok.glob,ok.blt,ok.above,ok.inj,ok.has,ok.cab,ok.hd,ok.frames,ok.stk,ok.exf,ok.bs,ok.bsz,ok.noex,ok.exfs,ok.funs,ok.frf⟩
section
variable{X:Cx}{pins:List (Addr×Obj)}{σ:St}{H:Hp}{s:η}{E:δ->η->Prop}
theorem Inv.wish(I:Inv X pins σ H s)(E:δ->η->Prop):Inv (X.wish E) pins σ H s:=⟨I.ok.wish E,I.os,I.bare,I.base,I.loc,I.cell,I.free,I.freeC,I.pin,I.hok,I.len⟩
theorem Inv.unwish(I:Inv (X.wish E) pins σ H s):Inv X pins σ H s:=⟨I.ok.unwish,I.os,I.bare,I.base,I.loc,I.cell,I.free,I.freeC,I.pin,I.hok,I.len⟩
theorem SP.unwish{D:bI}{f:Flow}{s':η}(h:SP (X.wish E) pins D f s'):SP X pins D f s':=by
 cases f with
 |next=>obtain⟨σ',H',I,q⟩:=h;exact⟨σ',H',I.unwish,q⟩
 |brk=>obtain⟨σ',H',I,q⟩:=h;exact⟨σ',H',I.unwish,q⟩
 |cont=>obtain⟨σ',H',I,q⟩:=h;exact⟨σ',H',I.unwish,q⟩
 |ret u=>obtain⟨v,σ',H',I,r,q⟩:=h;exact⟨v,σ',H',I.unwish,r,q⟩
theorem PSs.nox{st:List Stmt}{t:TS}(h:PSs X.nox st t):PSs X st t:=λpins s σ H D I hw=>
 i8 (h pins s σ H D (I.wish _) hw) (λ_ _ q=>q.unwish) λ_ _ z=>k4 z
end
section
variable{X:Cx}{st:Stmt}{rest:List Stmt}{t u:TS}{e:Expr}{te:TE}{pos:Pos}
def zg:TS:=λD σ H=>D.nx σ H
def tX(t u:TS):TS:=λD σ H=>t {D with nx:=u D} σ H
theorem pss_nil:PSs X [] zg:=λ_ _ σ H _ I h=>Dk ⟨σ,H,I,h⟩
theorem pss_cons(h1:PS X st t)(h2:PSs X rest u):PSs X (st::rest) (tX t u):=by
 intro pins s σ H D I h
 refine FO (thn (h1 pins s σ H {D with nx:=u D} I h) λf s1 q=>?_)
 cases f with
 |next=>
  obtain⟨σ',H',I',q⟩:=q
  exact h2 pins s1 σ' H' D I' q
 |ret v=>exact q
 |brk=>exact q
 |cont=>exact q
theorem pss_one(h1:PS X st t):PSs X [st] t:=by
 intro pins s σ H D I h
 refine FO (thn (h1 pins s σ H D I h) λf s1 q=>?_)
 cases f with
 |next=>exact Dk q
 |ret v=>exact q
 |brk=>exact q
 |cont=>exact q
theorem Inv.quiet{pins:List (Addr×Obj)}{σ:St}{H:Hp}{s:η}(I:Inv X pins σ H s):interactive X.env=false:=by simp[interactive,I.ok.kind]
def BX(te:TE):TS:=λD σ H=>te σ H λ_ H1=>D.nx σ H1
theorem ps_expr(he:PE X e te)(hs:swapsWith e none pos.line X.env=pure false:=by rfl):PS X (.Expr e pos) (BX te):=by
 intro pins s σ H D I h
 exact wpAny_Expr_any (thn (he pins s σ H _ I h) λv s1 ⟨x,H1,I1,r1,q1⟩=>⟨σ,H1,I1,q1⟩) I.quiet hs
def AS(te:TE):TS:=λD σ H=>te σ H D.rt
theorem ps_ret(he:PE X e te):PS X (.Return (some e) pos) (AS te):=by
 intro pins s σ H D I h
 exact wpAny_Return_some (thn (he pins s σ H _ I h) λv s1 ⟨x,H1,I1,r1,q1⟩=>⟨x,σ,H1,I1,r1,q1⟩)
def AJ(c:TT)(t u:TS):TS:=λD σ H=>c σ H λb H1=>if b=true then t D σ H1 else u D σ H1
theorem ps_if{c:Expr}{a b:List Stmt}{tc:TT}(hc:PT X c tc)(ha:PSs X a t)(hb:PSs X b u):PS X (.If c a b pos) (AJ tc t u):=by
 intro pins s σ H D I h
 refine wpAny_If (thn (hc pins s σ H _ I h) λd s1 ⟨H1,I1,q1⟩=>?_)
 cases d with
 |true=>exact ha pins s1 σ H1 D I1 q1
 |false=>exact hb pins s1 σ H1 D I1 q1
end
abbrev TG:=V->St->Hp->(St->Hp->Prop)->Prop
abbrev TGs:=List V->St->Hp->(St->Hp->Prop)->Prop
def PG(X:Cx)(target:Expr)(t:TG):Prop:=
 ∀(pins:List (Addr×Obj))(s:η)(σ:St)(H:Hp)(v:V)(u:δ)(Q:St->Hp->Prop),Inv X pins σ H s->aw v u->t v σ H Q ->
  wpAny (model X.prog X.w) X.A (assign target X.env u) (λ_ s'=>∃σ' H',Inv X pins σ' H' s'/\Q σ' H') X.xe s
def PGs(X:Cx)(ts:List Expr)(t:TGs):Prop:=
 ∀(pins:List (Addr×Obj))(s:η)(σ:St)(H:Hp)(vs:List V)(us:List δ)(Q:St->Hp->Prop),Inv X pins σ H s->ar vs us->t vs σ H Q ->
  wpAny (model X.prog X.w) X.A (assignInOrder ((assignEach ts X.env).map (·.2)) us) (λ_ s'=>∃σ' H',Inv X pins σ' H' s'/\Q σ' H') X.xe s
abbrev AV:=V->V->V->Hp->(Hp->Prop)->Prop
def Cp(X:Cx)(t:AV):Prop:=
 ∀(pins:List (Addr×Obj))(s:η)(σ:St)(H:Hp)(o i v:V)(ov iv u:δ)(Q:Hp->Prop),Inv X pins σ H s->aw o ov->aw i iv->aw v u->t o i v H Q ->
  wpAny (model X.prog X.w) X.A (setItem ov iv u) (λ_ s'=>∃H',Inv X pins σ H' s'/\Q H') X.xe s
abbrev TIp:=V->V->Hp->VK->Prop
def PIp(X:Cx)(op:Operator)(t:TIp):Prop:=
 ∀(pins:List (Addr×Obj))(s:η)(σ:St)(H:Hp)(x y:V)(v u:δ)(Q:VK),Inv X pins σ H s->aw x v->aw y u->t x y H Q ->
  wpAny (model X.prog X.w) X.A (inplaceOp op v u) (EP X pins σ Q) X.xe s
section
variable{X:Cx}{pos:Pos}
def cu(i:Nat):TG:=λv σ H Q=>Q (σ.set i (some v)) H
theorem pg_name{i:Nat}{x:Str}(hN:X.N.Nodup)(hi:X.N[i]?=some x)(hx:Loc X.env.scope x)(hf:X.fn x=true\/X.env.scope.names.lookup x=some .local:=by first|exact .inl rfl|exact .inr rfl|assumption):PG X (.Name x pos) (cu i):=by
 intro pins s σ H v u Q I r h
 exact wpAny_assign_Name (fZ I hN hi hx r (λs' I'=>⟨_,H,I',h⟩) hf)
def qx:TGs:=λvs σ H Q=>vs=[]/\Q σ H
def eN(t:TG)(u:TGs):TGs:=λvs σ H Q=>∃v r,vs=v::r/\t v σ H λσ' H'=>u r σ' H' Q
theorem pgs_nil:PGs X [] qx:=by
 intro pins s σ H vs us Q I r h
 obtain⟨e,h⟩:=h
 subst e
 cases r
 exact assignInOrder_nil ⟨σ,H,I,h⟩
theorem pgs_cons{e:Expr}{es:List Expr}{t:TG}{u:TGs}(h1:PG X e t)(h2:PGs X es u)
  (hs:(assignEach (e::es) X.env).map (·.2)=assign e X.env::(assignEach es X.env).map (·.2):=by rfl):PGs X (e::es) (eN t u):=by
 intro pins s σ H vs us Q I r h
 obtain⟨v,vr,e1,h⟩:=h
 subst e1
 cases r with
 |cons r rr=>
  rw[hs]
  refine assignInOrder_cons (thn (h1 pins s σ H _ _ _ I r h) λ_ s1 ⟨σ1,H1,I1,q1⟩=>?_)
  exact h2 pins s1 σ1 H1 _ _ Q I1 rr q1
def ww(K:ζ)(n:Nat)(t:TGs):TG:=λv σ H Q=>∃a xs,v=.ref a/\SqT K H a xs/\xs.length=n/\t xs σ H Q
theorem pg_tup{es:List Expr}{k:Nat}{t:TGs}{n:Nat}(hc:X.calm=true)(h:PGs X es t)
  (hn:(assignEach es X.env).length=n:=by rfl) (hst:(assignEach es X.env).findIdx? (·.1)=none:=by rfl):PG X (.Tuple es k pos) (ww X.K n t):=by
 intro pins s σ H v u Q I r hw
 obtain⟨a,xs,e1,hq,hl,hw⟩:=hw
 subst e1
 cases r
 obtain⟨its,rv,ht,hz⟩:=I.tuple hq
 refine assign_Tuple_tuple (I.ok.hd hc) ht (by simp[hn,<-hl,rv.length]) hst λh' hx=>?_
 have I1:Inv X pins σ H {s with heap:=h'}:=I.kept (t':=s.toks) λb o e=>hx b o (Ρ (ς e)) e
 exact h pins _ σ H xs _ Q I1 (by simpa using rv) hw
def CI(to ti:TE)(t:AV):TG:=λv σ H Q=>to σ H λo H1=>ti σ H1 λi H2=>t o i v H2 λH3=>Q σ H3
theorem pg_sub{o i:Expr}{to ti:TE}{t:AV}(ho:PE X o to)(hi:PE X i ti)(hs:Cp X t)
  (ha:∀v,assign (.Subscript o i pos) X.env v=(do
   let ov <-holding [v] (eval o X.env)
   let iv <-holding [v,ov] (eval i X.env)
   standAt pos
   holding [v,ov,iv] (setItem ov iv v)
   release [v,ov,iv] []):=by intro _;rfl):PG X (.Subscript o i pos) (CI to ti t):=by
 intro pins s σ H v u Q I r h
 rw[ha]
 refine γ (Ϧ (thn (ho pins s σ H _ I h) λov s1 ⟨x,H1,I1,r1,q1⟩=>?_))
 refine γ (Ϧ (thn (hi pins s1 σ H1 _ I1 q1) λiv s2 ⟨y,H2,I2,r2,q2⟩=>?_))
 refine γ (EL (γ (Ϧ (thn (hs pins s2 σ H2 x y v ov iv u _ I2 r1 r2 r q2) λ_ s3 ⟨H3,I3,q3⟩=>?_))))
 exact wpAny_release ⟨σ,H3,I3,q3⟩
def xG(te:TE)(g:TG):TS:=λD σ H=>te σ H λx H1=>g x σ H1 D.nx
theorem ps_asg{tg e:Expr}{te:TE}{g:TG}(he:PE X e te)(hg:PG X tg g)(hs:swapsWithSole [tg] e pos.line X.env=pure false:=by rfl)(hw:swappedStores [tg] e X.env=pure none:=by rfl)
  (h1:(assignEach [tg] X.env).map (·.2)=[assign tg X.env]:=by rfl):PS X (.Assign [tg] e pos) (xG te g):=by
 intro pins s σ H D I h
 refine wpAny_Assign_stores (thn (he pins s σ H _ I h) λv s1 ⟨x,H1,I1,r1,q1⟩=>?_) hs hw
 rw[h1]
 exact thn (hg pins s1 σ H1 x v _ I1 r1 q1) λ_ s2 q=>q
theorem ps_set{i:Nat}{x:Str}{e:Expr}{te:TE}{pos':Pos}(hN:X.N.Nodup)(hi:X.N[i]?=some x)(hx:Loc X.env.scope x)(he:PE X e te)(hs:swapsWith e (some (.Name x pos')) pos.line X.env=pure false:=by rfl)(hf:X.fn x=true\/X.env.scope.names.lookup x=some .local:=by first|exact .inl rfl|exact .inr rfl|assumption):
  PS X (.Assign [.Name x pos'] e pos) (xG te (cu i)):=by
 intro pins s σ H D I h
 refine wpAny_Assign_Name (thn (he pins s σ H _ I h) λv s1 ⟨y,H1,I1,r1,q1⟩=>?_) hs
 exact fZ I1 hN hi hx r1 (λs2 I2=>⟨_,H1,I2,q1⟩) hf
def CO(i:Nat)(te:TE)(ti:TIp):TS:=λD σ H=>∃x,σ[i]?=some (some x)/\te σ H λy H1=>ti x y H1 λz H2=>D.nx (σ.set i (some z)) H2
theorem ps_aug{i:Nat}{x:Str}{e:Expr}{te:TE}{op:Operator}{ti:TIp}{pos':Pos}(hN:X.N.Nodup)(hi:X.N[i]?=some x)(hx:Loc X.env.scope x)(he:PE X e te)(ho:PIp X op ti)(hf:X.fn x=true\/X.env.scope.names.lookup x=some .local:=by first|exact .inl rfl|exact .inr rfl|assumption):
  PS X (.AugAssign (.Name x pos') op e pos) (CO i te ti):=by
 intro pins s σ H D I h
 obtain⟨v,e1,h⟩:=h
 obtain⟨m,hn,hl⟩:=I.loc
 have vis:Vis X.env.scope x:=by rcases hx with k|k;exact .inl k;exact .inr (.inl k)
 obtain⟨u,r,l⟩:=hl i x v hi e1 vis
 refine wpAny_AugAssign_Name ?_
 have go:wpAny (model X.prog X.w) X.A (eval e X.env) (λw s₂=>wpAny (model X.prog X.w) X.A (inplaceOp op u w) (λr s₃=>wpAny (model X.prog X.w) X.A (storeName X.env x r) (λ_=>SP X pins D .next) X.xe s₃) X.xe s₂) X.xe s:=by
  refine thn (he pins s σ H _ I h) λw s1 ⟨y,H1,I1,r1,q1⟩=>?_
  refine thn (ho pins s1 σ H1 v y u w _ I1 r r1 q1) λz s2 ⟨zv,H2,I2,r2,q2⟩=>?_
  exact fZ I2 hN hi hx r2 (λs3 I3=>⟨_,H2,I3,q2⟩) hf
 rcases l with ⟨hk,hm⟩|⟨hk,c,hc,hcell⟩
 ·exact wpAny_loadName_local I.ok.kind hk hn hm go
 ·rcases hk with hk|hk
  ·exact wpAny_loadName_cell I.ok.kind hk hc hcell go
  ·rcases hx with k|k
   ·have:X.env.scope.names.lookup x=some .free:=hk
    rw[k]at this;cases this
   ·have:X.env.scope.names.lookup x=some .free:=hk
    rw[k]at this;cases this
def ipI(f:Int->Int->Int):TIp:=λx y H Q=>∃i j,x=.int i/\y=.int j/\Q (.int (f i j)) H
theorem wt:PIp X .Add (ipI λi j=>i+j):=by
 intro pins s σ H x y v u Q I r1 r2 h
 obtain⟨i,j,e1,e2,q⟩:=h
 subst e1;subst e2
 obtain⟨t,rfl⟩:=r1
 obtain⟨t',rfl⟩:=r2
 exact iadd_int ⟨.int _,H,I.tok _,⟨_,rfl⟩,q⟩
def qm(c:TT)(tb:TS):TS:=λD σ H=>∃W:Nat->St->Hp->Prop,(∃m,W m σ H)/\∀m σ H,W m σ H ->
 c σ H λb H1=>if b=true then ∃N:St->Hp->Prop,(∀σ' H',N σ' H'->∃m',m'<m/\W m' σ' H')/\tb {D with nx:=N,ct:=N,bk:=D.nx} σ H1 else D.nx σ H1
theorem ps_while{c:Expr}{body:List Stmt}{tc:TT}{tb:TS}(hp:GI (model X.prog X.w) X.A X.env X.xe)(hc:PT X c tc)(hb:PSs X body tb):PS X (.While c body [] pos) (qm tc tb):=by
 intro pins s σ H D I h
 obtain⟨W,⟨m0,w0⟩,turn⟩:=h
 refine wpAny_While (codeAny_whileLoop (λn s'=>∃σ' H',Inv X pins σ' H' s'/\W n σ' H') ?_ m0 ⟨σ,H,I,w0⟩)
 rintro n s1 ⟨σ1,H1,I1,w1⟩
 refine A9 hp (thn (hc pins s1 σ1 H1 _ I1 (turn n σ1 H1 w1)) λb s2 ⟨H2,I2,q2⟩=>?_)
 cases b with
 |true=>
  obtain⟨N,hN,q2⟩:=q2
  rw[Q0 rfl]
  refine A9 hp (thn (hb pins s2 σ1 H2 _ I2 q2) λf s3 q3=>?_)
  cases f with
  |next=>
   obtain⟨σ3,H3,I3,n3⟩:=q3
   obtain⟨m',hm,w3⟩:=hN σ3 H3 n3
   exact⟨m',hm,σ3,H3,I3,w3⟩
  |cont=>
   obtain⟨σ3,H3,I3,n3⟩:=q3
   obtain⟨m',hm,w3⟩:=hN σ3 H3 n3
   exact⟨m',hm,σ3,H3,I3,w3⟩
  |brk=>exact q3
  |ret v=>exact q3
 |false=>
  rw[Q6 Κ]
  exact Dk ⟨σ1,H2,I2,q2⟩
end
structure It where
 go:Nat->Hp->Prop
 yld:Nat->Hp->V->Hp->Prop
 stop:Nat->Hp->Prop
def jw(X:Cx)(pins:List (Addr×Obj))(H:Hp)(b:Addr):Prop:=
 H b=none/\b≠X.env.locals/\b∉X.fs/\(b∈X.ex\/X.s₀.heap.objs.size<=b)/\(∀x c,X.env.cells.lookup x=some c->c≠b)/\∀p∈X.pn++pins,p.1≠b
theorem Inv.fpOk{X:Cx}{pins:List (Addr×Obj)}{σ:St}{H H':Hp}{s:η}{b:Addr}(I:Inv X pins σ H s)(hb:s.heap.objs.size<=b)(hn:H' b=none):jw X pins H' b:=by
 refine⟨hn,m6 (ϕ I.lt hb),I.nofs hb,.inr (Ϙ I.sz hb),λx c e z=>?_,λp hp z=>?_⟩
 ·obtain⟨v,q⟩:=I.cell x c e
  exact absurd (ϕ q.lt (by rw[z];exact hb)) (o_ _)
 ·exact absurd (ϕ (ς (I.pin p hp).1) (by rw[z];exact hb)) (o_ _)
structure kg(P:Α)(w:Υ)(K:ζ)(tg:Expr)(J:It)(fp:List Addr)(it:Addr)(tn:Nat->Heap->Prop):Prop where
 mem:it∈fp
 obj:∀i h,tn i h->∀b∈fp,∃o,h.get? b=some o/\∀v,o.data≠.cell v
 keep:∀i h h',tn i h->(∀b∈fp,∀o,h.get? b=some o->h'.get? b=some o)->tn i h'
 item:∀(X:Cx),X.prog=P->X.w=w->X.K=K->X.calm=true->∀(i:Nat)(pins:List (Addr×Obj))(s:η)(σ:St)(H:Hp)(E:δ->η->Prop),Inv X pins σ H s->(∀b∈fp,jw X pins H b)->tn i s.heap->J.go i H ->
  wpAny (model P w) X.A (pyNext (.ref it)) (λr s1=>∃u,r=some u /\
   wpAny (model P w) X.A (letOwnedTupleGo tg (.ref it) u) (λ_ s2=>∃x H',Inv X pins σ H' s2/\aw x u/\J.yld i H x H'/\tn (i+1) s2.heap/\∀b∈fp,H' b=none) E s1) E s
 done:∀(X:Cx),X.prog=P->X.w=w->X.K=K->X.calm=true->∀(i:Nat)(pins:List (Addr×Obj))(s:η)(σ:St)(H:Hp)(E:δ->η->Prop),Inv X pins σ H s->(∀b∈fp,jw X pins H b)->tn i s.heap->J.stop i H ->
  wpAny (model P w) X.A (pyNext (.ref it)) (λr s1=>r=none/\Inv X pins σ H s1) E s
 self:∀(A:Ω)(i:Nat)(s:η)(Q:δ->η->Prop)(E:δ->η->Prop),tn i s.heap->Q (.ref it) s->wpAny (model P w) A (pyIter (.ref it)) Q E s
abbrev TI:=St->Hp->(It->Hp->Prop)->Prop
def PIE(X:Cx)(pins:List (Addr×Obj))(σ:St)(tg:Expr)(R:It->Hp->Prop)(itv:δ)(s2:η):Prop:=
 ∃(it:Addr) (fp:List Addr) (tn:Nat->Heap->Prop) (J:It) (H':Hp),itv=.ref it/\Inv X pins σ H' s2/\kg X.prog X.w X.K tg J fp it tn/\tn 0 s2.heap/\(∀b∈fp,jw X pins H' b)/\R J H'
def PI(X:Cx)(tg iter:Expr)(wi:TI):Prop:=
 ∀(pins:List (Addr×Obj))(s:η)(σ:St)(H:Hp)(R:It->Hp->Prop),Inv X pins σ H s->wi σ H R ->
  wpAny (model X.prog X.w) X.A (eval iter X.env) (λv s1=>wpAny (model X.prog X.w) X.A (pyIter v) (PIE X pins σ tg R) X.xe s1) X.xe s
theorem rV{M:Gn}{A:Ω}{E:δ->η->Prop}{s:η}{tg:Expr}{it:Addr}{u:δ}{o:Obj}{n:String}{vs:Array δ}{Q:Unit->η->Prop}(ho:s.heap.get? it=some o)(hc:o.cls=.type n)(hd:o.data=.fields vs)
  (hn:["enumerate","zip","dict_itemiterator","dict_reverseitemiterator","odict_iterator","itertools.zip_longest","itertools.pairwise"].contains n=false) (hQ:Q Unit.unit s):wpAny M A (letOwnedTupleGo tg (.ref it) u) Q E s:=by
 unfold letOwnedTupleGo
 cases tg<;>first
  |exact ν hQ
  |(cases u<;>first
    |exact ν hQ
    | (refine γ (wpAny_load ho ?_)
       rw[hc,hd]
       show wpAny M A (if (["enumerate","zip","dict_itemiterator","dict_reverseitemiterator","odict_iterator","itertools.zip_longest","itertools.pairwise"].contains n&&vs[0]?==some (rawInt _))=true then _ else _) Q E s
       rw[Q6 (by intro h;rw[hn,i9]at h;cases h)]
       exact ν hQ))
def Itl(K:ζ)(a:Addr):It:=
 ⟨λi H=>∃xs x,SqL K H a xs/\xs[i]?=some x,λi H x H'=>H'=H/\∀xs,SqL K H a xs->xs[i]?=some x,λi H=>∃xs,SqL K H a xs/\xs.length<=i⟩
def Itt(K:ζ)(a:Addr):It:=
 ⟨λi H=>∃xs x,SqT K H a xs/\xs[i]?=some x,λi H x H'=>H'=H/\∀xs,SqT K H a xs->xs[i]?=some x,λi H=>∃xs,SqT K H a xs/\xs.length<=i⟩
def Itr(lo:Int)(n:Nat):It:=⟨λi _=>i<n,λi H x H'=>H'=H/\x=.int (lo+i),λi _=>n<=i⟩
theorem uz{P:Α}{w:Υ}{K:ζ}{tg:Expr}(a it:Addr):kg P w K tg (Itl K a) [it] it (λi h=>h.IsListIter it a i) where
 mem:=by simp
 obj:=λi h st b hb=>by
  have e:b=it:=by simpa using hb
  subst e
  obtain⟨o,e,c,d⟩:=st
  exact⟨o,e,λv z=>by rw[d]at z;cases z⟩
 keep:=λi h h' st k=>st.at λo e=>k it () o e
 item:=by
  intro X hP hw hK hc i pins s σ H E I hf st hg
  subst hP hw hK
  obtain⟨xs,x,hq,hx⟩:=hg
  obtain⟨its,rv,p,hz⟩:=I.list hq
  obtain⟨u,hu,ru⟩:=rv.get hx
  obtain⟨f0,f1,f2,f3,f4,f5⟩:=hf it ()
  refine wpAny_pyNext_list_item st p.isList (x:=u) (by simpa using hu) λh' st' sb=>?_
  have I1:Inv X pins σ H {s with heap:=h'}:=I.turned (t':=s.toks) (λb o hb e=>(sb.2 b hb).trans e) f0 f1 f3 f4 f5
  obtain⟨o,e,c,d⟩:=id st'
  exact⟨u,rfl,rV (s:={s with heap:=h'}) e c d () ⟨x,H,I1,ru,⟨rfl,λys hy=>by rw[I.list_inj hy hq];exact hx⟩,st',λb hb=>(hf b hb).1⟩⟩
 done:=by
  intro X hP hw hK hc i pins s σ H E I hf st hg
  subst hP hw hK
  obtain⟨xs,hq,hx⟩:=hg
  obtain⟨its,rv,p,hz⟩:=I.list hq
  obtain⟨f0,f1,f2,f3,f4,f5⟩:=hf it ()
  have hl:=rv.length
  exact wpAny_pyNext_list_end (I.ok.hd hc) st p.isList (by simp;omega) λh' eb=>⟨rfl,I.turned (t':=s.toks) (λb o hb e=>eb b o hb e) f0 f1 f3 f4 f5⟩
 self:=λ_ _ _ _ _ st h=>wpAny_pyIter_listiter st h
theorem qH{P:Α}{w:Υ}{K:ζ}{tg:Expr}(a it:Addr):kg P w K tg (Itt K a) [it] it (λi h=>h.IsTupleIter it a i) where
 mem:=by simp
 obj:=λi h st b hb=>by
  have e:b=it:=by simpa using hb
  subst e
  obtain⟨o,e,c,d⟩:=st
  exact⟨o,e,λv z=>by rw[d]at z;cases z⟩
 keep:=λi h h' st k=>st.at λo e=>k it () o e
 item:=by
  intro X hP hw hK hc i pins s σ H E I hf st hg
  subst hP hw hK
  obtain⟨xs,x,hq,hx⟩:=hg
  obtain⟨its,rv,p,hz⟩:=I.tuple hq
  obtain⟨u,hu,ru⟩:=rv.get hx
  obtain⟨f0,f1,f2,f3,f4,f5⟩:=hf it ()
  refine wpAny_pyNext_tuple_item st (show s.heap.IsTuple a its.toArray from p) (x:=u) (by simpa using hu) λh' st' sb=>?_
  have I1:Inv X pins σ H {s with heap:=h'}:=I.turned (t':=s.toks) (λb o hb e=>(sb.2 b hb).trans e) f0 f1 f3 f4 f5
  obtain⟨o,e,c,d⟩:=id st'
  exact⟨u,rfl,rV (s:={s with heap:=h'}) e c d () ⟨x,H,I1,ru,⟨rfl,λys hy=>by rw[I.tuple_inj hy hq];exact hx⟩,st',λb hb=>(hf b hb).1⟩⟩
 done:=by
  intro X hP hw hK hc i pins s σ H E I hf st hg
  subst hP hw hK
  obtain⟨xs,hq,hx⟩:=hg
  obtain⟨its,rv,p,hz⟩:=I.tuple hq
  obtain⟨f0,f1,f2,f3,f4,f5⟩:=hf it ()
  have hl:=rv.length
  exact wpAny_pyNext_tuple_end (I.ok.hd hc) st (show s.heap.IsTuple a its.toArray from p) (by simp;omega) λh' eb=>⟨rfl,I.turned (t':=s.toks) (λb o hb e=>eb b o hb e) f0 f1 f3 f4 f5⟩
 self:=λ_ _ _ _ _ st h=>wpAny_pyIter_tupleiter st h
theorem pQ{P:Α}{w:Υ}{K:ζ}{tg:Expr}(it:Addr)(lo:Int)(n:Nat):kg P w K tg (Itr lo n) [it] it (λi h=>IsRangeIter h it (lo+(i:Nat)*1) ((n:Int)-(i:Nat)) 1) where
 mem:=by simp
 obj:=λi h st b hb=>by
  have e:b=it:=by simpa using hb
  subst e
  exact⟨_,st,λv z=>by
   have z':Data.fields _=Gv v:=z
   cases z'⟩
 keep:=λi h h' st k=>k it () _ st
 item:=by
  intro X hP hw hK hc i pins s σ H E I hf st hg
  subst hP hw hK
  obtain⟨f0,f1,f2,f3,f4,f5⟩:=hf it ()
  have W:=Ga.range (prog:=X.prog) (w:=X.w) (I.ok.hd hc) it lo 1 n
  refine W.item i s _ _ hg st λv h' tk hv st' kk=>?_
  obtain⟨t,rfl⟩:=hv
  have I1:Inv X pins σ H {s with heap:=h',toks:=tk}:=I.turned (λb o hb e=>kk b o (by simpa using hb) e) f0 f1 f3 f4 f5
  refine⟨_,rfl,rV (s:={s with heap:=h',toks:=tk}) (n:="range_iterator") st' rfl rfl () ⟨.int (lo+i),H,I1,⟨t,?_⟩,⟨rfl,rfl⟩,st',λb hb=>(hf b hb).1⟩⟩
  rw[Int.mul_one]
 done:=by
  intro X hP hw hK hc i pins s σ H E I hf st hg
  subst hP hw hK
  obtain⟨f0,f1,f2,f3,f4,f5⟩:=hf it ()
  exact wpAny_pyNext_range_end (I.ok.hd hc) st (by have:n<=i:=hg;omega) λh' eb=>⟨rfl,I.turned (t':=s.toks) (λb o hb e=>eb b o hb e) f0 f1 f3 f4 f5⟩
 self:=λ_ _ _ _ _ st h=>wpAny_pyIter_rangeiter st h
section
variable{X:Cx}{tg:Expr}
def Bu(K:ζ)(tl:TE):TI:=λσ H R=>tl σ H λx H1=>∃a,x=.ref a/\(∃xs,SqL K H1 a xs)/\R (Itl K a) H1
def Dd(K:ζ)(tl:TE):TI:=λσ H R=>tl σ H λx H1=>∃a,x=.ref a/\(∃xs,SqT K H1 a xs)/\R (Itt K a) H1
theorem pi_list{l:Expr}{tl:TE}(hl:PE X l tl):PI X tg l (Bu X.K tl):=by
 intro pins s σ H R I h
 refine thn (hl pins s σ H _ I h) λv s1 ⟨x,H1,I1,r1,q1⟩=>?_
 obtain⟨a,e,⟨xs,hq⟩,q⟩:=q1
 subst e
 cases r1
 obtain⟨its,rv,p,hz⟩:=I1.list hq
 refine B0 p.isList ?_
 refine⟨s1.heap.objs.size,[s1.heap.objs.size],_,_,H1,rfl,I1.kept (t':=s1.toks) λb o e=>ι _ e,uz a _,⟨_,ψ _ rfl,rfl,rfl⟩,λb hb=>?_,q⟩
 have e:b=s1.heap.objs.size:=by simpa using hb
 subst e
 exact I1.fpOk (ρ _) (I1.hok.fresh (ρ _))
theorem pi_tup{l:Expr}{tl:TE}(hl:PE X l tl):PI X tg l (Dd X.K tl):=by
 intro pins s σ H R I h
 refine thn (hl pins s σ H _ I h) λv s1 ⟨x,H1,I1,r1,q1⟩=>?_
 obtain⟨a,e,⟨xs,hq⟩,q⟩:=q1
 subst e
 cases r1
 obtain⟨its,rv,p,hz⟩:=I1.tuple hq
 refine C9 (show s1.heap.IsTuple a its.toArray from p) ?_
 refine⟨s1.heap.objs.size,[s1.heap.objs.size],_,_,H1,rfl,I1.kept (t':=s1.toks) λb o e=>ι _ e,qH a _,⟨_,ψ _ rfl,rfl,rfl⟩,λb hb=>?_,q⟩
 have e:b=s1.heap.objs.size:=by simpa using hb
 subst e
 exact I1.fpOk (ρ _) (I1.hok.fresh (ρ _))
theorem vS{pins:List (Addr×Obj)}{σ:St}{H:Hp}{s:η}{R:It->Hp->Prop}{E:δ->η->Prop}{lo hi:Int}{t u v:Tok}{tk:Nat}(I:Inv X pins σ H s)(h1:-(2^62)<=lo)(h2:lo<2^62)(h3:-(2^62)<=hi)(h4:hi<2^62)
  (q:R (Itr lo (hi-lo).toNat) H):wpAny (model X.prog X.w) X.A (pyIter (.ref s.heap.objs.size)) (PIE X pins σ tg R) E {s with heap:=s.heap.push {cls:=.type "range",data:=.fields #[.int lo t,.int hi u,.int 1 v]},toks:=tk}:=by
 refine wpAny_pyIter_range (IsRange.new ..) (small_one h1 h2 h3 h4) ?_
 have I1:Inv X pins σ H {s with heap:=s.heap.push {cls:=.type "range",data:=.fields #[.int lo t,.int hi u,.int 1 v]},toks:=tk}:=I.kept λb o e=>ι _ e
 refine⟨(s.heap.push {cls:=.type "range",data:=.fields #[.int lo t,.int hi u,.int 1 v]}).objs.size,[(s.heap.push {cls:=.type "range",data:=.fields #[.int lo t,.int hi u,.int 1 v]}).objs.size],_,_,H,rfl,
  I1.kept (t':=tk) λb o e=>ι _ e,pQ _ lo (hi-lo).toNat,?_,λb hb=>?_,q⟩
 ·have e1:lo+((0:Nat):Int)*1=lo:=by simp
  have e2:(((hi-lo).toNat:Nat):Int)-((0:Nat):Int)=Ϛ lo hi 1:=by rw[rangeSize_one];split<;>omega
  show IsRangeIter _ _ (lo+((0:Nat):Int)*1) ((((hi-lo).toNat:Nat):Int)-((0:Nat):Int)) 1
  rw[e1,e2]
  exact ψ _ rfl
 ·have e:b=(s.heap.push {cls:=.type "range",data:=.fields #[.int lo t,.int hi u,.int 1 v]}).objs.size:=by simpa using hb
  subst e
  exact I1.fpOk (ρ _) (I1.hok.fresh (ρ _))
def Bw(ta:TA):TI:=λσ H R=>ta σ H λvs H1=>∃j:Int,vs=[.int j]/\-(2^62)<=j/\j<2^62/\R (Itr 0 j.toNat) H1
theorem pi_range1{a:Expr}{ta:TA}{p pos:Pos}(hg:Gl X "range")(hm:X.mg "range"=none)(ha:PA X [a] ta)(hs:starEach [a] X.env=[(false,eval a X.env)]:=by rfl):PI X tg (.Call (.Name "range" p) [a] [] pos) (Bw ta):=by
 intro pins s σ H R I h
 refine Call_ (cF I hg hm boot_range (Ϻ (thn (ha pos pins s σ H _ I h) λus s1 ⟨vs,H1,I1,r1,q1⟩=>?_) hs rfl))
 obtain⟨j,e,q1,q2,q⟩:=q1
 subst e
 cases r1 with
 |cons r rr=>
  cases rr
  obtain⟨t,rfl⟩:=r
  exact call_range_1 (vS I1 () () q1 q2 (by simpa using q))
def CT(wi:TI)(g:TG)(tb:TS):TS:=λD σ H=>wi σ H λJ H1=>∃W:Nat->Nat->St->Hp->Prop,(∃m,W 0 m σ H1)/\∀i m σ H,W i m σ H ->
 (J.stop i H/\D.nx σ H)\/(J.go i H/\∃N:St->Hp->Prop,(∀σ' H',N σ' H'->∃m',m'<m/\W (i+1) m' σ' H')/\∀x H',J.yld i H x H'->g x σ H' λσ2 H2=>tb {D with nx:=N,ct:=N,bk:=D.nx} σ2 H2)
def jg(fp:List Addr)(h:Heap):List (Addr×Obj):=fp.filterMap λb=>(h.get? b).map λo=>(b,o)
theorem cW{fp:List Addr}{h:Heap}{b:Addr}{o:Obj}(hb:b∈fp)(e:h.get? b=some o):(b,o)∈jg fp h:=Ef.mpr ⟨b,hb,by rw[e];rfl⟩
theorem ut{fp:List Addr}{h:Heap}{p:Addr×Obj}(hp:p∈jg fp h):p.1∈fp/\h.get? p.1=some p.2:=by
 obtain⟨b,hb,e⟩:=Ef.mp hp
 cases q:h.get? b with
 |none=>rw[q]at e;cases e
 |some o=>
  rw[q]at e
  have e':(b,o)=p:=ϑ e
  subst e'
  exact⟨hb,q⟩
theorem Inv.pinned{pins:List (Addr×Obj)}{σ:St}{H:Hp}{s:η}{fp:List Addr}(I:Inv X pins σ H s)(hf:∀b∈fp,jw X pins H b)(ho:∀b∈fp,∃o,s.heap.get? b=some o/\∀v,o.data≠.cell v):Inv X (pins++jg fp s.heap) σ H s:=
 I.pins_of λp hp=>(ϖ.mp hp).elim (λz=>I.pin p (ϟ _ z)) λz=>by
  obtain⟨hb,e⟩:=ut z
  obtain⟨f0,f1,f2,_⟩:=hf p.1 hb
  obtain⟨o,e',d⟩:=ho p.1 hb
  rw[e]at e';cases e'
  exact⟨e,f0,f1,f2,d⟩
theorem Inv.unpinned{pins pl:List (Addr×Obj)}{σ:St}{H:Hp}{s:η}(I:Inv X (pins++pl) σ H s):Inv X pins σ H s:=I.pins_of λp hp=>I.pin p (ϟ _ (i7 _ hp))
theorem ps_for{iter:Expr}{body:List Stmt}{wi:TI}{g:TG}{tb:TS}{pos:Pos}(hp:GI (model X.prog X.w) X.A X.env X.xe)(hc:X.calm=true)(hi:PI X tg iter wi)(hg:PG X tg g)(hb:PSs X body tb)
  (hs:∀x,foldedSetIterable iter X.env x=pure x:=by intro _;rfl):PS X (.For tg iter body [] pos) (CT wi g tb):=by
 intro pins s σ H D I h
 refine wpAny_For (thn (hi pins s σ H _ I h) λv s1 h1=>thn h1 λitv s2 h2=>?_) hs
 obtain⟨it,fp,tn,J,H2,e,I2,T,st2,f2,W,⟨m0,w0⟩,turn⟩:=h2
 subst e
 have stat:∀{H':Hp},(∀b∈fp,H' b=none)->∀b∈fp,jw X pins H' b:=λhn b hb=>⟨hn b hb,(f2 b hb).2⟩
 refine codeAny_forLoop_any (λn s'=>∃i σ' H',Inv X pins σ' H' s'/\tn i s'.heap/\(∀b∈fp,H' b=none)/\W i n σ' H') ?_ m0 ⟨0,σ,H2,I2,st2,λb hb=>(f2 b hb).1,w0⟩
 rintro n s3 ⟨i,σ3,H3,I3,st3,fr3,w3⟩
 rcases turn i n σ3 H3 w3 with ⟨stop,qn⟩|⟨go,N,hN,step⟩
 ·refine A9 hp (thn (T.done X rfl rfl rfl hc i pins s3 σ3 H3 X.xe I3 (stat fr3) st3 stop) λr s4 ⟨hr,I4⟩=>?_)
  subst hr
  exact Dk ⟨σ3,H3,I4,qn⟩
 ·refine A9 hp (thn (T.item X rfl rfl rfl hc i pins s3 σ3 H3 X.xe I3 (stat fr3) st3 go) λr s4 ⟨u,hr,h4⟩=>?_)
  subst hr
  refine A9 hp (thn h4 λ_ s5 ⟨x,H5,I5,r5,y5,st5,fr5⟩=>?_)
  have I5':=I5.pinned (stat fr5) (T.obj _ _ st5)
  refine A9 hp (thn (hg _ s5 σ3 H5 x u _ I5' r5 (step x H5 y5)) λ_ s6 ⟨σ6,H6,I6,q6⟩=>?_)
  refine A9 hp (thn (hb _ s6 σ6 H6 _ I6 q6) λf s7 q7=>?_)
  have again:∀{σ7:St}{H7:Hp},Inv X (pins++jg fp s5.heap) σ7 H7 s7->N σ7 H7->∃m,m<n/\∃i σ' H',Inv X pins σ' H' s7/\tn i s7.heap/\(∀b∈fp,H' b=none)/\W i m σ' H':=λ{σ7 H7} I7 n7=>by
   obtain⟨m',hm,w7⟩:=hN σ7 H7 n7
   refine⟨m',hm,i+1,σ7,H7,I7.unpinned,T.keep _ _ _ st5 λb hb o e=>(I7.pin (b,o) (ϟ _ (ϟ _ (cW hb e)))).1,λb hb=>?_,w7⟩
   obtain⟨o,e,d⟩:=T.obj _ _ st5 b hb
   exact(I7.pin (b,o) (ϟ _ (ϟ _ (cW hb e)))).2.1
  cases f with
  |next=>obtain⟨σ7,H7,I7,n7⟩:=q7;exact again I7 n7
  |cont=>obtain⟨σ7,H7,I7,n7⟩:=q7;exact again I7 n7
  |brk=>obtain⟨σ7,H7,I7,q7⟩:=q7;exact⟨σ7,H7,I7.unpinned,q7⟩
  |ret v=>obtain⟨x7,σ7,H7,I7,r7,q7⟩:=q7;exact⟨x7,σ7,H7,I7.unpinned,r7,q7⟩
end
theorem jx{K:ζ}{a:Addr}{xs:List V}{g:TG}{tb:TS}{D:bI}{σ:St}{H:Hp}(Pv:Nat->St->Hp->Prop)(h0:Pv 0 σ H)(hl:∀i σ H,i<=xs.length->Pv i σ H->SqL K H a xs)
  (hs:∀i x σ H,xs[i]?=some x->Pv i σ H->g x σ H λσ2 H2=>tb {D with nx:=Pv (i+1),ct:=Pv (i+1),bk:=D.nx} σ2 H2) (hd:∀σ H,Pv xs.length σ H->D.nx σ H):
  ∃W:Nat->Nat->St->Hp->Prop,(∃m,W 0 m σ H)/\∀i m σ H,W i m σ H ->
   ((Itl K a).stop i H/\D.nx σ H)\/((Itl K a).go i H/\∃N:St->Hp->Prop,(∀σ' H',N σ' H'->∃m',m'<m/\W (i+1) m' σ' H')/\∀x H',(Itl K a).yld i H x H'->g x σ H' λσ2 H2=>tb {D with nx:=N,ct:=N,bk:=D.nx} σ2 H2):=by
 refine⟨λi m σ H=>m=xs.length-i/\i<=xs.length/\Pv i σ H,⟨xs.length,(),Ξ _,h0⟩,?_⟩
 rintro i m σ H ⟨rfl,hi,p⟩
 have q:=hl i σ H hi p
 by_cases hlt:i<xs.length
 ·refine .inr ⟨⟨xs,xs[i],q,by simp[hlt]⟩,Pv (i+1),λσ' H' p'=>⟨xs.length-(i+1),(),rfl,hlt,p'⟩,λx H' y=>?_⟩
  obtain⟨e,y⟩:=y
  subst e
  exact hs i x σ _ (y xs q) p
 ·have e:i=xs.length:=by omega
  subst e
  exact .inl ⟨⟨xs,q,ρ _⟩,hd σ H p⟩
theorem gz{K:ζ}{a:Addr}{xs:List V}{g:TG}{tb:TS}{D:bI}{σ:St}{H:Hp}(Pv:Nat->St->Hp->Prop)(h0:Pv 0 σ H)(hl:∀i σ H,i<=xs.length->Pv i σ H->SqT K H a xs)
  (hs:∀i x σ H,xs[i]?=some x->Pv i σ H->g x σ H λσ2 H2=>tb {D with nx:=Pv (i+1),ct:=Pv (i+1),bk:=D.nx} σ2 H2) (hd:∀σ H,Pv xs.length σ H->D.nx σ H):
  ∃W:Nat->Nat->St->Hp->Prop,(∃m,W 0 m σ H)/\∀i m σ H,W i m σ H ->
   ((Itt K a).stop i H/\D.nx σ H)\/((Itt K a).go i H/\∃N:St->Hp->Prop,(∀σ' H',N σ' H'->∃m',m'<m/\W (i+1) m' σ' H')/\∀x H',(Itt K a).yld i H x H'->g x σ H' λσ2 H2=>tb {D with nx:=N,ct:=N,bk:=D.nx} σ2 H2):=by
 refine⟨λi m σ H=>m=xs.length-i/\i<=xs.length/\Pv i σ H,⟨xs.length,(),Ξ _,h0⟩,?_⟩
 rintro i m σ H ⟨rfl,hi,p⟩
 have q:=hl i σ H hi p
 by_cases hlt:i<xs.length
 ·refine .inr ⟨⟨xs,xs[i],q,by simp[hlt]⟩,Pv (i+1),λσ' H' p'=>⟨xs.length-(i+1),(),rfl,hlt,p'⟩,λx H' y=>?_⟩
  obtain⟨e,y⟩:=y
  subst e
  exact hs i x σ _ (y xs q) p
 ·have e:i=xs.length:=by omega
  subst e
  exact .inl ⟨⟨xs,q,ρ _⟩,hd σ H p⟩
theorem uP{lo:Int}{n:Nat}{g:TG}{tb:TS}{D:bI}{σ:St}{H:Hp}(Pv:Nat->St->Hp->Prop)(h0:Pv 0 σ H)
  (hs:∀i σ H,i<n->Pv i σ H->g (.int (lo+i)) σ H λσ2 H2=>tb {D with nx:=Pv (i+1),ct:=Pv (i+1),bk:=D.nx} σ2 H2) (hd:∀σ H,Pv n σ H->D.nx σ H):
  ∃W:Nat->Nat->St->Hp->Prop,(∃m,W 0 m σ H)/\∀i m σ H,W i m σ H ->
   ((Itr lo n).stop i H/\D.nx σ H)\/((Itr lo n).go i H/\∃N:St->Hp->Prop,(∀σ' H',N σ' H'->∃m',m'<m/\W (i+1) m' σ' H')/\∀x H',(Itr lo n).yld i H x H'->g x σ H' λσ2 H2=>tb {D with nx:=N,ct:=N,bk:=D.nx} σ2 H2):=by
 refine⟨λi m σ H=>m=n-i/\i<=n/\Pv i σ H,⟨n,(),Ξ _,h0⟩,?_⟩
 rintro i m σ H ⟨rfl,hi,p⟩
 by_cases hlt:i<n
 ·refine .inr ⟨hlt,Pv (i+1),λσ' H' p'=>⟨n-(i+1),(),rfl,hlt,p'⟩,λx H' y=>?_⟩
  obtain⟨e,y⟩:=y
  subst e y
  exact hs i σ _ hlt p
 ·have e:i=n:=by omega
  subst e
  exact .inl ⟨ρ _,hd σ H p⟩
abbrev R2:=V->V->Hp->VK->Prop
def OpR(X:Cx)(f:δ->δ->Sem δ)(r:R2):Prop:=
 ∀(pins:List (Addr×Obj))(s:η)(σ:St)(H:Hp)(x y:V)(v u:δ)(Q:VK),Inv X pins σ H s->aw x v->aw y u->r x y H Q ->
  wpAny (model X.prog X.w) X.A (f v u) (EP X pins σ Q) X.xe s
def UnR(X:Cx)(f:δ->Sem δ)(r:V->Hp->VK->Prop):Prop:=
 ∀(pins:List (Addr×Obj))(s:η)(σ:St)(H:Hp)(x:V)(v:δ)(Q:VK),Inv X pins σ H s->aw x v->r x H Q ->
  wpAny (model X.prog X.w) X.A (f v) (EP X pins σ Q) X.xe s
def bz(X:Cx)(f:δ)(r:List V->Hp->VK->Prop):Prop:=
 ∀(pins:List (Addr×Obj))(s:η)(σ:St)(H:Hp)(xs:List V)(us:List δ)(Q:VK),Inv X pins σ H s->ar xs us->r xs H Q ->
  wpAny (model X.prog X.w) X.A (call f us) (EP X pins σ Q) X.xe s
def Cw(X:Cx)(r:V->Hp->(Bool->Hp->Prop)->Prop):Prop:=
 ∀(pins:List (Addr×Obj))(s:η)(σ:St)(H:Hp)(x:V)(v:δ)(Q:Bool->Hp->Prop),Inv X pins σ H s->aw x v->r x H Q ->
  wpAny (model X.prog X.w) X.A (truthy v) (TP X pins σ Q) X.xe s
def tOp(r:R2)(ta tb:TE):TE:=λσ H Q=>ta σ H λx H1=>tb σ H1 λy H2=>r x y H2 Q
def tUn(r:V->Hp->VK->Prop)(ta:TE):TE:=λσ H Q=>ta σ H λx H1=>r x H1 Q
def rI(C:Int->Int->Prop)(g:Int->Int->V):R2:=λx y H Q=>∃i j,x=.int i/\y=.int j/\C i j/\Q (g i j) H
def rI0(g:Int->Int->V):R2:=λx y H Q=>∃i j,x=.int i/\y=.int j/\Q (g i j) H
def rU(g:Int->V):V->Hp->VK->Prop:=λx H Q=>∃i,x=.int i/\Q (g i) H
section
variable{X:Cx}{a b c:Expr}{ta tb tc:TE}{pos:Pos}
theorem AO(ha:PE X a ta)(hb:PE X b tb){pins:List (Addr×Obj)}{s:η}{σ:St}{H:Hp}{R:V->V->Hp->Prop}(I:Inv X pins σ H s)
  (h:ta σ H λx H1=>tb σ H1 λy H2=>R x y H2) {Q:δ->η->Prop} {f:δ->δ->Sem δ}
  (hf:∀v u s2 x y H2,Inv X pins σ H2 s2->aw x v->aw y u->R x y H2->wpAny (model X.prog X.w) X.A (f v u) Q X.xe s2):
  wpAny (model X.prog X.w) X.A (eval a X.env) (λv s₁=>wpAny (model X.prog X.w) X.A (eval b X.env) (λu s₂=>wpAny (model X.prog X.w) X.A (f v u) Q X.xe s₂) X.xe s₁) X.xe s:=by
 refine thn (ha pins s σ H _ I h) λv s1 ⟨x,H1,I1,r1,q1⟩=>?_
 refine thn (hb pins s1 σ H1 _ I1 q1) λu s2 ⟨y,H2,I2,r2,q2⟩=>?_
 exact hf v u s2 x y H2 I2 r1 r2 q2
theorem pe_op{op:Operator}{r:R2}(ho:OpR X (binaryOp op) r)(ha:PE X a ta)(hb:PE X b tb):PE X (.BinOp a op b pos) (tOp r ta tb):=by
 intro pins s σ H Q I h
 exact wpAny_BinOp (AO ha hb I h λv u s2 x y H2 I2 rx ry q=>ho pins s2 σ H2 x y v u Q I2 rx ry q)
theorem pe_un{op:UnaryOp}{r:V->Hp->VK->Prop}(ho:UnR X (unaryOp op) r)(ha:PE X a ta):PE X (.UnaryOp op a pos) (tUn r ta):=by
 intro pins s σ H Q I h
 exact UnaryOp_ (thn (ha pins s σ H _ I h) λv s1 ⟨x,H1,I1,r1,q1⟩=>ho pins s1 σ H1 x v Q I1 r1 q1)
theorem opI{f:δ->δ->Sem δ}{C:Int->Int->Prop}{g:Int->Int->Int}
  (rule:∀(i j:Int)(t u:Tok)(s:η)(Q:δ->η->Prop)(E:δ->η->Prop),C i j->Q (.int (g i j) s.toks) {s with toks:=s.toks+1}->wpAny (model X.prog X.w) X.A (f (.int i t) (.int j u)) Q E s):
  OpR X f (rI C λi j=>.int (g i j)):=by
 intro pins s σ H x y v u Q I rx ry h
 obtain⟨i,j,rfl,rfl,hc,q⟩:=h
 obtain⟨t,rfl⟩:=rx
 obtain⟨t',rfl⟩:=ry
 exact rule i j t t' s _ _ hc ⟨.int (g i j),H,I.tok _,⟨_,rfl⟩,q⟩
theorem Cf{f:δ->δ->Sem δ}{g:Int->Int->Int}
  (rule:∀(i j:Int)(t u:Tok)(s:η)(Q:δ->η->Prop)(E:δ->η->Prop),Q (.int (g i j) s.toks) {s with toks:=s.toks+1}->wpAny (model X.prog X.w) X.A (f (.int i t) (.int j u)) Q E s):
  OpR X f (rI0 λi j=>.int (g i j)):=by
 intro pins s σ H x y v u Q I rx ry h
 obtain⟨i,j,rfl,rfl,q⟩:=h
 obtain⟨t,rfl⟩:=rx
 obtain⟨t',rfl⟩:=ry
 exact rule i j t t' s _ _ ⟨.int (g i j),H,I.tok _,⟨_,rfl⟩,q⟩
theorem yN{f:δ->δ->Sem δ}{g:Int->Int->Bool}
  (rule:∀(i j:Int)(t u:Tok)(s:η)(Q:δ->η->Prop)(E:δ->η->Prop),Q (.bool (g i j)) s->wpAny (model X.prog X.w) X.A (f (.int i t) (.int j u)) Q E s):
  OpR X f (rI0 λi j=>.bl (g i j)):=by
 intro pins s σ H x y v u Q I rx ry h
 obtain⟨i,j,rfl,rfl,q⟩:=h
 obtain⟨t,rfl⟩:=rx
 obtain⟨t',rfl⟩:=ry
 exact rule i j t t' s _ _ ⟨.bl (g i j),H,I,rfl,q⟩
def CA(i j:Int):Prop:=0<j/\j<1073741824
def ya(i j:Int):Prop:=0<=j/\j<=1000000/\i.natAbs<2^64
def AL(i j:Int):Prop:=(-(2^64)<i/\i<2^64)\/(-(2^64)<j/\j<2^64)
theorem AL.ok{i j:Int}(h:AL i j):IntMulOk i j:=by
 rcases h with ⟨h1,h2⟩|⟨h1,h2⟩
 ·exact .of_left (intBits_le_64 h1 h2)
 ·exact .of_right (intBits_le_64 h1 h2)
theorem pR(k:Nat):(0:Int)<=2^k:=by
 rw[two_pow_cast]
 exact Int.natCast_nonneg _
theorem bv:OpR X (binaryOp .Add) (rI0 λi j=>.int (i+j)):=Cf λ_ _ _ _ _ _ _ q=>add_int q
theorem jb:OpR X (binaryOp .Mult) (rI AL λi j=>.int (i*j)):=opI λ_ _ _ _ _ _ _ hc q=>mul_int q hc.ok
theorem aS:OpR X (binaryOp .FloorDiv) (rI CA λi j=>.int (i/j)):=opI λi j _ _ _ _ _ hc q=>by
 have h1:(0:Int)<j:=hc.1
 have h2:j<1073741824:=hc.2
 exact floordiv_int () (by rw[DG i ()];exact q) (.inl (PyProof.noPylong_small ()))
theorem aA:OpR X (binaryOp .Mod) (rI (λ_ j=>0<j) λi j=>.int (i%j)):=opI λi j _ _ _ _ _ hc q=>by
 have h1:(0:Int)<j:=hc
 exact mod_int' () (by rw[Int.fmod_eq_emod_of_nonneg i ()];exact q)
theorem mK:OpR X (binaryOp .Pow) (rI ya λi j=>.int (i^j.toNat)):=opI λ_ _ _ _ _ _ _ hc q=>pow_int_small hc.1 hc.2.1 hc.2.2 q
theorem Ay:OpR X (binaryOp .RShift) (rI (λ_ j=>0<=j) λi j=>.int (i/2^j.toNat)):=opI λi j _ _ _ _ _ hc q=>
 rshift_int hc (by rw[DG i (pR _)];exact q)
theorem AQ:OpR X (binaryOp .BitAnd) (rI0 λi j=>.int (Ϥ.bitAnd i j)):=Cf λ_ _ _ _ _ _ _ q=>and_int q
theorem unI{f:δ->Sem δ}{g:Int->Int}
  (rule:∀(i:Int)(t:Tok)(s:η)(Q:δ->η->Prop)(E:δ->η->Prop),Q (.int (g i) s.toks) {s with toks:=s.toks+1}->wpAny (model X.prog X.w) X.A (f (.int i t)) Q E s):
  UnR X f (rU λi=>.int (g i)):=by
 intro pins s σ H x v Q I rx h
 obtain⟨i,rfl,q⟩:=h
 obtain⟨t,rfl⟩:=rx
 exact rule i t s _ _ ⟨.int (g i),H,I.tok _,⟨_,rfl⟩,q⟩
theorem jr:UnR X (unaryOp .USub) (rU λi=>.int (-i)):=unI λ_ _ _ _ _ q=>neg_int q
end
def BQ:V->V->Bool
 |.non,.non=>true|.non,.int _=>true|.int _,.non=>true|.non,.bl _=>true|.bl _,.non=>true|.non,.str _=>true|.str _,.non=>true
 |.int _,.int _=>true|.bl _,.bl _=>true|.str _,.str _=>true|.byt _,.byt _=>true
 |.int _,.str _=>true|.str _,.int _=>true|.bl _,.str _=>true|.str _,.bl _=>true
 |_,_=>false
def rEq:R2:=λx y H Q=>BQ x y=true/\Q (.bl (decide (x=y))) H
def rNe:R2:=λx y H Q=>BQ x y=true/\Q (.bl (!decide (x=y))) H
theorem sH{i j:Int}:decide (V.int i=V.int j)=(i==j):=by
 rw[m8]
 simp
theorem wU{i j:Bool}:decide (V.bl i=V.bl j)=(i==j):=by
 rw[m8]
 simp
theorem sj{i j:Str}:decide (V.str i=V.str j)=(i==j):=by
 rw[m8]
 simp
theorem sU{i j:Array UInt8}:decide (V.byt i=V.byt j)=(i.toList==j.toList):=by
 rw[m8]
 cases i
 cases j
 simp
section
variable{X:Cx}{a b c:Expr}{ta tb tc:TE}{pos:Pos}
theorem aO{pins:List (Addr×Obj)}{σ:St}{H:Hp}{s:η}{Q:VK}{k k':Bool}(I:Inv X pins σ H s)(q:Q (.bl k) H)(e:k=k'):EP X pins σ Q (.bool k') s:=by
 subst e
 exact⟨.bl k,H,I,rfl,q⟩
theorem aB:OpR X (compareOp .Eq) rEq:=by
 intro pins s σ H x y v u Q I rx ry h
 obtain⟨hs,q⟩:=h
 cases x with
 |non=>
  cases rx
  cases y with
  |non=>cases ry;exact PySem.EqNone.eq_none_none (aO I q ())
  |bl j=>cases ry;exact PySem.EqNone.eq_none_bool (aO I q ())
  |int j=>obtain⟨t',rfl⟩:=ry;exact PySem.EqNone.eq_none_int (aO I q ())
  |str j=>obtain⟨t',rfl⟩:=ry;exact PySem.EqNone.eq_none_str (aO I q ())
  |_=>exact absurd (show false=true from hs) Κ
 |bl i=>
  cases rx
  cases y with
  |non=>cases ry;exact PySem.EqNone.eq_bool_none (aO I q ())
  |bl j=>cases ry;exact eq_bool (aO I q wU)
  |str j=>obtain⟨t',rfl⟩:=ry;exact PySem.EqMixed.eq_bool_str (aO I q ())
  |_=>exact absurd (show false=true from hs) Κ
 |int i=>
  obtain⟨t,rfl⟩:=rx
  cases y with
  |non=>cases ry;exact PySem.EqNone.eq_int_none (aO I q ())
  |int j=>obtain⟨t',rfl⟩:=ry;exact eq_int (aO I q sH)
  |str j=>obtain⟨t',rfl⟩:=ry;exact PySem.EqMixed.eq_int_str (aO I q ())
  |_=>exact absurd (show false=true from hs) Κ
 |str i=>
  obtain⟨t,rfl⟩:=rx
  cases y with
  |non=>cases ry;exact PySem.EqNone.eq_str_none (aO I q ())
  |bl j=>cases ry;exact PySem.EqMixed.eq_str_bool (aO I q ())
  |int j=>obtain⟨t',rfl⟩:=ry;exact PySem.EqMixed.eq_str_int (aO I q ())
  |str j=>obtain⟨t',rfl⟩:=ry;exact eq_str (aO I q sj)
  |_=>exact absurd (show false=true from hs) Κ
 |byt i=>
  obtain⟨t,rfl⟩:=rx
  cases y with
  |byt j=>obtain⟨t',rfl⟩:=ry;exact PySem.W.eq_bytes (aO I q sU)
  |_=>exact absurd (show false=true from hs) Κ
 |_=>cases y<;>exact absurd (show false=true from hs) Κ
theorem fL:OpR X (compareOp .NotEq) rNe:=by
 intro pins s σ H x y v u Q I rx ry h
 obtain⟨hs,q⟩:=h
 cases x with
 |non=>
  cases rx
  cases y with
  |non=>cases ry;exact PySem.EqNone.ne_none_none (aO I q ())
  |bl j=>cases ry;exact PySem.EqNone.ne_none_bool (aO I q ())
  |int j=>obtain⟨t',rfl⟩:=ry;exact PySem.EqNone.ne_none_int (aO I q ())
  |str j=>obtain⟨t',rfl⟩:=ry;exact PySem.EqNone.ne_none_str (aO I q ())
  |_=>exact absurd (show false=true from hs) Κ
 |bl i=>
  cases rx
  cases y with
  |non=>cases ry;exact PySem.EqNone.ne_bool_none (aO I q ())
  |bl j=>cases ry;exact ne_bool (aO I q (congrArg not wU))
  |str j=>obtain⟨t',rfl⟩:=ry;exact PySem.EqMixed.ne_bool_str (aO I q ())
  |_=>exact absurd (show false=true from hs) Κ
 |int i=>
  obtain⟨t,rfl⟩:=rx
  cases y with
  |non=>cases ry;exact PySem.EqNone.ne_int_none (aO I q ())
  |int j=>obtain⟨t',rfl⟩:=ry;exact ne_int (aO I q (congrArg not sH))
  |str j=>obtain⟨t',rfl⟩:=ry;exact PySem.EqMixed.ne_int_str (aO I q ())
  |_=>exact absurd (show false=true from hs) Κ
 |str i=>
  obtain⟨t,rfl⟩:=rx
  cases y with
  |non=>cases ry;exact PySem.EqNone.ne_str_none (aO I q ())
  |bl j=>cases ry;exact PySem.EqMixed.ne_str_bool (aO I q ())
  |int j=>obtain⟨t',rfl⟩:=ry;exact PySem.EqMixed.ne_str_int (aO I q ())
  |str j=>obtain⟨t',rfl⟩:=ry;exact ne_str (aO I q (congrArg not sj))
  |_=>exact absurd (show false=true from hs) Κ
 |byt i=>
  obtain⟨t,rfl⟩:=rx
  cases y with
  |byt j=>obtain⟨t',rfl⟩:=ry;exact PySem.W.ne_bytes (aO I q (congrArg not sU))
  |_=>exact absurd (show false=true from hs) Κ
 |_=>cases y<;>exact absurd (show false=true from hs) Κ
theorem kR:OpR X (compareOp .Lt) (rI0 λi j=>.bl (decide (i<j))):=yN λ_ _ _ _ _ _ _ q=>lt_int q
theorem kJ:OpR X (compareOp .LtE) (rI0 λi j=>.bl (decide (i<=j))):=yN λ_ _ _ _ _ _ _ q=>le_int q
theorem fQ:OpR X (compareOp .Gt) (rI0 λi j=>.bl (decide (j<i))):=yN λ_ _ _ _ _ _ _ q=>gt_int q
theorem zh:OpR X (compareOp .GtE) (rI0 λi j=>.bl (decide (j<=i))):=yN λ_ _ _ _ _ _ _ q=>ge_int q
theorem AY:OpR X (compareOp .Is) (λx y H Q=>y=.non/\Q (.bl (decide (x=.non))) H):=by
 intro pins s σ H x y v u Q I rx ry h
 obtain⟨rfl,q⟩:=h
 cases ry
 refine is_none_gen (aO I q ?_)
 cases x<;>first
  |(cases rx;rfl)
  |(obtain⟨t,rfl⟩:=rx;rfl)
theorem ah(b:Expr){op:CmpOp}(h:op≠.In:=by decide)(h2:op≠.NotIn:=by decide):behindInMarks op b=false:=by
 have e1:(op==CmpOp.In)=false:=by cases op<;>first|rfl|exact absurd rfl h
 have e2:(op==CmpOp.NotIn)=false:=by cases op<;>first|rfl|exact absurd rfl h2
 cases b<;>simp[behindInMarks,e1,e2]
theorem pe_cmpR{op:CmpOp}{r:R2}(ho:OpR X (compareOp op) r)(ha:PE X a ta)(hb:PE X b tb)(hm:behindInMarks op b=false):PE X (.Compare a [op] [b] pos) (tOp r ta tb):=by
 intro pins s σ H Q I h
 exact wpAny_Compare1 (AO ha hb I h λv u s2 x y H2 I2 rx ry q=>ho pins s2 σ H2 x y v u Q I2 rx ry q) hm
def zC(t:TE):TT:=λσ H Q=>t σ H λx H'=>∃k,x=.bl k/\Q k H'
theorem pt_cmpR{op:CmpOp}{r:R2}(ho:OpR X (compareOp op) r)(ha:PE X a ta)(hb:PE X b tb)(hm:behindInMarks op b=false):PT X (.Compare a [op] [b] pos) (zC (tOp r ta tb)):=by
 intro pins s σ H Q I h
 refine wpAny_isTrue_Compare1 (thn (ha pins s σ H _ I h) λv s1 ⟨x,H1,I1,r1,q1⟩=>thn (hb pins s1 σ H1 _ I1 q1) λu s2 ⟨y,H2,I2,r2,q2⟩=>
  thn (ho pins s2 σ H2 x y v u _ I2 r1 r2 q2) λc s3 ⟨z,H3,I3,r3,k,e,q3⟩=>?_) hm
 subst e
 cases r3
 exact Ϸ ⟨H3,I3,q3⟩
def wC(r r':R2)(ta tb tc:TE):TE:=λσ H Q=>ta σ H λx H1=>tb σ H1 λy H2=>r x y H2 λz H3=>∃k,z=.bl k /\
 (if k=true then tc σ H3 λw' H4=>r' y w' H4 Q else Q (.bl false) H3)
theorem pe_chain{op op':CmpOp}{r r':R2}(ho:OpR X (compareOp op) r)(ho':OpR X (compareOp op') r')(ha:PE X a ta)(hb:PE X b tb)(hc:PE X c tc)
  (hm:lastMarks [op,op'] [b,c]=false:=by with_unfolding_all rfl):PE X (.Compare a [op,op'] [b,c] pos) (wC r r' ta tb tc):=by
 intro pins s σ H Q I h
 refine Compare_chain (thn (ha pins s σ H _ I h) λv s1 ⟨x,H1,I1,r1,q1⟩=>chain_link (thn (hb pins s1 σ H1 _ I1 q1) λu s2 ⟨y,H2,I2,r2,q2⟩=>
  thn (ho pins s2 σ H2 x y v u _ I2 r1 r2 q2) λd s3 ⟨z,H3,I3,r3,k,e,q3⟩=>?_)) hm
 subst e
 cases r3
 refine Ϸ ?_
 cases k with
 |false=>exact ite_ff ⟨.bl false,H3,I3,rfl,q3⟩
 |true=>exact ite_tt (chain_last (thn (hc pins s3 σ H3 _ I3 q3) λw' s4 ⟨z',H4,I4,r4,q4⟩=>ho' pins s4 σ H4 y z' u w' Q I4 r2 r4 q4))
theorem pt_chain{op op':CmpOp}{r r':R2}(ho:OpR X (compareOp op) r)(ho':OpR X (compareOp op') r')(ha:PE X a ta)(hb:PE X b tb)(hc:PE X c tc)
  (hm:lastMarks [op,op'] [b,c]=false:=by with_unfolding_all rfl):PT X (.Compare a [op,op'] [b,c] pos) (zC (wC r r' ta tb tc)):=by
 intro pins s σ H Q I h
 refine isTrue_chain (thn (ha pins s σ H _ I h) λv s1 ⟨x,H1,I1,r1,q1⟩=>test_link (thn (hb pins s1 σ H1 _ I1 q1) λu s2 ⟨y,H2,I2,r2,q2⟩=>
  thn (ho pins s2 σ H2 x y v u _ I2 r1 r2 q2) λd s3 ⟨z,H3,I3,r3,k,e,q3⟩=>?_)) hm
 subst e
 cases r3
 refine Ϸ ?_
 cases k with
 |false=>
  obtain⟨k',e',q'⟩:=q3
  cases e'
  exact ite_ff ⟨H3,I3,q'⟩
 |true=>
  refine ite_tt (test_last (thn (hc pins s3 σ H3 _ I3 q3) λw' s4 ⟨z',H4,I4,r4,q4⟩=>thn (ho' pins s4 σ H4 y z' u w' _ I4 r2 r4 q4) λd' s5 ⟨z2,H5,I5,r5,k2,e2,q5⟩=>?_))
  subst e2
  cases r5
  exact Ϸ ⟨H5,I5,q5⟩
def yj(K:ζ)(x:V)(H:Hp)(k:Bool):Prop:=
 match x with
 |.non=>k=false
 |.bl b=>k=b
 |.int i=>k=(i != 0)
 |.str y=>y.length<=sizeLine/\k=((y.length:Int) != 0)
 |.byt y=>y.size<=sizeLine/\k=((y.size:Int) != 0)
 |.ref p=>(∃xs,SqL K H p xs/\k=!xs.isEmpty)\/(∃xs,SqT K H p xs/\k=!xs.isEmpty)\/∃kvs,H p=some (.dK kvs)/\k=!kvs.isEmpty
 |_=>False
theorem qI{κ:Type}{kvs:List (κ×V)}{vs:List (κ×δ)}(r:KV kvs vs):(!vs.isEmpty)=!kvs.isEmpty:=by
 cases r<;>rfl
theorem jo{xs:List V}{its:List δ}(r:ar xs its):(!its.toArray.isEmpty)=!xs.isEmpty:=by
 cases r<;>simp
theorem fh:(sizeLine:Nat)<2^63:=by rw[ω];decide
theorem Ao:Cw X (λx H Q=>∃k,yj X.K x H k/\Q k H):=by
 intro pins s σ H x v Q I rx h
 obtain⟨k,e,q⟩:=h
 have hl:=fh
 have hs:sizeLine=16777216:=ω
 cases x with
 |non=>
  cases rx
  have e':k=false:=e
  subst e'
  exact truthy_none ⟨H,I,q⟩
 |bl b=>
  cases rx
  have e':k=b:=e
  subst e'
  exact Ϸ ⟨H,I,q⟩
 |int i=>
  obtain⟨t,rfl⟩:=rx
  have e':k=(i != 0):=e
  subst e'
  exact PySem.P.truthy_int ⟨H,I,q⟩
 |str y=>
  obtain⟨t,rfl⟩:=rx
  obtain⟨hy,e'⟩:y.length<=sizeLine/\k=((y.length:Int) != 0):=e
  subst e'
  exact PySem.P.truthy_str () ⟨H,I.tok _,q⟩
 |byt y=>
  obtain⟨t,rfl⟩:=rx
  obtain⟨hy,e'⟩:y.size<=sizeLine/\k=((y.size:Int) != 0):=e
  subst e'
  exact PySem.W.truthy_bytes () ⟨H,I.tok _,q⟩
 |ref p=>
  cases rx
  have e':(∃xs,SqL X.K H p xs/\k=!xs.isEmpty)\/(∃xs,SqT X.K H p xs/\k=!xs.isEmpty)\/∃kvs,H p=some (.dK kvs)/\k=!kvs.isEmpty:=e
  rcases e' with ⟨xs,hx,e'⟩|⟨xs,hx,e'⟩|⟨kvs,hx,e'⟩
  ·subst e'
   obtain⟨its,r,pl,hz⟩:=I.list hx
   have hlen:=r.length
   exact wpAny_truthy_list pl.isList (by simp only[π];omega) ⟨H,I.tok _,by rw[jo r];exact q⟩
  ·subst e'
   obtain⟨its,r,pl,hz⟩:=I.tuple hx
   have hlen:=r.length
   exact truthy_tuple pl (by simp only[π];omega) ⟨H,I.tok _,by rw[jo r];exact q⟩
  ·subst e'
   obtain⟨hz,hS,vs,r,m⟩:kvs.length<=sizeLine/\(p==sysModules)=false/\∃vs,KV kvs vs/\s.heap.DictOf (aN X.prog X.w) p vs:=I.hok p _ hx
   have hlen:kvs.length=vs.length:=Paired.length r
   exact wpAny_truthy_dict hS m () ⟨H,I.tok _,by rw[qI r];exact q⟩
 |_=>exact(show False from e).elim
theorem pt_truth(ha:PE X a ta)(he:∀whole,isTrue a X.env whole=(do let v <-whole;standAt a.pos;holding [v] (truthy v))):
  PT X a (λσ H Q=>ta σ H λx H'=>∃k,yj X.K x H' k/\Q k H'):=by
 intro pins s σ H Q I h
 exact isTrue_plain (thn (ha pins s σ H _ I h) λv s1 ⟨x,H1,I1,r1,q1⟩=>Ao pins s1 σ H1 x v Q I1 r1 q1) (he _)
theorem bA:OpR X (binaryOp .Add) (λx y H Q=>∃i j,x=.str i/\y=.str j/\i.length+j.length<=sizeLine/\Q (.str (i++j)) H):=by
 intro pins s σ H x y v u Q I rx ry h
 obtain⟨i,j,rfl,rfl,hz,q⟩:=h
 obtain⟨t,rfl⟩:=rx
 obtain⟨t',rfl⟩:=ry
 exact add_str (λt' tk=>⟨.str (i++j),H,I.tok _,⟨_,rfl⟩,q⟩) hz
theorem cj{x:V}{us:List δ}(r:ar [x] us):∃u,us=[u]/\aw x u:=by
 cases r with
 |cons r1 r2=>cases r2;exact⟨_,rfl,r1⟩
theorem kW{x y:V}{us:List δ}(r:ar [x,y] us):∃u w',us=[u,w']/\aw x u/\aw y w':=by
 cases r with
 |cons r1 r2=>
  cases r2 with
  |cons r3 r4=>cases r4;exact⟨_,_,rfl,r1,r3⟩
theorem kU(hc:X.calm=true):bz X (.builtin "max") (λxs H Q=>∃i j,xs=[.int i,.int j]/\Q (.int (if j>i then j else i)) H):=by
 intro pins s σ H xs us Q I r h
 obtain⟨i,j,rfl,q⟩:=h
 obtain⟨u,w',rfl,⟨t,rfl⟩,⟨t',rfl⟩⟩:=kW r
 refine max_two_ints (I.ok.hd hc) λh' tk k=>⟨_,H,I.kept k,?_,q⟩
 by_cases hj:j>i
 ·rw[Q0 hj,Q0 hj];exact⟨_,rfl⟩
 ·rw[Q6 hj,Q6 hj];exact⟨_,rfl⟩
theorem tG(hc:X.calm=true):bz X (.builtin "min") (λxs H Q=>∃i j,xs=[.int i,.int j]/\Q (.int (if j<i then j else i)) H):=by
 intro pins s σ H xs us Q I r h
 obtain⟨i,j,rfl,q⟩:=h
 obtain⟨u,w',rfl,⟨t,rfl⟩,⟨t',rfl⟩⟩:=kW r
 refine min_two_ints (I.ok.hd hc) λh' tk k=>⟨_,H,I.kept k,?_,q⟩
 by_cases hj:j<i
 ·rw[Q0 hj,Q0 hj];exact⟨_,rfl⟩
 ·rw[Q6 hj,Q6 hj];exact⟨_,rfl⟩
theorem eF:bz X (.type "int") (λxs H Q=>(∃i,xs=[.int i]/\Q (.int i) H)\/∃k,xs=[.bl k]/\Q (.int (if k then 1 else 0)) H):=by
 intro pins s σ H xs us Q I r h
 rcases h with ⟨i,rfl,q⟩|⟨k,rfl,q⟩
 ·obtain⟨u,rfl,t,rfl⟩:=cj r
  exact call_int_int ⟨.int i,H,I,⟨_,rfl⟩,q⟩
 ·obtain⟨u,rfl,r1⟩:=cj r
  cases r1
  exact call_int_bool ⟨.int (if k then 1 else 0),H,I.tok _,⟨_,rfl⟩,q⟩
end
structure AZ(h:Heap)(x dx C:Addr)(mA:Str->Option δ):Prop where
 obj:h.get? x=some (F_ C dx)
 ns:h.Ns1 dx mA
 ne:dx≠x
theorem ud{h:Heap}{dx:Addr}{mA:Str->Option δ}(n:h.Ns1 dx mA):∃od,h.get? dx=some od/\∀name,Go name od=some (mA name):=by
 obtain⟨o,es,ep,ho,hd,hk,_,hm⟩:=n
 refine⟨o,ho,λname=>?_⟩
 have e:=hm name
 unfold nsFind findBy at e
 rw[<-Array.find?_toList]at e
 unfold Go
 rw[hd]
 dsimp only
 split
 ·rename_i y q
  rw[q]at e
  exact congrArg some e
 ·rename_i q
  rw[q]at e
  have a:es.toList.any (·.refKey)=false:=by
   rw[Dt]
   intro y hy
   obtain⟨z,t,hkey⟩:=hk y (Array.mem_toList_iff.mp hy)
   simp[ED.refKey,hkey]
  have a':¬ es.toList.any (·.refKey)=true:=by rw[a];exact Κ
  rw[Q6 a']
  exact congrArg some e
theorem AZ.look{h:Heap}{x dx C:Addr}{mA:Str->Option δ}(I:AZ h x dx C mA):∃od,PySem.W.InstAt h x (F_ C dx) C (some od)/\∀name,Go name od=some (mA name):=
 let ⟨od,ho,hl⟩:=ud I.ns
 ⟨od,⟨I.obj,rfl,rfl,ho⟩,hl⟩
section
variable{prog:Α}{w:Υ}{A:Ω}{E:δ->η->Prop}{s:η}{K:ζ}{x dx C f:Addr}{mA:Str->Option δ}{name:Str}{v:δ}
end
theorem iJ.some_of{v:V}{o:Option δ}(r:iJ (some v) o):∃u,o=some u/\aw v u:=by
 cases o with
 |none=>exact(show False from r).elim
 |some u=>exact⟨u,rfl,r⟩
theorem tV{v:V}{u:δ}(r:aw v u):PySem.W.handedIn u=true:=by
 cases v with
 |non=>cases(show u=a8 from r);rfl
 |bl b=>cases(show u=Gx b from r);rfl
 |int i=>obtain⟨t,e⟩:=(show ∃t,u=y8 i t from r);cases e;rfl
 |str x=>obtain⟨t,e⟩:=(show ∃t,u=i5 x t from r);cases e;rfl
 |byt b=>obtain⟨t,e⟩:=(show ∃t,u=δ.bytes b t from r);cases e;rfl
 |flt b=>obtain⟨t,e⟩:=(show ∃t,u=δ.float b t from r);cases e;rfl
 |ref a=>cases(show u=Ε a from r);rfl
 |ty n=>cases(show u=x5 n from r);rfl
section
variable{P:Α}{w:Υ}{H H':Hp}{h h':Heap}{a C dx:Addr}{fs fs':List (Str×V)}
theorem yM(hok:HOk P w H h)(e:H a=some (.ins C dx fs)):∃mA,AZ h a dx C mA/\(∀f,iJ (fs.lookup f) (mA f))/\PySem.Within mA (fs.map (·.1))/\fs.length<=1000/\H dx=some (.own a):=by
 obtain⟨d,z,ne,ob,mA,n,r,q⟩:=(show aM P w H h a (.ins C dx fs)from hok a _ e)
 exact⟨mA,⟨ob,n,ne⟩,r,q,z,d⟩
end
structure Cls(K:ζ)(C:Addr):Prop where
 pg:PySem.W.plainGet K C Str.empty=true
 hd:PySem.W.hasDictIn K C=true
 po:PySem.W.plainOver K C=true
 sa:y_ K (.ref C) "__setattr__"=some (some (.builtin "object.__setattr__"))
theorem Cls.get{K:ζ}{C:Addr}(c:Cls K C)(f:Str):PySem.W.plainGet K C f=true:=c.pg
section
variable{X:Cx}{pins:List (Addr×Obj)}{σ:St}{H:Hp}{s:η}{a C dx:Addr}{fs:List (Str×V)}{f:Str}{v:V}{A:Ω}{E:δ->η->Prop}
theorem yL{prog:Α}{w:Υ}{env:Env}{e:Expr}{f:Str}{pos:Pos}{s:η}{Q:δ->η->Prop}(hb:attributeBase e f env (eval e env)=eval e env)
  (h:wpAny (model prog w) A (eval e env) (λo s₁=>wpAny (model prog w) A (getAttr o f true) Q E s₁) E s):wpAny (model prog w) A (eval (.Attribute e f pos) env) Q E s:=
 Attribute_any_ h (by rw[arm_eval_Attribute,hb])
end
section
variable{X:Cx}{o e value:Expr}{f:Str}{pos pos' tpos:Pos}{ta tv:TE}
end
section
variable{X:Cx}{pins:List (Addr×Obj)}{σ:St}{H:Hp}{s:η}{A:Ω}{E:δ->η->Prop}{Q:δ->η->Prop}{c:δ}{b:Bool}
inductive eW (K:ζ) (H:Hp):V->δ->Prop where
 |non:eW K H .non (.type "NoneType")
 |bl (x:Bool):eW K H (.bl x) (.type "bool")
 |int (i:Int):eW K H (.int i) (.type "int")
 |str (x:Str):eW K H (.str x) (.type "str")
 |flt (x:UInt64):eW K H (.flt x) (.type "float")
 |lst {a:Addr} {xs:List V} (e:H a=some (.lst xs)):eW K H (.ref a) (.type "list")
 |frz {a:Addr} {o:Obj} {xs:List V} (e:H a=some (.frz o (.lst xs))):eW K H (.ref a) (.type "list")
 |tup {a:Addr} {xs:List V} (e:H a=some (.tup xs)):eW K H (.ref a) (.type "tuple")
 |dK {a:Addr} {kvs:List (Key×V)} (e:H a=some (.dK kvs)):eW K H (.ref a) (.type "dict")
 |dT {a:Addr} {kvs:List (List Key×V)} (e:H a=some (.dT kvs)):eW K H (.ref a) (.type "dict")
 |ins {a C dx:Addr} {fs:List (Str×V)} (e:H a=some (.ins C dx fs)) (cl:Cls K C) (ha:y_ K (.ref C) "__class__"=some (some (.builtin "object.__class__")))
   (hn:PySem.W.specialIn K (.builtin "object.__class__") "__get__"=some (some (.builtin "getset_descriptor.__get__"))) (htk:PySem.W.takesIn K (.builtin "object.__class__")=some true)
   (hm:PySem.W.mroIn K C (.type "object")=some true):eW K H (.ref a) (.ref C)
theorem uk{x:V}{u t:δ}(I:Inv X pins σ H s)(rx:aw x u)(ty:eW X.K H x t)(e:c9 X.K t c=some b)(h:∀tk,Q (.bool b) {s with toks:=tk}):
  wpAny (model X.prog X.w) A (call (.builtin "isinstance") [u,c]) Q E s:=by
 cases ty with
 |non=>cases(show u=a8 from rx);exact j9 PySem.W.kitx_none I.kIn z_ e (λz=>nomatch z) h
 |bl y=>cases(show u=Gx y from rx);exact j9 PySem.W.kitx_bool I.kIn z_ e (λz=>nomatch z) h
 |int i=>obtain⟨t,q⟩:=(show ∃t,u=y8 i t from rx);cases q;exact j9 PySem.W.kitx_int I.kIn z_ e (λz=>nomatch z) h
 |str y=>obtain⟨t,q⟩:=(show ∃t,u=i5 y t from rx);cases q;exact j9 PySem.W.kitx_str I.kIn z_ e (λz=>nomatch z) h
 |flt y=>obtain⟨t,q⟩:=(show ∃t,u=δ.float y t from rx);cases q;exact j9 PySem.W.kitx_float I.kIn z_ e (λz=>nomatch z) h
 | @lst a xs ea=>
  cases(show u=Ε a from rx)
  obtain⟨_,_,n,_,h1⟩:=(show aM X.prog X.w H s.heap a (.lst xs)from I.hok a _ ea)
  exact j9 PySem.W.kitx_list I.kIn ⟨_,h1,rfl⟩ e (λz=>nomatch z) h
 | @frz a ob xs ea=>
  cases(show u=Ε a from rx)
  obtain⟨_,_,_,n,_,h1⟩:=(show aM X.prog X.w H s.heap a (.frz ob (.lst xs))from I.hok a _ ea)
  exact j9 PySem.W.kitx_list I.kIn ⟨_,h1,rfl⟩ e (λz=>nomatch z) h
 | @tup a xs ea=>
  cases(show u=Ε a from rx)
  obtain⟨_,_,_,p⟩:=(show aM X.prog X.w H s.heap a (.tup xs)from I.hok a _ ea)
  obtain⟨⟨o,h1,h2,_⟩,_⟩:=p
  exact j9 PySem.W.kitx_tuple I.kIn ⟨o,h1,h2⟩ e (λz=>nomatch z) h
 | @dK a kvs ea=>
  cases(show u=Ε a from rx)
  obtain⟨_,_,vs,_,p⟩:=(show aM X.prog X.w H s.heap a (.dK kvs)from I.hok a _ ea)
  obtain⟨o,es,ep,h1,h2,_⟩:=p
  exact j9 PySem.W.kitx_dict I.kIn ⟨o,h1,h2.1⟩ e (λz=>nomatch z) h
 | @dT a kvs ea=>
  cases(show u=Ε a from rx)
  obtain⟨_,_,xs,_,o,es,ep,h1,h2,_⟩:=(show aM X.prog X.w H s.heap a (.dT kvs)from I.hok a _ ea)
  exact j9 PySem.W.kitx_dict I.kIn ⟨o,h1,h2.1⟩ e (λz=>nomatch z) h
 | @ins a C dx fs ea cl ha hn htk hm=>
  cases(show u=Ε a from rx)
  obtain⟨mA,O,_⟩:=yM I.hok ea
  obtain⟨od,J,_⟩:=O.look
  exact j9 (PySem.W.kitx_own (cl.get _) cl.hd ha hn htk hm) I.kIn J e (λz=>nomatch z) h
end
structure bK(k:Nat)(A:Ω):Prop where
 hd:A.handled=none
 dp:A.depth+3*k+5<recursionLimit
 un:A.units+16*k+200<cLine
theorem bK.mono{j k:Nat}{A:Ω}(r:bK k A)(h:j<=k):bK j A:=⟨r.hd,by have:=r.dp;omega,by have:=r.un;omega⟩
theorem bK.deeper{k:Nat}{A:Ω}(r:bK (k+1) A)(env:Env):bK k (A.deeper env):=
 ⟨r.hd,by have:=r.dp;show A.depth+1+3*k+5<_;omega,by have:=r.un;show A.units+3+16*k+200<_;omega⟩
theorem qN{A:Ω}{C:Addr}{us:List δ}{kw:List (Str×δ)}:(A.under (.builtin "type.__call__" ⟨.ref C::us,kw⟩)).depth=A.depth+1:=by
 first|rfl|simp[Ω.under,Code.weight,Code.isCreation,Code.isGuard,Code.isCaller,Code.frames,Code.isFrame,guardIds]
theorem pZ{A:Ω}{C:Addr}{us:List δ}{kw:List (Str×δ)}:(A.under (.builtin "type.__call__" ⟨.ref C::us,kw⟩)).units=A.units+1:=by
 first|rfl|simp[Ω.under,Code.cUnits,Code.frames,Code.isFrame]
theorem bK.make{k:Nat}{A:Ω}(r:bK (k+1) A)(C:Addr)(us:List δ)(kw:List (Str×δ)):bK k (A.under (.builtin "type.__call__" ⟨.ref C::us,kw⟩)):=
 ⟨r.hd,by have:=r.dp;rw[qN];omega,by have:=r.un;rw[pZ];omega⟩
theorem bK.depth{k:Nat}{A:Ω}(r:bK k A):A.depth<recursionLimit:=by have:=r.dp;omega
theorem bK.units{k:Nat}{A:Ω}(r:bK k A):A.units+64<cLine:=by have:=r.un;omega
def As:TA:=λ_ H Q=>Q [] H
def xi(ta:TE)(tr:TA):TA:=λσ H Q=>ta σ H λx H1=>tr σ H1 λxs H2=>Q (x::xs) H2
section
variable{X:Cx}{e:Expr}{es:List Expr}{te:TE}{t:TA}{pos:Pos}
theorem pa_nil:PA X [] As:=λ_ _ _ _ H Q I h=>Du ⟨[],H,I,.nil,h⟩
theorem pa_cons(ha:PE X e te)(hr:PA X es t)(hs:starEach (e::es) X.env=(false,eval e X.env)::starEach es X.env:=by rfl):PA X (e::es) (xi te t):=by
 intro pos pins s σ H Q I h
 rw[hs]
 show wpAny _ _ (spliced ((false,eval e X.env)::backTo pos (starEach es X.env))) _ _ s
 refine C_ (thn (ha pins s σ H _ I h) λu s1 ⟨x,H1,I1,r1,q1⟩=>?_)
 exact thn (hr pos pins s1 σ H1 _ I1 q1) λus s2 ⟨xs,H2,I2,r2,q2⟩=>⟨x::xs,H2,I2,.cons r1 r2,q2⟩
def Cg(t:TA):TE:=λσ H Q=>t σ H λxs H1=>xs.length<=sizeLine/\∀p,H1 p=none->Q (.ref p) (upd H1 p (.tup xs))
def Bi(t:TA):TE:=λσ H Q=>t σ H λxs H1=>xs.length<=sizeLine/\∀p,H1 p=none->Q (.ref p) (upd H1 p (.lst xs))
theorem pe_tup{x1}(h:PA X es t):PE X (.Tuple es x1 pos) (Cg t):=by
 intro pins s σ H Q I hq
 refine wpAny_Tuple_spliced (thn (h pos pins s σ H _ I hq) λus s1 ⟨xs,H1,I1,r,z,q⟩=>⟨by rw[<-r.length];exact z,?_⟩)
 have hf:H1 s1.heap.objs.size=none:=I1.hok.fresh (ρ _)
 refine⟨.ref s1.heap.objs.size,upd H1 s1.heap.objs.size (.tup xs),I1.laid (t':=s1.toks) (λb u e=>ι _ e) (ρ _) ?_,rfl,q _ hf⟩
 exact⟨z,us,r,⟨_,ψ _ rfl,rfl,_,rfl⟩,NoD.new _ rfl⟩
theorem pe_lst(h:PA X es t):PE X (.List es pos) (Bi t):=by
 intro pins s σ H Q I hq
 refine wpAny_List_spliced (thn (h pos pins s σ H _ I hq) λus s1 ⟨xs,H1,I1,r,z,q⟩=>⟨by rw[<-r.length];exact z,?_⟩)
 have hf:H1 s1.heap.objs.size=none:=I1.hok.fresh (ρ _)
 refine⟨.ref s1.heap.objs.size,upd H1 s1.heap.objs.size (.lst xs),I1.laid (t':=s1.toks) (λb u e=>ι _ e) (ρ _) ?_,rfl,q _ hf⟩
 exact⟨z,us,0,r,ψ _ rfl⟩
end
abbrev Sp:=List V->Hp->VK->XK->Prop
abbrev CXT:=List Env->Hp->η->XK->δ->η->Prop
structure pU(P:Α)(w:Υ)(K:ζ)(mg:Str->Option δ)(base:Heap)(A:Ω)(outer:List Env)(s:η)(H:Hp):Prop where
 frames:A.frames=some outer
 mod:Mod K mg base
 bs:∀b o,base.get? b=some o->s.heap.get? b=some o/\H b=none
 bsz:base.objs.size<=s.heap.objs.size
 funs:s.heap.FunFrames base outer
 frf:∀b∈frs outer,H b=none
 hok:HOk P w H s.heap
 bare:E7 s.gens
def CE(outer:List Env)(P:Α)(w:Υ)(H:Hp)(s:η)(Q:VK)(u:δ)(s':η):Prop:=
 ∃v H',s'.os=s.os/\E7 s'.gens/\Un (frs outer) [] H H' s.heap s'.heap/\HOk P w H' s'.heap/\aw v u/\Q v H'
def CR(CX:CXT)(outer:List Env)(P:Α)(w:Υ)(H:Hp)(s:η)(Q:VK)(E:XK)(r:Ff)(s':η):Prop:=
 match r with
 |.ok (.ret u)=>CE outer P w H s Q u s'
 |.ok _=>False
 |.error e=>CX outer H s E e s'
structure aG(P:Α)(w:Υ)(K:ζ)(mg:Str->Option δ)(base:Heap)(CX:CXT)(k:Nat)(f:Addr)(fd:Ο)(ps:List Str)(sp:Sp):Prop where
 len:∀vs H Q E,sp vs H Q E->vs.length=ps.length
 run:∀(A:Ω)(outer:List Env)(s:η)(H:Hp)(args:Args)(us:List δ)(vs:List V)(Q:VK)(E:XK),bK k A->pU P w K mg base A outer s H->Gw s fd args (ps.zip us)->ar vs us->sp vs H Q E ->
  codeAny (model P w) A (.call (.ref f) args) (CR CX outer P w H s Q E) s
theorem aG.mono{P:Α}{w:Υ}{K:ζ}{mg:Str->Option δ}{base:Heap}{CX:CXT}{j k:Nat}{f:Addr}{fd:Ο}{ps:List Str}{sp:Sp}(F:aG P w K mg base CX j f fd ps sp)(h:j<=k):
  aG P w K mg base CX k f fd ps sp:=⟨F.len,λA outer s H args us vs Q E hr=>F.run A outer s H args us vs Q E (hr.mono h)⟩
theorem pU.make{P:Α}{w:Υ}{K:ζ}{mg:Str->Option δ}{base:Heap}{A:Ω}{outer:List Env}{s:η}{H:Hp}(e:pU P w K mg base A outer s H)(C:Addr)(us:List δ)(kw:List (Str×δ)):
  pU P w K mg base (A.under (.builtin "type.__call__" ⟨.ref C::us,kw⟩)) outer s H:=⟨by first|exact e.frames|(simpa[Ω.under,Code.envs,Code.isFrame,pushEnvs]using e.frames),e.mod,e.bs,e.bsz,e.funs,e.frf,e.hok,e.bare⟩
section
variable{X:Cx}{pins:List (Addr×Obj)}{σ:St}{H:Hp}{s s':η}
theorem Inv.env0(I:Inv X pins σ H s):pU X.prog X.w X.K X.mg X.base X.A X.stack s H:=
 ⟨I.ok.frames,I.ok.mod,I.bs,Ϙ I.ok.bsz I.sz,I.stack,I.stkFree,I.hok,I.bare⟩
theorem Inv.after{Q:VK}{u:δ}(I:Inv X pins σ H s)(h:CE X.stack X.prog X.w H s Q u s'):EP X pins σ Q u s':=by
 obtain⟨v,H',os,bare,un,hok,r,q⟩:=h
 obtain⟨hh,g,d,t,os'⟩:=s'
 obtain rfl:os'=s.os:=os
 exact⟨v,H',I.call (h':=hh) (g':=g) (d':=d) (t':=t) (ch:=[]) un hok bare (λb z=>absurd z ()),r,q⟩
end
def vP(sp:Sp)(dvs:List V)(E:XK)(t:TA):TE:=λσ H Q=>t σ H λvs H1=>sp (vs++dvs) H1 Q E
def cf(K:ζ)(fd:Ο)(ps:List Str)(ds:List δ):Prop:=
 ∀(s:η)(us:List δ),K.In s.heap->(us++ds).length=ps.length->Gw s fd ⟨us,[]⟩ (ps.zip (us++ds))
theorem cf.all{K:ζ}{fd:Ο}{ps:List Str}(h:∀us:List δ,us.length=ps.length->bindArgs fd ⟨us,[]⟩=pure (ps.zip us)):cf K fd ps []:=λs us _ hl=>by
 rw[c_]at hl⊢
 exact .of_eq (h us hl)
def ma(CX:CXT)(X:Cx)(E:XK):Prop:=∀(pins:List (Addr×Obj))(σ:St)(H:Hp)(s:η)(e:δ)(s':η),Inv X pins σ H s->CX X.stack H s E e s'->X.xe e s'
section
variable{X:Cx}{CX:CXT}{k:Nat}{f C:Addr}{fd:Ο}{ps:List Str}{sp:Sp}{dvs:List V}{ds:List δ}{E:XK}{x m:Str}{p pos apos:Pos}{e o:Expr}{es:List Expr}{ta:TE}{t:TA}
theorem wM{pins:List (Addr×Obj)}{σ:St}{H:Hp}{s:η}{Q:VK}{us:List δ}{vs:List V}(F:aG X.prog X.w X.K X.mg X.base CX k f fd ps sp)(hr:bK k X.A)(hb:cf X.K fd ps ds)(hd:ar dvs ds)(hx:ma CX X E)
  (I:Inv X pins σ H s) (r:ar vs us) (h:sp (vs++dvs) H Q E):wpAny (model X.prog X.w) X.A (call (.ref f) us) (EP X pins σ Q) X.xe s:=by
 have r2:ar (vs++dvs) (us++ds):=r.append hd
 have hl:(us++ds).length=ps.length:=by rw[<-r2.length];exact F.len _ _ _ _ h
 refine Eg (B3 (F.run X.A X.stack s H ⟨us,[]⟩ (us++ds) (vs++dvs) Q E hr I.env0 (hb s us I.kIn hl) r2 h) λr s' hq=>?_)
 cases r with
 |error e=>exact hx pins σ H s e s' I hq
 |ok fl=>
  cases fl with
  |ret u=>exact I.after hq
  |next=>exact k4 hq
  |brk=>exact k4 hq
  |cont=>exact k4 hq
theorem rq(F:aG X.prog X.w X.K X.mg X.base CX k f fd ps sp)(hr:bK k X.A)(hg:Gl X x)(hm:X.mg x=some (.ref f))(hk:v_ X.K (.ref f)=true)(hb:cf X.K fd ps ds)(hd:ar dvs ds)(hx:ma CX X E)
  (ha:PA X (e::es) t) (hdb:(x==("__debug__" : Str))=false:=by decide) (he:starEach (e::es) X.env=(false,eval e X.env)::starEach es X.env:=by rfl) (hpl:(backTo pos (starEach es X.env)).any (·.1)=false:=by rfl):
  PE X (.Call (.Name x p) (e::es) [] pos) (vP sp dvs E t):=by
 intro pins s σ H Q I h
 refine i_ (fU I hg hm ?_ hdb)
 refine Eh (h₀:=X.base) I.ok.mod.kin hk (thn (ha pos pins s σ H _ I h) λus s1 ⟨vs,H1,I1,r,q⟩=>⟨I1.kIn,?_⟩) he hpl
 exact wM F hr hb hd hx I1 r q
end
section
variable{X:Cx}{CX:CXT}{k:Nat}{f C:Addr}{fd:Ο}{ps ks:List Str}{sp:Sp}{E:XK}{x m:Str}{p pos apos kpos:Pos}{e o:Expr}{es:List Expr}{kws:List Keyword}{te ta:TE}{t tk:TA}{nm:Option Str}
variable{g:List δ->List δ->List δ}{gV:List V->List V->List V}
end
structure am(N P:List Str)(sc:Et):Prop where
 kind:sc.kind=.function
 co:sc.isCoroutine=false
 gen:sc.isGenerator=false
 nd:N.Nodup
 pre:N.take P.length=P
 par:∀x∈P,sc.names.lookup x=some .local\/sc.names.lookup x=some .cell
 nofree:∀y∈sc.names,y.2≠.free
theorem kM{kindOf:Str->Option DH}{x:Str}:∀{binds:List (Str×δ)}{m:Str->Option δ},(∀v,(x,v)∉binds)->bindL kindOf binds m x=m x
 |[],_,_=>rfl
 |(n,v)::r,m,h=>by
  unfold bindL
  rw[kM λw hw=>h w (υ _ hw)]
  split
  ·have:x≠n:=by rintro rfl;exact h v Δ
   simp[this]
  ·rfl
theorem kL{kindOf:Str->Option DH}{x:Str}:∀{binds:List (Str×δ)}{m:Str->Option δ},(∀v,(x,v)∉binds)->bindC kindOf binds m x=m x
 |[],_,_=>rfl
 |(n,v)::r,m,h=>by
  unfold bindC
  rw[kL λw hw=>h w (υ _ hw)]
  split
  ·rfl
  ·have:x≠n:=by rintro rfl;exact h v Δ
   simp[this]
theorem kT{kindOf:Str->Option DH}{x:Str}{v:δ}:∀{P:List Str}{vs:List δ}{i:Nat}{m:Str->Option δ},P.Nodup->P[i]?=some x->vs[i]?=some v->kindOf x=some .local ->
  bindL kindOf (P.zip vs) m x=some v
 |[],_,_,_,_,h,_,_=>by simp at h
 |_::_,[],_,_,_,_,h,_=>by simp at h
 |p::P,w::vs,0,m,nd,h1,h2,hk=>by
  simp at h1 h2;subst h1;subst h2
  show bindL kindOf ((p,w)::P.zip vs) m p=_
  unfold bindL
  rw[kM λv hv=>(m9.mp nd).1 (Gb hv).1,Q0 hk]
  simp
 |p::P,w::vs,i+1,m,nd,h1,h2,hk=>by
  show bindL kindOf ((p,w)::P.zip vs) m x=_
  unfold bindL
  exact kT (i:=i) (m9.mp nd).2 (by simpa using h1) (by simpa using h2) hk
theorem lq{kindOf:Str->Option DH}{x:Str}{v:δ}:∀{P:List Str}{vs:List δ}{i:Nat}{m:Str->Option δ},P.Nodup->P[i]?=some x->vs[i]?=some v->kindOf x≠some .local ->
  bindC kindOf (P.zip vs) m x=some v
 |[],_,_,_,_,h,_,_=>by simp at h
 |_::_,[],_,_,_,_,h,_=>by simp at h
 |p::P,w::vs,0,m,nd,h1,h2,hk=>by
  simp at h1 h2;subst h1;subst h2
  show bindC kindOf ((p,w)::P.zip vs) m p=_
  unfold bindC
  rw[kL λv hv=>(m9.mp nd).1 (Gb hv).1,Q6 hk]
  simp
 |p::P,w::vs,i+1,m,nd,h1,h2,hk=>by
  show bindC kindOf ((p,w)::P.zip vs) m x=_
  unfold bindC
  exact lq (i:=i) (m9.mp nd).2 (by simpa using h1) (by simpa using h2) hk
def eK(N:List Str)(vs:List V):St:=vs.map some++Β (N.length-vs.length) none
def aT(CX:CXT)(P:Α)(w:Υ)(K:ζ)(mg:Str->Option δ)(base:Heap)(N:List Str)(qual:Str)(scope:Et)(f:Addr)(cd:δ)(A:Ω)(outer:List Env)(s:η)(H:Hp)(E:XK):Cx where
 prog:=P
 w:=w
 K:=K
 mg:=mg
 base:=base
 A:=A.deeper (envOfC qual scope s.heap.objs.size f cd)
 N:=N
 s₀:=s
 H₀:=H
 env:=envOfC qual scope s.heap.objs.size f cd
 outer:=outer
 stack:=envOfC qual scope s.heap.objs.size f cd::outer
 ex:=[]
 calm:=true
 fn:=λ_=>true
 pn:=[]
 xe:=λe s'=>wpAny (model P w) (A.deeper (envOfC qual scope s.heap.objs.size f cd)) (leaving (envOfC qual scope s.heap.objs.size f cd) e) (λ_ s''=>CX outer H s E e s'') (λe' s''=>CX outer H s E e' s'') s'
theorem nI{sc:Et}{n:Nat}{x:Str}(h:sc.names.lookup x=some .cell):∃c,(cellsFrom n sc.names []).lookup x=some c:=by
 have q:=PySem.W.cellsFrom_some sc.names n [] (.inl h)
 exact Option.isSome_iff_exists.mp q
theorem uL{CX:CXT}{P:Α}{w:Υ}{K:ζ}{mg:Str->Option δ}{base:Heap}{N ps:List Str}{qual:Str}{scope:Et}{f:Addr}{cd:δ}{A:Ω}{outer:List Env}{s s1:η}{H:Hp}{E:XK}{us:List δ}{vs:List V}
  (S:am N ps scope) (hd:A.handled=none) (e0:pU P w K mg base A outer s H) (hl:vs.length=ps.length) (r:ar vs us)
  (x:InCallC s s.heap.objs.size (bindL (envOfC qual scope s.heap.objs.size f cd).kindOf (ps.zip us) λ_=>none) (cellsFrom (s.heap.objs.size+1) scope.names []) (bindC (envOfC qual scope s.heap.objs.size f cd).kindOf (ps.zip us) λ_=>none) s1):
  Inv (aT CX P w K mg base N qual scope f cd A outer s H E) [] (eK N vs) H s1:=by
 have hpl:ps.length<=N.length:=by have:=congrArg List.length S.pre;rw[Φ]at this;omega
 obtain⟨h1,tk,rfl,hk⟩:=x.done
 have noA:∀b:Addr,b∉(aT CX P w K mg base N qual scope f cd A outer s H E).ex:=λb z=>absurd (show b∈([]:List Addr)from z) ()
 refine⟨⟨e0.mod,S.kind,rfl,rfl,ρ _,λy z c h1 h2=>?_,λy hy=>?_,λy c _ h=>?_,λ_=>hd,Ω.frames_deeper e0.frames,.inr ⟨rfl,rfl⟩,λb z=>absurd z (noA b),e0.bs,e0.bsz,λb _ _=>noA b,λb z=>absurd z (noA b),e0.funs,e0.frf⟩,
  rfl,e0.bare,Un.kept hk,⟨_,x.toInCall.ns,λi y v h1 h2 h3=>?_⟩,λy c h=>⟨_,x.cell y c h⟩,e0.hok.fresh (ρ _),λy c h=>?_,λp hp=>absurd (show p∈([]:List (Addr×Obj))from hp) (),e0.hok.kept hk,?_⟩
 ·exact name_of_addr x.apart (C2 h1) (C2 h2)
 ·have hy:scope.names.lookup y=some .cell\/scope.names.lookup y=some .free:=hy
  rcases hy with hy|hy
  ·exact nI hy
  ·exact absurd rfl (S.nofree _ (C2 hy))
 ·exact x_ (x.above y c (C2 h))
 ·have hi:i<vs.length:=by
   unfold eK at h2
   by_cases hi:i<vs.length
   ·exact hi
   ·rw[A2 (by simpa using hi)]at h2
    rw[List.getElem?_replicate]at h2
    split at h2<;>cases h2
  have ha:vs[i]?=some v:=by
   unfold eK at h2
   rw[Ft (by simpa using hi),Ν]at h2
   cases e:vs[i]? with
   |none=>rw[e]at h2;cases h2
   |some a=>rw[e]at h2;cases h2;rfl
  obtain⟨u,hu,rv⟩:=r.get ha
  have hp:ps[i]?=some y:=by
   rw[<-S.pre,List.getElem?_take_of_lt ()];exact h1
  have ndP:ps.Nodup:=by rw[<-S.pre];exact S.nd.sublist (FA _ _)
  refine⟨u,rv,?_⟩
  rcases S.par y (Λ hp)with k|k
  ·exact .inl ⟨k,kT ndP hp hu k⟩
  ·obtain⟨c,e⟩:=nI (n:=s.heap.objs.size+1) k
   refine .inr ⟨.inl k,c,e,?_⟩
   have q:=x.cell y c e
   rw[lq ndP hp hu (by show scope.names.lookup y≠_;rw[k];decide)]at q
   exact q
 ·exact e0.hok.fresh (x_ (x.above y c (C2 h)))
 ·unfold eK
  show _=N.length
  rw[χ,ε,u7]
  omega
theorem vk{CX:CXT}{P:Α}{w:Υ}{K:ζ}{mg:Str->Option δ}{base:Heap}{k:Nat}{f:Addr}{name qual:Str}{params:Arguments}{body:List Stmt}{scope:Et}{dV kV doc pm cdv ct oc:δ}{an od:Option Addr}
  {osl:Array (Option δ)} {N ps:List Str} {sp:Sp} (lk:K.lookup f=some ⟨oc,od,.func (q_ name qual params body scope dV kV doc pm an cdv ct),osl⟩) (hcd:DI K cdv qual=true) (S:am N ps scope)
  (len:∀vs H Q E,sp vs H Q E->vs.length=ps.length)
  (hbody:∀(A:Ω)(outer:List Env)(s:η)(H:Hp)(vs:List V)(Q:VK)(E:XK),bK k (A.deeper (envOfC qual scope s.heap.objs.size f cdv))->sp vs H Q E ->
   ∃t,PSs (aT CX P w K mg base N qual scope f cdv A outer s H E) body t/\t {nx:=λ_ H'=>Q .non H',rt:=Q} (eK N vs) H):
  aG P w K mg base CX (k+1) f (q_ name qual params body scope dV kV doc pm an cdv ct) ps sp:=by
 refine⟨len,λA outer s H args us vs Q E hr e0 hb r hsp=>?_⟩
 have hl:=len _ _ _ _ hsp
 have KX:K.In s.heap:=e0.mod.kin.keeps λb o e=>(e0.bs b o e).1
 have lim:s.heap.NoLimit:=e0.mod.nolimit.keeps λb o e=>(e0.bs b o e).1
 have hkind:∀y∈ps.zip us,scope.names.lookup y.1=some .local\/(scope.names.lookup y.1=some .cell/\((cellsFrom (s.heap.objs.size+1) scope.names []).lookup y.1).isSome=true):=λ⟨n,v⟩ hy=>by
  rcases S.par n (Gb hy).1 with q|q
  ·exact .inl q
  ·exact .inr ⟨q,PySem.W.cellsFrom_some _ _ _ (.inl q)⟩
 refine codeAny_call_function hr.depth (KX _ _ lk) rfl S.co S.gen rfl (PySem.W.codeRec_of KX hcd) (hb _ _ _ _ ?_)
 refine wpAny_newFunctionEnv_cells S.kind hkind λenv he s1 x=>?_
 subst he
 refine⟨lim.keeps x.toInCall.keep,codeAny_func ?_⟩
 obtain⟨t,ht,hq⟩:=hbody A outer s H vs Q E (hr.deeper _) hsp
 have I:Inv (aT CX P w K mg base N qual scope f cdv A outer s H E) [] (eK N vs) H s1:=uL S hr.hd e0 hl r x
 refine i8 (ht [] s1 (eK N vs) H _ I hq) (λfl s' hs=>?_) λe s' hs=>hs
 have fin:∀{σ':St}{H':Hp}{v:V}{u:δ},Inv (aT CX P w K mg base N qual scope f cdv A outer s H E) [] σ' H' s'->aw v u->Q v H'->CE outer P w H s Q u s':=
  λ{σ' H' v u} J rv q=>⟨v,H',J.os,J.bare,J.base,J.hok,rv,q⟩
 cases fl with
 |ret u=>
  obtain⟨v,σ',H',J,rv,q⟩:=hs
  exact fin J rv q
 |next=>
  obtain⟨σ',H',J,q⟩:=hs
  exact fin (v:=V.non) (u:=a8) J rfl q
 |brk=>
  obtain⟨_,_,_,q⟩:=hs
  exact k4 q
 |cont=>
  obtain⟨_,_,_,q⟩:=hs
  exact k4 q
section
variable{X:Cx}{x:Str}{p pos:Pos}{e:Expr}{es:List Expr}{t:TA}{id T:String}{r:List V->Hp->VK->Prop}
def tCB(r:List V->Hp->VK->Prop)(t:TA):TE:=λσ H Q=>t σ H λvs H1=>r vs H1 Q
theorem pe_callB(hc:bz X (.builtin id) r)(hg:Gl X x)(hm:X.mg x=none)(hv:bootBuiltins x=some (.builtin id))(ha:PA X (e::es) t)(hn:x≠"__name__":=by decide)(hdb:(x==("__debug__" : Str))=false:=by decide)
  (he:starEach (e::es) X.env=(false,eval e X.env)::starEach es X.env:=by rfl) (hpl:(backTo pos (starEach es X.env)).any (·.1)=false:=by rfl):PE X (.Call (.Name x p) (e::es) [] pos) (tCB r t):=by
 intro pins s σ H Q I h
 refine i_ (cF I hg hm hv ?_ hn hdb)
 exact PyProof.Rows.callWith_builtin1 (thn (ha pos pins s σ H _ I h) λus s1 ⟨vs,H1,I1,r1,q1⟩=>hc pins s1 σ H1 vs us Q I1 r1 q1) he hpl
theorem pe_callTy(hc:bz X (.type T) r)(hg:Gl X x)(hm:X.mg x=none)(hv:bootBuiltins x=some (.type T))(ha:PA X (e::es) t)(hn:x≠"__name__":=by decide)(hdb:(x==("__debug__" : Str))=false:=by decide)
  (he:starEach (e::es) X.env=(false,eval e X.env)::starEach es X.env:=by rfl) (hpl:(backTo pos (starEach es X.env)).any (·.1)=false:=by rfl):PE X (.Call (.Name x p) (e::es) [] pos) (tCB r t):=by
 intro pins s σ H Q I h
 refine i_ (cF I hg hm hv ?_ hn hdb)
 exact Ϻ (thn (ha pos pins s σ H _ I h) λus s1 ⟨vs,H1,I1,r1,q1⟩=>hc pins s1 σ H1 vs us Q I1 r1 q1) he hpl
end
section
variable{κ:Type}[DecidableEq κ]
def ca(kvs:List (κ×V))(k:κ):Option V:=(kvs.find? λkv=>decide (kv.1=k)).map (·.2)
def cx(kvs:List (κ×V))(k:κ)(v:V):List (κ×V):=
 if (kvs.any λkv=>decide (kv.1=k))=true then kvs.map (λkv=>if kv.1=k then (kv.1,v)else kv)else kvs++[(k,v)]
def je(kvs:List (κ×V))(k:κ):List (κ×V):=kvs.filter λkv=>decide (kv.1≠k)
theorem dE{p:κ×V}{r:List (κ×V)}{k:κ}(e:p.1=k):ca (p::r) k=some p.2:=by simp[ca,j_,e]
theorem dL{p:κ×V}{r:List (κ×V)}{k:κ}(e:¬ p.1=k):ca (p::r) k=ca r k:=by simp[ca,j_,e]
theorem nZ(k:κ):∀kvs:List (κ×V),(kvs.any λkv=>decide (kv.1=k))=(ca kvs k).isSome
 |[]=>rfl
 |p::r=>by
  rw[D_]
  by_cases e:p.1=k
  ·simp only[dE e,Q9 e,Bool.true_or,Option.isSome_some]
  ·rw[dL e,Q8 e,B6];exact nZ k r
theorem ip(kvs:List (κ×V))(k:κ)(v:V):(cx kvs k v).length<=kvs.length+1:=by
 unfold cx
 split
 ·rw[ε];omega
 ·rw[χ,ϒ,Ed];omega
theorem iJ.isSome_eq{o:Option V}{u:Option δ}(r:iJ o u):o.isSome=u.isSome:=by
 cases o with
 |none=>cases u with
  |none=>rfl
  |some _=>exact(show False from r).elim
 |some _=>cases u with
  |none=>exact(show False from r).elim
  |some _=>rfl
theorem KV.val{kvs:List (κ×V)}{vs:List (κ×δ)}(r:KV kvs vs)(k:κ):iJ (ca kvs k) (valueAt vs k):=by
 unfold KV at r
 induction r with
 |nil=>exact z_
 | @cons p q ps qs h t ih=>
  obtain⟨h1,h2⟩:=h
  by_cases e:p.1=k
  ·have e':q.1=k:=h1.symm.trans e
   have b:valueAt (q::qs) k=some q.2:=by simp[valueAt,j_,e']
   rw[dE e,b];exact h2
  ·have e':¬ q.1=k:=λz=>e (h1.trans z)
   have b:valueAt (q::qs) k=valueAt qs k:=by simp[valueAt,j_,e']
   rw[dL e,b];exact ih
theorem KV.any{kvs:List (κ×V)}{vs:List (κ×δ)}(r:KV kvs vs)(k:κ):(kvs.any λkv=>decide (kv.1=k))=vs.any λkv=>decide (kv.1=k):=by
 unfold KV at r
 induction r with
 |nil=>rfl
 |cons h t ih=>rw[D_,D_,ih,h.1]
theorem KV.repl{kvs:List (κ×V)}{vs:List (κ×δ)}(r:KV kvs vs)(k:κ){y:V}{u:δ}(ry:aw y u):
  KV (kvs.map λkv=>if kv.1=k then (kv.1,y)else kv) (vs.map λkv=>if kv.1=k then (kv.1,u)else kv):=by
 unfold KV at r⊢
 induction r with
 |nil=>exact .nil
 | @cons p q ps qs h t ih=>
  rw[ό,ό]
  refine .cons ?_ ih
  obtain⟨h1,h2⟩:=h
  by_cases e:p.1=k
  ·rw[Q0 e,Q0 (h1.symm.trans e)];exact⟨h1,ry⟩
  ·rw[Q6 e,Q6 (λz=>e (h1.trans z))];exact⟨h1,h2⟩
theorem KV.put{kvs:List (κ×V)}{vs:List (κ×δ)}(r:KV kvs vs)(k:κ){y:V}{u:δ}(ry:aw y u):KV (cx kvs k y) (stored vs k u):=by
 unfold cx stored
 rw[r.any k]
 by_cases e:(vs.any λkv=>decide (kv.1=k))=true
 ·rw[Q0 e,Q0 e];exact r.repl k ry
 ·rw[Q6 e,Q6 e];exact Paired.snoc r ⟨rfl,ry⟩
theorem KV.drop{kvs:List (κ×V)}{vs:List (κ×δ)}(r:KV kvs vs)(k:κ):KV (je kvs k) (without vs k):=by
 unfold KV at r⊢
 unfold je without
 induction r with
 |nil=>exact .nil
 | @cons p q ps qs h t ih=>
  obtain⟨h1,h2⟩:=h
  rw[FP,FP]
  by_cases e:p.1=k
  ·have a:¬ decide (p.1≠k)=true:=by simp[e]
   have b:¬ decide (q.1≠k)=true:=by simp[h1.symm.trans e]
   rw[Q6 a,Q6 b];exact ih
  ·have e':¬ q.1=k:=λz=>e (h1.trans z)
   have a:decide (p.1≠k)=true:=by simp[e]
   have b:decide (q.1≠k)=true:=by simp[e']
   rw[Q0 a,Q0 b];exact .cons ⟨h1,h2⟩ ih
theorem KV.keys{kvs:List (κ×V)}{vs:List (κ×δ)}(r:KV kvs vs):kvs.map (·.1)=vs.map (·.1):=by
 unfold KV at r
 induction r with
 |nil=>rfl
 |cons h t ih=>rw[ό,ό,ih,h.1]
theorem KV.length{kvs:List (κ×V)}{vs:List (κ×δ)}(r:KV kvs vs):kvs.length=vs.length:=Paired.length r
theorem vK(kvs:List (κ×V))(k:κ):(je kvs k).length<=kvs.length:=Dq _ _
end
theorem gt{P:Α}{w:Υ}{k:Key}{u:δ}(r:aw (kV k) u):(aN P w).is k u=true:=by
 cases k with
 |inl i=>obtain⟨t,e⟩:=(show ∃t,u=y8 i t from r);subst e;exact pE P w i t
 |inr x=>obtain⟨t,e⟩:=(show ∃t,u=i5 x t from r);subst e;exact dW P w x t
theorem kE{P:Α}{w:Υ}:∀{ks:List Key}{us:List δ},ar (ks.map kV) us->ItemsAre (aN P w) ks us
 |[],_,r=>by rw[Ϫ]at r;cases r;exact .nil
 |k::ks,_,r=>by
  rw[ό]at r
  cases r with
  |cons h t=>exact .cons (gt h) (kE t)
abbrev KT(H:Hp):List (List Key×V)->List (List Key×Addr×δ)->Prop:=Paired λp q=>p.1=q.1/\H q.2.1=some (.tup (p.1.map kV))/\aw p.2 q.2.2
theorem KT.val{H:Hp}{kvs:List (List Key×V)}{xs:List (List Key×Addr×δ)}(r:KT H kvs xs)(k:List Key):iJ (ca kvs k) ((atKey xs k).map (·.2)):=by
 induction r with
 |nil=>exact z_
 | @cons p q ps qs h t ih=>
  obtain⟨h1,_,h2⟩:=h
  by_cases e:p.1=k
  ·have e':q.1=k:=h1.symm.trans e
   have b:atKey (q::qs) k=some q.2:=by simp[atKey,j_,e']
   rw[dE e,b];exact h2
  ·have e':¬ q.1=k:=λz=>e (h1.trans z)
   have b:atKey (q::qs) k=atKey qs k:=by simp[atKey,j_,e']
   rw[dL e,b];exact ih
theorem KT.repl{H:Hp}{kvs:List (List Key×V)}{xs:List (List Key×Addr×δ)}(r:KT H kvs xs)(k:List Key){y:V}{u:δ}(ry:aw y u):
  KT H (kvs.map λkv=>if kv.1=k then (kv.1,y)else kv) (xs.map (putAt k u)):=by
 induction r with
 |nil=>exact .nil
 | @cons p q ps qs h t ih=>
  rw[ό,ό]
  refine .cons ?_ ih
  obtain⟨h1,h2,h3⟩:=h
  unfold putAt
  by_cases e:p.1=k
  ·rw[Q0 e,Q0 (h1.symm.trans e)];exact⟨h1,h2,ry⟩
  ·rw[Q6 e,Q6 (λz=>e (h1.trans z))];exact⟨h1,h2,h3⟩
theorem KT.put{H:Hp}{kvs:List (List Key×V)}{xs:List (List Key×Addr×δ)}(r:KT H kvs xs)(k:List Key){b:Addr}{y:V}{u:δ}(hb:H b=some (.tup (k.map kV)))(ry:aw y u):
  KT H (cx kvs k y) (storedH xs k b u):=by
 have e:(kvs.any λkv=>decide (kv.1=k))=(atKey xs k).isSome:=by
  rw[nZ,(r.val k).isSome_eq,Dw]
 unfold cx storedH
 rw[e]
 by_cases q:(atKey xs k).isSome=true
 ·rw[Q0 q,Q0 q];exact r.repl k ry
 ·rw[Q6 q,Q6 q];exact Paired.snoc r ⟨rfl,hb,ry⟩
theorem KT.keeps{H H':Hp}{kvs:List (List Key×V)}{xs:List (List Key×Addr×δ)}(r:KT H kvs xs)(ht:∀b ys,H b=some (.tup ys)->H' b=some (.tup ys)):KT H' kvs xs:=
 Paired.mapP r λ_ _ z=>⟨z.1,ht _ _ z.2.1,z.2.2⟩
section
variable{P:Α}{w:Υ}{H:Hp}{h:Heap}{a:Addr}
theorem zo{u:HO}(ok:HOk P w H h)(e:Rd H a u):aM P w H h a u:=e.ok ok
theorem jC{kvs:List (Key×V)}(ok:HOk P w H h)(e:Rd H a (.dK kvs)):kvs.length<=sizeLine/\(a==sysModules)=false/\∃vs,KV kvs vs/\h.DictOf (aN P w) a vs:=
 show aM P w H h a (.dK kvs)from zo ok e
theorem oZ{kvs:List (Key×V)}(ok:HOk P w H h)(e:H a=some (.dK kvs)):kvs.length<=sizeLine/\(a==sysModules)=false/\∃vs,KV kvs vs/\h.DictOf (aN P w) a vs:=jC ok (.inl e)
theorem jP{ks:List Key}(ok:HOk P w H h)(e:H a=some (.tup (ks.map kV))):(tupleKind (aN P w)).is h ks a:=by
 obtain⟨_,its,r,⟨o,h1,h2,n,h3⟩,_⟩:=(show aM P w H h a (.tup (ks.map kV))from ok a _ e)
 exact⟨o,its.toArray,n,h1,h2,h3,by simpa using kE r⟩
theorem ky{kvs:List (List Key×V)}(ok:HOk P w H h)(e:Rd H a (.dT kvs)):kvs.length<=sizeLine/\(a==sysModules)=false /\
  ∃xs,KT H kvs xs/\h.DictOfH (tupleKind (aN P w)) a xs:=by
 obtain⟨z,y,xs,r,o,es,ep,h1,h2,h3,h4,h5⟩:=(show aM P w H h a (.dT kvs)from zo ok e)
 refine⟨z,y,xs,r,o,es,ep,h1,h2,h3,h4,λx hx=>?_,h5⟩
 have all:∀{l:List (List Key×V)}{m:List (List Key×Addr×δ)},KT H l m->∀x∈m,(tupleKind (aN P w)).is h x.1 x.2.1:=by
  intro l m q
  induction q with
  |nil=>intro x hx;exact nomatch hx
  | @cons p q ps qs hq t ih=>
   intro x hx
   rcases μ.mp hx with e|hx
   ·subst e
    exact jP ok (by rw[<-hq.1];exact hq.2.1)
   ·exact ih x hx
 exact all r x hx
theorem BE{kvs:List (List Key×V)}(ok:HOk P w H h)(e:H a=some (.dT kvs)):kvs.length<=sizeLine/\(a==sysModules)=false /\
  ∃xs,KT H kvs xs/\h.DictOfH (tupleKind (aN P w)) a xs:=ky ok (.inl e)
end
def fO(H:Hp)(a:Addr)(y:V)(r:Option V):Prop:=
 (∃kvs k,Rd H a (.dK kvs)/\y=kV k/\r=ca kvs k)\/∃kvs k b,Rd H a (.dT kvs)/\y=.ref b/\H b=some (.tup (k.map kV))/\r=ca kvs k
def iG(H:Hp)(a:Addr)(y v:V)(H':Hp):Prop:=
 (∃kvs k,H a=some (.dK kvs)/\y=kV k/\kvs.length<sizeLine/\H'=upd H a (.dK (cx kvs k v))) \/
 ∃kvs k b,H a=some (.dT kvs)/\y=.ref b/\H b=some (.tup (k.map kV))/\kvs.length<sizeLine/\H'=upd H a (.dT (cx kvs k v))
theorem fO.k{H:Hp}{a:Addr}{kvs:List (Key×V)}{k:Key}(e:H a=some (.dK kvs)):fO H a (kV k) (ca kvs k):=.inl ⟨kvs,k,.inl e,rfl,rfl⟩
theorem iG.k{H:Hp}{a:Addr}{kvs:List (Key×V)}{k:Key}{v:V}(e:H a=some (.dK kvs))(hl:kvs.length<sizeLine):iG H a (kV k) v (upd H a (.dK (cx kvs k v))):=.inl ⟨kvs,k,e,rfl,hl,rfl⟩
section
variable{X:Cx}{pins:List (Addr×Obj)}{σ:St}{H:Hp}{s:η}{a:Addr}{y v:V}{u r:δ}{o:Option V}{A:Ω}{E:δ->η->Prop}
theorem Inv.big(I:Inv X pins σ H s):sysModules<s.heap.objs.size:=by
 have h:mainGlobals<s.heap.objs.size:=(I.mod.glob.keeps I.bk).lt
 exact Nat.lt_trans () h
theorem tS{Q:δ->η->Prop}(hu:A.units+1<cLine)(I:Inv X pins σ H s)(g:fO H a y (some v))(ry:aw y u)(h:∀w' s',Inv X pins σ H s'->aw v w'->Q w' s'):
  wpAny (model X.prog X.w) A (getItem (.ref a) u) Q E s:=by
 rcases g with ⟨kvs,k,e,ey,l⟩|⟨kvs,k,b,e,ey,eb,l⟩
 ·subst ey
  obtain⟨z,hd,vs,rel,dd⟩:=jC I.hok e
  obtain⟨w',hw,rw'⟩:=iJ.some_of (v:=v) (o:=valueAt vs k) (by rw[l];exact rel.val k)
  exact wpAny_getItem_of (gt ry) dd.mapOf hw (h w' _ (I.tok _) rw')
 ·subst ey
  cases(show u=Ε b from ry)
  obtain⟨z,hd,xs,rel,dd⟩:=ky I.hok e
  obtain⟨w',hw,rw'⟩:=iJ.some_of (v:=v) (o:=(atKey xs k).map (·.2)) (by rw[l];exact rel.val k)
  obtain⟨p,hp,hp2⟩:=c6.mp hw
  refine wpAny_getItem_heap (Ei hu) (jP I.hok eb) dd hp ?_
  rw[hp2]
  exact h w' _ (I.tok _) rw'
theorem CQ{Q:δ->η->Prop}(hu:A.units+1<cLine)(I:Inv X pins σ H s)(g:fO H a y o)(ry:aw y u)(h:∀s',Inv X pins σ H s'->Q (.bool o.isSome) s'):
  wpAny (model X.prog X.w) A (compareOp .In u (.ref a)) Q E s:=by
 rcases g with ⟨kvs,k,e,ey,l⟩|⟨kvs,k,b,e,ey,eb,l⟩
 ·subst ey
  obtain⟨z,hd,vs,rel,dd⟩:=jC I.hok e
  refine wpAny_in_of (gt ry) hd dd.mapOf ?_
  rw[<-(rel.val k).isSome_eq,<-l]
  exact h _ (I.tok _)
 ·subst ey
  cases(show u=Ε b from ry)
  obtain⟨z,hd,xs,rel,dd⟩:=ky I.hok e
  refine wpAny_in_heap (Ei hu) (jP I.hok eb) hd dd ?_
  have q:=(rel.val k).isSome_eq
  rw[Dw]at q
  rw[<-q,<-l]
  exact h _ (I.tok _)
theorem yh{Q:δ->η->Prop}(hu:A.units+1<cLine)(I:Inv X pins σ H s)(g:fO H a y o)(ry:aw y u)(h:∀s',Inv X pins σ H s'->Q (.bool (!o.isSome)) s'):
  wpAny (model X.prog X.w) A (compareOp .NotIn u (.ref a)) Q E s:=by
 rcases g with ⟨kvs,k,e,ey,l⟩|⟨kvs,k,b,e,ey,eb,l⟩
 ·subst ey
  obtain⟨z,hd,vs,rel,dd⟩:=jC I.hok e
  refine wpAny_notIn_of (gt ry) hd dd.mapOf ?_
  rw[<-(rel.val k).isSome_eq,<-l]
  exact h _ (I.tok _)
 ·subst ey
  cases(show u=Ε b from ry)
  obtain⟨z,hd,xs,rel,dd⟩:=ky I.hok e
  refine wpAny_notIn_heap (Ei hu) (jP I.hok eb) hd dd ?_
  have q:=(rel.val k).isSome_eq
  rw[Dw]at q
  rw[<-q,<-l]
  exact h _ (I.tok _)
theorem mR{h':Heap}{t':Nat}{ob:HO}(I:Inv X pins σ H s)(mu:Mut (H a))(hs:C8 a s.heap h')(he:∃q,h'.get? a=some q)(new:aM X.prog X.w (upd H a ob) h' a ob):
  Inv X pins σ (upd H a ob) {s with heap:=h',toks:=t'}:=
 I.write (x:=a) (e:=a) mu (.inl rfl) (λb q hb z=>(hs.2 b hb).trans z) he new
theorem qW{P:Α}{w:Υ}{H':Hp}{h':Heap}{kvs:List (Key×V)}{vs:List (Key×δ)}(z:kvs.length<=sizeLine)(hd:(a==sysModules)=false)(rel:KV kvs vs)(dd:h'.DictOf (aN P w) a vs):
  aM P w H' h' a (.dK kvs):=⟨z,hd,vs,rel,dd⟩
theorem tK{H':Hp}{Q:Unit->η->Prop}(hu:A.units+1<cLine)(I:Inv X pins σ H s)(g:iG H a y v H')(ry:aw y u)(rv:aw v r)(h:∀s',Inv X pins σ H' s'->Q Unit.unit s'):
  wpAny (model X.prog X.w) A (setItem (.ref a) u r) Q E s:=by
 rcases g with ⟨kvs,k,e,ey,l,eH⟩|⟨kvs,k,b,e,ey,eb,l,eH⟩
 ·subst ey eH
  obtain⟨z,hd,vs,rel,dd⟩:=oZ I.hok e
  have hz:vs.length<=sizeLine:=by rw[<-rel.length];exact z
  have hl:(cx kvs k v).length<=sizeLine:=by have:=ip kvs k v;omega
  refine wpAny_setItem_pairs (hsz:=hz) (gt ry) dd λh' dd' hs=>h _ ?_
  have he:∃q,h'.get? a=some q:=let ⟨q,_,_,hq,_⟩:=dd';⟨q,hq⟩
  exact mR I (by rw[e];exact z_) hs he (qW hl hd (rel.put k rv) dd')
 ·subst ey eH
  cases(show u=Ε b from ry)
  obtain⟨z,hd,xs,rel,dd⟩:=BE I.hok e
  have hz:xs.length<=sizeLine:=by rw[<-Paired.length rel];exact z
  have hl:(cx kvs k v).length<=sizeLine:=by have:=ip kvs k v;omega
  refine wpAny_setItem_heap (hsz:=hz) (Ei hu) (jP I.hok eb) dd λh' dd' hs=>h _ ?_
  obtain⟨q,es,ep,hq,h2,h3,h4,_,h5⟩:=dd'
  refine mR I (by rw[e];exact z_) hs ⟨q,hq⟩ ⟨hl,hd,_,(rel.put k eb rv).keeps λc ys ec=>?_,q,es,ep,hq,h2,h3,h4,h5⟩
  rw[ai (Cc ec e (λz=>nomatch z))]
  exact ec
end
section
variable{X:Cx}{pins:List (Addr×Obj)}{σ:St}{H:Hp}{s:η}{a:Addr}{kvs:List (Key×V)}{k:Key}{u:δ}{A:Ω}{E:δ->η->Prop}
theorem BF{v:V}{more:List δ}{Q:δ->η->Prop}(I:Inv X pins σ H s)(e:H a=some (.dK kvs))(ry:aw (kV k) u)(l:ca kvs k=some v)(hm:more=[]\/∃x,more=[x])
  (h:∀w' s',Inv X pins σ (upd H a (.dK (je kvs k))) s'->aw v w'->Q w' s'):wpAny (model X.prog X.w) A (call (.builtin "dict.pop") (.ref a::u::more)) Q E s:=by
 obtain⟨z,hd,vs,rel,dd⟩:=oZ I.hok e
 obtain⟨w',hw,rw'⟩:=iJ.some_of (v:=v) (o:=valueAt vs k) (by rw[<-l];exact rel.val k)
 have hp:(keyPart u).isSome=true:=by
  cases k with
  |inl i=>obtain⟨t,q⟩:=(show ∃t,u=y8 i t from ry);subst q;rfl
  |inr x=>obtain⟨t,q⟩:=(show ∃t,u=i5 x t from ry);subst q;rfl
 have ha:argsOk "dict.pop" ⟨.ref a::u::more,[]⟩:=by
  rcases hm with q|⟨x,q⟩
  ·subst q;exact PySem.F.args_dict_pop_2 _ _
  ·subst q;exact PySem.F.args_dict_pop_3 _ _ _
 refine call_meetsIn PySem.F.slot_dict_pop dd.typeIs PySem.F.entry_dict_pop ha (meets_dict_pop_there (aN X.prog X.w) a (gt ry) more hm hp)
  ⟨vs,w',dd,by rw[<-rel.length];exact z,hw,λh' dd' hs=>h w' _ ?_ rw'⟩
 have he:∃q,h'.get? a=some q:=let ⟨q,_,_,hq,_⟩:=dd';⟨q,hq⟩
 exact mR I (by rw[e];exact z_) hs he (qW (Ϙ (vK kvs k) z) hd (rel.drop k) dd')
theorem Cl{Q:δ->η->Prop}(I:Inv X pins σ H s)(e:Rd H a (.dK kvs))(h:∀t s',Inv X pins σ H s'->Q (.int kvs.length t) s'):wpAny (model X.prog X.w) A (call (.builtin "len") [.ref a]) Q E s:=by
 obtain⟨z,hd,vs,rel,dd⟩:=jC I.hok e
 refine call_len_dict hd dd (by rw[<-rel.length];rw[ω]at z;omega) ?_
 rw[<-rel.length]
 exact h _ _ (I.tok _)
end
def AB(i:Expr):Prop:=∀ov iv,subscripted i false ov iv=operate [ov,iv] (getItem ov iv)
theorem rB{prog:Α}{w:Υ}{A:Ω}{E:δ->η->Prop}{s:η}{env:Env}{value slice:Expr}{pos:Pos}{T id:String}{Q:δ->η->Prop}
  (hl:typeLookup (.type T) "__getitem__"=pure (some (.builtin id))) (hs:AB slice)
  (h:wpAny (model prog w) A (eval value env) (λo s₁=>wpAny (model prog w) A (eval slice env) (λi s₂=>s₂.TypeIs o T/\wpAny (model prog w) A (getItem o i) Q E s₂) E s₁) E s):
  wpAny (model prog w) A (eval (.Subscript value slice pos) env) Q E s:=by
 refine Gy (i8 h (λo s₁ h₁=>i8 h₁ (λi s₂ h₂=>?_) λ_ _ x=>x) λ_ _ x=>x)
 obtain⟨hT,h₂⟩:=h₂
 unfold subscriptTail
 refine γ ?_
 rw[getitemInPython_of_ne hT.not_modules]
 refine γ (Gc hT hl ?_)
 have fin:wpAny (model prog w) A (subscripted slice false o i) (λr s₃=>wpAny (model prog w) A (letTemporaryGo value o r>>=λ_=>pure r) Q E s₃) E s₂:=by
  rw[hs o i]
  exact wpAny_operating (i8 h₂ (λr s₃ h₃=>γ (wpAny_letTemporaryGo (ν h₃))) λ_ _ x=>x)
 first
  |exact ν (γ fin)
  |exact γ (ν (γ fin))
  |exact γ fin
theorem oG{X:Cx}{pins:List (Addr×Obj)}{σ:St}{H:Hp}{s:η}{a:Addr}{y:V}{o:Option V}(I:Inv X pins σ H s)(g:fO H a y o):s.TypeIs (.ref a) "dict":=by
 rcases g with ⟨kvs,k,e,_,_⟩|⟨kvs,k,b,e,_,_,_⟩
 ·obtain⟨_,_,vs,_,dd⟩:=jC I.hok e
  exact dd.typeIs
 ·obtain⟨_,_,xs,_,dd⟩:=ky I.hok e
  exact dd.typeIs
def Bn(td ty:TE):TE:=λσ H Q=>td σ H λx H1=>ty σ H1 λy H2=>∃a v,x=.ref a/\fO H2 a y (some v)/\Q v H2
def BU(td ty tv:TE):TS:=λD σ H=>tv σ H λv H1=>td σ H1 λx H2=>ty σ H2 λy H3=>∃a H4,x=.ref a/\iG H3 a y v H4/\D.nx σ H4
section
variable{X:Cx}{o i e value:Expr}{pos pos' tpos:Pos}{td ty tv:TE}
theorem pe_dget(hu:X.A.units+1<cLine)(ho:PE X o td)(hi:PE X i ty)(hs:AB i):PE X (.Subscript o i pos) (Bn td ty):=by
 intro pins s σ H Q I h
 refine rB Fu.lookup hs (thn (ho pins s σ H _ I h) λu s1 ⟨x,H1,I1,rx,q1⟩=>thn (hi pins s1 σ H1 _ I1 q1) λiv s2 ⟨y,H2,I2,ry,a,v,ex,g,q2⟩=>?_)
 subst ex
 obtain rfl:u=Ε a:=rx
 exact⟨oG I2 g,tS hu I2 g ry λw' s3 I3 rw'=>⟨v,H2,I3,rw',q2⟩⟩
theorem ps_dput(hu:X.A.units+1<cLine)(ho:PE X o td)(hi:PE X i ty)(hv:PE X value tv)(hs:swapsWith value (some (.Subscript o i pos')) pos.line X.env=pure false):
  PS X (.Assign [.Subscript o i pos'] value pos) (BU td ty tv):=by
 intro pins s σ H D I h
 refine wpAny_Assign_Subscript (thn (hv pins s σ H _ I h) λr s1 ⟨v,H1,I1,rv,q1⟩=>thn (ho pins s1 σ H1 _ I1 q1) λu s2 ⟨x,H2,I2,rx,q2⟩=>thn (hi pins s2 σ H2 _ I2 q2) λiv s3 ⟨y,H3,I3,ry,a,H4,ex,g,q3⟩=>?_) hs
 subst ex
 obtain rfl:u=Ε a:=rx
 exact tK hu I3 g ry rv λs4 I4=>⟨σ,H4,I4,q3⟩
end
theorem wq{P:Α}{w:Υ}{H:Hp}(h:Heap)(hb:sysModules<h.objs.size):aM P w H (h.push {cls:=.type "dict",data:=.dict #[]}) h.objs.size (.dK []):=
 ⟨Ξ _,beq_eq_false_iff_ne.mpr (Ϗ (Ρ hb)),[],.nil,Heap.DictOf.new h⟩
def zW:TE:=λ_ H Q=>∀p,H p=none->Q (.ref p) (upd H p (.dK []))
section
variable{X:Cx}{pos:Pos}
theorem pe_dnewK:PE X (.Dict [] [] pos) zW:=λpins s σ H Q I h=>
 wpAny_Dict_empty ⟨.ref s.heap.objs.size,_,I.laid (a:=s.heap.objs.size) (o:=.dK []) (t':=s.toks) (λ_ _ q=>ι _ q) (ρ _) (wq s.heap I.big),rfl,h _ (I.hok.fresh (ρ _))⟩
end
structure M1(X:Cx)(o:Expr)(m:Str)(apos:Pos)(e:Expr)(cpos:Pos):Prop where
 base:attributeBase o m X.env (eval o X.env)=eval o X.env
 few:((backTo cpos (starEach [e] X.env)).all (λx=>!x.1)&&(backToKw cpos (keywordEach [] X.env)).all (λx=>x.1.isSome)
  && decide (([e]:List Expr).length+([]:List Keyword).length+(if ([]:List Keyword).isEmpty then 0 else 1)<30))=true
 line:(apos.endLine==cpos.line)=true
 trees:backTo cpos (starEach [e] X.env)=[(false,eval e X.env)]
def IsD(H:Hp)(a:Addr):Prop:=(∃kvs,Rd H a (.dK kvs))\/∃kvs,Rd H a (.dT kvs)
theorem Ai{X:Cx}{pins:List (Addr×Obj)}{σ:St}{H:Hp}{s:η}{a:Addr}(I:Inv X pins σ H s)(d:IsD H a):
  s.TypeIs (.ref a) "dict"/\(∀b,Ε a=.ref b->∃ob,s.heap.get? b=some ob/\ob.dict=none)/\(a==sysModules)=false:=by
 rcases d with ⟨kvs,e⟩|⟨kvs,e⟩
 ·obtain⟨_,hd,vs,_,dd⟩:=jC I.hok e
  refine⟨dd.typeIs,λb q=>?_,hd⟩
  cases q
  obtain⟨ob,_,_,h1,h2,_⟩:=dd
  exact⟨ob,h1,h2.2.1⟩
 ·obtain⟨_,hd,xs,_,dd⟩:=ky I.hok e
  refine⟨dd.typeIs,λb q=>?_,hd⟩
  cases q
  obtain⟨ob,_,_,h1,h2,_⟩:=dd
  exact⟨ob,h1,h2.2.1⟩
section
variable{X:Cx}{pins:List (Addr×Obj)}{σ:St}{H:Hp}{s:η}{a:Addr}{y d:V}{u r:δ}{o:Option V}{A:Ω}{E:δ->η->Prop}
end
def Ax(td ty:TE):TE:=λσ H Q=>td σ H λx H1=>∃a,x=.ref a/\IsD H1 a/\ty σ H1 λy H2=>∃kvs k v,H2 a=some (.dK kvs)/\y=kV k/\ca kvs k=some v/\Q v (upd H2 a (.dK (je kvs k)))
section
variable{X:Cx}{o e f:Expr}{apos cpos:Pos}{td ty tx:TE}
theorem uV(ho:PE X o td)(he:PE X e ty)(m:M1 X o "pop" apos e cpos):PE X (.Call (.Attribute o "pop" apos) [e] [] cpos) (Ax td ty):=by
 intro pins s σ H Q I h
 refine wpAny_Call_method m.base m.few m.line Em PySem.F.slot_dict_pop PySem.F.type_dict_pop (thn (ho pins s σ H _ I h) λu s1 ⟨x,H1,I1,rx,a,ex,d,q1⟩=>?_)
 subst ex
 obtain rfl:u=Ε a:=rx
 obtain⟨t1,t2,_⟩:=Ai I1 d
 refine⟨t1,t2,?_⟩
 rw[m.trees]
 refine De rfl (ER (C_ (thn (he pins s1 σ H1 _ I1 q1) λiv s2 ⟨y,H2,I2,ry,kvs,k,v,ea,ey,l,q2⟩=>Du ?_)))
 subst ey
 exact BF I2 ea ry l (.inl rfl) λw' s3 I3 rw'=>⟨v,_,I3,rw',q2⟩
end
section
variable{X:Cx}{pins:List (Addr×Obj)}{σ:St}{H:Hp}{s:η}{a:Addr}{kvs:List (Key×V)}{A:Ω}{E:δ->η->Prop}
end
section
variable{X:Cx}{pins:List (Addr×Obj)}{σ:St}{H:Hp}{s:η}{a:Addr}{y:V}{u:δ}{A:Ω}{E:δ->η->Prop}
end
end L2
namespace HT
open PySem PyProof.Rows
section
open PySem.SeqAt
open PySem.AutoSeq1 (wpAny_loadPart')
open PySem.MeetsSeq PySem.MeetsSeq2 PySem.MeetsSeq3
end
section
variable{prog:Α}{w:Υ}{A:Ω}{E:δ->η->Prop}{s:η}
theorem cat_tup{t b:Addr}{vs ws:List δ}{Q:δ->η->Prop}(ht:GH s.heap t vs.toArray)(hb:GH s.heap b ws.toArray)(hv:vs≠[])
  (h1:ws=[]->Q (.ref t) s) (h2:ws≠[]->Q (.ref s.heap.objs.size) {s with heap:=s.heap.push {cls:=.type "tuple",data:=.seq (vs++ws).toArray} })
  (hsz:vs.length+ws.length<=sizeLine):wpAny (model prog w) A (binaryOp .Add (.ref t) (.ref b)) Q E s:=by
 obtain⟨⟨cls,dd,data,sl⟩,ho,hc,n,hd⟩:=id ht
 obtain⟨⟨cls2,dd2,data2,sl2⟩,ho2,hc2,n2,hd2⟩:=id hb
 simp only at hc hd hc2 hd2
 subst hc hd hc2 hd2
 have e:vs.toArray++ws.toArray=(vs++ws).toArray:=by simp
 by_cases hw:ws=[]
 ·exact concat_meets ⟨_,ho,rfl⟩ ⟨_,ho2,rfl⟩ FQ seq_tuple_add Ev En (Ea _ _)
   (tuple_addW1 t b vs.toArray ws.toArray n n2 dd dd2 sl sl2 (by simpa using hv) (by simp[hw])) ⟨ho,ho2,h1 hw⟩
 ·refine concat_meets ⟨_,ho,rfl⟩ ⟨_,ho2,rfl⟩ FQ seq_tuple_add Ev En (Ea _ _)
   (tuple_addW2 t b vs.toArray ws.toArray n n2 dd dd2 sl sl2 (by simpa using hv) (by simpa using hw) (by rw[π,π];exact hsz)) ⟨ho,ho2,?_⟩
  rw[e]
  exact h2 hw
def sIx(n d:Nat):Option Int->Nat
 |none=>d
 |some v=>if v<0 then (v+(n:Int)).toNat else min v.toNat n
theorem sIx_none(n d:Nat):sIx n d none=d:=rfl
theorem sIx_nat(n d k:Nat):sIx n d (some (k:Int))=min k n:=by
 show(if (k:Int)<0 then ((k:Int)+(n:Int)).toNat else min (k:Int).toNat n)=min k n
 rw[Q6 (),r6]
theorem Am(n d:Nat)(hd:d<=n)(o:Option Int):sIx n d o<=n:=by
 cases o with
 |none=>exact hd
 |some v=>
  show(if v<0 then (v+(n:Int)).toNat else min v.toNat n)<=n
  by_cases hv:v<0
  ·rw[Q0 hv];omega
  ·rw[Q6 hv];exact Nat.min_le_right _ _
theorem rQ(v:Int)(n d:Nat):(if v<0 then max (v+(n:Int)) 0 else min v (n:Int))=((sIx n d (some v):Nat):Int):=by
 show(if v<0 then max (v+(n:Int)) 0 else min v (n:Int))=(((if v<0 then (v+(n:Int)).toNat else min v.toNat n):Nat):Int)
 by_cases hv:v<0
 ·simp only[Q0 hv];omega
 ·simp only[Q6 hv];omega
theorem ql(lo hi:Option Int)(n:Nat):DV lo hi 1 (n:Int)=(((sIx n 0 lo:Nat):Int),((sIx n n hi:Nat):Int)):=by
 have h1:¬ ((1:Int)<0):=by omega
 unfold DV
 simp only[h1,if_false]
 refine Prod.ext ?_ ?_
 ·cases lo with
  |none=>rfl
  |some v=>exact rQ v n 0
 ·cases hi with
  |none=>rfl
  |some v=>exact rQ v n n
theorem pW(i j:Nat):A7 (i:Int) (j:Int) 1=j-i:=by
 unfold A7
 have h1:(1:Int)>0:=by omega
 simp only[h1,if_true,Int.ediv_one]
 split<;>omega
theorem jQ{v:δ}{o:Option Int}{Q:Option Int->η->Prop}(p:Gz v o)(h:Q o s):wpAny (model prog w) A (Ϥ.Slice.slicePartIndex v) Q E s:=by
 cases p with
 |none=>exact slicePart_none h
 |int i t=>exact slicePart_int h
theorem sliceApplied_gen{sl:Addr}{vl vu:δ}{lo hi:Option Int}{n:Nat}{Q:Int×Int×Nat->η->Prop}(hs:s.heap.IsSliceOf sl vl vu .none)(pl:Gz vl lo)(pu:Gz vu hi)
  (h:Q (((sIx n 0 lo:Nat):Int),1,sIx n n hi-sIx n 0 lo) s):wpAny (model prog w) A (DJ (.ref sl) (pure (n:Int))) Q E s:=by
 obtain⟨os,hos,hcs,hds⟩:=id hs
 unfold DJ Ϥ.Slice.sliceFields
 refine γ (γ (ϭ hos hds (x:=vl) rfl (γ (ϭ hos hds (x:=vu) rfl (γ (ϭ hos hds (x:=.none) rfl (ν ?_)))))))
 refine γ (slicePart_none ?_)
 show wpAny _ _ (if ((1:Int)==0)=true then _ else _) _ _ s
 rw[Q6 ()]
 refine γ (jQ pl (γ (jQ pu (γ (ν ?_)))))
 show wpAny _ _ (match DV lo hi 1 (n:Int)with|(lo,hi)=>pure (lo,(1:Int),A7 lo hi 1)) _ _ s
 rw[ql lo hi n]
 show wpAny _ _ (pure (((sIx n 0 lo:Nat):Int),(1:Int),A7 ((sIx n 0 lo:Nat):Int) ((sIx n n hi:Nat):Int) 1)) _ _ s
 rw[pW]
 exact ν h
theorem pick_gen(xs:Array δ)(i k:Nat):((ϋ k).filterMap λ(m:Nat)=>xs[((i:Int)+(m:Int)*1).toNat]?).toArray=((xs.toList.drop i).take k).toArray:=by
 have e:(λ(m:Nat)=>xs[((i:Int)+(m:Int)*1).toNat]?)=λm=>xs[i+m]?:=by
  funext m
  have:((i:Int)+(m:Int)*1).toNat=i+m:=by omega
  rw[this]
 rw[e]
 have:=pick_run xs i k
 rw[List.filterMap_map]at this
 have e2:((λx=>xs[x]?)∘λx=>i+x)=λm=>xs[i+m]?:=rfl
 rw[e2]at this
 rw[this]
theorem getItem_tuple_cut{t sl:Addr}{items:Array δ}{vl vu:δ}{lo hi:Option Int}{Q:δ->η->Prop}(ht:GH s.heap t items)(hs:s.heap.IsSliceOf sl vl vu .none)(pl:Gz vl lo)(pu:Gz vu hi)
  (hw:¬ (sIx items.size 0 lo=0/\sIx items.size items.size hi=items.size))
  (h:Q (.ref s.heap.objs.size) {s with heap:=s.heap.push {cls:=.type "tuple",data:=.seq ((items.toList.drop (sIx items.size 0 lo)).take (sIx items.size items.size hi-sIx items.size 0 lo)).toArray} })
  (hsz:items.size<=sizeLine):wpAny (model prog w) A (getItem (.ref t) (.ref sl)) Q E s:=by
 have htake:sizeOk (.seq ((items.toList.drop (sIx items.size 0 lo)).take (sIx items.size items.size hi-sIx items.size 0 lo)).toArray):=by
  show((items.toList.drop (sIx items.size 0 lo)).take (sIx items.size items.size hi-sIx items.size 0 lo)).toArray.size<=sizeLine
  rw[π,Φ,ϳ,Ϩ]
  omega
 have hj:sIx items.size items.size hi<=items.size:=Am _ _ (ρ _) hi
 obtain⟨os,hos,hcs,hds⟩:=id hs
 have hTs:s.TypeIs (.ref sl) "slice":=⟨os,hos,hcs⟩
 unfold getItem
 try with_reducible refine Ϧ ?_
 first|refine γ (ν ?_)|skip
 refine γ (wpAny_sequenceKey ht.typeIs () ?_)
 refine γ (i6 (name:=ξ "__getitem__") ht.typeIs ϻ
  (ϫ ϻ ht.typeIs entry_tuple_getitem ?_ (args_tuple_getitem _ _)))
 show wpAny _ _ (Fg (.ref t)>>=_) _ _ s
 refine γ (tupleItemsOf_ ht ?_)
 refine γ (Dg hTs ?_)
 rw[Q0 ()]
 refine γ (sliceApplied_gen hs pl pu ?_)
 have hno:¬ ((((sIx items.size 0 lo:Nat):Int)==0&&(1:Int)==1&&(sIx items.size items.size hi-sIx items.size 0 lo)==items.size)=true):=by
  intro q
  rw[Θ,Θ]at q
  have q1:((sIx items.size 0 lo:Nat):Int)=0:=eq_of_beq q.1.1
  have q2:sIx items.size items.size hi-sIx items.size 0 lo=items.size:=eq_of_beq q.2
  exact hw ⟨(),()⟩
 show wpAny _ _ (if (((sIx items.size 0 lo:Nat):Int)==0&&(1:Int)==1&&(sIx items.size items.size hi-sIx items.size 0 lo)==items.size)=true then _ else _) _ _ s
 rw[Q6 hno,pick_gen]
 first
  |exact γ (m:=ϡ _) (ϝ (ν ⟨_,rfl,ν h⟩) htake)
  |exact γ (m:=ϡ _) (ϝ (γ (ν (ν ⟨_,rfl,ν h⟩))) htake)
  |exact γ (γ (m:=ϡ _) (ϝ (ν (ν ⟨_,rfl,ν h⟩)) htake))
  |exact γ (γ (m:=ϡ _) (ϝ (ν ⟨_,rfl,ν h⟩) htake))
end
end HT
namespace L2
open PySem PySem.Spec PyProof.Rows
abbrev TO:=St->Hp->(Option Int->Hp->Prop)->Prop
def PO(X:Cx)(e:Option Expr)(t:TO):Prop:=
 ∀(pins:List (Addr×Obj))(s:η)(σ:St)(H:Hp)(Q:Option Int->Hp->Prop),Inv X pins σ H s->t σ H Q ->
  wpAny (model X.prog X.w) X.A (evalPart e X.env) (λu s'=>∃o H',Inv X pins σ H' s'/\Gz u o/\Q o H') X.xe s
def iO:TO:=λ_ H Q=>Q none H
def zL(t:TE):TO:=λσ H Q=>t σ H λx H1=>∃i,x=.int i/\Q (some i) H1
section
variable{X:Cx}{e:Expr}{te:TE}{lo hi:Option Expr}{tl th:TO}{pos p2:Pos}
theorem po_none:PO X none iO:=by
 intro pins s σ H Q I h
 rw[evalPart_none]
 exact ν ⟨none,H,I,.none,h⟩
theorem po_some(h:PE X e te):PO X (some e) (zL te):=by
 intro pins s σ H Q I hw
 rw[evalPart_some]
 refine thn (h pins s σ H _ I hw) λu s1 ⟨x,H1,I1,r1,q1⟩=>?_
 obtain⟨i,rfl,q⟩:=q1
 obtain⟨t,rfl⟩:=r1
 exact⟨some i,H1,I1,.int i t,q⟩
def SlR(X:Cx)(r:V->Option Int->Option Int->Hp->VK->Prop):Prop:=
 ∀(pins:List (Addr×Obj))(s:η)(σ:St)(H:Hp)(x:V)(v vl vu:δ)(lo hi:Option Int)(sl:Addr)(Q:VK),Inv X pins σ H s->aw x v->s.heap.IsSliceOf sl vl vu .none->Gz vl lo->Gz vu hi->r x lo hi H Q ->
  ∃T id,typeLookup (.type T) "__getitem__"=pure (some (.builtin id))/\s.TypeIs v T/\wpAny (model X.prog X.w) X.A (getItem v (.ref sl)) (EP X pins σ Q) X.xe s
def tSl(r:V->Option Int->Option Int->Hp->VK->Prop)(te:TE)(tl th:TO):TE:=λσ H Q=>te σ H λx H1=>tl σ H1 λl H2=>th σ H2 λu H3=>r x l u H3 Q
theorem pe_slice{r:V->Option Int->Option Int->Hp->VK->Prop}(hr:SlR X r)(he:PE X e te)(hl:PO X lo tl)(hu:PO X hi th):PE X (.Subscript e (.Slice lo hi none p2) pos) (tSl r te tl th):=by
 intro pins s σ H Q I h
 refine Gy (thn (he pins s σ H _ I h) λv s1 ⟨x,H1,I1,r1,q1⟩=>?_)
 refine wpAny_Slice (thn (hl pins s1 σ H1 _ I1 q1) λvl s2 ⟨l,H2,I2,pl,q2⟩=>thn (hu pins s2 σ H2 _ I2 q2) λvu s3 ⟨u,H3,I3,pu,q3⟩=>?_)
 rw[evalPart_none]
 refine ν ?_
 have I4:Inv X pins σ H3 {s3 with heap:=s3.heap.push {cls:=.type "slice",data:=.fields #[vl,vu,.none]} }:=I3.kept (t':=s3.toks) λb ob q=>ι _ q
 obtain⟨T,id,hT,ht,hg⟩:=hr pins {s3 with heap:=s3.heap.push {cls:=.type "slice",data:=.fields #[vl,vu,.none]} } σ H3 x v vl vu l u s3.heap.objs.size Q I4 r1 (Heap.IsSliceOf.new ..) pl pu q3
 show wpAny (model X.prog X.w) X.A (subscriptTail e (.Slice lo hi none p2) v (.ref s3.heap.objs.size)) (EP X pins σ Q) X.xe {s3 with heap:=s3.heap.push {cls:=.type "slice",data:=.fields #[vl,vu,.none]} }
 exact tail_any (ops:=[.ref s3.heap.objs.size,v]) ht hT hg (by with_unfolding_all rfl)
def aH(xs:List V)(lo hi:Option Int):List V:=(xs.drop (HT.sIx xs.length 0 lo)).take (HT.sIx xs.length xs.length hi-HT.sIx xs.length 0 lo)
theorem dU(xs:List V)(lo hi:Option Int):(aH xs lo hi).length<=xs.length:=by
 unfold aH
 rw[Φ,ϳ]
 omega
def CU(K:ζ):V->Option Int->Option Int->Hp->VK->Prop:=λx lo hi H Q=>∃a xs,x=.ref a/\SqT K H a xs /\
 ¬ (HT.sIx xs.length 0 lo=0/\HT.sIx xs.length xs.length hi=xs.length)/\∀p,H p=none->Q (.ref p) (upd H p (.tup (aH xs lo hi)))
theorem AK:SlR X (CU X.K):=by
 intro pins s σ H x v vl vu lo hi sl Q I rx hs pl pu h
 obtain⟨a,xs,rfl,hx,hw,q⟩:=h
 cases rx
 obtain⟨its,r,ht,hz⟩:=I.tuple hx
 have hlen:its.toArray.size=xs.length:=by rw[π];exact r.length.symm
 refine⟨"tuple",_,ϻ.lookup,ht.typeIs,?_⟩
 refine HT.getItem_tuple_cut ht hs pl pu (by rw[hlen];exact hw) ?_ (by rw[hlen];exact hz)
 rw[hlen]
 refine⟨.ref s.heap.objs.size,_,I.laid (t':=s.toks) (o:=.tup (aH xs lo hi)) (λb ob q=>ι _ q) (ρ _) ?_,rfl,q _ (I.hok.fresh (ρ _))⟩
 exact⟨Ϙ (dU xs lo hi) hz,_,(r.drop (HT.sIx xs.length 0 lo)).take (HT.sIx xs.length xs.length hi-HT.sIx xs.length 0 lo),FR _ _,NoD.new _ rfl⟩
def BC(K:ζ):R2:=λx y H Q=>∃a b xs ys,x=.ref a/\y=.ref b/\SqT K H a xs/\SqT K H b ys/\xs≠[]/\xs.length+ys.length<=sizeLine /\
 (ys=[]->Q (.ref a) H)/\(ys≠[]->∀p,H p=none->Q (.ref p) (upd H p (.tup (xs++ys))))
theorem ar.nil_iff{xs:List V}{us:List δ}(r:ar xs us):us=[]↔xs=[]:=by
 cases r with
 |nil=>simp
 |cons _ _=>simp
theorem yS:OpR X (binaryOp .Add) (BC X.K):=by
 intro pins s σ H x y v u Q I rx ry h
 obtain⟨a,b,xs,ys,rfl,rfl,ha,hb,hx,hz,q1,q2⟩:=h
 cases rx
 cases ry
 obtain⟨its,r1,p1,_⟩:=I.tuple ha
 obtain⟨its2,r2,p2,_⟩:=I.tuple hb
 refine HT.cat_tup p1 p2 (λz=>hx (r1.nil_iff.mp z)) (λz=>⟨.ref a,H,I,rfl,q1 (r2.nil_iff.mp z)⟩) (λz=>?_) (by rw[<-r1.length,<-r2.length];exact hz)
 refine⟨.ref s.heap.objs.size,_,I.laid (t':=s.toks) (o:=.tup (xs++ys)) (λb ob q=>ι _ q) (ρ _) ?_,rfl,q2 (λw=>z (r2.nil_iff.mpr w)) _ (I.hok.fresh (ρ _))⟩
 exact⟨by rw[χ];exact hz,_,r1.append r2,FR _ _,NoD.new _ rfl⟩
end
def ixN(n:Nat)(i:Int):Option Nat:=if 0<=i then (if i<n then some i.toNat else none)else if -(n:Int)<=i then some (i+n).toNat else none
def atI{α:Type}(xs:List α)(i:Int):Option α:=(ixN xs.length i).bind λj=>xs[j]?
theorem sV{n:Nat}{i:Int}{j:Nat}(h:ixN n i=some j):seqIndex? i n=some j/\j<n/\-(n:Int)<=i/\i<n:=by
 unfold ixN at h
 by_cases h0:0<=i
 ·rw[Q0 h0]at h
  by_cases h1:i<n
  ·rw[Q0 h1]at h
   have e:i.toNat=j:=ϑ h
   exact⟨by rw[seqIndex_of h0 h1,e],(),(),h1⟩
  ·rw[Q6 h1]at h;cases h
 ·rw[Q6 h0]at h
  by_cases h1:-(n:Int)<=i
  ·rw[Q0 h1]at h
   have e:(i+n).toNat=j:=ϑ h
   exact⟨by rw[seqIndex_neg () h1,e],(),h1,()⟩
  ·rw[Q6 h1]at h;cases h
theorem mq{α:Type}{xs:List α}{i:Int}{v:α}(h:atI xs i=some v):∃j,seqIndex? i xs.length=some j/\xs[j]?=some v/\j<xs.length/\-(xs.length:Int)<=i/\i<xs.length:=by
 unfold atI at h
 cases e:ixN xs.length i with
 |none=>rw[e]at h;cases h
 |some j=>
  rw[e]at h
  obtain⟨h1,h2,h3,h4⟩:=sV e
  exact⟨j,h1,h,h2,h3,h4⟩
theorem ad{α:Type}{xs:List α}{j:Nat}{v:α}(h:xs[j]?=some v):atI xs (j:Int)=some v:=by
 have hj:j<xs.length:=(ο.mp h).1
 have e:ixN xs.length (j:Int)=some j:=by
  unfold ixN
  rw[Q0 (),Q0 ()];simp
 unfold atI;rw[e];exact h
theorem fJ{α:Type}(xs:List α)(v:α):atI (xs++[v]) (-1)=some v:=by
 have hl:(xs++[v]).length=xs.length+1:=by simp
 have e:ixN (xs++[v]).length (-1)=some xs.length:=by
  unfold ixN
  rw[hl,Q6 (),Q0 ()]
  congr 1
  omega
 unfold atI
 rw[e]
 show(xs++[v])[xs.length]?=some v
 simp
def xP(b:Expr):Prop:=∀o i,subscripted b false o i=operate [o,i] (getItem o i)
def IxR(X:Cx)(r:R2):Prop:=
 ∀(value slice:Expr)(pins:List (Addr×Obj))(s:η)(σ:St)(H:Hp)(x y:V)(v u:δ)(Q:VK),Inv X pins σ H s->aw x v->aw y u->r x y H Q ->
  subscripted slice false v u=operate [v,u] (getItem v u)->wpAny (model X.prog X.w) X.A (subscriptTail value slice v u) (EP X pins σ Q) X.xe s
def MtR(X:Cx)(id:String)(r:V->List V->Hp->VK->Prop):Prop:=
 ∀(pins:List (Addr×Obj))(s:η)(σ:St)(H:Hp)(x:V)(xs:List V)(v:δ)(us:List δ)(Q:VK),Inv X pins σ H s->aw x v->ar xs us->r x xs H Q ->
  wpAny (model X.prog X.w) X.A (call (.builtin id) (v::us)) (EP X pins σ Q) X.xe s
section
variable{X:Cx}{a b:Expr}{ta tb:TE}{pos:Pos}
theorem pe_ix{r:R2}(hr:IxR X r)(ha:PE X a ta)(hb:PE X b tb)(hs:xP b):PE X (.Subscript a b pos) (tOp r ta tb):=by
 intro pins s σ H Q I h
 exact Gy (AO ha hb I h λv u s2 x y H2 I2 rx ry q=>hr a b pins s2 σ H2 x y v u Q I2 rx ry q (hs _ _))
def uX(K:ζ):R2:=λx y H Q=>∃p xs i v,x=.ref p/\y=.int i/\SqL K H p xs/\atI xs i=some v/\Q v H
def xq(K:ζ):R2:=λx y H Q=>∃p xs i v,x=.ref p/\y=.int i/\SqT K H p xs/\atI xs i=some v/\Q v H
def CW:R2:=λx y H Q=>∃z i c,x=.str z/\y=.int i/\z.length<=sizeLine/\atI z.cps.toList i=some c/\Q (.str ⟨#[c]⟩) H
theorem aJ:IxR X (uX X.K):=by
 intro value slice pins s σ H x y v u Q I rx ry h hs
 obtain⟨p,xs,i,z,rfl,rfl,hq,he,q⟩:=h
 cases rx
 obtain⟨t,rfl⟩:=ry
 obtain⟨its,r,pl,hz⟩:=I.list hq
 obtain⟨j,h1,h2,h3,h4,h5⟩:=mq he
 obtain⟨w,ew,rw'⟩:=r.get h2
 have hl:=r.length
 have hn:=fh
 have fin:EP X pins σ Q w s:=⟨z,H,I,rw',q⟩
 by_cases h0:0<=i
 ·have hj:i.toNat=j:=by
   rw[seqIndex_of h0 h5]at h1
   exact ϑ h1
  exact item_listR pl.isList h0 () (by rw[hj];simpa using ew) fin hs
 ·have hj:(i+(its.toArray.size:Int)).toNat=j:=by
   rw[seqIndex_neg () h4]at h1
   rw[π,<-hl]
   exact ϑ h1
  exact subscriptTail_builtinR (x:=w) pl.isList.typeIs FC.lookup
   (wpAny_getItem_list_neg (Q:=λr s'=>r=w/\EP X pins σ Q r s') pl.isList () (by rw[π]<;>omega) () (by rw[hj];simpa using ew) ⟨rfl,fin⟩) hs
theorem aj:IxR X (xq X.K):=by
 intro value slice pins s σ H x y v u Q I rx ry h hs
 obtain⟨p,xs,i,z,rfl,rfl,hq,he,q⟩:=h
 cases rx
 obtain⟨t,rfl⟩:=ry
 obtain⟨its,r,pl,hz⟩:=I.tuple hq
 obtain⟨j,h1,h2,h3,h4,h5⟩:=mq he
 obtain⟨w,ew,rw'⟩:=r.get h2
 have hl:=r.length
 have hn:=fh
 have fin:EP X pins σ Q w s:=⟨z,H,I,rw',q⟩
 exact subscriptTail_builtinR (x:=w) pl.typeIs slot_tuple_getitem.lookup
  (getItem_tuple (j:=j) (Q:=λr s'=>r=w/\EP X pins σ Q r s') pl () () (by rw[π,<-hl];exact h1) (by simpa using ew) ⟨rfl,fin⟩) hs
theorem qh:IxR X CW:=by
 intro value slice pins s σ H x y v u Q I rx ry h hs
 obtain⟨z,i,c,rfl,rfl,hz,he,q⟩:=h
 obtain⟨t,rfl⟩:=rx
 obtain⟨t',rfl⟩:=ry
 obtain⟨j,h1,h2,h3,h4,h5⟩:=mq he
 have hl:z.cps.toList.length=z.length:=by simp[Str.length]
 rw[hl]at h1 h4 h5
 have hn:=fh
 exact tail_any (typeIs_str s z t) slot_str_getitem.lookup (getItem_str (c:=c) (by
  have e1:decide (i < -(2^63:Int))=false:=Q8 ()
  have e2:decide (i>=2^63)=false:=Q8 ()
  rw[e1,e2,FL]) (by rw[h1];simpa using h2) ⟨.str ⟨#[c]⟩,H,I.tok _,⟨_,rfl⟩,q⟩) hs
theorem qy(its:List δ)(n j:Nat)(u:δ):n_ (·.setIfInBounds j u) {cls:=.type "list",data:=.seq its.toArray n}={cls:=.type "list",data:=.seq (its.set j u).toArray n}:=by
 simp[n_]
theorem Inv.lst{pins:List (Addr×Obj)}{σ:St}{H:Hp}{s:η}{p:Addr}{xs:List V}(I:Inv X pins σ H s)(h:H p=some (.lst xs)):
  ∃(its:List δ) (n:Nat),ar xs its/\s.heap.get? p=some {cls:=.type "list",data:=.seq its.toArray n}/\xs.length<=sizeLine:=by
 obtain⟨z,its,n,r,e⟩:=I.hok p _ h
 exact⟨its,n,r,e,z⟩
theorem Inv.lstUpd{pins:List (Addr×Obj)}{σ:St}{H:Hp}{s:η}{p:Addr}{xs ys:List V}{its its':List δ}{n n':Nat}{f:Obj->Obj}(I:Inv X pins σ H s)(h:H p=some (.lst xs))
  (ho:s.heap.get? p=some {cls:=.type "list",data:=.seq its.toArray n}) (hf:f {cls:=.type "list",data:=.seq its.toArray n}={cls:=.type "list",data:=.seq its'.toArray n'}) (r:ar ys its') (hz:ys.length<=sizeLine) (t:Nat):
  Inv X pins σ (upd H p (.lst ys)) {s with heap:=s.heap.update p f,toks:=t}:=by
 have e:(s.heap.update p f).get? p=some {cls:=.type "list",data:=.seq its'.toArray n'}:=by
  rw[Ϡ f ho (by rw[hf]<;>rfl),hf]
 refine I.write (x:=p) (e:=p) (by rw[h];trivial) (.inl rfl) (λb u hb q=>(Ψ _ _ (Ϗ hb)).trans q) ⟨_,e⟩ ?_
 exact⟨hz,its',n',r,e⟩
def Bd:V->V->V->Hp->(Hp->Prop)->Prop:=λo i v H Q=>∃p xs k j,o=.ref p/\i=.int k/\H p=some (.lst xs)/\ixN xs.length k=some j/\Q (upd H p (.lst (xs.set j v)))
theorem pD:Cp X Bd:=by
 intro pins s σ H o i v ov iv u Q I ro ri rv h
 obtain⟨p,xs,k,j,rfl,rfl,hp,hj,q⟩:=h
 cases ro
 obtain⟨t,rfl⟩:=ri
 obtain⟨its,n,r,ho,hz⟩:=I.lst hp
 obtain⟨h1,h2,h3,h4⟩:=sV hj
 have hl:=r.length
 have hn:=fh
 have I':Inv X pins σ (upd H p (.lst (xs.set j v))) {s with heap:=s.heap.update p (n_ (·.setIfInBounds j u))}:=
  I.lstUpd hp ho (qy its n j u) (r.set rv j) (by rw[EU];exact hz) s.toks
 by_cases h0:0<=k
 ·have hk:k.toNat=j:=by
   rw[seqIndex_of h0 h4]at h1
   exact ϑ h1
  exact PySem.W.ki_setAt ho h0 () (by rw[π,<-hl];exact h4) (by rw[hk];exact⟨_,I',q⟩)
 ·have hk:(k+(its.toArray.size:Int)).toNat=j:=by
   rw[seqIndex_neg () h3]at h1
   rw[π,<-hl]
   exact ϑ h1
  exact PySem.W.ki_setBack ho () (by rw[π,<-hl];exact h3) () (by rw[hk];exact⟨_,I',q⟩)
theorem mB(lo hi:Option Int)(n:Nat):(sliceBounds lo hi none n).1=((HT.sIx n 0 lo:Nat):Int)/\(sliceBounds lo hi none n).2.1=((HT.sIx n n hi:Nat):Int)/\(sliceBounds lo hi none n).2.2=1:=by
 refine⟨?_,?_,rfl⟩
 ·cases lo with
  |none=>simp[sliceBounds,HT.sIx]
  |some i=>
   simp only[sliceBounds,HT.sIx,Option.getD_none,show(1:Int)>0 by decide,if_true]
   by_cases h:i<0
   ·simp only[h,if_true]<;>omega
   ·simp only[h,if_false]<;>omega
 ·cases hi with
  |none=>simp[sliceBounds,HT.sIx]
  |some i=>
   simp only[sliceBounds,HT.sIx,Option.getD_none,show(1:Int)>0 by decide,if_true]
   by_cases h:i<0
   ·simp only[h,if_true]<;>omega
   ·simp only[h,if_false]<;>omega
theorem km(its:List δ)(lo hi:Option Int):slicePick its.toArray lo hi none=((its.drop (HT.sIx its.length 0 lo)).take (HT.sIx its.length its.length hi-HT.sIx its.length 0 lo)).toArray:=by
 obtain⟨h1,h2,h3⟩:=mB lo hi its.toArray.size
 unfold slicePick
 rw[h1,h2,h3]
 simp only[sliceRange_one,pick_run,π]<;>rfl
def CC(K:ζ):V->Option Int->Option Int->Hp->VK->Prop:=λx lo hi H Q=>∃a xs,x=.ref a/\SqL K H a xs/\∀p,H p=none->Q (.ref p) (upd H p (.lst (aH xs lo hi)))
theorem br:SlR X (CC X.K):=by
 intro pins s σ H x v vl vu lo hi sl Q I rx hs pl pu h
 obtain⟨a,xs,rfl,hx,q⟩:=h
 cases rx
 obtain⟨its,r,ht,hz⟩:=I.list hx
 have hlen:=r.length
 refine⟨"list",_,FC.lookup,ht.isList.typeIs,?_⟩
 refine wpAny_getItem_list_slice ht.isList hs pl pu .none () ?_ (by rw[π]<;>omega)
 rw[km,<-hlen]
 refine⟨.ref s.heap.objs.size,_,I.laid (t':=s.toks) (o:=.lst (aH xs lo hi)) (λb ob q=>ι _ q) (ρ _) ?_,rfl,q _ (I.hok.fresh (ρ _))⟩
 exact⟨Ϙ (dU xs lo hi) hz,_,0,(r.drop (HT.sIx xs.length 0 lo)).take (HT.sIx xs.length xs.length hi-HT.sIx xs.length 0 lo),ψ _ rfl⟩
def gu:V->Bool
 |.non=>true
 |.bl _=>true
 |.int _=>true
 |.str _=>true
 |_=>false
def eqV:V->V->Bool
 |.non,.non=>true
 |.bl a,.bl b=>a==b
 |.bl a,.int b=>(if a then 1 else 0)==b
 |.int a,.bl b=>a==(if b then 1 else 0)
 |.int a,.int b=>a==b
 |.str a,.str b=>a==b
 |_,_=>false
theorem Ah{A:Ω}{s:η}{y x:V}{u v:δ}(ry:aw y u)(rx:aw x v)(fy:gu y=true)(fx:gu x=true):Ϟ A s u v (eqV y x):=by
 cases y with
 |non=>
  cases ry
  cases x with
  |non=>cases rx;exact Gd _
  |bl b=>cases rx;exact Ϟ.none_bool b
  |int b=>obtain⟨t,rfl⟩:=rx;exact Ϟ.none_int b t
  |str b=>obtain⟨t,rfl⟩:=rx;exact Ϟ.none_str b t
  |_=>exact absurd (show false=true from fx) Κ
 |bl a=>
  cases ry
  cases x with
  |non=>cases rx;exact Ϟ.bool_none a
  |bl b=>cases rx;exact Ϟ.bool_bool a b
  |int b=>obtain⟨t,rfl⟩:=rx;exact Ϟ.bool_int a b t
  |str b=>obtain⟨t,rfl⟩:=rx;exact Ϟ.bool_str a b t
  |_=>exact absurd (show false=true from fx) Κ
 |int a=>
  obtain⟨t',rfl⟩:=ry
  cases x with
  |non=>cases rx;exact Ϟ.int_none a t'
  |bl b=>cases rx;exact Ϟ.int_bool a t' b
  |int b=>obtain⟨t,rfl⟩:=rx;exact Fh a t' b t
  |str b=>obtain⟨t,rfl⟩:=rx;exact Fc a t' b t
  |_=>exact absurd (show false=true from fx) Κ
 |str a=>
  obtain⟨t',rfl⟩:=ry
  cases x with
  |non=>cases rx;exact Ϟ.str_none a t'
  |bl b=>cases rx;exact Ϟ.str_bool a t' b
  |int b=>obtain⟨t,rfl⟩:=rx;exact Fd a t' b t
  |str b=>obtain⟨t,rfl⟩:=rx;exact Ϟ.str_str a t' b t
  |_=>exact absurd (show false=true from fx) Κ
 |_=>exact absurd (show false=true from fy) Κ
def eqU(x:V)(u:δ):Bool:=match u with
 |.none=>eqV .non x
 |.bool b=>eqV (.bl b) x
 |.int i _=>eqV (.int i) x
 |.str z _=>eqV (.str z) x
 |_=>false
theorem vg{x y:V}{u:δ}(r:aw y u)(f:gu y=true):eqU x u=eqV y x:=by
 cases y with
 |non=>cases r;rfl
 |bl b=>cases r;rfl
 |int i=>obtain⟨t,rfl⟩:=r;rfl
 |str z=>obtain⟨t,rfl⟩:=r;rfl
 |_=>exact absurd (show false=true from f) Κ
theorem fX{x:V}:∀{xs:List V}{us:List δ},ar xs us->xs.all gu=true->us.any (eqU x)=xs.any λy=>eqV y x
 |_,_,.nil,_=>rfl
 |y::xs,u::us,.cons r t,f=>by
  rw[List.all_cons,Θ]at f
  rw[D_,D_,vg r f.1,fX t f.2]
theorem dB{A:Ω}{s:η}{x:V}{v:δ}(rx:aw x v)(fx:gu x=true):∀{xs:List V}{us:List δ},ar xs us->xs.all gu=true->∀u∈us,Ϟ A s u v (eqU x u)
 |_,_,.nil,_=>λu hu=>by cases hu
 |y::xs,u::us,.cons r t,f=>λu' hu=>by
  rw[List.all_cons,Θ]at f
  rcases μ.mp hu with rfl|hu
  ·rw[vg r f.1];exact Ah r rx f.1 fx
  ·exact dB rx fx t f.2 u' hu
def inV(x:V)(xs:List V):Bool:=xs.any λy=>eqV y x
def rIn(K:ζ)(neg:Bool):R2:=λx y H Q=>∃p xs,y=.ref p/\(SqL K H p xs\/SqT K H p xs)/\gu x=true/\xs.all gu=true/\Q (.bl (if neg then !inV x xs else inV x xs)) H
theorem uv:OpR X (compareOp .In) (rIn X.K false):=by
 intro pins s σ H x y v u Q I rx ry h
 obtain⟨p,xs,rfl,hq,fx,fs,q⟩:=h
 cases ry
 rcases hq with hq|hq
 ·obtain⟨its,r,pl,hz⟩:=I.list hq
  refine SeqAt.in_listAt (eqU x) pl.isList (λw hw=>dB rx fx r fs w (by simpa using hw)) ⟨.bl _,H,I,rfl,?_⟩
  rw[show its.toArray.any (eqU x)=its.any (eqU x) by simp,fX r fs]
  exact q
 ·obtain⟨its,r,pl,hz⟩:=I.tuple hq
  refine SeqAt.in_tupleAt (eqU x) pl (λw hw=>dB rx fx r fs w (by simpa using hw)) ⟨.bl _,H,I,rfl,?_⟩
  rw[show its.toArray.any (eqU x)=its.any (eqU x) by simp,fX r fs]
  exact q
theorem fP:OpR X (compareOp .NotIn) (rIn X.K true):=by
 intro pins s σ H x y v u Q I rx ry h
 obtain⟨p,xs,rfl,hq,fx,fs,q⟩:=h
 cases ry
 rcases hq with hq|hq
 ·obtain⟨its,r,pl,hz⟩:=I.list hq
  refine SeqAt.notIn_listAt (eqU x) pl.isList (λw hw=>dB rx fx r fs w (by simpa using hw)) ⟨.bl _,H,I,rfl,?_⟩
  rw[show its.toArray.any (eqU x)=its.any (eqU x) by simp,fX r fs]
  exact q
 ·obtain⟨its,r,pl,hz⟩:=I.tuple hq
  refine SeqAt.notIn_tupleAt (eqU x) pl (λw hw=>dB rx fx r fs w (by simpa using hw)) ⟨.bl _,H,I,rfl,?_⟩
  rw[show its.toArray.any (eqU x)=its.any (eqU x) by simp,fX r fs]
  exact q
theorem ap:bz X (.builtin "len") (λxs H Q=>∃p ys,xs=[.ref p]/\(SqL X.K H p ys\/SqT X.K H p ys)/\Q (.int ys.length) H):=by
 intro pins s σ H xs us Q I r h
 obtain⟨p,ys,rfl,hq,q⟩:=h
 obtain⟨u,rfl,rx⟩:=cj r
 cases rx
 have hn:=fh
 rcases hq with hq|hq
 ·obtain⟨its,r',pl,hz⟩:=I.list hq
  have hlen:=r'.length
  exact Calls.call_len_list pl.isList (by simp only[π]<;>omega) ⟨.int ys.length,H,I.tok _,⟨s.toks+1,by rw[π,hlen]⟩,q⟩
 ·obtain⟨its,r',pl,hz⟩:=I.tuple hq
  have hlen:=r'.length
  exact len_tuple pl (by simp only[π]<;>omega) ⟨.int ys.length,H,I.tok _,⟨s.toks+1,by rw[π,hlen]⟩,q⟩
theorem fG:bz X (.builtin "len") (λxs H Q=>∃z,xs=[.str z]/\z.length<=sizeLine/\Q (.int z.length) H):=by
 intro pins s σ H xs us Q I r h
 obtain⟨z,rfl,hz,q⟩:=h
 obtain⟨u,rfl,t,rfl⟩:=cj r
 have hn:=fh
 exact len_str () ⟨.int z.length,H,I.tok _,⟨_,rfl⟩,q⟩
theorem gc:bz X (.type "list") (λxs H Q=>∃p ys,xs=[.ref p]/\(SqL X.K H p ys\/SqT X.K H p ys)/\∀l,H l=none->Q (.ref l) (upd H l (.lst ys))):=by
 intro pins s σ H xs us Q I r h
 obtain⟨p,ys,rfl,hq,q⟩:=h
 obtain⟨u,rfl,rx⟩:=cj r
 cases rx
 have fin:∀(its:List δ),ar ys its->ys.length<=sizeLine->∀(h':Heap)(c':Nat),(∀b o',s.heap.get? b=some o'->h'.get? b=some o') ->
   h'.get? s.heap.objs.size=some {cls:=.type "list",dict:=none,data:=.seq its.toArray c',slots:=#[]}->EP X pins σ Q (.ref s.heap.objs.size) {s with heap:=h'}:=λits r' hz h' c' kp e=>
  ⟨.ref s.heap.objs.size,_,I.laid (t':=s.toks) kp (ρ _) (show aM X.prog X.w _ h' _ (.lst ys)from⟨hz,its,c',r',e⟩),rfl,q _ (I.hok.fresh (ρ _))⟩
 rcases hq with hq|hq
 ·obtain⟨its,r',pl,hz⟩:=I.list hq
  have hlen:=r'.length
  obtain⟨o,ho,hc,n,hd⟩:=pl.isList
  exact call_list_seq p (.inl rfl) ho hc hd (λh' c' kp e=>fin its r' hz h' c' kp e) (by simp only[π]<;>omega)
 ·obtain⟨its,r',pl,hz⟩:=I.tuple hq
  have hlen:=r'.length
  obtain⟨o,ho,hc,n,hd⟩:=pl
  exact call_list_seq p (.inr rfl) ho hc hd (λh' c' kp e=>fin its r' hz h' c' kp e) (by simp only[π]<;>omega)
theorem bF:bz X (.type "tuple") (λxs H Q=>∃p ys,xs=[.ref p]/\((SqL X.K H p ys/\∀l,H l=none->Q (.ref l) (upd H l (.tup ys)))\/(SqT X.K H p ys/\Q (.ref p) H))):=by
 intro pins s σ H xs us Q I r h
 obtain⟨p,ys,rfl,h⟩:=h
 obtain⟨u,rfl,rx⟩:=cj r
 cases rx
 rcases h with ⟨hq,q⟩|⟨hq,q⟩
 ·obtain⟨its,r',pl,hz⟩:=I.list hq
  have hlen:=r'.length
  refine call_tuple_list pl.isList (λh' kp=>?_) (by simp only[π]<;>omega)
  have I1:Inv X pins σ H {s with heap:=h'}:=I.kept (t':=s.toks) kp
  have I2:Inv X pins σ (upd H h'.objs.size (.tup ys)) {s with heap:=h'.push {cls:=.type "tuple",data:=.seq its.toArray} }:=
   I1.laid (t':=s.toks) (λb o e=>ι _ e) (ρ _) (show aM X.prog X.w _ _ _ (.tup ys)from⟨hz,its,r',FR _ _,NoD.new _ rfl⟩)
  exact⟨.ref h'.objs.size,_,I2,rfl,q _ (I1.hok.fresh (ρ _))⟩
 ·obtain⟨its,r',pl,hz⟩:=I.tuple hq
  exact call_tuple_same pl ⟨.ref p,H,I,rfl,q⟩
def tyV(K:ζ)(T:String)(x:V)(H:Hp):Prop:=match x with
 |.str _=>T="str"
 |.int _=>T="int"
 |.ref p=>(T="list"/\∃xs,SqL K H p xs)\/(T="tuple"/\∃o,K.lookup p=some o/\o.cls=.type "tuple"/\o.dict=none) \/
   (T="dict"/\((∃kvs,H p=some (.dK kvs))\/∃kvs,H p=some (.dT kvs)))\/(T="set"/\∃S n,H p=some (.set S n))
 |_=>False
theorem wQ{pins:List (Addr×Obj)}{σ:St}{H:Hp}{s:η}{T:String}{x:V}{v:δ}(I:Inv X pins σ H s)(r:aw x v)(ty:tyV X.K T x H):
  s.TypeIs v T/\∀a,v=.ref a->∃ob,s.heap.get? a=some ob/\ob.dict=none:=by
 cases x with
 |str z=>
  obtain⟨t,rfl⟩:=r
  cases(show T="str" from ty)
  exact⟨typeIs_str s z t,λ_ e=>nomatch e⟩
 |int i=>
  obtain⟨t,rfl⟩:=r
  cases(show T="int" from ty)
  exact⟨DK s i t,λ_ e=>nomatch e⟩
 |ref p=>
  cases r
  rcases ty with ⟨rfl,xs,hq⟩|⟨rfl,o,hk,hc,hd⟩|⟨rfl,hk⟩|⟨rfl,S,n,hk⟩
  ·obtain⟨its,_,pl,_⟩:=I.list hq
   refine⟨pl.isList.typeIs,λa e=>?_⟩
   cases e
   obtain⟨o,n,e,c,hd,_⟩:=pl
   exact⟨o,e,hd⟩
  ·refine⟨⟨o,I.kIn p o hk,hc⟩,λa e=>?_⟩
   cases e
   exact⟨o,I.kIn _ o hk,hd⟩
  ·have z:∃o,s.heap.get? p=some o/\o.ExactDict:=by
    rcases hk with ⟨kvs,hk⟩|⟨kvs,hk⟩
    ·obtain⟨_,_,_,_,o,_,_,e,ex,_⟩:=I.hok p _ hk
     exact⟨o,e,ex⟩
    ·obtain⟨_,_,_,_,o,_,_,e,ex,_⟩:=I.hok p _ hk
     exact⟨o,e,ex⟩
   obtain⟨o,e,ex⟩:=z
   refine⟨⟨o,e,ex.1⟩,λa e2=>?_⟩
   cases e2
   exact⟨o,e,ex.2.1⟩
  ·obtain⟨o,_,_,_,e,ex,_⟩:=I.hok p _ hk
   refine⟨⟨o,e,ex.1⟩,λa e2=>?_⟩
   cases e2
   exact⟨o,e,ex.2.1⟩
 |_=>exact k4 ty
def Db(K:ζ)(T:String)(r:V->List V->Hp->VK->Prop)(to:TE):TE:=λσ H Q=>to σ H λx H1=>tyV K T x H1/\r x [] H1 Q
def tBM(K:ζ)(T:String)(r:V->List V->Hp->VK->Prop)(to:TE)(t:TA):TE:=λσ H Q=>to σ H λx H1=>tyV K T x H1/\t σ H1 λxs H2=>r x xs H2 Q
variable{o e:Expr}{es:List Expr}{to:TE}{t:TA}{name:Str}{apos cpos:Pos}{T id:String}{r:V->List V->Hp->VK->Prop}
theorem pe_bm0(pa:PlainAttrs T)(slot:Slot T name id)(hty:typeOf (.builtin id)=pure (.type "method_descriptor"))(hm:MtR X id r)(ho:PE X o to)
  (hbase:attributeBase o name X.env (eval o X.env)=eval o X.env:=by rfl) (hline:(apos.endLine==cpos.line)=true:=by rfl):PE X (.Call (.Attribute o name apos) [] [] cpos) (Db X.K T r to):=by
 intro pins s σ H Q I h
 refine wpAny_Call_method0_late hbase hline (thn (ho pins s σ H _ I h) λv s1 ⟨x,H1,I1,r1,ty,q1⟩=>?_)
 obtain⟨h1,h2⟩:=wQ I1 r1 ty
 exact⟨T,id,pa,slot,hty,h1,h2,De rfl (PySem.evalArgs_none (hm pins s1 σ H1 x [] v [] Q I1 r1 .nil q1))⟩
theorem pe_bm(pa:PlainAttrs T)(slot:Slot T name id)(hty:typeOf (.builtin id)=pure (.type "method_descriptor"))(hm:MtR X id r)(ho:PE X o to)(ha:PA X (e::es) t)
  (hbase:attributeBase o name X.env (eval o X.env)=eval o X.env:=by rfl)
  (hfew:((backTo cpos (starEach (e::es) X.env)).all (λx=>!x.1)&&(backToKw cpos (keywordEach [] X.env)).all (λx=>x.1.isSome)
   && decide ((e::es).length+([]:List Keyword).length+(if ([]:List Keyword).isEmpty then 0 else 1)<30))=true:=by rfl)
  (hline:(apos.endLine==cpos.line)=true:=by rfl) (hs:starEach (e::es) X.env=(false,eval e X.env)::starEach es X.env:=by rfl) (hplain:(backTo cpos (starEach es X.env)).any (·.1)=false:=by rfl):
  PE X (.Call (.Attribute o name apos) (e::es) [] cpos) (tBM X.K T r to t):=by
 intro pins s σ H Q I h
 refine wpAny_Call_method_late hbase hfew hline rfl (thn (ho pins s σ H _ I h) λv s1 ⟨x,H1,I1,r1,ty,q1⟩=>?_)
 obtain⟨h1,h2⟩:=wQ I1 r1 ty
 refine⟨T,id,pa,slot,hty,h1,h2,?_⟩
 have hA:=ha cpos pins s1 σ H1 _ I1 q1
 rw[hs]at hA⊢
 refine De (by show(false||(backTo cpos (starEach es X.env)).any (·.1))=false;rw[hplain]<;>rfl) (ER ?_)
 exact thn hA λus s2 ⟨vs,H2,I2,r2,q2⟩=>hm pins s2 σ H2 x vs v us Q I2 r1 r2 q2
end
def MtM(X:Cx)(id:String)(r:V->List V->Hp->VK->Prop):Prop:=
 ∀(pins:List (Addr×Obj))(s:η)(σ:St)(H:Hp)(x:V)(xs:List V)(v:δ)(us:List δ)(Q:VK),Inv X pins σ H s->aw x v->ar xs us->r x xs H Q ->
  wpAny (model X.prog X.w) X.A (call (.builtin id) (v::us)) (EP X pins σ Q) X.xe s
theorem ar.one:∀{x:V}{us:List δ},ar [x] us->∃u,us=[u]/\aw x u
 |_,_,.cons r .nil=>⟨_,rfl,r⟩
theorem ar.zero:∀{us:List δ},ar [] us->us=[]
 |_,.nil=>rfl
theorem ar.dropLast{xs:List V}{us:List δ}(h:ar xs us):ar xs.dropLast us.dropLast:=by
 induction h with
 |nil=>exact .nil
 |cons r t ih=>
  cases t with
  |nil=>exact .nil
  |cons q t'=>exact .cons r ih
theorem ar.reverse{xs:List V}{us:List δ}(h:ar xs us):ar xs.reverse us.reverse:=by
 induction h with
 |nil=>exact .nil
 |cons r t ih=>rw[Dx,Dx];exact ar.append ih (.cons r .nil)
theorem ar.rep{xs:List V}{us:List δ}(h:ar xs us):∀k:Nat,ar (Β k xs).flatten (Β k us).flatten
 |0=>.nil
 |k+1=>by
  rw[k7,k7,Dy,Dy]
  exact ar.append h (ar.rep h k)
theorem qp{α:Type}(l:List α):l.eraseIdx (l.length-1)=l.dropLast:=by
 induction l with
 |nil=>rfl
 |cons a r ih=>
  cases r with
  |nil=>rfl
  |cons b r=>
   have e:(a::b::r).length-1=((b::r).length-1)+1:=by
    have h1:(a::b::r).length=r.length+2:=rfl
    have h2:(b::r).length=r.length+1:=rfl
    omega
   rw[e,List.eraseIdx_cons_succ,ih]
   all_goals rfl
theorem gH(its:List δ):∀(k:Nat)(acc:List δ),
  F6 (λx1 x2=>x1++x2) acc.toArray (Β k its.toArray)=(acc++(Β k its).flatten).toArray
 |0,acc=>by simp
 |k+1,acc=>by
  have e:acc.toArray++its.toArray=(acc++its).toArray:=by simp
  have e2:(acc++its)++(Β k its).flatten=acc++(Β (k+1) its).flatten:=by
   rw[k7,Dy,w_]
  rw[<-e2,<-gH its k (acc++its),<-e,k7,List.foldl_cons]
section
variable{X:Cx}{pins:List (Addr×Obj)}{σ:St}{H:Hp}{s:η}{l b:Addr}{xs ys zs:List V}
theorem Inv.lset{its its':List δ}{n:Nat}{f:Array δ->Array δ}{t':Nat}(I:Inv X pins σ H s)(hH:H l=some (.lst xs))
  (e:s.heap.get? l=some {cls:=.type "list",data:=.seq its.toArray n}) (hf:f its.toArray=its'.toArray) (hv:ar ys its') (hz:ys.length<=sizeLine):
  Inv X pins σ (upd H l (.lst ys)) {s with heap:=s.heap.update l (n_ f),toks:=t'}:=by
 have q:=PySem.IsL.update e f
 rw[hf]at q
 refine I.write (x:=l) (e:=l) (by rw[hH];exact trivial) (.inl rfl) (λb' u hb hu=>(Ψ s.heap (n_ f) (Ϗ hb)).trans hu) ⟨_,q⟩ ?_
 exact⟨hz,its',_,hv,q⟩
theorem Inv.lnew{its:List δ}{t':Nat}(I:Inv X pins σ H s)(hv:ar ys its)(hz:ys.length<=sizeLine):
  Inv X pins σ (upd H s.heap.objs.size (.lst ys)) {s with heap:=s.heap.push {cls:=.type "list",data:=.seq its.toArray},toks:=t'}:=
 I.laid (λ_ _ q=>ι _ q) (ρ _) ⟨hz,its,0,hv,ψ _ rfl⟩
theorem Inv.fresh(I:Inv X pins σ H s):H s.heap.objs.size=none:=I.hok.fresh (ρ _)
theorem Inv.lstM(I:Inv X pins σ H s)(hH:H l=some (.lst xs)):xs.length<=sizeLine/\∃(its:List δ) (n:Nat),ar xs its/\xs.length=its.length/\s.heap.get? l=some {cls:=.type "list",data:=.seq its.toArray n}:=by
 obtain⟨z,its,n,r,e⟩:=I.hok l _ hH
 exact⟨z,its,n,r,r.length,e⟩
theorem jq{n:Nat}(h:n<=sizeLine):l_ n=false:=by
 unfold l_
 exact Q8 ()
end
section
variable{X:Cx}
def xE:V->List V->Hp->VK->Prop:=λx vs H Q=>∃l xs y,x=.ref l/\vs=[y]/\H l=some (.lst xs)/\xs.length<sizeLine/\Q .non (upd H l (.lst (xs++[y])))
theorem bf:MtM X "list.append" xE:=by
 intro pins s σ H x vs v us Q I rx rv h
 obtain⟨l,xs,y,rfl,rfl,hH,hz,q⟩:=h
 cases rx
 obtain⟨u,rfl,ru⟩:=rv.one
 obtain⟨z,its,n,r,hl,e⟩:=I.lstM hH
 refine r9 F.slot_list_append ⟨_,e,rfl⟩ F.entry_list_append (F.args_list_append_2 _ _) (PySem.list_append l its.toArray n u (by rw[π];omega)) ⟨e,?_⟩
 refine⟨.non,_,I.lset (its':=its++[u]) hH e () (r.append (.cons ru .nil)) ?_,rfl,q⟩
 rw[χ,ϥ]
 omega
def yG:V->List V->Hp->VK->Prop:=λx vs H Q=>∃l b xs zs,x=.ref l/\vs=[.ref b]/\H l=some (.lst xs)/\H b=some (.lst zs)/\xs.length+zs.length<=sizeLine/\Q .non (upd H l (.lst (xs++zs)))
theorem ic:MtM X "list.extend" yG:=by
 intro pins s σ H x vs v us Q I rx rv h
 obtain⟨l,b,xs,zs,rfl,rfl,hH,hB,hz,q⟩:=h
 cases rx
 obtain⟨u,rfl,ru⟩:=rv.one
 cases ru
 obtain⟨z,its,n,r,hl,e⟩:=I.lstM hH
 obtain⟨z2,its2,n2,r2,hl2,e2⟩:=I.lstM hB
 have hsz:its.toArray.size+its2.toArray.size<=sizeLine:=by rw[π,π];omega
 have hlong:¬ (!its.toArray.isEmpty&&l_ (its.toArray.size+its2.toArray.size))=true:=by
  rw[jq hsz,Gp]
  exact Κ
 refine r9 F.slot_list_extend ⟨_,e,rfl⟩ F.entry_list_extend (F.args_list_extend_2 _ _)
  (AutoSeq1.list_extend_list_list_0 l its.toArray n b its2.toArray n2 hlong (by rw[π];omega) ()) ⟨e,e2,?_⟩
 refine⟨.non,_,I.lset (its':=its++its2) hH e () (r.append r2) ?_,rfl,q⟩
 rw[χ]
 omega
def Cz:V->List V->Hp->VK->Prop:=λx vs H Q=>∃l xs y,x=.ref l/\vs=[]/\H l=some (.lst xs)/\xs[xs.length-1]?=some y/\Q y (upd H l (.lst xs.dropLast))
theorem jc:MtM X "list.pop" Cz:=by
 intro pins s σ H x vs v us Q I rx rv h
 obtain⟨l,xs,y,rfl,rfl,hH,hy,q⟩:=h
 cases rx
 have hus:=rv.zero
 subst hus
 obtain⟨z,its,n,r,hl,e⟩:=I.lstM hH
 obtain⟨u,hu,ru⟩:=r.get hy
 have hy':its.toArray[its.toArray.size-1]?=some u:=by
  show its.toArray[its.length-1]?=some u
  rw[<-Array.getElem?_toList,<-hl]
  exact hu
 refine r9 F.slot_list_pop ⟨_,e,rfl⟩ F.entry_list_pop (F.args_list_pop_1 _) (MeetsSeq.list_pop_last l its.toArray n u hy' (by rw[π];omega)) ⟨e,?_⟩
 refine⟨y,_,I.lset (its':=its.dropLast) hH e ?_ r.dropLast ?_,ru,q⟩
 ·show its.toArray.eraseIdxIfInBounds (its.toArray.size-1)=its.dropLast.toArray
  rw[π,List.eraseIdxIfInBounds_toArray,qp]
 ·rw[List.length_dropLast]
  omega
def wl:V->List V->Hp->VK->Prop:=λx vs H Q=>∃l xs,x=.ref l/\vs=[]/\H l=some (.lst xs)/\Q .non (upd H l (.lst xs.reverse))
theorem jO:MtM X "list.reverse" wl:=by
 intro pins s σ H x vs v us Q I rx rv h
 obtain⟨l,xs,rfl,rfl,hH,q⟩:=h
 cases rx
 have hus:=rv.zero
 subst hus
 obtain⟨z,its,n,r,hl,e⟩:=I.lstM hH
 refine r9 F.slot_list_reverse ⟨_,e,rfl⟩ F.entry_list_reverse (F.args_list_reverse_1 _) (AutoSeq1.list_reverse_list_0 l its.toArray n (by rw[π];omega)) ⟨e,?_⟩
 refine⟨.non,_,I.lset (its':=its.reverse) hH e () r.reverse ?_,rfl,q⟩
 rw[Ϯ]
 omega
def CJ:R2:=λx y H Q=>∃l b xs zs,x=.ref l/\y=.ref b/\H l=some (.lst xs)/\H b=some (.lst zs)/\xs.length+zs.length<=sizeLine/\∀p,H p=none->Q (.ref p) (upd H p (.lst (xs++zs)))
theorem dj:OpR X (binaryOp .Add) CJ:=by
 intro pins s σ H x y v u Q I rx ry h
 obtain⟨l,b,xs,zs,rfl,rfl,hH,hB,hz,q⟩:=h
 cases rx
 cases ry
 obtain⟨z,its,n,r,hl,e⟩:=I.lstM hH
 obtain⟨z2,its2,n2,r2,hl2,e2⟩:=I.lstM hB
 refine PySem.P.add_list e e2 ?_ (by rw[π,π];omega)
 have ea:its.toArray++its2.toArray=(its++its2).toArray:=by simp
 rw[ea]
 exact⟨.ref _,_,I.lnew (t':=s.toks) (r.append r2) (by rw[χ];omega),rfl,q _ I.fresh⟩
def CV:R2:=λx y H Q=>∃l k xs,x=.ref l/\y=.int k/\H l=some (.lst xs)/\-(2^63)<=k/\k<2^63/\xs.length*k.toNat<=sizeLine /\
 ∀p,H p=none->Q (.ref p) (upd H p (.lst (Β k.toNat xs).flatten))
theorem len_rep{α:Type}(xs:List α)(k:Nat):(Β k xs).flatten.length=k*xs.length:=by
 induction k with
 |zero=>simp
 |succ k ih=>rw[k7,Dy,χ,ih,Nat.succ_mul,Nat.add_comm]
theorem wm:OpR X (binaryOp .Mult) CV:=by
 intro pins s σ H x y v u Q I rx ry h
 obtain⟨l,k,xs,rfl,rfl,hH,h1,h2,hz,q⟩:=h
 cases rx
 obtain⟨t,rfl⟩:=ry
 obtain⟨z,its,n,r,hl,e⟩:=I.lstM hH
 have hlen:its.toArray.size*k.toNat<=sizeLine:=by rw[π,<-hl];exact hz
 have hcap:¬ its.toArray.size*k.toNat>(2^63-1)/8:=by
  have:(sizeLine:Nat)<=(2^63-1)/8:=by decide
  omega
 have hfit:¬ (!Builtin.List.listFitsIndex k)=true:=by
  rw[fitsIndex_both h1 h2]
  exact Κ
 have hlong:¬ l_ (its.toArray.size*k.toNat)=true:=by
  rw[jq hlen]
  exact Κ
 have hnew:F6 (λx1 x2=>x1++x2) #[] (Β (if its.toArray.isEmpty=true then 0 else k.toNat) its.toArray)=(Β k.toNat its).flatten.toArray:=by
  have f0:∀m:Nat,F6 (λx1 x2=>x1++x2) #[] (Β m its.toArray)=(Β m its).flatten.toArray:=λm=>by
   have:=gH its m []
   rw[Ee]at this
   exact this
  rw[f0]
  cases its with
  |nil=>simp
  |cons a r'=>rw[Q6 ()]
 refine A8 (T:="list") (U:="int") () ⟨_,e,rfl⟩ (λs'=>DK s' k t) noFill_list_mul EV x6 repeat_list EF.lookup
  (r9 x6 (DK s k t) EG (Ew _ _) (int___rmul___int_list k t l its.toArray n)
   ⟨e,rfl,⟨_,e,rfl⟩,r9 F.slot_list_mul ⟨_,e,rfl⟩ F.entry_list_mul (F.args_list_mul_2 _ _) (AutoListH.list___mul___list_int_3 l its.toArray n k t hfit hcap hlong) ⟨e,?_⟩⟩)
 rw[hnew]
 exact⟨.ref _,_,I.lnew (t':=s.toks) (r.rep k.toNat) (by rw[len_rep,Nat.mul_comm];exact hz),rfl,q _ I.fresh⟩
end
section
variable{prog:Α}{w:Υ}{A:Ω}{E:δ->η->Prop}{s:η}
end
section
variable{X:Cx}
end
end L2
namespace Att
open PySem PySem.W PySem.Calls PyProof.Rows
theorem iI{P:Params}{h:Heap}:∀(ns:List Int)(vs:List δ),WellAll P h vs (ns.map WData.int)->IntsAre vs ns:=by
 intro ns
 induction ns with
 |nil=>
  intro vs w
  rw[Ϫ]at w
  cases w
  exact .nil
 |cons n ns ih=>
  intro vs w
  rw[ό]at w
  cases w with
  |cons a b=>
   cases a
   exact .cons _ _ (ih _ b)
theorem uE{l:OpenLaw}{n:Nat}(hn:l.most=some n){P:Params}{h:Heap}{args:List WData}{vals:List δ}
  (hpre:l.row.toRowW.claim.pre args=true) (hwl:WellAll P h vals args):
  ∃a vs ns,vals=[Ε a]/\args=[WData.list (ns.map WData.int)]/\h.get? a=some {cls:=.type "list",data:=.seq vs.toArray}/\IntsAre vs ns/\ns.length<=n:=by
 have hsh:WShape.hasAll [] args [.list .int]=true:=(pre_splitW hpre).1
 have hc:l.pre.holds [] {args:=args}=true:=(pre_splitW hpre).2
 obtain⟨d,r,rfl,h1,h2⟩:=hasAllW_cons hsh
 obtain rfl:=hasAllW_nil h2
 obtain⟨xs,rfl,h3⟩:=hasW_list h1
 obtain⟨ns,rfl⟩:=items_int h3
 have hlen:ns.length<=n:=by
  unfold OpenLaw.pre at hc
  have h4:(WTm.not (.lt (.lit (.int (n:Int))) (.len (.arg 0)))).holds [] {args:=[.list (ns.map .int)]}=true:=by
   have h4:=(holds_andW hc).1
   rw[hn]at h4
   exact h4
  have h5:=condW_of h4 (w_not (w_lt w_lit (w_len_list (w_arg rfl))))
  rw[ε]at h5
  refine Nat.le_of_not_lt λq=>?_
  have q':(n:Int)<((ns.length:Nat):Int):=by omega
  first
   |(rw[Q9 q']at h5;exact absurd h5 ())
   |(simp at h5;omega)
 cases hwl with
 |cons w1 w2=>
  cases w2
  cases w1 with
  |list ho hall=>exact⟨_,_,ns,rfl,rfl,ho,iI ns _ hall,hlen⟩
theorem tY(l:OpenLaw)(args:List WData):l.row.toRowW.claim.post args (.bool true) args=true:=
 postW_of (r:=l.row.toRowW) (X:=(true==true))
  (show WShape.has [] (.bool true) .bool=true by first|rfl|decide|simp[WShape.has,WShape.arms,WShape.armsAll])
  (show(WTm.eq .res (.lit (.bool true))).value [] {args:=args,res:=some (.bool true),after:=args}=some (.bool (true==true))from w_eq_bool (w_res rfl) w_lit) rfl
theorem attach_call{l:OpenLaw}{n:Nat}{q:Α}{loose:List Str}{XP:(Str->Option δ)->Heap->Prop}{YP:Υ->Heap->Prop}{d:DefRec}
  (hn:l.most=some n) (hdf:d.params.defaults=[])
  (call:∀(w:Υ)(s₀ s₁:η)(mg mb:Str->Option δ)(fa:Addr)(o:Obj)(pm cd doc:δ)(a:Addr)(vs:List δ)(ns:List Int),
   Ground q loose [] XP w s₀ mg mb s₁.heap->YP w s₁.heap ->
   s₁.heap.get? fa=some o->o.data=.func (docDef d.name d.params d.body d.scope pm cd doc)->s₁.heap.CodeRec cd d.name->mg d.name=some (.ref fa) ->
   s₁.heap.get? a=some {cls:=.type "list",data:=.seq vs.toArray}->IntsAre vs ns->ns.length<=n->s₁.gens=#[] ->
   codeAny (model l.prog w) callerA (.call (.ref fa) ⟨[.ref a],[]⟩) (λr s'=>r=.ok (.ret (.bool true))/\OldK s₁.heap s'.heap/\s'.os=s₁.os/\E7 s'.gens) s₁):
  WalkO q loose XP YP l.row.toRowW d [] (λf vs=>PySem.call f vs):=by
 intro w s₀ s₁ mg mb G Y fa o pm cd doc dV kV ho hd hcd hD hmg hg args vals as hpre hlay hrd hwl hlo
 obtain rfl:dV=.none:=Dflts.none hD hdf
 obtain rfl:kV=.none:=Dflts.noKw hD
 obtain⟨a,vs,ns,rfl,rfl,hobj,hints,hlen⟩:=uE hn hpre hwl
 refine enter_call (B3 (call w s₀ s₁ mg mb fa o pm cd doc a vs ns G Y ho (fd_plain hd) hcd hmg hobj hints hlen hg) λr s' hq=>?_)
 obtain⟨rfl,h2,h3,h4⟩:=hq
 exact⟨.inl ⟨.bool true,.bool true,[],rfl,λ_=>rfl,.bool true,tY l _,λ_=>⟨Eb.nil,λ_ hm=>(nomatch hm)⟩⟩,h2,h3,h4⟩
section
variable{prog:Α}{w:Υ}{A:Ω}{E:δ->η->Prop}{s:η}{K:Frag}
def noObjs(h:Heap):Heap:={h with objs:=#[]}
theorem noObjs_get(h:Heap)(b:Addr):(noObjs h).get? b=none:=by
 cases e:(noObjs h).get? b with
 |none=>rfl
 |some o=>exact absurd (ς e) (Ge _)
theorem fr_all{h:Heap}{L:Addr}{m:Str->Option δ}(n:h.Ns L m):Fr (noObjs h) L h m:=
 ⟨n,λb o e=>(by rw[noObjs_get]at e;cases e),Ξ _⟩
end
end Att
namespace L2
open PySem PySem.Spec PyProof.Rows
theorem kO:∀{vs:List δ}{ns:List Int},IntsAre vs ns->ar (ns.map V.int) vs
 |_,_,.nil=>.nil
 |_,_,.cons n t h=>.cons ⟨t,rfl⟩ (kO h)
def Al(H:Hp):Prop:=∀b,H b=none\/∃o xs,H b=some (.frz o (.lst xs))
theorem vH{P:Α}{w:Υ}{K:ζ}{mg mb:Str->Option δ}{CX:CXT}{k:Nat}{fa a:Addr}{fd:Ο}{x:Str}{sp:Sp}{s₁:η}{vs:List δ}{ns:List Int}
  (KX:K.In s₁.heap) (hns:s₁.heap.Ns mainGlobals mg) (hb:s₁.heap.Ns builtinsNs mb) (hbb:∀x:Str,x≠"__name__"->mb x=bootBuiltins x) (hlim:s₁.heap.NoLimit) (hg:s₁.gens=#[])
  (ha:s₁.heap.get? a=some {cls:=.type "list",data:=.seq vs.toArray}) (hi:IntsAre vs ns) (hl:ns.length<=sizeLine) (hr:bK k callerA)
  (F:∀base:Heap,K.In base->base.Ns mainGlobals mg->aG P w K mg base CX k fa fd [x] sp) (hbind:∀(s:η)(u:δ),Gw s fd ⟨[u],[]⟩ [(x,u)])
  (hsp:∀H:Hp,Al H->SqL K H a (ns.map V.int)->sp [.ref a] H (λv _=>v=.bl true) λ_ _ _=>False)
  (hCX:∀H e s',CX [] H s₁ (λ_ _ _=>False) e s'->False):
  codeAny (model P w) callerA (.call (.ref fa) ⟨[.ref a],[]⟩) (λr s'=>r=.ok (.ret (.bool true))/\OldK s₁.heap s'.heap/\s'.os=s₁.os/\E7 s'.gens) s₁:=by
 have rv:=kO hi
 have lenV:=hi.length
 have core:∀H:Hp,Al H->SqL K H a (ns.map V.int)->HOk P w H s₁.heap->(∀b,H b≠none->b=a)->(H a≠none->K.lookup a=none) ->
   codeAny (model P w) callerA (.call (.ref fa) ⟨[.ref a],[]⟩) (λr s'=>r=.ok (.ret (.bool true))/\OldK s₁.heap s'.heap/\s'.os=s₁.os/\E7 s'.gens) s₁:=by
  intro H hO hS hok hA hK
  have base_of:∀{b:Addr}{o:Obj},s₁.heap.get? b=some o->H b=none->(mD s₁.heap H).get? b=some o:=λe n=>wS e n
  have noA:∀{b:Addr}{o:Obj}{es:Array ED}{ep:Nat},s₁.heap.get? b=some o->o.data=.dict es ep->H b=none:=λ{b o es ep} e d=>by
   cases q:H b with
   |none=>rfl
   |some u=>
    have e':b=a:=hA b (by rw[q];simp)
    subst e'
    rw[ha]at e;cases e
    have d':Data.seq vs.toArray _=Data.dict es ep:=d
    cases d'
  have nsK:∀{b:Addr}{m:Str->Option δ},s₁.heap.Ns b m->(mD s₁.heap H).Ns b m:=λ{b m} ⟨o,es,ep,e,d,r⟩=>⟨o,es,ep,base_of e (noA e d),d,r⟩
  have hKb:K.In (mD s₁.heap H):=λb o e=>base_of (KX b o e) (by
   cases q:H b with
   |none=>rfl
   |some u=>
    have e':b=a:=hA b (by rw[q];simp)
    subst e'
    rw[hK (by rw[q];simp)]at e;cases e)
  have hM:Mod K mg (mD s₁.heap H):=⟨hKb,nsK hns,⟨mb,nsK hb,hbb⟩,let ⟨mc,h1,h2⟩:=hlim;⟨mc,nsK h1,h2⟩⟩
  have e0:pU P w K mg (mD s₁.heap H) callerA [] s₁ H:=⟨rfl,hM,λb o e=>xB e,Nat.le_of_eq (uA _ _),trivial,λb hb=>absurd (show b∈([]:List Addr)from hb) (),hok,.of_eq hg⟩
  refine B3 ((F _ hKb (nsK hns)).run callerA [] s₁ H ⟨[.ref a],[]⟩ [.ref a] [.ref a] _ _ hr e0 (hbind s₁ (.ref a)) (.cons rfl .nil) (hsp H hO hS)) λr s' h=>?_
  cases r with
  |error e=>exact(hCX H e s' h).elim
  |ok fl=>
   cases fl with
   |next=>exact k4 h
   |brk=>exact k4 h
   |cont=>exact k4 h
   |ret u=>
    obtain⟨v,H',os,bare,un,hok',r',q⟩:=h
    have q':v=.bl true:=q
    subst q'
    obtain rfl:u=Gx true:=r'
    refine⟨rfl,OldK.of_keep λb o e=>?_,os,bare⟩
    cases q:H b with
    |none=>exact un.keep b o e q (by intro z;exact absurd (show b∈([]:List Addr)from z) ()) ()
    |some u=>
     rcases hO b with z|⟨ob,xs,z⟩
     ·rw[q]at z;cases z
     ·have z2:=un.frzs b ob _ z
      obtain⟨e1,_⟩:=hok b _ z
      obtain⟨e2,_⟩:=hok' b _ z2
      rw[e]at e1;cases e1
      exact e2
 cases hk:K.lookup a with
 |some o=>
  have e:=KX a o hk
  rw[ha]at e
  cases e
  refine core (λ_=>none) (λ_=>.inl rfl) (.inr ⟨_,vs.toArray,_,hk,rfl,rfl,rfl,by rw[π,lenV];exact hl,by simpa using rv⟩) (λb u z=>by have z':(none:Option HO)=some u:=z;cases z') (λb z=>absurd rfl z) λz=>absurd rfl z
 |none=>
  refine core (λb=>if b=a then some (.frz {cls:=.type "list",data:=.seq vs.toArray} (.lst (ns.map V.int)))else none) (λb=>?_) (.inl (.inr ⟨{cls:=.type "list",data:=.seq vs.toArray},Q0 rfl⟩)) (λb u z=>?_) (λb z=>?_) λ_=>hk
  ·by_cases hb:b=a
   ·exact .inr ⟨_,_,Q0 hb⟩
   ·exact .inl (Q6 hb)
  ·by_cases hb:b=a
   ·have z':=(Q0 hb).symm.trans z
    cases z'
    subst hb
    exact⟨ha,by rw[ε];exact hl,vs,_,rv,ha⟩
   ·have z':=(Q6 hb).symm.trans z
    cases z'
  ·by_cases hb:b=a
   ·exact hb
   ·exact absurd (Q6 hb) z
theorem walk_of{l:Gf}{n k:Nat}{q:Α}{loose:List Str}{XP:(Str->Option δ)->Heap->Prop}{YP:Υ->Heap->Prop}{d:DefRec}{K:Params->ζ}{CX:Υ->CXT}{sp:Υ->Sp}{x:Str}
  (hn:l.most=some n) (hn2:n<=sizeLine) (hdf:d.params.defaults=[]) (hr:bK k callerA)
  (hY:∀(w:Υ)(h:Heap),YP w h->(K w.params).In h)
  (F:∀(w:Υ)(mg:Str->Option δ)(fa:Addr)(h:Heap),(K w.params).In h->h.Ns mainGlobals mg->mg d.name=some (.ref fa) ->
   ∃fd:Ο,(∀(s:η)(u:δ),Gw s fd ⟨[u],[]⟩ [(x,u)]) /\
    ∀base:Heap,(K w.params).In base->base.Ns mainGlobals mg->aG l.prog w (K w.params) mg base (CX w) k fa fd [x] (sp w))
  (hsp:∀(w:Υ)(H:Hp)(a:Addr)(ns:List Int),ns.length<=n->Al H->SqL (K w.params) H a (ns.map V.int)->sp w [.ref a] H (λv _=>v=.bl true) λ_ _ _=>False)
  (hCX:∀(w:Υ)(H:Hp)(s:η)(e:δ)(s':η),CX w [] H s (λ_ _ _=>False) e s'->False):
  PySem.W.WalkO q loose XP YP l.row.toRowW d [] (λf vs=>PySem.call f vs):=by
 refine Att.attach_call hn hdf λw s₀ s₁ mg mb fa o pm cd doc a vs ns G Y ho hd hcd hmg hobj hints hlen hg=>?_
 have KX:=hY w _ Y
 obtain⟨fd,hb,hF⟩:=F w mg fa _ KX G.T.g hmg
 exact vH KX G.T.g G.T.b G.T.builtins G.T.nolimit hg hobj hints (Ϙ hlen hn2) hr hF hb (λH hO hS=>hsp w H a ns hlen hO hS) λH e s'=>hCX w H s₁ e s'
def bW(s:Stmt):Arguments:=match s with
 |.FunctionDef _ a _ _ _ _ _ _ _ _=>a
 |_=>{posonlyargs:=[],args:=[],vararg:=none,kwonlyargs:=[],kw_defaults:=[],kwarg:=none,defaults:=[]}
def bC(s:Stmt):List Stmt:=match s with
 |.FunctionDef _ _ b _ _ _ _ _ _ _=>b
 |_=>[]
def ag(s:Stmt):Et:=match s with
 |.FunctionDef _ _ _ _ _ _ sc _ _ _=>sc
 |_=>{kind:=.function,names:=[],isGenerator:=false,isCoroutine:=false}
abbrev CX0:CXT:=λ_ _ _ _ _ _=>False
abbrev E0:XK:=λ_ _ _=>False
theorem zp{X:Cx}:ma CX0 X E0:=λ_ _ _ _ _ _ _ h=>h.elim
structure Fun(K:ζ)(x qual:Str)(st:Stmt)(f:Addr)(fd:Ο):Prop where
 ex:∃(oc:δ) (od:Option Addr) (kV doc pm:δ) (an:Option Addr) (cdv ct:δ) (osl:Array (Option δ)),
  fd=q_ x qual (bW st) (bC st) (ag st) .none kV doc pm an cdv ct/\K.lookup f=some ⟨oc,od,.func fd,osl⟩/\DI K cdv qual=true
 kp:v_ K (.ref f)=true
section
variable{P:Α}{w:Υ}{K:ζ}{mg:Str->Option δ}{base:Heap}
theorem Fun.ok{x qual:Str}{st:Stmt}{f:Addr}{fd:Ο}{N ps:List Str}{k:Nat}{sp:Sp}(F:Fun K x qual st f fd)(S:am N ps (ag st))(len:∀vs H Q E,sp vs H Q E->vs.length=ps.length)
  (hbody:∀(cdv:δ)(A:Ω)(outer:List Env)(s:η)(H:Hp)(vs:List V)(Q:VK)(E:XK),bK k (A.deeper (envOfC qual (ag st) s.heap.objs.size f cdv))->sp vs H Q E ->
   ∃t,PSs (aT CX0 P w K mg base N qual (ag st) f cdv A outer s H E).nox (bC st) t/\t {nx:=λ_ H'=>Q .non H',rt:=Q} (eK N vs) H):aG P w K mg base CX0 (k+1) f fd ps sp:=by
 obtain⟨oc,od,kV,doc,pm,an,cdv,ct,osl,rfl,lk,hcd⟩:=F.ex
 refine vk lk hcd S len λA outer s H vs Q E hr hsp=>?_
 obtain⟨t,h,q⟩:=hbody cdv A outer s H vs Q E hr hsp
 exact⟨t,h.nox,q⟩
theorem Fun.binds{x qual:Str}{st:Stmt}{f:Addr}{fd:Ο}{ps:List Str}(F:Fun K x qual st f fd)
  (h:∀(kV doc pm:δ)(an:Option Addr)(cdv ct:δ)(us:List δ),us.length=ps.length->bindArgs (q_ x qual (bW st) (bC st) (ag st) .none kV doc pm an cdv ct) ⟨us,[]⟩=pure (ps.zip us)):cf K fd ps []:=by
 obtain⟨oc,od,kV,doc,pm,an,cdv,ct,osl,rfl,lk,hcd⟩:=F.ex
 exact .all (h kV doc pm an cdv ct)
theorem AA{x qual:Str}{st:Stmt}{f:Addr}{oc:δ}{od an:Option Addr}{osl:Array (Option δ)}{kV doc pm cdv ct:δ}(l:K.lookup f=some ⟨oc,od,.func (q_ x qual (bW st) (bC st) (ag st) .none kV doc pm an cdv ct),osl⟩)
  (c:DI K cdv qual=true) (k:v_ K (.ref f)=true):Fun K x qual st f (q_ x qual (bW st) (bC st) (ag st) .none kV doc pm an cdv ct):=⟨⟨oc,od,kV,doc,pm,an,cdv,ct,osl,rfl,l,c⟩,k⟩
end
theorem jE{A:Ω}{k:Nat}(hr:bK k A):A.units+1<cLine:=Ej (Nat.add_le_add_left (by decide:1<=64) _) hr.units
theorem kP{n:Nat}(h:n<=1000):n<sizeLine:=Ej h ()
section
variable{X:Cx}
theorem pv(i:Nat){x:Str}{pos:Pos}(hN:X.N[i]?=some x:=by rfl)(hv:Vis X.env.scope x:=by first|exact Η rfl|exact Fi (Η rfl)|exact Fi (Fi rfl))(hd:(x==("__debug__" : Str))=false:=by decide)
  (hcd:(x==("__classdict__" : Str))=false:=by decide):PE X (.Name x pos) (ig i):=wJ hN hv hd hcd
end
theorem av{A B:Prop}(h:B):if false=true then A else B:=by
 rw[Q6 Κ]
 exact h
theorem au{A B:Prop}(h:A):if true=true then A else B:=by
 rw[Q0 rfl]
 exact h
theorem aF{c A B:Prop}[Decidable c](h1:c->A)(h2:¬ c->B):if c then A else B:=by
 by_cases h:c
 ·rw[Q0 h]
  exact h1 h
 ·rw[Q6 h]
  exact h2 h
theorem zE{c A B:Prop}[Decidable c](hc:c)(h:B):if (!decide c)=true then A else B:=by
 rw[Q9 hc]
 exact av h
def ae(H H':Hp):Prop:=∀b o,H b=some o->H' b=some o
theorem ae.refl(H:Hp):ae H H:=λ_ _ h=>h
theorem ae.trans{H H1 H2:Hp}(a:ae H H1)(b:ae H1 H2):ae H H2:=λc o h=>b c o (a c o h)
theorem ae.free{H H':Hp}(e:ae H H'){l:Addr}(h:H' l=Option.none):H l=Option.none:=by
 cases q:H l with
 |none=>rfl
 |some o=>
  rw[e l o q]at h
  cases h
theorem ae.seq{K:ζ}{H H':Hp}{a:Addr}{xs:List V}(e:ae H H')(h:SqL K H a xs):SqL K H' a xs:=by
 rcases h with (h|⟨o,h⟩)|h
 ·exact .inl (.inl (e _ _ h))
 ·exact .inl (.inr ⟨o,e _ _ h⟩)
 ·exact .inr h
section
variable{κ:Type}[DecidableEq κ]
end
theorem yu{prog:Α}{w:Υ}{A:Ω}{R:Ff->η->Prop}{s:η}{elt target iter:Expr}{ifs:List Expr}{scope:Et}{pos:Pos}{it acc:δ}{env:Env}(I:Nat->η->Prop)
  (turn:∀n s,I n s->wpAny (model prog w) A (pyNext it) (λr s₁=>match r with
   |none=>R (.ok .next) s₁
   |some v=>wpAny (model prog w) A (letOwnedTupleGo target it v) (λ_ s₁'=>wpAny (model prog w) A (assign target env v) (λ_ s₂=>
     wpAny (model prog w) A (forIn ifs true λc r=>if r=true then do let ok <-isTrue c env (eval c env);pure (Dl ok)else pure (Dl r)) (λok s₃=>
      if ok=true then wpAny (model prog w) A (eval elt env) (λx s₄=>
       wpAny (model prog w) A (call (.builtin "list.append") [acc,x]) (λ_ s₅=>∃m,m<n/\I m s₅) (λ_ _=>False) s₄) (λ_ _=>False) s₃
      else ∃m,m<n/\I m s₃) (λ_ _=>False) s₂) (λ_ _=>False) s₁') (λ_ _=>False) s₁) (λ_ _=>False) s)
  (n:Nat) (h:I n s):
  codeAny (model prog w) A (.compLoop (.ListComp elt [⟨target,iter,ifs,0⟩] scope pos) 0 it acc env) R s:=by
 refine codeAny_loop rfl I (λn s hI=>?_) n h
 show wpAny _ A ((compTurn (.ListComp elt [⟨target,iter,ifs,0⟩] scope pos) 0 it acc env).onRaise (λx=>do noteFrame x env;theTreesLotGoes x)) _ _ s
 refine wpAny_noted ?_
 rw[compTurn_list]
 have no:∀{E:δ->η->Prop}(x:δ)(s:η),False->E x s:=λ_ _ z=>z.elim
 refine γ (EL (γ (i8 (turn n s hI) (λr s₁ h₁=>?_) no)))
 cases r with
 |none=>exact ν h₁
 |some v=>
  refine γ (i8 h₁ (λ_ s₁' h₁'=>?_) no)
  refine γ (i8 h₁' (λ_ s₂ h₂=>γ (i8 h₂ (λok s₃ h₃=>?_) no)) no)
  cases ok with
  |false=>exact ν ⟨rfl,h₃⟩
  |true=>
   exact γ (γ (i8 h₃ (λx s₄ h₄=>γ (i8 h₄ (λ_ s₅ h₅=>ν (ν ⟨rfl,h₅⟩)) no)) no))
def aR(env:Env):List (Str×DH)->List (Str×Addr)->List (Str×Addr)
 |[],acc=>acc
 |(n,k)::r,acc=>if k=.free then aR env r (match env.cells.lookup n with|some c=>(n,c)::acc|none=>acc)else aR env r acc
theorem nF{env:Env}{scope:Et}(h:∀x∈scope.names,x.2=.free->∃c,env.cells.lookup x.1=some c):closureFor scope env=pure (aR env scope.names []):=by
 have all:∀(l:List (Str×DH))(acc:List (Str×Addr)),(∀x∈l,x.2=ϓ->∃c,env.cells.lookup x.1=some c) ->
   (forIn l acc λx cs=>(do
    if x.2==ϓ then
     let a <-cellOf env x.1
     pure (Dl ((x.1,a)::cs))
    else pure (Dl cs):Sem _))=pure (aR env l acc):=by
  intro l
  induction l with
  |nil=>intro acc _;rfl
  |cons x r ih=>
   intro acc hl
   obtain⟨n,k⟩:=x
   have hr:=λy hy=>hl y (υ _ hy)
   rw[Gg]
   by_cases hk:k=.free
   ·subst hk
    obtain⟨c,hc⟩:=hl (n,.free) Δ rfl
    simp only[beq_self_eq_true,if_true,aR]
    have e:cellOf env n=pure c:=by unfold cellOf;rw[show env.cells.lookup n=some c from hc]
    rw[e]
    simp only[pure_bind]
    rw[ih _ hr,show env.cells.lookup n=some c from hc]
   ·have hb:(k==ϓ)=false:=by simpa using hk
    simp only[hb,Dh,if_false,aR,Q6 hk,pure_bind]
    exact ih _ hr
 unfold closureFor
 exact(congrArg (λt:Sem (List (Str×Addr))=>t>>=pure) (all scope.names [] h)).trans ()
theorem bh{env:Env}:∀(l:List (Str×DH))(acc:List (Str×Addr)),(∀n c,acc.lookup n=some c->env.cells.lookup n=some c)->∀n c,(aR env l acc).lookup n=some c->env.cells.lookup n=some c
 |[],acc,h,n,c,e=>h n c e
 |(m,k)::r,acc,h,n,c,e=>by
  unfold aR at e
  split at e
  ·refine bh r _ ?_ n c e
   intro n' c' e'
   split at e'
   ·rename_i c0 hc0
    rw[a9]at e'
    split at e'
    ·rename_i hb
     have:n'=m:=by simpa using hb
     subst this
     cases e'
     exact hc0
    ·exact h n' c' e'
   ·exact h n' c' e'
  ·exact bh r _ h n c e
theorem dg{env:Env}{n:Str}:∀(l:List (Str×DH))(acc:List (Str×Addr)),(∃c,acc.lookup n=some c)->∃c,(aR env l acc).lookup n=some c
 |[],acc,h=>h
 |(m,k)::r,acc,h=>by
  unfold aR
  split
  ·refine dg r _ ?_
   obtain⟨c,hc⟩:=h
   split
   ·rw[a9]
    split
    ·exact⟨_,rfl⟩
    ·exact⟨c,hc⟩
   ·exact⟨c,hc⟩
  ·exact dg r _ h
theorem cy{env:Env}{n:Str}(hc:∃c,env.cells.lookup n=some c):∀(l:List (Str×DH))(acc:List (Str×Addr)),(n,ϓ)∈l->∃c,(aR env l acc).lookup n=some c
 |[],_,h=>by cases h
 |(m,k)::r,acc,h=>by
  obtain⟨c,hc⟩:=hc
  unfold aR
  rcases μ.mp h with e|h
  ·cases e
   rw[Q0 rfl,hc]
   exact dg r _ ⟨c,()⟩
  ·split
   ·exact cy ⟨c,hc⟩ r _ h
   ·exact cy ⟨c,hc⟩ r _ h
def Cx.comp(X:Cx)(N:List Str)(scope:Et)(fp:List Addr)(s:η)(H:Hp):Cx where
 prog:=X.prog
 w:=X.w
 K:=X.K
 mg:=X.mg
 base:=X.base
 A:=X.A
 N:=N
 s₀:=s
 H₀:=H
 env:=compEnvC scope (aR X.env scope.names []) (s.heap.objs.size+1) X.env
 outer:=X.stack
 stack:=X.stack
 ex:=fp
 calm:=X.calm
 fn:=λ_=>false
 pn:=[]
 xe:=λ_ _=>False
def cw(k:Nat)(ix:List Nat)(σ:St):St:=Β k none++ix.map λj=>(σ[j]?).join
structure cN(N:List Str)(sc:Et)(scope:Et)(own:List Str)(ix:List Nat):Prop where
 kind:scope.kind=.function
 nocell:∀y∈scope.names,y.2≠.cell
 names:∀y∈scope.names,y.2=.local->scope.names.lookup y.1=some .local
 free:∀y∈scope.names,y.2=.free->sc.names.lookup y.1=some .cell\/sc.names.lookup y.1=some .free
 cap:∀j∈ix,∀x,N[j]?=some x->(x,ϓ)∈scope.names/\(scope.names.lookup x=some .free)
 inN:∀j∈ix,j<N.length
abbrev lcN(N own:List Str)(ix:List Nat):List Str:=own++ix.filterMap λj=>N[j]?
theorem yz{N own:List Str}{ix:List Nat}(h:∀j∈ix,j<N.length):(lcN N own ix).length=own.length+ix.length:=by
 unfold lcN
 rw[χ]
 congr 1
 induction ix with
 |nil=>rfl
 |cons j r ih=>
  have hj:j<N.length:=h j Δ
  rw[t7,Γ hj]
  show _+1=_+1
  rw[ih λi hi=>h i (υ _ hi)]
theorem eR{N:List Str}:∀{ix:List Nat},(∀j∈ix,j<N.length)->∀{i:Nat}{x:Str},(ix.filterMap λj=>N[j]?)[i]?=some x->∃j,ix[i]?=some j/\N[j]?=some x
 |[],_,i,x,e=>by simp at e
 |j::r,h,i,x,e=>by
  have hj:j<N.length:=h j Δ
  rw[t7,Γ hj]at e
  cases i with
  |zero=>
   refine⟨j,rfl,?_⟩
   rw[Γ hj]
   exact e
  |succ i=>
   obtain⟨j',e1,e2⟩:=eR (λi hi=>h i (υ _ hi)) (i:=i) (x:=x) (by simpa using e)
   exact⟨j',by simpa using e1,e2⟩
theorem kD{k:Nat}{ix:List Nat}{σ:St}{i:Nat}{v:V}(h:(cw k ix σ)[i]?=some (some v)):∃i' j,i=k+i'/\ix[i']?=some j/\σ[j]?=some (some v):=by
 unfold cw at h
 by_cases hi:i<k
 ·rw[Ft (by simpa using hi),List.getElem?_replicate,Q0 hi]at h
  cases h
 ·rw[A2 (by simpa using hi),u7,Ν]at h
  refine⟨i-k,?_⟩
  cases e:ix[i-k]? with
  |none=>rw[e]at h;cases h
  |some j=>
   rw[e]at h
   refine⟨j,(),rfl,?_⟩
   have h':(σ[j]?).join=some v:=by simpa using h
   cases q:σ[j]? with
   |none=>rw[q]at h';cases h'
   |some o=>
    rw[q]at h'
    exact congrArg some h'
theorem cr{env:Env}{x:Str}:∀{names:List (Str×DH)},names.lookup x=some .free ->
  (names.map λ(n,k)=>if (k==ϓ&&env.scope.kind==.function&&env.kindOf n==some .cell)then (n,p_)else (n,k)).lookup x=some .cell \/
  (names.map λ(n,k)=>if (k==ϓ&&env.scope.kind==.function&&env.kindOf n==some .cell)then (n,p_)else (n,k)).lookup x=some .free
 |[],h=>by simp at h
 |(n,k)::r,h=>by
  have ih:=@cr env x r
  rw[ό]
  show FE x ((if (k==ϓ&&env.scope.kind==.function&&env.kindOf n==some .cell)=true then (n,p_)else (n,k))::_)=_\/FE x ((if (k==ϓ&&env.scope.kind==.function&&env.kindOf n==some .cell)=true then (n,p_)else (n,k))::_)=_
  cases hx:x==n with
  |true=>
   simp only[a9,hx]at h
   cases h
   by_cases hc:(ϓ==ϓ&&env.scope.kind==.function&&env.kindOf n==some .cell)=true
   ·rw[Q0 hc];left;simp only[a9,hx]
   ·rw[Q6 hc];right;simp only[a9,hx]
  |false=>
   simp only[a9,hx]at h
   by_cases hc:(k==ϓ&&env.scope.kind==.function&&env.kindOf n==some .cell)=true
   ·rw[Q0 hc];simp only[a9,hx];exact ih h
   ·rw[Q6 hc];simp only[a9,hx];exact ih h
theorem cq{env:Env}{x:Str}{kd:DH}:∀{names:List (Str×DH)},
  (names.map λ(n,k)=>if (k==ϓ&&env.scope.kind==.function&&env.kindOf n==some .cell)then (n,p_)else (n,k)).lookup x=some kd->(kd=.cell\/kd=.free)->(∀y∈names,y.2≠.cell) ->
  (x,ϓ)∈names
 |[],h,_,_=>by simp at h
 |(n,k)::r,h,hk,hc=>by
  have ih:=@cq env x kd r
  rw[ό]at h
  have hcr:∀y∈r,y.2≠.cell:=λy hy=>hc y (υ _ hy)
  by_cases hf:k=.free
  ·subst hf
   cases hx:x==n with
   |true=>
    have:x=n:=by simpa using hx
    subst this
    exact Δ
   |false=>
    refine υ _ (ih ?_ hk hcr)
    by_cases hcc:(ϓ==ϓ&&env.scope.kind==.function&&env.kindOf n==some .cell)=true
    ·have h2:FE x ((if (ϓ==ϓ&&env.scope.kind==.function&&env.kindOf n==some .cell)=true then (n,p_)else (n,ϓ))::r.map λ(n,k)=>if (k==ϓ&&env.scope.kind==.function&&env.kindOf n==some .cell)then (n,p_)else (n,k))=some kd:=h
     rw[Q0 hcc,a9,hx]at h2
     exact h2
    ·have h2:FE x ((if (ϓ==ϓ&&env.scope.kind==.function&&env.kindOf n==some .cell)=true then (n,p_)else (n,ϓ))::r.map λ(n,k)=>if (k==ϓ&&env.scope.kind==.function&&env.kindOf n==some .cell)then (n,p_)else (n,k))=some kd:=h
     rw[Q6 hcc,a9,hx]at h2
     exact h2
  ·have hb:(k==ϓ)=false:=by simpa using hf
   have h2:FE x ((if (k==ϓ&&env.scope.kind==.function&&env.kindOf n==some .cell)=true then (n,p_)else (n,k))::r.map λ(n,k)=>if (k==ϓ&&env.scope.kind==.function&&env.kindOf n==some .cell)then (n,p_)else (n,k))=some kd:=h
   rw[hb,i9,i9,Q6 Κ,a9]at h2
   cases hx:x==n with
   |true=>
    rw[hx]at h2
    cases h2
    rcases hk with z|z
    ·exact absurd z (hc (n,_) Δ)
    ·exact absurd z hf
   |false=>
    rw[hx]at h2
    exact υ _ (ih h2 hk hcr)
theorem nlt{a b:Nat}(h:a<b):a≠b:=Ρ h
theorem ngt{a b:Nat}(h:a<b):b≠a:=m6 h
theorem pN{a b:Nat}(h:a<b):a≠b+1:=Ρ (r_ h)
theorem CM{a b:Nat}(h:a<b):b+1≠a:=m6 (r_ h)
theorem nss(a:Nat):a≠a+1:=Ρ (DS a)
theorem Bf(a:Nat):a+1≠a:=m6 (DS a)
section
variable{X:Cx}{pins:List (Addr×Obj)}{σ:St}{H:Hp}{s:η}{scope:Et}{own:List Str}{ix:List Nat}{fp:List Addr}
theorem Inv.compOk{N:List Str}(I:Inv X pins σ H s)(L:cN X.N X.env.scope scope own ix)(hf:∀b∈fp,jw X pins H b)(hlt:∀b∈fp,b<s.heap.objs.size):(X.comp N scope fp s H).Ok where
 mod:=I.ok.mod
 kind:=L.kind
 glob:=I.ok.glob
 blt:=I.ok.blt
 above:=y6 _
 inj:=λx y c h1 h2=>I.ok.inj x y c (bh _ _ (λ_ _ z=>by simp at z) x c h1) (bh _ _ (λ_ _ z=>by simp at z) y c h2)
 has:=λx hx=>by
  have hm:(x,ϓ)∈scope.names:=by
   rcases hx with hx|hx
   ·exact cq (env:=X.env) (x:=x) (names:=scope.names) hx (.inl rfl) L.nocell
   ·exact cq (env:=X.env) (x:=x) (names:=scope.names) hx (.inr rfl) L.nocell
  exact cy (I.ok.has x (L.free _ hm rfl)) _ _ hm
 cab:=λx c h=>by cases h
 hd:=I.ok.hd
 frames:=I.ok.frames
 stk:=.inl rfl
 exf:=λb hb=>⟨pN (hlt b hb),λx c e=>(hf b hb).2.2.2.2.1 x c (bh _ _ (λ_ _ z=>by simp at z) x c e)⟩
 bs:=I.bs
 bsz:=Ϙ I.ok.bsz I.sz
 noex:=λb o e hb=>by
  rcases(hf b hb).2.2.2.1 with z|z
  ·exact I.ok.noex b o e z
  ·exact absurd (ϕ (ς e) (Ϙ I.ok.bsz z)) (o_ _)
 exfs:=λb hb z=>by
  rcases μ.mp (I.stkSub b z)with e|e
  ·exact(hf b hb).2.1 e
  ·exact(hf b hb).2.2.1 e
 funs:=I.stack
 frf:=I.stkFree
theorem Inv.compStart{h1:Heap}{tk:Nat}(I:Inv X pins σ H s)(L:cN X.N X.env.scope scope own ix)(hf:∀b∈fp,jw X pins H b)(hlt:∀b∈fp,b<s.heap.objs.size)
  (k:∀b o,s.heap.get? b=some o->h1.get? b=some o) {m:Str->Option δ} (hn:h1.Ns (s.heap.objs.size+1) m):
  Inv (X.comp (lcN X.N own ix) scope fp s H) [] (cw own.length ix σ) H {s with heap:=h1,toks:=tk}:=by
 have sub:=λx c=>bh (env:=X.env) scope.names [] (λ_ _ z=>by simp at z) x c
 refine⟨I.compOk L hf hlt,rfl,I.bare,Un.kept k,⟨m,hn,λi x v e1 e2 e3=>?_⟩,λx c e=>?_,I.hok.fresh (y6 _),λx c e=>I.freeC x c (sub x c e),λp hp=>absurd (show p∈([]:List (Addr×Obj))from hp) (),I.hok.kept k,?_⟩
 ·obtain⟨i',j,rfl,hj,hv⟩:=kD e2
  have e1':(lcN X.N own ix)[own.length+i']?=some x:=e1
  unfold lcN at e1'
  rw[A2 (o0 _ _),Nat.add_sub_cancel_left]at e1'
  obtain⟨j',hj',hN⟩:=eR L.inN e1'
  rw[hj]at hj'
  cases hj'
  have hjm:j∈ix:=Λ hj
  obtain⟨hmem,hlk⟩:=L.cap j hjm x hN
  have hkind:=L.free _ hmem rfl
  obtain⟨m0,hn0,hl0⟩:=I.loc
  obtain⟨u,r,l⟩:=hl0 j x v hN hv (by rcases hkind with z|z;exact .inr (.inl z);exact .inr (.inr z))
  refine⟨u,r,.inr ⟨?_,?_⟩⟩
  ·exact cr (env:=X.env) hlk
  ·rcases l with ⟨kl,_⟩|⟨_,c,hc,hcell⟩
   ·have kl':X.env.scope.names.lookup x=some .local:=kl
    rcases hkind with z|z
    ·rw[kl']at z;cases z
    ·rw[kl']at z;cases z
   ·obtain⟨c',hc'⟩:=cy (env:=X.env) ⟨c,hc⟩ scope.names [] hmem
    have:c'=c:=by
     have q:=sub x c' hc'
     rw[hc]at q
     exact(ϑ q).symm
    subst this
    obtain⟨o,ho,hd⟩:=hcell
    exact⟨c',hc',o,k _ _ ho,hd⟩
 ·obtain⟨v,o,ho,hd⟩:=I.cell x c (sub x c e)
  exact⟨v,o,k _ _ ho,hd⟩
 ·show(cw own.length ix σ).length=(lcN X.N own ix).length
  rw[yz L.inN]
  unfold cw
  rw[χ,u7,ε]
def GW(k:Nat)(g:TG):Prop:=∀x (σ:St) H (Q:St->Hp->Prop),g x σ H Q->g x σ H λσ2 H2=>Q σ2 H2/\σ2.length=σ.length/\∀j,k<=j->σ2[j]?=σ[j]?
theorem bH{k i:Nat}(h:i<k):GW k (cu i):=λx σ H Q q=>⟨q,(),λj hj=>by rw[DF ()]⟩
def GWs(k:Nat)(g:TGs):Prop:=∀x (σ:St) H (Q:St->Hp->Prop),g x σ H Q->g x σ H λσ2 H2=>Q σ2 H2/\σ2.length=σ.length/\∀j,k<=j->σ2[j]?=σ[j]?
def GM(g:TG):Prop:=∀x (σ:St) H (Q Q':St->Hp->Prop),(∀s h,Q s h->Q' s h)->g x σ H Q->g x σ H Q'
theorem lH{i:Nat}:GM (cu i):=λ_ _ _ _ _ h q=>h _ _ q
theorem yo{k:Nat}:GWs k qx:=λx σ H Q q=>⟨q.1,q.2,rfl,λ_ _=>rfl⟩
theorem pf{k:Nat}{t:TG}{u:TGs}(ht:GW k t)(hu:GWs k u)(mt:GM t)(mu:∀x (σ:St) H (Q Q':St->Hp->Prop),(∀s h,Q s h->Q' s h)->u x σ H Q->u x σ H Q'):GWs k (eN t u):=λx σ H Q q=>by
 obtain⟨v,r,e,q⟩:=q
 refine⟨v,r,e,mt _ _ _ _ _ ?_ (ht _ _ _ _ q)⟩
 rintro σ1 H1 ⟨q1,l1,j1⟩
 refine mu _ _ _ _ _ ?_ (hu _ _ _ _ q1)
 rintro σ2 H2 ⟨q2,l2,j2⟩
 exact⟨q2,l2.trans l1,λj hj=>(j2 j hj).trans (j1 j hj)⟩
theorem sT:∀x (σ:St) H (Q Q':St->Hp->Prop),(∀s h,Q s h->Q' s h)->qx x σ H Q->qx x σ H Q':=λ_ _ _ _ _ h q=>⟨q.1,h _ _ q.2⟩
theorem wa{t:TG}{u:TGs}(mt:GM t)(mu:∀x (σ:St) H (Q Q':St->Hp->Prop),(∀s h,Q s h->Q' s h)->u x σ H Q->u x σ H Q'):∀x (σ:St) H (Q Q':St->Hp->Prop),(∀s h,Q s h->Q' s h)->eN t u x σ H Q->eN t u x σ H Q':=
 λ_ _ _ _ _ h ⟨v,r,e,q⟩=>⟨v,r,e,mt _ _ _ _ _ (λ_ _ q1=>mu _ _ _ _ _ h q1) q⟩
theorem Ap{k:Nat}{K:ζ}{n:Nat}{t:TGs}(ht:GWs k t):GW k (ww K n t):=λx σ H Q q=>by
 obtain⟨a,xs,e,hq,hl,q⟩:=q
 exact⟨a,xs,e,hq,hl,ht _ _ _ _ q⟩
theorem ie{K:ζ}{i j k:Nat}(hi:i<k)(hj:j<k):GW k (ww K 2 (eN (cu i) (eN (cu j) qx))):=
 Ap (pf (bH hi) (pf (bH hj) yo lH sT) lH (wa lH sT))
def PIf(X:Cx)(ifs:List Expr)(t:TT):Prop:=
 ∀(pins:List (Addr×Obj))(s:η)(σ:St)(H:Hp)(Q:Bool->Hp->Prop),Inv X pins σ H s->t σ H Q ->
  wpAny (model X.prog X.w) X.A (forIn ifs true λc r=>if r=true then do let ok <-isTrue c X.env (eval c X.env);pure (Dl ok)else pure (Dl r)) (TP X pins σ Q) X.xe s
def AG:TT:=λ_ H Q=>Q true H
theorem pif_nil:PIf X [] AG:=λ_ _ _ H _ I h=>wpAny_tests_nil ⟨H,I,h⟩
theorem iK{c:Expr}{t:TT}(h:PT X c t):PIf X [c] t:=λpins s σ H Q I q=>wpAny_tests_one (h pins s σ H Q I q)
def rLC(J:It)(k:Nat)(ix:List Nat)(g:TG)(tt:TT)(te:TE)(σ:St)(H1:Hp)(Q:List V->Hp->Prop):Prop:=
 ∃W:Nat->Nat->List V->Hp->Prop,(∃m,W 0 m [] H1)/\∀i m ys H,W i m ys H ->
  (J.stop i H/\Q ys H) \/
  (J.go i H/\∃N:List V->Hp->Prop,(∀ys' H',N ys' H'->∃m',m'<m/\W (i+1) m' ys' H')/\∀x H',J.yld i H x H'->g x (cw k ix σ) H' λσ2 H2=>tt σ2 H2 λc H3=>
   if c=true then te σ2 H3 λy H4=>ys.length<sizeLine/\N (ys++[y]) H4
   else N ys H3)
theorem pz{elt tg iter:Expr}{ifs:List Expr}{pos:Pos}{it:Addr}{tn:Nat->Heap->Prop}{J:It}{g:TG}{tt:TT}{te:TE}{E:δ->η->Prop}{Qf:List V->Hp->Prop}{RR:δ->Addr->Ff->η->Prop}
  (L:cN X.N X.env.scope scope own ix) (hc:X.calm=true) (hg:∀fp s H,PG (X.comp (lcN X.N own ix) scope fp s H) tg g) (gw:GW own.length g)
  (ht:∀fp s H,PIf (X.comp (lcN X.N own ix) scope fp s H) ifs tt) (he:∀fp s H,PE (X.comp (lcN X.N own ix) scope fp s H) elt te)
  (I:Inv X pins σ H s) (T:kg X.prog X.w X.K tg J fp it tn) (st:tn 0 s.heap) (hf:∀b∈fp,jw X pins H b)
  (hw:rLC J own.length ix g tt te σ H Qf)
  (hRR:∀(D C:Addr)(s':η)(ys:List V)(H':Hp)(m:Str->Option δ),s'.heap.Ns C m->C≠X.env.locals->(∀x c,X.env.cells.lookup x=some c->c≠C)->X.s₀.heap.objs.size<=C->(∀p∈X.pn++pins,p.1≠C)->upd H' D (.lst ys) C=none->H' D=none ->
   Inv X pins σ (upd H' D (.lst ys)) s'->Qf ys H'->RR (.ref D) C (.ok .next) s'):
  wpAny (model X.prog X.w) X.A (newList []) (λacc s₃=>wpAny (model X.prog X.w) X.A (newFunctionEnv scope X.env.globals (aR X.env scope.names []) [] X.env.qual none .none (some X.env)) (λcenv s₄=>
   codeAny (model X.prog X.w) X.A (.compStart (.ListComp elt [⟨tg,iter,ifs,0⟩] scope pos) 0 (.ref it) acc {cenv with scope:=relabel scope X.env}) (RR acc cenv.locals) s₄) E s₃) E s:=by
 obtain⟨W,⟨m0,w0⟩,turn⟩:=hw
 have hlt:∀b∈fp,b<s.heap.objs.size:=λb hb=>by
  obtain⟨o,e,_⟩:=T.obj 0 s.heap st b hb
  exact ς e
 refine ϝ (wpAny_newFunctionEnv L.nocell (by intro y hy;simp at hy) (λh₁ hns₁ hsb₁=>?_) L.kind)
 dsimp only at hns₁ hsb₁⊢
 generalize hH2:s.heap.push {cls:=.type "list",dict:=none,data:=.seq ([]:List δ).toArray}=h2 at hns₁ hsb₁⊢
 have hC:h2.objs.size=s.heap.objs.size+1:=by rw[<-hH2,ϩ]
 have old:∀b o,s.heap.get? b=some o->h₁.get? b=some o:=λb o e=>by
  exact hsb₁.extBut b o (by rw[hC];exact pN (ς e)) (ι _ (hH2▸ι _ e))
 have hacc:h₁.PlainList s.heap.objs.size #[]:=⟨_,hsb₁.extBut _ _ (by rw[hC];exact nss _) (ι _ (hH2▸ψ _ rfl))⟩
 have hD0:H s.heap.objs.size=none:=I.hok.fresh (ρ _)
 rw[hC]at hns₁
 have I0:=I.compStart (tk:=s.toks+([]:List (Str×δ)).length) L hf hlt old hns₁
 have sub:=λx c=>bh (env:=X.env) scope.names [] (λ_ _ z=>by simp at z) x c
 have cellLt:∀x c,X.env.cells.lookup x=some c->c<s.heap.objs.size:=λx c e=>by
  obtain⟨v,q⟩:=I.cell x c e
  exact q.lt
 have stkLt:∀b∈frs X.stack,b<s.heap.objs.size:=λb hb=>by
  obtain⟨_,o,ho,_⟩:=I.stack.mem hb
  exact ς ho
 have env_eq:({newEnv scope h2.objs.size X.env.globals (aR X.env scope.names []) X.env.qual none .none (some X.env) builtinsNs with scope:=relabel scope X.env}:Env)=(X.comp (lcN X.N own ix) scope fp s H).env:=by
  show compEnvC scope (aR X.env scope.names []) h2.objs.size X.env=compEnvC scope (aR X.env scope.names []) (s.heap.objs.size+1) X.env
  rw[hC]
 have loop:codeAny (model X.prog X.w) X.A (.compLoop (.ListComp elt [⟨tg,iter,ifs,0⟩] scope pos) 0 (.ref it) (.ref s.heap.objs.size) (X.comp (lcN X.N own ix) scope fp s H).env) (RR (.ref s.heap.objs.size) (s.heap.objs.size+1))
   {s with heap:=h₁,toks:=s.toks+([]:List (Str×δ)).length}:=by
  refine yu (λn s'=>∃i ys H',Inv (X.comp (lcN X.N own ix) scope fp s H) [] (cw own.length ix σ) H' s'/\tn i s'.heap/\(∀b∈fp,H' b=none)/\H' s.heap.objs.size=none /\
   (∃its:List δ,ar ys its/\s'.heap.PlainList s.heap.objs.size its.toArray)/\ys.length<=sizeLine/\W i n ys H') ?_ m0
   ⟨0,[],H,I0,T.keep _ _ _ st (λb _ o e=>old b o e),λb hb=>(hf b hb).1,hD0,⟨[],.nil,hacc⟩,Ξ _,w0⟩
  rintro n s3 ⟨i,ys,H3,I3,st3,fr3,d3,⟨its,rv,n3,hp3⟩,hz,w3⟩
  have Ip:=I3.pins_of (pins':=[(s.heap.objs.size,{cls:=.type "list",data:=.seq its.toArray n3})]) (λp hp=>by
   have e:p=(s.heap.objs.size,{cls:=.type "list",data:=.seq its.toArray n3}):=by simpa using hp
   subst e
   exact⟨hp3,d3,nss _,λz=>absurd (stkLt _ z) (o_ _),λv z=>by cases z⟩)
  have stat:∀{H':Hp},(∀b∈fp,H' b=none)->∀b∈fp,jw (X.comp (lcN X.N own ix) scope fp s H) [(s.heap.objs.size,{cls:=.type "list",data:=.seq its.toArray n3})] H' b:=λhn b hb=>
   ⟨hn b hb,pN (hlt b hb),I3.ok.exfs b hb,.inl hb,λx c e=>(I3.ok.exf b hb).2 x c e,λp hp=>by
    have e:p=(s.heap.objs.size,{cls:=.type "list",data:=.seq its.toArray n3}):=by simpa using(show p∈([]:List (Addr×Obj))++[(s.heap.objs.size,{cls:=.type "list",data:=.seq its.toArray n3})]from hp)
    subst e
    exact ngt (hlt b hb)⟩
  rcases turn i n ys H3 w3 with ⟨stop,qf⟩|⟨go,N,hN,step⟩
  ·refine thn (T.done (X.comp (lcN X.N own ix) scope fp s H) rfl rfl rfl hc i _ s3 _ H3 _ Ip (stat fr3) st3 stop) λr s4 ⟨hr,I4⟩=>?_
   subst hr
   obtain⟨e4,d4,_⟩:=I4.pin (s.heap.objs.size,{cls:=.type "list",data:=.seq its.toArray n3}) (ϟ _ Δ)
   obtain⟨mC,hnC,_⟩:=I4.loc
   have hok:HOk X.prog X.w (upd H3 s.heap.objs.size (.lst ys)) s4.heap:=λb u e=>by
    by_cases hb:b=s.heap.objs.size
    ·subst hb
     rw[aa]at e
     cases e
     exact⟨hz,its,n3,rv,e4⟩
    ·rw[ai hb]at e
     exact(I4.hok b u e).stay (λc v _ q=>q) (λc q=>by rw[ai (af q d4)];exact q) λc xs q=>by rw[ai (af q d4)];exact q
   have ub:=I4.base
   have un:Un (frs X.stack) fp H (upd H3 s.heap.objs.size (.lst ys)) s.heap s4.heap:=
    ⟨ub.keep,ub.slot,λb o e n hx=>by rw[ai (Ρ (ς e))];exact ub.free b o e n hx,ub.there,
     λb xs e=>by rw[ai (af (ub.tups b xs e) d4)];exact ub.tups b xs e,λb o u e=>by rw[ai (af (ub.frzs b o u e) d4)];exact ub.frzs b o u e,
     λb ps e=>by
      obtain⟨more,q⟩:=ub.tbls b ps e
      exact⟨more,by rw[ai (af q d4)];exact q⟩⟩
   have I5:Inv X pins σ (upd H3 s.heap.objs.size (.lst ys)) s4:=I.call' I4.os un hok I4.bare λb hb=>by
    obtain⟨f0,f1,f2,f3,f4,f5⟩:=hf b hb
    exact⟨f3,f1,f4,f5⟩
   refine hRR _ _ s4 ys H3 mC hnC ?_ ?_ ?_ ?_ ?_ d4 I5 qf
   ·exact CM I.lt
   ·intro x c e
    exact pN (cellLt x c e)
   ·exact Ϙ I.sz (y6 _)
   ·intro p hp
    exact pN (ς (I.pin p hp).1)
   ·rw[ai (Bf _)]
    exact I4.free
  ·refine thn (T.item (X.comp (lcN X.N own ix) scope fp s H) rfl rfl rfl hc i _ s3 _ H3 _ Ip (stat fr3) st3 go) λr s4 ⟨u,hr,h4⟩=>?_
   subst hr
   refine thn h4 λ_ s5 ⟨x,H5,I5,r5,y5,st5,fr5⟩=>?_
   have I5':=I5.pinned (stat fr5) (T.obj _ _ st5)
   refine thn (hg fp s H _ s5 _ H5 x u _ I5' r5 (gw _ _ _ _ (step x H5 y5))) λ_ s6 ⟨σ6,H6,I6,q6,l6,k6⟩=>?_
   refine thn (ht fp s H _ s6 σ6 H6 _ I6 q6) λc s7 ⟨H7,I7,q7⟩=>?_
   have again:∀{s8:η}{H8:Hp},Inv (X.comp (lcN X.N own ix) scope fp s H) ([(s.heap.objs.size,{cls:=.type "list",data:=.seq its.toArray n3})]++jg fp s5.heap) σ6 H8 s8 ->
     Inv (X.comp (lcN X.N own ix) scope fp s H) [] (cw own.length ix σ) H8 s8/\tn (i+1) s8.heap/\(∀b∈fp,H8 b=none)/\H8 s.heap.objs.size=none/\s8.heap.get? s.heap.objs.size=some {cls:=.type "list",data:=.seq its.toArray n3}:=λ{s8 H8} I8=>by
    obtain⟨e8,d8,_⟩:=I8.pin (s.heap.objs.size,{cls:=.type "list",data:=.seq its.toArray n3}) (ϟ _ (i7 _ Δ))
    refine⟨(I8.pins_of (pins':=[]) λp hp=>by cases hp).weak l6.symm λj v e=>?_,T.keep _ _ _ st5 λb hb o e=>(I8.pin (b,o) (ϟ _ (ϟ _ (cW hb e)))).1,λb hb=>?_,d8,e8⟩
    ·obtain⟨i',j',rfl,_,_⟩:=kD e
     rw[k6 _ (o0 _ _)]
     exact e
    ·obtain⟨o,e,d⟩:=T.obj _ _ st5 b hb
     exact(I8.pin (b,o) (ϟ _ (ϟ _ (cW hb e)))).2.1
   cases c with
   |false=>
    rw[Q6 Κ]at q7⊢
    obtain⟨m',hm,w7⟩:=hN _ _ q7
    obtain⟨a1,a2,a3,a4,a5⟩:=again I7
    exact⟨m',hm,i+1,ys,H7,a1,a2,a3,a4,⟨its,rv,n3,a5⟩,hz,w7⟩
   |true=>
    rw[Q0 rfl]at q7⊢
    refine thn (he fp s H _ s7 σ6 H7 _ I7 q7) λv s8 ⟨y,H8,I8,r8,hz8,q8⟩=>?_
    obtain⟨m',hm,w8⟩:=hN _ _ q8
    obtain⟨a1,a2,a3,a4,a5⟩:=again I8
    refine wpAny_list_append_plain (s:=s8) (l:=s.heap.objs.size) (items:=its.toArray) ⟨n3,a5⟩ (λh9 hl9 hs9=>?_) (by have:=rv.length;simp;omega)
    have I9:Inv (X.comp (lcN X.N own ix) scope fp s H) [] (cw own.length ix σ) H8 {s8 with heap:=h9}:=a1.turned (t':=s8.toks) (it:=s.heap.objs.size) (λb o hb e=>hs9.extBut b o hb e) a4 (nss _)
     (.inr (ρ _)) (λx c e=>nlt (cellLt x c (sub x c e))) (λp hp=>absurd (show p∈([]:List (Addr×Obj))from hp) ())
    refine⟨m',hm,i+1,ys++[y],H8,I9,T.keep _ _ _ a2 (λb hb o e=>hs9.extBut b o (nlt (hlt b hb)) e),a3,a4,⟨its++[v],ar.append rv (.cons r8 .nil),?_⟩,?_,w8⟩
    ·have e:(its++[v]).toArray=its.toArray.push v:=by simp
     rw[e]
     exact hl9
    ·rw[χ]
     show _+1<=_
     omega
 show codeAny _ _ (.compStart _ 0 (.ref it) (.ref s.heap.objs.size) _) (RR (.ref s.heap.objs.size) h2.objs.size) _
 rw[hC]
 have e2:=env_eq
 rw[hC]at e2
 refine Eq.mpr (congrArg (λe=>codeAny (model X.prog X.w) X.A (.compStart (.ListComp elt [⟨tg,iter,ifs,0⟩] scope pos) 0 (.ref it) (.ref s.heap.objs.size) e) (RR (.ref s.heap.objs.size) (s.heap.objs.size+1)) {s with heap:=h₁,toks:=s.toks+([]:List (Str×δ)).length}) e2) ?_
 exact codeAny_compStart_list loop (T.self X.A 0 _ _ _ (T.keep _ _ _ st λb _ o e=>old b o e) loop)
end
section
variable{X:Cx}{scope:Et}{own:List Str}{ix:List Nat}
def tLC(wi:TI)(k:Nat)(ix:List Nat)(g:TG)(tt:TT)(te:TE):TE:=λσ H Q=>wi σ H λJ H1=>rLC J k ix g tt te σ H1 λys H'=>∀a,H' a=none->Q (.ref a) (upd H' a (.lst ys))
theorem Inv.clos{pins:List (Addr×Obj)}{σ:St}{H:Hp}{s:η}(I:Inv X pins σ H s)(L:cN X.N X.env.scope scope own ix):closureFor scope X.env=pure (aR X.env scope.names []):=
 nF λx hx hf=>I.ok.has x.1 (L.free x hx hf)
theorem pe_lc{elt tg iter:Expr}{ifs:List Expr}{pos:Pos}{wi:TI}{g:TG}{tt:TT}{te:TE}(hi:PI X tg iter wi)(L:cN X.N X.env.scope scope own ix)(hc:X.calm=true)
  (hg:∀fp s H,PG (X.comp (lcN X.N own ix) scope fp s H) tg g) (gw:GW own.length g) (ht:∀fp s H,PIf (X.comp (lcN X.N own ix) scope fp s H) ifs tt) (he:∀fp s H,PE (X.comp (lcN X.N own ix) scope fp s H) elt te)
  (hs:∀x,foldedSetIterable iter X.env x=pure x:=by intro _;rfl):PE X (.ListComp elt [⟨tg,iter,ifs,0⟩] scope pos) (tLC wi own.length ix g tt te):=by
 intro pins s σ H Q I h
 rw[eval_ListComp]
 refine wpAny_comprehension_free (use:=none) rfl hs (I.clos L) L.kind L.names (thn (hi pins s σ H _ I h) λv s1 h1=>thn h1 λitv s2 h2=>?_)
 obtain⟨it,fp,tn,J,H2,e,I2,T,st2,f2,hw⟩:=h2
 subst e
 refine pz (RR:=λacc C=>compPost (model X.prog X.w) X.A X.xe none (EP X pins σ Q) acc C) L hc hg gw ht he I2 T st2 f2 hw ?_
 intro D C s' ys H' m hn c1 c2 c3 c4 c5 d I' q
 exact⟨m,hn,λh' hs'=>⟨.ref D,_,I'.turned (t':=s'.toks) (it:=C) (λb o hb e=>hs'.extBut b o hb e) c5 c1 (.inr c3) c2 c4,rfl,q D d⟩⟩
theorem ps_lc{elt tg iter:Expr}{ifs:List Expr}{pos spos py:Pos}{wi:TI}{g:TG}{tt:TT}{te:TE}{i:Nat}{y:Str}(hN:X.N.Nodup)(hy:X.N[i]?=some y)(hx:X.env.scope.names.lookup y=some .local)(hi:PI X tg iter wi)(L:cN X.N X.env.scope scope own ix)(hc:X.calm=true)
  (hg:∀fp s H,PG (X.comp (lcN X.N own ix) scope fp s H) tg g) (gw:GW own.length g) (ht:∀fp s H,PIf (X.comp (lcN X.N own ix) scope fp s H) ifs tt) (he:∀fp s H,PE (X.comp (lcN X.N own ix) scope fp s H) elt te)
  (hsw:swapsWith (.ListComp elt [⟨tg,iter,ifs,0⟩] scope pos) (some (.Name y py)) spos.line X.env=pure true:=by rfl)
  (hs:∀x,foldedSetIterable iter X.env x=pure x:=by intro _;rfl):PS X (.Assign [.Name y py] (.ListComp elt [⟨tg,iter,ifs,0⟩] scope pos) spos) (xG (tLC wi own.length ix g tt te) (cu i)):=by
 intro pins s σ H Dn I h
 rw[exec_Assign_Name_used _ _ _ _ hsw]
 refine γ (EL (γ ?_))
 show wpAny _ X.A (do let _ <-comprehension (.ListComp elt [⟨tg,iter,ifs,0⟩] scope pos) scope X.env _ (newList []) false (eval iter X.env) (some (assign (.Name y py) X.env))) _ _ s
 refine γ (thn (wpAny_comprehension_free (use:=some (assign (.Name y py) X.env)) (Q:=λ_ s'=>SP X pins Dn .next s') rfl hs (I.clos L) L.kind L.names
  (thn (hi pins s σ H _ I h) λv s1 h1=>thn h1 λitv s2 h2=>?_)) λ_ s' hq=>ν (ν hq))
 obtain⟨it,fp,tn,J,H2,e,I2,T,st2,f2,hw⟩:=h2
 subst e
 refine pz (RR:=λacc C=>compPost (model X.prog X.w) X.A X.xe (some (assign (.Name y py) X.env)) (λ_ s'=>SP X pins Dn .next s') acc C) L hc hg gw ht he I2 T st2 f2 hw ?_
 intro D C s' ys H' m hn c1 c2 c3 c4 c5 d I' q
 show wpAny _ X.A (assign (.Name y py) X.env (.ref D)) _ _ s'
 refine wpAny_assign_Name (kt I' hN hy (.inl hx) (v:=.ref D) rfl (λs2 I2 ⟨a,hs2,ha⟩=>?_) (.inr hx))
 have aC:a≠C:=by
  rcases ha with rfl|ha
  ·exact Ϗ c1
  ·exact c2 y a ha
 refine⟨m,hn.sameBut hs2 (Ϗ aC),λh' hs'=>?_⟩
 exact⟨_,_,I2.turned (t':=s2.toks) (it:=C) (λb o hb e=>hs'.extBut b o hb e) c5 c1 (.inr c3) c2 c4,q D d⟩
end
section
variable{k:Nat}{ix:List Nat}{g:TG}{tt:TT}{te:TE}{σ:St}{H1:Hp}{Q:List V->Hp->Prop}
def cE(k:Nat)(ix:List Nat)(g:TG)(tt:TT)(te:TE)(σ:St)(x:V)(ys:List V)(H:Hp)(N:List V->Hp->Prop):Prop:=
 g x (cw k ix σ) H λσ2 H2=>tt σ2 H2 λc H3=>if c=true then te σ2 H3 λy H4=>ys.length<sizeLine/\N (ys++[y]) H4 else N ys H3
theorem su{J:It}{n:Nat}(Pv:Nat->List V->Hp->Prop)(h0:Pv 0 [] H1)(hgo:∀i ys H,i<n->Pv i ys H->J.go i H)(hst:∀ys H,Pv n ys H->J.stop n H)
  (hs:∀i ys H x H',i<n->Pv i ys H->J.yld i H x H'->cE k ix g tt te σ x ys H' (Pv (i+1))) (hd:∀ys H,Pv n ys H->Q ys H):rLC J k ix g tt te σ H1 Q:=by
 refine⟨λi m ys H=>m=n-i/\i<=n/\Pv i ys H,⟨n,(),Ξ _,h0⟩,?_⟩
 rintro i m ys H ⟨rfl,hi,p⟩
 by_cases hlt:i<n
 ·exact .inr ⟨hgo i ys H hlt p,Pv (i+1),λys' H' q=>⟨n-(i+1),(),rfl,hlt,q⟩,λx H' y=>hs i ys H x H' hlt p y⟩
 ·have e:i=n:=by omega
  subst e
  exact .inl ⟨hst ys H p,hd ys H p⟩
theorem wL{lo:Int}{n:Nat}(Pv:Nat->List V->Hp->Prop)(h0:Pv 0 [] H1)(hs:∀i ys H,i<n->Pv i ys H->cE k ix g tt te σ (.int (lo+i)) ys H (Pv (i+1)))
  (hd:∀ys H,Pv n ys H->Q ys H):rLC (Itr lo n) k ix g tt te σ H1 Q:=
 su (n:=n) Pv h0 (λi _ _ h _=>h) (λ_ _ _=>ρ _) (λi ys H x H' h p y=>by
  obtain⟨e,y⟩:=y
  subst e y
  exact hs i ys _ h p) hd
theorem rR{K:ζ}{a:Addr}{xs:List V}(Pv:Nat->List V->Hp->Prop)(h0:Pv 0 [] H1)(hl:∀i ys H,i<=xs.length->Pv i ys H->SqL K H a xs)
  (hs:∀i ys H x,xs[i]?=some x->Pv i ys H->cE k ix g tt te σ x ys H (Pv (i+1))) (hd:∀ys H,Pv xs.length ys H->Q ys H):rLC (Itl K a) k ix g tt te σ H1 Q:=
 su (n:=xs.length) Pv h0 (λi ys H h p=>⟨xs,xs[i],hl i ys H (x_ h) p,by simp[h]⟩) (λys H p=>⟨xs,hl _ ys H (ρ _) p,ρ _⟩) (λi ys H x H' h p y=>by
  obtain⟨e,y⟩:=y
  subst e
  exact hs i ys _ x (y xs (hl i ys _ (x_ h) p)) p) hd
theorem dI{K:ζ}{a:Addr}{xs:List V}(Pv:Nat->List V->Hp->Prop)(h0:Pv 0 [] H1)(hl:∀i ys H,i<=xs.length->Pv i ys H->SqT K H a xs)
  (hs:∀i ys H x,xs[i]?=some x->Pv i ys H->cE k ix g tt te σ x ys H (Pv (i+1))) (hd:∀ys H,Pv xs.length ys H->Q ys H):rLC (Itt K a) k ix g tt te σ H1 Q:=
 su (n:=xs.length) Pv h0 (λi ys H h p=>⟨xs,xs[i],hl i ys H (x_ h) p,by simp[h]⟩) (λys H p=>⟨xs,hl _ ys H (ρ _) p,ρ _⟩) (λi ys H x H' h p y=>by
  obtain⟨e,y⟩:=y
  subst e
  exact hs i ys _ x (y xs (hl i ys _ (x_ h) p)) p) hd
end
def Itf(f:Nat->V)(n:Nat):It:=⟨λi _=>i<n,λi H x H'=>H'=H/\x=f i,λi _=>i=n⟩
theorem fu{P:Α}{w:Υ}{K:ζ}{tg:Expr}{it:Addr}{n:Nat}{Pv:Nat->δ->Prop}{tn:Nat->Heap->Prop}{f:Nat->V}
  (W:∀A:Ω,A.handled=none->Ga P w A it [it] [it] n Pv tn) (ob:∀i h,tn i h->∃o nm vs,h.get? it=some o/\o.cls=.type nm/\o.data=.fields vs/\["enumerate","zip","dict_itemiterator","dict_reverseitemiterator","odict_iterator","itertools.zip_longest","itertools.pairwise"].contains nm=false)
  (rel:∀i v,Pv i v->aw (f i) v) (hself:∀(A:Ω)(i:Nat)(s:η)(Q:δ->η->Prop)(E:δ->η->Prop),tn i s.heap->Q (.ref it) s->wpAny (model P w) A (pyIter (.ref it)) Q E s):kg P w K tg (Itf f n) [it] it tn where
 mem:=by simp
 obj:=λi h st b hb=>by
  have e:b=it:=by simpa using hb
  subst e
  obtain⟨o,nm,vs,e,_,d,_⟩:=ob i h st
  exact⟨o,e,λv z=>by rw[d]at z;cases z⟩
 keep:=λi h h' st k=>by
  by_cases hA:∃A:Ω,A.handled=none
  ·obtain⟨A,hA⟩:=hA
   exact(W A hA).frame i h h' st k
  ·exact absurd ⟨callerA,rfl⟩ hA
 item:=by
  intro X hP hw hK hc i pins s σ H E I hf st hg
  subst hP hw hK
  obtain⟨f0,f1,f2,f3,f4,f5⟩:=hf it ()
  refine(W X.A (I.ok.hd hc)).item i s _ _ hg st λv h' tk hv st' kk=>?_
  have I1:Inv X pins σ H {s with heap:=h',toks:=tk}:=I.turned (λb o hb e=>kk b o (by simpa using hb) e) f0 f1 f3 f4 f5
  obtain⟨o,nm,vs,e,c,d,hn⟩:=ob _ _ st'
  exact⟨v,rfl,rV (s:={s with heap:=h',toks:=tk}) e c d hn ⟨f i,H,I1,rel i v hv,⟨rfl,rfl⟩,st',λb hb=>(hf b hb).1⟩⟩
 done:=by
  intro X hP hw hK hc i pins s σ H E I hf st hg
  subst hP hw hK
  obtain⟨f0,f1,f2,f3,f4,f5⟩:=hf it ()
  have e:i=n:=hg
  subst e
  exact(W X.A (I.ok.hd hc)).done s _ _ st λh' tk kk=>⟨rfl,I.turned (λb o hb e=>kk b o (by simpa using hb) e) f0 f1 f3 f4 f5⟩
 self:=hself
theorem du{i j c:Int}(q1:0<c)(q3:-1000000<=i)(q4:i<1000000)(q5:-1000000<=j)(q6:j<1000000):0<=Ϛ i j c/\Ϛ i j c<=2000000:=by
 unfold Ϛ
 rw[Q0 (show c>0 from q1)]
 by_cases h:i<j
 ·rw[Q0 h]
  have h1:0<=(j-i-1)/c:=Gh () ()
  have h2:(j-i-1)/c<=j-i-1:=Int.ediv_le_self _ ()
  omega
 ·rw[Q6 h];omega
theorem nG{i j c:Int}(q1:0<c)(q2:c<1000)(q3:-1000000<=i)(q4:i<1000000)(q5:-1000000<=j)(q6:j<1000000):Ϥ.Range.small i j c=true:=by
 obtain⟨h1,h2⟩:=du q1 q3 q4 q5 q6
 unfold Ϥ.Range.small
 simp only[Ϥ.Range.rangeFitsLong,Θ,Gi,decide_eq_true_eq,beq_iff_eq,show c>0 from q1,if_true]
 omega
section
variable{X:Cx}{tg:Expr}
theorem Inv.fp1{pins:List (Addr×Obj)}{σ:St}{H:Hp}{s:η}(I:Inv X pins σ H s):∀b∈[s.heap.objs.size],jw X pins H b:=λb hb=>by
 have e:b=s.heap.objs.size:=by simpa using hb
 subst e
 exact I.fpOk (ρ _) (I.hok.fresh (ρ _))
def zb(x:Str)(i:Nat):V:=.str ⟨#[x.cps.getD i 0]⟩
def CB(ts:TE):TI:=λσ H R=>ts σ H λx H1=>∃z,x=.str z/\R (Itf (zb z) z.cps.size) H1
theorem pi_str{e:Expr}{ts:TE}(hl:PE X e ts):PI X tg e (CB ts):=by
 intro pins s σ H R I h
 refine thn (hl pins s σ H _ I h) λv s1 ⟨x,H1,I1,r1,q1⟩=>?_
 obtain⟨z,e,q⟩:=q1
 subst e
 obtain⟨t,rfl⟩:=r1
 have rel:∀i v,SignAt z i v->aw (zb z i) v:=λi v ⟨c,u,hc,hv⟩=>by
  subst hv
  refine⟨u,?_⟩
  have e:z.cps.getD i 0=c:=by rw[Dz,hc];rfl
  rw[e]
 cases ha:z.cps.all (· < 128)with
 |false=>
  refine wpAny_pyIter_wide ha ?_
  exact⟨s1.heap.objs.size,[s1.heap.objs.size],_,_,H1,rfl,I1.kept (t':=s1.toks) λb o e=>ι _ e,
   fu (λA hA=>Ga.strWide hA _ z t) (λi h ⟨o,e,c,d⟩=>⟨o,"str_iterator",_,e,c,d,()⟩) rel (λA i s Q E st hq=>wpAny_pyIter_striter_wide st hq),⟨_,ψ _ rfl,rfl,rfl⟩,λb hb=>I1.fp1 b hb,q⟩
 |true=>
  refine wpAny_pyIter_ascii ha ?_
  exact⟨s1.heap.objs.size,[s1.heap.objs.size],_,_,H1,rfl,I1.kept (t':=s1.toks) λb o e=>ι _ e,
   fu (λA hA=>Ga.strAscii hA _ z t) (λi h ⟨o,e,c,d⟩=>⟨o,"str_ascii_iterator",_,e,c,d,()⟩) rel (λA i s Q E st hq=>wpAny_pyIter_striter_ascii st hq),⟨_,ψ _ rfl,rfl,rfl⟩,λb hb=>I1.fp1 b hb,q⟩
def Bs(ta:TA):TI:=λσ H R=>ta σ H λvs H1=>∃i j c:Int,vs=[.int i,.int j,.int c]/\(0<c/\c<1000/\-1000000<=i/\i<1000000/\-1000000<=j/\j<1000000)/\R (Itf (λk=>.int (i+k*c)) (Ϛ i j c).toNat) H1
theorem pi_range3{a b c:Expr}{ta:TA}{p pos:Pos}(hg:Gl X "range")(hm:X.mg "range"=none)(ha:PA X [a,b,c] ta)(hs:starEach [a,b,c] X.env=[(false,eval a X.env),(false,eval b X.env),(false,eval c X.env)]:=by rfl)(hs2:starEach [b,c] X.env=[(false,eval b X.env),(false,eval c X.env)]:=by rfl):
  PI X tg (.Call (.Name "range" p) [a,b,c] [] pos) (Bs ta):=by
 intro pins s σ H R I h
 refine Call_ (cF I hg hm boot_range (Ϻ (thn (ha pos pins s σ H _ I h) λus s1 ⟨vs,H1,I1,r1,q1⟩=>?_) (by rw[hs,hs2]) (by rw[hs2];rfl)))
 obtain⟨i,j,c,e,⟨q1,q2,q3,q4,q5,q6⟩,q⟩:=q1
 subst e
 cases r1 with
 |cons r rr=>
  cases rr with
  |cons r' rr=>
   cases rr with
   |cons r'' rr=>
    cases rr
    obtain⟨t,rfl⟩:=r
    obtain⟨t',rfl⟩:=r'
    obtain⟨t'',rfl⟩:=r''
    refine call_range_3 () ?_ (.inl (PyProof.noPylong_small ()))
    obtain⟨z0,z1⟩:=du q1 q3 q4 q5 q6
    have hsz:(((Ϛ i j c).toNat:Nat):Int)=Ϛ i j c:=by omega
    refine wpAny_pyIter_range (IsRange.new ..) (nG q1 q2 q3 q4 q5 q6) ?_
    have I2:Inv X pins σ H1 {s1 with heap:=s1.heap.push {cls:=.type "range",data:=.fields #[.int i t,.int j t',.int c t'']},toks:=s1.toks}:=I1.kept λb o e=>ι _ e
    refine⟨_,[_],_,_,H1,rfl,I2.kept (t':=s1.toks) λb o e=>ι _ e,fu (f:=λk=>.int (i+k*c)) (λA hA=>Ga.range hA _ i c (Ϛ i j c).toNat) (λk h st=>⟨_,"range_iterator",_,st,rfl,rfl,()⟩) (λk v ⟨t,e⟩=>⟨t,e⟩) (λA k s Q E st hq=>wpAny_pyIter_rangeiter st hq),?_,λb hb=>I2.fp1 b hb,q⟩
    show IsRangeIter _ _ (i+((0:Nat):Int)*c) (((Ϛ i j c).toNat:Nat)-((0:Nat):Int)) c
    have e1:i+((0:Nat):Int)*c=i:=by simp
    have e2:(((Ϛ i j c).toNat:Nat):Int)-((0:Nat):Int)=Ϛ i j c:=by rw[hsz];simp
    rw[e1,e2]
    exact ψ _ rfl
theorem KV.at{kvs:List (Key×V)}{vs:List (Key×δ)}(r:KV kvs vs){i:Nat}{k:Key}{v:δ}(e:vs[i]?=some (k,v)):∃x,kvs[i]?=some (k,x)/\aw x v:=by
 induction r generalizing i with
 |nil=>simp at e
 | @cons p q ps qs h t ih=>
  cases i with
  |zero=>
   have e':q=(k,v):=by simpa using e
   obtain⟨p1,p2⟩:=p
   subst e'
   obtain⟨h1,h2⟩:=h
   have h1':p1=k:=h1
   subst h1'
   exact⟨p2,rfl,h2⟩
  |succ i=>exact ih (by simpa using e)
theorem zN{P:Α}{w:Υ}{k:Key}{u:δ}(h:(aN P w).is k u=true):aw (kV k) u:=by
 rcases aV (k:=k) (v:=u) h with ⟨i,t,rfl,rfl⟩|⟨x,t,rfl,rfl⟩
 ·exact⟨t,rfl⟩
 ·exact⟨t,rfl⟩
def Ite(K:ζ)(a:Addr):It:=
 ⟨λi H=>∃xs x,SqL K H a xs/\xs[i]?=some x,λi H x H'=>∃p y,H p=none/\H'=upd H p (.tup [.int i,y])/\x=.ref p/\∀xs,SqL K H a xs->xs[i]?=some y,λi H=>∃xs,SqL K H a xs/\xs.length<=i⟩
theorem uu{P:Α}{w:Υ}{K:ζ}{elts:List Expr}{x1}{tp:Pos}(a e it:Addr)(hei:e≠it):kg P w K (.Tuple elts x1 tp) (Ite K a) [e,it] e (λi h=>(∃old,IsEnum h e it i old)/\h.IsListIter it a i) where
 mem:=by simp
 obj:=λi h st b hb=>by
  obtain⟨⟨old,s1⟩,⟨o,e2,c,d⟩⟩:=st
  rcases μ.mp hb with rfl|hb
  ·exact⟨_,s1,λv z=>by
    have z':Data.fields _=Gv v:=z
    cases z'⟩
  ·have e':b=it:=by simpa using hb
   subst e'
   exact⟨o,e2,λv z=>by rw[d]at z;cases z⟩
 keep:=λi h h' st k=>⟨let ⟨old,s1⟩:=st.1;⟨old,k e () _ s1⟩,st.2.at λo q=>k it () o q⟩
 item:=by
  intro X hP hw hK hc i pins s σ H E I hf st hg
  subst hP hw hK
  obtain⟨xs,x,hq,hx⟩:=hg
  obtain⟨its,rv,p,hz⟩:=I.list hq
  obtain⟨u,hu,ru⟩:=rv.get hx
  obtain⟨f0,f1,f2,f3,f4,f5⟩:=hf e ()
  obtain⟨g0,g1,g2,g3,g4,g5⟩:=hf it ()
  obtain⟨⟨old,s1⟩,s2⟩:=st
  have he:e<s.heap.objs.size:=ς s1
  have hit:it<s.heap.objs.size:=by obtain⟨o,q,_⟩:=s2;exact ς q
  refine wpAny_pyNext_enum_item s1 s2 p.isList (x:=u) (by simpa using hu) hei λh1 heo hit1 ht1 hz1 hk1=>?_
  refine⟨_,rfl,wpAny_letOwnedTupleGo_enum heo λh2 he2 hs2=>?_⟩
  have hn:H s.heap.objs.size=none:=I.hok.fresh (ρ _)
  have keep:∀b o,b≠e->b≠it->s.heap.get? b=some o->h2.get? b=some o:=λb o h1' h2' q=>(hs2.2 b h1').trans (hk1 b o h1' h2' q)
  have tup:h2.get? s.heap.objs.size=some {cls:=.type "tuple",data:=.seq #[.int i s.toks,u]}:=(hs2.2 _ (ngt he)).trans ht1
  have I2:Inv X pins σ (upd H s.heap.objs.size (.tup [.int i,x])) {s with heap:=h2,toks:=s.toks+1}:=by
   have nitx:∀b v,H b=some v->b≠e/\b≠it:=λb v q=>⟨(λz=>by rw[z,f0]at q;cases q),(λz=>by rw[z,g0]at q;cases q)⟩
   refine I.step (g':=s.gens) (d':=s.drawn) (ch:=[e,it]) (λb hb=>?_) (λb o _ _ hc' q _=>keep b o (λz=>hc' (by simp[z])) (λz=>hc' (by simp[z])) q) (λb o _ _ hc' q _=>⟨o.slots,keep b o (λz=>hc' (by simp[z])) (λz=>hc' (by simp[z])) q⟩)
    (λb o _ q n=>by rw[ai (nlt (ς q))];exact n) (λb o hc' q=>⟨o,keep b o (λz=>hc' (by simp[z])) (λz=>hc' (by simp[z])) q⟩)
    (λb xs q=>by rw[ai (af q hn)];exact q) (λb o v q=>by rw[ai (af q hn)];exact q) (λb ps q=>⟨#[],by rw[ai (af q hn),q];simp⟩) (λm hm=>?_) (λb v q=>?_) I.bare
   ·rcases μ.mp hb with rfl|hb
    ·exact⟨f3,f1,f4,f5⟩
    ·have e':b=it:=by simpa using hb
     subst e'
     exact⟨g3,g1,g4,g5⟩
   ·obtain⟨o,es,ep,ho,r⟩:=hm
    exact⟨o,es,ep,keep _ o (Ϗ f1) (Ϗ g1) ho,r⟩
   ·by_cases hb:b=s.heap.objs.size
    ·subst hb
     rw[aa]at q
     cases q
     exact⟨(show 2<=sizeLine by rw[ω];decide),[.int i s.toks,u],.cons ⟨_,rfl⟩ (.cons ru .nil),⟨_,tup,rfl,0,rfl⟩,_,tup,rfl⟩
    ·rw[ai hb]at q
     refine(I.hok b v q).stay (λc w' hc' q'=>?_) (λc q'=>by rw[ai (af q' hn)];exact q') λc xs q'=>by rw[ai (af q' hn)];exact q'
     rcases hc' with z|z
     ·subst z;exact keep c w' (nitx c v q).1 (nitx c v q).2 q'
     ·exact keep c w' (nitx c _ z).1 (nitx c _ z).2 q'
  refine⟨.ref s.heap.objs.size,_,I2,rfl,⟨_,x,hn,rfl,rfl,λys hy=>by rw[I.list_inj hy hq];exact hx⟩,⟨⟨u,?_⟩,?_⟩,λb hb=>?_⟩
  ·have e1:((i+1:Nat):Int)=(i:Int)+1:=by omega
   rw[e1]
   exact he2
  ·exact hit1.at λo q=>(hs2.2 _ (Ϗ hei)).trans q
  ·have hb':b<s.heap.objs.size:=by
    rcases μ.mp hb with rfl|hb
    ·exact he
    ·have e':b=it:=by simpa using hb
     subst e';exact hit
   rw[ai (nlt hb')]
   exact(hf b hb).1
 done:=by
  intro X hP hw hK hc i pins s σ H E I hf st hg
  subst hP hw hK
  obtain⟨xs,hq,hx⟩:=hg
  obtain⟨its,rv,p,hz⟩:=I.list hq
  obtain⟨g0,g1,g2,g3,g4,g5⟩:=hf it ()
  obtain⟨⟨old,s1⟩,s2⟩:=st
  have hl:=rv.length
  exact wpAny_pyNext_enum_end (I.ok.hd hc) s1 s2 p.isList (by simp;omega) λh' eb=>⟨rfl,I.turned (t':=s.toks) (λb o hb q=>eb b o hb q) g0 g1 g3 g4 g5⟩
 self:=λA i s Q E st h=>by
  obtain⟨⟨old,s1⟩,s2⟩:=st
  have hT:s.TypeIs (.ref e) "enumerate":=⟨_,s1,rfl⟩
  refine wpAny_pyIter_slot hT E8 (ϫ E8 hT PySem.F.entry_enumerate_iter ?_ (PySem.F.args_enumerate_iter_1 _))
  show wpAny _ _ (ret (.ref e)) _ _ s
  exact ν ⟨_,rfl,"enumerate",_,hT,PySem.F.slot_enumerate_next.lookup,h⟩
def Bb(K:ζ)(ta:TA):TI:=λσ H R=>ta σ H λvs H1=>∃a,vs=[.ref a]/\(∃xs,SqL K H1 a xs)/\R (Ite K a) H1
theorem pi_enum{a:Expr}{ta:TA}{p pos:Pos}{elts:List Expr}{x1}{tp:Pos}(hg:Gl X "enumerate")(hm:X.mg "enumerate"=none)(ha:PA X [a] ta)(hs:starEach [a] X.env=[(false,eval a X.env)]:=by rfl):PI X (.Tuple elts x1 tp) (.Call (.Name "enumerate" p) [a] [] pos) (Bb X.K ta):=by
 intro pins s σ H R I h
 refine Call_ (cF I hg hm (u:=.type "enumerate") () (Ϻ (thn (ha pos pins s σ H _ I h) λus s1 ⟨vs,H1,I1,r1,q1⟩=>?_) hs rfl))
 obtain⟨l,e,⟨xs,hq⟩,q⟩:=q1
 subst e
 cases r1 with
 |cons r rr=>
  cases rr
  cases r
  obtain⟨its,rv,p,hz⟩:=I1.list hq
  refine call_enumerate_list p.isList λh' he hit hsz kp=>?_
  have I2:Inv X pins σ H1 {s1 with heap:=h'}:=I1.kept (t':=s1.toks) kp
  have T:kg X.prog X.w X.K (.Tuple elts x1 tp) (Ite X.K l) [s1.heap.objs.size+1,s1.heap.objs.size] (s1.heap.objs.size+1) (λi h=>(∃old,IsEnum h (s1.heap.objs.size+1) s1.heap.objs.size i old)/\h.IsListIter s1.heap.objs.size l i):=uu l _ _ (Bf _)
  refine T.self X.A 0 {s1 with heap:=h'} _ _ ⟨⟨_,he⟩,hit⟩ ?_
  refine⟨s1.heap.objs.size+1,_,_,_,H1,rfl,I2,T,⟨⟨_,he⟩,hit⟩,λb hb=>?_,q⟩
  have hb':s1.heap.objs.size<=b:=by
   rcases μ.mp hb with rfl|hb
   ·exact y6 _
   ·have e':b=s1.heap.objs.size:=by simpa using hb
    subst e';exact ρ _
  obtain⟨f0,f1⟩:=I1.fpOk hb' (I1.hok.fresh hb')
  exact⟨f0,f1⟩
end
section
variable{X:Cx}
theorem hU:OpR X (compareOp .LtE) (λx y H Q=>∃i j,x=.str i/\y=.str j/\Q (.bl (!decide (j.cps.toList<i.cps.toList))) H):=by
 intro pins s σ H x y v u Q I rx ry h
 obtain⟨i,j,rfl,rfl,q⟩:=h
 obtain⟨t,rfl⟩:=rx
 obtain⟨t',rfl⟩:=ry
 exact PySem.P.le_str (aO I q rfl)
theorem de:OpR X (binaryOp .Mult) (λx y H Q=>∃i n,x=.str i/\y=.int n/\i.length<=1000/\0<=n/\n<=1000/\Q (.str (Txt.mul i n)) H):=by
 intro pins s σ H x y v u Q I rx ry h
 obtain⟨i,n,rfl,rfl,h1,h2,h3,q⟩:=h
 obtain⟨t,rfl⟩:=rx
 obtain⟨t',rfl⟩:=ry
 exact SB.mul (PyProof.Rows.mulOk_of 1000 1000 h1 () () () ()) λt' k=>⟨.str _,H,I.tok _,⟨_,rfl⟩,q⟩
theorem fW{s:η}{h':Heap}{o:Obj}(hk:∀b x,b∉[s.heap.objs.size]->(s.heap.push o).get? b=some x->h'.get? b=some x)(b:Addr)(x:Obj)(e:s.heap.get? b=some x):h'.get? b=some x:=
 hk b x (λz=>by rw[θ.mp z]at e;exact o_ _ (ς e)) (ι _ e)
theorem jF:∀{bs:List Bool}{us:List δ},ar (bs.map V.bl) us->∀(i:Nat)(v:δ),us[i]?=some v->∃b,bs[i]?=some b/\v=.bool b
 |[],_,.nil,i,v,e=>by simp at e
 |b::bs,u::us,.cons r t,0,v,e=>by
  have e':u=v:=by simpa using e
  subst e'
  exact⟨b,rfl,r⟩
 |b::bs,u::us,.cons r t,i+1,v,e=>jF (bs:=bs) t i v (by simpa using e)
theorem gj(hc:X.calm=true):bz X (.builtin "all") (λxs H Q=>∃(a:Addr) (bs:List Bool),xs=[.ref a]/\SqL X.K H a (bs.map V.bl)/\Q (.bl (bs.all id)) H):=by
 intro pins s σ H xs us Q I r h
 obtain⟨a,bs,rfl,hq,q⟩:=h
 obtain⟨u,rfl,ru⟩:=cj r
 cases ru
 obtain⟨its,rv,p,hz⟩:=I.list hq
 have hl:=p.isList
 have hlt:a<s.heap.objs.size:=by obtain⟨_,e,_⟩:=hl;exact ς e
 refine call_all_walk (B0 hl ?_)
 refine⟨s.heap.objs.size,[s.heap.objs.size,a],[s.heap.objs.size],its.toArray.size,_,_,λi=>(bs[i]?).getD true,rfl,GA (A:=X.A.in1) (I.ok.hd hc) _ a (Ρ hlt) its.toArray,
  ⟨⟨_,ψ _ rfl,rfl,rfl⟩,hl.push _⟩,λi v s' Q' E' hP hQ=>?_,λh' tk hk=>?_⟩
 ·obtain⟨b,e,rfl⟩:=jF rv i v (by simpa using hP)
  simp only[e,Option.getD_some]at hQ
  exact Ϸ hQ
 ·have hlen:=rv.length
  have e:((ϋ its.toArray.size).all λi=>(bs[i]?).getD true)=bs.all id:=by
   rw[π,<-hlen,ε,m8,e_,e_]
   constructor
   ·intro z b hb
    obtain⟨i,hi,rfl⟩:=t_ hb
    have:=z i (Ϭ.mpr hi)
    simpa[hi]using this
   ·intro z i hi
    have hi':=Ϭ.mp hi
    rw[Γ hi']
    exact z _ (f_ hi')
  rw[e]
  exact⟨.bl _,H,I.kept (fW hk),rfl,q⟩
theorem be:bz X (.builtin "isinstance") (λxs H Q=>∃x t n b,xs=[x,.ty n]/\eW X.K H x t/\c9 X.K t (.type n)=some b/\Q (.bl b) H):=by
 intro pins s σ H xs us Q I r h
 obtain⟨x,t,n,b,rfl,ty,e,q⟩:=h
 obtain⟨u,w',rfl,rx,rn⟩:=kW r
 cases rn
 exact uk I rx ty e λtk=>⟨.bl b,H,I.tok tk,rfl,q⟩
theorem mF:∀{ys:List Str}{us:List δ},ar (ys.map V.str) us->StrsAre us ys
 |[],_,.nil=>.nil
 |y::ys,u::us,.cons r t=>by
  obtain⟨k,rfl⟩:=r
  exact .cons y k (mF t)
theorem vQ:SlR X (λx lo hi H Q=>∃z,x=.str z/\z.length<=sizeLine/\Q (.str (Txt.slice z lo hi)) H):=by
 intro pins s σ H x v vl vu lo hi sl Q I rx hs pl pu h
 obtain⟨z,rfl,hz,q⟩:=h
 obtain⟨t,rfl⟩:=rx
 refine⟨"str",_,slot_str_getitem.lookup,typeIs_str _ _ _,?_⟩
 have fin:(Txt.slice z lo hi).length<=sizeLine/\∀t' k,EP X pins σ Q (.str (Txt.slice z lo hi) t') {s with toks:=k}:=⟨Ϙ (Txt.slice_le z _ _) hz,λt' k=>⟨.str _,H,I.tok _,⟨_,rfl⟩,q⟩⟩
 cases pl with
 |none=>
  cases pu with
  |none=>exact C6 (l:=none) (u:=none) (st:=none) hs rfl (EW fin)
  |int j uj=>exact C6 (l:=none) (u:=some (j,uj)) (st:=none) hs rfl (EW fin)
 |int i ui=>
  cases pu with
  |none=>exact C6 (l:=some (i,ui)) (u:=none) (st:=none) hs rfl (EW fin)
  |int j uj=>exact C6 (l:=some (i,ui)) (u:=some (j,uj)) (st:=none) hs rfl (EW fin)
end
open PySem PySem.Spec PyProof.Rows PySem.W
section
variable{cmp:Nat->Nat->(Bool->η->Prop)->η->Prop}{lt:Nat->Nat->Bool}{n:Nat}{s:η}
structure Ord(cmp:Nat->Nat->(Bool->η->Prop)->η->Prop)(lt:Nat->Nat->Bool)(n:Nat)(s:η):Prop where
 ask:∀i j C,i<n->j<n->i≠j->C (lt i j) s->cmp i j C s
 tr:∀i j k,lt i j=true->lt j k=true->lt i k=true
 tot:∀i j,i<n->j<n->i≠j->lt i j=false->lt j i=true
 asym:∀i j,lt i j=true->lt j i=false
structure Re(n:Nat)(p:Array Nat):Prop where
 size:p.size=n
 lt:∀i,i<n->p.getD i 0<n
 inj:∀i j,i<n->j<n->i≠j->p.getD i 0≠p.getD j 0
 perm:p.Perm (List.toArray (ϋ n))
theorem Re.of_perm{p:Array Nat}(h:p.Perm (List.toArray (ϋ n))):Re n p:=by
 have hs:p.size=n:=by have:=h.size_eq;simpa using this
 have hl:p.toList.Perm (ϋ n):=by simpa using s9.mp h
 have nd:p.toList.Nodup:=(GG.nodup_iff hl).mpr List.nodup_range
 have get:∀i,(hi:i<n)->p.getD i 0=p.toList[i]'(by simpa[hs]using hi):=λi hi=>by
  simp[GB,hs,hi]
 refine⟨hs,λi hi=>?_,λi j hi hj hij e=>?_,h⟩
 ·have hm:p.getD i 0∈p.toList:=by rw[get i hi];exact f_ _
  exact Ϭ.mp ((Ex hl).mp hm)
 ·rw[get i hi,get j hj]at e
  exact hij ((C5 nd).mp e)
def Up(lt:Nat->Nat->Bool)(p:Array Nat)(m:Nat):Prop:=∀i j,i<j->j<m->lt (p.getD i 0) (p.getD j 0)=true
def Dn(lt:Nat->Nat->Bool)(p:Array Nat)(m:Nat):Prop:=∀i j,i<j->j<m->lt (p.getD j 0) (p.getD i 0)=true
theorem Up.next{p:Array Nat}{m:Nat}(O:Ord cmp lt n s)(h:Up lt p m)(h1:1<=m)(hq:lt (p.getD (m-1) 0) (p.getD m 0)=true):Up lt p (m+1):=λi j hij hj=>by
 by_cases e:j=m
 ·subst e
  by_cases e2:i=j-1
  ·subst e2;exact hq
  ·exact O.tr _ _ _ (h i (j-1) () ()) hq
 ·exact h i j hij ()
theorem Dn.next{p:Array Nat}{m:Nat}(O:Ord cmp lt n s)(h:Dn lt p m)(h1:1<=m)(hq:lt (p.getD m 0) (p.getD (m-1) 0)=true):Dn lt p (m+1):=λi j hij hj=>by
 by_cases e:j=m
 ·subst e
  by_cases e2:i=j-1
  ·subst e2;exact hq
  ·exact O.tr _ _ _ hq (h i (j-1) () ())
 ·exact h i j hij ()
theorem rk{p:Array Nat}{Q:Nat->η->Prop}(O:Ord cmp lt n s)(r:Re n p):∀(f m:Nat),1<=m->m+f<=n->Up lt p m->(∀m',m<=m'->m'<=m+f->Up lt p m'->(m'=m+f\/lt (p.getD m' 0) (p.getD (m'-1) 0)=true)->Q m' s)->(kas_asc p f m).kasWp cmp Q s
 |0,m,h1,hm,u,q=>q m (ρ _) (ρ _) u (.inl rfl)
 |f+1,m,h1,hm,u,q=>by
  show cmp _ _ _ s
  refine O.ask _ _ _ (r.lt m ()) (r.lt (m-1) ()) (r.inj _ _ () () ()) ?_
  cases c:lt (p.getD m 0) (p.getD (m-1) 0)with
  |true=>
   show(GD m).kasWp cmp Q s
   exact q m (ρ _) () u (.inr c)
  |false=>
   show(kas_asc p f (m+1)).kasWp cmp Q s
   have hq:=O.tot _ _ (r.lt m ()) (r.lt (m-1) ()) (r.inj _ _ () () ()) c
   refine rk O r f (m+1) () () (u.next O h1 hq) λm' a b c d=>q m' () () c ?_
   rcases d with d|d
   ·exact .inl ()
   ·exact .inr d
theorem rS{p:Array Nat}{Q:Array Nat×Nat×Nat->η->Prop}(O:Ord cmp lt n s)(r:Re n p):∀(f m:Nat),1<=m->m+f<=n->Dn lt p m->(∀m',m<=m'->m'<=m+f->Dn lt p m'->Q (p,m',0) s)->(kas_desc f p m 0).kasWp cmp Q s
 |0,m,h1,hm,u,q=>q m (ρ _) (ρ _) u
 |f+1,m,h1,hm,u,q=>by
  show cmp _ _ _ s
  refine O.ask _ _ _ (r.lt m ()) (r.lt (m-1) ()) (r.inj _ _ () () ()) ?_
  cases c:lt (p.getD m 0) (p.getD (m-1) 0)with
  |true=>
   show(kas_desc f p (m+1) 0).kasWp cmp Q s
   exact rS O r f (m+1) () () (u.next O h1 c) λm' a b c=>q m' () () c
  |false=>
   show cmp _ _ _ s
   refine O.ask _ _ _ (r.lt (m-1) ()) (r.lt m ()) (r.inj _ _ () () ()) ?_
   rw[O.tot _ _ (r.lt m ()) (r.lt (m-1) ()) (r.inj _ _ () () ()) c]
   show(GD (p,m,0)).kasWp cmp Q s
   exact q m (ρ _) () u
theorem sg{p:Array Nat}{m k:Nat}(hm:m<=p.size):(GE p 0 m).getD k 0=if k<m then p.getD (m-1-k) 0 else p.getD k 0:=by
 have h:=getElem?_mirror_all (xs:=p) (i:=0) (j:=m) hm k
 have e1:∀(a:Array Nat)(i:Nat),a.getD i 0=(a[i]?).getD 0:=λa i=>by rw[Dz]
 rw[e1]
 unfold GE
 rw[h]
 by_cases hk:k<m
 ·rw[Q0 hk]
  simp only[e1]
  rw[Q0 ()]
  congr 2
  omega
 ·rw[Q6 hk]
  simp only[e1]
  rw[Q6 ()]
theorem wA{p:Array Nat}{m:Nat}(r:Re n p):Re n (GE p 0 m):=Re.of_perm ((mirror_perm p 0 m _).trans r.perm)
theorem wZ{Q:Nat×Array Nat->η->Prop}{p:Array Nat}(O:Ord cmp lt n s)(r:Re n p)(h2:2<=n)(q:∀m p',Re n p'->1<=m->m<=n->Up lt p' m->Q (m,p') s):(kas_count n p).kasWp cmp Q s:=by
 unfold kas_count
 rw[m_]
 refine rk O r (n-1) 1 (ρ _) () (λi j h1 h2=>by omega) λm a b u e=>?_
 by_cases hm:(m==n)=true
 ·rw[Q0 hm]
  exact q m p r a () u
 ·rw[Q6 hm]
  have hmn:m≠n:=by simpa using hm
  by_cases h1:m>1
  ·rw[Q0 h1]
   show cmp _ _ _ s
   refine O.ask _ _ _ (r.lt 0 ()) (r.lt (m-1) ()) (r.inj _ _ () () ()) ?_
   rw[u 0 (m-1) () ()]
   show(GD (m,p)).kasWp cmp Q s
   exact q m p r a () u
  ·rw[Q6 h1]
   have e1:m=1:=by omega
   subst e1
   have hd:lt (p.getD 1 0) (p.getD 0 0)=true:=by
    rcases e with e|e
    ·omega
    ·exact e
   unfold kas_descPart
   rw[m_]
   refine rS O r (n-(1+1)) (1+1) () () (λi j h1 h2=>?_) λm' a' b' dn=>?_
   ·have:i=0:=by omega
    have:j=1:=by omega
    subst_vars
    exact hd
   ·show(if (0:Nat)>0 then _ else FT m' n p).kasWp cmp Q s
    rw[Q6 ()]
    unfold FT
    rw[m_]
    have up:Up lt (GE p 0 m') m':=λi j hij hj=>by
     rw[sg (by rw[r.size];omega),sg (by rw[r.size];omega),Q0 (),Q0 ()]
     exact dn _ _ () ()
    refine rk O (wA r) (n-m') m' () () up λm2 a2 b2 u2 _=>?_
    exact q m2 _ (wA r) () () u2
theorem jH{p:Array Nat}{k:Nat}{Q:Nat->η->Prop}(O:Ord cmp lt n s)(r:Re n p)(hk:k<n)(u:Up lt p k)(q:∀l,l<=k->(∀i,i<l->lt (p.getD i 0) (p.getD k 0)=true)->(∀i,l<=i->i<k->lt (p.getD k 0) (p.getD i 0)=true)->Q l s):
  ∀(f l e:Nat),l<=e->e<=k->e-l<=f->(∀i,i<l->lt (p.getD i 0) (p.getD k 0)=true)->(∀i,e<=i->i<k->lt (p.getD k 0) (p.getD i 0)=true)->(FU p k f l e).kasWp cmp Q s
 |0,l,e,h1,h2,h3,a,b=>q l () a λi hi hk'=>b i () hk'
 |f+1,l,e,h1,h2,h3,a,b=>by
  show(if l>=e then GD l else _).kasWp cmp Q s
  by_cases h:l>=e
  ·rw[Q0 h]
   exact q l () a λi hi hk'=>b i () hk'
  ·rw[Q6 h]
   show cmp _ _ _ s
   have hm:(l+e)/2<k:=by omega
   refine O.ask _ _ _ (r.lt k hk) (r.lt _ ()) (r.inj _ _ hk () ()) ?_
   cases c:lt (p.getD k 0) (p.getD ((l+e)/2) 0)with
   |true=>
    show(FU p k f l ((l+e)/2)).kasWp cmp Q s
    refine jH O r hk u q f l _ () () () a λi hi hk'=>?_
    by_cases ei:i=(l+e)/2
    ·subst ei;exact c
    ·exact O.tr _ _ _ c (u _ i () hk')
   |false=>
    show(FU p k f ((l+e)/2+1) e).kasWp cmp Q s
    have c':=O.tot _ _ (r.lt k hk) (r.lt _ ()) (r.inj _ _ hk () ()) c
    refine jH O r hk u q f _ e () h2 () (λi hi=>?_) b
    by_cases ei:i=(l+e)/2
    ·subst ei;exact c'
    ·exact O.tr _ _ _ (u i _ () hm) c'
theorem sD{p:Array Nat}{k d j:Nat}(hk:k<p.size)(hd:d<=k):(bubble p k d).getD j 0=if j<k-d\/k<j then p.getD j 0 else if j=k-d then p.getD k 0 else p.getD (j-1) 0:=by
 have e1:∀(a:Array Nat)(i:Nat),a.getD i 0=(a[i]?).getD 0:=λa i=>by rw[Dz]
 have h:=getElem?_bubble (xs:=p) (src:=k) hk d hd j
 rw[e1,h]
 by_cases a:j=k-d
 ·rw[Q0 a,Q6 (),Q0 a,e1]
 ·rw[Q6 a]
  by_cases b:k-d<j/\j<=k
  ·rw[Q0 b,Q6 (),Q6 a,e1]
  ·rw[Q6 b,Q0 (),e1]
theorem xr{Q:Array Nat->η->Prop}(O:Ord cmp lt n s)(q:∀p,Re n p->Up lt p n->Q p s):∀(f k:Nat)(p:Array Nat),Re n p->1<=k->k+f=n->Up lt p k->(GF f p k).kasWp cmp Q s
 |0,k,p,r,h1,hn,u=>q p r (by rw[<-hn];exact u)
 |f+1,k,p,r,h1,hn,u=>by
  show((FU p k k 0 k).bind λl=>GF f (bubble p k (k-l)) (k+1)).kasWp cmp Q s
  rw[m_]
  refine jH O r () u (λl hl a b=>?_) k 0 k (Ξ _) (ρ _) () (λi hi=>by omega) (λi h1 h2=>by omega)
  have hks:k<p.size:=by rw[r.size];omega
  refine xr O q f (k+1) _ (Re.of_perm ((bubble_perm p k _).trans r.perm)) () () λi j hij hj=>?_
  rw[sD hks (),sD hks ()]
  have ek:k-(k-l)=l:=by omega
  rw[ek]
  by_cases hi:i<l
  ·rw[Q0 (.inl hi)]
   by_cases hj2:j<l
   ·rw[Q0 (.inl hj2)];exact u i j hij ()
   ·rw[Q6 ()]
    by_cases hj3:j=l
    ·rw[Q0 hj3];exact a i hi
    ·rw[Q6 hj3];exact u i (j-1) () ()
  ·rw[Q6 ()]
   by_cases hi2:i=l
   ·rw[Q0 hi2,Q6 (),Q6 ()]
    exact b (j-1) () ()
   ·rw[Q6 hi2,Q6 (),Q6 ()]
    exact u (i-1) (j-1) () ()
theorem sF{Q:Array Nat->η->Prop}(O:Ord cmp lt n s)(h2:2<=n)(q:∀p,Re n p->Up lt p n->Q p s):(kas_sort n).kasWp cmp Q s:=by
 unfold kas_sort
 rw[m_]
 refine wZ O (Re.of_perm (Array.Perm.refl _)) h2 λm p r h1 hm u=>?_
 show(if m<n then GF (n-max m 1) p (max m 1)else .ret p).kasWp cmp Q s
 have em:max m 1=m:=by omega
 rw[em]
 by_cases h:m<n
 ·rw[Q0 h]
  exact xr O q (n-m) m p r h1 () u
 ·rw[Q6 h]
  have:m=n:=by omega
  subst this
  exact q p r u
end
theorem cS{prog:Α}{w:Υ}{A:Ω}{E:δ->η->Prop}{st:η}{l:Addr}{us:List δ}{ep:Nat}{R:PySem.Fin->η->Prop}(at0:st.heap.get? l=some (seqObj "list" us.toArray ep))(few:us.length<2)
  (fin:∀hp ep',(∀b o,b≠l->st.heap.get? b=some o->hp.get? b=some o)->hp.get? l=some (seqObj "list" us.toArray ep')->R (.done (.ret .none)) {st with heap:=hp}):
  wpAny (model prog w) A (Ϥ.«list.sort» ⟨[.ref l],[]⟩) R E st:=by
 have sz:us.toArray.size=us.length:=by simp
 have lt0:l<st.heap.objs.size:=ς at0
 have line:us.length<=sizeLine:=by rw[ω];omega
 rw[list_sort_plain]
 refine γ (listItems_at at0 rfl (γ (listUpdate_at at0 rfl ?_ (by rw[sz];exact line) (Ξ _))))
 have at1:=Gj at0 (λ_=>(#[]:Array δ))
 refine γ (seqEpoch_at at1 rfl (γ (wpAny_newTuple ?_ (by show us.length<=_;exact line))))
 refine γ (EM ?_ (Ξ _))
 refine Ϧ ?_
 rw[Q0 (by rw[sz];exact few),Q0 (by rw[sz];exact few)]
 show wpAny (model prog w) A _ R E {st with heap:=((st.heap.update l (n_ λ_=>(#[]:Array δ))).push (seqObj "tuple" us.toArray 0)).push (seqObj "list" #[] 0)}
 have at2:(((st.heap.update l (n_ λ_=>(#[]:Array δ))).push (seqObj "tuple" us.toArray 0)).push (seqObj "list" #[] 0)).get? l=some (seqObj "list" #[] (if ((#[]:Array δ).size==us.toArray.size)=true then ep else ep+1)):=by
  rw[DB _ _ _ (by rw[size_push',EH];exact pN lt0),DB _ _ _ (by rw[EH];exact nlt lt0)]
  exact at1
 have all:(arrOf (SortSt.mk' general' (us.toArray.zip us.toArray) #[] 7 none)).map (·.2)=us.toArray:=by
  show(us.toArray.zip us.toArray).map (·.2)=us.toArray
  apply Array.ext'
  simp[List.map_snd_zip]
 have at3:=Gj at2 (λ_=>us.toArray)
 refine γ (ν ?_)
 dsimp only
 rw[StateT.run_pure]
 refine γ (ν ?_)
 dsimp only
 refine γ (seqEpoch_at at2 rfl ?_)
 refine γ (listUpdate_at at2 rfl ?_ (Ξ _) (by rw[all,sz];omega))
 simp only[bne_self_eq_false,Dh,if_false]
 rw[all]
 refine ν (fin _ _ (λb o hb e=>?_) at3)
 rw[E4 _ _ _ _ hb,DB _ _ _ (by rw[size_push',EH];exact pN (ς e)),DB _ _ _ (by rw[EH];exact nlt (ς e)),E4 _ _ _ _ hb]
 exact e
theorem Aj{h:Heap}{a:Addr}{m m':Str->Option δ}(x:h.Ns a m)(y:h.Ns a m'):m=m':=by
 obtain⟨o,es,ep,e,d,_,f⟩:=x
 obtain⟨o',es',ep',e',d',_,f'⟩:=y
 rw[e]at e'
 cases e'
 rw[d]at d'
 cases d'
 funext z
 rw[<-f z,f' z]
theorem rD{a b:List Nat}(h:¬ a<b)(h2:a≠b):b<a:=by
 by_cases h3:b<a
 ·exact h3
 ·exact absurd (List.le_antisymm (List.not_lt.mp h3) (List.not_lt.mp h)) h2
theorem sv{a b:Str}(h:a.cps.toList=b.cps.toList):a=b:=by
 cases a
 cases b
 congr 1
 exact Array.ext' h
section
variable{X:Cx}{pins:List (Addr×Obj)}{σ:St}{H:Hp}{s:η}
abbrev TK:=Addr×Str×List V
def wN(p q:TK):Prop:=p.2.1.cps.toList<q.2.1.cps.toList
theorem xJ(ps:List TK):∀(us:List δ),ar (ps.map λp=>V.ref p.1) us->us=ps.map λp=>Ε p.1:=by
 induction ps with
 |nil=>
  intro us r
  cases r
  rfl
 |cons p ps ih=>
  intro us r
  rw[ό]at r⊢
  cases r with
  |cons r t=>
   rw[ih _ t,show _=Ε p.1 from r]
theorem gW(ps:List TK):ar (ps.map λp=>V.ref p.1) (ps.map λp=>Ε p.1):=by
 induction ps with
 |nil=>exact .nil
 |cons p ps ih=>exact .cons rfl ih
theorem vc(I:Inv X pins σ H s){a:Addr}{x:Str}{r:List V}(h:H a=some (.tup (.str x::r))):∃(o:Obj) (us:List δ) (n:Nat) (t:Tok),s.heap.get? a=some o/\o.cls=.type "tuple"/\o.data=.seq (i5 x t::us).toArray n:=by
 obtain⟨_,its,rv,⟨o,e,c,n,d⟩,_⟩:=(show aM X.prog X.w H s.heap a (.tup (.str x::r))from I.hok a _ h)
 cases rv with
 |cons r1 r2=>
  obtain⟨t,rfl⟩:=r1
  exact⟨o,_,n,t,e,c,d⟩
theorem ib{n:Nat}{p:Array Nat}{α:Type}{d:α}{ps:List α}(hn:ps.length=n)(r:Re n p):(p.toList.map λi=>ps.getD i d).Perm ps:=by
 have hl:p.toList.Perm (ϋ n):=by simpa using s9.mp r.perm
 refine(hl.map _).trans ?_
 have e:(ϋ n).map (λi=>ps.getD i d)=ps:=by
  apply B4
  intro i
  rw[Ν]
  by_cases hi:i<n
  ·rw[E5 hi]
   simp[x4,show i<ps.length by omega]
  ·rw[a7 (by simpa using hi),a7 ()]
   rfl
 rw[e]
theorem eT{n:Nat}{p:Array Nat}{α:Type}{d:α}{ps:List α}{R:α->α->Prop}{lt:Nat->Nat->Bool}(hlt:∀i j,i<n->j<n->lt i j=true->R (ps.getD i d) (ps.getD j d))(r:Re n p)(u:Up lt p n):(p.toList.map λi=>ps.getD i d).Pairwise R:=by
 rw[List.pairwise_iff_getElem]
 intro i j hi hj hij
 rw[ε,Ϩ,r.size]at hi hj
 have get:∀k (hk:k<n) h,(p.toList.map λi=>ps.getD i d)[k]'h=ps.getD (p.getD k 0) d:=λk hk h=>by
  rw[List.getElem_map]
  congr 1
  simp[GB,r.size,hk]
 rw[get i hi,get j hj]
 exact hlt _ _ (r.lt i hi) (r.lt j hj) (u i j hij hj)
end
open PySem PySem.Spec PyProof.Rows
def Ch(N:List Str)(sc scope:Et)(ix:List Nat):Bool:=
 decide (scope.kind=.function)&&scope.names.all (λy=>decide (y.2≠.cell))&&scope.names.all (λy=>decide (y.2=.local->scope.names.lookup y.1=some .local)) &&
 scope.names.all (λy=>decide (y.2=.free->sc.names.lookup y.1=some .cell\/sc.names.lookup y.1=some .free)) &&
 ix.all (λj=>decide (j<N.length)&&match N[j]? with|some x=>scope.names.any (λy=>decide (y.1=x)&&decide (y.2=.free))&&decide (scope.names.lookup x=some .free)|none=>false)
theorem cN.of{N:List Str}{sc scope:Et}{own:List Str}{ix:List Nat}(h:Ch N sc scope ix=true):cN N sc scope own ix:=by
 unfold Ch at h
 simp only[Θ,decide_eq_true_eq,e_]at h
 obtain⟨⟨⟨⟨h1,h2⟩,h3⟩,h4⟩,h5⟩:=h
 refine⟨h1,h2,h3,h4,λj hj x hx=>?_,λj hj=>(h5 j hj).1⟩
 have:=(h5 j hj).2
 rw[hx]at this
 simp only[Θ,decide_eq_true_eq,a_]at this
 obtain⟨⟨⟨n,k⟩,hy,e1,e2⟩,e3⟩:=this
 have e1':n=x:=e1
 have e2':k=.free:=e2
 subst e1' e2'
 exact⟨hy,e3⟩
theorem bE{l N:List Str}(h:l.Nodup)(e:N=l):N.Nodup:=by rw[e];exact h
structure Def(P:Α)(w:Υ)(K:ζ)(mg:Str->Option δ)(base:Heap)(k:Nat)(x:Str)(ps:List Str)(sp:Sp):Prop where
 ex:∃f fd,aG P w K mg base CX0 k f fd ps sp/\cf K fd ps []/\v_ K (.ref f)=true/\mg x=some (.ref f)
theorem Def.up{P:Α}{w:Υ}{K:ζ}{mg:Str->Option δ}{base:Heap}{j k:Nat}{x:Str}{ps:List Str}{sp:Sp}(d:Def P w K mg base j x ps sp)(h:j<=k):Def P w K mg base k x ps sp:=
 let ⟨f,fd,F,b,kp,m⟩:=d.ex
 ⟨f,fd,F.mono h,b,kp,m⟩
theorem pe_def{X:Cx}{k:Nat}{x:Str}{ps:List Str}{sp:Sp}{p pos:Pos}{e:Expr}{es:List Expr}{t:TA}(d:Def X.prog X.w X.K X.mg X.base k x ps sp)(hr:bK k X.A)(hg:Gl X x)(ha:PA X (e::es) t)(hdb:(x==("__debug__" : Str))=false:=by decide)
  (he:starEach (e::es) X.env=(false,eval e X.env)::starEach es X.env:=by rfl) (hpl:(backTo pos (starEach es X.env)).any (·.1)=false:=by rfl):PE X (.Call (.Name x p) (e::es) [] pos) (vP sp [] E0 t):=by
 obtain⟨f,fd,F,b,kp,m⟩:=d.ex
 exact rq F hr hg m kp b .nil zp ha hdb he hpl
inductive Dv where
 |non|bl (b:Bool)|int (i:Int)|str (x:Str)|tup (xs:List Dv)|lst (xs:List Dv)|dct
mutual
def Rep(H:Hp):Dv->V->Prop
 |.non,v=>v=.non
 |.bl b,v=>v=.bl b
 |.int i,v=>v=.int i
 |.str x,v=>v=.str x
 |.tup ds,v=>∃a vs,v=.ref a/\H a=some (.tup vs)/\Reps H ds vs
 |.lst ds,v=>∃a vs,v=.ref a/\H a=some (.lst vs)/\Reps H ds vs
 |.dct,v=>∃a,v=.ref a/\H a=some (.dK [])
def Reps(H:Hp):List Dv->List V->Prop
 |[],vs=>vs=[]
 |d::ds,vs=>∃v r,vs=v::r/\Rep H d v/\Reps H ds r
end
mutual
theorem Rep.mono{H H':Hp}(s:ae H H'):∀{d:Dv}{v:V},Rep H d v->Rep H' d v
 |.non,_,h=>by simpa only[Rep]using h
 |.bl b,_,h=>by simpa only[Rep]using h
 |.int i,_,h=>by simpa only[Rep]using h
 |.str x,_,h=>by simpa only[Rep]using h
 |.tup ds,_,h=>by
  simp only[Rep]at h⊢
  obtain⟨a,vs,e,h1,h2⟩:=h
  exact⟨a,vs,e,s _ _ h1,Reps.mono s h2⟩
 |.lst ds,_,h=>by
  simp only[Rep]at h⊢
  obtain⟨a,vs,e,h1,h2⟩:=h
  exact⟨a,vs,e,s _ _ h1,Reps.mono s h2⟩
 |.dct,_,h=>by
  simp only[Rep]at h⊢
  obtain⟨a,e,h1⟩:=h
  exact⟨a,e,s _ _ h1⟩
theorem Reps.mono{H H':Hp}(s:ae H H'):∀{ds:List Dv}{vs:List V},Reps H ds vs->Reps H' ds vs
 |[],_,h=>by simpa only[Reps]using h
 |d::ds,_,h=>by
  simp only[Reps]at h⊢
  obtain⟨v,r,e,h1,h2⟩:=h
  exact⟨v,r,e,Rep.mono s h1,Reps.mono s h2⟩
end
theorem Reps.length{H:Hp}:∀{ds:List Dv}{vs:List V},Reps H ds vs->vs.length=ds.length
 |[],_,h=>by simp only[Reps]at h;subst h;rfl
 |d::ds,_,h=>by
  simp only[Reps]at h
  obtain⟨v,r,e,h1,h2⟩:=h
  subst e
  rw[ϒ,ϒ,Reps.length h2]
theorem Reps.get{H:Hp}:∀{ds:List Dv}{vs:List V},Reps H ds vs->∀{i:Nat}{v:V},vs[i]?=some v->∃d,ds[i]?=some d/\Rep H d v
 |[],_,h,i,v,e=>by simp only[Reps]at h;subst h;simp at e
 |d::ds,_,h,i,v,e=>by
  simp only[Reps]at h
  obtain⟨v',r,e',h1,h2⟩:=h
  subst e'
  cases i with
  | zero => exact ⟨d, rfl, by have : v' = v := by simpa using e
                              subst this;exact h1⟩
  |succ i=>obtain⟨d',e1,e2⟩:=Reps.get h2 (i:=i) (v:=v) (by simpa using e);exact⟨d',by simpa using e1,e2⟩
def Dv.tn:Dv->String
 |.non=>"NoneType" |.bl _=>"bool" |.int _=>"int" |.str _=>"str" |.tup _=>"tuple" |.lst _=>"list" |.dct=>"dict"
theorem Rep.ty{K:ζ}{H:Hp}{d:Dv}{v:V}(h:Rep H d v):eW K H v (.type d.tn):=by
 cases d with
 |non=>simp only[Rep]at h;subst h;exact .non
 |bl b=>simp only[Rep]at h;subst h;exact .bl b
 |int i=>simp only[Rep]at h;subst h;exact .int i
 |str x=>simp only[Rep]at h;subst h;exact .str x
 |tup ds=>simp only[Rep]at h;obtain⟨a,vs,rfl,h1,_⟩:=h;exact .tup h1
 |lst ds=>simp only[Rep]at h;obtain⟨a,vs,rfl,h1,_⟩:=h;exact .lst h1
 |dct=>simp only[Rep]at h;obtain⟨a,rfl,h1⟩:=h;exact .dK h1
def isT(d:Dv)(n:String):Bool:=d.tn==n||(d.tn=="bool" && n=="int")
theorem yY(K:ζ)(d:Dv):c9 K (.type d.tn) (.type "int")=some (isT d "int"):=by
 unfold c9 Ey
 cases d<;>kernel_rfl
theorem oW(K:ζ)(d:Dv):c9 K (.type d.tn) (.type "bool")=some (isT d "bool"):=by
 unfold c9 Ey
 cases d<;>kernel_rfl
theorem iL(K:ζ)(d:Dv):c9 K (.type d.tn) (.type "str")=some (isT d "str"):=by
 unfold c9 Ey
 cases d<;>kernel_rfl
theorem cA(K:ζ)(d:Dv):c9 K (.type d.tn) (.type "tuple")=some (isT d "tuple"):=by
 unfold c9 Ey
 cases d<;>kernel_rfl
theorem wg(K:ζ)(d:Dv):c9 K (.type d.tn) (.type "list")=some (isT d "list"):=by
 unfold c9 Ey
 cases d<;>kernel_rfl
section
variable{k:Nat}{ix:List Nat}{g:TG}{tt:TT}{te:TE}{σ:St}{H1:Hp}{Q:List V->Hp->Prop}
theorem pL{f F:Nat->V}{n:Nat}(hs:∀i ys,i<n->ys.length=i->cE k ix g tt te σ (f i) ys H1 λys' H'=>ys'=ys++[F i]/\H'=H1)(hd:Q ((ϋ n).map F) H1):rLC (Itf f n) k ix g tt te σ H1 Q:=by
 refine⟨λi m ys H=>m=n-i/\i<=n/\H=H1/\ys=(ϋ i).map F,⟨n,(),Ξ _,rfl,rfl⟩,?_⟩
 rintro i m ys H ⟨rfl,hi,rfl,rfl⟩
 by_cases hlt:i<n
 ·refine .inr ⟨hlt,λys' H'=>ys'=(ϋ i).map F++[F i]/\H'=H,λys' H' ⟨e1,e2⟩=>⟨n-(i+1),(),rfl,hlt,e2,by rw[e1,Dm,τ];rfl⟩,λx H' y=>?_⟩
  obtain⟨e,y⟩:=y
  subst e y
  exact hs i _ hlt ()
 ·have e:i=n:=by omega
  subst e
  exact .inl ⟨rfl,hd⟩
theorem mE{F:Nat->V}{lo:Int}{n:Nat}(hs:∀i ys,i<n->ys.length=i->cE k ix g tt te σ (.int (lo+i)) ys H1 λys' H'=>ys'=ys++[F i]/\H'=H1)(hd:Q ((ϋ n).map F) H1):rLC (Itr lo n) k ix g tt te σ H1 Q:=by
 refine⟨λi m ys H=>m=n-i/\i<=n/\H=H1/\ys=(ϋ i).map F,⟨n,(),Ξ _,rfl,rfl⟩,?_⟩
 rintro i m ys H ⟨rfl,hi,rfl,rfl⟩
 by_cases hlt:i<n
 ·refine .inr ⟨hlt,λys' H'=>ys'=(ϋ i).map F++[F i]/\H'=H,λys' H' ⟨e1,e2⟩=>⟨n-(i+1),(),rfl,hlt,e2,by rw[e1,Dm,τ];rfl⟩,λx H' y=>?_⟩
  obtain⟨e,y⟩:=y
  subst e y
  exact hs i _ hlt ()
 ·have e:i=n:=by omega
  subst e
  exact .inl ⟨ρ _,hd⟩
theorem bJ{i:Nat}{x:V}{ys:List V}{H:Hp}{N:List V->Hp->Prop}(h:te ((cw k ix σ).set i (some x)) H λy H4=>ys.length<sizeLine/\N (ys++[y]) H4):cE k ix (cu i) AG te σ x ys H N:=by
 exact au (B:=N ys H) h
theorem gg{i j:Nat}{K:ζ}{a:Addr}{x y:V}{ys:List V}{H:Hp}{N:List V->Hp->Prop}(ha:H a=some (.tup [x,y]))(h:te (((cw k ix σ).set i (some x)).set j (some y)) H λy H4=>ys.length<sizeLine/\N (ys++[y]) H4):
  cE k ix (ww K 2 (eN (cu i) (eN (cu j) qx))) AG te σ (.ref a) ys H N:=by
 refine⟨a,_,rfl,SqT.of ha,rfl,_,_,rfl,_,_,rfl,rfl,?_⟩
 exact au (B:=N ys H) h
theorem yr{f:Nat->V}{n:Nat}{g:TG}{tb:TS}{D:bI}{σ:St}{H:Hp}(Pv:Nat->St->Hp->Prop)(h0:Pv 0 σ H)
  (hs:∀i σ H,i<n->Pv i σ H->g (f i) σ H λσ2 H2=>tb {D with nx:=Pv (i+1),ct:=Pv (i+1),bk:=D.nx} σ2 H2) (hd:∀σ H,Pv n σ H->D.nx σ H):
  ∃W:Nat->Nat->St->Hp->Prop,(∃m,W 0 m σ H)/\∀i m σ H,W i m σ H ->
   ((Itf f n).stop i H/\D.nx σ H)\/((Itf f n).go i H/\∃N:St->Hp->Prop,(∀σ' H',N σ' H'->∃m',m'<m/\W (i+1) m' σ' H')/\∀x H',(Itf f n).yld i H x H'->g x σ H' λσ2 H2=>tb {D with nx:=N,ct:=N,bk:=D.nx} σ2 H2):=by
 refine⟨λi m σ H=>m=n-i/\i<=n/\Pv i σ H,⟨n,(),Ξ _,h0⟩,?_⟩
 rintro i m σ H ⟨rfl,hi,p⟩
 by_cases hlt:i<n
 ·refine .inr ⟨hlt,Pv (i+1),λσ' H' p'=>⟨n-(i+1),(),rfl,hlt,p'⟩,λx H' y=>?_⟩
  obtain⟨e,y⟩:=y
  subst e y
  exact hs i σ _ hlt p
 ·have e:i=n:=by omega
  subst e
  exact .inl ⟨rfl,hd σ H p⟩
theorem dJ{K:ζ}{a:Addr}{xs:List V}{g:TG}{tb:TS}{D:bI}{σ:St}{H:Hp}(Pv:Nat->St->Hp->Prop)(h0:Pv 0 σ H)(hl:∀i σ H,i<=xs.length->Pv i σ H->SqL K H a xs)
  (hs:∀i x σ H p,xs[i]?=some x->Pv i σ H->H p=none->g (.ref p) σ (upd H p (.tup [.int i,x])) λσ2 H2=>tb {D with nx:=Pv (i+1),ct:=Pv (i+1),bk:=D.nx} σ2 H2) (hd:∀σ H,Pv xs.length σ H->D.nx σ H):
  ∃W:Nat->Nat->St->Hp->Prop,(∃m,W 0 m σ H)/\∀i m σ H,W i m σ H ->
   ((Ite K a).stop i H/\D.nx σ H)\/((Ite K a).go i H/\∃N:St->Hp->Prop,(∀σ' H',N σ' H'->∃m',m'<m/\W (i+1) m' σ' H')/\∀x H',(Ite K a).yld i H x H'->g x σ H' λσ2 H2=>tb {D with nx:=N,ct:=N,bk:=D.nx} σ2 H2):=by
 refine⟨λi m σ H=>m=xs.length-i/\i<=xs.length/\Pv i σ H,⟨xs.length,(),Ξ _,h0⟩,?_⟩
 rintro i m σ H ⟨rfl,hi,p⟩
 have q:=hl i σ H hi p
 by_cases hlt:i<xs.length
 ·refine .inr ⟨⟨xs,xs[i],q,by simp[hlt]⟩,Pv (i+1),λσ' H' p'=>⟨xs.length-(i+1),(),rfl,hlt,p'⟩,λx H' y=>?_⟩
  obtain⟨b,y,hb,e1,e2,hy⟩:=y
  subst e1 e2
  exact hs i y σ H b (hy xs q) p hb
 ·have e:i=xs.length:=by omega
  subst e
  exact .inl ⟨⟨xs,q,ρ _⟩,hd σ H p⟩
end
mutual
def Dv.small:Dv->Bool
 |.str x=>decide (x.cps.size<=1000)
 |.tup xs=>smalls xs&&decide (xs.length<=1000)
 |.lst xs=>smalls xs&&decide (xs.length<=1000)
 |_=>true
def smalls:List Dv->Bool
 |[]=>true
 |d::ds=>d.small&&smalls ds
end
theorem cJ:∀{ds:List Dv},smalls ds=true->∀{i:Nat}{d:Dv},ds[i]?=some d->d.small=true
 |[],_,i,d,e=>by simp at e
 |x::ds,h,i,d,e=>by
  simp only[smalls,Θ]at h
  cases i with
  |zero=>
   have e':x=d:=by simpa using e
   subst e';exact h.1
  |succ i=>exact cJ h.2 (i:=i) (by simpa using e)
theorem yI{x:Str}(h:x.cps.size<=1000):x.length<=sizeLine:=x_ (kP h)
theorem ac{H:Hp}{p:Addr}(h:H p=none)(o:HO):ae H (upd H p o):=λb u q=>by rw[ai (af q h)];exact q
theorem rh{n:Nat}(h:n<=1000):n<=sizeLine:=x_ (kP h)
section
variable{X:Cx}
theorem nk(K:ζ)(h:X.K=K):IxR X (uX K):=by subst h;exact aJ
theorem iU(K:ζ)(h:X.K=K):IxR X (xq K):=by subst h;exact aj
theorem Dc(K:ζ)(h:X.K=K):bz X (.builtin "isinstance") (λxs H Q=>∃x t n b,xs=[x,.ty n]/\eW K H x t/\c9 K t (.type n)=some b/\Q (.bl b) H):=by subst h;exact be
def zd(K:ζ):R2:=λx y H Q=>∃a b xs ys,x=.ref a/\y=.ref b/\SqT K H a xs/\SqT K H b ys/\xs.length+ys.length<=sizeLine /\
 (xs=[]->Q (.ref b) H)/\(ys=[]->Q (.ref a) H)/\(∀p,H p=none->Q (.ref p) (upd H p (.tup (xs++ys))))
theorem yU:OpR X (binaryOp .Add) (zd X.K):=by
 intro pins s σ H x y v u Q I rx ry h
 obtain⟨a,b,xs,ys,rfl,rfl,ha,hb,hz,q0,q1,q2⟩:=h
 by_cases hx:xs=[]
 ·cases rx
  cases ry
  obtain⟨its,r1,p1,_⟩:=I.tuple ha
  obtain⟨its2,r2,p2,_⟩:=I.tuple hb
  subst hx
  cases r1
  obtain⟨⟨cls,dd,data,sl⟩,ho,hc,n,hd⟩:=id p1
  obtain⟨⟨cls2,dd2,data2,sl2⟩,ho2,hc2,n2,hd2⟩:=id p2
  simp only at hc hd hc2 hd2
  subst hc hd hc2 hd2
  exact concat_meets ⟨_,ho,rfl⟩ ⟨_,ho2,rfl⟩ FQ seq_tuple_add Ev En (Ea _ _) (tuple_addW0 a b _ _ n n2 dd dd2 sl sl2 rfl) ⟨ho,ho2,⟨.ref b,H,I,rfl,q0 rfl⟩⟩
 ·exact yS pins s σ H (.ref a) (.ref b) v u Q I rx ry ⟨a,b,xs,ys,rfl,rfl,ha,hb,hx,hz,q1,λ_=>q2⟩
end
def cT(t:TE)(σ:St)(H:Hp)(d:Dv):Prop:=∀H1,ae H H1->∀Q:VK,(∀H' v,ae H1 H'->Rep H' d v->Q v H')->t σ H1 Q
def nQ(t:TA)(σ:St)(H:Hp)(ds:List Dv):Prop:=∀H1,ae H H1->∀Q:List V->Hp->Prop,(∀H' vs,ae H1 H'->Reps H' ds vs->Q vs H')->t σ H1 Q
section
variable{σ:St}{H:Hp}{d e:Dv}{ds es:List Dv}{ta tb:TE}{t:TA}
theorem aI:nQ As σ H []:=λH1 s Q q=>q H1 [] (ae.refl _) (by simp[Reps])
theorem ak(h1:cT ta σ H d)(h2:nQ t σ H ds):nQ (xi ta t) σ H (d::ds):=λH1 s Q q=>
 h1 H1 s _ λH2 v s2 R=>h2 H2 (s.trans s2) _ λH3 vs s3 Rs=>q H3 (v::vs) (s2.trans s3) (by simp only[Reps];exact⟨v,vs,rfl,R.mono s3,Rs⟩)
theorem aQ(h:nQ t σ H ds)(hz:ds.length<=1000):cT (Cg t) σ H (.tup ds):=λH1 s Q q=>
 h H1 s _ λH2 vs s2 Rs=>⟨by rw[Rs.length];exact rh hz,λp hp=>q _ (.ref p) (s2.trans (ac hp _)) (by simp only[Rep];exact⟨p,vs,rfl,aa,Rs.mono (ac hp _)⟩)⟩
theorem vq(h:nQ t σ H ds)(hz:ds.length<=1000):cT (Bi t) σ H (.lst ds):=λH1 s Q q=>
 h H1 s _ λH2 vs s2 Rs=>⟨by rw[Rs.length];exact rh hz,λp hp=>q _ (.ref p) (s2.trans (ac hp _)) (by simp only[Rep];exact⟨p,vs,rfl,aa,Rs.mono (ac hp _)⟩)⟩
theorem bB{x:Str}:cT (tC (.str x)) σ H (.str x):=λH1 _ Q q=>q H1 _ (ae.refl _) (by simp[Rep])
theorem bc{i:Nat}{v:V}(hv:σ[i]?=some (some v))(R:Rep H d v):cT (ig i) σ H d:=λH1 s Q q=>⟨v,hv,q H1 v (ae.refl _) (R.mono s)⟩
theorem Reps.append{H:Hp}:∀{ds es:List Dv}{vs ws:List V},Reps H ds vs->Reps H es ws->Reps H (ds++es) (vs++ws)
 |[],_,_,_,h,g=>by simp only[Reps]at h;subst h;exact g
 |d::ds,es,vs,ws,h,g=>by
  simp only[Reps]at h
  obtain⟨v,r,rfl,h1,h2⟩:=h
  simp only[EI,Reps]
  exact⟨v,r++ws,rfl,h1,Reps.append h2 g⟩
theorem wu{K:ζ}(h1:cT ta σ H (.tup ds))(h2:cT tb σ H (.tup es))(hz:ds.length+es.length<=1000):cT (tOp (zd K) ta tb) σ H (.tup (ds++es)):=λH1 s Q q=>
 h1 H1 s _ λH2 v s2 R=>h2 H2 (s.trans s2) _ λH3 w s3 R2=>by
  have R':=R.mono s3
  simp only[Rep]at R' R2
  obtain⟨a,xs,rfl,ha,r1⟩:=R'
  obtain⟨b,ys,rfl,hb,r2⟩:=R2
  have l1:=r1.length
  have l2:=r2.length
  have rr:=r1.append r2
  refine⟨a,b,xs,ys,rfl,rfl,SqT.of ha,SqT.of hb,by rw[l1,l2];exact rh hz,λe=>?_,λe=>?_,λp hp=>q _ (.ref p) ((s2.trans s3).trans (ac hp _)) (by simp only[Rep];exact⟨p,xs++ys,rfl,aa,rr.mono (ac hp _)⟩)⟩
  ·refine q H3 _ (s2.trans s3) ?_
   simp only[Rep]
   exact⟨b,ys,rfl,hb,by subst e;simpa using rr⟩
  ·refine q H3 _ (s2.trans s3) ?_
   simp only[Rep]
   exact⟨a,xs,rfl,ha,by subst e;simpa using rr⟩
end
def aX(H:Hp)(l:Addr):Hp:=λb=>if b=l then none else H b
theorem bD{H:Hp}{l:Addr}:ae (aX H l) H:=λb o h=>by
 unfold aX at h
 by_cases e:b=l
 ·rw[Q0 e]at h;cases h
 ·rw[Q6 e]at h;exact h
theorem bx{H H':Hp}{l:Addr}(s:ae H H'):ae (aX H l) (aX H' l):=λb o h=>by
 unfold aX at h⊢
 by_cases e:b=l
 ·rw[Q0 e]at h;cases h
 ·rw[Q6 e]at h⊢;exact s b o h
theorem gf{H H':Hp}{l:Addr}(s:ae H H')(hl:H l=none):ae H (aX H' l):=λb o h=>by
 unfold aX
 rw[Q6 (af h hl)]
 exact s b o h
theorem tw{H:Hp}{l p:Addr}{o:HO}(hl:H l≠none)(hp:H p=none):aX (upd H p o) l p=some o/\ae (aX H l) (aX (upd H p o) l):=by
 have ne:p≠l:=λe=>hl (e▸hp)
 refine⟨?_,bx (ac hp o)⟩
 unfold aX
 rw[Q6 ne,aa]
section
variable{σ:St}{H:Hp}{d e:Dv}{ds es:List Dv}{ta tb:TE}{t:TA}{l:Addr}
variable{i:Nat}{u:TS}{D:bI}
theorem wz(h:cT ta σ H d)(k:∀H' v,ae H H'->Rep H' d v->u D (σ.set i (some v)) H'):tX (xG ta (cu i)) u D σ H:=h H (ae.refl H) _ k
end
section
variable{X:Cx}
end
theorem gQ{prog:Α}{w:Υ}{A:Ω}{E:δ->η->Prop}{s:η}{a:Addr}{o:Obj}{xs:Array δ}{k:Nat}{name:Str}{Q:Option δ->η->Prop}
  (hx:s.heap.get? a=some o) (hc:o.cls=.type "tuple") (hdat:o.data=.seq xs k) (hd:o.dict=none) (hmiss:typeLookup (.type "tuple") name=pure none) (hname:(["__module__","__name__","__qualname__","__doc__","__annotations__"]:List Str).contains name=false) (hA:A.handled=none)
  (h:∀h' tk e,Heap.NewExcOf s.heap h' e "AttributeError"->Q none {s with heap:=h',toks:=tk}) (hsz:name.length+100<=sizeLine:=by size_fits):
  wpAny (model prog w) A (getAttr? (.ref a) name) Q E s:=by
 obtain⟨c,dct,dat,sl⟩:=o
 simp only at hc hdat hd
 subst hc hdat hd
 obtain⟨hp,g,d,tk,os⟩:=s
 have hT:∀tk',(⟨hp,g,d,tk',os⟩:η).TypeIs (.ref a) "tuple":=λ_=>⟨_,hx,rfl⟩
 have f1:=sub_AttributeError
 have f3:=DW.lookup
 have f4:=DW.bind (.ref a)
 have f5:=am_tuple_getattr_none
 unfold getAttr? getAttrBy? getAttrBy
 repeat (any_goals (first|assumption|exact hT _|((with_reducible show wpAny _ _ (call (u9 "tuple.__getattribute__") _ _) _ _ _);refine r9 DW (hT _) am_entry_tuple_getattribute (F.args_tuple_getattribute_2 _ _) (meets_getattribute_miss_tuple a xs k sl name _ hmiss hname hsz) ⟨hx,hA,λh' tk' e hx'=>?_⟩)|wp_step))
 obtain⟨t',u',he⟩:=hx'.there
 show wpAny _ _ (getattributeRaised _ _ _ _ _ _ _) _ _ _
 unfold getattributeRaised
 repeat (any_goals (first|assumption|wp_step))
 exact h _ _ _ hx'.of
theorem iF:typeLookup (.type "tuple") "keys"=pure none:=by rw[Gk,EA];kernel_rfl
theorem bL:plainId "dict.update.loop"=true:=by decide +kernel
theorem dY:entryFor table "dict.update.loop"=some Ϥ.«dict.update.loop»:=entryFor_of_fast (by kernel_rfl)
section
variable{prog:Α}{w:Υ}{K:Type}[DecidableEq K]{knd:PySem.KeyKind prog w K}{A:Ω}{R:Ff->η->Prop}{I d:Addr}{fp wr:List Addr}{n:Nat}{P:Nat->δ->Prop}{St:Nat->Heap->Prop}
def oM(ks:Nat->K)(vs:Nat->δ):Nat->Nat->List (K×δ)->List (K×δ)
 |_,0,m=>m
 |i,k+1,m=>oM ks vs (i+1) k (stored m (ks i) (vs i))
theorem pV(m:List (K×δ))(k:K)(v:δ):(stored m k v).length<=m.length+1:=by
 unfold stored
 split
 ·rw[ε];omega
 ·simp
theorem gE(W:Ga prog w A.in1 I fp wr n P St)(bs:Nat->Addr)(ks:Nat->K)(us vs:Nat->δ)(hP:∀i v,P i v->v=.ref (bs i))(hk:∀i,i<n->knd.is (ks i) (us i)=true)(hb:∀i,i<n->bs i∉wr/\bs i≠d)(hd:d∉fp)(hz:n<=sizeLine):
  ∀(k i:Nat)(s:η)(kvs:List (K×δ))(t:Tok),n-i=k->i<=n->St i s.heap->kvs.length<=i->s.heap.DictOf knd d kvs->(∀j,j<n->s.heap.IsTuple (bs j) #[us j,vs j]) ->
  (∀h' tk,h'.DictOf knd d (oM ks vs i k kvs)->(∀b o,b∉wr->b≠d->s.heap.get? b=some o->h'.get? b=some o)->R (.ok (.ret .none)) {s with heap:=h',toks:=tk}) ->
  codeAny (model prog w) A (.builtin "dict.update.loop" ⟨[.ref d,.ref I,.int i t,.none],[]⟩) R s:=by
 have hdw:d∉wr:=λh=>hd (W.sub _ h)
 intro k
 induction k with
 |zero=>
  intro i s kvs t hk' hi hst hl hm hT hR
  have hin:i=n:=by omega
  subst hin
  refine ϴ dY ?_
  rw[j4 bL _]
  show wpAny _ A.in1 (pyNext (.ref I)>>=_) _ _ s
  refine γ (W.done s _ _ hst λh' tk hk''=>?_)
  show wpAny _ A.in1 (Ϥ.Dict.addKeywords d []>>=_) _ _ _
  refine γ (ν (ν ?_))
  refine hR h' tk ?_ λb o hbw _ e=>hk'' b o hbw e
  obtain⟨o,es,ep,ho,r⟩:=hm
  exact⟨o,es,ep,hk'' d o hdw ho,r⟩
 |succ k ih=>
  intro i s kvs t hk' hi hst hl hm hT hR
  have hlt:i<n:=by omega
  refine ϴ dY ?_
  rw[j4 bL _]
  show wpAny _ A.in1 (pyNext (.ref I)>>=_) _ _ s
  refine γ (W.item i s _ _ hlt hst λv h' tk hPv hst' hk''=>?_)
  obtain rfl:=hP i v hPv
  have hm':h'.DictOf knd d kvs:=by
   obtain⟨o,es,ep,ho,r⟩:=hm
   exact⟨o,es,ep,hk'' d o hdw ho,r⟩
  have hT':∀j,j<n->h'.IsTuple (bs j) #[us j,vs j]:=λj hj=>by
   obtain⟨o,ho,r⟩:=hT j hj
   exact⟨o,hk'' _ _ (hb j hj).1 ho,r⟩
  obtain⟨o,ho,hc,c,hdat⟩:=hT' i hlt
  refine γ (Ϧ (γ (DL ?_)))
  unfold Ϥ.Dict.pairItems
  refine γ (Dg (T:="tuple") ⟨_,ho,hc⟩ ?_)
  rw[Q0 ()]
  refine γ (ϸ ho hdat (ν ?_))
  refine Ϧ (wpAny_dictSet_pairs (hsz:=by omega) (hk i hlt) hm' λh2 hd2 hs2=>?_)
  refine ν ⟨u_ bL _,ih (i+1) _ _ _ () hlt (W.frame _ _ _ hst' λb hb' o' e=>?_) ?_ hd2 (λj hj=>?_) λh3 tk3 hd3 hk3=>?_⟩
  ·exact hs2.extBut b o' (λh=>hd (by rw[<-h];exact hb')) e
  ·have:=pV kvs (ks i) (vs i);omega
  ·obtain⟨o',ho',r⟩:=hT' j hj
   exact⟨o',hs2.extBut _ _ (hb j hj).2 ho',r⟩
  ·exact hR h3 tk3 hd3 λb o' hbw hbd e=>hk3 b o' hbw hbd (hs2.extBut b o' hbd (hk'' b o' hbw e))
end
section
variable{prog:Α}{w:Υ}{K:Type}[DecidableEq K]{knd:PySem.KeyKind prog w K}{A:Ω}{E:δ->η->Prop}{s:η}
theorem iH{a:Addr}{its:Array δ}{Q:δ->η->Prop}(bs:Nat->Addr)(ks:Nat->K)(us vs:Nat->δ)(hA:A.handled=none)(ht:s.heap.IsTuple a its)(hn:NoD s.heap a)
  (hP:∀(i:Nat)(v:δ),its[i]?=some v->v=.ref (bs i)) (hk:∀i,i<its.size->knd.is (ks i) (us i)=true) (hT:∀j,j<its.size->s.heap.IsTuple (bs j) #[us j,vs j]) (hz:its.size<=sizeLine)
  (h:∀h' tk,h'.DictOf knd s.heap.objs.size (oM ks vs 0 its.size [])->(∀b o,s.heap.get? b=some o->h'.get? b=some o)->Q (.ref s.heap.objs.size) {s with heap:=h',toks:=tk}):
  wpAny (model prog w) A (call (.type "dict") [.ref a]) Q E s:=by
 refine callType_codes (Q₁:=λobj s₁=>obj=.ref s.heap.objs.size/\s₁={s with heap:=s.heap.push {cls:=.type "dict",data:=.dict #[]} }) F.kt_called_dict (F.kt_typeCall_dict_1 _) F.entry_dict_init (kt_code_dict_new _ ⟨rfl,rfl⟩) ?_
 rintro obj s₁ ⟨rfl,rfl⟩
 have hnew:(s.heap.push {cls:=.type "dict",data:=.dict #[]}).DictOf knd s.heap.objs.size []:=Heap.DictOf.new s.heap
 have up:∀b o,s.heap.get? b=some o->(s.heap.push {cls:=.type "dict",data:=.dict #[]}).get? b=some o:=λb o e=>ι _ e
 have low:∀b o,s.heap.get? b=some o->b≠s.heap.objs.size:=λb o e=>Ρ (ς e)
 refine⟨hnew.typeIs,F.args_dict_init_2 _ _,?_⟩
 unfold Ϥ.«dict.__init__»
 refine γ ?_
 unfold Ϥ.Dict.selfAndRest
 refine γ (wpAny_notOrdered_dict hnew.typeIs ?_)
 show wpAny _ _ (pure (s.heap.objs.size,[Ε a])) _ _ _
 refine ν ?_
 show wpAny _ _ (Ϥ.Dict.updateFrom "dict.__init__" s.heap.objs.size (.ref a) [] .none) _ _ _
 unfold Ϥ.Dict.updateFrom
 obtain⟨o,ho,hc,n,hdat⟩:=ht
 obtain⟨o',ho',hd⟩:=hn
 obtain rfl:o=o':=ϑ (ho.symm.trans ho')
 refine γ (Dg (T:="tuple") ⟨_,up _ _ ho,hc⟩ ?_)
 rw[Q0 ()]
 refine γ (gQ (A:=A.in1.in1) (up _ _ ho) hc hdat hd iF () hA λh1 tk1 e1 X1=>?_)
 rw[Q0 (show(none:Option δ).isNone=true from rfl)]
 refine γ (u8 ?_)
 have t1:h1.IsTuple a its:=⟨o,X1.keeps _ _ (up _ _ ho),hc,n,hdat⟩
 refine γ (C9 t1 ?_)
 have hl1:s.heap.objs.size<h1.objs.size:=by
  obtain⟨q,_,_,hq,_⟩:=hnew
  exact ς (X1.keeps _ _ hq)
 have k1:∀b q,s.heap.get? b=some q->(h1.push {cls:=.type "tuple_iterator",data:=.fields #[.ref a,.int 0 0]}).get? b=some q:=λb q e=>ι _ (X1.keeps _ _ (up _ _ e))
 have lt1:∀b q,s.heap.get? b=some q->b≠h1.objs.size:=λb q e=>Ρ (Nat.lt_trans (ς e) hl1)
 refine ν ⟨u_ bL _,gE (knd:=knd) (n:=its.size) (Ga.tuple (A:=A.in1.in1) hA h1.objs.size a (lt1 _ _ ho) its) bs ks us vs hP hk (λi hi=>?_) ?_ hz its.size 0 _ [] 0 () (Ξ _) ?_ (ρ 0) ?_ (λj hj=>?_) λh' tk hd' hk'=>?_⟩
 ·obtain⟨q,hq,_⟩:=hT i hi
  exact⟨by simpa using lt1 _ _ hq,low _ _ hq⟩
 ·have:=low _ _ ho
  simp only[μ,List.mem_nil_iff,or_false,not_or]
  exact⟨Ρ hl1,λe=>this e.symm⟩
 ·exact⟨⟨_,ψ _ rfl,rfl,rfl⟩,o,k1 _ _ ho,hc,n,hdat⟩
 ·obtain⟨q,es,ep,hq,r⟩:=hnew
  exact⟨q,es,ep,ι _ (X1.keeps _ _ hq),r⟩
 ·obtain⟨q,hq,r⟩:=hT j hj
  exact⟨q,k1 _ _ hq,r⟩
 ·exact⟨rfl,h h' tk hd' λb q e=>hk' b q (by simpa using lt1 _ _ e) (low _ _ e) (k1 _ _ e)⟩
end
theorem wW{m:List (Key×V)}{k:Key}{v:V}(h:k∉m.map (·.1)):cx m k v=m++[(k,v)]:=by
 unfold cx
 rw[Q6]
 intro e
 rw[a_]at e
 obtain⟨p,hp,e⟩:=e
 exact h (Ζ.mpr ⟨p,hp,Q7 e⟩)
theorem vZ{ks:Nat->Key}{vs:Nat->δ}:∀(l:List (Key×V))(i:Nat)(m:List (Key×V))(m':List (Key×δ)),KV m m'->(∀(j:Nat)(p:Key×V),l[j]?=some p->p.1=ks (i+j)/\aw p.2 (vs (i+j))) ->
  ((m++l).map (·.1)).Nodup->KV (m++l) (oM ks vs i l.length m')
 |[],i,m,m',r,_,_=>by rw[c_];exact r
 |p::l,i,m,m',r,h,nd=>by
  obtain⟨e,rv⟩:=h 0 p rfl
  have hk:ks i∉m.map (·.1):=by
   rw[τ,k8]at nd
   intro hm
   exact nd.2.2 _ hm _ (Ζ.mpr ⟨p,Δ,rfl⟩) e.symm
  have r2:KV (m++[p]) (stored m' (ks i) (vs i)):=by
   have z:=KV.put r (ks i) rv
   rw[wW hk]at z
   rwa[show(ks i,p.2)=p from by rw[show ks i=p.1 from e.symm]]at z
  have:=vZ l (i+1) (m++[p]) _ r2 (λj q hq=>by have:=h (j+1) q (by simpa using hq);rwa[show i+(j+1)=i+1+j by omega]at this) (by simpa using nd)
  rw[w_]at this
  exact this
section
variable{X:Cx}
theorem qX(hc:X.calm=true):bz X (.type "dict") (λxs H Q=>∃(a:Addr) (ps:List (Addr×Key×V)),xs=[.ref a]/\H a=some (.tup (ps.map λp=>V.ref p.1))/\(∀p∈ps,H p.1=some (.tup [kV p.2.1,p.2.2])) /\
  (ps.map (·.2.1)).Nodup/\∀d,H d=none->Q (.ref d) (upd H d (.dK (ps.map (·.2))))):=by
 intro pins s σ H xs us Q I r h
 obtain⟨a,ps,rfl,ha,hp,nd,q⟩:=h
 obtain⟨u,rfl,ru⟩:=cj r
 cases ru
 obtain⟨z,its,rv,tp,no⟩:=(show aM X.prog X.w H s.heap a (.tup (ps.map λp=>V.ref p.1))from I.hok a _ ha)
 have hlen:ps.length=its.length:=by have:=rv.length;rwa[ε]at this
 have two:∀i:Nat,∃y:δ×δ,∀p,ps[i]?=some p->aw (kV p.2.1) y.1/\aw p.2.2 y.2/\s.heap.IsTuple p.1 #[y.1,y.2]:=λi=>by
  cases e:ps[i]? with
  |none=>exact⟨(.none,.none),λp hp=>nomatch hp⟩
  |some p=>
   obtain⟨_,us,ru,t2,_⟩:=(show aM X.prog X.w H s.heap p.1 (.tup [kV p.2.1,p.2.2])from I.hok _ _ (hp p (Λ e)))
   obtain⟨u1,u2,rfl,r1,r2⟩:=kW ru
   exact⟨(u1,u2),λp' e'=>by cases e';exact⟨r1,r2,t2⟩⟩
 obtain⟨f,hf⟩:=Classical.axiomOfChoice two
 have at':∀i,i<its.toArray.size->∃p,ps[i]?=some p:=λi hi=>⟨ps[i]'(by rw[hlen];simpa using hi),Γ _⟩
 refine iH (knd:=aN X.prog X.w) (its:=its.toArray) (λi=>((ps[i]?).map (·.1)).getD a) (λi=>((ps[i]?).map (·.2.1)).getD (.inl 0)) (λi=>(f i).1) (λi=>(f i).2) (I.ok.hd hc) tp no
  (λi v hv=>?_) (λi hi=>?_) (λj hj=>?_) (by rw[π,<-hlen];rwa[ε]at z) λh' tk dd kp=>?_
 ·have hv':its[i]?=some v:=by simpa using hv
  have hi:i<ps.length:=by rw[hlen];exact(ο.mp hv').1
  obtain⟨u',hu',r'⟩:=ar.get (i:=i) (x:=V.ref ps[i].1) rv (by rw[Ν,Γ hi];rfl)
  obtain rfl:u'=v:=ϑ (hu'.symm.trans hv')
  cases r'
  show Ε _=Ε _
  rw[Γ hi];rfl
 ·obtain⟨p,e⟩:=at' i hi
  rw[e]
  exact gt (hf i p e).1
 ·obtain⟨p,e⟩:=at' j hj
  rw[e]
  exact(hf j p e).2.2
 ·have rel:KV (ps.map (·.2)) (oM (λi=>((ps[i]?).map (·.2.1)).getD (.inl 0)) (λi=>(f i).2) 0 its.toArray.size []):=by
   have:=vZ (ks:=λi=>((ps[i]?).map (·.2.1)).getD (.inl 0)) (vs:=λi=>(f i).2) (ps.map (·.2)) 0 [] [] .nil (λj p hj=>?_) (by simpa[FF]using nd)
   ·rw[Ee,ε,hlen]at this
    rwa[π]
   ·rw[Ν]at hj
    cases e:ps[j]? with
    |none=>rw[e]at hj;cases hj
    |some p'=>
     rw[e]at hj
     obtain rfl:p'.2=p:=ϑ hj
     refine⟨?_,?_⟩
     ·show _=((ps[0+j]?).map (·.2.1)).getD (.inl 0)
      rw[Nat.zero_add,e];rfl
     ·rw[Nat.zero_add];exact(hf j p' e).2.1
  refine⟨.ref s.heap.objs.size,_,I.laid (a:=s.heap.objs.size) (o:=.dK (ps.map (·.2))) (t':=tk) kp (ρ _) (qW (by rw[ε]at z⊢;exact z) (beq_eq_false_iff_ne.mpr (Ϗ (Ρ I.big))) rel dd),rfl,q _ I.fresh⟩
end
theorem iC(ns:List Int):∀k,k<=ns.length->preSum (λi=>(ns[i]?).getD 0) k=(ns.take k).sum
 |0,_=>by simp[preSum]
 |k+1,h=>by
  have e:ns[k]?=some ns[k]:=Γ ()
  rw[preSum,iC ns k (),ϗ,x9,e]
  simp
theorem gb:∀{ns:List Int}{us:List δ},ar (ns.map V.int) us->∀(i:Nat)(v:δ),us[i]?=some v->∃t,v=.int ((ns[i]?).getD 0) t:=λ{ns us} r i v e=>by
 have hl:=r.length
 have hi:i<ns.length:=by rw[ε]at hl;rw[hl];exact(ο.mp e).1
 obtain⟨u,hu,ru⟩:=ar.get (i:=i) (x:=V.int ns[i]) r (by rw[Ν,Γ hi];rfl)
 obtain rfl:u=v:=ϑ (hu.symm.trans e)
 obtain⟨t,rfl⟩:=(show ∃t,u=y8 ns[i] t from ru)
 exact⟨t,by rw[Γ hi];rfl⟩
section
variable{X:Cx}
theorem uo(hc:X.calm=true):bz X (.builtin "sum") (λxs H Q=>∃(a:Addr) (ns:List Int),xs=[.ref a]/\SqL X.K H a (ns.map V.int)/\Q (.int ns.sum) H):=by
 intro pins s σ H xs us Q I r h
 obtain⟨a,ns,rfl,hq,q⟩:=h
 obtain⟨u,rfl,ru⟩:=cj r
 cases ru
 obtain⟨its,rv,p,hz⟩:=I.list hq
 have hl:=p.isList
 have hlt:a<s.heap.objs.size:=by obtain⟨_,e,_⟩:=hl;exact ς e
 have hlen:its.length=ns.length:=by have:=rv.length;rw[ε]at this;exact this.symm
 refine call_sum_walkAnyS (B0 hl ?_)
 refine⟨s.heap.objs.size,[s.heap.objs.size,a],[s.heap.objs.size],_,its.toArray.size,_,_,λi=>(ns[i]?).getD 0,rfl,(GA (A:=X.A.in1) (I.ok.hd hc) _ a (Ρ hlt) its.toArray).toS,
  ⟨⟨_,ψ _ rfl,rfl,rfl⟩,hl.push _⟩,λb hb=>?_,λi v hP=>gb rv i v (by simpa using hP),λs' t' hm=>?_⟩
 ·obtain⟨_,e,_⟩:=hl
  rcases μ.mp hb with rfl|hb
  ·exact ς (ψ _ rfl)
  ·obtain rfl:=θ.mp hb
   exact ς (ι _ e)
 ·obtain⟨h',g',d',tk',os'⟩:=s'
  have e1:g'=s.gens:=hm.gens
  have e2:d'=s.drawn:=hm.drawn
  have e3:os'=s.os:=hm.os
  subst e1 e2 e3
  rw[π,hlen,iC ns _ (ρ _),ϔ]
  exact⟨.int ns.sum,H,I.kept λb o e=>hm.heap b o (λhb=>absurd (ς e) ((θ.mp hb)▸o_ _)) (ι _ e),⟨t',rfl⟩,q⟩
end
open PySem PySem.Spec PyProof.Rows PySem.W
section
variable{X:Cx}{pins:List (Addr×Obj)}{σ:St}{H:Hp}{s:η}
theorem Inv.setList{D:Addr}{ys0 ys:List V}{its:List δ}{c:Nat}{h':Heap}{m:Str->Option δ}(I:Inv X pins σ H s)(hm:s.heap.Ns X.env.locals m)(hD:H D=some (.lst ys0))(rv:ar ys its)(hz:ys.length<=sizeLine)
  (F:h'.Ns X.env.locals m) (k:∀b o,b≠X.env.locals->b≠D->s.heap.get? b=some o->h'.get? b=some o) (e:h'.get? D=some {cls:=.type "list",data:=.seq its.toArray c}):Inv X pins σ (upd H D (.lst ys)) {s with heap:=h'}:=by
 have nl:∀b v,H b=some v->b≠X.env.locals:=λb v q z=>by rw[z,I.free]at q;cases q
 have nD:∀b,H b=none->b≠D:=λb q z=>by rw[z,hD]at q;cases q
 have nT:∀b v,H b=some v->v≠.lst ys0->b≠D:=λb v q n z=>by rw[z,hD]at q;cases q;exact n rfl
 refine I.step (g':=s.gens) (d':=s.drawn) (t':=s.toks) (ch:=[]) (λb hb=>by cases hb) (λb o hL _ _ q n=>k b o hL (nD b n) q) (λb o hL _ _ q n=>⟨o.slots,k b o hL (nD b n) q⟩) (λb o _ q n=>by rw[ai (nD b n)];exact n) (λb o _ q=>?_)
  (λb xs q=>by rw[ai (nT b _ q nofun)];exact q) (λb o v q=>by rw[ai (nT b _ q nofun)];exact q) (λb ps q=>⟨#[],by rw[ai (nT b _ q nofun),q];simp⟩) (λm' hm'=>by rw[Aj hm' hm];exact F) (λb v q=>?_) I.bare
 ·by_cases hb:b=X.env.locals
  ·subst hb
   obtain⟨o',_,_,q',_⟩:=F
   exact⟨o',q'⟩
  ·by_cases hd:b=D
   ·subst hd;exact⟨_,e⟩
   ·exact⟨o,k b o hb hd q⟩
 ·by_cases hb:b=D
  ·subst hb
   rw[aa]at q
   cases q
   exact⟨hz,its,c,rv,e⟩
  ·rw[ai hb]at q
   refine(I.hok b v q).stay (λc w' hc q'=>?_) (λc q'=>by rw[ai (nT c _ q' nofun)];exact q') λc xs q'=>by rw[ai (nT c _ q' nofun)];exact q'
   rcases hc with z|z
   ·subst z;exact k c w' (nl c v q) hb q'
   ·exact k c w' (nl c _ z) (nT c _ z nofun) q'
theorem wG{A:Ω}{E:δ->η->Prop}{l:Addr}{ps:List TK}{Q:δ->η->Prop}(I:Inv X pins σ H s)(hq:H l=some (.lst (ps.map λp=>V.ref p.1)))(ht:∀p∈ps,H p.1=some (.tup (.str p.2.1::p.2.2)))
  (nd:(ps.map (·.2.1)).Nodup) (h64:ps.length<64) (q:∀(qs:List TK)(h':Heap),qs.Perm ps->qs.Pairwise wN->Inv X pins σ (upd H l (.lst (qs.map λp=>V.ref p.1))) {s with heap:=h'}->Q .none {s with heap:=h'}):
  wpAny (model X.prog X.w) A (call (.builtin "list.sort") [.ref l]) Q E s:=by
 obtain⟨hz,its,n,rv,at0⟩:=(show aM X.prog X.w H s.heap l (.lst (ps.map λp=>V.ref p.1))from I.hok l _ hq)
 have ei:=xJ ps its rv
 subst ei
 obtain⟨m,hm,_⟩:=I.loc
 have nL:l≠X.env.locals:=λz=>by rw[z,I.free]at hq;cases hq
 have lne:∀p∈ps,p.1≠l/\p.1≠X.env.locals:=λp hp=>by
  refine⟨λz=>?_,λz=>?_⟩
  ·have t:=ht p hp
   rw[z,hq]at t
   cases t
  ·have t:=ht p hp
   rw[z,I.free]at t
   cases t
 by_cases few:ps.length<2
 ·refine ϫ DM ⟨_,at0,rfl⟩ Do (cS at0 (by simpa using few) λhp ep k2 e2=>⟨_,rfl,?_⟩) (DN _)
  refine q ps hp (Ez _) ?_ (I.setList hm hq (gW ps) hz (hm.at' λo e=>k2 _ o (Ϗ nL) e) (λb o _ hb z=>k2 b o hb z) e2)
  match ps,few with
  |[],_=>exact .nil
  |[p],_=>exact Eo _ _
 ·have hlen:(ps.map λp=>Ε p.1).length=ps.length:=ε _
  have F0:Fr (Att.noObjs s.heap) X.env.locals s.heap m:=Att.fr_all hm
  generalize hN:(eB (Att.noObjs s.heap) s.heap X.env.locals).filter (λp=>decide (p.1≠l))=nw
  have N0:News (Att.noObjs s.heap) X.env.locals s.heap nw:=λp hp=>by rw[<-hN]at hp;exact jL p (ϙ.mp hp).1
  have nl0:∀p∈nw,p.1≠l:=λp hp=>by rw[<-hN]at hp;exact Q7 (ϙ.mp hp).2
  refine ϫ DM ⟨_,at0,rfl⟩ Do (kat_list_sort F0 N0 at0 nL (Att.noObjs_get _ _) nl0 (by rw[hlen];omega) (by rw[hlen];exact h64) λe1 h' F' N'=>?_) (DN _)
  have keep:∀(g:Heap)(x:Obj),News (Att.noObjs s.heap) X.env.locals g ((l,x)::nw)->∀b o,b≠X.env.locals->b≠l->s.heap.get? b=some o->g.get? b=some o:=λg x N b o hb hl e=>
   (N (b,o) (υ _ (by rw[<-hN];exact ϙ.mpr ⟨dw hb (Att.noObjs_get _ _) e,Q9 hl⟩))).1
  have kp:=keep h' _ N'
  have atv:∀i,i<ps.length->(ps.map λp=>Ε p.1).getD i .none=Ε (ps.getD i (0,default,[])).1:=λi hi=>by
   simp[x4,hi]
  have item:∀i,i<ps.length->∃(o:Obj) (us:List δ) (n:Nat) (t:Tok),h'.get? (ps.getD i (0,default,[])).1=some o/\o.cls=.type "tuple"/\o.data=.seq (i5 (ps.getD i (0,default,[])).2.1 t::us).toArray n:=λi hi=>by
   have hm':ps.getD i (0,default,[])∈ps:=by
    have e:ps.getD i (0,default,[])=ps[i]:=by simp[x4,hi]
    rw[e];exact f_ hi
   obtain⟨o,us,n,t,e,c,d⟩:=vc I (ht _ hm')
   exact⟨o,us,n,t,kp _ o (lne _ hm').2 (lne _ hm').1 e,c,d⟩
  have firsts:∀(qs:List TK),(∀p∈qs,p∈ps)->∃fs:List δ,KatTups h' (qs.map λp=>Ε p.1) fs/\fs.length=qs.length/\∀v∈fs,∃x t,v=i5 x t:=by
   intro qs
   induction qs with
   |nil=>intro _;exact⟨[],KatTups.nil,rfl,()⟩
   |cons p qs ih=>
    intro hs
    obtain⟨fs,t1,t2,t3⟩:=ih λx hx=>hs x (υ _ hx)
    have hp:=hs p Δ
    obtain⟨o,us,n,t,e,c,d⟩:=vc I (ht _ hp)
    refine⟨i5 p.2.1 t::fs,KatTups.cons (kp _ o (lne _ hp).2 (lne _ hp).1 e) c d () t1,by simp[t2],λv hv=>?_⟩
    rcases μ.mp hv with rfl|hv
    ·exact⟨_,_,rfl⟩
    ·exact t3 v hv
  obtain⟨fs,t1,t2,t3⟩:=firsts ps λp hp=>hp
  refine kat_kind (T:=.type "str") (s:={s with heap:=h'}) t1 (by rw[t2];omega) (λv hv=>?_) () ?_
  ·obtain⟨x,t,rfl⟩:=t3 v hv
   exact Gm.of_pure rfl
  rw[hlen]
  have O:Ord (kas_ask X.prog X.w A.in1 (tuples' (x5 "str" != x5 "tuple")) (ps.map λp=>Ε p.1)) (λi j=>decide ((ps.getD i (0,default,[])).2.1.cps.toList<(ps.getD j (0,default,[])).2.1.cps.toList)) ps.length {s with heap:=h'}:=by
   have unlike:∀i j,i<ps.length->j<ps.length->i≠j->(ps.getD i (0,default,[])).2.1≠(ps.getD j (0,default,[])).2.1:=λi j hi hj hij e=>by
    have ei:ps.getD i (0,default,[])=ps[i]:=by simp[x4,hi]
    have ej:ps.getD j (0,default,[])=ps[j]:=by simp[x4,hj]
    rw[ei,ej]at e
    exact hij ((C5 (h₀:=by simpa using hi) (h₁:=by simpa using hj) nd).mp (by simpa using e))
   refine⟨λi j C hi hj hij hC=>?_,λi j k h1 h2=>?_,λi j hi hj hij h1=>?_,λi j h1=>?_⟩
   ·show wpAny _ _ (keyLt' _ _ _) C _ _
    rw[atv i hi,atv j hj]
    obtain⟨o,us,n,t,e,c,d⟩:=item i hi
    obtain⟨o2,us2,n2,t2',e2,c2,d2⟩:=item j hj
    refine kat_lt (s:={s with heap:=h'}) e d e2 d2 ?_
    show KatLex _ _ _ _ _ _ ((i5 _ t,i5 _ t2')::_) 0 _
    refine kat_cons (wpAny_eqBool_str ?_)
    rw[Q8 (unlike i j hi hj hij)]
    exact kat_no (oneLt_str hC)
   ·exact Q9 (List.lt_trans (Q7 h1) (Q7 h2))
   ·exact Q9 (rD (of_decide_eq_false h1) λe=>unlike i j hi hj hij (sv e))
   ·exact Q8 (List.lt_asymm (Q7 h1))
  refine sF O () λp re up=>?_
  have outs:(p.toList.map λi=>(ps.map λp=>Ε p.1).getD i .none)=(p.toList.map λi=>ps.getD i (0,default,[])).map λp=>Ε p.1:=by
   rw[ύ]
   refine C3 λi hi=>?_
   have hl2:p.toList.Perm (ϋ ps.length):=by simpa using s9.mp re.perm
   exact atv i (Ϭ.mp ((Ex hl2).mp hi))
  rw[outs]
  refine KasFin.intro (news:=(l,seqObj "list" #[] e1)::nw) (g:=λo'=>(l,o')::nw) F' N' (.head nl0) λh2 c F2 N2=>?_
  have pq:=ib (d:=(0,default,[])) rfl re
  have I2:=I.setList (D:=l) (ys:=(p.toList.map λi=>ps.getD i (0,default,[])).map λp=>V.ref p.1) hm hq (gW _) (by rw[ε,pq.length_eq];simpa using hz) F2.ns (keep h2 _ N2) (N2 (l,_) Δ).1
  exact⟨_,rfl,q _ h2 pq (eT (R:=wN) (λi j _ _ h=>(Q7 h:(ps.getD i (0,default,[])).2.1.cps.toList<(ps.getD j (0,default,[])).2.1.cps.toList)) re up) I2⟩
def gp(v d:Addr):HO:=.ext λh=>h.IsItemsView v d
theorem pA:MtR X "dict.items" (λx xs H Q=>∃d kvs,x=.ref d/\xs=[]/\H d=some (.dK kvs)/\∀v,H v=none->Q (.ref v) (upd H v (gp v d))):=by
 intro pins s σ H x xs u us Q I rx rv h
 obtain⟨d,kvs,rfl,rfl,hd,q⟩:=h
 cases rx
 cases rv
 obtain⟨z,hdm,vs,rel,dd⟩:=oZ I.hok hd
 refine call_meetsIn Ep dd.typeIs PySem.F.entry_dict_items (PySem.F.args_dict_items_1 _) (meets_dict_items (aN X.prog X.w) d hdm) ⟨⟨vs,dd⟩,?_⟩
 refine⟨.ref s.heap.objs.size,_,I.laid (t':=s.toks) (a:=s.heap.objs.size) (o:=gp s.heap.objs.size d) (λb u q=>ι _ q) (ρ _) ?_,rfl,q _ I.fresh⟩
 exact⟨⟨_,ψ _ rfl,rfl,rfl⟩,⟨_,ψ _ rfl⟩,λh1 h2 ⟨o,e,r⟩ k=>⟨o,k o e,r⟩⟩
def lays(H:Hp)(rs:List TK):Hp:=λb=>match rs.find? (λr=>decide (r.1=b))with|some r=>some (.tup (.str r.2.1::r.2.2))|none=>H b
theorem jV{rs:List TK}{b:Addr}(h:∀r∈rs,r.1≠b):lays H rs b=H b:=by
 unfold lays
 rw[Fj.mpr (λr hr e=>h r hr (Q7 e))]
theorem sq{rs:List TK}(nd:(rs.map (·.1)).Nodup){r:TK}(hr:r∈rs):lays H rs r.1=some (.tup (.str r.2.1::r.2.2)):=by
 unfold lays
 cases e:rs.find? (λx=>decide (x.1=r.1))with
 |none=>exact absurd (Q9 rfl) (Fj.mp e r hr)
 |some x=>
  have hx:=List.mem_of_find?_eq_some e
  have e1:x.1=r.1:=Q7 (List.find?_some (p:=λx:TK=>decide (x.1=r.1)) e)
  obtain⟨i,hi,rfl⟩:=t_ hx
  obtain⟨j,hj,rfl⟩:=t_ hr
  have:i=j:=(C5 (h₀:=by simpa using hi) (h₁:=by simpa using hj) nd).mp (by simpa using e1)
  subst this
  rfl
theorem Inv.lays{h':Heap}{tk:Nat}{rs:List TK}(I:Inv X pins σ H s)(k:∀b u,s.heap.get? b=some u->h'.get? b=some u)(nd:(rs.map (·.1)).Nodup)(hp:∀r∈rs,s.heap.objs.size<=r.1)
  (new:∀r∈rs,aM X.prog X.w (L2.lays H rs) h' r.1 (.tup (.str r.2.1::r.2.2))):Inv X pins σ (L2.lays H rs) {s with heap:=h',toks:=tk}:=by
 have out:∀b,b<s.heap.objs.size->L2.lays H rs b=H b:=λb hb=>jV λr hr e=>absurd hb (Nat.not_lt.mpr (e▸hp r hr))
 refine I.un (t':=tk) ⟨λb u q _ _ _=>k b u q,λb u q _ _ _=>⟨u.slots,k b u q⟩,λb u q n _=>by rw[out b (ς q)];exact n,λb u q _=>⟨u,k b u q⟩,λb xs q=>by rw[out b (I.hok.lt q)];exact q,λb u xs q=>by rw[out b (I.hok.lt q)];exact q,
  λb ps q=>⟨#[],by rw[out b (I.hok.lt q),q];simp⟩⟩ λb u e=>?_
 by_cases hb:∃r∈rs,r.1=b
 ·obtain⟨r,hr,rfl⟩:=hb
  rw[sq nd hr]at e
  cases e
  exact new r hr
 ·rw[jV λr hr z=>hb ⟨r,hr,z⟩]at e
  exact(I.hok b u e).stay (λc v _ q=>k c v q) (λc q=>by rw[out c (I.hok.lt q)];exact q) λc xs q=>by rw[out c (I.hok.lt q)];exact q
theorem fF(hc:X.calm=true):bz X (.builtin "sorted") (λxs H Q=>∃(v d:Addr) (m:List (Str×V)),xs=[.ref v]/\H v=some (gp v d)/\H d=some (.dK (m.map λp=>((Μ p.1:Key),p.2)))/\m.length<64 /\
  ∀(H':Hp)(l:Addr)(qs:List TK),ae H H'->H l=none->(∀r∈qs,H' r.1=some (.tup (.str r.2.1::r.2.2))/\H r.1=none)->H' l=some (.lst (qs.map λr=>V.ref r.1))->(qs.map (·.2)).Perm (m.map λp=>(p.1,[p.2]))->qs.Pairwise wN->Q (.ref l) H'):=by
 intro pins s σ H xs us Q I r h
 obtain⟨v,d,m,rfl,hv,hd,h64,q⟩:=h
 obtain⟨u,rfl,ru⟩:=cj r
 cases ru
 obtain⟨vw,_,_⟩:=(show aM X.prog X.w H s.heap v (gp v d)from I.hok v _ hv)
 obtain⟨z,hdm,vs,rel,dd⟩:=oZ I.hok hd
 have hvl:vs.length=m.length:=by have:=rel.length;rw[ε]at this;exact this.symm
 obtain⟨ep,da⟩:=dd.dictAt
 have ndk:(vs.map (·.1)).Nodup:=by obtain⟨_,_,_,_,_,_,_,nd⟩:=da;exact nd
 refine DX kind_sorted plain_sorted entry_sorted (args_sorted1 _) ?_
 unfold Ϥ.«sorted»
 refine γ (m:=checkCount "sorted" 1 1 _) (ν (γ (kdx_collect (A:=X.A.in1) (knd:=aN X.prog X.w) (kvs:=vs) (ep:=ep) (I.ok.hd hc) vw da (by rw[<-rel.length];exact z) λh' tk as hk hl hG=>?_)))
 have hlm:as.length=m.length:=by omega
 have e1:((as.zip m).map λp=>((p.1,p.2.1,[p.2.2]):TK)).map (·.1)=as:=by
  rw[ύ]
  have:((λx:TK=>x.1)∘λp:Addr×Str×V=>((p.1,p.2.1,[p.2.2]):TK))=Prod.fst:=rfl
  rw[this,List.map_fst_zip ()]
 have e2:((as.zip m).map λp=>((p.1,p.2.1,[p.2.2]):TK)).map (·.2)=m.map λp=>(p.1,[p.2]):=by
  rw[ύ]
  have:((λx:TK=>x.2)∘λp:Addr×Str×V=>((p.1,p.2.1,[p.2.2]):TK))=(λp:Str×V=>(p.1,[p.2]))∘Prod.snd:=rfl
  rw[this,<-ύ,List.map_snd_zip ()]
 have e3:((as.zip m).map λp=>((p.1,p.2.1,[p.2.2]):TK)).map (λr=>V.ref r.1)=as.map V.ref:=by
  have:(λr:TK=>V.ref r.1)=V.ref∘(λr:TK=>r.1):=rfl
  rw[this,<-ύ,e1]
 have pairs:∀r∈(as.zip m).map λp=>((p.1,p.2.1,[p.2.2]):TK),∃(x:Str) (y:V) (u w':δ),r.2=(x,[y])/\aw (.str x) u/\aw y w'/\h'.get? r.1=some {cls:=.type "tuple",data:=.seq #[u,w']}:=λr hr=>by
  obtain⟨⟨a,x,y⟩,hp,rfl⟩:=Ζ.mp hr
  obtain⟨j,hj⟩:=List.getElem?_of_mem hp
  obtain⟨ha,hm⟩:=List.getElem?_zip_eq_some.mp hj
  obtain⟨key,k,w',g1,g2,g3⟩:=hG.pairs j a ha
  obtain⟨y',hy,ry⟩:=rel.at g1
  rw[Ν,hm]at hy
  have hy':((Μ x:Key),y)=(k,y'):=ϑ hy
  injection hy' with k1 k2
  subst k1 k2
  exact⟨x,y,key,w',rfl,zN g2,ry,g3⟩
 generalize hrs:(as.zip m).map (λp=>((p.1,p.2.1,[p.2.2]):TK))=rs at e1 e2 e3 pairs
 have lrs:rs.length=m.length:=by rw[<-hrs,ε,List.length_zip];omega
 have nda:(rs.map (·.1)).Nodup:=by rw[e1];exact hG.rise.imp λh=>Ρ h
 have above:∀r∈rs,s.heap.objs.size<=r.1:=λr hr=>x_ (hG.above r.1 (by rw[<-e1];exact h_ hr))
 have tup:∀(Hx:Hp)(r:TK),r∈rs->aM X.prog X.w Hx h' r.1 (.tup (.str r.2.1::r.2.2)):=λHx r hr=>by
  obtain⟨x,y,u,w',er,r1,r2,g⟩:=pairs r hr
  rw[er]
  exact⟨by show 2<=sizeLine;rw[ω];decide,[u,w'],.cons r1 (.cons r2 .nil),⟨_,g,rfl,0,rfl⟩,⟨_,g,rfl⟩⟩
 have I1:Inv X pins σ (lays H rs) {s with heap:=h',toks:=tk}:=I.lays hk nda above λr hr=>tup _ r hr
 have s1:ae H (lays H rs):=λb o e=>by
  have ho:∀r∈rs,r.1≠b:=λr hr z'=>by
   have h1:=above r hr
   rw[z']at h1
   exact absurd (I.hok.lt e) (Nat.not_lt.mpr h1)
  rw[jV ho];exact e
 refine γ (EM ?_ (by rw[ε,hlm,ω];omega))
 have rvals:ar (rs.map λr=>V.ref r.1) (as.map Ε):=by
  have:=gW rs
  have e4:rs.map (λp=>Ε p.1)=as.map Ε:=by
   rw[<-e1,ύ];rfl
  rwa[e4]at this
 have I2:=I1.lnew (t':=tk) (its:=as.map Ε) rvals (by rw[ε,lrs,ω];omega)
 have fr:lays H rs h'.objs.size=none:=I1.fresh
 have s2:ae (lays H rs) (upd (lays H rs) h'.objs.size (.lst (rs.map λr=>V.ref r.1))):=ac fr _
 have inr:∀r∈rs,lays H rs r.1=some (.tup (.str r.2.1::r.2.2)):=λr hr=>sq nda hr
 have hnone:H h'.objs.size=none:=by
  cases e:H h'.objs.size with
  |none=>rfl
  |some o=>have:=s1 _ _ e;rw[fr]at this;cases this
 have nd2:(rs.map (·.2.1)).Nodup:=by
  have e5:rs.map (·.2.1)=m.map (·.1):=by
   have:=congrArg (FW Prod.fst) e2
   simpa[ύ,FF]using this
  have e6:(m.map (·.1)).map (Μ:Str->Key)=vs.map (·.1):=by
   rw[<-rel.keys,ύ,ύ];rfl
  rw[e5]
  rw[<-e6]at ndk
  rw[List.Nodup,DC]at ndk
  exact ndk.imp λh e=>h (by rw[e])
 refine γ (Ϧ (wG (A:=X.A.in1) (l:=h'.objs.size) (ps:=rs) I2 aa (λr hr=>s2 _ _ (inr r hr)) nd2 () λqs h2 pq pw I3=>?_))
 refine ν ⟨_,rfl,.ref h'.objs.size,_,I3,rfl,q _ _ qs (λb o e=>?_) hnone (λr hr=>⟨?_,I.hok.fresh (above r (pq.mem_iff.mp hr))⟩) aa (by rw[<-e2];exact pq.map _) pw⟩
 ·have:=s2 _ _ (s1 _ _ e)
  rw[ai (λz'=>by rw[z',hnone]at e;cases e)]
  exact this
 ·have hm:=pq.mem_iff.mp hr
  rw[ai (af (inr r hm) fr)]
  exact s2 _ _ (inr r hm)
end
open PySem PySem.Spec PyProof.Rows
section
variable{X:Cx}{pins:List (Addr×Obj)}{σ:St}{H:Hp}{s:η}
end
section
variable{X:Cx}
end
structure uH(K:ζ)(x qual:Str)(st:Stmt)(f:Addr)(fd:Ο)(dV:δ):Prop where
 ex:∃(oc:δ) (od:Option Addr) (kV doc pm:δ) (an:Option Addr) (cdv ct:δ) (osl:Array (Option δ)),
  fd=q_ x qual (bW st) (bC st) (ag st) dV kV doc pm an cdv ct/\K.lookup f=some ⟨oc,od,.func fd,osl⟩/\DI K cdv qual=true
section
variable{P:Α}{w:Υ}{K:ζ}{mg:Str->Option δ}{base:Heap}
theorem uH.ok{x qual:Str}{st:Stmt}{f:Addr}{fd:Ο}{dV:δ}{N ps:List Str}{k:Nat}{sp:Sp}(F:uH K x qual st f fd dV)(S:am N ps (ag st))(len:∀vs H Q E,sp vs H Q E->vs.length=ps.length)
  (hbody:∀(cdv:δ)(A:Ω)(outer:List Env)(s:η)(H:Hp)(vs:List V)(Q:VK)(E:XK),bK k (A.deeper (u6 qual (ag st) s.heap.objs.size f cdv))->sp vs H Q E ->
   ∃t,PSs (aT CX0 P w K mg base N qual (ag st) f cdv A outer s H E).nox (bC st) t/\t {nx:=λ_ H'=>Q .non H',rt:=Q} (eK N vs) H):aG P w K mg base CX0 (k+1) f fd ps sp:=by
 obtain⟨oc,od,kV,doc,pm,an,cdv,ct,osl,rfl,lk,hcd⟩:=F.ex
 refine vk lk hcd S len λA outer s H vs Q E hr hsp=>?_
 obtain⟨t,h,q⟩:=hbody cdv A outer s H vs Q E hr hsp
 exact⟨t,h.nox,q⟩
theorem uH.binds{x qual:Str}{st:Stmt}{f T:Addr}{fd:Ο}{ps:List Str}{ds:List δ}{oT:Obj}{its:Array δ}{n:Nat}(F:uH K x qual st f fd (.ref T))(lT:K.lookup T=some oT)(dT:oT.data=.seq its n)
  (h:∀(kV doc pm:δ)(an:Option Addr)(cdv ct:δ)(us:List δ),(us++ds).length=ps.length->∃kk:Option (Array δ)->Sem (List (Str×δ)),bindArgs (q_ x qual (bW st) (bC st) (ag st) (.ref T) kV doc pm an cdv ct) ⟨us,[]⟩=seqItems? (.ref T)>>=kk/\kk (some its)=pure (ps.zip (us++ds))):cf K fd ps ds:=by
 obtain⟨oc,od,kV,doc,pm,an,cdv,ct,osl,rfl,lk,hcd⟩:=F.ex
 intro s us hin hl
 obtain⟨kk,h1,h2⟩:=h kV doc pm an cdv ct us hl
 exact Gw.of_defaults (T:=T) rfl (hin T oT lT) dT h1 h2
end
open PySem PySem.Spec PyProof.Rows PySem.W
section
variable{X:Cx}{e st:Expr}{te:TE}{ts:TO}{p2 pos:Pos}
end
section
variable{X:Cx}
end
theorem pB(t:w9)(n:Nat):(t.orStandIn n).led=t.led/\((t.orStandIn n).plain=true->t.plain=true):=by
 unfold w9.orStandIn
 split
 ·exact⟨rfl,λh=>h⟩
 ·exact⟨rfl,λh=>by cases h⟩
theorem yQ(t:w9)(es:Array (Int×δ))(h:Int)(x:δ):(layNew t es h x).2.1.led=t.led/\((layNew t es h x).2.1.plain=true->t.plain=true):=by
 unfold layNew
 split
 ·rename_i slot wd _
  obtain⟨a,b⟩:=pB (t.put slot).1 (w9.insertAt es (t.put slot).2 (h,x)).size
  exact⟨a,b⟩
 ·exact⟨rfl,λh=>by cases h⟩
theorem qA{t t':w9}{hs:Array Int}{n:Nat}{o:Array Nat}(h:t.relaid hs n=some (t',o)):t'.led=t.led/\t'.plain=t.plain:=by
 unfold w9.relaid w9.laid at h
 cases e:w9.layClean (w9.sizeAbove n-1) hs with
 |none=>rw[e]at h;cases h
 |some ow=>
  rw[e]at h
  have h2:=ϑ h
  injection h2 with h3 h4
  subst h3
  exact⟨rfl,rfl⟩
theorem uI(t:w9)(es:Array (Int×δ))(n:Nat):(relayAll t es n).2.1.led=t.led/\((relayAll t es n).2.1.plain=true->t.plain=true):=by
 unfold relayAll
 split
 ·rename_i t' o h
  obtain⟨a,b⟩:=qA h
  dsimp only
  split
  ·exact⟨a,λz=>by rw[<-b];exact z⟩
  ·exact⟨rfl,λz=>by cases z⟩
 ·exact⟨rfl,λz=>by cases z⟩
def io(e:Int×δ):Str:=match e.2 with|.str x _=>x|_=>default
def cL(P:Α)(w:Υ)(h:Heap)(a:Addr)(xs:List Str):Prop:=
 ∃o es ep t,h.get? a=some o/\o.ExactSet/\o.data=.set es ep t/\ElemsOf (b_ P w) es.toList/\es.size<scanBound/\t.fits es.size=true/\t.led=(!w.params.followText "set-order")/\(t.plain=true->es.size=0)/\(es.toList.map io).Perm xs
section
variable{P:Α}{w:Υ}{A:Ω}{E:δ->η->Prop}{s:η}
theorem kF{y:Str}{e:Int×δ}(h:(b_ P w).is y e.2=true):io e=y:=by
 obtain⟨t,ht⟩:=δ.isStrOf_shape h
 unfold io
 rw[ht]
theorem tF{e:Int×δ}(h:∃k,(b_ P w).is k e.2=true):(b_ P w).is (io e) e.2=true:=by
 obtain⟨k,hk⟩:=h
 rw[kF hk];exact hk
theorem cL.put{h:Heap}{a:Addr}{o:Obj}{es es':Array (Int×δ)}{ep:Nat}{t t':w9}{xs:List Str}(ho:h.get? a=some o)(hex:o.ExactSet)(hd:o.data=.set es ep t)(hel:ElemsOf (b_ P w) es'.toList)
  (hb:es'.size<scanBound) (hf:t'.fits es'.size=true) (hl:t'.led=(!w.params.followText "set-order")) (hp:t'.plain=true->es'.size=0) (hx:(es'.toList.map io).Perm xs):
  (h.update a (F7 es' t')).get? a=some {o with data:=.set es' (ep+1) t'}/\cL P w (h.update a (F7 es' t')) a xs:=by
 have hg:(h.update a (F7 es' t')).get? a=some {o with data:=.set es' (ep+1) t'}:=by
  have:=Ϡ (F7 es' t') ho (by rw[putSet_of es' t' hd];rfl)
  rw[putSet_of es' t' hd]at this;exact this
 exact⟨hg,_,es',ep+1,t',hg,hex,rfl,hel,hb,hf,hl,hp,hx⟩
theorem nP{g:Bool->Sem Unit}(hg:∀(b:Bool)(s₁:η)(Q':Unit->η->Prop),Q' Unit.unit s₁->wpAny (model P w) A (g b) Q' E s₁){a:Addr}{o:Obj}{es es1:Array (Int×δ)}{ep:Nat}{t t2:w9}{xs:List Str}{wd:Bool}{R:Option Bool->η->Prop}
  (ho:s.heap.get? a=some o) (hex:o.ExactSet) (hd:o.data=.set es ep t) (hel:ElemsOf (b_ P w) es1.toList) (hb:es1.size<scanBound) (hf:t2.fits es1.size=true) (hl:t2.led=(!w.params.followText "set-order")) (hp:t2.plain=false) (hx:(es1.toList.map io).Perm xs)
  (h:∀h',C8 a s.heap h'->cL P w h' a xs->R (some true) {s with heap:=h'}):
  wpAny (model P w) A (do
    storeSet a es1 t2
    if (!wd && t2.tooFull) = true then do
        g (relayAll t2 es1 (C7 es1.size)).2.2
        storeSet a (relayAll t2 es1 (C7 es1.size)).1 (relayAll t2 es1 (C7 es1.size)).2.1
        pure (some true)
     else pure (some true)) R E s:=by
 refine γ (wpAny_storeSet_of ho hd ?_ (fits_of_scanBound hb))
 obtain⟨ho1,hS1⟩:=cL.put (P:=P) (w:=w) ho hex hd hel hb hf hl (λz=>by rw[hp]at z;cases z) hx
 have sb1:=C4 s.heap a (F7 es1 t2)
 split
 ·have pm:=relayAll_perm t2 es1 (C7 es1.size)
  have ft:=relayAll_fits t2 es1 (C7 es1.size)
  have ld:=uI t2 es1 (C7 es1.size)
  generalize relayAll t2 es1 (C7 es1.size)=Rl at pm ft ld⊢
  obtain⟨es2,t3,gave⟩:=Rl
  dsimp only at pm ft ld⊢
  have sz:es2.size=es1.size:=by rw[<-Ϩ,pm.length_eq,Ϩ]
  refine γ (hg _ _ _ (γ (wpAny_storeSet_of ho1 rfl ?_ (fits_of_scanBound (by rw[sz];exact hb)))))
  obtain⟨_,hS2⟩:=cL.put (P:=P) (w:=w) (xs:=xs) ho1 hex rfl (hel.perm pm) (by rw[sz];exact hb) ft (by rw[ld.1];exact hl) (λz=>by have:=ld.2 z;rw[hp]at this;cases this) ((pm.map _).trans hx)
  exact ν (h _ (sb1.trans (C4 _ a _)) hS2)
 ·exact ν (h _ sb1 hS1)
theorem nW{a:Addr}{xs:List Str}{y:Str}{tk:Tok}{Q:Bool->η->Prop}(hS:cL P w s.heap a xs)(hlen:xs.length+1<scanBound)
  (h:∀h' b,C8 a s.heap h'->cL P w h' a (if y∈xs then xs else xs++[y])->Q b {s with heap:=h'}):wpAny (model P w) A (setAddHashed a (.str y tk) ((b_ P w).hash y)) Q E s:=by
 obtain⟨o,es,ep,t,ho,hex,hd,hel,hb,hf,hl,hpl,hx⟩:=hS
 have hkey:(b_ P w).is y (.str y tk)=true:=strKind_is _ _ _ _
 have hsc:(i5 y tk).scannable=true:=rfl
 have sz:es.size=xs.length:=by rw[<-hx.length_eq,ε,Ϩ]
 unfold setAddHashed setAddHashedIn
 refine Ϧ (γ (wpAny_setState_of ho hd hf ?_))
 dsimp only
 rw[byScan_of hsc hb hel]
 simp only[↓reduceIte]
 unfold setAddByScan
 refine γ (γ (u8 (γ (wpAny_setScan_of hkey ho hd hf hel ?_))))
 cases hr:List.findIdx? (λe=>(b_ P w).is y e.2) es.toList with
 |some j=>
  dsimp only
  obtain⟨hj,hpj,_⟩:=List.findIdx?_eq_some_iff_getElem.mp hr
  have hy:y∈xs:=hx.mem_iff.mp (Ζ.mpr ⟨es.toList[j],f_ hj,kF hpj⟩)
  have e:s={s with heap:=s.heap}:=by cases s;rfl
  have q:=h s.heap false (C8.refl a s.heap) (by rw[Q0 hy];exact⟨o,es,ep,t,ho,hex,hd,hel,hb,hf,hl,hpl,hx⟩)
  rw[<-e]at q
  exact ν (ν q)
 |none=>
  dsimp only
  have hy:y∉xs:=λz=>by
   obtain⟨e,he,e1⟩:=Ζ.mp (hx.mem_iff.mpr z)
   have:=List.findIdx?_eq_none_iff.mp hr e he
   rw[<-e1,tF (hel.keys e he)]at this
   cases this
  rw[Q6 hy]at h
  have hgw:∀(b:Bool){s₁:η}{Q':Unit->η->Prop},Q' Unit.unit s₁->wpAny (model P w) A (match b with|true=>rule "set.scan.the-table-gave-way" |false=>pure Unit.unit) Q' E s₁:=
   λb s₁ Q' hq=>by cases b<;>first|exact ν hq|exact u8 hq
  have pm:=layNew_perm t es ((b_ P w).hash y) (.str y tk)
  have ft:=layNew_fits t es ((b_ P w).hash y) (.str y tk)
  have ld:=yQ t es ((b_ P w).hash y) (.str y tk)
  generalize layNew t es ((b_ P w).hash y) (.str y tk)=L at pm ft ld⊢
  obtain⟨es1,t1,wd,gave⟩:=L
  dsimp only at pm ft ld⊢
  rw[Array.toList_push]at pm
  have hel1:ElemsOf (b_ P w) es1.toList:=(hel.push hkey hsc).perm pm
  have sz1:es1.size=es.size+1:=by rw[<-Ϩ,pm.length_eq,χ,Ϩ];rfl
  have hb1:es1.size<scanBound:=by rw[sz1,sz];exact hlen
  have hx1:(es1.toList.map io).Perm (xs++[y]):=by
   refine(pm.map io).trans ?_
   rw[τ]
   exact hx.append (Ez _)
  refine γ (hgw _ ?_)
  split
  ·refine γ ?_
   rw[hashByValue_scannable 8 hsc]
   refine ν ?_
   refine nP ?_ ho hex hd hel1 hb1 (t2:={t1 with plain:=false}) (w9.fits_plain_off ft) (by rw[<-hl];exact ld.1) rfl hx1 ?_
   ·intro b s₁ Q' hq;cases b<;>first|exact ν hq|exact u8 hq
   ·intro h' sb hS';dsimp only;exact ν (h h' true sb hS')
  ·rename_i hnp
   refine γ (ν ?_)
   simp only[↓reduceIte]
   refine nP ?_ ho hex hd hel1 hb1 ft (by rw[<-hl];exact ld.1) (by cases z:t1.plain with|false=>rfl|true=>exact absurd z hnp) hx1 ?_
   ·intro b s₁ Q' hq;cases b<;>first|exact ν hq|exact u8 hq
   ·intro h' sb hS';dsimp only;exact ν (h h' true sb hS')
end
def nU(acc:List Str)(y:Str):List Str:=if y∈acc then acc else acc++[y]
def uq(val:Nat->Str)(i:Nat):List Str:=((ϋ i).map val).foldl nU []
theorem iW(val:Nat->Str)(i:Nat):uq val (i+1)=nU (uq val i) (val i):=by
 unfold uq
 rw[Dm,τ,List.foldl_append]
 rfl
theorem lD(val:Nat->Str):∀i,(uq val i).length<=i
 |0=>ρ _
 |i+1=>by
  have ih:=lD val i
  rw[iW]
  unfold nU
  split
  ·omega
  ·rw[χ,ϥ];omega
theorem gy(val:Nat->Str):∀i,(uq val i).Nodup
 |0=>List.nodup_nil
 |i+1=>by
  rw[iW]
  unfold nU
  split
  ·exact gy val i
  ·rename_i h
   exact k8.mpr ⟨gy val i,(),λa ha b hb e=>h (by rw[θ.mp hb]at e;rw[<-e];exact ha)⟩
theorem qa(val:Nat->Str)(x:Str):∀i,x∈uq val i↔∃j,j<i/\val j=x
 |0=>⟨(λh=>nomatch h),(λ⟨j,h,_⟩=>absurd h (Ge _))⟩
 |i+1=>by
  rw[iW]
  unfold nU
  have ih:=qa val x i
  constructor
  ·intro h
   split at h
   ·obtain⟨j,hj,e⟩:=ih.mp h
    exact⟨j,(),e⟩
   ·rcases ϖ.mp h with h|h
    ·obtain⟨j,hj,e⟩:=ih.mp h
     exact⟨j,(),e⟩
    ·exact⟨i,(),(θ.mp h).symm⟩
  ·rintro⟨j,hj,e⟩
   split
   ·rename_i h
    by_cases hji:j=i
    ·rw[<-e,hji];exact h
    ·exact ih.mpr ⟨j,(),e⟩
   ·by_cases hji:j=i
    ·rw[<-e,hji];exact ϟ _ (θ.mpr rfl)
    ·exact i7 _ (ih.mpr ⟨j,(),e⟩)
section
variable{P:Α}{w:Υ}{A:Ω}{R:Ff->η->Prop}{I:Addr}{fp wr:List Addr}{G:Array DE->Array DE->Prop}{n:Nat}{Pv:Nat->δ->Prop}{St:Nat->η->Prop}
theorem cL.at'{h h':Heap}{a:Addr}{xs:List Str}(x:cL P w h a xs)(k:∀o,h.get? a=some o->h'.get? a=some o):cL P w h' a xs:=let ⟨o,es,ep,t,ho,r⟩:=x;⟨o,es,ep,t,k o ho,r⟩
theorem nJ(W:WalksS P w A.in1 I fp wr G n Pv St)(S:Addr)(hSf:S∉fp)(val:Nat->Str)(hval:∀i v,Pv i v->∃t,v=.str (val i) t)(hb:n+1<scanBound):
  ∀(k i:Nat)(s:η),n-i=k->i<=n->St i s->cL P w s.heap S (uq val i)->(∀s',Moved (S::wr) G s s'->cL P w s'.heap S (uq val n)->R (.ok (.ret .none)) s') ->
   codeAny (model P w) A (.builtin "set.update.loop" ⟨[.ref S,.ref I],[]⟩) R s:=by
 have hSw:S∉wr:=λh=>hSf (W.sub _ h)
 have more:∀b∈wr,b∈S::wr:=λb hb=>υ _ hb
 intro k
 induction k with
 |zero=>
  intro i s hk hi st hS fin
  obtain rfl:i=n:=by omega
  refine ϴ F.entry_set_update_loop ?_
  rw[j4 Es _]
  show wpAny _ A.in1 (pyNext (.ref I)>>=_) _ _ s
  refine γ (W.done s _ _ st λs' hm=>?_)
  show wpAny _ A.in1 (ret a8) _ _ s'
  exact ν (fin s' (hm.mono more) (hS.at' λo e=>hm.heap S _ hSw e))
 |succ k ih=>
  intro i s hk hi st hS fin
  have hlt:i<n:=by omega
  refine ϴ F.entry_set_update_loop ?_
  rw[j4 Es _]
  show wpAny _ A.in1 (pyNext (.ref I)>>=_) _ _ s
  refine γ (W.item i s _ _ hlt st λv s' hP st' hm=>?_)
  obtain⟨t,rfl⟩:=hval i v hP
  have hS':cL P w s'.heap S (uq val i):=hS.at' λo e=>hm.heap S _ hSw e
  show wpAny _ A.in1 (holding [i5 (val i) t] (setAdd S (.str (val i) t))>>=_) _ _ s'
  refine γ (Ϧ ?_)
  unfold setAdd
  refine Ϧ (γ ((b_ P w).pyHash (k:=val i) (strKind_is _ _ _ _) ?_))
  have room:(uq val i).length+1<scanBound:=by have:=lD val i;omega
  refine nW (s:={s' with toks:=s'.toks+1}) hS' room λh' b sb hS2=>?_
  have hSi:cL P w h' S (uq val (i+1)):=by rw[iW];exact hS2
  refine ν ⟨u_ Es _,ih (i+1) _ () hlt (W.frame _ s' _ _ st' (y6 _) λb hb o e=>?_) hSi λs'' hm'' hS''=>?_⟩
  ·rw[sb.2 b (λh:b=S=>hSf (by rw[<-h];exact hb))];exact e
  ·refine fin s'' (Moved.trans W.gtrans ((hm.mono more).then_heap (y6 _) λb o hb e=>?_) hm'') hS''
   rw[sb.2 b (λh:b=S=>hb (by rw[h];exact Δ))];exact e
end
def aZ(w:Υ):Obj:={cls:=.type "set",dict:=none,data:=.set #[] 0 (.fresh 0 0 (!w.params.followText "set-order"))}
section
variable{P:Α}{w:Υ}{A:Ω}{E:δ->η->Prop}{s:η}
theorem eQ(a:δ){Q₁:δ->η->Prop}(h:Q₁ (.ref s.heap.objs.size) {s with heap:=s.heap.push (aZ w)}):
  codeAny (model P w) A (.call (.builtin "set.__new__") ⟨[.type "set",a],[]⟩) (wants Q₁ E) s:=by
 refine EY ?_
 show wpAny _ A.in1 (do checkBuiltinCall "set.__new__" ⟨[.type "set",a],[]⟩;again (.builtin "set.__new__" ⟨[.type "set",a],[]⟩)) _ _ s
 refine γ (Gq (PySem.F.newCall_set_1 a) (ν ⟨u_ PySem.F.plain_set_new _,ϴ PySem.F.entry_set_new ?_⟩))
 rw[j4 PySem.F.plain_set_new _]
 unfold Ϥ.«set.__new__» Ϥ.Frozenset.newClass
 have hsub:=sub_set_self
 obtain⟨hp,g,d,tk,os⟩:=s
 dsimp only
 wp_walk
 refine wpAny_askSetting (ν ?_)
 dsimp only
 simp only[newObj]
 refine γ (wpAny_alloc (ν ?_))
 exact ν h
theorem jR(h:Heap):cL P w (h.push (aZ w)) h.objs.size []:=
 ⟨_,#[],0,_,ψ _ rfl,⟨rfl,rfl,rfl⟩,rfl,λe he=>by simp at he,(),rfl,rfl,λ_=>rfl,Ez _⟩
theorem kf{l:Addr}{items:Array δ}{ys:List Str}{Q:δ->η->Prop}(hh:A.handled=none)(hl:s.heap.IsList l items)(hi:∀(i:Nat)(v:δ),items[i]?=some v->∃t,v=.str (ys.getD i default) t)(hb:items.size+1<scanBound)
  (h:∀(h':Heap)(tk:Nat),cL P w h' s.heap.objs.size (uq (λi=>ys.getD i default) items.size)->(∀b o,b<s.heap.objs.size->s.heap.get? b=some o->h'.get? b=some o)->Q (.ref s.heap.objs.size) {s with heap:=h',toks:=tk}):
  wpAny (model P w) A (call (.type "set") [.ref l]) Q E s:=by
 obtain⟨c,tl,hmro⟩:=Ϝ.mro
 have hmade:=Ϝ.made
 have hsub:=Ϝ.sub
 refine Eg (EY ?_)
 show wpAny _ _ (callAny (.type "set") _) _ _ _
 refine ν ⟨A3 _ (),ϴ PySem.F.entry_type_call ?_⟩
 rw[Ω.under_plain (weight_type_call_type "set" [.ref l] []) rfl]
 have h1:=Ϝ.notType
 have h2:=Ϝ.canCreate
 have hct:=PySem.F.typeCall_set_1 (.ref l)
 repeat (any_goals (first|assumption|wp_step))
 refine B3 (eQ (.ref l) (E:=E) (Q₁:=λobj s₁=>obj=.ref s.heap.objs.size/\s₁={s with heap:=s.heap.push (aZ w)}) ⟨rfl,rfl⟩) λr s₁ hr=>?_
 cases r with
 |error e=>exact hr
 |ok fl=>
  cases fl with
  |ret obj=>
   obtain⟨rfl,rfl⟩:=hr
   have hS:(s.heap.push (aZ w)).get? s.heap.objs.size=some (aZ w):=ψ _ rfl
   have hT:η.TypeIs {s with heap:=s.heap.push (aZ w)} (.ref s.heap.objs.size) "set":=⟨_,hS,rfl⟩
   have hli:=Ϝ.init.lookup
   have hbi:=Ϝ.init.bind (.ref s.heap.objs.size)
   repeat (any_goals (first|assumption|wp_step))
   refine B3 (j6 (R:=wants (λr s₂=>r=.none/\∃h' tk,s₂={s with heap:=h',toks:=tk}/\cL P w h' s.heap.objs.size (uq (λi=>ys.getD i default) items.size)/\(∀b o,b<s.heap.objs.size->s.heap.get? b=some o->h'.get? b=some o)) E)
    Ϝ.init.plain PySem.F.entry_set_init (check_set_init_1 hT ?_)) λr₂ s₂ hr₂=>?_
   ·obtain⟨ol,hol,hcl,nl,hdl⟩:=hl
    obtain⟨ocls,odict,odata,oslots⟩:=ol
    simp only at hcl hdl
    subst hcl;subst hdl
    have hol':(s.heap.push (aZ w)).get? l=some {cls:=.type "list",dict:=odict,data:=.seq items nl,slots:=oslots}:=ι _ hol
    have hsls:=PySem.F.sub_list_set
    have hslf:=PySem.F.sub_list_frozenset
    have hne:(x5 "list" == x5 "dict")=false:=by decide
    have hl1:(s.heap.push (aZ w)).IsList l items:=⟨_,hol',rfl,nl,rfl⟩
    unfold aZ at hS hT hol' hl1⊢
    unfold Ϥ.«set.__init__» noKeywords EZ
    generalize hPI:pyIter=PI
    wp_walk
    subst hPI
    refine B0 hl1 ?_
    refine γ (Fk ?_)
    have hlS:l<s.heap.objs.size:=ς hol
    have hh3:A.in1.in1.in1.handled=none:=by simp[hh]
    have hneI:l≠(s.heap.push (aZ w)).objs.size:=by
     rw[ϩ];exact Ρ (r_ hlS)
    have hSf:s.heap.objs.size∉[(s.heap.push (aZ w)).objs.size,l]:=by
     rw[ϩ];simp only[μ,θ,g_,or_false,not_or]
     exact⟨Ρ (DS _),m6 hlS⟩
    refine nJ ((GA hh3 _ l hneI items).toS) s.heap.objs.size hSf (λi=>ys.getD i default) hi hb (items.size-0) 0 _ () (Ξ _)
     ⟨⟨_,ψ _ rfl,rfl,rfl⟩,(hl1.push _)⟩ ?hS0 ?hR
    case hS0=>exact(jR s.heap).at' λo e=>ι _ e
    case hR=>
     intro s' hm hS'
     obtain⟨h',g',d',tk',os'⟩:=s'
     have eg:g'=s.gens:=hm.gens
     have ed:d'=s.drawn:=hm.drawn
     have eo:os'=s.os:=hm.os
     subst eg;subst ed;subst eo
     show wpAny _ _ _ _ _ _
     refine ν ?_
     show wpAny _ _ (ret a8) _ _ _
     refine ν ⟨rfl,h',tk',rfl,hS',λb o hb e=>?_⟩
     have hb1:b≠s.heap.objs.size:=Ρ hb
     have hb2:b≠(s.heap.push (aZ w)).objs.size:=by
      rw[ϩ];exact Ρ (r_ hb)
     exact hm.heap b o (by simp only[μ,θ,g_,or_false,not_or];exact⟨hb1,hb2⟩) (ι _ (ι _ e))
   ·cases r₂ with
    |error e=>exact hr₂
    |ok fl₂=>
     cases fl₂ with
     |ret r=>
      obtain⟨rfl,h',tk,rfl,hS',hk'⟩:=hr₂
      repeat (any_goals (first|assumption|wp_step))
      exact h _ _ hS' hk'
     |_=>exact hr₂.elim
  |_=>exact hr.elim
end
section
variable{P:Α}{w:Υ}{A:Ω}{E:δ->η->Prop}
variable{s:η}{it S:Addr}{o:Obj}{es:Array (Int×δ)}{ep n i:Nat}{t:w9}
end
section
variable{P:Α}{w:Υ}{A:Ω}{E:δ->η->Prop}{s:η}{it S:Addr}{o:Obj}{es:Array (Int×δ)}{ep n i:Nat}{t:w9}
end
section
variable{P:Α}{w:Υ}{A:Ω}{E:δ->η->Prop}{s:η}{it S tp:Addr}{o ot:Obj}{es:Array (Int×δ)}{ep n i m:Nat}{t:w9}{pl:Array δ}
end
section
variable{P:Α}{w:Υ}{A:Ω}{E:δ->η->Prop}{s:η}{S:Addr}{o:Obj}{es:Array (Int×δ)}{ep:Nat}{t:w9}
end
section
variable{P:Α}{w:Υ}{it S tp:Addr}{o ot:Obj}{es:Array (Int×δ)}{ep m:Nat}{t:w9}
end
section
variable{P:Α}{w:Υ}{A:Ω}{E:δ->η->Prop}{s:η}{S:Addr}{xs:List Str}
variable{R:Ff->η->Prop}{it L:Addr}{fp:List Addr}{vs:List δ}{St:Nat->Heap->Prop}
end
section
variable{P:Α}{w:Υ}{A:Ω}{E:δ->η->Prop}{s:η}{S:Addr}{xs:List Str}
end
def qu(a b:Str):Prop:=a.cps.toList<b.cps.toList
section
variable{X:Cx}{pins:List (Addr×Obj)}{σ:St}{H:Hp}{s:η}
theorem cP{ps:List Str}{its:List δ}(rv:ar (ps.map V.str) its)(i:Nat)(hi:i<ps.length):∃t,its.getD i .none=i5 (ps.getD i default) t:=by
 obtain⟨u,hu,ru⟩:=ar.get (i:=i) (x:=V.str ps[i]) rv (by rw[Ν,Γ hi];rfl)
 obtain⟨t,rfl⟩:=(show ∃t,u=i5 ps[i] t from ru)
 exact⟨t,by simp[x4,hu,hi]⟩
theorem kQ{A:Ω}{E:δ->η->Prop}{l:Addr}{ps:List Str}{Q:δ->η->Prop}(I:Inv X pins σ H s)(hq:H l=some (.lst (ps.map V.str)))(nd:ps.Nodup)(h64:ps.length<64)
  (q:∀(qs:List Str)(h':Heap),qs.Perm ps->qs.Pairwise qu->Inv X pins σ (upd H l (.lst (qs.map V.str))) {s with heap:=h'}->Q .none {s with heap:=h'}):wpAny (model X.prog X.w) A (call (.builtin "list.sort") [.ref l]) Q E s:=by
 obtain⟨hz,its,n,rv,at0⟩:=(show aM X.prog X.w H s.heap l (.lst (ps.map V.str))from I.hok l _ hq)
 have li:its.length=ps.length:=by have:=rv.length;rw[ε]at this;exact this.symm
 obtain⟨m,hm,_⟩:=I.loc
 have nL:l≠X.env.locals:=λz=>by rw[z,I.free]at hq;cases hq
 by_cases few:ps.length<2
 ·refine ϫ DM ⟨_,at0,rfl⟩ Do (cS at0 () λhp ep k2 e2=>⟨_,rfl,?_⟩) (DN _)
  refine q ps hp (Ez _) ?_ (I.setList hm hq rv hz (hm.at' λo e=>k2 _ o (Ϗ nL) e) (λb o _ hb z=>k2 b o hb z) e2)
  match ps,few with
  |[],_=>exact .nil
  |[p],_=>exact Eo _ _
 ·have F0:Fr (Att.noObjs s.heap) X.env.locals s.heap m:=Att.fr_all hm
  generalize hN:(eB (Att.noObjs s.heap) s.heap X.env.locals).filter (λp=>decide (p.1≠l))=nw
  have N0:News (Att.noObjs s.heap) X.env.locals s.heap nw:=λp hp=>by rw[<-hN]at hp;exact jL p (ϙ.mp hp).1
  have nl0:∀p∈nw,p.1≠l:=λp hp=>by rw[<-hN]at hp;exact Q7 (ϙ.mp hp).2
  refine ϫ DM ⟨_,at0,rfl⟩ Do (kat_list_sort F0 N0 at0 nL (Att.noObjs_get _ _) nl0 () () λe1 h' F' N'=>?_) (DN _)
  have keep:∀(g:Heap)(x:Obj),News (Att.noObjs s.heap) X.env.locals g ((l,x)::nw)->∀b o,b≠X.env.locals->b≠l->s.heap.get? b=some o->g.get? b=some o:=λg x N b o hb hl e=>
   (N (b,o) (υ _ (by rw[<-hN];exact ϙ.mpr ⟨dw hb (Att.noObjs_get _ _) e,Q9 hl⟩))).1
  have kk:keyKind' its.toArray=pure oneType':=by
   have st:=mF rv
   match its,li,st with
   |v1::v2::r,_,st=>exact keyKind_strs st
   |[_],li,_=>simp at li;omega
   |[],li,_=>simp at li;omega
  rw[kk]
  refine ν ?_
  rw[li]
  have unlike:∀i j,i<ps.length->j<ps.length->i≠j->ps.getD i default≠ps.getD j default:=λi j hi hj hij e=>by
   have ei:ps.getD i default=ps[i]:=by simp[x4,hi]
   have ej:ps.getD j default=ps[j]:=by simp[x4,hj]
   rw[ei,ej]at e
   exact hij ((C5 nd).mp e)
  have O:Ord (kas_ask X.prog X.w A.in1 oneType' its) (λi j=>decide ((ps.getD i default).cps.toList<(ps.getD j default).cps.toList)) ps.length {s with heap:=h'}:=by
   refine⟨λi j C hi hj hij hC=>?_,λi j k h1 h2=>?_,λi j hi hj hij h1=>?_,λi j h1=>?_⟩
   ·show wpAny _ _ (keyLt' _ _ _) C _ _
    obtain⟨t1,e1⟩:=cP rv i hi
    obtain⟨t2,e2⟩:=cP rv j hj
    rw[e1,e2]
    exact kas_lt_str hC
   ·exact Q9 (List.lt_trans (Q7 h1) (Q7 h2))
   ·exact Q9 (rD (of_decide_eq_false h1) λe=>unlike i j hi hj hij (sv e))
   ·exact Q8 (List.lt_asymm (Q7 h1))
  refine sF O () λp re up=>?_
  have hl2:p.toList.Perm (ϋ ps.length):=by simpa using s9.mp re.perm
  have outs:∀il:List Nat,(∀i∈il,i<ps.length)->ar ((il.map λi=>ps.getD i default).map V.str) (il.map λi=>its.getD i .none):=by
   intro il
   induction il with
   |nil=>intro _;exact .nil
   |cons i il ih=>
    intro h
    obtain⟨t1,e1⟩:=cP rv i (h i Δ)
    refine .cons ?_ (ih λx hx=>h x (υ _ hx))
    exact⟨t1,e1⟩
  have rv2:=outs p.toList λi hi=>Ϭ.mp ((Ex hl2).mp hi)
  refine KasFin.intro (news:=(l,seqObj "list" #[] e1)::nw) (g:=λo'=>(l,o')::nw) F' N' (.head nl0) λh2 c F2 N2=>?_
  have pq:=ib (d:=default) rfl re
  have I2:=I.setList (D:=l) hm hq rv2 (by rw[ε,pq.length_eq];simpa using hz) F2.ns (keep h2 _ N2) (N2 (l,_) Δ).1
  exact⟨_,rfl,q _ h2 pq (eT (R:=qu) (λi j _ _ h=>(Q7 h:(ps.getD i default).cps.toList<(ps.getD j default).cps.toList)) re up) I2⟩
end
section
variable{X:Cx}
def SetO(P:Α)(w:Υ)(a:Addr)(xs:List Str):HO:=.ext λh=>cL P w h a xs
theorem uD(hc:X.calm=true):bz X (.type "set") (λxs H Q=>∃(l:Addr) (ys:List Str),xs=[.ref l]/\SqL X.K H l (ys.map V.str)/\ys.length<=1000 /\
  ∀(a:Addr)(zs:List Str),H a=none->zs.Nodup->(∀x,x∈zs↔x∈ys)->zs.length<=ys.length->Q (.ref a) (upd H a (SetO X.prog X.w a zs))):=by
 intro pins s σ H xs us Q I r h
 obtain⟨l,ys,rfl,hq,hy,q⟩:=h
 obtain⟨u,rfl,ru⟩:=cj r
 cases ru
 obtain⟨its,rv,p,hz⟩:=I.list hq
 have li:its.length=ys.length:=by have:=rv.length;rw[ε]at this;exact this.symm
 have hb:its.toArray.size+1<scanBound:=by rw[π,li];unfold scanBound;omega
 refine kf (ys:=ys) (I.ok.hd hc) p.isList (λi v hv=>?_) hb λh' tk hS k=>?_
 ·have hv':its[i]?=some v:=by simpa using hv
  have hi:i<ys.length:=by rw[<-li];exact(ο.mp hv').1
  obtain⟨t,e⟩:=cP rv i hi
  refine⟨t,?_⟩
  rw[<-e]
  simp[x4,hv']
 ·have sz:its.toArray.size=ys.length:=by rw[π,li]
  rw[sz]at hS
  refine⟨.ref s.heap.objs.size,_,I.laid (a:=s.heap.objs.size) (o:=SetO X.prog X.w s.heap.objs.size (uq (λi=>ys.getD i default) ys.length)) (t':=tk) (λb u e=>k b u (ς e) e) (ρ _) ?_,rfl,q _ _ I.fresh (gy _ _) (λx=>?_) (lD _ _)⟩
  ·refine⟨hS,?_,λh1 h2 x kk=>cL.at' x kk⟩
   obtain⟨o,_,_,_,ho,_⟩:=hS
   exact⟨o,ho⟩
  ·rw[qa]
   constructor
   ·rintro⟨j,hj,rfl⟩
    have e:ys.getD j default=ys[j]:=by simp[x4,hj]
    rw[e];exact f_ hj
   ·intro hx
    obtain⟨j,hj,rfl⟩:=t_ hx
    exact⟨j,hj,by simp[x4,hj]⟩
theorem yF{j:Int}(h0:0<j)(h1:j<10^60):j.natAbs.log2<9000:=by
 have hn:j.natAbs<2^200:=by omega
 have:=(Nat.log2_lt (n:=j.natAbs) (k:=200) ()).mpr hn
 omega
def By(i j:Int):Prop:=0<j/\j<10^60
theorem cG:OpR X (binaryOp .FloorDiv) (rI By λi j=>.int (i/j)):=opI λi j _ _ _ _ _ hc q=>by
 have h1:(0:Int)<j:=hc.1
 exact floordiv_int () (by rw[DG i ()];exact q) (.inl (PyProof.noPylong_of_log2 (yF hc.1 hc.2)))
end
theorem iX:∀{xs:List V}{us:List δ},xs.length=us.length->(∀(i:Nat)(x:V)(u:δ),xs[i]?=some x->us[i]?=some u->aw x u)->ar xs us
 |[],[],_,_=>.nil
 |[],_::_,h,_=>by cases h
 |_::_,[],h,_=>by cases h
 |x::xs,u::us,h,g=>.cons (g 0 x u rfl rfl) (iX (by simpa using h) λi y v h1 h2=>g (i+1) y v h1 h2)
section
variable{X:Cx}
end
open PySem PySem.Spec PyProof.Rows
section
variable{prog:Α}{w:Υ}{A:Ω}{E:δ->η->Prop}{s:η}
theorem ck{it t:Addr}{i:Nat}{its:Array δ}{x:δ}{Q:δ->η->Prop}(hit:s.heap.IsTupleIter it t i)(ht:s.heap.IsTuple t its)(hx:its[i]?=some x)
  (hQ:∀h',h'.IsTupleIter it t (i+1)->C8 it s.heap h'->Q x {s with heap:=h'}):wpAny (model prog w) A (ϱ (.ref it)) Q E s:=by
 obtain⟨o,ho,hc,hd⟩:=id hit
 obtain⟨ol,hol,_,nl,hdl⟩:=ht
 unfold ϱ
 refine γ (i6 (name:=ξ "__next__") hit.typeIs A4 (ϫ A4 hit.typeIs E9 ?_ (E1 _)))
 show wpAny _ _ (field (.ref it) 0>>=_) _ _ s;refine γ (ϭ ho hd (x:=.ref t) rfl ?_)
 show wpAny _ _ (if (Ε t==a8)=true then _ else _) _ _ s;rw[Q6 (show ¬ ((Ε t==a8)=true)from Κ)]
 show wpAny _ _ (field (.ref it) 1>>=_) _ _ s;refine γ (ϭ ho hd (x:=.int i 0) rfl ?_)
 show wpAny _ _ (seqItems? (.ref t)>>=_) _ _ s;refine γ (ϸ hol hdl ?_);simp only[r6,hx]
 refine γ (DO ho hd () (ν ⟨x,rfl,ν (hQ _ ⟨_,Ϡ _ ho (EB (Di hd _)),(Obj.cls_mapFields ..).trans hc,by rw[Di hd];simp[rawInt]⟩ (C4 ..))⟩))
theorem en{it t:Addr}{i:Nat}{its:Array δ}{Q:δ->η->Prop}(hh:A.handled=none)(hit:s.heap.IsTupleIter it t i)(ht:s.heap.IsTuple t its)(hx:its[i]?=none)
  (hE:∀h' e,Heap.ExtBut it s.heap h'->(∃o,h'.get? e=some o/\o.cls=.type "StopIteration")->E (.ref e) {s with heap:=h'}):wpAny (model prog w) A (ϱ (.ref it)) Q E s:=by
 obtain⟨o,ho,hc,hd⟩:=id hit
 obtain⟨ol,hol,_,nl,hdl⟩:=ht
 unfold ϱ
 refine γ (i6 (name:=ξ "__next__") hit.typeIs A4 (ϫ A4 hit.typeIs E9 ?_ (E1 _)))
 show wpAny _ _ (field (.ref it) 0>>=_) _ _ s;refine γ (ϭ ho hd (x:=.ref t) rfl ?_)
 show wpAny _ _ (if (Ε t==a8)=true then _ else _) _ _ s;rw[Q6 (show ¬ ((Ε t==a8)=true)from Κ)]
 show wpAny _ _ (field (.ref it) 1>>=_) _ _ s;refine γ (ϭ ho hd (x:=.int i 0) rfl ?_)
 show wpAny _ _ (seqItems? (.ref t)>>=_) _ _ s;refine γ (ϸ hol hdl ?_);simp only[r6,hx]
 refine γ (u8 (γ (DO ho hd () ?_)));show wpAny _ _ (newExc (.type "StopIteration") []>>=_) _ _ _
 refine γ ?_;simp only[newExc,newTuple];refine γ (ϝ ?_ (by size_fits))
 refine γ (m:=firstArgMember _ _) (Gq (a:=a8) (by first|rfl|(simp only[firstArgMember];rfl)) (ϝ ?_ (by size_fits)))
 simp only[raiseNew];refine γ (wpAny_handled ?_);first|rw[show A.in1.handled=none from hh]|rw[hh]
 refine γ (ν (wpAny_throw (hE _ _ (((C4 ..).extBut.push _).push _) ⟨_,ψ _ rfl,rfl⟩)))
end
section
variable{X:Cx}
end
open PySem PySem.Spec PyProof.Rows PySem.W
section
variable{X:Cx}
variable{tg:Expr}
end
noncomputable def bN(p:Prop):Bool:=@decide p (Classical.propDecidable p)
theorem bn{p:Prop}:bN p=true↔p:=by unfold bN;exact @decide_eq_true_iff p (Classical.propDecidable p)
theorem cz{p:Prop}{b:Bool}(h:b=true↔p):b=bN p:=by rw[m8,bn];exact h
theorem cn{p:Prop}(h:¬ p):false=bN p:=cz ⟨λz=>(nomatch z),λz=>absurd z h⟩
mutual
theorem Rep.inj{H:Hp}:∀(d e:Dv)(v:V),Rep H d v->Rep H e v->d=e
 |.tup ds,e,v,h1,h2=>by
  simp only[Rep]at h1
  obtain⟨a,vs,rfl,ha,rs⟩:=h1
  cases e with
  |tup es=>simp only[Rep]at h2;obtain⟨b,ws,eb,hb,rs2⟩:=h2;cases eb;rw[ha]at hb;cases hb;rw[Reps.inj ds es vs rs rs2]
  |lst es=>simp only[Rep]at h2;obtain⟨b,ws,eb,hb,rs2⟩:=h2;cases eb;rw[ha]at hb;cases hb
  |dct=>simp only[Rep]at h2;obtain⟨b,eb,hb⟩:=h2;cases eb;rw[ha]at hb;cases hb
  |_=>simp only[Rep]at h2;cases h2
 |.lst ds,e,v,h1,h2=>by
  simp only[Rep]at h1
  obtain⟨a,vs,rfl,ha,rs⟩:=h1
  cases e with
  |lst es=>simp only[Rep]at h2;obtain⟨b,ws,eb,hb,rs2⟩:=h2;cases eb;rw[ha]at hb;cases hb;rw[Reps.inj ds es vs rs rs2]
  |tup es=>simp only[Rep]at h2;obtain⟨b,ws,eb,hb,rs2⟩:=h2;cases eb;rw[ha]at hb;cases hb
  |dct=>simp only[Rep]at h2;obtain⟨b,eb,hb⟩:=h2;cases eb;rw[ha]at hb;cases hb
  |_=>simp only[Rep]at h2;cases h2
 |.dct,e,v,h1,h2=>by
  simp only[Rep]at h1
  obtain⟨a,rfl,ha⟩:=h1
  cases e with
  |dct=>rfl
  |tup es=>simp only[Rep]at h2;obtain⟨b,ws,eb,hb,rs2⟩:=h2;cases eb;rw[ha]at hb;cases hb
  |lst es=>simp only[Rep]at h2;obtain⟨b,ws,eb,hb,rs2⟩:=h2;cases eb;rw[ha]at hb;cases hb
  |_=>simp only[Rep]at h2;cases h2
 |.non,e,v,h1,h2=>by
  simp only[Rep]at h1;subst h1
  cases e with
  |non=>rfl
  |tup es=>simp only[Rep]at h2;obtain⟨b,ws,eb,_⟩:=h2;cases eb
  |lst es=>simp only[Rep]at h2;obtain⟨b,ws,eb,_⟩:=h2;cases eb
  |dct=>simp only[Rep]at h2;obtain⟨b,eb,_⟩:=h2;cases eb
  |_=>simp only[Rep]at h2;cases h2
 |.bl _,e,v,h1,h2=>by
  simp only[Rep]at h1;subst h1
  cases e with
  |bl b=>simp only[Rep]at h2;cases h2;rfl
  |tup es=>simp only[Rep]at h2;obtain⟨b,ws,eb,_⟩:=h2;cases eb
  |lst es=>simp only[Rep]at h2;obtain⟨b,ws,eb,_⟩:=h2;cases eb
  |dct=>simp only[Rep]at h2;obtain⟨b,eb,_⟩:=h2;cases eb
  |_=>simp only[Rep]at h2;cases h2
 |.int _,e,v,h1,h2=>by
  simp only[Rep]at h1;subst h1
  cases e with
  |int b=>simp only[Rep]at h2;cases h2;rfl
  |tup es=>simp only[Rep]at h2;obtain⟨b,ws,eb,_⟩:=h2;cases eb
  |lst es=>simp only[Rep]at h2;obtain⟨b,ws,eb,_⟩:=h2;cases eb
  |dct=>simp only[Rep]at h2;obtain⟨b,eb,_⟩:=h2;cases eb
  |_=>simp only[Rep]at h2;cases h2
 |.str _,e,v,h1,h2=>by
  simp only[Rep]at h1;subst h1
  cases e with
  |str b=>simp only[Rep]at h2;cases h2;rfl
  |tup es=>simp only[Rep]at h2;obtain⟨b,ws,eb,_⟩:=h2;cases eb
  |lst es=>simp only[Rep]at h2;obtain⟨b,ws,eb,_⟩:=h2;cases eb
  |dct=>simp only[Rep]at h2;obtain⟨b,eb,_⟩:=h2;cases eb
  |_=>simp only[Rep]at h2;cases h2
theorem Reps.inj{H:Hp}:∀(ds es:List Dv)(vs:List V),Reps H ds vs->Reps H es vs->ds=es
 |[],es,vs,h1,h2=>by
  simp only[Reps]at h1;subst h1
  cases es with
  |nil=>rfl
  |cons e es=>simp only[Reps]at h2;obtain⟨v,r,e2,_⟩:=h2;cases e2
 |d::ds,es,vs,h1,h2=>by
  simp only[Reps]at h1
  obtain⟨v,r,rfl,r1,rs1⟩:=h1
  cases es with
  |nil=>simp only[Reps]at h2;cases h2
  |cons e es=>
   simp only[Reps]at h2
   obtain⟨v2,r2,e2,r3,rs3⟩:=h2
   cases e2
   rw[Rep.inj d e v r1 r3,Reps.inj ds es r rs1 rs3]
end
inductive Pl:Nat->Dv->Prop
 |int {n:Nat} {i:Int}:Pl n (.int i)
 |str {n:Nat} {x:Str}:Pl n (.str x)
 |non {n:Nat}:Pl n .non
 |tup {n:Nat} {ds:List Dv}:(∀d∈ds,Pl n d)->Pl (n+1) (.tup ds)
theorem Pl.up{m n:Nat}{d:Dv}(h:Pl m d):m<=n->Pl n d:=by
 induction h generalizing n with
 |int=>intro _;exact .int
 |str=>intro _;exact .str
 |non=>intro _;exact .non
 |tup _ ih=>
  intro l
  obtain⟨k,rfl⟩:∃k,n=k+1:=⟨n-1,()⟩
  exact .tup λd hd=>ih d hd ()
theorem ji{ds es:List Dv}:((ϋ (min ds.length es.length)).all (λj=>bN (ds[j]?=es[j]?))&&ds.length==es.length)=bN (Dv.tup ds=.tup es):=by
 refine cz ?_
 rw[Θ,e_,beq_iff_eq]
 constructor
 ·rintro⟨h,hl⟩
  congr 1
  refine B4 λj=>?_
  by_cases hj:j<ds.length
  ·exact bn.mp (h j (Ϭ.mpr ()))
  ·rw[a7 (),a7 ()]
 ·intro h
  cases h
  exact⟨λj _=>bn.mpr rfl,rfl⟩
section
variable{X:Cx}{pins:List (Addr×Obj)}{σ:St}{H:Hp}{s:η}
theorem eZ(I:Inv X pins σ H s){A:Ω}{n:Nat}{ds es:List Dv}{vs ws:List V}{its its2:List δ}
  (h:∀d∈ds,∀e∈es,∀(v w:V)(a b:δ),Rep H d v->Rep H e w->aw v a->aw w b->Ϟ A s a b (bN (d=e))) (rs1:Reps H ds vs) (rs2:Reps H es ws) (rv1:ar vs its) (rv2:ar ws its2):
  its.toArray.size=ds.length/\its2.toArray.size=es.length/\∀j (h1:j<its.toArray.size) (h2:j<its2.toArray.size),Ϟ A s its.toArray[j] its2.toArray[j] (bN (ds[j]?=es[j]?)):=by
 have l1:=rs1.length
 have l2:=rs2.length
 have l3:=rv1.length
 have l4:=rv2.length
 refine⟨by simp;omega,by simp;omega,λj h1 h2=>?_⟩
 have hj:j<its.length:=by simpa using h1
 have hj2:j<its2.length:=by simpa using h2
 obtain⟨u,hu1,ru⟩:=ar.get (i:=j) (x:=vs[j]'()) rv1 (Γ _)
 obtain⟨u2,hu2,ru2⟩:=ar.get (i:=j) (x:=ws[j]'()) rv2 (Γ _)
 obtain⟨d,hd,Rd⟩:=rs1.get (i:=j) (v:=vs[j]'()) (Γ _)
 obtain⟨d2,hd2,Rd2⟩:=rs2.get (i:=j) (v:=ws[j]'()) (Γ _)
 have e1:its.toArray[j]=u:=by
  rw[Γ hj]at hu1
  simpa using ϑ hu1
 have e2:its2.toArray[j]=u2:=by
  rw[Γ hj2]at hu2
  simpa using ϑ hu2
 rw[e1,e2,hd,hd2]
 have e3:bN (some d=some d2)=bN (d=d2):=cz (by rw[bn];exact⟨ϑ,λz=>by rw[z]⟩)
 rw[e3]
 exact h d (Λ hd) d2 (Λ hd2) _ _ _ _ Rd Rd2 ru ru2
theorem iQ(I:Inv X pins σ H s){n:Nat}{d:Dv}(h:Pl n d):∀{e:Dv},Pl n e->∀{A:Ω}{v w:V}{a b:δ},A.units+n<cLine->Rep H d v->Rep H e w->aw v a->aw w b->Ϟ A s a b (bN (d=e)):=by
 induction h with
 | @int n i=>
  intro e he A v w a b hu r1 r2 q1 q2
  simp only[Rep]at r1
  subst r1
  obtain⟨t,rfl⟩:=(show ∃t,a=y8 i t from q1)
  cases he with
  | @int _ j=>simp only[Rep]at r2;subst r2;obtain⟨u,rfl⟩:=(show ∃t,b=y8 j t from q2);rw[<-cz (b:=(i==j)) (by rw[beq_iff_eq];exact⟨λz=>by rw[z],λz=>Dv.int.inj z⟩)];exact Fh i t j u
  | @str _ x=>simp only[Rep]at r2;subst r2;obtain⟨u,rfl⟩:=(show ∃t,b=i5 x t from q2);rw[<-cn nofun];exact Fc i t x u
  |non=>simp only[Rep]at r2;subst r2;cases q2;rw[<-cn nofun];exact Ϟ.int_none i t
  | @tup n es _=>simp only[Rep]at r2;obtain⟨l,ws,rfl,hl,_⟩:=r2;cases q2;obtain⟨its,_,p,_⟩:=I.tuple (SqT.of hl);rw[<-cn nofun];exact Ϟ.int_tuple i t p ()
 | @str n x=>
  intro e he A v w a b hu r1 r2 q1 q2
  simp only[Rep]at r1
  subst r1
  obtain⟨t,rfl⟩:=(show ∃t,a=i5 x t from q1)
  cases he with
  | @int _ j=>simp only[Rep]at r2;subst r2;obtain⟨u,rfl⟩:=(show ∃t,b=y8 j t from q2);rw[<-cn nofun];exact Fd x t j u
  | @str _ y=>simp only[Rep]at r2;subst r2;obtain⟨u,rfl⟩:=(show ∃t,b=i5 y t from q2);rw[<-cz (b:=(x==y)) (by rw[beq_iff_eq];exact⟨λz=>by rw[z],λz=>Dv.str.inj z⟩)];exact Ϟ.str_str x t y u
  |non=>simp only[Rep]at r2;subst r2;cases q2;rw[<-cn nofun];exact Ϟ.str_none x t
  | @tup n es _=>simp only[Rep]at r2;obtain⟨l,ws,rfl,hl,_⟩:=r2;cases q2;obtain⟨its,_,p,_⟩:=I.tuple (SqT.of hl);rw[<-cn nofun];exact Ϟ.str_tuple x t p ()
 | @non n=>
  intro e he A v w a b hu r1 r2 q1 q2
  simp only[Rep]at r1
  subst r1
  cases q1
  cases he with
  | @int _ j=>simp only[Rep]at r2;subst r2;obtain⟨u,rfl⟩:=(show ∃t,b=y8 j t from q2);rw[<-cn nofun];exact Ϟ.none_int j u
  | @str _ y=>simp only[Rep]at r2;subst r2;obtain⟨u,rfl⟩:=(show ∃t,b=i5 y t from q2);rw[<-cn nofun];exact Ϟ.none_str y u
  |non=>simp only[Rep]at r2;subst r2;cases q2;rw[<-cz (b:=true) ⟨λ_=>rfl,λ_=>rfl⟩];exact Gd _
  | @tup n es _=>simp only[Rep]at r2;obtain⟨l,ws,rfl,hl,_⟩:=r2;cases q2;obtain⟨its,_,p,_⟩:=I.tuple (SqT.of hl);rw[<-cn nofun];exact Ϟ.none_tuple p ()
 | @tup n ds hds ih=>
  intro e he A v w a b hu r1 r2 q1 q2
  have r1':=r1
  simp only[Rep]at r1
  obtain⟨l,vs,rfl,h1,rs1⟩:=r1
  cases q1
  obtain⟨its,rv1,p1,_⟩:=I.tuple (SqT.of h1)
  cases he with
  | @int _ j=>simp only[Rep]at r2;subst r2;obtain⟨u,rfl⟩:=(show ∃t,b=y8 j t from q2);rw[<-cn nofun];exact Ϟ.tuple_int j u p1 ()
  | @str _ y=>simp only[Rep]at r2;subst r2;obtain⟨u,rfl⟩:=(show ∃t,b=i5 y t from q2);rw[<-cn nofun];exact Ϟ.tuple_str y u p1 ()
  |non=>simp only[Rep]at r2;subst r2;cases q2;rw[<-cn nofun];exact Ϟ.tuple_none p1 ()
  | @tup _ es hes=>
   have r2':=r2
   simp only[Rep]at r2
   obtain⟨b',ws,rfl,h2,rs2⟩:=r2
   cases q2
   obtain⟨its2,rv2,p2,_⟩:=I.tuple (SqT.of h2)
   have hu':A.in1.units+n<cLine:=by show A.units+1+n<cLine;omega
   obtain⟨z1,z2,q⟩:=eZ I (A:=A.in1) (n:=n) (λd hd e he v w a b r1 r2 q1 q2=>ih d hd (hes e he) hu' r1 r2 q1 q2) rs1 rs2 rv1 rv2
   by_cases hlb:l=b'
   ·subst hlb
    rw[<-cz (b:=true) ⟨λ_=>Rep.inj _ _ _ r1' r2',λ_=>rfl⟩]
    exact Gd _
   ·have r:=SeqAt.RcAt.tuples (e:=λj=>bN (ds[j]?=es[j]?)) p1 p2 () q
    rw[z1,z2,ji]at r
    exact Ϟ.of_refs hlb r
end
section
variable{X:Cx}
theorem pM(hu:X.A.units+150<cLine):OpR X (compareOp .NotEq) (λx y H Q=>∃(n:Nat) (ds es:List Dv),Pl n (.tup ds)/\Pl n (.tup es)/\n<=140/\Rep H (.tup ds) x/\Rep H (.tup es) y/\∀b:Bool,(b=true↔ds≠es)->Q (.bl b) H):=by
 intro pins s σ H x y v u Q I rx ry h
 obtain⟨n,ds,es,hd,he,hn,r1,r2,q⟩:=h
 simp only[Rep]at r1 r2
 obtain⟨l,vs,rfl,h1,rs1⟩:=r1
 obtain⟨b',ws,rfl,h2,rs2⟩:=r2
 cases rx
 cases ry
 obtain⟨its,rv1,p1,_⟩:=I.tuple (SqT.of h1)
 obtain⟨its2,rv2,p2,_⟩:=I.tuple (SqT.of h2)
 cases hd with
 | @tup n ds hds=>
 cases he with
 | @tup _ es hes=>
 have hu':X.A.in1.units+n<cLine:=by show X.A.units+1+n<cLine;omega
 obtain⟨z1,z2,w⟩:=eZ I (A:=X.A.in1) (n:=n) (λd hd e he v w a b r1 r2 q1 q2=>iQ I (hds d hd) (hes e he) hu' r1 r2 q1 q2) rs1 rs2 rv1 rv2
 refine SeqAt.RcNeAt.tuples (e:=λj=>bN (ds[j]?=es[j]?)) p1 p2 () w X.prog X.w X.xe _ ?_
 rw[z1,z2,ji]
 refine⟨.bl _,H,I,rfl,q _ ?_⟩
 rw[Bool.not_eq_true',<-Bool.not_eq_true,bn]
 exact⟨λz y=>z (by rw[y]),λz y=>z (Dv.tup.inj y)⟩
end
theorem cK{A:Ω}{k:Nat}(hr:bK k A):A.units+150<cLine:=by have:=hr.un;omega
section
variable{X:Cx}{k:Nat}{f:Addr}{fd:Ο}{ps:List Str}{sp:Sp}{x:Str}{p pos:Pos}{e:Expr}{es:List Expr}{t:TA}
def AI(f:Addr)(i:Nat)(sp:Sp)(t:TA):TE:=λσ H Q=>σ[i]?=some (some (.ref f))/\t σ H λvs H1=>sp (vs++[]) H1 Q E0
theorem pe_callV(i:Nat)(F:aG X.prog X.w X.K X.mg X.base CX0 k f fd ps sp)(hr:bK k X.A)(hk:v_ X.K (.ref f)=true)(hb:cf X.K fd ps [])(ha:PA X (e::es) t)(hN:X.N[i]?=some x:=by rfl)
  (hv:Vis X.env.scope x:=by first|exact Η rfl|exact Fi (Η rfl)|exact Fi (Fi rfl)) (hd:(x==("__debug__" : Str))=false:=by decide) (hcd:(x==("__classdict__" : Str))=false:=by decide)
  (he:starEach (e::es) X.env=(false,eval e X.env)::starEach es X.env:=by rfl) (hpl:(backTo pos (starEach es X.env)).any (·.1)=false:=by rfl):PE X (.Call (.Name x p) (e::es) [] pos) (AI f i sp t):=by
 intro pins s σ H Q I h
 obtain⟨h1,h2⟩:=h
 refine i_ (thn (wJ (X:=X) (pos:=p) hN hv hd hcd pins s σ H (λv H'=>v=.ref f/\H'=H) I ⟨_,h1,rfl,rfl⟩) λu s1 ⟨v,H1,I1,r1,e1,e2⟩=>?_)
 subst e1 e2
 cases r1
 exact Eh (h₀:=X.base) I1.ok.mod.kin hk (thn (ha pos pins s1 σ _ _ I1 h2) λus s2 ⟨vs,H2,I2,r,q⟩=>⟨I2.kIn,wM F hr hb .nil zp I2 r q⟩) he hpl
end
section
variable{prog:Α}{w:Υ}{A:Ω}{E:δ->η->Prop}{s:η}{r l S:Addr}{items:Array δ}
theorem tu:typeLookup (.type "list_reverseiterator") "__len__"=pure none:=by rw[Gk,EA];kernel_rfl
theorem uU:typeLookup (.type "list_reverseiterator") "__length_hint__"=pure (some (.builtin "list_reverseiterator.__length_hint__")):=by rw[Gk,EA];kernel_rfl
theorem wI{Q:Bool->η->Prop}(hT:s.TypeIs (.ref r) "list_reverseiterator")(h:∀b,Q b s):wpAny (model prog w) A (E_ (.ref r)) Q E s:=by
 unfold E_
 refine γ (Gc hT tu ?_)
 show wpAny _ A (specialOf (Ε r) (ξ "__length_hint__")>>=_) _ _ _
 refine γ (Gc hT uU ?_)
 generalize hid:("list_reverseiterator.__length_hint__" : String)=id0
 wp_delta
 rw[show splitId id0=some ("list_reverseiterator","__length_hint__")from by subst hid;decide +kernel]
 subst hid
 refine γ (FX (b:=true) hT (by rw[isSubtype_type];kernel_rfl) ?_)
 exact ν (h _)
theorem qo{R:Ff->η->Prop}(hh:A.handled=none)(hr:s.heap.IsRevIter r l ((items.size:Int)-1))(hl:s.heap.IsList l items)(hlr:l≠r)(hSr:S≠r)(hSl:S≠l)(res:δ)(c₀:Nat)(hS:s.heap.get? S=some {cls:=.type "list",data:=.seq #[] c₀})
  (hR:∀h' tk acc' c',(∀b o,b≠S->b≠r->s.heap.get? b=some o->h'.get? b=some o)->h'.get? S=some {cls:=.type "list",dict:=none,data:=.seq acc' c',slots:=#[]}->ItemsOf (λi v=>items[items.size-1-i]?=some v) acc' items.size->R (.ok (.ret res)) {s with heap:=h',toks:=tk}) (hn:items.size<=sizeLine):
  wpAny (model prog w) A.in1 (i4 (.ref S) (.ref r) res) (λfin s'=>match fin with|.done f=>R (.ok f) s'|.again c'=>c'.quiet=true/\codeAny (model prog w) A c' R s') (λe s'=>R (.error e) s') s:=by
 have W:=Ga.listRev (prog:=prog) (w:=w) (A:=A.in1) hh r l hlr items
 have hSf:S∉[r,l]:=by simp only[μ,g_,or_false,not_or];exact⟨hSr,hSl⟩
 have e0:(items.size:Int)-1-((0:Nat):Int)=(items.size:Int)-1:=by omega
 have key:∀(h:Heap)(c₁ tk:Nat),(∀b o,b≠S->s.heap.get? b=some o->h.get? b=some o)->h.get? S=some {cls:=.type "list",data:=.seq #[] c₁}->codeAny (model prog w) A (.builtin "list.extend.loop" ⟨[.ref S,.ref r,res],[]⟩) R {s with heap:=h,toks:=tk}:=by
  intro h c₁ tk hk hS₁
  refine codeAny_extend_loopS W.toS hn S hSf res items.size 0 _ #[] c₁ rfl (Ξ _) ⟨Ξ _,by rw[e0];exact hr.at λo e=>hk r o (Ϗ hSr) e,hl.at λo e=>hk l o (Ϗ hSl) e⟩ hS₁ (ItemsOf.nil _) λs' acc' c' hm hS' hacc=>?_
  rw[Moved.eq_with hm]
  refine hR s'.heap s'.toks acc' c' (λb o hb hbr e=>hm.heap b o (λz=>?_) (hk b o hb e)) hS' hacc
  rcases μ.mp z with z|z
  ·exact hb z
  ·exact hbr (θ.mp z)
 unfold i4
 refine γ (Dg (T:="list_reverseiterator") hr.typeIs ?_)
 have h1:Ϥ.List.listSameRef (.ref S) (.ref r)=false:=by simp[Ϥ.List.listSameRef,hSr]
 rw[Q6 (by rw[h1];decide)]
 refine γ (wpAny_pyIter_revIter hr ?_)
 refine γ (Ϧ (wI hr.typeIs λb=>?_))
 refine wpAny_ite_split (λ_=>?_) (λ_=>ν ⟨u_ Fv _,key _ c₀ _ (λb o _ e=>e) hS⟩)
 refine γ (u8 (γ ?_));show wpAny _ _ (updateSeq S (·.push .none)>>=λ_=>updateSeq S (·.pop)) _ _ _
 refine γ (A_ hS rfl ?_)
 have hS₂:=Ϡ (n_ (·.push a8)) hS rfl
 refine A_ (hz:=by seq_fits) hS₂ rfl ?_
 have hS₃:=Ϡ (n_ (·.pop)) hS₂ rfl
 exact ν ⟨u_ Fv _,key _ _ _ (λb o hb e=>(Ψ _ _ (Ϗ hb)).trans ((Ψ _ _ (Ϗ hb)).trans e)) hS₃⟩
theorem vn{R:Ff->η->Prop}(hh:A.handled=none)(hr:s.heap.IsRevIter r l ((items.size:Int)-1))(hl:s.heap.IsList l items)(hlr:l≠r)(hSr:S≠r)(hSl:S≠l)(hS:s.heap.get? S=some {cls:=.type "list",data:=.seq #[]})
  (hR:∀h' tk acc' c',(∀b o,b≠S->b≠r->s.heap.get? b=some o->h'.get? b=some o)->h'.get? S=some {cls:=.type "list",dict:=none,data:=.seq acc' c',slots:=#[]}->ItemsOf (λi v=>items[items.size-1-i]?=some v) acc' items.size->R (.ok (.ret .none)) {s with heap:=h',toks:=tk}) (hn:items.size<=sizeLine):
  wpAny (model prog w) A.in1 (Ϥ.«list.__init__» ⟨[.ref S,.ref r],[]⟩) (λfin s'=>match fin with|.done f=>R (.ok f) s'|.again c'=>c'.quiet=true/\codeAny (model prog w) A c' R s') (λe s'=>R (.error e) s') s:=by
 show wpAny _ _ (do let old <-Ϥ.List.listItems (.ref S);Ϥ.List.listUpdate (.ref S) (λ_=>#[]);letGo old.toList.reverse;i4 (.ref S) (.ref r) .none) _ _ s;refine γ ?_
 unfold Ϥ.List.listItems;refine γ (ϸ hS rfl (ν ?_))
 show wpAny _ _ (updateSeq S (λ_=>#[])>>=λ_=>letGo (#[]:Array δ).toList.reverse>>=λ_=>i4 (.ref S) (.ref r) .none) _ _ s;refine γ (A_ hS rfl ?_)
 have hS₂:=Ϡ (n_ (λ_=>(#[]:Array δ))) hS rfl
 have oth:∀b o,b≠S->s.heap.get? b=some o->(s.heap.update S (n_ (λ_=>(#[]:Array δ)))).get? b=some o:=λb o hb e=>(Ψ _ _ (Ϗ hb)).trans e
 refine γ (DP (qo hh (hr.at λo e=>oth r o (Ϗ hSr) e) (hl.at λo e=>oth l o (Ϗ hSl) e) hlr hSr hSl .none _ hS₂ (λh' tk acc' c' hk hS' hacc=>?_) hn))
 exact hR h' tk acc' c' (λb o hb hbr e=>hk b o hb hbr (oth b o hb e)) hS' hacc
theorem wE{Q:δ->η->Prop}(hh:A.handled=none)(hr:s.heap.IsRevIter r l ((items.size:Int)-1))(hl:s.heap.IsList l items)(hlr:l≠r)(hn:items.size<=sizeLine)
  (hQ:∀h' tk acc' c',(∀b o,b≠r->s.heap.get? b=some o->h'.get? b=some o)->h'.get? s.heap.objs.size=some {cls:=.type "list",dict:=none,data:=.seq acc' c',slots:=#[]}->ItemsOf (λi v=>items[items.size-1-i]?=some v) acc' items.size->Q (.ref s.heap.objs.size) {s with heap:=h',toks:=tk}):
  wpAny (model prog w) A (call (.type "list") [.ref r]) Q E s:=by
 refine callType_codes (Q₁:=λobj s₁=>obj=.ref s.heap.objs.size/\s₁={s with heap:=s.heap.push {cls:=.type "list",data:=.seq #[]} }) PySem.F.called_list (PySem.F.typeCall_list_1 _) PySem.F.entry_list_init (code_list_new _ ⟨rfl,rfl⟩) λobj s₁ h₁=>?_
 obtain⟨rfl,rfl⟩:=h₁
 have hS:(s.heap.push {cls:=.type "list",data:=.seq #[]}).get? s.heap.objs.size=some {cls:=.type "list",data:=.seq #[]}:=ψ _ rfl
 have hr':r<s.heap.objs.size:=let ⟨o,ho,_⟩:=hr;ς ho
 have hl':l<s.heap.objs.size:=let ⟨o,ho,_⟩:=hl;ς ho
 refine⟨⟨_,hS,rfl⟩,PySem.F.args_list_init_2 _ _,vn (A:=A.in1) hh (hr.at λo e=>ι _ e) (hl.at λo e=>ι _ e) hlr (m6 hr') (m6 hl') hS (λh' tk acc' c' hk hS' hacc=>?_) hn⟩
 exact⟨rfl,hQ h' tk acc' c' (λb o hb e=>hk b o (Ρ (ς e)) hb (ι _ e)) hS' hacc⟩
end
section
variable{X:Cx}{e:Expr}{te:TE}{p p1 pos pos1:Pos}
def wP(K:ζ)(te:TE):TE:=λσ H Q=>te σ H λx H1=>∃l ys,x=.ref l/\SqL K H1 l ys/\∀a,H1 a=none->Q (.ref a) (upd H1 a (.lst ys.reverse))
theorem pe_listrev(hg:Gl X "list")(hm:X.mg "list"=none)(hg':Gl X "reversed")(hm':X.mg "reversed"=none)(hc:X.calm=true)(he:PE X e te)
  (hs:starEach [e] X.env=[(false,eval e X.env)]:=by rfl) (hs2:starEach [.Call (.Name "reversed" p1) [e] [] pos1] X.env=[(false,eval (.Call (.Name "reversed" p1) [e] [] pos1) X.env)]:=by rfl):
  PE X (.Call (.Name "list" p) [.Call (.Name "reversed" p1) [e] [] pos1] [] pos) (wP X.K te):=by
 intro pins s σ H Q I h
 refine i_ (cF I hg hm (u:=.type "list") () ?_)
 refine Ϻ ?_ hs2 rfl
 rw[hs2]
 show wpAny _ _ (spliced ((false,eval (.Call (.Name "reversed" p1) [e] [] pos1) X.env)::backTo pos [])) _ _ s
 refine C_ (i_ (cF I hg' hm' (u:=.type "reversed") () (Ϻ ?_ hs rfl)))
 rw[hs]
 show wpAny _ _ (spliced ((false,eval e X.env)::backTo pos1 [])) _ _ s
 refine C_ (thn (he pins s σ H _ I h) λu s1 ⟨x,H1,I1,r1,l,ys,ex,hq,q⟩=>Du ?_)
 subst ex
 cases r1
 obtain⟨its,rv,pl,hz⟩:=I1.list hq
 have li:its.length=ys.length:=rv.length.symm
 have hl':l<s1.heap.objs.size:=let ⟨o,ho,_⟩:=pl.isList;ς ho
 refine call_reversed_list pl.isList (Du ?_)
 refine wE (A:=X.A) (s:={s1 with heap:=s1.heap.push (revObj l ((its.toArray.size:Int)-1))}) (I1.ok.hd hc) ⟨_,ψ _ rfl,rfl,rfl⟩ (pl.isList.at λo e=>ι _ e) (Ρ hl') (by simp;omega) λh' tk acc c k hS it=>?_
 have k1:∀b o,s1.heap.get? b=some o->h'.get? b=some o:=λb o e=>k b o (Ρ (ς e)) (ι _ e)
 have rv':ar ys.reverse acc.toList:=by
  refine iX (by have h1:=it.1;have h2:acc.toList.length=acc.size:=Ϩ;rw[Ϯ,h2,h1];simpa using li.symm) λi x u h1 h2=>?_
  have hi:i<ys.length:=by have:=(ο.mp h1).1;rwa[Ϯ]at this
  rw[Ds hi]at h1
  have h3:=it.2 i u (by rw[<-Array.getElem?_toList];exact h2)
  have h4:its[ys.length-1-i]?=some u:=by simpa[li]using h3
  obtain⟨u',hu',ru⟩:=rv.get h1
  rw[h4]at hu'
  cases hu'
  exact ru
 have hz2:(s1.heap.push (revObj l ((its.toArray.size:Int)-1))).objs.size=s1.heap.objs.size+1:=ϩ ..
 refine⟨.ref (s1.heap.push (revObj l ((its.toArray.size:Int)-1))).objs.size,_,I1.laid (t':=tk) (a:=(s1.heap.push (revObj l ((its.toArray.size:Int)-1))).objs.size) k1 (by rw[hz2];exact y6 _) (show aM X.prog X.w _ h' _ (.lst ys.reverse)from⟨by rw[Ϯ];exact hz,acc.toList,c,rv',by simpa using hS⟩),rfl,q _ (I1.hok.fresh (by rw[hz2];exact y6 _))⟩
end
theorem cp{h:Heap}{a b:Addr}{o u:Obj}(h1:h.get? a=some o)(h2:h.get? b=some u)(n:o.cls≠u.cls):a≠b:=λz=>by subst z;rw[h1]at h2;cases h2;exact n rfl
section
variable{X:Cx}
end
theorem wj{xs:List V}{us:List δ}(h:ar xs us):ar xs.reverse us.reverse:=by
 have hl:=h.length
 refine iX (by rw[Ϯ,Ϯ,hl]) λi x u h1 h2=>?_
 have hi:i<xs.length:=by have:=(ο.mp h1).1;rwa[Ϯ]at this
 rw[Ds hi]at h1
 rw[Ds (),<-hl]at h2
 obtain⟨u',hu',ru⟩:=h.get h1
 rw[h2]at hu'
 cases hu'
 exact ru
section
variable{X:Cx}{pins:List (Addr×Obj)}{s:η}{σ:St}{H:Hp}
theorem lP{A:Ω}{E:δ->η->Prop}{d:Addr}{m:List (Str×V)}{R:List δ->η->Prop}(hh:A.handled=none)(I:Inv X pins σ H s)(hd:H d=some (.dK (m.map λp=>((Μ p.1:Key),p.2))))
  (h:∀h' tk vs,ar ((m.map (·.1)).map V.str) vs->(m.map (·.1)).Nodup->m.length<=sizeLine->Inv X pins σ H {s with heap:=h',toks:=tk}->R vs {s with heap:=h',toks:=tk}):wpAny (model X.prog X.w) A (collect (.ref d)) R E s:=by
 obtain⟨z,hdm,vs,rel,dd⟩:=oZ I.hok hd
 obtain⟨ep,da⟩:=dd.dictAt
 have ndk:(vs.map (·.1)).Nodup:=by obtain⟨_,_,_,_,_,_,_,nd⟩:=da;exact nd
 have hvl:=rel.length
 rw[ε]at hvl z
 have ek:vs.map (·.1)=m.map λp=>(Μ p.1:Key):=by
  refine B4 λi=>?_
  rw[Ν,Ν]
  cases hv:vs[i]? with
  |none=>rw[a7 (by rw[hvl];exact List.getElem?_eq_none_iff.mp hv)];rfl
  |some kv=>
   obtain⟨y',hy,_⟩:=rel.at hv
   rw[Ν]at hy
   cases hm:m[i]? with
   |none=>rw[hm]at hy;cases hy
   |some p=>rw[hm]at hy;exact congrArg some (Prod.mk.inj (ϑ hy)).1.symm
 have ndm:(m.map (·.1)).Nodup:=by
  rw[ek]at ndk
  have e:(m.map λp=>(Μ p.1:Key))=(m.map (·.1)).map Μ:=by rw[ύ];rfl
  rw[e]at ndk
  exact Eb.of_map Μ (λa b h e=>h (congrArg Μ e)) ndk
 refine kdu_collect (kdl_dict (knd:=aN X.prog X.w) (kvs:=vs) (ep:=ep) hdm) hh da (by rw[<-hvl];exact z) λh' tk acc k it=>?_
 refine h h' tk acc.toList ?_ ndm z (I.call (ch:=[]) (Un.kept k) (I.hok.kept k) I.bare λb hb=>nomatch hb)
 refine iX (by rw[ε,ε,hvl];simpa using it.1.symm) λi x u h1 h2=>?_
 obtain⟨key,y,e1,e2⟩:=it.2 i u (by simpa using h2)
 obtain⟨y',hy,_⟩:=rel.at e1
 rw[Ν]at hy
 rw[ύ,Ν]at h1
 cases hm:m[i]? with
 |none=>rw[hm]at hy;cases hy
 |some p=>
  rw[hm]at hy h1
  have hk:(Μ p.1:Key)=key:=(Prod.mk.inj (ϑ hy)).1
  subst hk
  obtain rfl:V.str p.1=x:=ϑ h1
  exact zN e2
end
section
variable{X:Cx}
theorem nc(hc:X.calm=true):bz X (.builtin "sorted") (λxs H Q=>∃(d:Addr) (m:List (Str×V)),xs=[.ref d]/\H d=some (.dK (m.map λp=>((Μ p.1:Key),p.2)))/\m.length<64 /\
  ∀(l:Addr)(qs:List Str),H l=none->qs.Perm (m.map (·.1))->qs.Pairwise qu->Q (.ref l) (upd H l (.lst (qs.map V.str)))):=by
 intro pins s σ H xs us Q I r h
 obtain⟨d,m,rfl,hd,h64,q⟩:=h
 obtain⟨u,rfl,ru⟩:=cj r
 cases ru
 refine DX kind_sorted plain_sorted entry_sorted (args_sorted1 _) ?_
 unfold Ϥ.«sorted»;refine γ (m:=checkCount "sorted" 1 1 _) (ν (γ (lP (A:=X.A.in1) (I.ok.hd hc) I hd λh' tk vs rv nd zl I1=>?_)))
 have lv:vs.length=m.length:=by have:=rv.length;rw[ε,ε]at this;exact this.symm
 refine γ (EM ?_ (by rw[lv];exact zl))
 have I2:=I1.lnew (t':=tk) rv (by rw[ε,ε];exact zl)
 refine γ (Ϧ (kQ (A:=X.A.in1) (l:=h'.objs.size) (ps:=m.map (·.1)) I2 aa nd (by rw[ε];exact h64) λqs h2 pq pw I3=>?_))
 rw[iS]at I3
 exact ν ⟨_,rfl,.ref h'.objs.size,_,I3,rfl,q _ qs I1.fresh pq pw⟩
end
section
end
section
variable{prog:Α}{w:Υ}{A:Ω}{E:δ->η->Prop}{s:η}
end
section
variable{X:Cx}{tg e:Expr}{ta:TA}{p pos:Pos}
end
section
variable{X:Cx}
end
open PySem PySem.Spec PyProof.Rows
section
variable{σ:St}{H:Hp}{d e:Dv}{ds es:List Dv}{ta tb:TE}{t:TA}{l:Addr}
variable{i:Nat}{u:TS}{D:bI}
end
open PySem PySem.Spec PyProof.Rows PySem.W
section
variable{X:Cx}
end
section
variable{prog:Α}{w:Υ}{A:Ω}{E:δ->η->Prop}{s:η}
theorem qV{t sl:Addr}{items:Array δ}{lo st:Int}{n:Nat}{Q:δ->η->Prop}(ht:GH s.heap t items)(hTs:s.TypeIs (.ref sl) "slice")
  (hap:∀{A':Ω}{E':δ->η->Prop}{Q':Int×Int×Nat->η->Prop},Q' (lo,st,n) s->wpAny (model prog w) A' (DJ (.ref sl) (pure (items.size:Int))) Q' E' s)
  (hw:(lo==0&&st==1&&n==items.size)=true->Q (.ref t) s)
  (hn:Q (.ref s.heap.objs.size) {s with heap:=s.heap.push {cls:=.type "tuple",data:=.seq ((ϋ n).filterMap λ(k:Nat)=>items[(lo+(k:Int)*st).toNat]?).toArray} })
  (hsz:((ϋ n).filterMap λ(k:Nat)=>items[(lo+(k:Int)*st).toNat]?).toArray.size<=sizeLine):wpAny (model prog w) A (getItem (.ref t) (.ref sl)) Q E s:=by
 unfold getItem;try with_reducible refine Ϧ ?_
 (first|refine γ (ν ?_)|skip);refine γ (wpAny_sequenceKey ht.typeIs () ?_)
 refine γ (i6 (name:=ξ "__getitem__") ht.typeIs ϻ (ϫ ϻ ht.typeIs entry_tuple_getitem ?_ (args_tuple_getitem _ _)))
 show wpAny _ _ (Fg (.ref t)>>=_) _ _ s;refine γ (tupleItemsOf_ ht ?_)
 refine γ (Dg hTs ?_);rw[Q0 ()]
 refine γ (hap ?_)
 show wpAny _ _ (if (lo==0&&st==1&&n==items.size)=true then _ else _) _ _ s
 by_cases c:(lo==0&&st==1&&n==items.size)=true
 ·rw[Q0 c]
  refine γ (m:=Fl (.ref t)) ?_
  unfold Fl
  refine γ (Dg ht.typeIs (ν ?_))
  show wpAny _ _ (if (x5 "tuple" == x5 "tuple")=true then _ else _) _ _ s
  rw[Q0 ()]
  exact γ (u8 (γ (ν (ν ⟨_,rfl,ν (hw c)⟩))))
 ·rw[Q6 c]
  first
   |exact γ (m:=ϡ _) (ϝ (ν ⟨_,rfl,ν hn⟩) hsz)
   |exact γ (m:=ϡ _) (ϝ (γ (ν (ν ⟨_,rfl,ν hn⟩))) hsz)
   |exact γ (γ (m:=ϡ _) (ϝ (ν (ν ⟨_,rfl,ν hn⟩)) hsz))
   |exact γ (γ (m:=ϡ _) (ϝ (ν ⟨_,rfl,ν hn⟩) hsz))
theorem vz(xs:Array δ):((ϋ xs.size).filterMap λ(k:Nat)=>xs[((xs.size:Int)-1+(k:Int)*(-1)).toNat]?)=xs.toList.reverse:=by
 have e:((ϋ xs.size).filterMap λ(k:Nat)=>xs[((xs.size:Int)-1+(k:Int)*(-1)).toNat]?)=(ϋ xs.size).filterMap λk=>some (xs.getD (xs.size-1-k) .none):=by
  have cg:∀(l:List Nat)(f g:Nat->Option δ),(∀k∈l,f k=g k)->l.filterMap f=l.filterMap g:=λl f g h=>by
   induction l with
   |nil=>rfl
   |cons x l ih=>rw[t7,t7,h x Δ,ih λk hk=>h k (υ _ hk)]
  refine cg _ _ _ λk hk=>?_
  rw[Ϭ]at hk
  have e1:((xs.size:Int)-1+(k:Int)*(-1)).toNat=xs.size-1-k:=by omega
  rw[e1]
  have h:xs.size-1-k<xs.size:=by omega
  simp[GB,h]
 rw[e,List.filterMap_eq_map']
 refine B4 λi=>?_
 by_cases hi:i<xs.size
 ·rw[Ν,E5 hi,Ds (by simpa using hi)]
  have h:xs.size-1-i<xs.size:=by omega
  simp[GB,h]
 ·rw[a7 (by simpa using hi),a7 (by simpa using hi)]
end
section
variable{X:Cx}
def vV(K:ζ):V->Option Int->Option Int->Hp->VK->Prop:=λx lo hi H Q=>∃a xs,x=.ref a/\SqT K H a xs/\(aH xs lo hi=xs->Q (.ref a) H)/\∀p,H p=none->Q (.ref p) (upd H p (.tup (aH xs lo hi)))
theorem iM:SlR X (vV X.K):=by
 intro pins s σ H x v vl vu lo hi sl Q I rx hs pl pu h
 obtain⟨a,xs,rfl,hx,hw,q⟩:=h
 cases rx
 by_cases c:HT.sIx xs.length 0 lo=0/\HT.sIx xs.length xs.length hi=xs.length
 ·obtain⟨its,r,ht,hz⟩:=I.tuple hx
  have hlen:its.toArray.size=xs.length:=by rw[π];exact r.length.symm
  have ec:aH xs lo hi=xs:=by unfold aH;rw[c.1,c.2];simp
  obtain⟨os,hos,hcs,hds⟩:=id hs
  refine⟨"tuple",_,ϻ.lookup,ht.typeIs,qV (lo:=((HT.sIx its.toArray.size 0 lo:Nat):Int)) (st:=1) (n:=HT.sIx its.toArray.size its.toArray.size hi-HT.sIx its.toArray.size 0 lo) ht ⟨os,hos,hcs⟩ (λq'=>HT.sliceApplied_gen hs pl pu q') (λ_=>⟨.ref a,H,I,rfl,hw ec⟩) ?_ ?_⟩
  ·rw[HT.pick_gen,hlen]
   refine⟨.ref s.heap.objs.size,_,I.laid (t':=s.toks) (o:=.tup (aH xs lo hi)) (λb ob q=>ι _ q) (ρ _) ?_,rfl,q _ (I.hok.fresh (ρ _))⟩
   exact⟨Ϙ (dU xs lo hi) hz,_,(r.drop (HT.sIx xs.length 0 lo)).take (HT.sIx xs.length xs.length hi-HT.sIx xs.length 0 lo),FR _ _,NoD.new _ rfl⟩
  ·rw[HT.pick_gen,π,Φ,ϳ]
   have:its.toArray.toList.length=xs.length:=by simpa using hlen
   omega
 ·exact AK pins s σ H (.ref a) (.ref a) vl vu lo hi sl Q I rfl hs pl pu ⟨a,xs,rfl,hx,c,q⟩
end
section
variable{prog:Α}{w:Υ}{A:Ω}{E:δ->η->Prop}{s:η}
end
section
variable{X:Cx}
end
def look(kvs:List (Str×Addr))(k:Str):Option Addr:=(kvs.find? λp=>decide (p.1=k)).map (·.2)
structure FD(P:Α)(w:Υ)(K:ζ)(a:Addr)(kvs:List (Str×Addr)):Prop where
 nd:(kvs.map (·.1)).Nodup
 lo:(a==sysModules)=false
 ex:∃o es ep,K.lookup a=some o/\o.ExactDict/\o.data=.dict es ep/\KeysOf (aN P w) es/\Pairs (aN P w) es.toList (kvs.map λp=>((Μ p.1:Key),Ε p.2))
theorem oE(kvs:List (Str×Addr))(k:Str):valueAt (kvs.map λp=>((Μ p.1:Key),Ε p.2)) (Μ k)=(look kvs k).map Ε:=by
 unfold valueAt look
 induction kvs with
 |nil=>rfl
 |cons p kvs ih=>
  rw[ό,j_,j_]
  by_cases h:p.1=k
  ·rw[Q9 h,show decide ((Μ p.1:Key)=Μ k)=true from Q9 (by rw[h])]
   rfl
  ·rw[Q8 h,show decide ((Μ p.1:Key)=Μ k)=false from Q8 (λz=>h (by injection z))]
   exact ih
section
variable{X:Cx}{pins:List (Addr×Obj)}{s:η}{σ:St}{H:Hp}{a:Addr}{kvs:List (Str×Addr)}
theorem FD.of(f:FD X.prog X.w X.K a kvs)(I:Inv X pins σ H s):s.heap.DictOf (aN X.prog X.w) a (kvs.map λp=>((Μ p.1:Key),Ε p.2)):=by
 obtain⟨o,es,ep,hk,h1,h2,h3,h4⟩:=f.ex
 refine⟨o,es,ep,I.kIn a o hk,h1,h2,h3,h4,?_⟩
 have e:(kvs.map λp=>((Μ p.1:Key),Ε p.2)).map (·.1)=(kvs.map (·.1)).map Μ:=by rw[ύ,ύ];rfl
 rw[e]
 exact Eb.map Μ (λa b h z=>h (by injection z)) f.nd
def Cv(a:Addr)(kvs:List (Str×Addr))(neg:Bool):R2:=λx y H Q=>∃k,x=.str k/\y=.ref a/\Q (.bl (xor neg (look kvs k).isSome)) H
theorem kx(f:FD X.prog X.w X.K a kvs):OpR X (compareOp .NotIn) (Cv a kvs true):=by
 intro pins s σ H x y v u Q I rx ry h
 obtain⟨k,rfl,rfl,q⟩:=h
 cases ry
 refine wpAny_notIn_of (gt (k:=Μ k) rx) f.lo (f.of I).mapOf ?_
 rw[oE,Dw]
 exact⟨.bl (!(look kvs k).isSome),H,I.tok _,rfl,by simpa using q⟩
def Bp(a:Addr)(kvs:List (Str×Addr))(td ty:TE):TE:=λσ H Q=>td σ H λx H1=>ty σ H1 λy H2=>∃k b,x=.ref a/\y=.str k/\look kvs k=some b/\Q (.ref b) H2
theorem pe_getF{o i:Expr}{td ty:TE}{pos:Pos}(f:FD X.prog X.w X.K a kvs)(ho:PE X o td)(hi:PE X i ty)(hs:AB i):PE X (.Subscript o i pos) (Bp a kvs td ty):=by
 intro pins s σ H Q I h
 refine rB Fu.lookup hs (thn (ho pins s σ H _ I h) λu s1 ⟨x,H1,I1,rx,q1⟩=>thn (hi pins s1 σ H1 _ I1 q1) λiv s2 ⟨y,H2,I2,ry,k,b,ex,ey,hl,q2⟩=>?_)
 subst ex ey
 obtain rfl:u=Ε a:=rx
 refine⟨(f.of I2).typeIs,wpAny_getItem_of (v:=.ref b) (gt (k:=Μ k) ry) (f.of I2).mapOf (by rw[oE,hl];rfl) ⟨.ref b,H2,I2.tok _,rfl,q2⟩⟩
end
abbrev mM(h:Heap)(l1:Addr):Heap:=h.push {cls:=.type "tuple_iterator",data:=.fields #[.ref l1,.int 0 0]}
abbrev lS(h:Heap)(l1 l2:Addr):Heap:=(mM h l1).push {cls:=.type "tuple_iterator",data:=.fields #[.ref l2,.int 0 0]}
abbrev nh(h:Heap)(l1 l2:Addr):Heap:=(lS h l1 l2).push {cls:=.type "tuple",data:=.seq #[.ref h.objs.size,.ref (mM h l1).objs.size]}
abbrev mf(h:Heap)(l1 l2:Addr):Heap:=(nh h l1 l2).push {cls:=.type "tuple",data:=.seq #[.none,.none]}
abbrev gF(h:Heap)(l1 l2:Addr):Heap:=(mf h l1 l2).push {cls:=.type "zip",data:=.fields #[.none,.bool false,.bool false,.ref (lS h l1 l2).objs.size,.ref (nh h l1 l2).objs.size]}
section
variable{prog:Α}{w:Υ}{A:Ω}{E:δ->η->Prop}{s:η}
theorem pI{z TI TO i1 i2 l1 l2:Addr}{k1 k2:Nat}{xs ys:Array δ}{x y a b:δ}{Q:δ->η->Prop}(D:Gr z TI TO i1 i2 l1 l2)(hz:Fm s.heap z TI TO .none)(hTI:B7 s.heap TI (.ref i1) (.ref i2))(hTO:B7 s.heap TO a b)
  (h1:s.heap.IsTupleIter i1 l1 k1) (h2:s.heap.IsTupleIter i2 l2 k2) (hl1:s.heap.IsTuple l1 xs) (hl2:s.heap.IsTuple l2 ys) (hx:xs[k1]?=some x) (hy:ys[k2]?=some y)
  (hQ:∀h',Fm h' z TI TO (rawInt s.heap.objs.size)->B7 h' TO x y->h'.IsTupleIter i1 l1 (k1+1)->h'.IsTupleIter i2 l2 (k2+1)->B7 h' s.heap.objs.size x y->(∀c o,c≠z->c≠TO->c≠i1->c≠i2->s.heap.get? c=some o->h'.get? c=some o)->Q (.ref s.heap.objs.size) {s with heap:=h'}):
  wpAny (model prog w) A (Ϥ.«zip.__next__» ⟨[.ref z],[]⟩) (λfin s'=>∃v,fin=.done (.ret v)/\Q v s') E s:=by
 show wpAny _ _ (field (.ref z) 2>>=_) _ _ _;refine γ (ϭ hz rfl (x:=.bool false) rfl ?_)
 show wpAny _ _ (field (.ref z) 3>>=_) _ _ _;refine γ (ϭ hz rfl (x:=.ref TI) rfl ?_);refine γ (ϸ hTI rfl ?_)
 show wpAny _ _ (m5 (.ref z)>>=_) _ _ _;refine γ ?_;unfold m5
 refine γ (ϭ hz rfl (x:=.none) rfl (ν ?_));simp only[if_true];refine γ (u8 ?_)
 refine γ (ϭ hz rfl (x:=.ref TO) rfl ?_);refine γ (A5 hz () λg1 z1 c1=>?_)
 replace z1:Fm g1 z TI TO .ellipsis:=z1
 refine γ ?_;simp only[List.zipIdx_cons,List.zipIdx_nil,Gg,List.forIn_nil];refine γ (γ (EN ?_))
 show wpAny _ _ (ϱ (.ref i1)>>=_) _ _ _;refine γ (ck (h1.extBut c1.extBut D.i1z) (hl1.extBut c1.extBut D.l1z) hx λg2 it2 c2=>ν ?_)
 have t2:B7 g2 TO a b:=c2.extBut _ _ D.TOi1 (c1.extBut _ _ D.TOz hTO)
 refine γ (ϸ t2 rfl ?_);refine γ (ES t2 λg3 t3 c3=>?_)
 replace t3:B7 g3 TO x b:=t3
 refine γ (DP (ν ?_));refine γ (γ (EN ?_))
 show wpAny _ _ (ϱ (.ref i2)>>=_) _ _ _;refine γ (ck (((h2.extBut c1.extBut D.i2z).extBut c2.extBut D.i12.symm).extBut c3.extBut D.TOi2.symm) (((hl2.extBut c1.extBut D.l2z).extBut c2.extBut D.l2i1).extBut c3.extBut D.l2TO) hy λg4 it4 c4=>ν ?_)
 have t4:B7 g4 TO x b:=c4.extBut _ _ D.TOi2 t3
 refine γ (ϸ t4 rfl ?_);refine γ (ES t4 λg5 t5 c5=>?_)
 replace t5:B7 g5 TO x y:=t5
 refine γ (DP (ν (ν ?_)));refine γ (ϸ t5 rfl ?_);refine γ (wpAny_newTuple ?_)
 have sz:g5.objs.size=s.heap.objs.size:=by rw[c5.1,c4.1,c3.1,c2.1,c1.1]
 have z5:Fm g5 z TI TO .ellipsis:=c5.extBut _ _ D.TOz.symm (c4.extBut _ _ D.i2z.symm (c3.extBut _ _ D.TOz.symm (c2.extBut _ _ D.i1z.symm z1)))
 have k5:∀c o,c≠z->c≠TO->c≠i1->c≠i2->s.heap.get? c=some o->g5.get? c=some o:=λc o d1 d2 d3 d4 e=>c5.extBut _ _ d2 (c4.extBut _ _ d4 (c3.extBut _ _ d2 (c2.extBut _ _ d3 (c1.extBut _ _ d1 e))))
 have j1:g5.IsTupleIter i1 l1 (k1+1):=((it2.extBut c3.extBut D.TOi1.symm).extBut c4.extBut D.i12).extBut c5.extBut D.TOi1.symm
 have j2:g5.IsTupleIter i2 l2 (k2+1):=it4.extBut c5.extBut D.TOi2.symm
 have zlt:z<g5.objs.size:=ς z5
 show wpAny _ _ (DY (.ref z) (.ref g5.objs.size)>>=_) _ _ _;refine γ ?_;unfold DY
 have z6:Fm (g5.push {cls:=.type "tuple",data:=.seq #[x,y]}) z TI TO .ellipsis:=ι _ z5
 refine γ (A5 z6 () λg7 z7 c7=>?_)
 replace z7:Fm g7 z TI TO (rawInt g5.objs.size):=z7
 refine A5 z7 () λg8 z8 c8=>?_
 replace z8:Fm g8 z TI TO (rawInt g5.objs.size):=z8
 have up:∀c o,c≠z->g5.get? c=some o->g8.get? c=some o:=λc o d1 e=>c8.extBut _ _ d1 (c7.extBut _ _ d1 (ι _ e))
 have p8:B7 g8 g5.objs.size x y:=c8.extBut _ _ (m6 zlt) (c7.extBut _ _ (m6 zlt) (ψ _ rfl))
 rw[sz]at z8 p8
 refine ν ⟨_,rfl,?_⟩
 show Q (.ref g5.objs.size) _;rw[sz]
 exact hQ g8 z8 (up _ _ D.TOz t5) (j1.at λo e=>up _ o D.i1z e) (j2.at λo e=>up _ o D.i2z e) p8 λc o d1 d2 d3 d4 e=>up c o d1 (k5 c o d1 d2 d3 d4 e)
theorem tz{z TI TO i1 i2 l1 l2:Addr}{k1 k2:Nat}{xs ys:Array δ}{a b:δ}{Q:Fin->η->Prop}(hh:A.handled=none)(D:Gr z TI TO i1 i2 l1 l2)(hz:Fm s.heap z TI TO .none)(hTI:B7 s.heap TI (.ref i1) (.ref i2))(hTO:B7 s.heap TO a b)
  (h1:s.heap.IsTupleIter i1 l1 k1) (h2:s.heap.IsTupleIter i2 l2 k2) (hl1:s.heap.IsTuple l1 xs) (hl2:s.heap.IsTuple l2 ys) (hend:xs[k1]?=none\/ys[k2]?=none)
  (hE:∀h' e,(∀c o,c≠z->c≠TO->c≠i1->c≠i2->s.heap.get? c=some o->h'.get? c=some o)->(∃o,h'.get? e=some o/\o.cls=.type "StopIteration")->E (.ref e) {s with heap:=h'}):wpAny (model prog w) A (Ϥ.«zip.__next__» ⟨[.ref z],[]⟩) Q E s:=by
 show wpAny _ _ (field (.ref z) 2>>=_) _ _ _;refine γ (ϭ hz rfl (x:=.bool false) rfl ?_)
 show wpAny _ _ (field (.ref z) 3>>=_) _ _ _;refine γ (ϭ hz rfl (x:=.ref TI) rfl ?_);refine γ (ϸ hTI rfl ?_)
 show wpAny _ _ (m5 (.ref z)>>=_) _ _ _;refine γ ?_;unfold m5
 refine γ (ϭ hz rfl (x:=.none) rfl (ν ?_));simp only[if_true];refine γ (u8 ?_)
 refine γ (ϭ hz rfl (x:=.ref TO) rfl ?_);refine γ (A5 hz () λg1 z1 c1=>?_)
 replace z1:Fm g1 z TI TO .ellipsis:=z1
 refine γ ?_;simp only[List.zipIdx_cons,List.zipIdx_nil,Gg,List.forIn_nil];refine γ (γ (EN ?_))
 show wpAny _ _ (ϱ (.ref i1)>>=_) _ _ _
 cases hx:xs[k1]? with
 |none=>
  refine γ (en hh (h1.extBut c1.extBut D.i1z) (hl1.extBut c1.extBut D.l1z) hx λg2 e c2 ⟨oe,hoe,hce⟩=>?_)
  have z2:Fm g2 z TI TO .ellipsis:=c2 _ _ D.i1z.symm z1
  have ez:e≠z:=λq=>by subst q;rw[z2]at hoe;cases hoe;simp at hce
  exact A5 z2 () λg3 _ c3=>hE g3 e (λc o d1 _ d3 _ q=>c3.extBut _ _ d1 (c2 _ _ d3 (c1.extBut _ _ d1 q))) ⟨oe,c3.extBut _ _ ez hoe,hce⟩
 |some x=>
  have hy:ys[k2]?=none:=hend.resolve_left (by rw[hx];exact nofun)
  refine γ (ck (h1.extBut c1.extBut D.i1z) (hl1.extBut c1.extBut D.l1z) hx λg2 it2 c2=>ν ?_)
  have t2:B7 g2 TO a b:=c2.extBut _ _ D.TOi1 (c1.extBut _ _ D.TOz hTO)
  refine γ (ϸ t2 rfl ?_);refine γ (ES t2 λg3 t3 c3=>?_)
  refine γ (DP (ν ?_));refine γ (γ (EN ?_))
  show wpAny _ _ (ϱ (.ref i2)>>=_) _ _ _;refine γ (en hh (((h2.extBut c1.extBut D.i2z).extBut c2.extBut D.i12.symm).extBut c3.extBut D.TOi2.symm) (((hl2.extBut c1.extBut D.l2z).extBut c2.extBut D.l2i1).extBut c3.extBut D.l2TO) hy λg4 e c4 ⟨oe,hoe,hce⟩=>?_)
  have z4:Fm g4 z TI TO .ellipsis:=c4 _ _ D.i2z.symm (c3.extBut _ _ D.TOz.symm (c2.extBut _ _ D.i1z.symm z1))
  have ez:e≠z:=λq=>by subst q;rw[z4]at hoe;cases hoe;simp at hce
  exact A5 z4 () λg5 _ c5=>hE g5 e (λc o d1 d2 d3 d4 q=>c5.extBut _ _ d1 (c4 _ _ d4 (c3.extBut _ _ d2 (c2.extBut _ _ d3 (c1.extBut _ _ d1 q))))) ⟨oe,c5.extBut _ _ ez hoe,hce⟩
theorem nE{z TI TO i1 i2 l1 l2:Addr}{k1 k2:Nat}{xs ys:Array δ}{x y a b:δ}{Q:Option δ->η->Prop}(D:Gr z TI TO i1 i2 l1 l2)(hz:Fm s.heap z TI TO .none)(hTI:B7 s.heap TI (.ref i1) (.ref i2))(hTO:B7 s.heap TO a b)
  (h1:s.heap.IsTupleIter i1 l1 k1) (h2:s.heap.IsTupleIter i2 l2 k2) (hl1:s.heap.IsTuple l1 xs) (hl2:s.heap.IsTuple l2 ys) (hx:xs[k1]?=some x) (hy:ys[k2]?=some y)
  (hQ:∀h',Fm h' z TI TO (rawInt s.heap.objs.size)->B7 h' TO x y->h'.IsTupleIter i1 l1 (k1+1)->h'.IsTupleIter i2 l2 (k2+1)->B7 h' s.heap.objs.size x y->(∀c o,c≠z->c≠TO->c≠i1->c≠i2->s.heap.get? c=some o->h'.get? c=some o)->Q (some (.ref s.heap.objs.size)) {s with heap:=h'}):
  wpAny (model prog w) A (pyNext (.ref z)) Q E s:=by
 have hT:s.TypeIs (.ref z) "zip":=⟨_,hz,rfl⟩;unfold pyNext
 exact γ (wpAny_attempt (i6 (name:=ξ "__next__") hT E2 (ϫ E2 hT F.entry_zip_next (pI D hz hTI hTO h1 h2 hl1 hl2 hx hy λh' a1 a2 a3 a4 a5 a6=>ν (hQ h' a1 a2 a3 a4 a5 a6)) (F.args_zip_next_1 _))))
theorem qz{z TI TO i1 i2 l1 l2:Addr}{k1 k2:Nat}{xs ys:Array δ}{a b:δ}{Q:Option δ->η->Prop}(hh:A.handled=none)(D:Gr z TI TO i1 i2 l1 l2)(hz:Fm s.heap z TI TO .none)(hTI:B7 s.heap TI (.ref i1) (.ref i2))(hTO:B7 s.heap TO a b)
  (h1:s.heap.IsTupleIter i1 l1 k1) (h2:s.heap.IsTupleIter i2 l2 k2) (hl1:s.heap.IsTuple l1 xs) (hl2:s.heap.IsTuple l2 ys) (hend:xs[k1]?=none\/ys[k2]?=none)
  (hQ:∀h',(∀c o,c≠z->c≠TO->c≠i1->c≠i2->s.heap.get? c=some o->h'.get? c=some o)->Q none {s with heap:=h'}):wpAny (model prog w) A (pyNext (.ref z)) Q E s:=by
 have hT:s.TypeIs (.ref z) "zip":=⟨_,hz,rfl⟩;unfold pyNext
 refine γ (wpAny_attempt (i6 (name:=ξ "__next__") hT E2 (ϫ E2 hT F.entry_zip_next (tz hh D hz hTI hTO h1 h2 hl1 hl2 hend λh' e hk ⟨o,ho,hc⟩=>?_) (F.args_zip_next_1 _))))
 exact γ (FX (T:="StopIteration") (b:=true) ⟨o,ho,hc⟩ isSubtype_stop (ν (hQ _ hk)))
theorem pd(l1 l2:Addr)(xs ys:Array δ)(n n':Nat)(dct dct':Option Addr)(slt slt':Array (Option δ)):
  Meets (Ϥ.«zip.__new__» ⟨[.type "zip",.ref l1,.ref l2],[]⟩) (λ_ R s=>s.heap.get? l1=some {cls:=.type "tuple",dict:=dct',data:=.seq xs n',slots:=slt'}/\s.heap.get? l2=some {cls:=.type "tuple",dict:=dct,data:=.seq ys n,slots:=slt} /\
   R (.ok (.ret (.ref (mf s.heap l1 l2).objs.size))) {s with heap:=gF s.heap l1 l2}):=
 .of_wp λprog w A R s h=>by
  obtain⟨hp,g,d,tk,os⟩:=s;obtain⟨hl1,hl2,h⟩:=h
  have hsub:=sub_zip
  have hL1:Heap.IsTuple (η.heap ⟨hp,g,d,tk,os⟩) l1 xs:=⟨_,hl1,rfl,n',rfl⟩
  have hl2':(hp.push {cls:=.type "tuple_iterator",data:=.fields #[.ref l1,.int 0 0]}).get? l2=some {cls:=.type "tuple",dict:=dct,data:=.seq ys n,slots:=slt}:=ι _ hl2
  have hL2:Heap.IsTuple (η.heap ⟨hp.push {cls:=.type "tuple_iterator",data:=.fields #[.ref l1,.int 0 0]},g,d,tk,os⟩) l2 ys:=⟨_,hl2',rfl,n,rfl⟩
  wp_walk using C9 hL1,C9 hL2,Ϲ hl1,Ϲ hl2'
  exact⟨_,rfl,h⟩
theorem qk{l1 l2:Addr}{xs ys:Array δ}{Q:δ->η->Prop}(hl1:s.heap.IsTuple l1 xs)(hl2:s.heap.IsTuple l2 ys)
  (h:∀h',Fm h' (s.heap.objs.size+4) (s.heap.objs.size+2) (s.heap.objs.size+3) .none->B7 h' (s.heap.objs.size+2) (.ref s.heap.objs.size) (.ref (s.heap.objs.size+1))->B7 h' (s.heap.objs.size+3) .none .none->h'.IsTupleIter s.heap.objs.size l1 0->h'.IsTupleIter (s.heap.objs.size+1) l2 0 ->
   (∀c o,s.heap.get? c=some o->h'.get? c=some o)->Q (.ref (s.heap.objs.size+4)) {s with heap:=h'}):wpAny (model prog w) A (call (.type "zip") [.ref l1,.ref l2]) Q E s:=by
 obtain⟨⟨c,dct,dt,sl⟩,hl,hc,n,hd⟩:=hl2
 replace hc:c=.type "tuple":=hc
 replace hd:dt=.seq ys n:=hd
 subst hc hd
 obtain⟨⟨c',dct',dt',sl'⟩,hl',hc',n',hd'⟩:=hl1
 replace hc':c'=.type "tuple":=hc'
 replace hd':dt'=.seq xs n':=hd'
 subst hc' hd'
 refine callType_new F.called_zip () (F.typeCall_zip_2 _ _) (F.newCall_zip_2 _ _) (λobj=>F.args_object_init_3 obj _ _) F.entry_zip_new (pd l1 l2 xs ys n n' dct dct' sl sl') ⟨hl',hl,?_⟩
 have y1:(mM s.heap l1).objs.size=s.heap.objs.size+1:=ϩ ..
 have y2:(lS s.heap l1 l2).objs.size=s.heap.objs.size+2:=by rw[ϩ,y1]
 have y3:(nh s.heap l1 l2).objs.size=s.heap.objs.size+3:=by rw[ϩ,y2]
 have y4:(mf s.heap l1 l2).objs.size=s.heap.objs.size+4:=by rw[ϩ,y3]
 have up:∀{h:Heap}{o:Obj}{c:Addr}{p:Obj},h.get? c=some p->(h.push o).get? c=some p:=λq=>ι _ q
 have v5:(gF s.heap l1 l2).get? (mf s.heap l1 l2).objs.size=some _:=ψ _ rfl
 have v4:(gF s.heap l1 l2).get? (nh s.heap l1 l2).objs.size=some _:=up (ψ _ rfl)
 have v3:(gF s.heap l1 l2).get? (lS s.heap l1 l2).objs.size=some _:=up (up (ψ _ rfl))
 have v2:(gF s.heap l1 l2).get? (mM s.heap l1).objs.size=some _:=up (up (up (ψ _ rfl)))
 have v1:(gF s.heap l1 l2).get? s.heap.objs.size=some _:=up (up (up (up (ψ _ rfl))))
 show _/\_
 rw[y2,y3,y4]at v5
 rw[y1,y2]at v3
 rw[y3]at v4
 rw[y1]at v2
 rw[y4]
 exact⟨⟨_,v5,rfl⟩,h _ v5 v3 v4 ⟨_,v1,rfl,rfl⟩ ⟨_,v2,rfl,rfl⟩ λc o q=>up (up (up (up (up q))))⟩
end
def kH(K:ζ)(a b:Addr):It:=
 ⟨λi H=>∃xs ys x y,SqT K H a xs/\SqT K H b ys/\xs[i]?=some x/\ys[i]?=some y,λi H z H'=>∃p x y,H p=none/\H'=upd H p (.tup [x,y])/\z=.ref p/\(∀xs,SqT K H a xs->xs[i]?=some x)/\∀ys,SqT K H b ys->ys[i]?=some y,
 λi H=>∃xs ys,SqT K H a xs/\SqT K H b ys/\(xs.length<=i\/ys.length<=i)⟩
theorem rg{P:Α}{w:Υ}{K:ζ}{elts:List Expr}{x1}{tp:Pos}(a b z TI TO i1 i2:Addr)(D1:TI≠z/\TO≠z/\i1≠z/\i2≠z/\TI≠TO/\TI≠i1/\TI≠i2/\TO≠i1/\TO≠i2/\i1≠i2)(D2:a≠TO/\b≠TO):
  kg P w K (.Tuple elts x1 tp) (kH K a b) [z,TI,TO,i1,i2] z (λi h=>Fm h z TI TO .none/\B7 h TI (.ref i1) (.ref i2)/\(∃u v,B7 h TO u v)/\h.IsTupleIter i1 a i/\h.IsTupleIter i2 b i) where
 mem:=by simp
 obj:=λi h st c hc=>by
  obtain⟨hz,hTI,⟨u,v,hTO⟩,⟨o1,e1,c1,d1⟩,⟨o2,e2,c2,d2⟩⟩:=st
  simp only[μ,g_,or_false]at hc
  rcases hc with rfl|rfl|rfl|rfl|rfl
  ·exact⟨_,hz,λv z=>by
    have z':Data.fields _=Gv v:=z
    cases z'⟩
  ·exact⟨_,hTI,λv z=>by
    have z':Data.seq _ _=Gv v:=z
    cases z'⟩
  ·exact⟨_,hTO,λv z=>by
    have z':Data.seq _ _=Gv v:=z
    cases z'⟩
  ·exact⟨o1,e1,λv z=>by rw[d1]at z;cases z⟩
  ·exact⟨o2,e2,λv z=>by rw[d2]at z;cases z⟩
 keep:=λi h h' st k=>by
  obtain⟨hz,hTI,⟨u,v,hTO⟩,h1,h2⟩:=st
  exact⟨k z () _ hz,k TI () _ hTI,⟨u,v,k TO () _ hTO⟩,h1.at λo e=>k i1 () o e,h2.at λo e=>k i2 () o e⟩
 item:=by
  intro X hP hw hK hc i pins s σ H E I hf st hg
  subst hP hw hK
  obtain⟨xs,ys,x,y,hq1,hq2,hx,hy⟩:=hg
  obtain⟨its1,rv1,p1,_⟩:=I.tuple hq1
  obtain⟨its2,rv2,p2,_⟩:=I.tuple hq2
  obtain⟨u1,hu1,ru1⟩:=rv1.get hx
  obtain⟨u2,hu2,ru2⟩:=rv2.get hy
  obtain⟨hz,hTI,⟨u,v,hTO⟩,h1,h2⟩:=st
  obtain⟨d1,d2,d3,d4,d5,d6,d7,d8,d9,d10⟩:=D1
  have L1:s.heap.IsTuple a its1.toArray:=p1
  have L2:s.heap.IsTuple b its2.toArray:=p2
  have D:Gr z TI TO i1 i2 a b:=by
   obtain⟨o1,e1,c1,_⟩:=id L1
   obtain⟨o2,e2,c2,_⟩:=id L2
   obtain⟨o3,e3,c3,_⟩:=id h1
   obtain⟨o4,e4,c4,_⟩:=id h2
   exact⟨d1,d2,d3,d4,d5,d6,d7,d8,d9,d10,cp e1 hz (by rw[c1];exactλz=>absurd (j7 z) ()),D2.1,cp e1 e3 (by rw[c1,c3];exactλz=>absurd (j7 z) ()),cp e1 e4 (by rw[c1,c4];exactλz=>absurd (j7 z) ()),
    cp e2 hz (by rw[c2];exactλz=>absurd (j7 z) ()),D2.2,cp e2 e3 (by rw[c2,c3];exactλz=>absurd (j7 z) ()),cp e2 e4 (by rw[c2,c4];exactλz=>absurd (j7 z) ())⟩
  refine nE D hz hTI hTO h1 h2 L1 L2 (x:=u1) (y:=u2) (by simpa using hu1) (by simpa using hu2) λh3 a1 a2 a3 a4 a5 hk=>?_
  refine⟨_,rfl,wpAny_letOwnedTupleGo_zip a1 λh4 hz4 hs4=>?_⟩
  have hzl:z<s.heap.objs.size:=ς hz
  have hn:H s.heap.objs.size=none:=I.hok.fresh (ρ _)
  have keep:∀c o,c≠z->c≠TO->c≠i1->c≠i2->s.heap.get? c=some o->h4.get? c=some o:=λc o c1 c2 c3 c4 q=>(hs4.2 c c1).trans (hk c o c1 c2 c3 c4 q)
  have tup:h4.get? s.heap.objs.size=some {cls:=.type "tuple",data:=.seq #[u1,u2]}:=(hs4.2 _ (ngt hzl)).trans a5
  have fpn:∀c∈[z,TI,TO,i1,i2],H c=none:=λc hc=>(hf c hc).1
  have nit:∀c v,H c=some v->c≠z/\c≠TO/\c≠i1/\c≠i2:=λc v q=>⟨(λe=>by rw[e,fpn z ()]at q;cases q),(λe=>by rw[e,fpn TO ()]at q;cases q),(λe=>by rw[e,fpn i1 ()]at q;cases q),(λe=>by rw[e,fpn i2 ()]at q;cases q)⟩
  have kch:∀c o,c∉[z,TO,i1,i2]->s.heap.get? c=some o->h4.get? c=some o:=λc o hc q=>keep c o (λe=>hc (by simp[e])) (λe=>hc (by simp[e])) (λe=>hc (by simp[e])) (λe=>hc (by simp[e])) q
  have I2:Inv X pins σ (upd H s.heap.objs.size (.tup [x,y])) {s with heap:=h4,toks:=s.toks}:=by
   refine I.step (g':=s.gens) (d':=s.drawn) (ch:=[z,TO,i1,i2]) (λc hc=>?_) (λc o _ _ hc' q _=>kch c o hc' q) (λc o _ _ hc' q _=>⟨o.slots,kch c o hc' q⟩) (λc o _ q n=>by rw[ai (nlt (ς q))];exact n) (λc o hc' q=>⟨o,kch c o hc' q⟩)
    (λc xs q=>by rw[ai (af q hn)];exact q) (λc o v q=>by rw[ai (af q hn)];exact q) (λc ps q=>⟨#[],by rw[ai (af q hn),q];simp⟩) (λm hm=>?_) (λc v q=>?_) I.bare
   ·have hc':c∈[z,TI,TO,i1,i2]:=by
     simp only[μ,g_,or_false]at hc⊢
     rcases hc with e|e|e|e<;>simp[e]
    obtain⟨f0,f1,f2,f3,f4,f5⟩:=hf c hc'
    exact⟨f3,f1,f4,f5⟩
   ·obtain⟨o,es,ep,ho,r⟩:=hm
    exact⟨o,es,ep,keep _ o (Ϗ (hf z ()).2.1) (Ϗ (hf TO ()).2.1) (Ϗ (hf i1 ()).2.1) (Ϗ (hf i2 ()).2.1) ho,r⟩
   ·by_cases hb:c=s.heap.objs.size
    ·subst hb
     rw[aa]at q
     cases q
     exact⟨(show 2<=sizeLine by rw[ω];decide),[u1,u2],.cons ru1 (.cons ru2 .nil),⟨_,tup,rfl,0,rfl⟩,_,tup,rfl⟩
    ·rw[ai hb]at q
     refine(I.hok c v q).stay (λc' w' hc' q'=>?_) (λc' q'=>by rw[ai (af q' hn)];exact q') λc' xs q'=>by rw[ai (af q' hn)];exact q'
     rcases hc' with e|e
     ·subst e;obtain⟨n1,n2,n3,n4⟩:=nit c' v q;exact keep c' w' n1 n2 n3 n4 q'
     ·obtain⟨n1,n2,n3,n4⟩:=nit c' _ e;exact keep c' w' n1 n2 n3 n4 q'
  refine⟨.ref s.heap.objs.size,_,I2,rfl,⟨_,x,y,hn,rfl,rfl,λxs' h'=>by rw[I.tuple_inj h' hq1];exact hx,λys' h'=>by rw[I.tuple_inj h' hq2];exact hy⟩,?_,λc hc=>?_⟩
  ·exact⟨hz4,hs4.extBut _ _ d1 (hk TI _ d1 d5 d6 d7 hTI),⟨_,_,hs4.extBut _ _ d2 a2⟩,a3.at λo e=>hs4.extBut _ _ d3 e,a4.at λo e=>hs4.extBut _ _ d4 e⟩
  ·have hb':c<s.heap.objs.size:=by
    simp only[μ,g_,or_false]at hc
    obtain⟨o3,e3,_⟩:=h1
    obtain⟨o4,e4,_⟩:=h2
    rcases hc with e|e|e|e|e
    ·rw[e];exact hzl
    ·rw[e];exact ς hTI
    ·rw[e];exact ς hTO
    ·rw[e];exact ς e3
    ·rw[e];exact ς e4
   rw[ai (nlt hb')]
   exact fpn c hc
 done:=by
  intro X hP hw hK hc i pins s σ H E I hf st hg
  subst hP hw hK
  obtain⟨xs,ys,hq1,hq2,hend⟩:=hg
  obtain⟨its1,rv1,p1,_⟩:=I.tuple hq1
  obtain⟨its2,rv2,p2,_⟩:=I.tuple hq2
  obtain⟨hz,hTI,⟨u,v,hTO⟩,h1,h2⟩:=st
  obtain⟨d1,d2,d3,d4,d5,d6,d7,d8,d9,d10⟩:=D1
  have L1:s.heap.IsTuple a its1.toArray:=p1
  have L2:s.heap.IsTuple b its2.toArray:=p2
  have D:Gr z TI TO i1 i2 a b:=by
   obtain⟨o1,e1,c1,_⟩:=id L1
   obtain⟨o2,e2,c2,_⟩:=id L2
   obtain⟨o3,e3,c3,_⟩:=id h1
   obtain⟨o4,e4,c4,_⟩:=id h2
   exact⟨d1,d2,d3,d4,d5,d6,d7,d8,d9,d10,cp e1 hz (by rw[c1];exactλz=>absurd (j7 z) ()),D2.1,cp e1 e3 (by rw[c1,c3];exactλz=>absurd (j7 z) ()),cp e1 e4 (by rw[c1,c4];exactλz=>absurd (j7 z) ()),
    cp e2 hz (by rw[c2];exactλz=>absurd (j7 z) ()),D2.2,cp e2 e3 (by rw[c2,c3];exactλz=>absurd (j7 z) ()),cp e2 e4 (by rw[c2,c4];exactλz=>absurd (j7 z) ())⟩
  have l1:=rv1.length
  have l2:=rv2.length
  have fpn:∀c∈[z,TI,TO,i1,i2],H c=none:=λc hc=>(hf c hc).1
  refine qz (I.ok.hd hc) D hz hTI hTO h1 h2 L1 L2 (hend.imp (λh=>by simp;omega) λh=>by simp;omega) λh4 hk=>⟨rfl,?_⟩
  have nit:∀c v,H c=some v->c≠z/\c≠TO/\c≠i1/\c≠i2:=λc v q=>⟨(λe=>by rw[e,fpn z ()]at q;cases q),(λe=>by rw[e,fpn TO ()]at q;cases q),(λe=>by rw[e,fpn i1 ()]at q;cases q),(λe=>by rw[e,fpn i2 ()]at q;cases q)⟩
  have kch:∀c o,c∉[z,TO,i1,i2]->s.heap.get? c=some o->h4.get? c=some o:=λc o hc q=>hk c o (λe=>hc (by simp[e])) (λe=>hc (by simp[e])) (λe=>hc (by simp[e])) (λe=>hc (by simp[e])) q
  refine I.step (t':=s.toks) (g':=s.gens) (d':=s.drawn) (ch:=[z,TO,i1,i2]) (λc hc=>?_) (λc o _ _ hc' q _=>kch c o hc' q) (λc o _ _ hc' q _=>⟨o.slots,kch c o hc' q⟩) (λc o _ q n=>n) (λc o hc' q=>⟨o,kch c o hc' q⟩)
   (λc xs q=>q) (λc o v q=>q) (λc ps q=>⟨#[],by rw[q];simp⟩) (λm hm=>?_) (λc v q=>?_) I.bare
  ·have hc':c∈[z,TI,TO,i1,i2]:=by
    simp only[μ,g_,or_false]at hc⊢
    rcases hc with e|e|e|e<;>simp[e]
   obtain⟨f0,f1,f2,f3,f4,f5⟩:=hf c hc'
   exact⟨f3,f1,f4,f5⟩
  ·obtain⟨o,es,ep,ho,r⟩:=hm
   exact⟨o,es,ep,hk _ o (Ϗ (hf z ()).2.1) (Ϗ (hf TO ()).2.1) (Ϗ (hf i1 ()).2.1) (Ϗ (hf i2 ()).2.1) ho,r⟩
  ·refine(I.hok c v q).stay (λc' w' hc' q'=>?_) (λc' q'=>q') λc' xs q'=>q'
   rcases hc' with e|e
   ·subst e;obtain⟨n1,n2,n3,n4⟩:=nit c' v q;exact hk c' w' n1 n2 n3 n4 q'
   ·obtain⟨n1,n2,n3,n4⟩:=nit c' _ e;exact hk c' w' n1 n2 n3 n4 q'
 self:=λA i s Q E st h=>wpAny_pyIter_zip st.1 h
theorem vm{h:Heap}{a:Addr}{its:Array δ}(p:GH h a its):a<h.objs.size:=by
 obtain⟨o,e,_⟩:=p
 exact ς e
section
variable{X:Cx}
def zX(K:ζ)(ta:TA):TI:=λσ H R=>ta σ H λvs H1=>∃a b,vs=[.ref a,.ref b]/\(∃xs,SqT K H1 a xs)/\(∃ys,SqT K H1 b ys)/\R (kH K a b) H1
theorem pi_zipTT{a b:Expr}{ta:TA}{p pos:Pos}{elts:List Expr}{x1}{tp:Pos}(hg:Gl X "zip")(hm:X.mg "zip"=none)(ha:PA X [a,b] ta)(hs:starEach [a,b] X.env=(false,eval a X.env)::starEach [b] X.env:=by rfl)(hpl:(backTo pos (starEach [b] X.env)).any (·.1)=false:=by rfl):
  PI X (.Tuple elts x1 tp) (.Call (.Name "zip" p) [a,b] [] pos) (zX X.K ta):=by
 intro pins s σ H R I h
 refine Call_ (cF I hg hm (u:=.type "zip") () (Ϻ (thn (ha pos pins s σ H _ I h) λus s1 ⟨vs,H1,I1,r1,q1⟩=>?_) hs hpl))
 obtain⟨l,m,e,⟨xs,hq1⟩,⟨ys,hq2⟩,q⟩:=q1
 subst e
 obtain⟨u,w',rfl,ru,rw'⟩:=kW r1
 cases ru
 cases rw'
 obtain⟨its1,rv1,p1,_⟩:=I1.tuple hq1
 obtain⟨its2,rv2,p2,_⟩:=I1.tuple hq2
 refine qk p1 p2 λh' hz hTI hTO hi1 hi2 kp=>?_
 have I2:Inv X pins σ H1 {s1 with heap:=h'}:=I1.kept (t':=s1.toks) kp
 have add:∀(n i j:Nat),i≠j->n+i≠n+j:=λn i j h z=>h (Nat.add_left_cancel z)
 have T:kg X.prog X.w X.K (.Tuple elts x1 tp) (kH X.K l m) [s1.heap.objs.size+4,s1.heap.objs.size+2,s1.heap.objs.size+3,s1.heap.objs.size,s1.heap.objs.size+1] (s1.heap.objs.size+4) _:=
  rg l m (s1.heap.objs.size+4) (s1.heap.objs.size+2) (s1.heap.objs.size+3) s1.heap.objs.size (s1.heap.objs.size+1)
   ⟨add _ 2 4 (),add _ 3 4 (),add _ 0 4 (),add _ 1 4 (),add _ 2 3 (),add _ 2 0 (),add _ 2 1 (),add _ 3 0 (),add _ 3 1 (),add _ 0 1 ()⟩ ⟨Ρ (Nat.lt_add_right 3 (vm p1)),Ρ (Nat.lt_add_right 3 (vm p2))⟩
 refine T.self X.A 0 {s1 with heap:=h'} _ _ ⟨hz,hTI,⟨_,_,hTO⟩,hi1,hi2⟩ ?_
 refine⟨s1.heap.objs.size+4,_,_,_,H1,rfl,I2,T,⟨hz,hTI,⟨_,_,hTO⟩,hi1,hi2⟩,λb hb=>?_,q⟩
 have hb':s1.heap.objs.size<=b:=by
  simp only[μ,g_,or_false]at hb
  rcases hb with e|e|e|e|e
  ·rw[e];exact o0 _ _
  ·rw[e];exact o0 _ _
  ·rw[e];exact o0 _ _
  ·rw[e];exact ρ _
  ·rw[e];exact o0 _ _
 obtain⟨f0,f1⟩:=I1.fpOk hb' (I1.hok.fresh hb')
 exact⟨f0,f1⟩
theorem uB{K:ζ}{a b:Addr}{xs ys:List V}{g:TG}{tb:TS}{D:bI}{σ:St}{H:Hp}(Pv:Nat->St->Hp->Prop)(h0:Pv 0 σ H)(hl:∀i σ H,Pv i σ H->SqT K H a xs/\SqT K H b ys)
  (hs:∀i x y σ H p,xs[i]?=some x->ys[i]?=some y->Pv i σ H->H p=none->g (.ref p) σ (upd H p (.tup [x,y])) λσ2 H2=>tb {D with nx:=Pv (i+1),ct:=Pv (i+1),bk:=D.nx} σ2 H2) (hd:∀σ H,Pv (min xs.length ys.length) σ H->D.nx σ H):
  ∃W:Nat->Nat->St->Hp->Prop,(∃m,W 0 m σ H)/\∀i m σ H,W i m σ H ->
   ((kH K a b).stop i H/\D.nx σ H)\/((kH K a b).go i H/\∃N:St->Hp->Prop,(∀σ' H',N σ' H'->∃m',m'<m/\W (i+1) m' σ' H')/\∀x H',(kH K a b).yld i H x H'->g x σ H' λσ2 H2=>tb {D with nx:=N,ct:=N,bk:=D.nx} σ2 H2):=by
 refine⟨λi m σ H=>m=min xs.length ys.length-i/\i<=min xs.length ys.length/\Pv i σ H,⟨min xs.length ys.length,(),Ξ _,h0⟩,?_⟩
 rintro i m σ H ⟨rfl,hi,p⟩
 obtain⟨q1,q2⟩:=hl i σ H p
 by_cases hlt:i<min xs.length ys.length
 ·have h1:i<xs.length:=by omega
  have h2:i<ys.length:=by omega
  refine .inr ⟨⟨xs,ys,xs[i],ys[i],q1,q2,by simp[h1],by simp[h2]⟩,Pv (i+1),λσ' H' p'=>⟨min xs.length ys.length-(i+1),(),rfl,hlt,p'⟩,λz H' y=>?_⟩
  obtain⟨c,x,y,hb,e1,e2,hx,hy⟩:=y
  subst e1 e2
  exact hs i x y σ H c (hx xs q1) (hy ys q2) p hb
 ·have e:i=min xs.length ys.length:=by omega
  subst e
  exact .inl ⟨⟨xs,ys,q1,q2,()⟩,hd σ H p⟩
end
theorem ni(l:Addr)(items:Array δ)(n:Nat)(b:Addr)(items2:Array δ)(n2:Nat)(dct:Option Addr)(slt:Array (Option δ))(hs0:¬(!items.isEmpty&&l_ (items.size+items2.size))=true)(hs1:items.size<=sizeLine)(hs2:items.size+items2.size<=sizeLine+1):
  Meets (Ϥ.«list.extend» ⟨[.ref l,.ref b],[]⟩) (λ_ R s=>s.heap.get? l=some {cls:=.type "list",data:=.seq items n}/\s.heap.get? b=some {cls:=.type "tuple",dict:=dct,data:=.seq items2 n2,slots:=slt}/\R (.ok (.ret a8)) {s with heap:=s.heap.update l (n_ λx=>x++items2),toks:=s.toks}):=
 .of_wp λprog w A R s h=>by
  obtain⟨hp,g,d,tk,os⟩:=s
  obtain⟨hl,hb,h⟩:=h
  have f1:=EJ
  have f2:=B8
  have f3:=AutoSeq1.sub_list_list
  have f4:=AutoSeq1.sub_tuple_list
  have f5:=AutoSeq1.sub_list_tuple
  have hz':(items++items2).size<=sizeLine+1:=by rw[FG];exact hs2
  wp_walk using(A_ hl rfl (hz:=hs1) (_hz':=hz')),Ϲ hl,Ϲ hb
  exact⟨_,rfl,h⟩
section
variable{X:Cx}
def Be(K:ζ):V->List V->Hp->VK->Prop:=λx vs H Q=>∃l b xs zs,x=.ref l/\vs=[.ref b]/\H l=some (.lst xs)/\SqT K H b zs/\xs.length+zs.length<=sizeLine/\Q .non (upd H l (.lst (xs++zs)))
theorem yW:MtM X "list.extend" (Be X.K):=by
 intro pins s σ H x vs v us Q I rx rv h
 obtain⟨l,b,xs,zs,rfl,rfl,hH,hB,hz,q⟩:=h
 cases rx
 obtain⟨u,rfl,ru⟩:=rv.one
 cases ru
 obtain⟨z,its,n,r,hl,e⟩:=I.lstM hH
 obtain⟨its2,r2,⟨⟨cls,dd,data,sl⟩,e2,hc,n2,hd⟩,_⟩:=I.tuple hB
 simp only at hc hd
 subst hc hd
 have hl2:=r2.length
 have hsz:its.toArray.size+its2.toArray.size<=sizeLine:=by rw[π,π];omega
 have hlong:¬ (!its.toArray.isEmpty&&l_ (its.toArray.size+its2.toArray.size))=true:=by
  rw[jq hsz,Gp]
  exact Κ
 refine r9 F.slot_list_extend ⟨_,e,rfl⟩ F.entry_list_extend (F.args_list_extend_2 _ _)
  (ni l its.toArray n b its2.toArray n2 dd sl hlong (by rw[π];omega) ()) ⟨e,e2,?_⟩
 refine⟨.non,_,I.lset (its':=its++its2) hH e () (r.append r2) ?_,rfl,q⟩
 rw[χ]
 omega
theorem lG(hu:X.A.units<cLine):OpR X (compareOp .Eq) (λx y H Q=>∃(l b:Addr) (xs:List V),x=.ref l/\y=.ref b/\SqL X.K H l xs/\SqL X.K H b []/\Q (.bl xs.isEmpty) H):=by
 intro pins s σ H x y v u Q I rx ry h
 obtain⟨l,b,xs,rfl,rfl,hl,hb,q⟩:=h
 cases rx
 cases ry
 obtain⟨its,r1,p1,_⟩:=I.list hl
 obtain⟨its2,r2,p2,_⟩:=I.list hb
 have l1:=r1.length
 have l2:=r2.length
 cases xs with
 |nil=>
  refine FY (e:=λ_=>true) p1.isList p2.isList (by simp;omega) hu (λj h1 h2=>?_) X.prog X.w X.xe _ ?_
  ·have:j<its.length:=by simpa using h1
   simp at l1;omega
  ·have e:((ϋ its.toArray.size).all λ_=>true)=true:=by simp
   rw[e]
   exact⟨.bl true,H,I,rfl,q⟩
 |cons x xs=>
  refine B9 p1.isList p2.isList ?_ hu X.prog X.w X.xe _ ⟨.bl false,H,I,rfl,q⟩
  rw[ϒ]at l1
  rw[Ed]at l2
  rw[π,π,bne_iff_ne]
  omega
end
section
variable{prog:Α}{w:Υ}{A:Ω}{E:δ->η->Prop}{s:η}
end
section
variable{X:Cx}
def Br(K:ζ)(te:TE)(ts:TO):TE:=λσ H Q=>te σ H λx H1=>ts σ H1 λl H2=>∃a xs,x=.ref a/\l=some (-1)/\SqL K H2 a xs/\∀p,H2 p=none->Q (.ref p) (upd H2 p (.lst xs.reverse))
theorem ua(its:Array δ):slicePick its none none (some (-1))=its.toList.reverse.toArray:=by
 have b1:(sliceBounds none none (some (-1)) its.size).1=(its.size:Int)-1:=rfl
 have b2:(sliceBounds none none (some (-1)) its.size).2.1=-1:=rfl
 have b3:(sliceBounds none none (some (-1)) its.size).2.2=-1:=rfl
 unfold slicePick
 rw[b1,b2,b3]
 congr 1
 have c:sliceRange ((its.size:Int)-1) (-1) (-1)=(ϋ its.size).map λ(k:Nat)=>((its.size:Int)-1 + -1*(k:Int)).toNat:=by
  unfold sliceRange
  simp only[show ¬ ((-1:Int)>0) by decide,if_false]
  congr 2
  by_cases h:(its.size:Int)-1 > -1
  ·rw[Q0 h]
   have:(-(-1):Int)=1:=rfl
   rw[this,Int.ediv_one]
   omega
  ·rw[Q6 h]
   have:(0:Int).toNat=0:=rfl
   omega
 rw[c,List.filterMap_map,<-vz]
 congr 1
 funext k
 show its[((its.size:Int)-1 + -1*(k:Int)).toNat]?=its[((its.size:Int)-1+(k:Int)*(-1)).toNat]?
 rw[Int.mul_comm]
theorem pe_revL{e st:Expr}{te:TE}{ts:TO}{p2 pos:Pos}(he:PE X e te)(hs:PO X (some st) ts):PE X (.Subscript e (.Slice none none (some st) p2) pos) (Br X.K te ts):=by
 intro pins s σ H Q I h
 refine Gy (thn (he pins s σ H _ I h) λv s1 ⟨x,H1,I1,r1,q1⟩=>wpAny_Slice ?_)
 rw[evalPart_none]
 refine ν (ν (thn (hs pins s1 σ H1 _ I1 q1) λvu s3 ⟨u,H3,I3,pu,q3⟩=>?_))
 obtain⟨a,xs,rfl,rfl,hx,q⟩:=q3
 cases r1
 cases pu with
 |int j uj=>
  have I4:Inv X pins σ H3 {s3 with heap:=s3.heap.push {cls:=.type "slice",data:=.fields #[.none,.none,.int (-1) uj]} }:=I3.kept (t':=s3.toks) λb ob q=>ι _ q
  have hsl:(s3.heap.push {cls:=.type "slice",data:=.fields #[.none,.none,.int (-1) uj]}).IsSliceOf s3.heap.objs.size .none .none (.int (-1) uj):=Heap.IsSliceOf.new ..
  obtain⟨its,r,ht,hz⟩:=I4.list hx
  have hlen:its.toArray.size=xs.length:=by rw[π];exact r.length.symm
  show wpAny (model X.prog X.w) X.A (subscriptTail e (.Slice none none (some st) p2) (.ref a) (.ref s3.heap.objs.size)) (EP X pins σ Q) X.xe {s3 with heap:=s3.heap.push {cls:=.type "slice",data:=.fields #[.none,.none,.int (-1) uj]} }
  refine tail_any (ops:=[.ref a,.ref s3.heap.objs.size]) ht.isList.typeIs FC.lookup ?_ (by with_unfolding_all rfl)
  refine wpAny_getItem_list_slice ht.isList hsl .none .none (.int _ _) () ?_ (by rw[hlen];exact hz)
  rw[ua]
  refine⟨.ref _,_,I4.laid (t':=s3.toks) (o:=.lst xs.reverse) (λb ob q=>ι _ q) (ρ _) ?_,rfl,q _ (I4.hok.fresh (ρ _))⟩
  have e:its.toArray.toList.reverse.toArray=its.reverse.toArray:=by simp
  rw[e]
  exact⟨by rw[Ϯ];exact hz,its.reverse,0,wj r,ψ _ rfl⟩
end
theorem bT:fillsNumberSlot (.type "tuple") "mul"=pure false:=
 PySem.fillsNumberSlot_seq (id:="tuple.__mul__") (r:=some (.builtin "tuple.__rmul__")) PySem.F.slot_tuple_mul.lookup () PySem.F.slot_tuple_rmul.lookup ()
theorem cZ:seqRepeat? (.type "tuple")=pure (some (.builtin "tuple.__mul__")):=by
 unfold seqRepeat?
 rw[PySem.seqSlot_of (T:="tuple") (name:="__mul__") (id:="tuple.__mul__") PySem.F.slot_tuple_mul.lookup (),PySem.seqSlot_of (T:="tuple") (name:="__rmul__") (id:="tuple.__rmul__") PySem.F.slot_tuple_rmul.lookup ()]
 rfl
theorem cY(a:Int)(t:Tok)(l:Addr)(items:Array δ)(n:Nat)(dct:Option Addr)(slt:Array (Option δ)):
  Meets (Ϥ.«int.__rmul__» ⟨[.int a t,.ref l],[]⟩) (λ_ R s=>s.heap.get? l=some {cls:=.type "tuple",dict:=dct,data:=.seq items n,slots:=slt}/\R (.ok (.ret δ.notImplemented)) s):=
 .of_wp λprog w A R s h=>by obtain⟨hp,g,d,tk,os⟩:=s;obtain⟨hl,h⟩:=h;wp_walk;exact⟨_,rfl,h⟩
theorem wH(l:Addr)(items:Array δ)(n:Nat)(dct:Option Addr)(slt:Array (Option δ))(k:Int)(t:Tok)(hc0:¬(decide (k < -2^63)||decide (k>=2^63))=true)(hc1:¬(items.isEmpty||k==1)=true)(hc2:¬(decide (k<=0)||items.isEmpty)=true)(hc3:¬((items.size:Int)*k>(2^63-1)/8))(hc4:¬DQ ((items.size:Int)*k)=true)
  (hz:((Β k.toNat items).foldl (· ++ ·) #[]).size<=sizeLine):
  Meets (Ϥ.«tuple.__mul__» ⟨[.ref l,.int k t],[]⟩) (λ_ R s=>s.heap.get? l=some {cls:=.type "tuple",dict:=dct,data:=.seq items n,slots:=slt}/\R (.ok (.ret (.ref s.heap.objs.size))) {s with heap:=s.heap.push {cls:=.type "tuple",data:=.seq ((Β k.toNat items).foldl (· ++ ·) #[])} }):=
 .of_wp λprog w A R s h=>by
  obtain⟨hp,g,d,tk,os⟩:=s
  obtain⟨hl,h⟩:=h
  have f1:=EJ
  have f2:=B8
  wp_walk using Ϲ hl
  rw[Q6 hc0]
  wp_walk using Ϲ hl
  rw[Q6 hc3]
  show wpAny _ _ (if DQ ((items.size:Int)*k)=true then _ else _) _ _ _
  rw[Q6 hc4]
  show wpAny _ _ (ϡ (F6 (λx1 x2=>x1++x2) #[] (Β k.toNat items))>>=_) _ _ _
  refine γ (m:=ϡ _) (ϝ (ν ⟨_,rfl,h⟩) hz)
section
variable{X:Cx}
def Bk(K:ζ):R2:=λx y H Q=>∃l k xs,x=.ref l/\y=.int k/\SqT K H l xs/\xs≠[]/\2<=k/\k<=1000/\xs.length*k.toNat<=1000/\∀p,H p=none->Q (.ref p) (upd H p (.tup (Β k.toNat xs).flatten))
theorem yv:OpR X (binaryOp .Mult) (Bk X.K):=by
 intro pins s σ H x y v u Q I rx ry h
 obtain⟨l,k,xs,rfl,rfl,hx,ne,k2,k3,hz,q⟩:=h
 cases rx
 obtain⟨t,rfl⟩:=ry
 obtain⟨its,r,⟨⟨cls,dd,data,sl⟩,e,hc,n,hd⟩,z⟩:=I.tuple hx
 simp only at hc hd
 subst hc hd
 have hl:=r.length
 have hlen:its.length*k.toNat<=1000:=by rw[<-hl];exact hz
 have hne:its≠[]:=λe=>ne (List.length_eq_zero_iff.mp (by rw[hl,e];rfl))
 have hnew:F6 (λx1 x2=>x1++x2) #[] (Β k.toNat its.toArray)=(Β k.toNat its).flatten.toArray:=by
  have:=gH its k.toNat []
  rw[Ee]at this
  exact this
 have hmul:((its.toArray.size:Int))*k<=1000:=by
  rw[π]
  have e1:((its.length*k.toNat:Nat):Int)=(its.length:Int)*k:=by rw[Int.natCast_mul];congr 1;omega
  omega
 have hemp:its.toArray.isEmpty=false:=by simpa using hne
 refine A8 (T:="tuple") (U:="int") () ⟨_,e,rfl⟩ (λs'=>DK s' k t) bT EV x6 cZ EF.lookup
  (r9 x6 (DK s k t) EG (Ew _ _) (cY k t l its.toArray n dd sl)
   ⟨e,rfl,⟨_,e,rfl⟩,r9 FZ ⟨_,e,rfl⟩ FH (Fn _ _) (wH l its.toArray n dd sl k t ?_ ?_ ?_ ?_ ?_ ?_) ⟨e,?_⟩⟩)
 ·simp only[Gi,decide_eq_true_eq];omega
 ·rw[hemp,B6];simp only[beq_iff_eq];omega
 ·rw[hemp,FL];simp only[decide_eq_true_eq];omega
 ·have:((2^63-1)/8:Int)=1152921504606846975:=by decide
  omega
 ·unfold DQ
  have:(sizeLine:Nat)=16777216:=by rw[ω]
  simp only[decide_eq_true_eq]
  omega
 ·rw[hnew,π,L2.len_rep,Nat.mul_comm,ω];omega
 rw[hnew]
 refine⟨.ref _,_,I.laid (t':=s.toks) (o:=.tup (Β k.toNat xs).flatten) (λb ob q=>ι _ q) (ρ _) ?_,rfl,q _ (I.hok.fresh (ρ _))⟩
 exact⟨by rw[L2.len_rep,Nat.mul_comm,ω];omega,_,r.rep k.toNat,FR _ _,NoD.new _ rfl⟩
end
section
variable{prog:Α}{w:Υ}{A:Ω}{E:δ->η->Prop}
end
section
variable{X:Cx}{pos:Pos}
end
end L2
namespace KB
open PySem L2
abbrev Pr:=Str×Int
def Cr(p q:Pr):Prop:=p.1.cps.toList<q.1.cps.toList
structure rm(ps:List Pr):Prop where
 pw:ps.Pairwise Cr
 ge:∀p∈ps,1<=p.2
theorem yn(a:List Nat):¬ a<a:=λh=>List.lt_irrefl a h
theorem dQ{ps:List Pr}(h:ps.Pairwise Cr):(ps.map (·.1)).Nodup:=by
 rw[List.Nodup,DC]
 exact h.imp λ{a b} hab e=>by
  have hab':a.1.cps.toList<b.1.cps.toList:=hab
  rw[e]at hab'
  exact yn _ hab'
def fj(kvs:List Pr)(x:Str)(n:Int):List Pr:=if (kvs.any λp=>decide (p.1=x))=true then kvs.map (λp=>if p.1=x then (p.1,n)else p)else kvs++[(x,n)]
def nmB(x:Str):Bool:=decide (1<=x.cps.size)&&decide (x.cps.size<=8)&&x.cps.toList.all λc=>decide (97<=c)&&decide (c<=122)
def azB(c:Nat):Bool:=decide (97<=c)&&decide (c<=122)
theorem Rep.tup_inv{H:Hp}{ds:List Dv}{v:V}(h:Rep H (.tup ds) v):∃a vs,v=.ref a/\H a=some (.tup vs)/\Reps H ds vs:=by simpa only[Rep]using h
theorem Reps.two{H:Hp}{d e:Dv}{vs:List V}(h:Reps H [d,e] vs):∃x y,vs=[x,y]/\Rep H d x/\Rep H e y:=by
 simp only[Reps]at h
 obtain⟨x,r,rfl,h1,y,r2,rfl,h2,rfl⟩:=h
 exact⟨x,y,rfl,h1,h2⟩
def Az(x:Str)(n:Nat):Prop:=x.cps.toList.length=n/\∀c∈x.cps.toList,azB c=true
theorem Az.len{x:Str}{n:Nat}(h:Az x n):x.length=n:=by
 have e:x.cps.toList.length=x.length:=Ϩ
 rw[<-e];exact h.1
theorem ii{x y:Str}{n m:Nat}(h:Az x n)(g:Az y m):Az (x++y) (n+m):=by
 have e:=DZ x y
 refine⟨by rw[e,χ,h.1,g.1],λc hc=>?_⟩
 rw[e]at hc
 rcases ϖ.mp hc with hc|hc
 ·exact h.2 c hc
 ·exact g.2 c hc
theorem ju{c:Nat}(h:azB c=true):Az ⟨#[c]⟩ 1:=⟨rfl,λd hd=>by
 have e:d=c:=by simpa using hd
 rw[e];exact h⟩
theorem wX:Az Str.empty 0:=⟨rfl,λd hd=>by cases hd⟩
theorem ye{x:Str}{n:Nat}{i:Int}(h:Az x n)(h0:0<=i)(h1:i<=n):Az (Txt.slice x (some i) none) (n-i.toNat):=by
 have e:=PyProof.Rows.slice_from_eq (x:=x) (i:=i) (b:=(x.length:Int)) h0 (by rw[h.len];exact h1) rfl
 rw[e]
 refine⟨?_,λc hc=>?_⟩
 ·show((x.cps.toList.drop i.toNat).take ((x.length:Int)-i).toNat).toArray.toList.length=_
  simp only[Φ,ϳ,h.1,h.len]
  omega
 ·have hc':c∈(x.cps.toList.drop i.toNat).take ((x.length:Int)-i).toNat:=by simpa using hc
  exact h.2 c (ET (j8 hc'))
theorem Ca{x:Str}{n:Nat}{i:Int}(h:Az x n)(h0:0<=i)(h1:i<=n):Az (Txt.slice x none (some i)) i.toNat:=by
 have e:=eq_of_beq (PyProof.Rows.slice_closes_toL (x:=x) (j:=i) h0 (by rw[h.len];exact h1))
 rw[e]
 refine⟨?_,λc hc=>?_⟩
 ·show((x.cps.toList.drop (0:Int).toNat).take (i-0).toNat).toArray.toList.length=_
  simp only[Φ,ϳ,h.1]
  have:(0:Int).toNat=0:=rfl
  omega
 ·have hc':c∈(x.cps.toList.drop (0:Int).toNat).take (i-0).toNat:=by simpa using hc
  exact h.2 c (ET (j8 hc'))
theorem BP{x:Str}{n:Nat}(h:Az x n)(h1:1<=n)(h8:n<=8):nmB x=true:=by
 unfold nmB
 have e:x.cps.size=n:=by have:=h.1;simpa using this
 rw[e,Q9 h1,Q9 h8,Bool.and_self,ϧ]
 exact e_.mpr λc hc=>h.2 c hc
def dk(kvs:List (Str×Int)):List (Key×V):=kvs.map λp=>(Μ p.1,V.int p.2)
def aY(c:Int)(ps:List (Str×Int)):Dv:=.tup [.int c,.tup (ps.map λp=>.tup [.str p.1,.int p.2])]
def tkV(r:TK):Str×Int:=(r.2.1,match r.2.2 with| [.int n]=>n|_=>0)
theorem lh{H:Hp}:∀{rs:List TK},(∀r∈rs,H r.1=some (.tup [.str (tkV r).1,.int (tkV r).2]))->Reps H ((rs.map tkV).map λp=>Dv.tup [.str p.1,.int p.2]) (rs.map λr=>V.ref r.1)
 |[],_=>by simp[Reps]
 |r::rs,h=>by
  simp only[ό,Reps]
  refine⟨_,_,rfl,?_,lh λx hx=>h x (υ _ hx)⟩
  simp only[Rep,Reps]
  exact⟨r.1,_,rfl,h r Δ,_,_,rfl,rfl,_,_,rfl,rfl,rfl⟩
theorem sh{k:Nat}{ix:List Nat}{i:Nat}{tt:TT}{te:TE}{σ:St}{x:V}{ys:List V}{H:Hp}{N:List V->Hp->Prop}(h:tt ((cw k ix σ).set i (some x)) H λc H3=>if c=true then te ((cw k ix σ).set i (some x)) H3 λy H4=>ys.length<sizeLine/\N (ys++[y]) H4 else N ys H3):
  cE k ix (cu i) tt te σ x ys H N:=h
theorem sL{a b:Str}:((Μ a:Key)=Μ b)↔a=b:=⟨λh=>by injection h,λh=>by rw[h]⟩
theorem jU(kvs:List (Str×Int))(x:Str)(n:Int):dk (fj kvs x n)=cx (dk kvs) (Μ x) (.int n):=by
 unfold fj cx dk
 have e:((kvs.map λp=>((Μ p.1:Key),V.int p.2)).any λkv=>decide (kv.1=Μ x))=kvs.any λp=>decide (p.1=x):=by
  rw[List.any_map]
  congr 1
  funext p
  simp[Function.comp]
 rw[e]
 split
 ·rw[ύ,ύ]
  refine C3 λp _=>?_
  simp only[Function.comp]
  by_cases h:p.1=x
  ·rw[Q0 h,Q0 (sL.mpr h)]
  ·rw[Q6 h,Q6 (λz=>h (sL.mp z))]
 ·rw[τ]
  rfl
theorem kG{kvs:List (Str×Int)}{x:Str}{n:Int}(nd:(kvs.map (·.1)).Nodup):((fj kvs x n).map (·.1)).Nodup:=by
 unfold fj
 split
 ·have e:(kvs.map (λp=>if p.1=x then (p.1,n)else p)).map (·.1)=kvs.map (·.1):=by
   rw[ύ]
   refine C3 λp _=>?_
   simp only[Function.comp]
   split<;>rfl
  rw[e];exact nd
 ·rename_i h
  rw[τ,k8]
  refine⟨nd,(),λa ha b hb=>?_⟩
  have hb':b=x:=by simpa using hb
  subst hb'
  intro e
  subst e
  obtain⟨p,hp,e⟩:=Ζ.mp ha
  exact h (a_.mpr ⟨p,hp,Q9 e⟩)
theorem xh(kvs:List (Str×Int))(x:Str)(n:Int):(fj kvs x n).length<=kvs.length+1:=by
 unfold fj
 split
 ·rw[ε];omega
 ·rw[χ];simp
theorem oP{R:Str×Int->Prop}{kvs:List (Str×Int)}{x:Str}{n:Int}(h:∀p∈kvs,R p)(hx:R (x,n)):∀p∈fj kvs x n,R p:=by
 intro p hp
 unfold fj at hp
 split at hp
 ·obtain⟨q,hq,e⟩:=Ζ.mp hp
  by_cases z:q.1=x
  ·rw[Q0 z]at e
   rw[<-e,z];exact hx
  ·rw[Q6 z]at e
   rw[<-e];exact h q hq
 ·rcases ϖ.mp hp with hp|hp
  ·exact h p hp
  ·rw[θ.mp hp];exact hx
abbrev aE(ps:List Pr):List Dv:=ps.map λp=>.tup [.str p.1,.int p.2]
theorem fK{H:Hp}{ps:List Pr}{us:List V}(ru:Reps H (aE ps) us){i:Nat}{x:V}(hx:us[i]?=some x):∃p b,ps[i]?=some p/\x=.ref b/\H b=some (.tup [.str p.1,.int p.2]):=by
 obtain⟨d,hd,Rd⟩:=ru.get hx
 rw[Ν]at hd
 cases e:ps[i]? with
 |none=>rw[e]at hd;cases hd
 |some p=>
  rw[e]at hd
  obtain rfl:Dv.tup [.str p.1,.int p.2]=d:=ϑ hd
  obtain⟨b,zs,rfl,hb,rz⟩:=Rep.tup_inv Rd
  obtain⟨y,z,rfl,Ry,Rz⟩:=Reps.two rz
  simp only[Rep]at Ry Rz
  subst Ry Rz
  exact⟨p,b,rfl,rfl,hb⟩
theorem iR{H:Hp}{c:Int}{ps:List Pr}{v:V}(R:Rep H (aY c ps) v):∃a b us,v=.ref a/\H a=some (.tup [.int c,.ref b])/\H b=some (.tup us)/\Reps H (aE ps) us/\us.length=ps.length:=by
 obtain⟨a,tv,rfl,ha,rt⟩:=Rep.tup_inv R
 obtain⟨x,y,rfl,R0,R1⟩:=Reps.two rt
 simp only[Rep]at R0
 subst R0
 obtain⟨b,us,rfl,hb,ru⟩:=Rep.tup_inv R1
 have:=ru.length
 rw[ε]at this
 exact⟨a,b,us,rfl,ha,hb,ru,this⟩
theorem len_rep{H:Hp}{c:Int}{ps:List Pr}{a b:Addr}{us:List V}(ha:H a=some (.tup [.int c,.ref b]))(hb:H b=some (.tup us))(ru:Reps H (aE ps) us):Rep H (aY c ps) (.ref a):=by
 simp only[aY,Rep,Reps]
 exact⟨a,_,rfl,ha,_,_,rfl,rfl,_,_,rfl,⟨b,us,rfl,hb,ru⟩,rfl⟩
theorem eqI{i j:Int}(h:decide (V.int i=V.int j)=true):i=j:=by
 have:=Q7 h
 injection this
theorem z2:2<=sizeLine:=by rw[ω];decide
theorem z1:1<=sizeLine:=by rw[ω];decide
theorem pX{H:Hp}{ps:List Pr}{us:List V}(ru:Reps H (aE ps) us)(nd:(ps.map (·.1)).Nodup):∃qs:List (Addr×Key×V),us=qs.map (λp=>V.ref p.1)/\(∀p∈qs,H p.1=some (.tup [kV p.2.1,p.2.2]))/\(qs.map (·.2.1)).Nodup/\qs.map (·.2)=dk ps:=by
 have main:∀(ps:List Pr)(us:List V),Reps H (aE ps) us->∃qs:List (Addr×Key×V),us=qs.map (λp=>V.ref p.1)/\(∀p∈qs,H p.1=some (.tup [kV p.2.1,p.2.2]))/\qs.map (·.2)=dk ps:=by
  intro ps
  induction ps with
  |nil=>intro us r;simp only[aE,Ϫ,Reps]at r;subst r;exact⟨[],rfl,(),rfl⟩
  |cons p ps ih=>
   intro us r
   simp only[aE,ό,Reps]at r
   obtain⟨v,rest,rfl,R,rr⟩:=r
   obtain⟨qs,rfl,h1,h2⟩:=ih rest rr
   obtain⟨b,zs,rfl,hb,rz⟩:=Rep.tup_inv R
   obtain⟨y,z,rfl,Ry,Rz⟩:=Reps.two rz
   simp only[Rep]at Ry Rz
   subst Ry Rz
   refine⟨(b,Μ p.1,.int p.2)::qs,rfl,λx hx=>?_,by rw[ό,h2];rfl⟩
   rcases μ.mp hx with rfl|hx
   ·exact hb
   ·exact h1 x hx
 obtain⟨qs,e1,h1,e2⟩:=main ps us ru
 refine⟨qs,e1,h1,?_,e2⟩
 have e3:qs.map (·.2.1)=(ps.map (·.1)).map Μ:=by
  have:=congrArg (FW Prod.fst) e2
  unfold dk at this
  rw[ύ,ύ]at this
  rw[ύ]
  exact this
 rw[e3]
 rw[List.Nodup,DC]
 exact nd.imp λh e=>h (by injection e)
theorem z3:3<=sizeLine:=by rw[ω];decide
theorem xc{kvs:List Pr}{x:Str}{n:Int}(h:x∉kvs.map (·.1)):fj kvs x n=kvs++[(x,n)]:=by
 unfold fj
 rw[Q6]
 intro e
 rw[a_]at e
 obtain⟨p,hp,e⟩:=e
 exact h (Ζ.mpr ⟨p,hp,Q7 e⟩)
section
variable{K:ζ}
end
theorem tnx{D:bI}{σ:St}{H:Hp}(h:D.nx σ H):zg D σ H:=h
theorem gb{ns:List Int}{k:Int}(h0:0<=k)(h:k<(ns.length:Int)):∃v:Int,atI (ns.map V.int) k=some (.int v):=by
 have hk:k.toNat<ns.length:=by omega
 have q:atI (ns.map V.int) ((k.toNat:Nat):Int)=some (.int ns[k.toNat]):=ad (by rw[Ν,Γ hk]<;>rfl)
 have ek:k=((k.toNat:Nat):Int):=by omega
 rw[<-ek]at q
 exact⟨_,q⟩
theorem aL{a:Int}(n:Int)(h:0<n):0<=a%n/\a%n<n:=⟨E3 _ (),Ek _ h⟩
def aD(a:Addr)(H H':Hp):Prop:=∀g o,g≠a->H g=some o->H' g=some o
theorem aD.refl(a:Addr)(H:Hp):aD a H H:=λ_ _ _ e=>e
theorem aD.trans{a:Addr}{H H1 H2:Hp}(s:aD a H H1)(t:aD a H1 H2):aD a H H2:=λg o hg e=>t g o hg (s g o hg e)
theorem ae.b{H H':Hp}(a:Addr)(s:ae H H'):aD a H H':=λg o _ e=>s g o e
theorem aD.upd(H:Hp)(a:Addr)(o:HO):aD a H (upd H a o):=λg u hg e=>by rw[ai hg];exact e
theorem aD.same{a:Addr}{H H1 H2:Hp}(h:H a=none)(s:ae H H1)(t:aD a H1 H2):ae H H2:=λg o e=>t g o (af e h) (s g o e)
def bS(H H':Hp):Prop:=∀b zs,H b=some (.tup zs)->H' b=some (.tup zs)
theorem ae.tups{H H':Hp}(s:ae H H'):bS H H':=λb zs e=>s b _ e
theorem bS.trans{H H1 H2:Hp}(s:bS H H1)(t:bS H1 H2):bS H H2:=λb zs e=>t b zs (s b zs e)
theorem aD.tups{a:Addr}{H H':Hp}{xs:List V}(s:aD a H H')(h:H a=some (.lst xs)):bS H H':=λb zs e=>s b _ (λz=>by rw[z,h]at e;cases e) e
theorem aD.tupsD{a:Addr}{H H':Hp}{m:List (Key×V)}(s:aD a H H')(h:H a=some (.dK m)):bS H H':=λb zs e=>s b _ (λz=>by rw[z,h]at e;cases e) e
theorem aP{H H':Hp}:∀{ds:List Dv}{vs:List V},(∀d∈ds,∀v,Rep H d v->Rep H' d v)->Reps H ds vs->Reps H' ds vs
 |[],vs,_,h=>by simpa only[Reps]using h
 |d::ds,vs,f,h=>by
  simp only[Reps]at h⊢
  obtain⟨v,r,rfl,h1,h2⟩:=h
  exact⟨v,r,rfl,f d Δ v h1,aP (λe he=>f e (υ _ he)) h2⟩
theorem ce{H H':Hp}(t:bS H H'){n:Nat}{d:Dv}(h:L2.Pl n d):∀{v:V},Rep H d v->Rep H' d v:=by
 induction h with
 |int=>intro v r;simpa only[Rep]using r
 |str=>intro v r;simpa only[Rep]using r
 |non=>intro v r;simpa only[Rep]using r
 |tup _ ih=>
  intro v r
  simp only[Rep]at r⊢
  obtain⟨a,vs,rfl,ha,rs⟩:=r
  exact⟨a,vs,rfl,t _ _ ha,aP (λd hd v r=>ih d hd r) rs⟩
theorem fw(c:Int)(ps:List Pr):L2.Pl 3 (aY c ps):=.tup λd hd=>by
 rcases μ.mp hd with rfl|hd
 ·exact .int
 ·rw[θ.mp hd]
  refine .tup λe he=>?_
  obtain⟨p,_,rfl⟩:=Ζ.mp he
  refine .tup λg hg=>?_
  rcases μ.mp hg with rfl|hg
  ·exact .str
  ·rw[θ.mp hg];exact .int
theorem rX{c:TT}{tb:TS}{D:bI}{σ:St}{H:Hp}(Pv:Nat->St->Hp->Prop)(m:Nat)(h0:Pv m σ H)
  (hs:∀m σ H,Pv m σ H->c σ H λb H1=>if b=true then tb {D with nx:=λσ' H'=>∃m',m'<m/\Pv m' σ' H',ct:=λσ' H'=>∃m',m'<m/\Pv m' σ' H',bk:=D.nx} σ H1 else D.nx σ H1)
  (mono:∀σ H Q Q',(∀b H1,Q b H1->Q' b H1)->c σ H Q->c σ H Q'):qm c tb D σ H:=by
 refine⟨Pv,⟨m,h0⟩,λm σ H p=>mono σ H _ _ (λb H1 q=>?_) (hs m σ H p)⟩
 cases b with
 |true=>exact⟨_,λσ' H' q'=>q',q⟩
 |false=>exact q
theorem fz{K:ζ}{i:Nat}:∀σ H (Q Q':Bool->Hp->Prop),(∀b H1,Q b H1->Q' b H1)->(λ(σ:St) (H:Hp) (Q:Bool->Hp->Prop)=>ig i σ H λx H'=>∃k,yj K x H' k/\Q k H') σ H Q->(λ(σ:St) (H:Hp) (Q:Bool->Hp->Prop)=>ig i σ H λx H'=>∃k,yj K x H' k/\Q k H') σ H Q':=by
 rintro σ H Q Q' h ⟨v,e,k,t,q⟩
 exact⟨v,e,k,t,h _ _ q⟩
inductive Kd where
 |whole
 |place (c:Int) (ps:List Pr)
 |row (c:Int) (ps:List Pr) (k:Kd)
 |pair (k j:Kd)
def Kd.dv:Kd->Dv
 |.whole=>.tup [.str "whole"]
 |.place c ps=>.tup [.str "place",aY c ps]
 |.row c ps k=>.tup [.str "row",aY c ps,k.dv]
 |.pair k j=>.tup [.str "pair",k.dv,j.dv]
def Kd.size:Kd->Nat
 |.whole=>1
 |.place _ _=>1
 |.row _ _ k=>k.size+1
 |.pair k j=>k.size+j.size+1
theorem Kd.size_pos:∀k:Kd,1<=k.size
 |.whole=>ρ _
 |.place _ _=>ρ _
 |.row _ _ k=>by show 1<=k.size+1;omega
 |.pair k j=>by show 1<=k.size+j.size+1;omega
theorem Kd.pl:∀k:Kd,L2.Pl (k.size+3) k.dv
 |.whole=>.tup λd hd=>by rw[θ.mp hd];exact .str
 |.place c ps=>.tup λd hd=>by
  rcases μ.mp hd with rfl|hd
  ·exact .str
  ·rw[θ.mp hd];exact fw c ps
 |.row c ps k=>.tup λd hd=>by
  rcases μ.mp hd with rfl|hd
  ·exact .str
  rcases μ.mp hd with rfl|hd
  ·exact(fw c ps).up (by show 3<=k.size+3;omega)
  ·rw[θ.mp hd];exact k.pl
 |.pair k j=>.tup λd hd=>by
  rcases μ.mp hd with rfl|hd
  ·exact .str
  rcases μ.mp hd with rfl|hd
  ·exact k.pl.up (by show k.size+3<=k.size+j.size+3;omega)
  ·rw[θ.mp hd];exact j.pl.up (by show j.size+3<=k.size+j.size+3;omega)
def Kd.word:Kd->Str
 |.whole=>"whole"
 |.place _ _=>"place"
 |.row _ _ _=>"row"
 |.pair _ _=>"pair"
def Kd.kids:Kd->List Kd
 |.row _ _ k=>[k]
 |.pair k j=>[k,j]
 |_=>[]
def Kd.len?:Kd->Option (Int×List Pr)
 |.place c ps=>some (c,ps)
 |.row c ps _=>some (c,ps)
 |_=>none
def Kd.pts:Kd->List Kd
 |.row c ps k=>.row c ps k::k.pts
 |.pair k j=>.pair k j::(k.pts++j.pts)
 |k=>[k]
theorem Kd.pts_kids(k:Kd):k.pts=k::(k.kids.flatMap Kd.pts):=by
 cases k with
 |whole=>rfl
 |place c ps=>rfl
 |row c ps k=>simp[Kd.pts,Kd.kids]
 |pair k j=>simp[Kd.pts,Kd.kids]
theorem Kd.size_kids(k:Kd):k.size=1+(k.kids.map Kd.size).sum:=by
 cases k with
 |whole=>rfl
 |place c ps=>rfl
 |row c ps k=>simp[Kd.size,Kd.kids];omega
 |pair k j=>simp[Kd.size,Kd.kids];omega
theorem Kd.pts_len:∀k:Kd,k.pts.length=k.size
 |.whole=>rfl
 |.place _ _=>rfl
 |.row c ps k=>by show(k.pts.length)+1=k.size+1;rw[k.pts_len]
 |.pair k j=>by show(k.pts++j.pts).length+1=k.size+j.size+1;rw[χ,k.pts_len,j.pts_len]
def Kd.All(P:Int->List Pr->Prop):Kd->Prop
 |.whole=>True
 |.place c ps=>P c ps
 |.row c ps k=>P c ps/\k.All P
 |.pair k j=>k.All P/\j.All P
theorem Kd.tupS{H H':Hp}(t:bS H H'){k:Kd}{v:V}(r:Rep H k.dv v):Rep H' k.dv v:=ce t k.pl r
theorem Kd.inv{H:Hp}{k:Kd}{v:V}(r:Rep H k.dv v):∃a vs,v=.ref a/\H a=some (.tup (.str k.word::vs)) /\
  (match k with
   |.whole=>vs=[]
   |.place c ps=>∃l,vs=[l]/\Rep H (aY c ps) l
   |.row c ps j=>∃l u,vs=[l,u]/\Rep H (aY c ps) l/\Rep H j.dv u
   |.pair i j=>∃u w,vs=[u,w]/\Rep H i.dv u/\Rep H j.dv w):=by
 cases k with
 |whole=>
  simp only[Kd.dv,Rep,Reps]at r
  obtain⟨a,vs,rfl,ha,x,r1,rfl,rfl,rfl⟩:=r
  exact⟨a,[],rfl,ha,rfl⟩
 |place c ps=>
  rw[Kd.dv,Rep]at r
  obtain⟨a,vs,rfl,ha,rs⟩:=r
  simp only[Reps]at rs
  obtain⟨x,r1,rfl,hx,y,r2,rfl,hy,rfl⟩:=rs
  simp only[Rep]at hx
  subst hx
  exact⟨a,_,rfl,ha,y,rfl,hy⟩
 |row c ps j=>
  rw[Kd.dv,Rep]at r
  obtain⟨a,vs,rfl,ha,rs⟩:=r
  simp only[Reps]at rs
  obtain⟨x,r1,rfl,hx,y,r2,rfl,hy,z,r3,rfl,hz,rfl⟩:=rs
  simp only[Rep]at hx
  subst hx
  exact⟨a,_,rfl,ha,y,z,rfl,hy,hz⟩
 |pair i j=>
  rw[Kd.dv,Rep]at r
  obtain⟨a,vs,rfl,ha,rs⟩:=r
  simp only[Reps]at rs
  obtain⟨x,r1,rfl,hx,y,r2,rfl,hy,z,r3,rfl,hz,rfl⟩:=rs
  simp only[Rep]at hx
  subst hx
  exact⟨a,_,rfl,ha,y,z,rfl,hy,hz⟩
theorem ij{H:Hp}{a:Addr}(h:H a=some (.tup [.str "whole"])):Rep H Kd.whole.dv (.ref a):=by
 simp only[Kd.dv,Rep,Reps]
 exact⟨a,_,rfl,h,_,_,rfl,rfl,rfl⟩
theorem cU{H:Hp}{a:Addr}{l:V}{c:Int}{ps:List Pr}(h:H a=some (.tup [.str "place",l]))(r:Rep H (aY c ps) l):Rep H (Kd.place c ps).dv (.ref a):=by
 rw[Kd.dv,Rep]
 refine⟨a,_,rfl,h,?_⟩
 simp only[Reps]
 exact⟨_,_,rfl,by simp only[Rep],_,_,rfl,r,rfl⟩
theorem eC{H:Hp}{a:Addr}{l u:V}{c:Int}{ps:List Pr}{k:Kd}(h:H a=some (.tup [.str "row",l,u]))(r:Rep H (aY c ps) l)(r2:Rep H k.dv u):Rep H (Kd.row c ps k).dv (.ref a):=by
 rw[Kd.dv,Rep]
 refine⟨a,_,rfl,h,?_⟩
 simp only[Reps]
 exact⟨_,_,rfl,by simp only[Rep],_,_,rfl,r,_,_,rfl,r2,rfl⟩
theorem jM{H:Hp}{a:Addr}{l u:V}{j k:Kd}(h:H a=some (.tup [.str "pair",l,u]))(r:Rep H j.dv l)(r2:Rep H k.dv u):Rep H (Kd.pair j k).dv (.ref a):=by
 rw[Kd.dv,Rep]
 refine⟨a,_,rfl,h,?_⟩
 simp only[Reps]
 exact⟨_,_,rfl,by simp only[Rep],_,_,rfl,r,_,_,rfl,r2,rfl⟩
theorem ik{G H2:Hp}{kvs:List Pr}{qs:List TK}(hq:∀r∈qs,H2 r.1=some (.tup (.str r.2.1::r.2.2))/\G r.1=none)(pq:(qs.map (·.2)).Perm ((kvs.map λp=>(p.1,V.int p.2)).map λp=>(p.1,[p.2])))(pw:qs.Pairwise wN)(hall:∀p∈kvs,1<=p.2):
  (qs.map tkV).Perm kvs/\rm (qs.map tkV)/\∀t,H2 t=none->Rep (upd H2 t (.tup (qs.map λr=>V.ref r.1))) (.tup (aE (qs.map tkV))) (.ref t):=by
 have shape:∀r∈qs,∃p∈kvs,r.2=(p.1,[V.int p.2]):=λr hr'=>by
  have:=pq.mem_iff.mp (h_ (f:=(·.2)) hr')
  rw[ύ]at this
  obtain⟨p,hp,e⟩:=Ζ.mp this
  exact⟨p,hp,e.symm⟩
 have tk:∀r∈qs,r.2.1=(tkV r).1/\r.2.2=[V.int (tkV r).2]:=λr hr'=>by
  obtain⟨p,_,e⟩:=shape r hr'
  unfold tkV
  rw[e]
  exact⟨rfl,rfl⟩
 have perm:(qs.map tkV).Perm kvs:=by
  have e1:qs.map tkV=(qs.map (·.2)).map λz=>(z.1,match z.2 with| [.int n]=>n|_=>0):=by
   rw[ύ];rfl
  have e2:kvs=((kvs.map λp=>(p.1,V.int p.2)).map λp=>(p.1,[p.2])).map λz=>(z.1,match z.2 with| [.int n]=>n|_=>0):=by
   rw[ύ,ύ]
   exact(List.map_id kvs).symm
  rw[e1]
  rw[e2]
  exact pq.map _
 refine⟨perm,⟨DC.mpr (pw.imp λ{x y} h=>h),λp hp=>hall p (perm.mem_iff.mp hp)⟩,λt ht=>?_⟩
 simp only[Rep]
 refine⟨t,_,rfl,aa,lh λr hr'=>?_⟩
 have:=(hq r hr').1
 rw[(tk r hr').1,(tk r hr').2]at this
 exact ac ht _ _ _ this
theorem oJ{H:Hp}{c:Int}{ps:List Pr}{p:Addr}{w:V}(hp:H p=some (.tup [.int c,w]))(R:Rep H (.tup (aE ps)) w):Rep H (aY c ps) (.ref p):=by
 obtain⟨b,us,rfl,hb,ru⟩:=Rep.tup_inv R
 exact len_rep hp hb ru
theorem cC{H:Hp}:∀{ds:List Dv}{d:Dv}{vs:List V},Reps H (ds++[d]) vs->∃vs0 v,vs=vs0++[v]/\Reps H ds vs0/\Rep H d v
 |[],d,vs,h=>by
  simp only[Ee,Reps]at h
  obtain⟨v,r,rfl,hv,rfl⟩:=h
  exact⟨[],v,rfl,by simp only[Reps],hv⟩
 |e::ds,d,vs,h=>by
  simp only[EI,Reps]at h
  obtain⟨v,r,rfl,hv,hr⟩:=h
  obtain⟨vs0,u,rfl,h1,h2⟩:=cC hr
  exact⟨v::vs0,u,rfl,by simp only[Reps];exact⟨v,vs0,rfl,hv,h1⟩,h2⟩
theorem aK{H:Hp}{d:Dv}{v:V}(h:Rep H d v):Reps H [d] [v]:=by simp only[Reps];exact⟨v,[],rfl,h,rfl⟩
theorem dH(vs:List V)(v:V):(vs++[v])[(vs++[v]).length-1]?=some v:=by simp
theorem rW{t1 t2:TT}{σ:St}{H:Hp}{Q:Bool->Hp->Prop}(C:Prop)(qT:C->Q true H)(qF:Q false H)(f:(C->Q true H)->Q false H->tj t1 t2 σ H Q):tj t1 t2 σ H Q:=f qT qF
theorem fV{α:Type}:∀{l:List α},l≠[]->∃l0 x,l=l0++[x]:=λ{l} h=>by
 rcases List.eq_nil_or_concat l with e|⟨l0,x,e⟩
 ·exact absurd e h
 ·exact⟨l0,x,by rw[e];simp⟩
theorem gnm{i:Nat}{x:V}{σ:St}{H:Hp}{N:St->Hp->Prop}(h:N (σ.set i (some x)) H):cu i x σ H N:=h
theorem ifT{A B:Prop}(h:if true=true then A else B):A:=by rwa[Q0 rfl]at h
theorem ifF{A B:Prop}(h:if false=true then A else B):B:=by rwa[Q6 Κ]at h
def ux:Option (Int×List Pr)->Dv
 |some p=>aY p.1 p.2
 |none=>.non
theorem Cu:¬ (ξ "whole"=ξ "place"):=by decide +kernel
theorem Ce:¬ (ξ "whole"=ξ "row"):=by decide +kernel
theorem Da:¬ (ξ "whole"=ξ "pair"):=by decide +kernel
theorem BN:¬ (ξ "place"=ξ "row"):=by decide +kernel
theorem BG:¬ (ξ "place"=ξ "pair"):=by decide +kernel
theorem Cm:¬ (ξ "row"=ξ "pair"):=by decide +kernel
theorem wne{x y:Str}(h:¬ x=y):¬ V.str x=V.str y:=λe=>h (V.str.inj e)
end KB
namespace L2
open PySem PySem.Spec PyProof.Rows PySem.W
section
variable{X:Cx}
end
end L2
namespace KB
open PySem L2
theorem bi{H:Hp}{α:Type}{f:α->Dv}{xs:List α}{us:List V}{i:Nat}{u:V}(R:Reps H (xs.map f) us)(h:us[i]?=some u):∃x,xs[i]?=some x/\Rep H (f x) u:=by
 obtain⟨d,hd,Rd⟩:=R.get h
 rw[Ν]at hd
 obtain⟨x,hx,rfl⟩:=c6.mp hd
 exact⟨x,hx,Rd⟩
theorem xy{H:Hp}{x:Option (Int×List Pr)}{u:V}(R:Rep H (ux x) u):(x=none/\u=.non)\/∃p ds,x=some p/\ux x=.tup ds/\Rep H (.tup ds) u:=by
 cases x with
 |none=>exact .inl ⟨rfl,by simpa only[ux,Rep]using R⟩
 |some p=>exact .inr ⟨p,_,rfl,rfl,R⟩
theorem zu{H:Hp}{k:Kd}{v:V}(R:Rep H k.dv v):∃a vs,v=.ref a/\H a=some (.tup (.str k.word::vs)):=by
 obtain⟨a,vs,e,ha,_⟩:=Kd.inv R
 exact⟨a,vs,e,ha⟩
theorem AN{t1 t2:TT}{σ:St}{H:Hp}{Q:Bool->Hp->Prop}(C:Prop)(qT:C->∀H',ae H H'->Q true H')(qF:∀H',ae H H'->Q false H')(f:(C->∀H',ae H H'->Q true H')->(∀H',ae H H'->Q false H')->tj t1 t2 σ H Q):tj t1 t2 σ H Q:=f qT qF
theorem Ad(xs:List V)(n:Nat)(h:n<=xs.length):aH xs none (some (n:Int))=xs.take n:=by
 unfold aH
 rw[HT.sIx_none,HT.sIx_nat]
 simp[Dp h]
end KB
namespace L2
open PySem PySem.Spec PyProof.Rows PySem.W
section
variable{P:Α}{w:Υ}{A:Ω}{E:δ->η->Prop}{s:η}
theorem jT{l:Addr}{items:Array δ}{ys:List Str}{Q:δ->η->Prop}(hh:A.handled=none)(hl:s.heap.IsTuple l items)(hi:∀(i:Nat)(v:δ),items[i]?=some v->∃t,v=.str (ys.getD i default) t)(hb:items.size+1<scanBound)
  (h:∀(h':Heap)(tk:Nat),cL P w h' s.heap.objs.size (uq (λi=>ys.getD i default) items.size)->(∀b o,b<s.heap.objs.size->s.heap.get? b=some o->h'.get? b=some o)->Q (.ref s.heap.objs.size) {s with heap:=h',toks:=tk}):
  wpAny (model P w) A (call (.type "set") [.ref l]) Q E s:=by
 obtain⟨c,tl,hmro⟩:=Ϝ.mro
 have hmade:=Ϝ.made
 have hsub:=Ϝ.sub
 refine Eg (EY ?_)
 show wpAny _ _ (callAny (.type "set") _) _ _ _
 refine ν ⟨A3 _ (),ϴ PySem.F.entry_type_call ?_⟩
 rw[Ω.under_plain (weight_type_call_type "set" [.ref l] []) rfl]
 have h1:=Ϝ.notType
 have h2:=Ϝ.canCreate
 have hct:=PySem.F.typeCall_set_1 (.ref l)
 repeat (any_goals (first|assumption|wp_step))
 refine B3 (eQ (.ref l) (E:=E) (Q₁:=λobj s₁=>obj=.ref s.heap.objs.size/\s₁={s with heap:=s.heap.push (aZ w)}) ⟨rfl,rfl⟩) λr s₁ hr=>?_
 cases r with
 |error e=>exact hr
 |ok fl=>
  cases fl with
  |ret obj=>
   obtain⟨rfl,rfl⟩:=hr
   have hS:(s.heap.push (aZ w)).get? s.heap.objs.size=some (aZ w):=ψ _ rfl
   have hT:η.TypeIs {s with heap:=s.heap.push (aZ w)} (.ref s.heap.objs.size) "set":=⟨_,hS,rfl⟩
   have hli:=Ϝ.init.lookup
   have hbi:=Ϝ.init.bind (.ref s.heap.objs.size)
   repeat (any_goals (first|assumption|wp_step))
   refine B3 (j6 (R:=wants (λr s₂=>r=.none/\∃h' tk,s₂={s with heap:=h',toks:=tk}/\cL P w h' s.heap.objs.size (uq (λi=>ys.getD i default) items.size)/\(∀b o,b<s.heap.objs.size->s.heap.get? b=some o->h'.get? b=some o)) E)
    Ϝ.init.plain PySem.F.entry_set_init (check_set_init_1 hT ?_)) λr₂ s₂ hr₂=>?_
   ·obtain⟨ol,hol,hcl,nl,hdl⟩:=hl
    obtain⟨ocls,odict,odata,oslots⟩:=ol
    simp only at hcl hdl
    subst hcl;subst hdl
    have hol':(s.heap.push (aZ w)).get? l=some {cls:=.type "tuple",dict:=odict,data:=.seq items nl,slots:=oslots}:=ι _ hol
    have hsls:=PySem.F.sub_tuple_set
    have hslf:=PySem.F.sub_tuple_frozenset
    have hne:(x5 "tuple" == x5 "dict")=false:=by decide
    have hl1:(s.heap.push (aZ w)).IsTuple l items:=⟨_,hol',rfl,nl,rfl⟩
    unfold aZ at hS hT hol' hl1⊢
    unfold Ϥ.«set.__init__» noKeywords EZ
    generalize hPI:pyIter=PI
    wp_walk
    subst hPI
    refine C9 hl1 ?_
    refine γ (Fk ?_)
    have hlS:l<s.heap.objs.size:=ς hol
    have hh3:A.in1.in1.in1.handled=none:=by simp[hh]
    have hneI:l≠(s.heap.push (aZ w)).objs.size:=by
     rw[ϩ];exact Ρ (r_ hlS)
    have hSf:s.heap.objs.size∉[(s.heap.push (aZ w)).objs.size,l]:=by
     rw[ϩ];simp only[μ,θ,g_,or_false,not_or]
     exact⟨Ρ (DS _),m6 hlS⟩
    refine nJ ((Ga.tuple hh3 _ l hneI items).toS) s.heap.objs.size hSf (λi=>ys.getD i default) hi hb (items.size-0) 0 _ () (Ξ _)
     ⟨⟨_,ψ _ rfl,rfl,rfl⟩,(hl1.push _)⟩ ?hS0 ?hR
    case hS0=>exact(jR s.heap).at' λo e=>ι _ e
    case hR=>
     intro s' hm hS'
     obtain⟨h',g',d',tk',os'⟩:=s'
     have eg:g'=s.gens:=hm.gens
     have ed:d'=s.drawn:=hm.drawn
     have eo:os'=s.os:=hm.os
     subst eg;subst ed;subst eo
     show wpAny _ _ _ _ _ _
     refine ν ?_
     show wpAny _ _ (ret a8) _ _ _
     refine ν ⟨rfl,h',tk',rfl,hS',λb o hb e=>?_⟩
     have hb1:b≠s.heap.objs.size:=Ρ hb
     have hb2:b≠(s.heap.push (aZ w)).objs.size:=by
      rw[ϩ];exact Ρ (r_ hb)
     exact hm.heap b o (by simp only[μ,θ,g_,or_false,not_or];exact⟨hb1,hb2⟩) (ι _ (ι _ e))
   ·cases r₂ with
    |error e=>exact hr₂
    |ok fl₂=>
     cases fl₂ with
     |ret r=>
      obtain⟨rfl,h',tk,rfl,hS',hk'⟩:=hr₂
      repeat (any_goals (first|assumption|wp_step))
      exact h _ _ hS' hk'
     |_=>exact hr₂.elim
  |_=>exact hr.elim
end
section
variable{X:Cx}
theorem ps_dead{st:Stmt}:PS X st (λ_ _ _=>False):=λ_ _ _ _ _ _ h=>h.elim
theorem kZ(hc:X.calm=true):bz X (.type "set") (λxs H Q=>∃(l:Addr) (ys:List Str),xs=[.ref l]/\(SqL X.K H l (ys.map V.str)\/SqT X.K H l (ys.map V.str))/\ys.length<=1000 /\
  ∀(a:Addr)(zs:List Str),H a=none->zs.Nodup->(∀x,x∈zs↔x∈ys)->zs.length<=ys.length->Q (.ref a) (upd H a (SetO X.prog X.w a zs))):=by
 intro pins s σ H xs us Q I r h
 obtain⟨l,ys,rfl,hq|hq,hy,q⟩:=h
 ·exact uD hc pins s σ H _ us Q I r ⟨l,ys,rfl,hq,hy,q⟩
 obtain⟨u,rfl,ru⟩:=cj r
 cases ru
 obtain⟨its,rv,p,hz⟩:=I.tuple hq
 have li:its.length=ys.length:=by have:=rv.length;rw[ε]at this;exact this.symm
 have hb:its.toArray.size+1<scanBound:=by rw[π,li];unfold scanBound;omega
 refine jT (ys:=ys) (I.ok.hd hc) p (λi v hv=>?_) hb λh' tk hS k=>?_
 ·have hv':its[i]?=some v:=by simpa using hv
  have hi:i<ys.length:=by rw[<-li];exact(ο.mp hv').1
  obtain⟨t,e⟩:=cP rv i hi
  refine⟨t,?_⟩
  rw[<-e]
  simp[x4,hv']
 ·have sz:its.toArray.size=ys.length:=by rw[π,li]
  rw[sz]at hS
  refine⟨.ref s.heap.objs.size,_,I.laid (a:=s.heap.objs.size) (o:=SetO X.prog X.w s.heap.objs.size (uq (λi=>ys.getD i default) ys.length)) (t':=tk) (λb u e=>k b u (ς e) e) (ρ _) ?_,rfl,q _ _ I.fresh (gy _ _) (λx=>?_) (lD _ _)⟩
  ·refine⟨hS,?_,λh1 h2 x kk=>cL.at' x kk⟩
   obtain⟨o,_,_,_,ho,_⟩:=hS
   exact⟨o,ho⟩
  ·rw[qa]
   constructor
   ·rintro⟨j,hj,rfl⟩
    have e:ys.getD j default=ys[j]:=by simp[x4,hj]
    rw[e];exact f_ hj
   ·intro hx
    obtain⟨j,hj,rfl⟩:=t_ hx
    exact⟨j,hj,by simp[x4,hj]⟩
theorem kY:bz X (.builtin "len") (λxs H Q=>∃(a:Addr) (zs:List Str),xs=[.ref a]/\H a=some (SetO X.prog X.w a zs)/\Q (.int (zs.length:Nat)) H):=by
 intro pins s σ H xs us Q I r h
 obtain⟨a,zs,rfl,ha,q⟩:=h
 obtain⟨u,rfl,ru⟩:=cj r
 cases ru
 obtain⟨hS,_,_⟩:=(show aM X.prog X.w H s.heap a (SetO X.prog X.w a zs)from I.hok a _ ha)
 obtain⟨o,es,ep,t,ho,hex,hd,_,hb,hf,_,_,hp⟩:=hS
 have e:es.size=zs.length:=by have:=hp.length_eq;rw[ε,Ϩ]at this;exact this
 refine call_len_set ho hex hd hf (by unfold scanBound at hb;omega) ⟨.int (zs.length:Nat),H,I.tok _,⟨_,by rw[e]⟩,q⟩
theorem oh{x y:V}{u:δ}(h:aw x u)(g:aw y u):x=y:=by
 cases x<;>cases y<;>simp only[aw]at h g<;>first|(obtain⟨_,rfl⟩:=h;obtain⟨_,g⟩:=g;cases g;rfl)|(obtain⟨_,rfl⟩:=h;obtain⟨_,g⟩:=g;cases g;done)|(obtain⟨_,rfl⟩:=h;cases g;done)|(subst h;obtain⟨_,g⟩:=g;cases g;done)|(subst h;cases g;rfl)|(subst h;cases g;done)|rfl
theorem jK{H:Hp}:∀{ds:List Dv}{vs:List V}{us:List δ},Reps H ds vs->ar vs us->∀u∈us,∃d v,d∈ds/\Rep H d v/\aw v u
 |_,_,_,R,.nil,u,hu=>nomatch hu
 |[],_,_,R,.cons _ _,_,_=>by simp[Reps]at R
 |d::ds,_,_,R,.cons r t,u,hu=>by
  simp only[Reps]at R
  obtain⟨v,vs,e,R1,R2⟩:=R
  cases e
  rcases μ.mp hu with rfl|hu
  ·exact⟨d,_,Δ,R1,r⟩
  ·obtain⟨d',v',h1,h2,h3⟩:=jK R2 t u hu
   exact⟨d',v',υ _ h1,h2,h3⟩
theorem iY{H:Hp}:∀{ds:List Dv}{vs:List V}{us:List δ},Reps H ds vs->ar vs us->∀d∈ds,∃u v,u∈us/\Rep H d v/\aw v u
 |[],_,_,_,_,d,hd=>nomatch hd
 |_::_,_,_,R,.nil,_,_=>by simp[Reps]at R
 |d::ds,_,_,R,.cons r t,e,he=>by
  simp only[Reps]at R
  obtain⟨v,vs,e1,R1,R2⟩:=R
  cases e1
  rcases μ.mp he with rfl|he
  ·exact⟨_,_,Δ,R1,r⟩
  ·obtain⟨u',v',h1,h2,h3⟩:=iY R2 t e he
   exact⟨u',v',υ _ h1,h2,h3⟩
def CL(K:ζ):R2:=λx y H Q=>∃(p:Addr) (xs:List V) (n:Nat) (d:Dv) (ds:List Dv),y=.ref p/\SqL K H p xs/\Reps H ds xs/\(∀e∈ds,Pl n e)/\Pl n d/\n<=140/\Rep H d x/\∀b:Bool,(b=true↔d∈ds)->Q (.bl b) H
theorem AF(hu:X.A.units+150<cLine):OpR X (compareOp .In) (CL X.K):=by
 intro pins s σ H x y v u Q I rx ry h
 obtain⟨p,xs,n,d,ds,rfl,hq,R,hp,hd,hn,Rx,q⟩:=h
 cases ry
 obtain⟨its,r,pl,hz⟩:=I.list hq
 have f:∀w∈its,∃e∈ds,Ϟ X.A.in1 s w v (bN (∃z,aw z w/\Rep H d z))/\(bN (∃z,aw z w/\Rep H d z)=true↔e=d):=λw hw=>by
  obtain⟨e,y,he,Re,ry⟩:=jK R r w hw
  have E:=iQ I (hp e he) hd (A:=X.A.in1) (by show X.A.units+1+n<cLine;omega) Re Rx ry rx
  have iff:(∃z,aw z w/\Rep H d z)↔e=d:=⟨λ⟨z,h1,h2⟩=>Rep.inj _ _ _ Re (oh h1 ry▸h2),λz=>⟨y,ry,z▸Re⟩⟩
  have e2:bN (∃z,aw z w/\Rep H d z)=bN (e=d):=cz (by rw[bn];exact iff)
  exact⟨e,he,e2▸E,by rw[bn];exact iff⟩
 refine SeqAt.in_listAt (λw=>bN (∃z,aw z w/\Rep H d z)) pl.isList (λw hw=>(f w (by simpa using hw)).choose_spec.2.1) ⟨.bl _,H,I,rfl,q _ ?_⟩
 rw[show its.toArray.any (λw=>bN (∃z,aw z w/\Rep H d z))=its.any (λw=>bN (∃z,aw z w/\Rep H d z)) by simp,a_]
 constructor
 ·rintro⟨w,hw,e⟩
  obtain⟨e',he,_,i⟩:=f w hw
  rw[<-i.mp e];exact he
 ·intro hm
  obtain⟨w,y,hw,Ry,ry⟩:=iY R r d hm
  exact⟨w,hw,bn.mpr ⟨y,ry,Ry⟩⟩
def BL(neg:Bool):R2:=λy x H Q=>∃a o,x=.ref a/\fO H a y o/\Q (.bl (if neg then !o.isSome else o.isSome)) H
theorem qb(hu:X.A.units+1<cLine):OpR X (compareOp .In) (BL false):=by
 intro pins s σ H y x iv u Q I ry rx h
 obtain⟨a,ov,rfl,g,q⟩:=h
 obtain rfl:u=Ε a:=rx
 exact CQ hu I g ry λs3 I3=>⟨.bl ov.isSome,H,I3,rfl,q⟩
theorem kN(hu:X.A.units+1<cLine):OpR X (compareOp .NotIn) (BL true):=by
 intro pins s σ H y x iv u Q I ry rx h
 obtain⟨a,ov,rfl,g,q⟩:=h
 obtain rfl:u=Ε a:=rx
 exact yh hu I g ry λs3 I3=>⟨.bl (!ov.isSome),H,I3,rfl,q⟩
theorem lY(hu:X.A.units<cLine):OpR X (compareOp .NotEq) (λx y H Q=>∃(l b:Addr) (xs:List V),x=.ref l/\y=.ref b/\SqL X.K H l xs/\SqL X.K H b []/\Q (.bl (!xs.isEmpty)) H):=by
 intro pins s σ H x y v u Q I rx ry h
 obtain⟨l,b,xs,rfl,rfl,hl,hb,q⟩:=h
 cases rx
 cases ry
 obtain⟨its,r1,p1,_⟩:=I.list hl
 obtain⟨its2,r2,p2,_⟩:=I.list hb
 have l1:=r1.length
 have l2:=r2.length
 cases xs with
 |nil=>
  refine SeqAt.RcNeAt.lists (e:=λ_=>true) p1.isList p2.isList (by simp;omega) hu (λj h1 h2=>?_) X.prog X.w X.xe _ ?_
  ·have:j<its.length:=by simpa using h1
   simp at l1;omega
  ·have e:(!((ϋ its.toArray.size).all λ_=>true))=false:=by simp
   rw[e]
   exact⟨.bl false,H,I,rfl,q⟩
 |cons x xs=>
  refine SeqAt.RcNeAt.lists_lengths p1.isList p2.isList ?_ hu X.prog X.w X.xe _ ⟨.bl true,H,I,rfl,q⟩
  rw[ϒ]at l1
  rw[Ed]at l2
  rw[π,π,bne_iff_ne]
  omega
def BO:R2:=λx y H Q=>∃(n:Nat) (ds:List Dv),(∀d∈ds,Pl n d)/\n<=140/\Rep H (.lst ds) x/\Rep H (.lst ds) y/\Q (.bl true) H
theorem yg(hu:X.A.units+150<cLine):OpR X (compareOp .Eq) BO:=by
 intro pins s σ H x y v u Q I rx ry h
 obtain⟨n,ds,hd,hn,r1,r2,q⟩:=h
 simp only[Rep]at r1 r2
 obtain⟨l,vs,rfl,h1,rs1⟩:=r1
 obtain⟨b',ws,rfl,h2,rs2⟩:=r2
 cases rx
 cases ry
 obtain⟨its,rv1,p1,_⟩:=I.list (SqL.of h1)
 obtain⟨its2,rv2,p2,_⟩:=I.list (SqL.of h2)
 have hu':X.A.in1.units+n<cLine:=by show X.A.units+1+n<cLine;omega
 obtain⟨z1,z2,w⟩:=eZ I (A:=X.A.in1) (n:=n) (λd hd1 e he v w a b r1 r2 q1 q2=>iQ I (hd d hd1) (hd e he) hu' r1 r2 q1 q2) rs1 rs2 rv1 rv2
 refine FY (e:=λj=>bN (ds[j]?=ds[j]?)) p1.isList p2.isList () () w X.prog X.w X.xe _ ?_
 have e:((ϋ its.toArray.size).all λj=>bN (ds[j]?=ds[j]?))=true:=by
  rw[e_]
  exactλj _=>bn.mpr rfl
 rw[e]
 exact⟨.bl true,H,I,rfl,q⟩
theorem uc:bz X (.builtin "len") (λvs H Q=>∃d m,vs=[V.ref d]/\H d=some (.dK m)/\Q (.int m.length) H):=λpins s σ H vs us Q I r h=>by
 obtain⟨d,m,rfl,hd,q⟩:=h
 obtain⟨u,rfl,ru⟩:=cj r
 cases ru
 exact Cl I (.inl hd) λt _ J=>⟨.int m.length,H,J,⟨t,rfl⟩,q⟩
end
theorem xa(l:Addr)(items:Array δ)(n:Nat)(dct:Option Addr)(slt:Array (Option δ))(t:Tok)(hc1:¬(items.isEmpty||(0:Int)==1)=true):
  Meets (Ϥ.«tuple.__mul__» ⟨[.ref l,.int 0 t],[]⟩) (λ_ R s=>s.heap.get? l=some {cls:=.type "tuple",dict:=dct,data:=.seq items n,slots:=slt}/\R (.ok (.ret (.ref s.heap.objs.size))) {s with heap:=s.heap.push {cls:=.type "tuple",data:=.seq #[]} }):=
 .of_wp λprog w A R s h=>by
  obtain⟨hp,g,d,tk,os⟩:=s
  obtain⟨hl,h⟩:=h
  have f1:=EJ
  have f2:=B8
  have hc0:¬(decide ((0:Int) < -2^63)||decide ((0:Int)>=2^63))=true:=by decide
  have hc2:(decide ((0:Int)<=0)||items.isEmpty)=true:=by simp
  wp_walk using Ϲ hl
  rw[Q6 hc1]
  show wpAny _ _ (if (decide ((0:Int)<=0)||items.isEmpty)=true then _ else _) _ _ _
  rw[Q0 hc2]
  refine γ (m:=ϡ _) (ϝ (ν ⟨_,rfl,h⟩) (Ξ _))
theorem vR(l:Addr)(items:Array δ)(n:Nat)(dct:Option Addr)(slt:Array (Option δ))(t:Tok):
  Meets (Ϥ.«tuple.__mul__» ⟨[.ref l,.int 1 t],[]⟩) (λ_ R s=>s.heap.get? l=some {cls:=.type "tuple",dict:=dct,data:=.seq items n,slots:=slt}/\R (.ok (.ret (.ref l))) s):=
 .of_wp λprog w A R s h=>by
  obtain⟨hp,g,d,tk,os⟩:=s
  obtain⟨hl,h⟩:=h
  have f1:=EJ
  have f2:=B8
  have hc0:¬(decide ((1:Int) < -2^63)||decide ((1:Int)>=2^63))=true:=by decide
  have hc1:(items.isEmpty||(1:Int)==1)=true:=by simp
  wp_walk using Ϲ hl
  exact⟨_,rfl,h⟩
section
variable{X:Cx}
def zI(K:ζ):R2:=λx y H Q=>∃l k xs,x=.ref l/\y=.int k/\SqT K H l xs/\xs≠[]/\0<=k/\k<=1000/\xs.length*k.toNat<=1000/\(k=1->Q (.ref l) H)/\(k≠1->∀p,H p=none->Q (.ref p) (upd H p (.tup (Β k.toNat xs).flatten)))
theorem yO:OpR X (binaryOp .Mult) (zI X.K):=by
 intro pins s σ H x y v u Q I rx ry h
 obtain⟨l,k,xs,rfl,rfl,hx,ne,k0,k3,hz,q1,q2⟩:=h
 by_cases h2:2<=k
 ·exact yv pins s σ H _ _ v u Q I rx ry ⟨l,k,xs,rfl,rfl,hx,ne,h2,k3,hz,q2 ()⟩
 cases rx
 obtain⟨t,rfl⟩:=ry
 obtain⟨its,r,⟨⟨cls,dd,data,sl⟩,e,hc,n,hd⟩,z⟩:=I.tuple hx
 simp only at hc hd
 subst hc hd
 have hl:=r.length
 have hne:its≠[]:=λe=>ne (List.length_eq_zero_iff.mp (by rw[hl,e];rfl))
 have hemp:its.toArray.isEmpty=false:=by simpa using hne
 rcases(by omega:k=0\/k=1)with rfl|rfl
 ·refine A8 (T:="tuple") (U:="int") () ⟨_,e,rfl⟩ (λs'=>DK s' 0 t) bT EV x6 cZ EF.lookup
   (r9 x6 (DK s 0 t) EG (Ew _ _) (cY 0 t l its.toArray n dd sl)
    ⟨e,rfl,⟨_,e,rfl⟩,r9 FZ ⟨_,e,rfl⟩ FH (Fn _ _) (xa l its.toArray n dd sl t (by rw[hemp];decide)) ⟨e,?_⟩⟩)
  refine⟨.ref _,_,I.laid (t':=s.toks) (o:=.tup []) (λb ob q=>ι _ q) (ρ _) ?_,rfl,q2 () _ (I.hok.fresh (ρ _))⟩
  exact⟨Ξ _,[],.nil,FR _ _,NoD.new _ rfl⟩
 ·refine A8 (T:="tuple") (U:="int") () ⟨_,e,rfl⟩ (λs'=>DK s' 1 t) bT EV x6 cZ EF.lookup
   (r9 x6 (DK s 1 t) EG (Ew _ _) (cY 1 t l its.toArray n dd sl)
    ⟨e,rfl,⟨_,e,rfl⟩,r9 FZ ⟨_,e,rfl⟩ FH (Fn _ _) (vR l its.toArray n dd sl t) ⟨e,?_⟩⟩)
  exact⟨.ref l,H,I,rfl,q1 rfl⟩
def rP(K:ζ):R2:=λx y H Q=>∃(p:Addr) (xs:List V) (n:Nat) (d:Dv) (ds:List Dv),y=.ref p/\SqL K H p xs/\Reps H ds xs/\(∀e∈ds,Pl n e)/\Pl n d/\n<=140/\Rep H d x/\∀b:Bool,(b=true↔d∉ds)->Q (.bl b) H
theorem tM(hu:X.A.units+150<cLine):OpR X (compareOp .NotIn) (rP X.K):=by
 intro pins s σ H x y v u Q I rx ry h
 obtain⟨p,xs,n,d,ds,rfl,hq,R,hp,hd,hn,Rx,q⟩:=h
 cases ry
 obtain⟨its,r,pl,hz⟩:=I.list hq
 have f:∀w∈its,∃e∈ds,Ϟ X.A.in1 s w v (bN (∃z,aw z w/\Rep H d z))/\(bN (∃z,aw z w/\Rep H d z)=true↔e=d):=λw hw=>by
  obtain⟨e,y,he,Re,ry⟩:=jK R r w hw
  have E:=iQ I (hp e he) hd (A:=X.A.in1) (by show X.A.units+1+n<cLine;omega) Re Rx ry rx
  have iff:(∃z,aw z w/\Rep H d z)↔e=d:=⟨λ⟨z,h1,h2⟩=>Rep.inj _ _ _ Re (oh h1 ry▸h2),λz=>⟨y,ry,z▸Re⟩⟩
  have e2:bN (∃z,aw z w/\Rep H d z)=bN (e=d):=cz (by rw[bn];exact iff)
  exact⟨e,he,e2▸E,by rw[bn];exact iff⟩
 refine SeqAt.notIn_listAt (λw=>bN (∃z,aw z w/\Rep H d z)) pl.isList (λw hw=>(f w (by simpa using hw)).choose_spec.2.1) ⟨.bl _,H,I,rfl,q _ ?_⟩
 rw[show its.toArray.any (λw=>bN (∃z,aw z w/\Rep H d z))=its.any (λw=>bN (∃z,aw z w/\Rep H d z)) by simp,Bool.not_eq_true',Dt]
 constructor
 ·intro h hm
  obtain⟨w,y,hw,Ry,ry⟩:=iY R r d hm
  exact h w hw (bn.mpr ⟨y,ry,Ry⟩)
 ·intro hm w hw e
  obtain⟨e',he,_,i⟩:=f w hw
  exact hm (i.mp e▸he)
theorem Cs(K:ζ)(e:X.K=K)(hu:X.A.units+150<cLine):OpR X (compareOp .NotIn) (rP K):=by subst e;exact tM hu
end
section
variable{cmp:Nat->Nat->(Bool->η->Prop)->η->Prop}{n:Nat}{s:η}
def Ans(cmp:Nat->Nat->(Bool->η->Prop)->η->Prop)(n:Nat)(s:η):Prop:=∀i j C,i<n->j<n->(∀b,C b s)->cmp i j C s
theorem jJ{α:Type}{b:Bool}{t u:KasT α}{Q:α->η->Prop}(h1:t.kasWp cmp Q s)(h2:u.kasWp cmp Q s):(if b=true then t else u).kasWp cmp Q s:=by
 cases b
 ·exact h2
 ·exact h1
theorem gl{p:Array Nat}{i m:Nat}(r:Re n p):Re n (GE p i m):=Re.of_perm ((mirror_perm p i m _).trans r.perm)
theorem mO{p:Array Nat}{Q:Nat->η->Prop}(O:Ans cmp n s)(r:Re n p):∀(f m:Nat),1<=m->m+f<=n->(∀m',m<=m'->m'<=m+f->Q m' s)->(kas_asc p f m).kasWp cmp Q s
 |0,m,h1,hm,q=>q m (ρ _) (ρ _)
 |f+1,m,h1,hm,q=>O _ _ _ (r.lt m ()) (r.lt (m-1) ()) λb=>jJ (q m (ρ _) ()) (mO O r f (m+1) () () λm' a b=>q m' () ())
theorem pr{Q:Array Nat×Nat×Nat->η->Prop}(O:Ans cmp n s):∀(f m:Nat)(p:Array Nat)(e:Nat),Re n p->1<=m->m+f<=n->(∀p' m' e',Re n p'->m<=m'->m'<=m+f->Q (p',m',e') s)->(kas_desc f p m e).kasWp cmp Q s
 |0,m,p,e,r,h1,hm,q=>q p m e r (ρ _) (ρ _)
 |f+1,m,p,e,r,h1,hm,q=>O _ _ _ (r.lt m ()) (r.lt (m-1) ()) λb=>by
  have go:∀(p:Array Nat)(e:Nat),Re n p->(kas_desc f p (m+1) e).kasWp cmp Q s:=λp e r=>pr O f (m+1) p e r () () λp' m' e' r' a b=>q p' m' e' r' () ()
  refine jJ ?_ (O _ _ _ (r.lt (m-1) ()) (r.lt m ()) λb=>jJ (q p m e r (ρ _) ()) (go p _ r))
  split
  ·exact go _ _ (gl r)
  ·exact go _ _ r
theorem nt{Q:Nat×Array Nat->η->Prop}{p:Array Nat}{m:Nat}(O:Ans cmp n s)(r:Re n p)(h1:1<=m)(hm:m+1<=n)(q:∀m p',Re n p'->1<=m->m<=n->Q (m,p') s):(kas_descPart m n p).kasWp cmp Q s:=by
 unfold kas_descPart
 rw[m_]
 refine pr O _ _ p 0 r () () λp' m' e' r' a b=>?_
 have go:∀p:Array Nat,Re n p->(FT m' n p).kasWp cmp Q s:=λp r=>by
  unfold FT
  rw[m_]
  exact mO O (gl r) _ _ () () λm2 a2 b2=>q m2 _ (gl r) () ()
 show(if e'>0 then FT m' n (GE p' (m'-(e'+1)) m')else FT m' n p').kasWp cmp Q s
 split
 ·exact go _ (gl r')
 ·exact go _ r'
theorem gK{p:Array Nat}{k:Nat}{Q:Nat->η->Prop}(O:Ans cmp n s)(r:Re n p)(hk:k<n)(q:∀l,l<=k->Q l s):∀(f l e:Nat),l<=e->e<=k->(FU p k f l e).kasWp cmp Q s
 |0,l,e,h1,h2=>q l ()
 |f+1,l,e,h1,h2=>by
  show(if l>=e then GD l else _).kasWp cmp Q s
  by_cases h:l>=e
  ·rw[Q0 h]
   exact q l ()
  ·rw[Q6 h]
   exact O _ _ _ (r.lt k hk) (r.lt _ ()) λb=>jJ (gK O r hk q f l _ () ()) (gK O r hk q f _ e () h2)
theorem rE{Q:Array Nat->η->Prop}(O:Ans cmp n s)(q:∀p,Re n p->Q p s):∀(f k:Nat)(p:Array Nat),Re n p->k+f=n->(GF f p k).kasWp cmp Q s
 |0,k,p,r,hn=>q p r
 |f+1,k,p,r,hn=>by
  show((FU p k k 0 k).bind λl=>GF f (bubble p k (k-l)) (k+1)).kasWp cmp Q s
  rw[m_]
  exact gK O r () (λl hl=>rE O q f (k+1) _ (Re.of_perm ((bubble_perm p k _).trans r.perm)) ()) k 0 k (Ξ _) (ρ _)
theorem xt{Q:Array Nat->η->Prop}(O:Ans cmp n s)(h2:2<=n)(q:∀p,Re n p->Q p s):(kas_sort n).kasWp cmp Q s:=by
 unfold kas_sort
 rw[m_]
 have r0:Re n (List.toArray (ϋ n)):=Re.of_perm (Array.Perm.refl _)
 have fin:∀m (p:Array Nat),Re n p->1<=m->m<=n->(if m<n then GF (n-max m 1) p (max m 1)else .ret p).kasWp cmp Q s:=λm p r h1 hm=>by
  split
  ·exact rE O q _ _ p r ()
  ·exact q p r
 unfold kas_count
 rw[m_]
 refine mO O r0 (n-1) 1 (ρ _) () λm a b=>?_
 by_cases hm:(m==n)=true
 ·rw[Q0 hm]
  exact fin m _ r0 a ()
 ·rw[Q6 hm]
  have hmn:m≠n:=by simpa using hm
  by_cases h1:m>1
  ·rw[Q0 h1]
   exact O _ _ _ (r0.lt 0 ()) (r0.lt (m-1) ()) λb=>jJ (fin m _ r0 a ()) (nt O (gl r0) a () λm p r x y=>fin m p r x y)
  ·rw[Q6 h1]
   exact nt O r0 a () λm p r x y=>fin m p r x y
end
section
variable{X:Cx}{pins:List (Addr×Obj)}{σ:St}{H:Hp}{s:η}
theorem tW{A:Ω}{E:δ->η->Prop}{l:Addr}{ps:List Str}{Q:δ->η->Prop}(I:Inv X pins σ H s)(hq:H l=some (.lst (ps.map V.str)))(h64:ps.length<64)
  (q:∀(qs:List Str)(h':Heap),qs.Perm ps->Inv X pins σ (upd H l (.lst (qs.map V.str))) {s with heap:=h'}->Q .none {s with heap:=h'}):wpAny (model X.prog X.w) A (call (.builtin "list.sort") [.ref l]) Q E s:=by
 obtain⟨hz,its,n,rv,at0⟩:=(show aM X.prog X.w H s.heap l (.lst (ps.map V.str))from I.hok l _ hq)
 have li:its.length=ps.length:=by have:=rv.length;rw[ε]at this;exact this.symm
 obtain⟨m,hm,_⟩:=I.loc
 have nL:l≠X.env.locals:=λz=>by rw[z,I.free]at hq;cases hq
 by_cases few:ps.length<2
 ·refine ϫ DM ⟨_,at0,rfl⟩ Do (cS at0 () λhp ep k2 e2=>⟨_,rfl,?_⟩) (DN _)
  exact q ps hp (Ez _) (I.setList hm hq rv hz (hm.at' λo e=>k2 _ o (Ϗ nL) e) (λb o _ hb z=>k2 b o hb z) e2)
 ·have F0:Fr (Att.noObjs s.heap) X.env.locals s.heap m:=Att.fr_all hm
  generalize hN:(eB (Att.noObjs s.heap) s.heap X.env.locals).filter (λp=>decide (p.1≠l))=nw
  have N0:News (Att.noObjs s.heap) X.env.locals s.heap nw:=λp hp=>by rw[<-hN]at hp;exact jL p (ϙ.mp hp).1
  have nl0:∀p∈nw,p.1≠l:=λp hp=>by rw[<-hN]at hp;exact Q7 (ϙ.mp hp).2
  refine ϫ DM ⟨_,at0,rfl⟩ Do (kat_list_sort F0 N0 at0 nL (Att.noObjs_get _ _) nl0 () () λe1 h' F' N'=>?_) (DN _)
  have keep:∀(g:Heap)(x:Obj),News (Att.noObjs s.heap) X.env.locals g ((l,x)::nw)->∀b o,b≠X.env.locals->b≠l->s.heap.get? b=some o->g.get? b=some o:=λg x N b o hb hl e=>
   (N (b,o) (υ _ (by rw[<-hN];exact ϙ.mpr ⟨dw hb (Att.noObjs_get _ _) e,Q9 hl⟩))).1
  have kk:keyKind' its.toArray=pure oneType':=by
   have st:=mF rv
   match its,li,st with
   |v1::v2::r,_,st=>exact keyKind_strs st
   |[_],li,_=>simp at li;omega
   |[],li,_=>simp at li;omega
  rw[kk]
  refine ν ?_
  rw[li]
  have O:Ans (kas_ask X.prog X.w A.in1 oneType' its) ps.length {s with heap:=h'}:=λi j C hi hj hC=>by
   show wpAny _ _ (keyLt' _ _ _) C _ _
   obtain⟨t1,e1⟩:=cP rv i hi
   obtain⟨t2,e2⟩:=cP rv j hj
   rw[e1,e2]
   exact kas_lt_str (hC _)
  refine xt O () λp re=>?_
  have hl2:p.toList.Perm (ϋ ps.length):=by simpa using s9.mp re.perm
  have outs:∀il:List Nat,(∀i∈il,i<ps.length)->ar ((il.map λi=>ps.getD i default).map V.str) (il.map λi=>its.getD i .none):=by
   intro il
   induction il with
   |nil=>intro _;exact .nil
   |cons i il ih=>
    intro h
    obtain⟨t1,e1⟩:=cP rv i (h i Δ)
    refine .cons ?_ (ih λx hx=>h x (υ _ hx))
    exact⟨t1,e1⟩
  have rv2:=outs p.toList λi hi=>Ϭ.mp ((Ex hl2).mp hi)
  refine KasFin.intro (news:=(l,seqObj "list" #[] e1)::nw) (g:=λo'=>(l,o')::nw) F' N' (.head nl0) λh2 c F2 N2=>?_
  have pq:=ib (d:=default) rfl re
  have I2:=I.setList (D:=l) hm hq rv2 (by rw[ε,pq.length_eq];simpa using hz) F2.ns (keep h2 _ N2) (N2 (l,_) Δ).1
  exact⟨_,rfl,q _ h2 pq I2⟩
end
section
variable{X:Cx}
theorem qZ{pins:List (Addr×Obj)}{σ:St}{H:Hp}{s:η}{A:Ω}{E:δ->η->Prop}{l:Addr}{ps:List Str}{Q:δ->η->Prop}(I:Inv X pins σ H s)(hq:H l=some (.lst (ps.map V.str)))(h64:ps.length<64)
  (q:∀(qs:List Str)(h':Heap),qs.Perm ps->(ps.Nodup->qs.Pairwise qu)->Inv X pins σ (upd H l (.lst (qs.map V.str))) {s with heap:=h'}->Q .none {s with heap:=h'}):wpAny (model X.prog X.w) A (call (.builtin "list.sort") [.ref l]) Q E s:=by
 by_cases nd:ps.Nodup
 ·exact kQ I hq nd h64 λqs h' p w I'=>q qs h' p (λ_=>w) I'
 ·exact tW I hq h64 λqs h' p I'=>q qs h' p (λz=>absurd z nd) I'
theorem lZ{prog:Α}{w:Υ}{A:Ω}{E:δ->η->Prop}{s:η}{l:Addr}{vs:List δ}{Q:List δ->η->Prop}(hl:s.heap.IsTuple l vs.toArray)
  (h:Q vs {s with heap:=(s.heap.push (seqObj "list" #[] 0)).update s.heap.objs.size (n_ (· ++ vs.toArray))}) (hsz:vs.length<=sizeLine):wpAny (model prog w) A (collect (.ref l)) Q E s:=by
 obtain⟨o,ho,hc,n,hd⟩:=id hl
 unfold collect
 refine γ (Fk (ϴ entry_proto_collect' ?_))
 show wpAny _ _ (do again (.builtin "list.__iadd__" ⟨[<-newList [],.ref l],[]⟩)) _ _ s
 refine γ (EM (ν ⟨A3 _ (),ϴ entry_list_iadd' ?_⟩))
 show wpAny _ _ (i4 (.ref s.heap.objs.size) (.ref l) (.ref s.heap.objs.size)) _ _ {s with heap:=s.heap.push (seqObj "list" #[] 0)}
 unfold i4
 have ho':(s.heap.push (seqObj "list" #[] 0)).get? l=some o:=ι _ ho
 refine γ (Dg (T:="tuple") ⟨o,ho',hc⟩ ?_)
 rw[Q0 (by rw[show(x5 "tuple" == x5 "tuple")=true by rfl];simp)]
 refine γ (listItems_at ho' hd (γ (listItems_at (xs:=#[]) (n:=0) (ψ _ rfl) rfl ?_)))
 rw[Q6 ()]
 refine γ (listUpdate_at (xs:=#[]) (n:=0) (ψ _ rfl) rfl ?_ (Ξ _) (by show(#[]++vs.toArray).size<=sizeLine+1;simp only[FG,π,Ed];omega))
 refine ν ?_
 show wpAny (model prog w) A (do
   let o <-load s.heap.objs.size
   match o.data with
   |.seq xs _=>pure xs.toList
   |_=>unsupported "internal:collect") Q E {s with heap:=(s.heap.push (seqObj "list" #[] 0)).update s.heap.objs.size (n_ (· ++ vs.toArray))}
 refine γ (wpAny_load (Gj (ψ _ rfl) _) ?_)
 show wpAny _ _ (pure ((#[]:Array δ)++vs.toArray).toList) Q E _
 rw[show((#[]:Array δ)++vs.toArray).toList=vs by simp]
 exact ν h
theorem lM:bz X (.builtin "sorted") (λxs H Q=>∃(a:Addr) (ps:List Str),xs=[.ref a]/\(H a=some (.lst (ps.map V.str))\/H a=some (.tup (ps.map V.str)))/\ps.length<64 /\
  ∀(l:Addr)(qs:List Str),H l=none->qs.Perm ps->(ps.Nodup->qs.Pairwise qu)->Q (.ref l) (upd H l (.lst (qs.map V.str)))):=by
 intro pins s σ H xs us Q I r h
 obtain⟨a,ps,rfl,ha,h64,q⟩:=h
 obtain⟨u,rfl,ru⟩:=cj r
 cases ru
 refine DX kind_sorted plain_sorted entry_sorted (args_sorted1 _) ?_
 unfold Ϥ.«sorted»
 refine γ (m:=checkCount "sorted" 1 1 _) (ν (γ ?_))
 obtain⟨its,rv,at0⟩:∃its,ar (ps.map V.str) its/\((∃n,s.heap.get? a=some (seqObj "list" its.toArray n))\/s.heap.IsTuple a its.toArray):=by
  rcases ha with ha|ha
  ·obtain⟨hz,its,n,rv,at0⟩:=(show aM X.prog X.w H s.heap a (.lst (ps.map V.str))from I.hok a _ ha)
   exact⟨its,rv,.inl ⟨n,at0⟩⟩
  ·obtain⟨hz,its,rv,at0,_⟩:=(show aM X.prog X.w H s.heap a (.tup (ps.map V.str))from I.hok a _ ha)
   exact⟨its,rv,.inr at0⟩
 have li:its.length=ps.length:=by have:=rv.length;rw[ε]at this;exact this.symm
 have line:its.length<=sizeLine:=by rw[ω];omega
 have kp:∀b o,s.heap.get? b=some o->((s.heap.push (seqObj "list" #[] 0)).update s.heap.objs.size (n_ (· ++ its.toArray))).get? b=some o:=λb o e=>by
  rw[E4 _ _ _ _ (nlt (ς e)),DB _ _ _ (nlt (ς e))]
  exact e
 rcases at0 with ⟨n,at0⟩|at0
 refine collect_list (vs:=its) ⟨_,at0,rfl,_,rfl⟩ ?_ line
 rotate_left
 refine lZ (vs:=its) at0 ?_ line
 all_goals
  generalize (s.heap.push (seqObj "list" #[] 0)).update s.heap.objs.size (n_ (· ++ its.toArray))=h' at kp⊢
  have I1:Inv X pins σ H {s with heap:=h'}:=I.call (ch:=[]) (Un.kept kp) (I.hok.kept kp) I.bare λb hb=>nomatch hb
  refine γ (EM ?_ line)
  have I2:=I1.lnew (t':=s.toks) rv (by rw[ε,ω];omega)
  refine γ (Ϧ (qZ (A:=X.A.in1) (l:=h'.objs.size) (ps:=ps) I2 aa h64 λqs h2 pq pw I3=>?_))
  rw[iS]at I3
  exact ν ⟨_,rfl,.ref h'.objs.size,_,I3,rfl,q _ qs I1.fresh pq pw⟩
theorem An{xs ys:List Str}(h1:xs.Pairwise qu)(h2:ys.Pairwise qu)(p:xs.Perm ys):xs=ys:=GG.eq_of_pairwise (λa b _ _ h g=>absurd h (List.lt_asymm g)) h1 h2 p
def Bj:V->List V->Hp->VK->Prop:=λx vs H Q=>∃l xs,∃(i:Int),∃y,x=.ref l/\vs=[.int i]/\H l=some (.lst xs)/\0<=i/\xs[i.toNat]?=some y/\xs.length<1000/\Q y (upd H l (.lst (xs.take i.toNat++xs.drop (i.toNat+1))))
theorem sK:MtM X "list.pop" Bj:=by
 intro pins s σ H x vs v us Q I rx rv h
 obtain⟨l,xs,i,y,rfl,rfl,hH,i0,hk,hz,q⟩:=h
 cases rx
 obtain⟨u,rfl,t,rfl⟩:=rv.one
 obtain⟨z,its,n,r,hl,e⟩:=I.lstM hH
 have lk:i.toNat<xs.length:=(ο.mp hk).1
 obtain⟨w',hw',rw'⟩:=ar.get (i:=i.toNat) (x:=y) r hk
 have fits:Fp i=true:=by
  unfold Fp
  have h1:decide (-(2^63:Int)<=i)=true:=Q9 ()
  have h2:decide (i<2^63)=true:=Q9 ()
  rw[h1,h2];rfl
 have lz:its.length=xs.length:=hl.symm
 have hsx:seqIndex? i its.toArray.size=some i.toNat:=by
  unfold seqIndex?
  rw[π]
  have a1:¬ (i<0):=by omega
  simp[a1]
  omega
 generalize hkk:i.toNat=k at *
 refine r9 F.slot_list_pop ⟨_,e,rfl⟩ F.entry_list_pop (F.args_list_pop_2 _ _) (MeetsSeq.list_pop_at l its.toArray n i t k w' fits hsx (by simpa using hw') (by rw[π,<-hl];exact z)) ⟨e,?_⟩
 refine⟨y,_,I.lset (its':=its.take k++its.drop (k+1)) hH e ?_ (ar.append (r.take _) (r.drop _)) ?_,rw',q⟩
 ·apply Array.ext'
  simp[Array.eraseIdxIfInBounds,lz,lk,List.eraseIdx_eq_take_drop_succ]
 ·rw[χ,Φ,ϳ,ω];omega
end
section
variable{prog:Α}{w:Υ}{A:Ω}{R:Ff->η->Prop}{I:Addr}{fp wr:List Addr}{n:Nat}{P:Nat->δ->Prop}{St:Nat->Heap->Prop}{bt:Nat->Nat->Bool}{S:Addr}
def mxA(I S:Addr)(d:δ):Args:=⟨[.ref I,.none,.ref S],[(ξ "default",d)]⟩
theorem Co(W:Ga prog w A.in1 I fp wr n P St)(cm:CmpOf prog w A.in1 .Gt P bt)(nf:S∉fp)(d:δ):∀(k j:Nat)(t:η)(b:δ)(c:Nat),n=j+1+k->St (j+1) t.heap->P (argBest bt j) b ->
  t.heap.get? S=some {cls:=.type "list",dict:=none,data:=.seq #[b,b] c,slots:=#[]}->(∀v h' tk,P (argBest bt (n-1)) v->(∀x o,x∉wr->x≠S->t.heap.get? x=some o->h'.get? x=some o)->R (.ok (.ret v)) {t with heap:=h',toks:=tk}) ->
  codeAny (model prog w) A (.builtin "max.loop" (mxA I S d)) R t:=by
 have nw:S∉wr:=λh=>nf (W.sub _ h)
 have nm:(toString "max" ++ toString ".loop" : String)="max.loop":=by decide
 intro k
 induction k with
 |zero=>
  intro j t b c hn st pb hS q
  refine ϴ F1 ?_
  rw[j4 y9 _]
  show wpAny _ _ (seqItems? (.ref S)>>=_) _ _ t
  refine γ (ϸ hS rfl ?_)
  show wpAny _ _ (tryCatch (pyNext (.ref I)) _>>=_) _ _ t
  refine γ (DL (W.done t _ _ (by rw[hn];exact st) λh' tk kp=>?_))
  show wpAny _ _ (updateSeq S (λ_=>#[])>>=_) _ _ _
  refine γ (A_ (kp S _ nw hS) rfl (γ (DP (ν (q b _ tk (by rw[hn];exact pb) λx o xw xS e=>(Ψ _ _ (Ϗ xS)).trans (kp x o xw e))))))
 |succ k ih=>
  intro j t b c hn st pb hS q
  refine ϴ F1 ?_
  rw[j4 y9 _]
  show wpAny _ _ (seqItems? (.ref S)>>=_) _ _ t
  refine γ (ϸ hS rfl ?_)
  show wpAny _ _ (tryCatch (pyNext (.ref I)) _>>=_) _ _ t
  refine γ (DL (W.item (j+1) t _ _ () st λv h' tk pv st' kp=>?_))
  have hS':=kp S _ nw hS
  show wpAny _ _ (tryCatch (holding [v,v] (richCompare .Gt v b>>=_)) _>>=_) _ _ _
  refine γ (DL (Ϧ (γ (cm (j+1) (argBest bt j) v b _ _ _ pv pb ?_))))
  refine γ (Ϧ (Ϸ ?_))
  refine γ (DP (ν ?_))
  cases hb:bt (j+1) (argBest bt j)with
  |true=>
   simp only[if_true]
   refine γ (A_ hS' rfl (γ (DP ?_)))
   rw[nm]
   refine ν ⟨u_ y9 _,ih (j+1) _ v _ () (W.frame _ _ _ st' λx xf o e=>(Ψ _ _ (λh:S=x=>nf (by rw[h];exact xf))).trans e) (by simp only[argBest,hb,if_true];exact pv) (Ϡ _ hS' rfl) λv' h2 tk2 pv' kp2=>q v' h2 tk2 pv' λx o xw xS e=>kp2 x o xw xS ((Ψ _ _ (Ϗ xS)).trans (kp x o xw e))⟩
  |false=>
   simp only[Dh,if_false]
   refine γ (DP ?_)
   rw[nm]
   exact ν ⟨u_ y9 _,ih (j+1) _ b c () st' (by simp only[argBest,hb,Dh,if_false];exact pb) hS' λv' h2 tk2 pv' kp2=>q v' h2 tk2 pv' λx o xw xS e=>kp2 x o xw xS (kp x o xw e)⟩
theorem At(W:Ga prog w A.in1 I fp wr n P St)(cm:CmpOf prog w A.in1 .Gt P bt)(nf:S∉fp)(d:δ){t:η}{c:Nat}(st:St 0 t.heap)(hS:t.heap.get? S=some {cls:=.type "list",dict:=none,data:=.seq #[] c,slots:=#[]})
  (q:∀v h' tk,(0<n->P (argBest bt (n-1)) v)->(n=0->v=d)->(∀x o,x∉wr->x≠S->t.heap.get? x=some o->h'.get? x=some o)->R (.ok (.ret v)) {t with heap:=h',toks:=tk}):codeAny (model prog w) A (.builtin "max.loop" (mxA I S d)) R t:=by
 have nw:S∉wr:=λh=>nf (W.sub _ h)
 have nm:(toString "max" ++ toString ".loop" : String)="max.loop":=by decide
 refine ϴ F1 ?_
 rw[j4 y9 _]
 show wpAny _ _ (seqItems? (.ref S)>>=_) _ _ t
 by_cases h0:n=0
 ·refine γ (ϸ hS rfl ?_)
  show wpAny _ _ (tryCatch (pyNext (.ref I)) _>>=_) _ _ t
  refine γ (DL (W.done t _ _ (by rw[h0];exact st) λh' tk kp=>?_))
  show wpAny _ _ (rule _>>=_) _ _ _
  exact γ (u8 (ν (q d _ tk (λz=>absurd z ()) (λ_=>rfl) λx o xw _ e=>kp x o xw e)))
 ·refine γ (ϸ hS rfl ?_)
  show wpAny _ _ (tryCatch (pyNext (.ref I)) _>>=_) _ _ t
  refine γ (DL (W.item 0 t _ _ () st λv h' tk pv st' kp=>?_))
  have hS':=kp S _ nw hS
  show wpAny _ _ (updateSeq S (λ_=>#[v,v])>>=_) _ _ _
  refine γ (A_ hS' rfl ?_)
  rw[nm]
  refine ν ⟨u_ y9 _,Co W cm nf d (n-1) 0 _ v _ () (W.frame _ _ _ st' λx xf o e=>(Ψ _ _ (λh:S=x=>nf (by rw[h];exact xf))).trans e) pv (Ϡ _ hS' rfl) λv' h2 tk2 pv' kp2=>q v' h2 tk2 (λ_=>pv') (λz=>absurd z h0) λx o xw xS e=>kp2 x o xw xS ((Ψ _ _ (Ϗ xS)).trans (kp x o xw e))⟩
theorem nX{bt:Nat->Nat->Bool}{val:Nat->Int}(hb:∀i j,bt i j=decide (val i>val j)):∀n,argBest bt n<=n/\∀j,j<=n->val j<=val (argBest bt n)
 |0=>⟨ρ _,λj hj=>by rw[Nat.le_zero.mp hj];exact Int.le_refl _⟩
 |n+1=>by
  obtain⟨h1,h2⟩:=nX hb n
  have e:argBest bt (n+1)=if bt (n+1) (argBest bt n)then n+1 else argBest bt n:=rfl
  rw[e,hb]
  by_cases c:val (n+1)>val (argBest bt n)
  ·rw[Q9 c,Q0 rfl]
   refine⟨ρ _,λj hj=>?_⟩
   by_cases z:j=n+1
   ·rw[z];exact Int.le_refl _
   ·have:=h2 j ();omega
  ·rw[Q8 c,Q6 ()]
   refine⟨(),λj hj=>?_⟩
   by_cases z:j=n+1
   ·rw[z];omega
   ·exact h2 j ()
theorem uw(a v:δ):argsOk "max" ⟨[a],[(ξ "default",v)]⟩:=by unfold argsOk;kernel_rfl
theorem xR {E : δ -> η -> Prop} {t : η} {x d : δ} {Q : δ -> η -> Prop} (h : wpAny (model prog w) A.in1 (pyIter x) (λit u => ∃ I fp wr n P St bt, it = .ref I /\ Ga prog w A.in1 I fp wr n P St /\ St 0 u.heap /\ (∀ b ∈ fp, b < u.heap.objs.size) /\ CmpOf prog w A.in1 .Gt P bt /\
   ∀v h' tk,(0<n->P (argBest bt (n-1)) v)->(n=0->v=d)->(∀b o,b∉wr->u.heap.get? b=some o->h'.get? b=some o)->Q v {u with heap:=h',toks:=tk}) E t):wpAny (model prog w) A (call (.builtin "max") [x] [(ξ "default",d)]) Q E t:=by
 have nm:(toString "max" ++ toString ".loop" : String)="max.loop":=by decide
 refine Eg (j6 F.plain_max F.entry_max ?_)
 have key:wpAny (model prog w) A.in1 (Ϥ.«max» ⟨[x],[(ξ "default",d)]⟩) (λfin s'=>match fin with
   |.done f=>(match (Except.ok f:Ff)with|.ok (.ret v)=>Q v s'|.ok _=>False|.error e=>E e s')
   |.again c'=>c'.quiet=true/\codeAny (model prog w) A c' (λr s'=>match r with|.ok (.ret v)=>Q v s'|.ok _=>False|.error e=>E e s') s') E t:=by
  show wpAny _ A.in1 (Fa "max" ["key","default"] 0 ⟨[],[(ξ "default",d)]⟩>>=_) _ _ t
  refine γ (Gq (show Fa "max" ["key","default"] 0 ⟨[],[(ξ "default",d)]⟩=pure [none,some d]from rfl) ?_)
  refine γ (ν (γ (i8 h (λit u h2=>?_) λ_ _ e=>e)))
  obtain⟨I,fp,wr,n,P,St,bt,rfl,W,st,hf,cm,q⟩:=h2
  refine γ (ϝ ?_)
  rw[nm]
  exact ν ⟨u_ y9 _,At (S:=u.heap.objs.size) W cm (λz=>o_ _ (hf _ z)) d (W.frame _ _ _ st λb _ o e=>ι _ e) (ψ _ rfl) λv h' tk p0 p1 kp=>q v h' tk p0 p1 λb o bw e=>kp b o bw (Ρ (ς e)) (ι _ e)⟩
 simp only[checkBuiltinCall,F.kind_max]
 cases hsig:Manifest.signature? "max" with
 |none=>exact ν key
 |some sig=>
  have ha:Gs "max" sig ⟨[x],[(ξ "default",d)]⟩=pure Unit.unit:=by simpa only[argsOk,hsig]using uw x d
  simp only[ha]
  exact ν key
end
section
variable{X:Cx}
def Bg(K:ζ)(te:TE):TE:=λσ H Q=>te σ H λx H1=>∃(a:Addr) (ns:List Int),x=.ref a/\SqL K H1 a (ns.map V.int)/\∀i:Int,(∀n∈ns,n<=i)->(i∈ns\/(ns=[]/\i=0))->Q (.int i) H1
theorem yt{e:Expr}{te:TE}{p pos kp p2:Pos}{j:Nat}(hg:Gl X "max")(hm:X.mg "max"=none)(hc:X.calm=true)(he:PE X e te)(hs:starEach [e] X.env=[(false,eval e X.env)]:=by rfl):
  PE X (.Call (.Name "max" p) [e] [⟨some "default",.Constant (.int 0) j p2,kp⟩] pos) (Bg X.K te):=by
 intro pins s σ H Q I h
 refine i_ (cF I hg hm (u:=.builtin "max") () ?_)
 refine callWith_kw ?_ (by rw[hs];rfl) (by rw[hs];rfl) rfl rfl
 rw[hs]
 show wpAny _ _ (spliced ((false,eval e X.env)::backTo pos [])) _ _ s
 refine C_ (thn (he pins s σ H _ I h) λu s1 ⟨x,H1,I1,r1,a,ns,ex,hq,q⟩=>Du ?_)
 subst ex
 cases r1
 refine kws_cons (wpAny_Constant_int (kws_nil ?_))
 have I2:=I1.tok (s1.toks+1)
 generalize hd:y8 0 s1.toks=d
 generalize hs2:({s1 with toks:=s1.toks+1}:η)=s2 at I2⊢
 obtain⟨its,rv,pl,hz⟩:=I2.list hq
 have hl:=pl.isList
 have hlt:a<s2.heap.objs.size:=by obtain⟨_,e,_⟩:=hl;exact ς e
 have hlen:its.length=ns.length:=by have:=rv.length;rw[ε]at this;exact this.symm
 show wpAny _ _ (call (.builtin "max") [.ref a] [(ξ "default",d)]) _ _ _
 refine xR (B0 hl ?_)
 have vals:∀i v,its.toArray[i]?=some v->∃t,v=y8 ((ns[i]?).getD 0) t:=λi v hP=>gb rv i v (by simpa using hP)
 refine⟨s2.heap.objs.size,[s2.heap.objs.size,a],[s2.heap.objs.size],its.toArray.size,_,_,_,rfl,GA (A:=X.A.in1) (I2.ok.hd hc) _ a (Ρ hlt) its.toArray,⟨⟨_,ψ _ rfl,rfl,rfl⟩,hl.push _⟩,λb hb=>?_,CmpOf.ints_gt (λi=>(ns[i]?).getD 0) vals,λv h' tk p0 p1 kp=>?_⟩
 ·obtain⟨_,e,_⟩:=hl
  rcases μ.mp hb with rfl|hb
  ·exact ς (ψ _ rfl)
  ·obtain rfl:=θ.mp hb
   exact ς (ι _ e)
 ·have kq:∀b o,s2.heap.get? b=some o->h'.get? b=some o:=λb o e=>kp b o (λhm=>by rw[θ.mp hm]at e;exact absurd (ς e) (o_ _)) (ι _ e)
  by_cases h0:its.toArray.size=0
  ·have e0:ns=[]:=k9 (by rw[<-hlen];simpa using h0)
   refine⟨.int 0,H1,I2.kept (t':=tk) kq,⟨s1.toks,by rw[p1 h0,hd]⟩,q 0 (by rw[e0];simp) (.inr ⟨e0,rfl⟩)⟩
  ·obtain⟨t,e⟩:=vals _ _ (p0 ())
   obtain⟨b1,b2⟩:=nX (bt:=λi j=>decide (((ns[i]?).getD 0)>((ns[j]?).getD 0))) (val:=λi=>(ns[i]?).getD 0) (λ_ _=>rfl) (its.toArray.size-1)
   have hk:argBest (λi j=>decide (((ns[i]?).getD 0)>((ns[j]?).getD 0))) (its.toArray.size-1)<ns.length:=by rw[<-hlen];rw[π]at *;omega
   refine⟨.int _,H1,I2.kept (t':=tk) kq,⟨t,e⟩,q _ (λm hm=>?_) (.inl ?_)⟩
   ·obtain⟨i,hi,rfl⟩:=t_ hm
    have:=b2 i (by rw[π];omega)
    simpa[hi]using this
   ·rw[Γ hk]
    exact f_ hk
theorem oi{H:Hp}{l:Addr}(xs:List Str)(h:H l=some (.lst (xs.map V.str))):Rep H (.lst (xs.map Dv.str)) (.ref l):=by
 rw[Rep]
 refine⟨l,_,rfl,h,?_⟩
 clear h
 induction xs with
 |nil=>simp[Reps]
 |cons x xs ih=>simp only[ό,Reps];exact⟨_,_,rfl,by simp only[Rep],ih⟩
theorem xL(hu:X.A.units+150<cLine):OpR X (compareOp .Eq) (λx y H Q=>∃(l b:Addr) (xs ys:List Str) (k:Bool),x=.ref l/\y=.ref b/\H l=some (.lst (xs.map V.str))/\H b=some (.lst (ys.map V.str))/\(if k=true then xs=ys else xs.length≠ys.length)/\Q (.bl k) H):=by
 intro pins s σ H x y v u Q I rx ry h
 obtain⟨l,b,xs,ys,k,rfl,rfl,hl,hb,hk,q⟩:=h
 cases k with
 |true=>
  rw[Q0 rfl]at hk
  subst hk
  exact yg hu pins s σ H _ _ v u Q I rx ry ⟨0,_,λd hd=>by obtain⟨y,_,rfl⟩:=Ζ.mp hd;exact .str,(),oi xs hl,oi xs hb,q⟩
 |false=>
  rw[Q6 ()]at hk
  cases rx
  cases ry
  obtain⟨its,r1,p1,_⟩:=I.list (SqL.of hl)
  obtain⟨its2,r2,p2,_⟩:=I.list (SqL.of hb)
  have l1:=r1.length
  have l2:=r2.length
  rw[ε]at l1 l2
  refine B9 p1.isList p2.isList ?_ () X.prog X.w X.xe _ ⟨.bl false,H,I,rfl,q⟩
  rw[π,π,bne_iff_ne]
  omega
theorem xV(hu:X.A.units+150<cLine):OpR X (compareOp .Eq) (λx y H Q=>∃(l b:Addr) (xs:List Int) (n:Int),x=.ref l/\y=.ref b/\H l=some (.lst (xs.map V.int))/\H b=some (.lst [.int n])/\Q (.bl (decide (xs=[n]))) H):=by
 intro pins s σ H x y v u Q I rx ry h
 obtain⟨l,b,xs,n,rfl,rfl,hl,hb,q⟩:=h
 cases rx
 cases ry
 obtain⟨its,r1,p1,_⟩:=I.list (SqL.of hl)
 obtain⟨its2,r2,p2,_⟩:=I.list (SqL.of hb)
 have l1:=r1.length
 have l2:=r2.length
 rw[ε]at l1
 match xs,hl,r1,l1,q with
 |[m],hl,r1,l1,q=>
  obtain⟨a1,rfl,t1,rfl⟩:=r1.one
  obtain⟨a2,rfl,t2,rfl⟩:=r2.one
  refine FY (e:=λ_=>m==n) p1.isList p2.isList rfl () (λj h1 h2=>?_) X.prog X.w X.xe _ ?_
  ·obtain rfl:j=0:=by simpa using h1
   exact Fh m t1 n t2
  ·refine⟨.bl (decide ([m]=[n])),H,I,?_,q⟩
   show _=_
   by_cases e:m=n
   ·subst e;simp
   ·simp[e]
 |[],hl,r1,l1,q=>
  refine B9 p1.isList p2.isList ?_ () X.prog X.w X.xe _ ⟨.bl false,H,I,rfl,?_⟩
  ·rw[π,π,bne_iff_ne];simp at l1 l2;omega
  ·simpa using q
 |m::k::xs,hl,r1,l1,q=>
  refine B9 p1.isList p2.isList ?_ () X.prog X.w X.xe _ ⟨.bl false,H,I,rfl,?_⟩
  ·rw[π,π,bne_iff_ne];simp at l1 l2;omega
  ·simpa using q
end
end L2
namespace XB
open PySem L2 KB
inductive So|n|x|l|k|w|f|y|e|a|r
deriving DecidableEq
def srt:So->Str
 |.n=>"number"
 |.x=>"name"
 |.l=>"length"
 |.k=>"kind"
 |.w=>"reckon"
 |.f=>"def"
 |.y=>"name"
 |.e=>"part"
 |.a=>"args"
 |.r=>"things"
abbrev Wd:=Str×Str×List So
def WT:List Wd:=[("number","n",[.n]),("name","x",[.x]),("length","l",[.l]),("none","k",[.k]),("place","ll",[.l,.l]),("reckon","wee",[.w,.e,.e]),
 ("if","eee",[.e,.e,.e]),("let","xee",[.x,.e,.e]),("call","fa",[.f,.a]),("pair","ee",[.e,.e]),("first","e",[.e]),("second","e",[.e]),
 ("row","r",[.r]),("join","ee",[.e,.e]),("take","le",[.l,.e]),("drop","le",[.l,.e]),("zip","ee",[.e,.e]),("turn","e",[.e]),
 ("get","ee",[.e,.e]),("value","e",[.e]),("up","le",[.l,.e]),("wide","le",[.l,.e]),("mirror","e",[.e]),("fork","lexee",[.l,.e,.x,.e,.e]),
 ("when","elxee",[.e,.l,.x,.e,.e]),("loop","xle",[.x,.l,.e]),("fold","xlyee",[.x,.l,.y,.e,.e])]
def ST:List Wd:=[("number","n",[.n]),("name","x",[.x]),("length","l",[.l]),("reckon","wee",[.w,.e,.e]),("if","eee",[.e,.e,.e]),("let","xee",[.x,.e,.e]),
 ("call","fa",[.f,.a]),("pair","ee",[.e,.e]),("first","e",[.e]),("second","e",[.e]),("row","r",[.r]),("none","k",[.k]),
 ("join","ee",[.e,.e]),("take","le",[.l,.e]),("drop","le",[.l,.e]),("zip","ee",[.e,.e]),("turn","e",[.e]),("get","ee",[.e,.e]),
 ("place","ll",[.l,.l]),("value","e",[.e]),("up","le",[.l,.e]),("wide","le",[.l,.e]),("mirror","e",[.e]),("fork","lexee",[.l,.e,.x,.e,.e]),
 ("when","elxee",[.e,.l,.x,.e,.e]),("loop","xle",[.x,.l,.e]),("fold","xlyee",[.x,.l,.y,.e,.e])]
theorem zP:∀p∈WT,p∈ST:=by decide +kernel
theorem zk:(ST.map (·.1)).Nodup:=by decide +kernel
theorem zA:(WT.map (·.1)).Nodup:=by decide +kernel
theorem AT:∀p∈ST,p.2.2.length<=5:=by decide +kernel
theorem sM:∀p∈WT,p.2.2.length<=5:=by decide +kernel
def im(ss:List So):Nat:=(ss.map λ| .e=>1|.a=>4|.r=>4|_=>0).sum
theorem xT:∀p∈WT,im p.2.2<=4:=by decide +kernel
theorem zj:∀s:So,V.str (srt s)=V.str "part"↔s=.e:=by
 intro s
 cases s<;>simp only[V.str.injEq,srt]<;>decide +kernel
theorem oA:∀s:So,V.str (srt s)=V.str "args"↔s=.a:=by
 intro s
 cases s<;>simp only[V.str.injEq,srt]<;>decide +kernel
theorem nM:∀s:So,V.str (srt s)=V.str "things"↔s=.r:=by
 intro s
 cases s<;>simp only[V.str.injEq,srt]<;>decide +kernel
theorem ze:∀s:So,V.str (srt s)=V.str "number"↔s=.n:=by
 intro s
 cases s<;>simp only[V.str.injEq,srt]<;>decide +kernel
theorem zD:∀s:So,V.str (srt s)=V.str "length"↔s=.l:=by
 intro s
 cases s<;>simp only[V.str.injEq,srt]<;>decide +kernel
theorem zi:∀s:So,V.str (srt s)=V.str "kind"↔s=.k:=by
 intro s
 cases s<;>simp only[V.str.injEq,srt]<;>decide +kernel
theorem zQ:∀s:So,V.str (srt s)=V.str "reckon"↔s=.w:=by
 intro s
 cases s<;>simp only[V.str.injEq,srt]<;>decide +kernel
theorem zG:∀s:So,V.str (srt s)=V.str "def"↔s=.f:=by
 intro s
 cases s<;>simp only[V.str.injEq,srt]<;>decide +kernel
theorem wc:∀s:So,V.str (srt s)=V.str "name"↔(s=.x\/s=.y):=by
 intro s
 cases s<;>simp only[V.str.injEq,srt]<;>decide +kernel
theorem sw{α:Type}{l:List α}{f:α->Str}(hn:(l.map f).Nodup){p:α}(hp:p∈l):l.find? (λq=>decide (f q=f p))=some p:=by
 induction l with
 |nil=>cases hp
 |cons q l ih=>
  rw[ό,m9]at hn
  rw[j_]
  rcases μ.mp hp with rfl|hp
  ·simp
  ·rw[show decide (f q=f p)=false from Q8 λe=>hn.1 (by rw[e];exact h_ hp)]
   exact ih hn.2 hp
structure Shp(P:Α)(w:Υ)(K:ζ)(g:Addr):Prop where
 ex:∃kvs,FD P w K g kvs/\(∀p∈WT,∃b,look kvs p.1=some b/\∀H,SqT K H b (p.2.2.map λs=>V.str (srt s)))/\∀x,(look kvs x).isSome=WT.any λp=>decide (p.1=x)
def AC:ED->Str×Addr
 |⟨_,.str x _,.ref b⟩=>(x,b)
 |_=>("",0)
inductive Ents (w:Υ):List ED->Prop
 |nil:Ents w []
 |cons {x:Str} {t:Tok} {b:Addr} {es:List ED}:Ents w es->Ents w (⟨PyData.keyHash w.params x,.str x t,.ref b⟩::es)
inductive AreS:List δ->List Str->Prop
 |nil:AreS [] []
 |cons {x:Str} {t:Tok} {us:List δ} {xs:List Str}:AreS us xs->AreS (.str x t::us) (x::xs)
theorem AreS.vals{us:List δ}{xs:List Str}(h:AreS us xs):ar (xs.map V.str) us:=by
 induction h with
 |nil=>exact .nil
 | @cons x t us xs _ ih=>exact .cons ⟨t,rfl⟩ ih
inductive TupsK (K:ζ):List (Str×Addr)->List Wd->Prop
 |nil:TupsK K [] []
 |cons {x z:Str} {b:Addr} {kvs:List (Str×Addr)} {ss:List So} {ps:List Wd} {od:Option Addr} {its:List δ} {n:Nat} {sl:Array (Option δ)} :
  K.lookup b=some ⟨.type "tuple",od,.seq its.toArray n,sl⟩->AreS its (ss.map srt)->TupsK K kvs ps->TupsK K ((x,b)::kvs) ((x,z,ss)::ps)
theorem TupsK.keys{K:ζ}{kvs:List (Str×Addr)}{ps:List Wd}(h:TupsK K kvs ps):kvs.map (·.1)=ps.map (·.1):=by
 induction h with
 |nil=>rfl
 |cons _ _ _ ih=>rw[ό,ό,ih]
theorem TupsK.look{K:ζ}{kvs:List (Str×Addr)}{ps:List Wd}(h:TupsK K kvs ps)(hf:∀p∈ps,p.2.2.length<=5):(ps.map (·.1)).Nodup->∀p∈ps,∃b,L2.look kvs p.1=some b/\∀H,SqT K H b (p.2.2.map λs=>V.str (srt s)):=by
 induction h with
 |nil=>intro _ p hp;cases hp
 | @cons x z b kvs ss ps od its n sl hl ha _ ih=>
  intro hn p hp
  rw[ό,m9]at hn
  unfold L2.look
  rw[j_]
  rcases μ.mp hp with rfl|hp'
  ·rw[Q9 rfl]
   refine⟨b,rfl,λH=>.inr ⟨_,_,_,hl,rfl,rfl,?_,?_⟩⟩
   ·have h5:ss.length<=5:=hf _ Δ
    have:=ha.vals.length
    rw[ε,ε]at this
    rw[π,ω]
    omega
   ·have:=ha.vals
    rw[ύ]at this
    exact this
  ·rw[Q8 (λe:x=p.1=>hn.1 (by rw[show(x,z,ss).1=p.1 from e];exact h_ (f:=(·.1)) hp'))]
   exact ih (λq hq=>hf q (υ _ hq)) hn.2 p hp'
theorem Ents.pairs{P:Α}{w:Υ}{es:List ED}(h:Ents w es):Pairs (aN P w) es ((es.map AC).map λp=>((Μ p.1:Key),Ε p.2)):=by
 induction h with
 |nil=>exact .nil
 | @cons x t b es _ ih=>exact .cons (dW P w x t) rfl ih
theorem Ents.keys{P:Α}{w:Υ}{es:List ED}(h:Ents w es):∀e∈es,∃k,(aN P w).is k e.key=true/\e.hash=(aN P w).hash k:=by
 induction h with
 |nil=>intro e he;cases he
 | @cons x t b es _ ih=>
  intro e he
  rcases μ.mp he with rfl|he
  ·exact⟨Μ x,dW P w x t,rfl⟩
  ·exact ih e he
theorem tJ(kvs:List (Str×Addr))(x:Str):(L2.look kvs x).isSome=(kvs.map (·.1)).any λy=>decide (y=x):=by
 unfold L2.look
 rw[Dw]
 induction kvs with
 |nil=>rfl
 |cons p kvs ih=>
  rw[j_,ό,D_]
  by_cases h:p.1=x
  ·rw[Q9 h];rfl
  ·rw[Q8 h,B6];exact ih
theorem BA:∀p∈ST,p∈WT:=by decide +kernel
theorem Ab(x:Str):(ST.map (·.1)).any (λy=>decide (y=x))=WT.any λp=>decide (p.1=x):=by
 rw[m8,a_,a_]
 constructor
 ·rintro⟨y,hy,h⟩
  obtain⟨p,hp,rfl⟩:=Ζ.mp hy
  exact⟨p,BA p hp,h⟩
 ·rintro⟨p,hp,h⟩
  exact⟨p.1,h_ (zP p hp),h⟩
theorem shp_mk{P:Α}{w:Υ}{K:ζ}{g:Addr}{es:List ED}{ep:Nat}(hl:K.lookup g=some ⟨.type "dict",none,.dict es.toArray ep,#[]⟩)(lo:(g==sysModules)=false)(he:Ents w es)(ht:TupsK K (es.map AC) ST):Shp P w K g:=by
 refine⟨es.map AC,⟨by rw[ht.keys];exact zk,lo,_,_,_,hl,⟨rfl,rfl,rfl⟩,rfl,λe hm=>he.keys e (by simpa using hm),by simpa using he.pairs⟩,λp hp=>ht.look AT zk p (zP p hp),λx=>by rw[tJ,ht.keys,Ab]⟩
inductive F2 (R:So->Dv->Prop):List So->List Dv->Prop
 |nil:F2 R [] []
 |cons {s:So} {d:Dv} {ss:List So} {ds:List Dv}:R s d->F2 R ss ds->F2 R (s::ss) (d::ds)
theorem F2.length{R:So->Dv->Prop}{ss:List So}{ds:List Dv}(h:F2 R ss ds):ds.length=ss.length:=by
 induction h with
 |nil=>rfl
 |cons _ _ ih=>rw[ϒ,ϒ,ih]
theorem F2.get{R:So->Dv->Prop}{ss:List So}{ds:List Dv}(h:F2 R ss ds){i:Nat}{s:So}(hs:ss[i]?=some s):∃d,ds[i]?=some d/\R s d:=by
 induction h generalizing i with
 |nil=>cases hs
 |cons h _ ih=>
  cases i with
  |zero=>cases hs;exact⟨_,rfl,h⟩
  |succ i=>exact ih hs
def Fld(E:Dv->Prop)(L:So->Dv->Prop):So->Dv->Prop
 |.e,d=>E d
 |.a,d=>∃es,d=.tup es/\es.length<=4/\∀e∈es,E e
 |.r,d=>∃es,d=.tup es/\1<=es.length/\es.length<=4/\∀e∈es,E e
 |s,d=>L s d
def tf:Dv->List Dv
 |.tup ds=>ds
 |_=>[]
def ptD:So->Dv->List Dv
 |.e,d=>[d]
 |.a,d=>tf d
 |.r,d=>tf d
 |_,_=>[]
def bd:List So->List Dv->List Dv
 |s::ss,d::ds=>ptD s d++bd ss ds
 |_,_=>[]
def yy(w:Str):List So:=match WT.find? (λq=>decide (q.1=w))with
 |some p=>p.2.2
 |none=>[]
theorem yZ{p:Wd}(hp:p∈WT):yy p.1=p.2.2:=by unfold yy;rw[sw zA hp]
def bR:Dv->List Dv
 |.tup (.str w::ds)=>bd (yy w) ds
 |_=>[]
theorem parts_of{p:Wd}(hp:p∈WT)(ds:List Dv):bR (.tup (.str p.1::ds))=bd p.2.2 ds:=by
 show bd (yy p.1) ds=_
 rw[yZ hp]
theorem eG{E:Dv->Prop}{L:So->Dv->Prop}{ss:List So}{ds:List Dv}(h:F2 (Fld E L) ss ds):(∀e∈bd ss ds,E e)/\(bd ss ds).length<=im ss:=by
 induction h with
 |nil=>exact⟨λe he=>by simp[bd]at he,by simp[bd]⟩
 | @cons s d ss ds h _ ih=>
  obtain⟨i1,i2⟩:=ih
  have em:im (s::ss)=im [s]+im ss:=by simp[im]
  rw[em]
  have key:(∀e∈ptD s d,E e)/\(ptD s d).length<=im [s]:=by
   cases s with
   |e=>exact⟨λe he=>by rw[θ.mp he];exact h,ρ _⟩
   |a=>obtain⟨es,rfl,h1,h2⟩:=h;exact⟨h2,h1⟩
   |r=>obtain⟨es,rfl,h0,h1,h2⟩:=h;exact⟨h2,h1⟩
   |_=>exact⟨λe he=>by simp[ptD]at he,by simp[ptD,im]⟩
  show(∀e∈ptD s d++bd ss ds,E e)/\(ptD s d++bd ss ds).length<=_
  refine⟨λe he=>?_,by rw[χ];omega⟩
  rcases ϖ.mp he with he|he
  ·exact key.1 e he
  ·exact i1 e he
theorem kC(ss:List So)(ds:List Dv)(i:Nat){s:So}{d:Dv}(hs:ss[i]?=some s)(hd:ds[i]?=some d):bd (ss.take (i+1)) (ds.take (i+1))=bd (ss.take i) (ds.take i)++ptD s d:=by
 induction i generalizing ss ds with
 |zero=>
  cases ss with
  |nil=>cases hs
  |cons s' ss=>
   cases ds with
   |nil=>cases hd
   |cons d' ds=>cases hs;cases hd;simp[bd]
 |succ i ih=>
  cases ss with
  |nil=>cases hs
  |cons s' ss=>
   cases ds with
   |nil=>cases hd
   |cons d' ds=>
    simp only[List.take_succ_cons,bd]
    rw[ih ss ds hs hd,w_]
theorem cQ(xs:List V)(n:Nat):aH xs none (some (n:Int))=xs.take n:=by
 unfold aH
 have e1:HT.sIx xs.length xs.length (some (n:Int))=min n xs.length:=HT.sIx_nat _ _ _
 have e2:HT.sIx xs.length 0 none=0:=rfl
 rw[e1,e2,List.drop_zero,Nat.sub_zero]
 rcases Nat.le_total n xs.length with h|h
 ·rw[Dp h]
 ·rw[F3 h,ϔ,Dj h]
theorem cD(xs:List V)(n:Nat):aH xs (some (n:Int)) none=xs.drop n:=by
 unfold aH
 have e1:HT.sIx xs.length 0 (some (n:Int))=min n xs.length:=HT.sIx_nat _ _ _
 have e2:HT.sIx xs.length xs.length none=xs.length:=rfl
 rw[e1,e2]
 rcases Nat.le_total n xs.length with h|h
 ·rw[Dp h,Dj (by rw[ϳ];exact ρ _)]
 ·rw[F3 h,Nat.sub_self,List.take_zero,List.drop_of_length_le h]
theorem reps_take{H:Hp}:∀{ds:List Dv}{vs:List V}(n:Nat),Reps H ds vs->Reps H (ds.take n) (vs.take n)
 |[],vs,n,h=>by simp only[Reps]at h;subst h;simp[Reps]
 |d::ds,vs,0,h=>by simp[Reps]
 |d::ds,vs,n+1,h=>by
  simp only[Reps]at h
  obtain⟨v,r,rfl,h1,h2⟩:=h
  simp only[List.take_succ_cons,Reps]
  exact⟨v,_,rfl,h1,reps_take n h2⟩
theorem reps_drop{H:Hp}:∀{ds:List Dv}{vs:List V}(n:Nat),Reps H ds vs->Reps H (ds.drop n) (vs.drop n)
 |[],vs,n,h=>by simp only[Reps]at h;subst h;simp[Reps]
 |d::ds,vs,0,h=>by simpa using h
 |d::ds,vs,n+1,h=>by
  simp only[Reps]at h
  obtain⟨v,r,rfl,h1,h2⟩:=h
  simpa using reps_drop n h2
theorem reps_rev{H:Hp}:∀{ds:List Dv}{vs:List V},Reps H ds vs->Reps H ds.reverse vs.reverse
 |[],vs,h=>by simp only[Reps]at h;subst h;simp[Reps]
 |d::ds,vs,h=>by
  simp only[Reps]at h
  obtain⟨v,r,rfl,h1,h2⟩:=h
  rw[Dx,Dx]
  exact Reps.append (reps_rev h2) (aK h1)
theorem Ag{t1 t2:TT}{σ:St}{H:Hp}{Q:Bool->Hp->Prop}(q:Q true H)(f:Q true H->tOr t1 t2 σ H Q):tOr t1 t2 σ H Q:=f q
theorem sN{K:ζ}{g:Addr}{us:List V}{lo hi:Option Int}{H:Hp}{Q:VK}(hg:H g=some (.tup us))(k:∀H' p,ae H H'->H' p=some (.tup (aH us lo hi))->Q (.ref p) H'):vV K (.ref g) lo hi H Q:=
 ⟨g,us,rfl,SqT.of hg,λe=>k H g (ae.refl _) (by rw[e];exact hg),λp hp=>k _ p (ac hp _) aa⟩
def Aq(d:Dv):Prop:=∃(p:Wd) (ds:List Dv),p∈WT/\d=.tup (.str p.1::ds)/\F2 (Fld (λ_=>True) (λ_ _=>True)) p.2.2 ds
theorem tQ{H:Hp}{ds:List Dv}{vs:List V}(h:Reps H ds vs){i:Nat}{d:Dv}(hd:ds[i]?=some d):∃v,vs[i]?=some v/\Rep H d v:=by
 have l:=h.length
 have hi:i<vs.length:=by rw[l];exact(ο.mp hd).1
 obtain⟨e,he,r⟩:=h.get (Γ hi)
 rw[hd]at he
 cases he
 exact⟨_,Γ hi,r⟩
theorem cV{H:Hp}{d:Dv}{ds:List Dv}{vs:List V}(h:Reps H (d::ds) vs):∃v ws,vs=v::ws/\Rep H d v/\Reps H ds ws:=by simpa only[Reps]using h
theorem bG{t1 t2:TS}{D:bI}{σ:St}{H:Hp}(M:St->Hp->Prop)(h2:∀σ' H',M σ' H'->t2 D σ' H')(f:∀N:St->Hp->Prop,(∀σ' H',M σ' H'->N σ' H')->t1 {D with nx:=N} σ H):tX t1 t2 D σ H:=f (t2 D) h2
theorem eO{t1 t2:TS}{D:bI}{σ:St}{H:Hp}(f:∀N:St->Hp->Prop,(∀σ' H',t2 D σ' H'->N σ' H')->t1 {D with nx:=N} σ H):tX t1 t2 D σ H:=f (t2 D) λ_ _ h=>h
def kI{f:Nat->V}{n:Nat}{g:TG}{tb:TS}{D:bI}{σ:St}{H:Hp}(Pv:Nat->St->Hp->Prop)(h0:Pv 0 σ H)
  (hs:∀i σ H (D':bI),(∀σ' H',Pv (i+1) σ' H'->D'.nx σ' H')->i<n->Pv i σ H->g (f i) σ H λσ2 H2=>tb D' σ2 H2) (hd:∀σ H,Pv n σ H->D.nx σ H):=yr (f:=f) (n:=n) (g:=g) (tb:=tb) (D:=D) (σ:=σ) (H:=H) Pv h0 (λi σ H hi p=>hs i σ H _ (λ_ _ h=>h) hi p) hd
def iA{lo:Int}{n:Nat}{g:TG}{tb:TS}{D:bI}{σ:St}{H:Hp}(Pv:Nat->St->Hp->Prop)(h0:Pv 0 σ H)
  (hs:∀i σ H (D':bI),(∀σ' H',Pv (i+1) σ' H'->D'.nx σ' H')->i<n->Pv i σ H->g (.int (lo+i)) σ H λσ2 H2=>tb D' σ2 H2) (hd:∀σ H,Pv n σ H->D.nx σ H):=uP (lo:=lo) (n:=n) (g:=g) (tb:=tb) (D:=D) (σ:=σ) (H:=H) Pv h0 (λi σ H hi p=>hs i σ H _ (λ_ _ h=>h) hi p) hd
def iy{K:ζ}{a b:Addr}{xs ys:List V}{g:TG}{tb:TS}{D:bI}{σ:St}{H:Hp}(Pv:Nat->St->Hp->Prop)(h0:Pv 0 σ H)(hl:∀i σ H,Pv i σ H->SqT K H a xs/\SqT K H b ys)
  (hs:∀i x y σ H p (D':bI),(∀v H,D.rt v H->D'.rt v H)->(∀σ' H',Pv (i+1) σ' H'->D'.nx σ' H')->xs[i]?=some x->ys[i]?=some y->Pv i σ H->H p=none->g (.ref p) σ (upd H p (.tup [x,y])) λσ2 H2=>tb D' σ2 H2) (hd:∀σ H,Pv (min xs.length ys.length) σ H->D.nx σ H):=
 uB (K:=K) (a:=a) (b:=b) (xs:=xs) (ys:=ys) (g:=g) (tb:=tb) (D:=D) (σ:=σ) (H:=H) Pv h0 hl (λi x y σ H p hx hy q hp=>hs i x y σ H p _ (λ_ _ h=>h) (λ_ _ h=>h) hx hy q hp) hd
theorem oq{c:TT}{tb:TS}{D:bI}{σ:St}{H:Hp}(Pv:Nat->St->Hp->Prop)(m:Nat)(h0:Pv m σ H)
  (hs:∀m σ H (D':bI),(∀v H,D.rt v H->D'.rt v H)->(∀m' σ' H',m'<m->Pv m' σ' H'->D'.nx σ' H')->Pv m σ H->c σ H λb H1=>if b=true then tb D' σ H1 else D.nx σ H1)
  (mono:∀σ H Q Q',(∀b H1,Q b H1->Q' b H1)->c σ H Q->c σ H Q'):qm c tb D σ H:=
 rX Pv m h0 (λm σ H p=>hs m σ H _ (λ_ _ h=>h) (λm' _ _ l q=>⟨m',l,q⟩) p) mono
end XB
namespace L2.EX
open PySem PySem.Spec PyProof.Rows PySem.W
section
variable{P:Α}{w:Υ}{A:Ω}{R:Ff->η->Prop}{E:δ->η->Prop}{h:Heap}{g:Array DE}{d:GC}{t:Nat}{os:F8}
variable{nm q:Str}{C N:Addr}{bs bm:List δ}{hdct:Bool}{sn:List Str}{sub:List δ}{ab:Bool}{col:Option Bool}{dd:Option Addr}{k0 k1 k2 k3 k5:Option δ}{B newId inN:String}{bmN:List δ}
structure bg(B:String)(bm:List δ):Prop where
 is:bm.contains (.type B)=true
 attr:bm.contains (.type "AttributeError")=false
 name:bm.contains (.type "NameError")=false
theorem bg.up{X:String}{b:Bool}{a:Addr}(e:bm.contains (.type X)=b):(Ε a::bm).contains (.type X)=b:=by
 rw[Fq,e];cases b<;>rfl
def fA(C:Addr)(t:Addr):Obj:={cls:=.ref C,data:=.fields #[.ref t,.none,.none,.none,.bool false,.none]}
def ku(vs:List δ):Obj:={cls:=.type "tuple",data:=.seq vs.toArray}
theorem Ak(F:Fb B newId inN bmN)(O:bg B bm){vs:List δ}(hC:h.get? C=some (excClassObj nm q C N bs bm hdct sn sub ab col dd k0 k1 k2 k3 k5 newId))(hv:vs.length<=sizeLine)
  (hq:R (.ok (.ret (.ref (h.objs.size+1)))) ⟨(h.push (ku vs)).push (fA C h.objs.size),g,d,t,os⟩):
  codeAny (model P w) A (.builtin newId ⟨.ref C::vs,[]⟩) R ⟨h,g,d,t,os⟩:=by
 have e1:=F.ends
 have b1:=bg.up (a:=C) O.is
 have b2:=bg.up (a:=C) O.attr
 have b3:=bg.up (a:=C) O.name
 refine codeAny_builtinAt F.entry ?_
 unfold Ϥ.«BaseException.__new__»
 refine PySem.wpAt_bind ?_
 show PySem.wpAt _ _ _ (stack>>=_) _ _ _
 refine PySem.wpAt_bind (PySem.wpAt_stack λp below=>PySem.wpAt_of_wpAny ?_)
 wp_walk
 refine PySem.wpAt_of_wpAny ?_
 rw[F.owner]
 repeat (first
  |with_reducible refine wpAny_madeHere_exc F.canon hC ?_
  |with_reducible refine Χ hC ?_
  |(with_reducible refine ϯ hC ?_;first|rw[b1]|rw[b2]|rw[b3])
  |wp_step)
 show R _ _
 rw[ϩ]
 exact hq
theorem lL(F:Fb B newId inN bmN)(O:bg B bm){vs:List δ}{Q:Unit->η->Prop}(hC:h.get? C=some (excClassObj nm q C N bs bm hdct sn sub ab col dd k0 k1 k2 k3 k5 newId))(hq:Q Unit.unit ⟨h,g,d,t,os⟩):
  wpAny (model P w) A (checkBuiltinCall newId ⟨.ref C::vs,[]⟩) Q E ⟨h,g,d,t,os⟩:=by
 have b1:=bg.up (a:=C) O.is
 have e1:=F.noStar
 simp only[checkBuiltinCall,F.newKind,F.newSplit,F.newRow]
 repeat (first
  |refine Χ hC ?_
  |(refine ϯ hC ?_;rw[b1])
  |refine wpAny_staticBase_exc hC ?_
  |refine wpAny_madeBy_exc hC ?_
  |simp only[bne_self_eq_false,Dh,if_false]
  |wp_step)
 exact hq
end
section
variable{P:Α}{w:Υ}{A:Ω}{E:δ->η->Prop}{h:Heap}{g:Array DE}{d:GC}{t:Nat}{os:F8}
variable{nm q:Str}{C N fI:Addr}{bs bm:List δ}{hdct:Bool}{sn:List Str}{sub:List δ}{ab:Bool}{col:Option Bool}{dd:Option Addr}{k0 k1 k2 k3 k5:Option δ}{B newId inN:String}{bmN:List δ}
theorem xF(F:Fb B newId inN bmN)(O:bg B bm){vs:List δ}{oI:Obj}{Q:δ->η->Prop}(hC:h.get? C=some (excClassObj nm q C N bs bm hdct sn sub ab col dd k0 k1 k2 k3 k5 newId))(hv:vs.length<=sizeLine)(hfI:h.get? fI=some oI)(hfc:oI.cls=.type "function")
  (look:∀{A:Ω}{E:δ->η->Prop}{Q:Option δ->η->Prop}{s:η},(∀b o,h.get? b=some o->s.heap.get? b=some o)->Q (some (.ref fI)) s->wpAny (model P w) A (typeLookup (.ref C) "__init__") Q E s)
  (hq:wpAny (model P w) (A.under (.builtin "type.__call__" ⟨.ref C::vs,[]⟩)) (call (.ref fI) (.ref (h.objs.size+1)::vs)) (λr s'=>r=.none/\Q (.ref (h.objs.size+1)) s') E ⟨(h.push (ku vs)).push (fA C h.objs.size),g,d,t,os⟩):
  wpAny (model P w) A (call (.ref C) vs) Q E ⟨h,g,d,t,os⟩:=by
 have f1:=tc_lookup
 have f2:=tc_bind (.ref C)
 have hT:(⟨h,g,d,t,os⟩:η).TypeIs (.ref C) "type":=⟨_,hC,rfl⟩
 have kp:∀b o,h.get? b=some o->((h.push (ku vs)).push (fA C h.objs.size)).get? b=some o:=λb o e=>ι _ (ι _ e)
 have hC1:=kp _ _ hC
 have hI1:=kp _ _ hfI
 have hg:((h.push (ku vs)).push (fA C h.objs.size)).get? (h.objs.size+1)=some (fA C h.objs.size):=Heap.get?_push_at (by simp only[ϩ]) rfl
 have hcC:(Ε C::bm).contains (.ref C)=true:=by simp
 refine Eg (EY ?_)
 show wpAny _ _ (callAny (.ref C) _) _ _ _
 repeat (any_goals (first|assumption|with_reducible refine Χ hC ?_|wp_step))
 refine⟨rfl,codeAny_call_builtin_at (A3 _ ()) entry_typeCall (wpAny_check_type_call_sub hC ?_)⟩
 repeat (first|with_reducible refine Χ hC ?_|with_reducible refine wpAny_madeBy_exc hC ?_|wp_step)
 refine codeAny_call_builtin_code (A3 _ F.quiet) (lL F O hC (Ak F O hC hv ?_))
 show wpAny _ _ _ _ _ _
 unfold isInstance
 unfold fA at hg
 repeat (first|with_reducible refine Χ hg ?_|wp_step)
 refine ϯ hC1 ?_
 rw[hcC]
 repeat (first|with_reducible refine Χ hg ?_|wp_step)
 show wpAny _ _ (typeLookup (.ref C) _) _ _ _
 refine look kp ?_
 refine Ϧ (γ ?_)
 unfold bindSpecial
 refine γ (Dg (T:="function") ⟨_,hI1,hfc⟩ ?_)
 rw[Q0 ()]
 refine ν (γ (i8 hq (λr s' hr=>?_) λ_ _ x=>x))
 obtain⟨rfl,hQ⟩:=hr
 wp_walk
 exact hQ
end
open PySem PySem.Spec PyProof.Rows PySem.W
section
variable{P:Α}{w:Υ}{A:Ω}{E:δ->η->Prop}{h:Heap}{g:Array DE}{d:GC}{t:Nat}{os:F8}
variable{nm q:Str}{C N fI:Addr}{bs bm:List δ}{hdct:Bool}{sn:List Str}{sub:List δ}{ab:Bool}{col:Option Bool}{dd:Option Addr}{k0 k1 k2 k3 k5:Option δ}{B newId nid initId:String}{bmB:List δ}
theorem kn(F:Fb B nid initId bmB)(O:bg B bm){e:Addr}{oe:Obj}{vs:List δ}{Q:Unit->η->Prop}(hC:h.get? C=some (excClassObj nm q C N bs bm hdct sn sub ab col dd k0 k1 k2 k3 k5 newId))(he:h.get? e=some oe)(hc:oe.cls=.ref C)(hq:Q Unit.unit ⟨h,g,d,t,os⟩):
  wpAny (model P w) A (checkBuiltinCall initId ⟨.ref e::vs,[]⟩) Q E ⟨h,g,d,t,os⟩:=by
 have b1:=bg.up (a:=C) O.is
 have e1:=F.noStar
 simp only[checkBuiltinCall,F.initKind,F.initSplit,F.initRow]
 repeat (first
  |(with_reducible refine Χ he ?_;rw[hc])
  |with_reducible refine Χ hC ?_
  |(with_reducible refine ϯ hC ?_;rw[b1])
  |wp_step)
 refine EN ?_
 have z:∀(a b:String)(n:Nat),Bind.check ⟨.positional,"*",B,.self,[⟨"args",.varPos,false⟩]⟩ a b n (FW (λx=>x.fst) ({pos:=Ε e::vs}:Args).kw)=pure Unit.unit:=λa b n=>check_star_args _ _ _ _ _ _
 rw[z]
 exact ν hq
def flE(a:Addr):Data:=.fields #[.ref a,.none,.none,.none,.bool false,.none]
theorem yE(F:Fb B nid initId bmB)(O:bg B bm){e a0:Addr}{oe:Obj}{vs:List δ}{Q:δ->η->Prop}(hC:h.get? C=some (excClassObj nm q C N bs bm hdct sn sub ab col dd k0 k1 k2 k3 k5 newId))(he:h.get? e=some oe)(hc:oe.cls=.ref C)(hd:oe.data=flE a0)(hv:vs.length<=sizeLine)
  (hq:∀h',(∀b o,b≠e->h.get? b=some o->h'.get? b=some o)->h'.get? e=some {oe with data:=flE h.objs.size}->h'.get? h.objs.size=some (ku vs)->Q .none ⟨h',g,d,t,os⟩):
  wpAny (model P w) A (call (.builtin initId) (.ref e::vs)) Q E ⟨h,g,d,t,os⟩:=by
 obtain⟨oc,od,odt,os'⟩:=oe
 simp only at hc hd
 subst hc;subst hd
 unfold flE at he
 refine Eg (j6 F.init.plain F.initEntry (kn F O hC he rfl ?_))
 wp_walk
 refine hq _ (λb o hb z=>?_) ?_ ?_
 ·rw[Ψ _ _ (Ϗ hb)]
  exact ι _ z
 ·rw[Ϡ _ (ι _ he) rfl]
  rfl
 ·rw[Ψ _ _ (Ρ (ς he))]
  exact ψ _ rfl
end
open PySem PySem.Spec PyProof.Rows PySem.W
theorem Ct{α:Type}{M:Gn}{A:Ω}{E:δ->η->Prop}{s:η}{c:Prop}[Decidable c]{x y:Sem α}{Q:α->η->Prop}(h1:c->wpAny M A x Q E s)(h2:¬ c->wpAny M A y Q E s):wpAny M A (if c then x else y) Q E s:=by
 split
 ·next h=>exact h1 h
 ·next h=>exact h2 h
section
variable{P:Α}{w:Υ}{A:Ω}{E:δ->η->Prop}{h:Heap}{g:Array DE}{d:GC}{t:Nat}{os:F8}
variable{nm q:Str}{C D N x:Addr}{bs bmB:List δ}{sn:List Str}{sub:List δ}{ab:Bool}{col:Option Bool}{dd:Option Addr}{k0 k1 k2 k3 k5:Option δ}{B newId sa owner:String}{name:Str}{v:δ}{tk:Tok}
def bP(P:Α)(w:Υ)(h:Heap)(C:Addr)(name:Str)(y:Option δ):Prop:=
 ∀{A:Ω}{E:δ->η->Prop}{Q:Option δ->η->Prop}{s:η},(∀b o,h.get? b=some o->s.heap.get? b=some o)->Q y s->wpAny (model P w) A (typeLookup (.ref C) name) Q E s
theorem nC(SF:StoreFacts B bmB sa owner){Q:Fin->η->Prop}{o:Obj}(hC:h.get? C=some (excClassObj nm q C N bs (.ref D::bmB) true sn sub ab col dd k0 k1 k2 k3 k5 newId))(hl:bP P w h C name none)(hx:h.get? x=some o)(hc:o.cls=.ref C){a0:Addr}(hdt:o.data=flE a0)(hdn:o.dict=none)
  (hq:∀h' tk',(∀b o,b≠x->h.get? b=some o->h'.get? b=some o)->h'.get? x=some {o with dict:=some h.objs.size}->h'.Ns1 h.objs.size (λy=>if y=name then some v else none)->Q (.done (.ret .none)) ⟨h',g,d,tk',os⟩):
  wpAny (model P w) A (Ϥ.«object.__setattr__» ⟨[.ref x,.str name tk,v],[]⟩) Q E ⟨h,g,d,t,os⟩:=by
 have hpass:=SF.passes (.ref x)
 obtain⟨oc,od,odt,osl⟩:=o
 simp only at hc hdt hdn
 subst hc
 unfold Ϥ.«object.__setattr__»
 repeat (first
  |rw[refuse_eq]
  |(rw[refuseLoop_ref,refuseLoop_ref,hpass])
  |with_reducible refine Χ hx ?_
  |with_reducible refine wpAny_mroOf_exc hC ?_
  |wp_step)
 refine hl (λ_ _ z=>z) ?_
 repeat (first|with_reducible refine Χ hx ?_|wp_step)
 subst hdt;subst hdn
 dsimp only[flE]
 have nx:x≠h.objs.size:=Ρ (ς hx)
 have hx1:=ι {cls:=.type "dict",data:=.dict #[]} hx
 refine Ct (λz=>absurd z (by simp[typeHasDict])) λ_=>?_
 refine γ (wpAny_alloc' (γ (wpAny_update' hx1 (ν ?_))))
 have gd:((h.push {cls:=.type "dict",data:=.dict #[]}).update x λo=>{cls:=o.cls,dict:=some h.objs.size,data:=o.data,slots:=o.slots}).get? h.objs.size=some {cls:=.type "dict",data:=.dict #[]}:=by
  rw[Ψ _ _ nx]
  exact ψ _ rfl
 have gx:((h.push {cls:=.type "dict",data:=.dict #[]}).update x λo=>{cls:=o.cls,dict:=some h.objs.size,data:=o.data,slots:=o.slots}).get? x=some {cls:=.ref C,dict:=some h.objs.size,data:=flE a0,slots:=osl}:=Ϡ _ hx1 rfl
 have go:∀b o,b≠x->h.get? b=some o->((h.push {cls:=.type "dict",data:=.dict #[]}).update x λo=>{cls:=o.cls,dict:=some h.objs.size,data:=o.data,slots:=o.slots}).get? b=some o:=λb o hb z=>by
  rw[Ψ _ _ (Ϗ hb)]
  exact ι _ z
 generalize ((h.push {cls:=.type "dict",data:=.dict #[]}).update x λo=>{cls:=o.cls,dict:=some h.objs.size,data:=o.data,slots:=o.slots})=h1 at gd gx go⊢
 have hnd:h1.Ns h.objs.size (λ_=>none):=⟨_,#[],_,gd,rfl,λe he=>absurd he (),λ_=>rfl⟩
 show wpAny _ _ (EK h.objs.size (.str name tk) name v) _ _ _
 unfold EK Ϥ.ObjectAttr.newKeyGuard
 refine γ (ν (γ (wpAny_nsSet1 (Heap.Ns1.of_empty hnd) λh' hn' hs=>?_)))
 obtain⟨oD,esD,epD,hoD,hdD,hcD⟩:=hn'.count (Within.cons name v Within.nil)
 refine γ (wpAny_lookBehind hoD (by rw[hdD];exact pastItsLine_dict (Ϙ hcD (by rw[ω];show 1<=_;omega))) ?_)
 wp_walk
 refine hq h' _ (λb o hb z=>?_) ((hs.2 x nx).trans gx) ?_
 ·exact(hs.2 b (Ρ (ς z))).trans (go b o hb z)
 ·obtain⟨o',es,ep,e1,e2,e3,eu,e4⟩:=hn'
  exact⟨o',es,ep,e1,e2,e3,eu,λy=>by rw[e4 y]⟩
end
open PySem PySem.Spec PyProof.Rows PySem.W
section
variable{P:Α}{w:Υ}{A:Ω}{E:δ->η->Prop}{h:Heap}{g:Array DE}{d:GC}{t:Nat}{os:F8}
variable{nm q:Str}{C D N x:Addr}{bs bmB:List δ}{sn:List Str}{sub:List δ}{ab:Bool}{col:Option Bool}{dd:Option Addr}{k0 k1 k2 k3 k5:Option δ}{B newId sa owner:String}{name:Str}{v:δ}
theorem mI(SF:StoreFacts B bmB sa owner){o:Obj}{u:δ}{Q:Unit->η->Prop}(hC:h.get? C=some (excClassObj nm q C N bs (.ref D::bmB) true sn sub ab col dd k0 k1 k2 k3 k5 newId))(hx:h.get? x=some o)(hc:o.cls=.ref C)(hq:Q Unit.unit ⟨h,g,d,t,os⟩):
  wpAny (model P w) A (checkBuiltinCall sa ⟨[.ref x,u,v],[]⟩) Q E ⟨h,g,d,t,os⟩:=by
 have b1:=bg.up (a:=C) (bg.up (a:=D) SF.hasOwner)
 have ha:=SF.args (.ref x) u v
 simp only[checkBuiltinCall,SF.kind,SF.split]
 refine γ ?_
 unfold isInstance
 repeat (first
  |(with_reducible refine Χ hx ?_;rw[hc])
  |(with_reducible refine ϯ hC ?_;rw[b1])
  |wp_step)
 cases hsig:Manifest.signature? sa with
 |none=>exact ν hq
 |some sig=>
  simp only[argsOk,hsig]at ha
  have e2:Gs sa sig ⟨[.ref x,u,v],[]⟩=pure Unit.unit:=ha
  show wpAny (model P w) A (Gs sa sig ⟨[.ref x,u,v],[]⟩) Q E _
  rw[e2];exact ν hq
theorem tm(SF:StoreFacts B bmB sa owner){Q:Unit->η->Prop}{o:Obj}(hC:h.get? C=some (excClassObj nm q C N bs (.ref D::bmB) true sn sub ab col dd k0 k1 k2 k3 k5 newId))(hs:bP P w h C "__setattr__" (some (.builtin sa)))(hl:bP P w h C name none)(hx:h.get? x=some o)(hc:o.cls=.ref C){a0:Addr}(hdt:o.data=flE a0)(hdn:o.dict=none)
  (hq:∀h' tk',(∀b o,b≠x->h.get? b=some o->h'.get? b=some o)->h'.get? x=some {o with dict:=some h.objs.size}->h'.Ns1 h.objs.size (λy=>if y=name then some v else none)->Q Unit.unit ⟨h',g,d,tk',os⟩):
  wpAny (model P w) A (setAttr (.ref x) name v) Q E ⟨h,g,d,t,os⟩:=by
 have f3:=SF.slot.bind (.ref x)
 unfold setAttr callSpecial? specialOf
 repeat (any_goals (first|assumption|(with_reducible refine Χ hx ?_;rw[hc])|wp_step))
 refine hs (λ_ _ z=>z) ?_
 repeat (any_goals (first|assumption|wp_step))
 refine j6 SF.slot.plain SF.entry (mI SF hC hx hc (nC SF hC hl hx hc hdt hdn λh' tk' k1 k2 k3=>?_))
 repeat (any_goals (first|assumption|wp_step))
 exact hq h' tk' k1 k2 k3
end
open PySem PySem.Spec PyProof.Rows PySem.W
section
variable{P:Α}{w:Υ}{A:Ω}{E:δ->η->Prop}{h:Heap}{g:Array DE}{d:GC}{t:Nat}{os:F8}
variable{nm q:Str}{C D N x dx a0:Addr}{bs bmB:List δ}{sn:List Str}{sub:List δ}{ab:Bool}{col:Option Bool}{dd:Option Addr}{k0 k1 k2 k3 k5:Option δ}{B newId:String}{name:Str}{v:δ}{tk:Tok}{mA:Str->Option δ}{sl:Array (Option δ)}{ws:Array δ}
theorem fM(FB:FJ B bmB){o:Obj}{u:δ}{Q:Unit->η->Prop}(hC:h.get? C=some (excClassObj nm q C N bs (.ref D::bmB) true sn sub ab col dd k0 k1 k2 k3 k5 newId))(hx:h.get? x=some o)(hc:o.cls=.ref C)(hq:Q Unit.unit ⟨h,g,d,t,os⟩):
  wpAny (model P w) A (checkBuiltinCall "BaseException.__getattribute__" ⟨[.ref x,u],[]⟩) Q E ⟨h,g,d,t,os⟩:=by
 have e1:builtinKind "BaseException.__getattribute__"=some .slot:=by decide +kernel
 have e2:splitId "BaseException.__getattribute__"=some ("BaseException","__getattribute__"):=by decide +kernel
 have b1:=bg.up (a:=C) (bg.up (a:=D) FB.hasBase)
 have ha:=F.args_bexc_ga (.ref x) u
 simp only[checkBuiltinCall,e1,e2]
 refine γ ?_
 unfold isInstance
 repeat (first
  |(with_reducible refine Χ hx ?_;rw[hc])
  |(with_reducible refine ϯ hC ?_;rw[b1])
  |wp_step)
 exact hq
theorem tO{Q:Fin->η->Prop}(hC:h.get? C=some (excClassObj nm q C N bs (.ref D::bmB) true sn sub ab col dd k0 k1 k2 k3 k5 newId))(hl:bP P w h C name none)(hx:h.get? x=some {cls:=.ref C,dict:=some dx,data:=.fields ws,slots:=sl})(hn:h.Ns1 dx mA)(hv:mA name=some v)(hq:Q (.done (.ret v)) ⟨h,g,d,t,os⟩):
  wpAny (model P w) A (Ϥ.«object.__getattribute__» ⟨[.ref x,.str name tk],[]⟩) Q E ⟨h,g,d,t,os⟩:=by
 unfold Ϥ.«object.__getattribute__»
 repeat (first|with_reducible refine Χ hx ?_|wp_step)
 show wpAny _ _ (typeLookup (.ref C) name) _ _ _
 refine hl (λ_ _ z=>z) ?_
 repeat (first|(with_reducible refine wpAny_nsGet hn.ns ?_;rw[hv])|with_reducible refine Χ hx ?_|with_reducible refine Χ hC ?_|wp_step)
 exact hq
theorem Ac(FB:FJ B bmB){expr:Bool}{Q:δ->η->Prop}(hC:h.get? C=some (excClassObj nm q C N bs (.ref D::bmB) true sn sub ab col dd k0 k1 k2 k3 k5 newId))(hg:bP P w h C "__getattribute__" (some (.builtin "BaseException.__getattribute__")))(hh:bP P w h C "__getattr__" none)(hl:bP P w h C name none)
  (hx:h.get? x=some {cls:=.ref C,dict:=some dx,data:=.fields ws,slots:=sl}) (hn:h.Ns1 dx mA) (hv:mA name=some v) (ho:handedOut v=pure v) (hq:Q v ⟨h,g,d,t+1,os⟩):
  wpAny (model P w) A (getAttr (.ref x) name expr) Q E ⟨h,g,d,t,os⟩:=by
 have f3:=FB.ga.bind (.ref x)
 have z0:(expr&&onTheHeap (u9 "BaseException.__getattribute__"))=false:=by cases expr<;>rfl
 have z2:(u9 "BaseException.__getattribute__" == u9 "object.__getattribute__")=false:=by decide +kernel
 have z1:(onTheHeap (Ε C)&&u9 "BaseException.__getattribute__" == u9 "object.__getattribute__")=false:=by rw[z2];rfl
 unfold getAttr getAttrBy
 repeat (any_goals (first|assumption|with_reducible refine Χ hx ?_|wp_step))
 show wpAny _ _ (typeLookup (.ref C) _) _ _ _
 refine hg (λ_ _ z=>z) ?_
 dsimp only
 rw[z1]
 repeat (any_goals (first|assumption|with_reducible refine Χ hx ?_|wp_step))
 refine hh (λ_ _ z=>z) ?_
 repeat (any_goals (first|assumption|wp_step))
 refine j6 FB.ga.plain F.entry_bexc_ga (fM FB hC hx rfl (tO hC hl hx hn hv ?_))
 repeat (any_goals (first|assumption|(rw[ho])|wp_step))
end
open PySem PySem.Spec PyProof.Rows PySem.W
structure Mv(fs ex:List Addr)(h h':Heap):Prop where
 keep:∀b o,b∉fs->b∉ex->h.get? b=some o->h'.get? b=some o
 slot:∀b o,b∉ex->h.get? b=some o->∃sl,h'.get? b=some {o with slots:=sl}
theorem Mv.trans{fs ex:List Addr}{h h1 h2:Heap}(a:Mv fs ex h h1)(b:Mv fs ex h1 h2):Mv fs ex h h2:=
 ⟨λc o n1 n2 e=>b.keep c o n1 n2 (a.keep c o n1 n2 e),λc o n e=>by
  obtain⟨sl,e1⟩:=a.slot c o n e
  obtain⟨sl',e2⟩:=b.slot c _ n e1
  exact⟨sl',e2⟩⟩
theorem Mv.mono{fs fs' ex ex':List Addr}{h h':Heap}(a:Mv fs ex h h')(s1:∀b∈fs,b∈fs')(s2:∀b∈ex,b∈ex'):Mv fs' ex' h h':=
 ⟨λc o n1 n2 e=>a.keep c o (λz=>n1 (s1 c z)) (λz=>n2 (s2 c z)) e,λc o n e=>a.slot c o (λz=>n (s2 c z)) e⟩
theorem Mv.hok{P:Α}{w:Υ}{fs ex:List Addr}{H:Hp}{h h':Heap}(m:Mv fs ex h h')(x:HOk P w H h)(hf:∀b∈fs,H b=none)(hx:∀b∈ex,H b=none):HOk P w H h':=λa o e=>
 (x a o e).stay (λb u hb q=>m.keep b u (λz=>by
   have:=hf b z
   rcases hb with rfl|hb
   ·rw[e]at this;cases this
   ·rw[hb]at this;cases this) (λz=>by
   have:=hx b z
   rcases hb with rfl|hb
   ·rw[e]at this;cases this
   ·rw[hb]at this;cases this) q) (λ_ q=>q) λ_ _ q=>q
theorem Mv.un{fs fs' ex ex':List Addr}{H H':Hp}{h h1 h2:Heap}(m:Mv fs' ex' h1 h2)(u:Un fs ex H H' h h1)(hf:∀b∈fs',b∈fs\/h.get? b=none)(hx:∀b∈ex',h.get? b=none):Un fs ex H H' h h2 where
 keep:=λb o q n h1' h2'=>m.keep b o (λz=>(hf b z).elim h1' λy=>by rw[q]at y;cases y) (λz=>by have y:=hx b z;rw[q]at y;cases y) (u.keep b o q n h1' h2')
 slot:=λb o q n h1' h2'=>by
  obtain⟨sl,e⟩:=u.slot b o q n h1' h2'
  obtain⟨sl',e2⟩:=m.slot b _ (λz=>by have y:=hx b z;rw[q]at y;cases y) e
  exact⟨sl',e2⟩
 free:=u.free
 there:=λb o q n=>by
  obtain⟨o',e⟩:=u.there b o q n
  obtain⟨sl,e2⟩:=m.slot b o' (λz=>by have y:=hx b z;rw[q]at y;cases y) e
  exact⟨_,e2⟩
 tups:=u.tups
 frzs:=u.frzs
 tbls:=u.tbls
structure Exo(h:Heap)(e T:Addr)(cls:δ)(dx:Option Addr)(fl:δ):Prop where
 obj:∃oe vs,h.get? e=some oe/\oe.cls=cls/\oe.dict=dx/\oe.data=.fields vs/\vs[1]?=some (.ref T)/\vs[2]?=some .none
 tb:∃oT ts,h.get? T=some oT/\oT.data=.fields ts/\ts[3]?=some fl
 ne:T≠e
def Exn(h:Heap)(e:Addr)(cls:δ)(dx:Option Addr):Prop:=∃oe vs,h.get? e=some oe/\oe.cls=cls/\oe.dict=dx/\oe.data=.fields vs/\vs[1]?=some .none/\vs[2]?=some .none
section
variable{M:Gn}{A:Ω}{E:δ->η->Prop}{s:η}{base:Heap}{env:Env}{outer:List Env}{L e T:Addr}{cls:δ}{dx:Option Addr}
theorem nO{oe:Obj}{vs:Array δ}{head:δ}{hadNext:Bool}{Q:Unit->η->Prop}(hfr:A.frames=some (env::outer))(hl:s.heap.FunFrames base (env::outer))(hf:env.frame=some L)
  (he:s.heap.get? e=some oe) (hc:oe.cls=cls) (hdx:oe.dict=dx) (hd:oe.data=.fields vs) (hsz:1<vs.size) (h2:vs[2]?=some .none)
  (h:∀h' T,s.heap.objs.size<=T->Mv (frs (env::outer)) [e] s.heap h'->Exo h' e T cls dx (rawInt L)->Q Unit.unit {s with heap:=h'}):
  wpAny M A (do let a <-frameOf env;let pl <-entryPlaceOf L hadNext;let b <-EntryCells.newEntry head a .none (rawInt L) .none pl;setField (.ref e) 1 b) Q E s:=by
 have hene:e∉frs (env::outer):=λhm=>by
  obtain⟨_,o,ho,hnf⟩:=hl.mem hm
  rw[he]at ho;cases ho;exact hnf vs hd
 refine γ (wpAny_frameOf_fun hfr hl hf λh₁ hs=>γ (wpAny_entryPlaceOf λpl hpl=>?_))
 unfold EntryCells.newEntry newFields
 refine γ (ϝ ?_ (hpl.sizeOk5 _ _ _ _ _))
 have e1:h₁.get? e=some oe:=(hs.2.1 e hene).trans he
 generalize ho:({cls:=.type "traceback",dict:=none,data:=.fields ([head,.ref L,.none,rawInt L,.none]++(if pl.isEmpty then Β 6 a8 else pl)).toArray}:Obj)=oT
 have e2:=ι (h:=h₁) oT e1
 have nT:h₁.objs.size≠e:=m6 (ς e1)
 have d3:=Di hd (·.setIfInBounds 1 (Ε h₁.objs.size))
 refine DO e2 hd hsz (h _ h₁.objs.size (by rw[hs.1];exact ρ _) ⟨λb o n1 n2 z=>?_,λb o n z=>?_⟩ ⟨⟨_,_,Ϡ _ e2 (EB d3),by rw[Obj.cls_mapFields];exact hc,?_,d3,by simp[hsz],by rw[Array.getElem?_setIfInBounds_ne ()];exact h2⟩,⟨oT,_,?_,by rw[<-ho],?_⟩,nT⟩)
 ·rw[Ψ _ _ (λq=>n2 (by rw[<-q];simp))]
  exact ι _ ((hs.2.1 b n1).trans z)
 ·obtain⟨sl,q⟩:=hs.2.2 b o z
  refine⟨sl,?_⟩
  rw[Ψ _ _ (λq=>n (by rw[<-q];simp))]
  exact ι _ q
 ·rw[<-hdx];obtain⟨c1,c2,c3,c4⟩:=oe;cases c3<;>rfl
 ·rw[Ψ _ _ (Ϗ nT)]
  exact ψ _ (by rw[<-ho];rfl)
 ·first|(simp;done)|(rcases hpl with rfl|⟨_,_,_,_,_,_,_,rfl⟩<;>simp)
theorem qU{Q:Unit->η->Prop}(hfr:A.frames=some (env::outer))(hl:s.heap.FunFrames base (env::outer))(hf:env.frame=some L)(x:Exn s.heap e cls dx)
  (h:∀h' T,s.heap.objs.size<=T->Mv (frs (env::outer)) [e] s.heap h'->Exo h' e T cls dx (rawInt L)->Q Unit.unit {s with heap:=h'}):wpAny M A (noteFrame (.ref e) env) Q E s:=by
 obtain⟨oe,vs,he,hc,hdx,hd,h1,h2⟩:=x
 unfold noteFrame
 simp only[hf]
 refine γ (ϭ he hd h1 ?_)
 rw[Q6 ()]
 exact nO hfr hl hf he hc hdx hd (A6.mp h1).1 h2 h
theorem kB{Q:Unit->η->Prop}(hfr:A.frames=some (env::outer))(hl:s.heap.FunFrames base (env::outer))(hf:env.frame=some L)(x:Exo s.heap e T cls dx .none)
  (h:∀h' T',s.heap.objs.size<=T'->Mv (frs (env::outer)) [e,T] s.heap h'->Exo h' e T' cls dx (rawInt L)->Q Unit.unit {s with heap:=h'}):wpAny M A (noteFrame (.ref e) env) Q E s:=by
 obtain⟨⟨oe,vs,he,hc,hdx,hd,h1,h2⟩,⟨oT,ts,hT,hdT,h3⟩,ne⟩:=x
 unfold noteFrame
 simp only[hf]
 refine γ (ϭ he hd h1 ?_)
 rw[Q0 ()]
 refine γ (ϭ hT hdT h3 ?_)
 rw[Q6 (by simp[rawInt])]
 refine γ (DO hT hdT (A6.mp h3).1 ?_)
 have ot:∀b,b≠T->(s.heap.update T (EO (·.setIfInBounds 3 a8))).get? b=s.heap.get? b:=λb hb=>Ψ _ _ (Ϗ hb)
 have m1:Mv (frs (env::outer)) [e,T] s.heap (s.heap.update T (EO (·.setIfInBounds 3 a8))):=⟨λb o _ n z=>(ot b λq=>n (by rw[q];simp)).trans z,λb o n z=>⟨o.slots,(ot b λq=>n (by rw[q];simp)).trans z⟩⟩
 refine nO hfr (hl.of_keeps λb o hb hnf=>⟨o,(ot b λq=>?_).trans hb,rfl⟩) hf ((ot e (Ϗ ne)).trans he) hc hdx hd (A6.mp h1).1 h2 λh' T' l m x=>h h' T' (by have e:=l;simpa using e) (m1.trans (m.mono (λ_ z=>z) λb z=>μ.mpr (.inl (θ.mp z)))) x
 rw[q,hT]at hb;cases hb;exact hnf ts hdT
theorem eA{fl:δ}{Q:Unit->η->Prop}(x:Exo s.heap e T cls dx fl)(h:∀h',Mv [] [T] s.heap h'->Exo h' e T cls dx .none->Q Unit.unit {s with heap:=h'}):wpAny M A (setFlight (.ref e) none) Q E s:=by
 obtain⟨⟨oe,vs,he,hc,hdx,hd,h1,h2⟩,⟨oT,ts,hT,hdT,h3⟩,ne⟩:=x
 have z3:=(A6.mp h3).1
 have ot:∀b,b≠T->(s.heap.update T (EO (·.setIfInBounds 3 a8))).get? b=s.heap.get? b:=λb hb=>Ψ _ _ (Ϗ hb)
 refine wpAny_setFlight_none he hd h1 hT hdT z3 (h _ ⟨λb o _ n z=>(ot b λq=>n (by rw[q];simp)).trans z,λb o n z=>⟨o.slots,(ot b λq=>n (by rw[q];simp)).trans z⟩⟩ ?_)
 exact⟨⟨oe,vs,(ot e (Ϗ ne)).trans he,hc,hdx,hd,h1,h2⟩,⟨_,_,Ϡ _ hT (EB (Di hdT _)),Di hdT _,by simp[z3]⟩,ne⟩
theorem oH{Q:Unit->η->Prop}(hfr:A.frames=some (env::outer))(hl:s.heap.FunFrames base (env::outer))(hf:env.frame=some L)(x:Exn s.heap e cls dx)
  (h:∀h' T,s.heap.objs.size<=T->Mv (frs (env::outer)) [e,T] s.heap h'->Exo h' e T cls dx .none->Q Unit.unit {s with heap:=h'}):wpAny M A (leaving env (.ref e)) Q E s:=by
 unfold leaving
 refine γ (qU hfr hl hf x λh1 T l m1 x1=>eA x1 λh2 m2 x2=>h h2 T l ((m1.mono (λ_ z=>z) λb z=>μ.mpr (.inl (θ.mp z))).trans (m2.mono (λ_ z=>absurd z ()) λb z=>υ _ z)) x2)
theorem qG{Q:Unit->η->Prop}(hfr:A.frames=some (env::outer))(hl:s.heap.FunFrames base (env::outer))(hf:env.frame=some L)(x:Exo s.heap e T cls dx .none)
  (h:∀h' T',s.heap.objs.size<=T'->Mv (frs (env::outer)) [e,T,T'] s.heap h'->Exo h' e T' cls dx .none->Q Unit.unit {s with heap:=h'}):wpAny M A (leaving env (.ref e)) Q E s:=by
 unfold leaving
 refine γ (kB hfr hl hf x λh1 T' l m1 x1=>eA x1 λh2 m2 x2=>h h2 T' l ((m1.mono (λ_ z=>z) λb z=>?_).trans (m2.mono (λ_ z=>absurd z ()) λb z=>?_)) x2)
 ·rcases μ.mp z with z|z
  ·exact μ.mpr (.inl z)
  ·exact υ _ (μ.mpr (.inl (θ.mp z)))
 ·exact υ _ (υ _ z)
end
open PySem PySem.Spec PyProof.Rows PySem.W
section
variable{P:Α}{w:Υ}{A:Ω}{E:δ->η->Prop}{h:Heap}{g:Array DE}{d:GC}{t:Nat}{os:F8}
variable{nm q:Str}{C D N e:Addr}{bs bmB:List δ}{sn:List Str}{sub:List δ}{ab:Bool}{col:Option Bool}{dd:Option Addr}{k0 k1 k2 k3 k5:Option δ}{B newId:String}{oe:Obj}
theorem yH:(".".intercalate ("object.__class__".cutAt '.').dropLast)="object":=by decide +kernel
theorem Af{R:Ff->η->Prop}(hC:h.get? C=some (excClassObj nm q C N bs (.ref D::bmB) true sn sub ab col dd k0 k1 k2 k3 k5 newId))(he:h.get? e=some oe)(hc:oe.cls=.ref C)(hO:bmB.contains (.type "object")=true)(hq:R (.ok (.ret (.ref C))) ⟨h,g,d,t,os⟩):
  codeAny (model P w) A (.call (.builtin "getset_descriptor.__get__") ⟨[.builtin "object.__class__",.ref e,.ref C],[]⟩) R ⟨h,g,d,t,os⟩:=by
 have b1:=bg.up (a:=C) (bg.up (a:=D) hO)
 have y5:(⟨h,g,d,t,os⟩:η).TypeIs (.builtin "object.__class__") "getset_descriptor":=EC
 have o1:=yH
 refine j6 F.slot_gs_get.plain F.entry_gs_get (F.slot_gs_get.check _ _ _ _ _ _ _ _ y5 (F.args_gs_get _ _ _) ?_)
 repeat (any_goals (first|assumption|(with_reducible refine Χ he ?_;rw[hc])|(rw[o1];with_reducible refine ϯ hC ?_;rw[b1])|wp_step))
 refine⟨A3 _ (),ϴ F.entry_object_class ?_⟩
 repeat (any_goals (first|assumption|(with_reducible refine Χ he ?_;rw[hc])|wp_step))
variable{tk:Tok}
theorem vO{Q:Fin->η->Prop}(hC:h.get? C=some (excClassObj nm q C N bs (.ref D::bmB) true sn sub ab col dd k0 k1 k2 k3 k5 newId))(he:h.get? e=some oe)(hc:oe.cls=.ref C)(hO:bmB.contains (.type "object")=true)(hl:bP P w h C "__class__" (some (.builtin "object.__class__")))(hq:Q (.done (.ret (.ref C))) ⟨h,g,d,t,os⟩):
  wpAny (model P w) A (Ϥ.«object.__getattribute__» ⟨[.ref e,.str "__class__" tk],[]⟩) Q E ⟨h,g,d,t,os⟩:=by
 have y5:(⟨h,g,d,t,os⟩:η).TypeIs (.builtin "object.__class__") "getset_descriptor":=EC
 have f5:=EC
 have f6:=F.slot_gs_get.lookup
 have f7:=F.slot_gs_set.lookup
 unfold Ϥ.«object.__getattribute__»
 repeat (first|(with_reducible refine Χ he ?_;rw[hc])|wp_step)
 refine hl (λ_ _ z=>z) ?_
 repeat (any_goals (first|assumption|(with_reducible refine Χ he ?_;rw[hc])|wp_step))
 refine Af hC he hc hO ?_
 repeat (any_goals (first|assumption|wp_step))
theorem Bt{Q:δ->η->Prop}(FB:FJ B bmB)(hC:h.get? C=some (excClassObj nm q C N bs (.ref D::bmB) true sn sub ab col dd k0 k1 k2 k3 k5 newId))(he:h.get? e=some oe)(hc:oe.cls=.ref C)(hO:bmB.contains (.type "object")=true)(hl:bP P w h C "__class__" (some (.builtin "object.__class__")))
  (hg:bP P w h C "__getattribute__" (some (.builtin "BaseException.__getattribute__"))) (hh:bP P w h C "__getattr__" none) (hq:Q (.ref C) ⟨h,g,d,t,os⟩):
  wpAny (model P w) A (getAttrBy (.ref e) (.str "__class__" tk) false) Q E ⟨h,g,d,t,os⟩:=by
 have f3:=FB.ga.bind (.ref e)
 have z2:(u9 "BaseException.__getattribute__" == u9 "object.__getattribute__")=false:=by decide +kernel
 have z1:(onTheHeap (Ε C)&&u9 "BaseException.__getattribute__" == u9 "object.__getattribute__")=false:=by rw[z2];rfl
 unfold getAttrBy
 repeat (any_goals (first|assumption|(with_reducible refine Χ he ?_;rw[hc])|wp_step))
 refine hg (λ_ _ z=>z) ?_
 dsimp only
 rw[z1]
 repeat (any_goals (first|assumption|(with_reducible refine Χ he ?_;rw[hc])|wp_step))
 refine hh (λ_ _ z=>z) ?_
 repeat (any_goals (first|assumption|wp_step))
 refine j6 FB.ga.plain F.entry_bexc_ga (fM FB hC he hc (vO hC he hc hO hl ?_))
 repeat (any_goals (first|assumption|wp_step))
theorem xK{Q:Option δ->η->Prop}(FB:FJ B bmB)(hC:h.get? C=some (excClassObj nm q C N bs (.ref D::bmB) true sn sub ab col dd k0 k1 k2 k3 k5 newId))(he:h.get? e=some oe)(hc:oe.cls=.ref C)(hO:bmB.contains (.type "object")=true)(hl:bP P w h C "__class__" (some (.builtin "object.__class__")))
  (hg:bP P w h C "__getattribute__" (some (.builtin "BaseException.__getattribute__"))) (hh:bP P w h C "__getattr__" none) (hq:Q (some (.ref C)) ⟨h,g,d,t+1,os⟩):
  wpAny (model P w) A (getAttr? (.ref e) "__class__") Q E ⟨h,g,d,t,os⟩:=by
 unfold getAttr? getAttrBy?
 repeat (any_goals (first|assumption|with_reducible apply Bt FB hC he hc hO hl hg hh|wp_step))
theorem pP{M:Gn}(he:h.get? e=some oe)(hc:oe.cls=.ref C):Gm M h (typeOf (.ref e)) (.ref C):=λA Q E s k q=>by
 unfold typeOf
 exact γ (Gu (k _ _ he) (ν (by show Q oe.cls s;rw[hc];exact q)))
theorem zq{M:Gn}{c:δ}{b:Bool}(hC:h.get? C=some (excClassObj nm q C N bs (.ref D::bmB) true sn sub ab col dd k0 k1 k2 k3 k5 newId))(hn:(Ε C::.ref D::bmB).contains c=b):Gm M h (isSubtype (.ref C) c) b:=λA Q E s k q=>by
 obtain⟨h',g',d',t',os'⟩:=s
 exact ϯ (k _ _ hC) (by rw[hn];exact q)
theorem zy{M:Gn}(hC:h.get? C=some (excClassObj nm q C N bs (.ref D::bmB) true sn sub ab col dd k0 k1 k2 k3 k5 newId)):Gm M h (isType (.ref C)) true:=λA Q E s k q=>by
 unfold isType loadHead
 exact γ (Gu (k _ _ hC) (ν q))
theorem xN{c:δ}{Q:δ->η->Prop}(FB:FJ B bmB)(hC:h.get? C=some (excClassObj nm q C N bs (.ref D::bmB) true sn sub ab col dd k0 k1 k2 k3 k5 newId))(he:h.get? e=some oe)(hc:oe.cls=.ref C)(hO:bmB.contains (.type "object")=true)(hl:bP P w h C "__class__" (some (.builtin "object.__class__")))
  (hg:bP P w h C "__getattribute__" (some (.builtin "BaseException.__getattribute__"))) (hh:bP P w h C "__getattr__" none) (hne:(Ε C==c)=false) (hn:(Ε C::.ref D::bmB).contains c=false) (hty:Gm (model P w) h (typeOf c) (.type "type")) (his:Gm (model P w) h (isType c) true)
  (hq:Q (.bool false) ⟨h,g,d,t+1,os⟩):wpAny (model P w) A (call (.builtin "isinstance") [.ref e,c]) Q E ⟨h,g,d,t,os⟩:=by
 have L0:=pP (M:=model P w) he hc
 have L1:=zq (M:=model P w) hC hn
 have L2:Gm (model P w) h (isInstance (.ref e) c) false:=L0.andThen L1
 refine Fs ?_ (by intro z;cases z)
 unfold Ϥ.«isinstance.nested»
 refine γ (L0.at ?_)
 rw[Q6 (λz=>by rw[hne]at z;cases z)]
 refine γ (hty.at ?_)
 rw[Q0 (beq_self_eq_true _)]
 k_delta "plainIsInstance"
 refine γ (γ (his.at ?_))
 rw[Q6 ()]
 refine γ (L2.at ?_)
 rw[Q6 ()]
 refine γ (xK FB hC he hc hO hl hg hh (γ ((zy hC).at ?_)))
 rw[Q6 ()]
 refine γ (u8 (L1.at ?_))
 first|exact ν hq|exact ν (ν hq)|exact γ (ν (ν hq))
theorem uZ{Q:δ->η->Prop}(he:h.get? e=some oe)(hc:oe.cls=.ref C)(hq:Q (.bool true) ⟨h,g,d,t,os⟩):wpAny (model P w) A (call (.builtin "isinstance") [.ref e,.ref C]) Q E ⟨h,g,d,t,os⟩:=by
 refine Fs ?_ (by intro z;cases z)
 unfold Ϥ.«isinstance.nested»
 refine γ ((pP (M:=model P w) he hc).at ?_)
 rw[Q0 (beq_self_eq_true _)]
 repeat (first|refine ν ?_|refine u8 ?_|refine γ ?_)
 exact hq
theorem tR{c:δ}{Q:δ->η->Prop}(hC:h.get? C=some (excClassObj nm q C N bs (.ref D::bmB) true sn sub ab col dd k0 k1 k2 k3 k5 newId))(he:h.get? e=some oe)(hc:oe.cls=.ref C)(hne:(Ε C==c)=false)(hn:(Ε C::.ref D::bmB).contains c=true)(hty:Gm (model P w) h (typeOf c) (.type "type"))(his:Gm (model P w) h (isType c) true)
  (hq:Q (.bool true) ⟨h,g,d,t,os⟩):wpAny (model P w) A (call (.builtin "isinstance") [.ref e,c]) Q E ⟨h,g,d,t,os⟩:=by
 have L0:=pP (M:=model P w) he hc
 have L2:Gm (model P w) h (isInstance (.ref e) c) true:=L0.andThen (zq (M:=model P w) hC hn)
 refine Fs ?_ (by intro z;cases z)
 unfold Ϥ.«isinstance.nested»
 refine γ (L0.at ?_)
 rw[Q6 (λz=>by rw[hne]at z;cases z)]
 refine γ (hty.at ?_)
 rw[Q0 (beq_self_eq_true _)]
 k_delta "plainIsInstance"
 refine γ (γ (his.at ?_))
 rw[Q6 ()]
 refine γ (L2.at ?_)
 rw[Q0 rfl]
 first|exact ν hq|exact ν (ν hq)|exact γ (ν (ν hq))
end
open PySem PySem.Spec PyProof.Rows PySem.W
abbrev veM:List δ:=[.type "ValueError",.type "Exception",.type "BaseException",.type "object"]
structure gZ(K:Frag)(D fI C:Addr):Prop where
 obj:∃nm q N bs sn sub ab col dd k0 k1 k2 k3 k5,K.lookup C=some (excClassObj nm q C N bs (.ref D::veM) true sn sub ab col dd k0 k1 k2 k3 k5 "ValueError.__new__")
 init:findIn K (.ref C) "__init__"=some (some (.ref fI))
 fn:typeIn K (.ref fI)=some (.type "function")
 sa:findIn K (.ref C) "__setattr__"=some (some (.builtin "object.__setattr__"))
 pl:findIn K (.ref C) "place"=some none
 ga:findIn K (.ref C) "__getattribute__"=some (some (.builtin "BaseException.__getattribute__"))
 gh:findIn K (.ref C) "__getattr__"=some none
 cl:findIn K (.ref C) "__class__"=some (some (.builtin "object.__class__"))
 kp:keepIn K (.ref C)=true
 ne:C≠D
structure Cn(K:Frag)(D:Addr):Prop where
 obj:∃nm q N bs sn sub ab col dd k0 k1 k2 k3 k5,K.lookup D=some (excClassObj nm q D N bs veM true sn sub ab col dd k0 k1 k2 k3 k5 "ValueError.__new__")
theorem wV(D:Addr):bg "ValueError" (.ref D::veM):=⟨bg.up (),bg.up (),bg.up ()⟩
def Xr(C t a:Addr):HO:=.ext λh=>h.get? a=some (fA C t)
def Xo(C t dx a:Addr):HO:=.ext λh=>h.get? a=some {fA C t with dict:=some dx}
section
variable{X:Cx}{pins:List (Addr×Obj)}{σ:St}{H:Hp}{s:η}{C D fI t dx a:Addr}
theorem gC{K:Frag}{P:Α}{w:Υ}{h:Heap}{x:Str}{y:Option δ}(k:K.In h)(e:findIn K (.ref C) x=some y):bP P w h C x y:=λ{A E Q s} kk q=>looks_findIn k e A Q E s kk q
theorem Xr.at_(I:Inv X pins σ H s)(e:H a=some (Xr C t a)):s.heap.get? a=some (fA C t):=(I.hok a _ e).1
theorem Xo.at_(I:Inv X pins σ H s)(e:H a=some (Xo C t dx a)):s.heap.get? a=some {fA C t with dict:=some dx}:=(I.hok a _ e).1
theorem za{P:Α}{w:Υ}{H:Hp}{h:Heap}(e:h.get? a=some (fA C t)):aM P w H h a (Xr C t a):=⟨e,⟨_,e⟩,λ_ _ p k=>k _ p⟩
theorem Bq{P:Α}{w:Υ}{H:Hp}{h:Heap}(e:h.get? a=some {fA C t with dict:=some dx}):aM P w H h a (Xo C t dx a):=⟨e,⟨_,e⟩,λ_ _ p k=>k _ p⟩
theorem yp{us:List δ}(I:Inv X pins σ H s):Inv X pins σ (upd H (s.heap.objs.size+1) (Xr C s.heap.objs.size (s.heap.objs.size+1))) {s with heap:=(s.heap.push (ku us)).push (fA C s.heap.objs.size)}:=
 I.laid (t':=s.toks) (λb u q=>ι _ (ι _ q)) (y6 _) (za (Heap.get?_push_at (by simp only[ϩ]) rfl))
variable{k:Nat}{fd:Ο}{ps:List Str}{sp:Sp}{Q:VK}{us:List δ}{vs:List V}
theorem yl{R:Addr->Hp->Prop}{QQ:δ->η->Prop}(c:gZ X.K D fI C)(FI:aG X.prog X.w X.K X.mg X.base CX0 k fI fd ps sp)(hr:bK (k+1) X.A)(hb:cf X.K fd ps [])(I:Inv X pins σ H s)(r:ar vs us)(hz:vs.length<=sizeLine)
  (h:∀e t,H e=none->sp (.ref e::vs) (upd H e (Xr C t e)) (λv H2=>v=.non/\R e H2) E0) (hq:∀e s' H2,X.s₀.heap.objs.size<=e->H e=none->Inv X pins σ H2 s'->R e H2->QQ (.ref e) s'):
  wpAny (model X.prog X.w) X.A (call (.ref C) us) QQ X.xe s:=by
 obtain⟨nm,q,N,bs,sn,sub,ab,col,dd,k0,k1,k2,k3,k5,lk⟩:=c.obj
 obtain⟨oI,lI,cI⟩:=c6.mp (show(X.K.lookup fI).map (·.cls)=_ from c.fn)
 have KX:=I.kIn
 have I2:=yp (C:=C) (us:=us) I
 have fr:H (s.heap.objs.size+1)=none:=I.hok.fresh (y6 _)
 have hs:=h (s.heap.objs.size+1) s.heap.objs.size fr
 have r2:ar (V.ref (s.heap.objs.size+1)::vs) (Ε (s.heap.objs.size+1)::us):=.cons rfl r
 have hl:(Ε (s.heap.objs.size+1)::us++[]).length=ps.length:=by
  rw[c_,<-r2.length];exact FI.len _ _ _ _ hs
 obtain⟨hh,g,d,tk,os⟩:=s
 refine xF F.excBase_ValueError (wV D) (KX _ _ lk) (by rw[<-r.length];exact hz) (KX _ _ lI) cI (gC KX c.init) ?_
 refine Eg (B3 (FI.run _ X.stack _ _ ⟨Ε (hh.objs.size+1)::us,[]⟩ (Ε (hh.objs.size+1)::us++[]) _ _ E0 (hr.make C us []) (I2.env0.make C us []) (hb _ (Ε (hh.objs.size+1)::us) I2.kIn hl) (by rw[c_];exact r2) hs) λz s' hq'=>?_)
 cases z with
 |error e=>exact k4 hq'
 |ok fl=>
  cases fl with
  |ret u=>
   obtain⟨v,H',I3,rv,ev,q3⟩:=I2.after hq'
   subst ev
   exact⟨rv,hq _ s' H' (Ϙ I.sz (y6 _)) fr I3 q3⟩
  |next=>exact k4 hq'
  |brk=>exact k4 hq'
  |cont=>exact k4 hq'
end
open PySem PySem.Spec PyProof.Rows PySem.W
def CXe(P:Α)(w:Υ):CXT:=λouter H s E ev s'=>∃e T C dx H',ev=.ref e/\s'.os=s.os/\E7 s'.gens/\Un (frs outer) [] H H' s.heap s'.heap/\HOk P w H' s'.heap /\
 Exo s'.heap e T (.ref C) (some dx) .none/\s.heap.get? e=none/\s.heap.get? T=none/\H' e=none/\H' T=none/\E (.ref C) (some dx) H'
def vN(X:Cx)(E:XK):Prop:=∀(pins:List (Addr×Obj))(σ:St)(H:Hp)(s:η)(e C t dx:Addr),Inv X pins σ H s->H e=some (Xo C t dx e)->X.s₀.heap.objs.size<=e->E (.ref C) (some dx) (λb=>if b=e then none else H b)->X.xe (.ref e) s
theorem yX{fs ex:List Addr}{H0 H:Hp}{h0 h:Heap}{e:Addr}{φ:Heap->Prop}(u:Un fs ex H0 H h0 h)(he:H e=some (.ext φ))(hn:h0.get? e=none):Un fs ex H0 (λb=>if b=e then none else H b) h0 h where
 keep:=u.keep
 slot:=u.slot
 free:=λb o q n x=>by
  show(if b=e then none else H b)=none
  split
  ·rfl
  ·exact u.free b o q n x
 there:=u.there
 tups:=λb xs q=>by
  have z:=u.tups b xs q
  show(if b=e then none else H b)=_
  rw[Q6 (λy=>by rw[y,he]at z;cases z)];exact z
 frzs:=λb o v q=>by
  have z:=u.frzs b o v q
  show(if b=e then none else H b)=_
  rw[Q6 (λy=>by rw[y,he]at z;cases z)];exact z
 tbls:=λb ps q=>by
  obtain⟨m,z⟩:=u.tbls b ps q
  refine⟨m,?_⟩
  show(if b=e then none else H b)=_
  rw[Q6 (λy=>by rw[y,he]at z;cases z)];exact z
theorem wk{P:Α}{w:Υ}{H:Hp}{h:Heap}{e:Addr}{φ:Heap->Prop}(x:HOk P w H h)(he:H e=some (.ext φ)):HOk P w (λb=>if b=e then none else H b) h:=λa o q=>by
 have q':H a=some o:=by
  by_cases z:a=e
  ·simp only[z,if_true]at q;cases q
  ·simpa only[z,if_false]using q
 refine(x a o q').stay (λ_ _ _ z=>z) (λb z=>?_) λb xs z=>?_
 ·show(if b=e then none else H b)=_
  rw[Q6 (λy=>by rw[y,he]at z;cases z)];exact z
 ·show(if b=e then none else H b)=_
  rw[Q6 (λy=>by rw[y,he]at z;cases z)];exact z
section
variable{P:Α}{w:Υ}{K:Frag}{mg:Str->Option δ}{base:Heap}{N:List Str}{qual:Str}{scope:Et}{f:Addr}{cd:δ}{A:Ω}{outer:List Env}{s0:η}{H0:Hp}{E:XK}
theorem tP:vN (aT (CXe P w) P w K mg base N qual scope f cd A outer s0 H0 E) E:=by
 intro pins σ H s e C t dx I he hz hE
 have ho:=Xo.at_ I he
 have nw:s0.heap.get? e=none:=ϵ hz
 refine oH (cls:=.ref C) (dx:=some dx) (base:=base) (L:=s0.heap.objs.size) I.ok.frames I.stack rfl ⟨_,_,ho,rfl,rfl,rfl,rfl,rfl⟩ λh' T lT m x=>?_
 have hf:∀b∈frs (aT (CXe P w) P w K mg base N qual scope f cd A outer s0 H0 E).stack,(λb=>if b=e then none else H b) b=none:=λb hb=>by
  show(if b=e then none else H b)=none
  rw[I.stkFree b hb];split<;>rfl
 have hx:∀b∈[e,T],(λb=>if b=e then none else H b) b=none:=λb hb=>by
  show(if b=e then none else H b)=none
  split
  ·rfl
  ·rcases μ.mp hb with z|z
   ·contradiction
   ·rw[θ.mp z];exact I.hok.fresh lT
 refine⟨e,T,C,dx,_,rfl,I.os,I.bare,m.un (yX I.base he nw) (λb hb=>?_) (λb hb=>?_),m.hok (wk I.hok he) hf hx,x,nw,?_,hx e (),hx T (),hE⟩
 ·rcases μ.mp (I.stkSub b hb)with z|z
  ·exact .inr (by rw[z];exact ϵ (ρ _))
  ·exact .inl z
 ·rcases μ.mp hb with z|z
  ·rw[z];exact nw
  ·rw[θ.mp z];exact ϵ (Ϙ I.sz lT)
 ·exact ϵ (Ϙ I.sz lT)
theorem yD:ma (CXe P w) (aT (CXe P w) P w K mg base N qual scope f cd A outer s0 H0 E) E:=by
 intro pins σ H s ev s' I hx
 obtain⟨e,T,C,dx,H',rfl,os,bare,un,hok,xo,ne,nT,ue,uT,q⟩:=hx
 have I':Inv (aT (CXe P w) P w K mg base N qual scope f cd A outer s0 H0 E) pins σ H' s':=I.call' (ch:=[]) os un hok bare λb z=>absurd z ()
 have old:∀b:Addr,s.heap.get? b=none->s0.heap.get? b=none:=λb hb=>by
  cases z:s0.heap.get? b with
  |none=>rfl
  |some o=>
   obtain⟨o',z'⟩:=I.base.there b o z (λy=>absurd (show b∈([]:List Addr)from y) ())
   rw[hb]at z';cases z'
 refine qG (base:=base) (L:=s0.heap.objs.size) I'.ok.frames I'.stack rfl xo λh' T' lT m x=>?_
 have hx:∀b∈[e,T,T'],H' b=none:=λb hb=>by
  rcases μ.mp hb with z|hb
  ·rw[z];exact ue
  ·rcases μ.mp hb with z|z
   ·rw[z];exact uT
   ·rw[θ.mp z];exact hok.fresh lT
 have nw:∀b∈[e,T,T'],s0.heap.get? b=none:=λb hb=>by
  rcases μ.mp hb with z|hb
  ·rw[z];exact old e ne
  ·rcases μ.mp hb with z|z
   ·rw[z];exact old T nT
   ·rw[θ.mp z];exact ϵ (Ϙ I'.sz lT)
 refine⟨e,T',C,dx,H',rfl,I'.os,bare,m.un I'.base (λb hb=>?_) nw,m.hok hok I'.stkFree hx,x,nw e (),nw T' (),ue,hx T' (),q⟩
 rcases μ.mp (I'.stkSub b hb)with z|z
 ·exact .inr (by rw[z];exact ϵ (ρ _))
 ·exact .inl z
end
def AW(C:Addr)(E:XK)(ta:TA):TS:=λ_ σ H=>ta σ H λvs H1=>∃v,vs=[v]/\∀dx,H1 dx=none->E (.ref C) (some dx) (upd H1 dx (.xd [("place",v)]))
def mV(K:Frag)(D fI:Addr):Sp:=λvs H Q _=>∃e C t v,vs=[.ref e,v]/\H e=some (Xr C t e)/\gZ K D fI C/\∀dx t',H dx=none->dx≠e->Q .non (upd (upd H dx (.xd [("place",v)])) e (Xo C t' dx e))
theorem AE{M:Gn}{A:Ω}{E:δ->η->Prop}{s:η}{env:Env}{x:Sem δ}{Q:Flow->η->Prop}(hh:A.handled=none)
  (h:wpAny M A x (λv s₁=>∃e C D nm q N bs sn sub ab col dd k0 k1 k2 k3 k5 nid t dx,v=.ref e/\s₁.heap.get? C=some (excClassObj nm q C N bs (.ref D::veM) true sn sub ab col dd k0 k1 k2 k3 k5 nid)/\s₁.heap.get? e=some {fA C t with dict:=some dx}/\E (.ref e) s₁) E s):
  wpAny M A (raiseStmt env (some x) none) Q E s:=by
 unfold raiseStmt
 refine γ (i8 h (λv s₁ h₁=>?_) λ_ _ x=>x)
 obtain⟨e,C,D,nm,q,N,bs,sn,sub,ab,col,dd,k0,k1,k2,k3,k5,nid,t,dx,rfl,hC,he,hE⟩:=h₁
 obtain⟨hp,g,d,tk,os⟩:=s₁
 have b1:(Ε C::.ref D::veM).contains (.type "BaseException")=true:=bg.up (bg.up ())
 unfold fA at he
 repeat (first|with_reducible refine Χ he ?_|with_reducible refine Χ hC ?_|(with_reducible refine ϯ hC ?_;rw[b1])|wp_step)
 exact wpAny_raiseNew_none hh hE
section
variable{X:Cx}{D fI C:Addr}{x:Str}{np cpos pos:Pos}{e:Expr}{es:List Expr}{t:TA}{E:XK}{k:Nat}{fd:Ο}{ps:List Str}
theorem ps_raise(c:gZ X.K D fI C)(FI:aG X.prog X.w X.K X.mg X.base CX0 k fI fd ps (mV X.K D fI))(hr:bK (k+1) X.A)(hb:cf X.K fd ps [])(hg:Gl X x)(hm:X.mg x=some (.ref C))(hR:vN X E)(ha:PA X (e::es) t)
  (hdb:(x==("__debug__" : Str))=false:=by decide) (he:starEach (e::es) X.env=(false,eval e X.env)::starEach es X.env:=by rfl) (hpl:(backTo cpos (starEach es X.env)).any (·.1)=false:=by rfl):
  PS X (.Raise (some (.Call (.Name x np) (e::es) [] cpos)) none pos) (AW C E t):=by
 intro pins s σ H Dn I h
 obtain⟨nm,q,N,bs,sn,sub,ab,col,dd,k0,k1,k2,k3,k5,lk⟩:=c.obj
 rw[arm_exec_Raise]
 refine γ (EL (AE hr.hd ?_))
 refine γ (i8 (Q:=λv s₁=>∃e H2 dx t',v=.ref e/\Inv X pins σ H2 s₁/\H2 e=some (Xo C t' dx e)/\X.s₀.heap.objs.size<=e/\E (.ref C) (some dx) (λb=>if b=e then none else H2 b)) (i_ (fU I hg hm ?_ hdb)) (λv s₃ h₃=>γ (EL (ν ?_))) λ_ _ x=>x)
 ·refine Eh (h₀:=X.base) I.ok.mod.kin c.kp (thn (ha cpos pins s σ H _ I h) λus s1 ⟨vs,H1,I1,r,v,ev,q⟩=>⟨I1.kIn,?_⟩) he hpl
  subst ev
  refine yl (R:=λe H2=>∃dx t t',H1 dx=none/\dx≠e/\H2=upd (upd (upd H1 e (Xr C t e)) dx (.xd [("place",v)])) e (Xo C t' dx e)) c FI hr hb I1 r (by rw[ω];show 1<=_;omega) (λe t hn=>⟨e,C,t,v,rfl,aa,c,λdx t' hd hne=>⟨rfl,dx,t,t',?_,hne,rfl⟩⟩) λe s' H2 lz hn I2 ⟨dx,t,t',hd,hne,eH⟩=>?_
  ·rw[ai hne]at hd;exact hd
  ·subst eH
   refine⟨e,_,dx,t',rfl,I2,aa,lz,?_⟩
   have z:=q dx hd
   have y:(λb=>if b=e then none else upd (upd (upd H1 e (Xr C t e)) dx (.xd [("place",v)])) e (Xo C t' dx e) b)=upd H1 dx (.xd [("place",v)]):=by
    funext b
    by_cases hb:b=e
    ·rw[Q0 hb,hb,ai (Ϗ hne),hn]
    ·rw[Q6 hb,ai hb]
     unfold upd
     split
     ·rfl
     ·first|rfl|rw[Q6 hb]
   rw[y];exact z
 ·obtain⟨e,H2,dx,t',rfl,I2,he2,lz,hE⟩:=h₃
  exact⟨e,C,D,nm,q,N,bs,sn,sub,ab,col,dd,k0,k1,k2,k3,k5,_,t',dx,rfl,I2.kIn _ _ lk,Xo.at_ I2 he2,hR pins σ H2 s₃ e C t' dx I2 he2 lz hE⟩
end
open PySem PySem.Spec PyProof.Rows PySem.W
def tVI(K:Frag)(D fI:Addr)(t:TA):TE:=λσ H Q=>t σ H λvs H1=>∃e C t0 v,vs=[.ref e,v]/\H1 e=some (Xr C t0 e)/\gZ K D fI C/\∀t',Q .non (upd H1 e (Xr C t' e))
theorem yA{K:Frag}:findCls K (.type "ValueError") (.type "type") "__init__"=some (.val (.builtin "ValueError.__init__")):=by kernel_rfl
theorem sX:typeOf (.type "ValueError")=pure (.type "type"):=by kernel_rfl
theorem yx:handedIn (.builtin "ValueError.__init__")=true:=by kernel_rfl
theorem yK:Manifest.isStub "ValueError"=false:=by decide +kernel
section
variable{X:Cx}{D fI C:Addr}{x:Str}{np apos cpos pos pos':Pos}{e o value:Expr}{es:List Expr}{t:TA}{ta tv:TE}{pl:Sem Bool}
theorem pe_vinit(hg:Gl X "ValueError")(hm:X.mg "ValueError"=none)(hv:bootBuiltins "ValueError"=some (.type "ValueError"))(ha:PA X (e::es) t)
  (ht:eval (.Call (.Attribute (.Name "ValueError" np) "__init__" apos) (e::es) [] pos) X.env=(do
   let ov <-eval (.Name "ValueError" np) X.env
   standAt apos.atName
   let (f,first) <-holding [ov] (getMethod ov "__init__" pl)
   callWith pos f first (backTo pos (starEach (e::es) X.env)) (backToKw pos (keywordEach [] X.env))):=by rfl)
  (hs:starEach (e::es) X.env=(false,eval e X.env)::starEach es X.env:=by rfl) (hpl:(backTo pos (starEach es X.env)).any (·.1)=false:=by rfl):
  PE X (.Call (.Attribute (.Name "ValueError" np) "__init__" apos) (e::es) [] pos) (tVI X.K D fI t):=by
 intro pins s σ H Q I h
 refine PySem.W.methodCall_KW (pl:=pl) (cF I hg hm hv ?_ () ()) ht
 obtain⟨m,Fr0⟩:=I.fr
 refine method_type (name:="__init__") (T:="ValueError") (v:=.builtin "ValueError.__init__") (K:=X.K) Fr0 I.ok.mod.kin sX yK (yA (K:=X.K)) yx ?_
 have hA:=ha pos pins _ σ H _ (I.tok (s.toks+1)) h
 rw[hs]at hA⊢
 refine De (by show(false||(backTo pos (starEach es X.env)).any (·.1))=false;rw[hpl]<;>rfl) (ER ?_)
 refine thn hA λus s2 ⟨vs,H2,I2,r2,e,C,t0,v,ev,he,c,q⟩=>?_
 subst ev
 obtain⟨u0,u1,rfl,ru0,ru1⟩:∃u0 u1,us=[u0,u1]/\aw (.ref e) u0/\aw v u1:=by
  cases r2 with
  |cons a r=>
   cases r with
   |cons b r=>cases r with|nil=>exact⟨_,_,rfl,a,b⟩
 obtain rfl:u0=Ε e:=ru0
 obtain⟨nm,q',N,bs,sn,sub,ab,col,dd,k0,k1,k2,k3,k5,lk⟩:=c.obj
 have ho:=Xr.at_ I2 he
 have mu:Mut (H2 e):=by rw[he];exact z_
 obtain⟨hh,g,d,tk,os⟩:=s2
 refine yE F.excBase_ValueError (wV D) (I2.kIn _ _ lk) ho rfl (a0:=t0) rfl (by rw[ω];show 1<=_;omega) λh' k1 k2 _=>?_
 exact⟨.non,_,I2.write (t':=tk) (x:=e) (e:=e) (o:=Xr C hh.objs.size e) mu (.inl rfl) k1 ⟨_,k2⟩ (za k2),rfl,q _⟩
def sXs(K:Frag)(D fI:Addr)(ta tv:TE):TS:=λDn σ H=>tv σ H λy H1=>ta σ H1 λx H2=>∃e C t,x=.ref e/\H2 e=some (Xr C t e)/\gZ K D fI C/\∀dx,H2 dx=none->dx≠e->Dn.nx σ (upd (upd H2 dx (.xd [("place",y)])) e (Xo C t dx e))
theorem ps_xset(ha:PE X o ta)(hv:PE X value tv)(hs:swapsWith value (some (.Attribute o "place" pos')) pos.line X.env=pure false:=by rfl):PS X (.Assign [.Attribute o "place" pos'] value pos) (sXs X.K D fI ta tv):=by
 intro pins s σ H Dn I h
 refine plainObj_wpAny_Assign_Attribute (thn (hv pins s σ H _ I h) λu s1 ⟨y,H1,I1,ry,q⟩=>thn (ha pins s1 σ H1 _ I1 q) λov s2 ⟨x,H2,I2,rx,e,C,t,ex,he,c,q2⟩=>?_) hs
 subst ex
 obtain rfl:ov=Ε e:=rx
 obtain⟨nm,q',N,bs,sn,sub,ab,col,dd,k0,k1,k2,k3,k5,lk⟩:=c.obj
 have ho:=Xr.at_ I2 he
 have KX:=I2.kIn
 obtain⟨hh,g,d,tk,os⟩:=s2
 refine tm F.store_ValueError (KX _ _ lk) (gC KX c.sa) (gC KX c.pl) ho rfl (a0:=t) rfl rfl λh' tk' k1 k2 k3=>?_
 have fr:H2 hh.objs.size=none:=I2.hok.fresh (ρ _)
 have nx:hh.objs.size≠e:=λz=>by rw[z,he]at fr;cases fr
 have hin:∀b o,hh.get? b=some o->b≠hh.objs.size:=λb o z=>Ρ (ς z)
 refine⟨σ,_,I2.un (t':=tk') (H':=upd (upd H2 hh.objs.size (.xd [("place",y)])) e (Xo C t hh.objs.size e)) ⟨λb o z n _ _=>k1 b o (λw=>by rw[w,he]at n;cases n) z,λb o z n _ _=>⟨o.slots,k1 b o (λw=>by rw[w,he]at n;cases n) z⟩,λb o z n _=>?_,λb o z _=>?_,λb xs z=>?_,λb o v z=>?_,λb ps z=>⟨#[],?_⟩⟩ (λb v z=>?_),q2 _ fr nx⟩
 ·rw[ai (λw=>by rw[w,he]at n;cases n),ai (hin b o z)];exact n
 ·by_cases w:b=e
  ·rw[w];exact⟨_,k2⟩
  ·exact⟨o,k1 b o w z⟩
 ·rw[ai (λw=>by rw[w,he]at z;cases z),ai (λw=>by rw[w,fr]at z;cases z)];exact z
 ·rw[ai (λw=>by rw[w,he]at z;cases z),ai (λw=>by rw[w,fr]at z;cases z)];exact z
 ·rw[ai (λw=>by rw[w,he]at z;cases z),ai (λw=>by rw[w,fr]at z;cases z),z];simp
 ·by_cases w:b=e
  ·rw[w,aa]at z;cases z;rw[w];exact Bq k2
  ·rw[ai w]at z
   by_cases w2:b=hh.objs.size
   ·rw[w2,aa]at z;cases z;rw[w2]
    refine⟨_,k3,λf=>?_⟩
    by_cases wf:f="place"
    ·rw[wf];exact ry
    ·rw[Q6 wf,a9,beq_false_of_ne wf];exact z_
   ·rw[ai w2]at z
    refine(I2.hok b v z).stay (λc o hc y=>k1 c o (λw=>?_) y) (λc hc=>?_) λc xs hc=>?_
    ·rcases hc with hc|hc
     ·exact absurd (hc.symm.trans w) (by assumption)
     ·rw[w,he]at hc;cases hc
    ·rw[ai (λw=>by rw[w,he]at hc;cases hc),ai (λw=>by rw[w,fr]at hc;cases hc)];exact hc
    ·rw[ai (λw=>by rw[w,he]at hc;cases hc),ai (λw=>by rw[w,fr]at hc;cases hc)];exact hc
end
open PySem PySem.Spec PyProof.Rows PySem.W
abbrev qP(X:Cx)(e:Addr):Cx:={X with A:=X.A.mark (some (.ref e)),calm:=false,xe:=λ_ _=>False}
section
variable{X:Cx}{pins:List (Addr×Obj)}{σ:St}{H:Hp}{s:η}{h':Heap}{e:Addr}
theorem xH(ok:X.Ok)(e:Addr):(qP X e).Ok:=
 ⟨ok.mod,ok.kind,ok.glob,ok.blt,ok.above,ok.inj,ok.has,ok.cab,λz=>(Κ z).elim,ok.frames,ok.stk,ok.exf,ok.bs,ok.bsz,ok.noex,ok.exfs,ok.funs,ok.frf⟩
theorem nj(I:Inv X pins σ H s)(e:Addr):Inv (qP X e) pins σ H s:=⟨xH I.ok e,I.os,I.bare,I.base,I.loc,I.cell,I.free,I.freeC,I.pin,I.hok,I.len⟩
theorem qQ(ok:X.Ok)(I:Inv (qP X e) pins σ H s):Inv X pins σ H s:=⟨ok,I.os,I.bare,I.base,I.loc,I.cell,I.free,I.freeC,I.pin,I.hok,I.len⟩
theorem vA{ex:List Addr}(I:Inv X pins σ H s)(m:Mv (frs X.stack) ex s.heap h')(h0:∀b∈ex,X.s₀.heap.get? b=none)(h1:∀b∈ex,H b=none)(h2:∀b∈ex,b≠X.env.locals)(h3:∀b∈ex,∀x c,X.env.cells.lookup x=some c->c≠b)(h4:∀b∈ex,∀p∈X.pn++pins,p.1≠b):
  Inv X pins σ H {s with heap:=h'}:=by
 have cl:∀x c,X.env.cells.lookup x=some c->∀v,s.heap.IsCell c v->h'.IsCell c v:=λx c q v ⟨o,ho,hd⟩=>by
  obtain⟨sl,z⟩:=m.slot c o (λy=>h3 c y x c q rfl) ho
  exact⟨_,z,hd⟩
 obtain⟨mm,⟨o,es,ep,ho,r⟩,hl⟩:=id I.loc
 obtain⟨sl,hL⟩:=m.slot _ o (λy=>h2 _ y rfl) ho
 refine⟨I.ok,I.os,I.bare,m.un I.base (λb hb=>?_) h0,⟨mm,⟨_,es,ep,hL,r⟩,λi x v a b c=>?_⟩,λx c q=>?_,I.free,I.freeC,λp hp=>?_,m.hok I.hok I.stkFree h1,I.len⟩
 ·rcases μ.mp (I.stkSub b hb)with z|z
  ·exact .inr (by rw[z];exact ϵ I.ok.above)
  ·exact .inl z
 ·obtain⟨u,ru,l⟩:=hl i x v a b c
  refine⟨u,ru,?_⟩
  rcases l with l|⟨k,c',q,z⟩
  ·exact .inl l
  ·exact .inr ⟨k,c',q,cl x c' q _ z⟩
 ·obtain⟨v,z⟩:=I.cell x c q
  exact⟨v,cl x c q v z⟩
 ·obtain⟨q,n,ne,nf,d⟩:=I.pin p hp
  exact⟨m.keep _ _ (λy=>(μ.mp (I.stkSub _ y)).elim ne nf) (λy=>h4 _ y p hp rfl) q,n,ne,nf,d⟩
theorem vf{i t':Nat}{n:Str}{v:Option δ}{m:Str->Option δ}(I:Inv X pins σ H s)(hN:X.N.Nodup)(hi:X.N[i]?=some n)(hs:C8 X.env.locals s.heap h')(hn:h'.Ns X.env.locals (λx=>if x=n then v else m x))
  (hl:∀(j:Nat)(x:Str)(w:V),X.N[j]?=some x->σ[j]?=some (some w)->Vis X.env.scope x->∃u,aw w u/\BJ X.env s.heap m x u):Inv X pins (σ.set i none) H {s with heap:=h',toks:=t'}:=by
 have mv:Mv [] [X.env.locals] s.heap h':=⟨λb o _ q z=>(hs.2 b λy=>q (by rw[y];simp)).trans z,λb o q z=>⟨o.slots,(hs.2 b λy=>q (by rw[y];simp)).trans z⟩⟩
 refine⟨I.ok,I.os,I.bare,mv.un I.base (λb hb=>absurd hb ()) (λb hb=>by rw[θ.mp hb];exact ϵ I.ok.above),⟨_,hn,λj x w a b c=>?_⟩,λx c q=>?_,I.free,I.freeC,λp hp=>?_,mv.hok I.hok (λb hb=>absurd hb ()) (λb hb=>by rw[θ.mp hb];exact I.free),by simpa using I.len⟩
 ·by_cases hj:j=i
  ·subst hj
   have:j<σ.length:=by rw[I.len];exact(ο.mp a).1
   rw[Eu this]at b;cases b
  ·rw[DF (Ϗ hj)]at b
   obtain⟨u,ru,l⟩:=hl j x w a b c
   refine⟨u,ru,?_⟩
   rcases l with ⟨k,q⟩|⟨k,c',q,z⟩
   ·have nx:x≠n:=λq=>hj (jf hN a (q▸hi))
    exact .inl ⟨k,(Q6 nx).trans q⟩
   ·exact .inr ⟨k,c',q,z.sameBut hs (I.cne x c' q)⟩
 ·obtain⟨w,z⟩:=I.cell x c q
  exact⟨w,z.sameBut hs (I.cne x c q)⟩
 ·obtain⟨q,n,ne,nf,d⟩:=I.pin p hp
  exact⟨(hs.2 p.1 ne).trans q,n,ne,nf,d⟩
end
theorem uf{X:Cx}{pins:List (Addr×Obj)}{σ:St}{H:Hp}{s:η}{a:Addr}{o:HO}(I:Inv X pins σ H s)(hn:H a=none)(h0:X.s₀.heap.get? a=none)(h2:a≠X.env.locals)(h3:∀x c,X.env.cells.lookup x=some c->c≠a)(h4:∀p∈X.pn++pins,p.1≠a)(new:aM X.prog X.w (upd H a o) s.heap a o):
  Inv X pins σ (upd H a o) s:=by
 have st:∀b u,H b=some u->upd H a o b=some u:=λb u q=>by rw[ai (λz=>by rw[z,hn]at q;cases q)];exact q
 refine⟨I.ok,I.os,I.bare,⟨I.base.keep,I.base.slot,λb ob q n x=>?_,I.base.there,λb xs q=>st _ _ (I.base.tups b xs q),λb ob v q=>st _ _ (I.base.frzs b ob v q),λb ps q=>?_⟩,I.loc,I.cell,(ai (Ϗ h2)).trans I.free,λx c q=>(ai (h3 x c q)).trans (I.freeC x c q),λp hp=>?_,λb u q=>?_,I.len⟩
 ·rw[ai (λz=>by rw[z,h0]at q;cases q)]
  exact I.base.free b ob q n x
 ·obtain⟨more,z⟩:=I.base.tbls b ps q
  exact⟨more,st _ _ z⟩
 ·obtain⟨q,n,ne,nf,d⟩:=I.pin p hp
  exact⟨q,(ai (h4 p hp)).trans n,ne,nf,d⟩
 ·by_cases z:b=a
  ·rw[z,aa]at q;cases q;rw[z];exact new
  ·rw[ai z]at q
   exact(I.hok b u q).stay (λ_ _ _ y=>y) (λc y=>st _ _ y) λc xs y=>st _ _ y
def Xh(C dx a:Addr):HO:=.ext λh=>∃ws sl,h.get? a=some {cls:=.ref C,dict:=some dx,data:=.fields ws,slots:=sl}/\ws[2]?=some .none
theorem BM{P:Α}{w:Υ}{H:Hp}{h:Heap}{C T dx a:Addr}{fl:δ}(x:Exo h a T (.ref C) (some dx) fl):aM P w H h a (Xh C dx a):=by
 obtain⟨⟨oe,vs,he,hc,hd,hdt,_,h2⟩,_⟩:=x
 obtain⟨c1,c2,c3,c4⟩:=oe
 simp only at hc hd hdt
 subst hc;subst hd;subst hdt
 exact⟨⟨_,_,he,h2⟩,⟨_,he⟩,λ_ _ ⟨ws,sl,p,z⟩ k=>⟨ws,sl,k _ p,z⟩⟩
theorem xv{M:Gn}{A:Ω}{E:δ->η->Prop}{h:Heap}{g:Array DE}{d:GC}{t:Nat}{os:F8}{C D e N N':Addr}{oe:Obj}{nm q nm' q':Str}{bs sub bs' sub':List δ}{sn sn':List Str}{ab ab':Bool}{col col':Option Bool}{dd dd':Option Addr}{k0 k1 k2 k3 k5 j0 j1 j2 j3 j5:Option δ}{nid nid':String}{Q:Bool->η->Prop}
  (hC:h.get? C=some (excClassObj nm q C N bs (.ref D::veM) true sn sub ab col dd k0 k1 k2 k3 k5 nid)) (hD:h.get? D=some (excClassObj nm' q' D N' bs' veM true sn' sub' ab' col' dd' j0 j1 j2 j3 j5 nid')) (he:h.get? e=some oe) (hc:oe.cls=.ref C) (hq:Q true ⟨h,g,d,t,os⟩):
  wpAny M A (excMatches (.ref e) (.ref D)) Q E ⟨h,g,d,t,os⟩:=by
 have b1:(Ε D::veM).contains (.type "BaseException")=true:=bg.up ()
 have b2:(Ε C::.ref D::veM).contains (.ref D)=true:=by simp
 have f:=tc_notTuple
 unfold excMatches
 repeat (first|(with_reducible refine Χ he ?_;rw[hc])|with_reducible refine Χ hD ?_|(with_reducible refine ϯ hD ?_;rw[b1])|(with_reducible refine ϯ hC ?_;rw[b2])|wp_step)
 exact hq
def CK(K:Frag)(D fI:Addr)(i:Nat)(sp:Sp)(t:TA)(ts:Addr->TS):TS:=λDn σ H=>t σ H λvs H1=>sp vs H1 (λ_ H2=>Dn.nx σ H2) λcv dxo H2=>∃C dx v,cv=.ref C/\dxo=some dx/\gZ K D fI C/\H2 dx=some (.xd [("place",v)]) /\
 ∀e,H2 e=none->ts e {nx:=λσ' H'=>Dn.nx (σ'.set i none) H',rt:=Dn.rt,bk:=λσ' H'=>Dn.bk (σ'.set i none) H',ct:=λσ' H'=>Dn.ct (σ'.set i none) H'} (σ.set i (some (.ref e))) (upd H2 e (Xh C dx e))
section
variable{X:Cx}{D fI f:Addr}{x xD n:Str}{np cpos epos tp hpos pos:Pos}{e:Expr}{es:List Expr}{t:TA}{k i:Nat}{fd:Ο}{ps:List Str}{sp:Sp}{b₀:Stmt}{suite:List Stmt}{ts:Addr->TS}
theorem ps_try(F:aG X.prog X.w X.K X.mg X.base (CXe X.prog X.w) k f fd ps sp)(hr:bK k X.A)(hg:Gl X x)(hm:X.mg x=some (.ref f))(hk:keepIn X.K (.ref f)=true)(hb:cf X.K fd ps [])(ha:PA X (e::es) t)(hx0:∀v s,X.xe v s->False)(hex:X.ex=[])
  (hT:Cn X.K D) (hgD:Gl X xD) (hmD:X.mg xD=some (.ref D)) (hst:X.stack=X.env::X.outer) (hfr:X.env.frame=some X.env.locals) (hN:X.N.Nodup) (hi:X.N[i]?=some n) (hloc:X.env.scope.names.lookup n=some .local)
  (hsu:∀e,PSs (qP X e) (b₀::suite) (ts e)) (hdb:(x==("__debug__" : Str))=false:=by decide) (hdD:(xD==("__debug__" : Str))=false:=by decide)
  (he:starEach (e::es) X.env=(false,eval e X.env)::starEach es X.env:=by rfl) (hpl:(backTo cpos (starEach es X.env)).any (·.1)=false:=by rfl) (hsw:swapsWith (.Call (.Name x np) (e::es) [] cpos) none epos.line X.env=pure false:=by rfl):
  PS X (.Try [.Expr (.Call (.Name x np) (e::es) [] cpos) epos] [.ExceptHandler (some (.Name xD tp)) (some n) (b₀::suite) hpos] [] [] pos) (CK X.K D fI i sp t ts):=by
 intro pins s σ H Dn I h
 refine wpAny_Try_except (FO (wpAny_Expr_any (i_ (fU I hg hm ?_ hdb)) I.quiet hsw))
 refine Eh (h₀:=X.base) I.ok.mod.kin hk (i8 (ha cpos pins s σ H _ I h) (λus s1 ⟨vs,H1,I1,r,q⟩=>⟨I1.kIn,?_⟩) λv s' z=>(hx0 v s' z).elim) he hpl
 have hl:(us++[]).length=ps.length:=by rw[c_,<-r.length];exact F.len _ _ _ _ q
 refine Eg (B3 (F.run X.A X.stack s1 H1 ⟨us,[]⟩ (us++[]) vs _ _ hr I1.env0 (hb s1 us I1.kIn hl) (by rw[c_];exact r) q) λz s' hq=>?_)
 cases z with
 |ok fl=>
  cases fl with
  |ret u=>
   obtain⟨v,H2,I2,rv,q2⟩:=I1.after hq
   exact Dk (Dk ⟨σ,H2,I2,q2⟩)
  |next=>exact k4 hq
  |brk=>exact k4 hq
  |cont=>exact k4 hq
 |error ev=>
  obtain⟨a,T,C0,dx0,H',rfl,os,bare,un,hok,xo,ne,nT,ue,uT,C,dx,v,ec,ed,c,hdx,q2⟩:=hq
  cases ec;cases ed
  have I2:Inv X pins σ H' s':=I1.call' (ch:=[]) os un hok bare λb z=>absurd z ()
  have old:∀b:Addr,s1.heap.get? b=none->X.s₀.heap.get? b=none:=λb hb=>by
   cases z:X.s₀.heap.get? b with
   |none=>rfl
   |some o=>
    obtain⟨o',z'⟩:=I1.base.there b o z (by rw[hex];simp)
    rw[hb]at z';cases z'
  have hfr':X.A.frames=some (X.env::X.outer):=by rw[<-hst];exact I2.ok.frames
  have hfun:s'.heap.FunFrames X.base (X.env::X.outer):=hst▸I2.stack
  have flds:∀b o vs,s'.heap.get? b=some o->o.data=.fields vs->b≠X.env.locals/\∀x c,X.env.cells.lookup x=some c->c≠b:=λb o vs q hd=>by
   refine⟨λz=>?_,λx c qc z=>?_⟩
   ·obtain⟨m,⟨o',es,ep,ho',hd',_⟩,_⟩:=I2.loc
    rw[<-z,q]at ho';cases ho';rw[hd]at hd';cases hd'
   ·obtain⟨v,o',ho',hd'⟩:=I2.cell x c qc
    rw[z,q]at ho';cases ho';rw[hd]at hd';cases hd'
  have pin1:∀b,s1.heap.get? b=none->∀p∈X.pn++pins,p.1≠b:=λb hb p hp z=>by
   have y:=(I1.pin p hp).1
   rw[z,hb]at y;cases y
  have fe:=let ⟨⟨oe,vs,he,_,_,hd,_⟩,_,_⟩:=xo;flds a oe vs he hd
  have fT:=let ⟨_,⟨oT,ts,hT,hd,_⟩,_⟩:=xo;flds T oT ts hT hd
  refine kB (base:=X.base) (L:=X.env.locals) hfr' hfun hfr xo λh1 T1 l1 m1 x1=>?_
  refine eA (s:={s' with heap:=h1}) x1 λh2 m2 x2=>?_
  have mm:Mv (frs X.stack) [a,T,T1] s'.heap h2:=by
   rw[hst]
   refine(m1.mono (λ_ z=>z) λb z=>?_).trans (m2.mono (λ_ z=>absurd z ()) λb z=>?_)
   ·rcases μ.mp z with z|z
    ·exact μ.mpr (.inl z)
    ·exact υ _ (μ.mpr (.inl (θ.mp z)))
   ·exact υ _ (υ _ z)
  have all3:∀{p:Addr->Prop},p a->p T->p T1->∀b∈[a,T,T1],p b:=λp1 p2 p3 b hb=>by
   rcases μ.mp hb with z|hb
   ·rw[z];exact p1
   ·rcases μ.mp hb with z|z
    ·rw[z];exact p2
    ·rw[θ.mp z];exact p3
  have lt1:∀b o,s'.heap.get? b=some o->b≠T1:=λb o q=>Ρ (ϕ (ς q) l1)
  have g0:=all3 (p:=λb=>X.s₀.heap.get? b=none) (old a ne) (old T nT) (ϵ (Ϙ I2.sz l1))
  have g1:=all3 (p:=λb=>H' b=none) ue uT (hok.fresh l1)
  have g2:=all3 (p:=λb=>b≠X.env.locals) fe.1 fT.1 (m6 (ϕ I2.lt l1))
  have g3:=all3 (p:=λb=>∀x c,X.env.cells.lookup x=some c->c≠b) fe.2 fT.2 λx c q=>let ⟨_,o,z,_⟩:=I2.cell x c q;lt1 c o z
  have g4:=all3 (p:=λb=>∀p∈X.pn++pins,p.1≠b) (pin1 a ne) (pin1 T nT) λp hp=>lt1 _ _ (I2.pin p hp).1
  have I3:Inv X pins σ H' {s' with heap:=h2}:=vA I2 mm g0 g1 g2 g3 g4
  obtain⟨nm,q',N,bs,sn,sub,ab,col,dd,k0,k1,k2,k3,k5,lk⟩:=c.obj
  obtain⟨nm',q'',N',bs',sn',sub',ab',col',dd',j0,j1,j2,j3,j5,lkD⟩:=hT.obj
  refine wpAny_handleBy_cons (codeAny_handlers_test (fU (X:=qP X a) (nj I3 a) hgD hmD ?_ hdD)) (by intro z;cases z)
  obtain⟨oe,vs,he2,hc2,hd2,_⟩:=x2.obj
  obtain⟨hp0,g,dr,tk,os0⟩:=s'
  refine xv (I3.kIn _ _ lk) (I3.kIn _ _ lkD) he2 hc2 ?_
  refine codeAny_handlers_suite_as (eA (s:=⟨h2,g,dr,tk,os0⟩) x2 λh3 m3 x3=>?_)
  have I4:Inv X pins σ H' ⟨h3,g,dr,tk,os0⟩:=vA I3 ((m3.mono (λ_ z=>absurd z ()) λb z=>υ _ (υ _ z)):Mv (frs X.stack) [a,T,T1] h2 h3) g0 g1 g2 g3 g4
  have I5:=uf (o:=Xh C0 dx0 a) I4 ue (old a ne) fe.1 fe.2 (pin1 a ne) (BM x3)
  refine fZ (X:=qP X a) (nj I5 a) hN hi (.inl hloc) (v:=.ref a) rfl (λs6 I6=>?_) (.inr hloc)
  refine i8 (hsu a pins s6 _ _ _ I6 (q2 a ue)) (λfl s7 h7=>?_) λ_ _ z=>z.elim
  have goes:∀(σ':St)(H7:Hp)(Q:η->Prop),Inv (qP X a) pins σ' H7 s7->(∀s8,Inv X pins (σ'.set i none) H7 s8->Q s8)->wpAny (model X.prog X.w) X.A (do bindName X.env n .none;unbindBehindTheSuite X.env n hpos) (λ_ s8=>Q s8) X.xe s7:=λσ' H7 Q I7 hQ=>by
   have I7':=qQ I.ok I7
   obtain⟨m7,hn7,hl7⟩:=id I7'.loc
   exact wpAny_nameGoes_keeps hloc hn7 (by rw[I.ok.kind];rfl) λh8 v8 n8 s8=>hQ _ (vf I7' hN hi s8 n8 hl7)
  cases fl with
  |next=>
   obtain⟨σ',H7,I7,z⟩:=h7
   exact goes σ' H7 _ I7 λs8 I8=>⟨_,H7,I8,z⟩
  |brk=>
   obtain⟨σ',H7,I7,z⟩:=h7
   exact goes σ' H7 _ I7 λs8 I8=>⟨_,H7,I8,z⟩
  |cont=>
   obtain⟨σ',H7,I7,z⟩:=h7
   exact goes σ' H7 _ I7 λs8 I8=>⟨_,H7,I8,z⟩
  |ret u=>
   obtain⟨v,σ',H7,I7,rv,z⟩:=h7
   exact goes σ' H7 _ I7 λs8 I8=>⟨v,_,H7,I8,rv,z⟩
end
open PySem PySem.Spec PyProof.Rows PySem.W
structure AM(K:Frag)(D C:Addr):Prop where
 obj:∃nm q N bs sn sub ab col dd k0 k1 k2 k3 k5,K.lookup C=some (excClassObj nm q C N bs (.ref D::veM) true sn sub ab col dd k0 k1 k2 k3 k5 "ValueError.__new__")
 ne:C≠D
theorem gZ.sub{K:Frag}{D fI C:Addr}(c:gZ K D fI C):AM K D C:=⟨c.obj,c.ne⟩
section
variable{X:Cx}{D fI:Addr}
theorem Bl{M:Gn}{h:Heap}:Gm M h (isType (.type "ValueError")) true:=λA Q E s k q=>ν q
theorem ba:bz X (.builtin "isinstance") (λxs H Q=>∃a C dx c,xs=[.ref a,c]/\H a=some (Xh C dx a)/\gZ X.K D fI C/\((∃C' b,c=.ref C'/\AM X.K D C'/\decide (C'=C)=b/\Q (.bl b) H)\/(c=.ty "ValueError"/\Q (.bl true) H))):=by
 intro pins s σ H xs us Q I r h
 obtain⟨a,C,dx,c0,rfl,ha,c,h⟩:=h
 obtain⟨u,w',rfl,rx,rn⟩:=kW r
 obtain rfl:u=Ε a:=rx
 obtain⟨⟨ws,sl,ho,_⟩,_⟩:=I.hok a _ ha
 obtain⟨nm,q',N,bs,sn,sub,ab,col,dd,k0,k1,k2,k3,k5,lk⟩:=c.obj
 have KX:=I.kIn
 have tk1:=I.tok (s.toks+1)
 obtain⟨hh,g,d,tk,os⟩:=s
 rcases h with ⟨C',b,rfl,c',rfl,q⟩|⟨rfl,q⟩
 ·obtain rfl:w'=Ε C':=rn
  obtain⟨nm',q'',N',bs',sn',sub',ab',col',dd',j0,j1,j2,j3,j5,lk'⟩:=c'.obj
  have hC':hh.get? C'=_:=KX _ _ lk'
  by_cases z:C'=C
  ·subst z
   rw[Q9 rfl]at q
   exact uZ ho rfl ⟨.bl true,H,I,rfl,q⟩
  ·rw[Q8 z]at q
   have hty:Gm (model X.prog X.w) hh (typeOf (.ref C')) (.type "type"):=λA Q E s k q=>by
    unfold typeOf
    exact γ (Gu (k _ _ hC') (ν q))
   have e1:(Ε C==Ε C')=false:=by simp[Ϗ z]
   have e2:(Ε D==Ε C')=false:=by simp[Ϗ c'.ne]
   refine xN F.attrBase_ValueError (KX _ _ lk) ho rfl () (gC KX c.cl) (gC KX c.ga) (gC KX c.gh) e1 ?_ hty (zy hC') ⟨.bl false,H,tk1,rfl,q⟩
   rw[Fq,Fq]
   have f1:(Ε C'==Ε C)=false:=by simp[z]
   have f2:(Ε C'==Ε D)=false:=by simp[c'.ne]
   rw[f1,f2];rfl
 ·obtain rfl:w'=x5 "ValueError":=rn
  exact tR (KX _ _ lk) ho rfl rfl (bg.up (bg.up ())) (Gm.of_pure sX) Bl ⟨.bl true,H,I,rfl,q⟩
variable{o:Expr}{to:TE}{pos:Pos}
def tXf(K:Frag)(D fI:Addr)(to:TE):TE:=λσ H Q=>to σ H λx H1=>∃a C dx v,x=.ref a/\H1 a=some (Xh C dx a)/\gZ K D fI C/\H1 dx=some (.xd [("place",v)])/\Q v H1
theorem pe_xfld(he:PE X o to)(hb:attributeBase o "place" X.env (eval o X.env)=eval o X.env:=by rfl):PE X (.Attribute o "place" pos) (tXf X.K D fI to):=by
 intro pins s σ H Q I h
 refine yL hb (thn (he pins s σ H _ I h) λu s1 ⟨x,H1,I1,rx,a,C,dx,v,ex,ha,c,hd,q⟩=>?_)
 subst ex
 obtain rfl:u=Ε a:=rx
 obtain⟨⟨ws,sl,ho,_⟩,_⟩:=I1.hok a _ ha
 obtain⟨mA,hn,rel⟩:=I1.hok dx _ hd
 obtain⟨nm,q',N,bs,sn,sub,ab,col,dd,k0,k1,k2,k3,k5,lk⟩:=c.obj
 have rp:=rel "place"
 have KX:=I1.kIn
 have tk1:=I1.tok (s1.toks+1)
 obtain⟨hh,g,d,tk,os⟩:=s1
 cases em:mA "place" with
 |none=>rw[em]at rp;exact rp.elim
 |some u=>
  rw[em]at rp
  have rp:aw v u:=rp
  exact Ac F.attrBase_ValueError (KX _ _ lk) (gC KX c.ga) (gC KX c.gh) (gC KX c.pl) ho hn em (by rw[handedOut_of (tV rp)]) ⟨v,H1,tk1,rp,q⟩
end
theorem rd:entryFor table "proto.unchain"=some Ϥ.«proto.unchain»:=entryFor_of_fast (by kernel_rfl)
section
variable{prog:Α}{w:Υ}{A:Ω}{E:δ->η->Prop}{s:η}{e:Addr}
theorem qR{α:Type}{a:Addr}{oa oe:Obj}{vs ws:Array δ}{Q:α->η->Prop}(hh:A.handled=some (.ref e))(he:s.heap.get? e=some oe)(hde:oe.data=.fields ws)(h2:ws[2]?=some .none)(ha:s.heap.get? a=some oa)(hda:oa.data=.fields vs)(hz:2<vs.size)(ne:e≠a)
  (h:E (.ref a) {s with heap:=s.heap.update a (EO (·.setIfInBounds 2 (.ref e)))}):wpAny (model prog w) A (raiseNew (.ref a):Sem α) Q E s:=by
 unfold raiseNew
 refine γ (wpAny_handled ?_)
 rw[hh]
 show wpAny _ _ (if (Ε e != Ε a)=true then _ else _) _ _ _
 rw[Q0 (by simp[ne])]
 refine γ (Ϧ (Fk (ϴ rd ?_)))
 refine γ (ϭ he hde h2 ?_)
 rw[Q0 ()]
 refine γ (ν (ν ?_))
 exact γ (DO ha hda hz (wpAny_throw h))
theorem wY{it l:Addr}{i:Nat}{items:Array δ}{oe:Obj}{ws:Array δ}{Q:Option δ->η->Prop}(hh:A.handled=some (.ref e))(he:s.heap.get? e=some oe)(hde:oe.data=.fields ws)(h2:ws[2]?=some .none)(hit:s.heap.IsListIter it l i)(hl:s.heap.IsList l items)(hx:items[i]?=none)(ne:e≠it)
  (hQ:∀h',Heap.ExtBut it s.heap h'->Q none {s with heap:=h'}):wpAny (model prog w) A (pyNext (.ref it)) Q E s:=by
 obtain⟨o1,ho1,_,hd1⟩:=id hit
 obtain⟨o2,ho2,_,n2,hd2⟩:=hl
 unfold pyNext
 refine γ (wpAny_attempt (i6 (name:=ξ "__next__") hit.typeIs slot_listiter_next (ϫ slot_listiter_next hit.typeIs entry_listiter_next ?_ (args_listiter_next _))))
 show wpAny (model prog w) A.in1 (field (.ref it) 0>>=_) _ _ s
 refine γ (ϭ ho1 hd1 (x:=.ref l) rfl ?_)
 show wpAny (model prog w) A.in1 (if (Ε l==a8)=true then _ else _) _ _ s
 rw[Q6 ()]
 show wpAny (model prog w) A.in1 (field (.ref it) 1>>=_) _ _ s
 refine γ (ϭ ho1 hd1 (x:=.int i 0) rfl ?_)
 show wpAny (model prog w) A.in1 (seqItems? (.ref l)>>=_) _ _ s
 refine γ (ϸ ho2 hd2 ?_)
 simp only[hx,r6]
 refine γ (u8 (γ (DO ho1 hd1 () ?_)))
 show wpAny (model prog w) A.in1 (newExc (.type "StopIteration") []>>=_) _ _ _
 refine γ ?_
 simp only[newTuple,newExc]
 refine γ (ϝ (γ (m:=firstArgMember _ _) (Gq (a:=a8) (by first|rfl|(simp only[firstArgMember];rfl)) (ϝ ?_ (by size_fits)))) (by size_fits))
 have x1:=(C4 s.heap it (EO (·.setIfInBounds 0 a8))).extBut
 refine qR (A:=A.in1) hh (ι _ (ι _ (x1 e oe ne he))) hde h2 (ψ _ rfl) rfl (by rw[FG];exact ϕ (by decide:2<6) (o0 6 _)) ?_ ?_
 ·refine Ρ ?_
  simp only[ϩ]
  exact r_ (ς (x1 e oe ne he))
 ·refine γ (FX (T:="StopIteration") (b:=true) ⟨_,Ϡ _ (ψ _ rfl) rfl,rfl⟩ isSubtype_stop (ν (hQ _ λb o hb z=>?_)))
  have y:=x1 b o hb z
  rw[Ψ _ _ (m6 (by simp only[ϩ];exact r_ (ς y)))]
  exact ι _ (ι _ y)
theorem tq{it ax:Addr}{C dx:Addr}(hh:A.handled=some (.ref e))(hne:ax≠it)(ne:e≠it)(items:Array δ):
  Ga prog w A it [it,ax,e] [it] items.size (λi v=>items[i]?=some v) (λi h=>(h.IsListIter it ax i/\h.IsList ax items)/\∃ws sl,h.get? e=some {cls:=.ref C,dict:=some dx,data:=.fields ws,slots:=sl}/\ws[2]?=some .none) where
 sub:=λb hb=>by rw[θ.mp hb];simp
 frame:=λ_ _ _ st hk=>⟨⟨st.1.1.at λo q=>hk it () o q,st.1.2.at λo q=>hk ax () o q⟩,let ⟨ws,sl,q,z⟩:=st.2;⟨ws,sl,hk e () _ q,z⟩⟩
 item:=λi s Q E hi st hQ=>by
  refine wpAny_pyNext_list_item st.1.1 st.1.2 (x:=items[i]) (by simp[hi]) λh' t1 t2=>?_
  obtain⟨ws,sl,q,z⟩:=st.2
  exact hQ _ h' s.toks (by simp[hi]) ⟨⟨t1,st.1.2.extBut t2.extBut hne⟩,ws,sl,t2.extBut e _ ne q,z⟩ λb o hb q=>t2.extBut b o (λy=>hb (by simp[y])) q
 done:=λs Q E st hQ=>by
  obtain⟨ws,sl,q,z⟩:=st.2
  exact wY hh q rfl z st.1.1 st.1.2 () ne λh' t=>hQ h' s.toks λb o hb q=>t b o (λy=>hb (by simp[y])) q
 self:=λ_ _ _ _ st hQ=>wpAny_pyIter_listiter st.1.1 hQ
end
theorem tH{X:Cx}{e:Addr}(hh:X.A.handled=some (.ref e)):bz X (.builtin "any") (λxs H Q=>∃(a:Addr) (bs:List Bool) (C dx:Addr),xs=[.ref a]/\H a=some (.lst (bs.map V.bl))/\H e=some (Xh C dx e)/\Q (.bl (bs.any id)) H):=by
 intro pins s σ H xs us Q I r h
 obtain⟨a,bs,C,dx,rfl,hq,hx,q⟩:=h
 obtain⟨u,rfl,ru⟩:=cj r
 cases ru
 obtain⟨its,rv,p,hz⟩:=I.list (SqL.of hq)
 have hl:=p.isList
 have hlt:a<s.heap.objs.size:=by obtain⟨_,q,_⟩:=hl;exact ς q
 obtain⟨⟨ws,sl,ho,h2⟩,_⟩:=I.hok e _ hx
 refine call_any_walk (B0 hl ?_)
 refine⟨s.heap.objs.size,_,_,its.toArray.size,_,_,λi=>(bs[i]?).getD false,rfl,tq (A:=X.A.in1) (C:=C) (dx:=dx) hh (Ρ hlt) (Ρ (ς ho)) its.toArray,
  ⟨⟨⟨_,ψ _ rfl,rfl,rfl⟩,hl.push _⟩,ws,sl,ι _ ho,h2⟩,λi v s' Q' E' hP hQ=>?_,λh' tk hk=>?_⟩
 ·obtain⟨b,z,rfl⟩:=jF rv i v (by simpa using hP)
  have hQ:Q' ((bs[i]?).getD false) s':=hQ
  rw[z]at hQ
  exact Ϸ hQ
 ·have hlen:=rv.length
  have z:((ϋ its.toArray.size).any λi=>(bs[i]?).getD false)=bs.any id:=by
   rw[π,<-hlen,ε,m8,a_,a_]
   constructor
   ·rintro⟨i,hi,z⟩
    have hi':=Ϭ.mp hi
    rw[Γ hi']at z
    exact⟨_,f_ hi',z⟩
   ·rintro⟨b,hb,z⟩
    obtain⟨i,hi,rfl⟩:=t_ hb
    exact⟨i,Ϭ.mpr hi,by rw[Γ hi];exact z⟩
  rw[z]
  exact⟨.bl _,H,I.kept (fW hk),rfl,q⟩
open PySem PySem.Spec PyProof.Rows PySem.W
section
variable{P:Α}{w:Υ}{K:Frag}{mg:Str->Option δ}{base:Heap}
theorem okX{x qual:Str}{st:Stmt}{f:Addr}{fd:Ο}{N ps:List Str}{k:Nat}{sp:Sp}(F:Fun K x qual st f fd)(S:am N ps (ag st))(len:∀vs H Q E,sp vs H Q E->vs.length=ps.length)
  (hbody:∀(cdv:δ)(A:Ω)(outer:List Env)(s:η)(H:Hp)(vs:List V)(Q:VK)(E:XK),bK k (A.deeper (envOfC qual (ag st) s.heap.objs.size f cdv))->sp vs H Q E ->
   ∃t,PSs (aT (CXe P w) P w K mg base N qual (ag st) f cdv A outer s H E) (bC st) t/\t {nx:=λ_ H'=>Q .non H',rt:=Q} (eK N vs) H):aG P w K mg base (CXe P w) (k+1) f fd ps sp:=by
 obtain⟨oc,od,kV,doc,pm,an,cdv,ct,osl,rfl,lk,hcd⟩:=F.ex
 exact vk lk hcd S len λA outer s H vs Q E hr hsp=>hbody cdv A outer s H vs Q E hr hsp
structure uG(P:Α)(w:Υ)(K:Frag)(mg:Str->Option δ)(base:Heap)(k:Nat)(x:Str)(ps:List Str)(sp:Sp):Prop where
 ex:∃f fd,aG P w K mg base (CXe P w) k f fd ps sp/\cf K fd ps []/\keepIn K (.ref f)=true/\mg x=some (.ref f)
theorem uG.up{j k:Nat}{x:Str}{ps:List Str}{sp:Sp}(d:uG P w K mg base j x ps sp)(h:j<=k):uG P w K mg base k x ps sp:=
 let ⟨f,fd,F,b,kp,m⟩:=d.ex
 ⟨f,fd,F.mono h,b,kp,m⟩
variable{N:List Str}{qual:Str}{scope:Et}{f0:Addr}{cd:δ}{A:Ω}{outer:List Env}{s0:η}{H0:Hp}{E:XK}{k:Nat}{x:Str}{ps:List Str}{sp:Sp}{p pos:Pos}{e:Expr}{es:List Expr}{t:TA}
theorem pe_defX(d:uG P w K mg base k x ps sp)(hr:bK k (A.deeper (envOfC qual scope s0.heap.objs.size f0 cd)))(hg:Gl (aT (CXe P w) P w K mg base N qual scope f0 cd A outer s0 H0 E) x)(ha:PA (aT (CXe P w) P w K mg base N qual scope f0 cd A outer s0 H0 E) (e::es) t)(hdb:(x==("__debug__" : Str))=false:=by decide)
  (he:starEach (e::es) (aT (CXe P w) P w K mg base N qual scope f0 cd A outer s0 H0 E).env=(false,eval e (aT (CXe P w) P w K mg base N qual scope f0 cd A outer s0 H0 E).env)::starEach es (aT (CXe P w) P w K mg base N qual scope f0 cd A outer s0 H0 E).env:=by rfl)
  (hpl:(backTo pos (starEach es (aT (CXe P w) P w K mg base N qual scope f0 cd A outer s0 H0 E).env)).any (·.1)=false:=by rfl):PE (aT (CXe P w) P w K mg base N qual scope f0 cd A outer s0 H0 E) (.Call (.Name x p) (e::es) [] pos) (vP sp [] E t):=by
 obtain⟨f,fd,F,b,kp,m⟩:=d.ex
 exact rq F hr hg m kp b .nil yD ha hdb he hpl
end
end L2.EX
namespace L2
open PySem PySem.Spec PyProof.Rows PySem.W
section
variable{X:Cx}
end
end L2
namespace WR
open PySem L2 L2.EX
structure Bx(p:Prop):Prop where
 h:p
theorem aq{p:Prop}(h:p):autoParam p Lean.Syntax.missing:=h
def okV(N:List Str)(sc:Et)(i:Nat)(x:Str):Bool:=decide (N[i]?=some x)&&((sc.names.lookup x==some .local||sc.names.lookup x==some .cell||sc.names.lookup x==some .free)&&(x==("__debug__" : Str)||x==("__classdict__" : Str))==false)
theorem wv{X:Cx}(i:Nat){x:Str}{pos:Pos}(h:okV X.N X.env.scope i x=true):Bx (PE X (.Name x pos) (ig i)):=by
 simp only[okV,Θ,Gi,decide_eq_true_eq,beq_iff_eq]at h
 obtain⟨a,b,c⟩:=h
 have c1:=Bool.or_eq_false_iff.mp c
 exact⟨pv i a (by rcases b with (b|b)|b;exact .inl b;exact .inr (.inl b);exact .inr (.inr b)) c1.1 c1.2⟩
def wab:=λ{v0 v1 v2} (v3:Bx _)=>Bx.mk (@L2.PW.pt v0 v1 v2 v3.h)
def wac:=λ{v0 v1 v2 v3 v4 v5 v6 v7} (v8:Bx _) (v9:Bx _) (v10:Bx _)=>Bx.mk (@L2.pe_ifExp v0 v1 v2 v3 v4 v5 v6 v7 v8.h v9.h v10.h)
def wad:=λ{v0 v1}=>Bx.mk (@L2.ps_dead v0 v1)
def wae:=λ{v0 v1 v2 v3 v4} (v5:Bx _) (v6:Bx _) v7=>Bx.mk (@L2.pa_cons v0 v1 v2 v3 v4 v5.h v6.h (aq v7))
def waf:=λ{v0}=>Bx.mk (@L2.pa_nil v0)
def wag:=λ{v0 v1 v2 v3 v4 v5 v6} (v7:Bx _) (v8:Bx _)=>Bx.mk (@L2.pe_and v0 v1 v2 v3 v4 v5 v6 v7.h v8.h)
def wah:=λ{v0 v1 v2 v3}=>Bx.mk (@L2.pe_bl v0 v1 v2 v3)
def wai:=λ{v0 v1 v3 v4} v2 v5 v6 v7 v8 v9 v10=>Bx.mk (@L2.pe_bltn v0 v1 v2 v3 v4 v5 v6 v7 v8 (aq v9) (aq v10))
def waj:=λ{v0 v1 v2 v3 v4 v5 v6 v7 v8 v9 v10 v11} v12 v13 v14 v15 (v16:Bx _) (v17:Bx _) v18 v19 v20 v21 v22=>Bx.mk (@L2.pe_bm v0 v1 v2 v3 v4 v5 v6 v7 v8 v9 v10 v11 v12 v13 v14 v15 v16.h v17.h (aq v18) (aq v19) (aq v20) (aq v21) (aq v22))
def wak:=λ{v0 v1 v2 v3 v4 v5 v6 v7 v8} v9 v10 v11 v12 (v13:Bx _) v14 v15=>Bx.mk (@L2.pe_bm0 v0 v1 v2 v3 v4 v5 v6 v7 v8 v9 v10 v11 v12 v13.h (aq v14) (aq v15))
def wal:=λ{v0 v1 v2 v3 v4 v5 v6 v7 v8} v9 v10 v11 v12 (v13:Bx _) v14 v15 v16 v17=>Bx.mk (@L2.pe_callB v0 v1 v2 v3 v4 v5 v6 v7 v8 v9 v10 v11 v12 v13.h (aq v14) (aq v15) (aq v16) (aq v17))
def wam:=λ{v0 v1 v2 v3 v4 v5 v6 v7 v8} v9 v10 v11 v12 (v13:Bx _) v14 v15 v16 v17=>Bx.mk (@L2.pe_callTy v0 v1 v2 v3 v4 v5 v6 v7 v8 v9 v10 v11 v12 v13.h (aq v14) (aq v15) (aq v16) (aq v17))
def wan:=λ{v0 v1 v2 v3 v4 v5 v6 v7 v8 v9 v10 v11} v12 v13 v14 v15 v16 (v17:Bx _) v18 v19 v20 v21 v22 v23=>Bx.mk (@L2.pe_callV v0 v1 v2 v3 v4 v5 v6 v7 v8 v9 v10 v11 v12 v13 v14 v15 v16 v17.h (aq v18) (aq v19) (aq v20) (aq v21) (aq v22) (aq v23))
def wao:=λ{v0 v1 v2 v3 v4 v5 v6 v7 v8 v9 v10 v11} v12 v13 (v14:Bx _) (v15:Bx _) (v16:Bx _) v17=>Bx.mk (@L2.pe_chain v0 v1 v2 v3 v4 v5 v6 v7 v8 v9 v10 v11 v12 v13 v14.h v15.h v16.h (aq v17))
def wap:=λ{v0 v1 v2 v3 v4 v5 v6 v7} v8 (v9:Bx _) (v10:Bx _) v11=>Bx.mk (@L2.pe_cmpR v0 v1 v2 v3 v4 v5 v6 v7 v8 v9.h v10.h v11)
def waq:=λ{v0 v1 v2 v3 v4 v5 v6 v7 v8 v9} v10 v11 v12 (v13:Bx _) v14 v15 v16=>Bx.mk (@L2.pe_def v0 v1 v2 v3 v4 v5 v6 v7 v8 v9 v10 v11 v12 v13.h (aq v14) (aq v15) (aq v16))
def wax:=λ{v0 v1 v2 v3 v4 v5} v6 (v7:Bx _) (v8:Bx _) v9=>Bx.mk (@L2.pe_dget v0 v1 v2 v3 v4 v5 v6 v7.h v8.h v9)
def waA:=λ{v0 v1}=>Bx.mk (@L2.pe_dnewK v0 v1)
def waB:=λ{v0 v1 v3 v4} v2 v5 v6 v7 v8=>Bx.mk (@L2.pe_glob v0 v1 v2 v3 v4 v5 v6 v7 (aq v8))
def waC:=λ{v0 v1 v2 v3}=>Bx.mk (@L2.pe_int v0 v1 v2 v3)
def waD:=λ{v0 v1 v2 v3 v4 v5 v6} v7 (v8:Bx _) (v9:Bx _) v10=>Bx.mk (@L2.pe_ix v0 v1 v2 v3 v4 v5 v6 v7 v8.h v9.h v10)
def waE:=λ{v0 v1 v4 v5 v6 v7 v8 v9 v10 v11 v12} v2 v3 (v13:Bx _) v14 v15 (v16:∀x0 x1 x2,Bx _) v17 (v18:∀x0 x1 x2,Bx _) (v19:∀x0 x1 x2,Bx _) v20=>Bx.mk (@L2.pe_lc v0 v1 v2 v3 v4 v5 v6 v7 v8 v9 v10 v11 v12 v13.h v14 v15 (λx0 x1 x2=>(v16 x0 x1 x2).h) v17 (λx0 x1 x2=>(v18 x0 x1 x2).h) (λx0 x1 x2=>(v19 x0 x1 x2).h) (aq v20))
def waF:=λ{v0 v1 v2 v3 v4 v5 v6} v7 v8 v9 v10 v11 (v12:Bx _) v13 v14=>Bx.mk (@L2.pe_listrev v0 v1 v2 v3 v4 v5 v6 v7 v8 v9 v10 v11 v12.h (aq v13) (aq v14))
def waM:=λ{v0 v1 v2 v3} (v4:Bx _)=>Bx.mk (@L2.pe_lst v0 v1 v2 v3 v4.h)
def waN:=λ{v0 v1 v2}=>Bx.mk (@L2.pe_non v0 v1 v2)
def waO:=λ{v0 v1 v2 v3} (v4:Bx _)=>Bx.mk (@L2.pe_not v0 v1 v2 v3 v4.h)
def waP:=λ{v0 v1 v2 v3 v4} (v5:Bx _)=>Bx.mk (@L2.pe_one v0 v1 v2 v3 v4 v5.h)
def waQ:=λ{v0 v1 v2 v3 v4 v5 v6 v7} v8 (v9:Bx _) (v10:Bx _)=>Bx.mk (@L2.pe_op v0 v1 v2 v3 v4 v5 v6 v7 v8 v9.h v10.h)
def waR:=λ{v0 v1 v2 v3 v4 v5 v6} (v7:Bx _) (v8:Bx _)=>Bx.mk (@L2.pe_or v0 v1 v2 v3 v4 v5 v6 v7.h v8.h)
def waT:=λ{v0 v1 v2 v3 v4 v5 v6 v7 v8 v9} v10 (v11:Bx _) (v12:Bx _) (v13:Bx _)=>Bx.mk (@L2.pe_slice v0 v1 v2 v3 v4 v5 v6 v7 v8 v9 v10 v11.h v12.h v13.h)
def waV:=λ{v0 v1 v2 v3}=>Bx.mk (@L2.pe_str v0 v1 v2 v3)
def waX:=λ{v0 v1 v2 v3 v4} (v5:Bx _)=>Bx.mk (@L2.pe_tup v0 v1 v2 v3 v4 v5.h)
def waY:=λ{v0 v1 v2 v3 v4 v5} v6 (v7:Bx _)=>Bx.mk (@L2.pe_un v0 v1 v2 v3 v4 v5 v6 v7.h)
def waZ:=λ{v0 v1 v3} v2 v4 v5 v6 v7=>Bx.mk (@L2.pg_name v0 v1 v2 v3 v4 v5 v6 (aq v7))
def wba:=λ{v0 v1 v2 v3 v4 v5 v6} (v7:Bx _) (v8:Bx _) v9 v10=>Bx.mk (@L2.pg_sub v0 v1 v2 v3 v4 v5 v6 v7.h v8.h v9 (aq v10))
def wbb:=λ{v0 v1 v2 v3 v4 v5} v6 (v7:Bx _) v8 v9=>Bx.mk (@L2.pg_tup v0 v1 v2 v3 v4 v5 v6 v7.h (aq v8) (aq v9))
def wbd:=λ{v0 v1 v2 v3 v4} (v5:Bx _) (v6:Bx _) v7=>Bx.mk (@L2.pgs_cons v0 v1 v2 v3 v4 v5.h v6.h (aq v7))
def wbe:=λ{v0}=>Bx.mk (@L2.pgs_nil v0)
def wbg:=λ{v0 v1 v2 v3 v4 v5 v6 v7} v8 v9 (v10:Bx _) v11=>Bx.mk (@L2.pi_enum v0 v1 v2 v3 v4 v5 v6 v7 v8 v9 v10.h (aq v11))
def wbi:=λ{v0 v1 v2 v3} (v4:Bx _)=>Bx.mk (@L2.pi_list v0 v1 v2 v3 v4.h)
def wbk:=λ{v0 v1 v2 v3 v4 v5} v6 v7 (v8:Bx _) v9=>Bx.mk (@L2.pi_range1 v0 v1 v2 v3 v4 v5 v6 v7 v8.h (aq v9))
def wbm:=λ{v0 v1 v2 v3 v4 v5 v6 v7} v8 v9 (v10:Bx _) v11 v12=>Bx.mk (@L2.pi_range3 v0 v1 v2 v3 v4 v5 v6 v7 v8 v9 v10.h (aq v11) (aq v12))
def wbn:=λ{v0 v1 v2 v3} (v4:Bx _)=>Bx.mk (@L2.pi_str v0 v1 v2 v3 v4.h)
def wbo:=λ{v0 v1 v2 v3} (v4:Bx _)=>Bx.mk (@L2.pi_tup v0 v1 v2 v3 v4.h)
def wbs:=λ{v0 v1 v2 v3 v4 v5 v6 v7 v8} v9 v10 (v11:Bx _) v12 v13=>Bx.mk (@L2.pi_zipTT v0 v1 v2 v3 v4 v5 v6 v7 v8 v9 v10 v11.h (aq v12) (aq v13))
def wbu:=λ{v0 v1 v2 v3 v4 v5 v6 v7} v8 (v9:Bx _) (v10:Bx _) v11=>Bx.mk (@L2.pe_getF v0 v1 v2 v3 v4 v5 v6 v7 v8 v9.h v10.h v11)
def wbw:=λ{v0 v1 v2 v3 v4 v5 v6} (v7:Bx _) (v8:Bx _)=>Bx.mk (@L2.pe_revL v0 v1 v2 v3 v4 v5 v6 v7.h v8.h)
def wbx:=λ{v0}=>Bx.mk (@L2.pif_nil v0)
def wbz:=λ{v0}=>Bx.mk (@L2.po_none v0)
def wbA:=λ{v0 v1 v2} (v3:Bx _)=>Bx.mk (@L2.po_some v0 v1 v2 v3.h)
def wbD:=λ{v0 v1 v2 v3 v4 v5} (v6:Bx _) (v7:Bx _) v8 v9 v10=>Bx.mk (@L2.ps_asg v0 v1 v2 v3 v4 v5 v6.h v7.h (aq v8) (aq v9) (aq v10))
def wbE:=λ{v0 v1 v3 v4 v5 v6 v7 v8} v2 v9 v10 v11 (v12:Bx _) v13 v14=>Bx.mk (@L2.ps_aug v0 v1 v2 v3 v4 v5 v6 v7 v8 v9 v10 v11 v12.h v13 (aq v14))
def wbF:=λ{v0 v1 v2 v3 v4 v5 v6 v7 v8} v9 (v10:Bx _) (v11:Bx _) (v12:Bx _) v13=>Bx.mk (@L2.ps_dput v0 v1 v2 v3 v4 v5 v6 v7 v8 v9 v10.h v11.h v12.h v13)
def wbG:=λ{v0 v1 v2 v3} (v4:Bx _) v5=>Bx.mk (@L2.ps_expr v0 v1 v2 v3 v4.h (aq v5))
def wbH:=λ{v0 v1 v2 v3 v4 v5 v6 v7} v8 v9 (v10:Bx _) (v11:Bx _) (v12:Bx _) v13=>Bx.mk (@L2.ps_for v0 v1 v2 v3 v4 v5 v6 v7 v8 v9 v10.h v11.h v12.h (aq v13))
def wbI:=λ{v0 v1 v2 v3 v4 v5 v6 v7} (v8:Bx _) (v9:Bx _) (v10:Bx _)=>Bx.mk (@L2.ps_if v0 v1 v2 v3 v4 v5 v6 v7 v8.h v9.h v10.h)
def wbJ:=λ{v0 v1 v4 v5 v6 v7 v8 v9 v10 v11 v12 v13 v14 v16} v2 v3 v15 v17 v18 v19 (v20:Bx _) v21 v22 (v23:∀x0 x1 x2,Bx _) v24 (v25:∀x0 x1 x2,Bx _) (v26:∀x0 x1 x2,Bx _) v27 v28=>Bx.mk (@L2.ps_lc v0 v1 v2 v3 v4 v5 v6 v7 v8 v9 v10 v11 v12 v13 v14 v15 v16 v17 v18 v19 v20.h v21 v22 (λx0 x1 x2=>(v23 x0 x1 x2).h) v24 (λx0 x1 x2=>(v25 x0 x1 x2).h) (λx0 x1 x2=>(v26 x0 x1 x2).h) (aq v27) (aq v28))
def wbK:=λ{v0 v1 v2 v3} (v4:Bx _)=>Bx.mk (@L2.ps_ret v0 v1 v2 v3 v4.h)
def wbM:=λ{v0 v1 v3 v4 v5 v6} v2 v7 v8 v9 (v10:Bx _) v11 v12=>Bx.mk (@L2.ps_set v0 v1 v2 v3 v4 v5 v6 v7 v8 v9 v10.h (aq v11) (aq v12))
def wbN:=λ{v0 v1 v2 v3 v4 v5} v6 (v7:Bx _) (v8:Bx _)=>Bx.mk (@L2.ps_while v0 v1 v2 v3 v4 v5 v6 v7.h v8.h)
def wbO:=λ{v0 v1 v2 v3 v4} (v5:Bx _) (v6:Bx _)=>Bx.mk (@L2.pss_cons v0 v1 v2 v3 v4 v5.h v6.h)
def wbP:=λ{v0}=>Bx.mk (@L2.pss_nil v0)
def wbQ:=λ{v0 v1 v2} (v3:Bx _)=>Bx.mk (@L2.pss_one v0 v1 v2 v3.h)
def wbR:=λ{v0 v1 v2 v3 v4 v5 v6 v7 v8 v9 v10 v11} v12 v13 (v14:Bx _) (v15:Bx _) (v16:Bx _) v17=>Bx.mk (@L2.pt_chain v0 v1 v2 v3 v4 v5 v6 v7 v8 v9 v10 v11 v12 v13 v14.h v15.h v16.h (aq v17))
def wbS:=λ{v0 v1 v2 v3 v4 v5 v6 v7} v8 (v9:Bx _) (v10:Bx _) v11=>Bx.mk (@L2.pt_cmpR v0 v1 v2 v3 v4 v5 v6 v7 v8 v9.h v10.h v11)
def wbT:=λ{v0 v1 v2 v3} (v4:Bx _)=>Bx.mk (@L2.pt_not v0 v1 v2 v3 v4.h)
def wbU:=λ{v0 v1 v2} (v3:Bx _) v4=>Bx.mk (@L2.pt_truth v0 v1 v2 v3.h v4)
def wbV:=λ{v0 v1 v2} (v3:Bx _) v4=>Bx.mk (@L2.pt_val v0 v1 v2 v3.h (aq v4))
def wbW:=λ{v0 v1 v2 v3 v4 v5 v6} (v7:Bx _) (v8:Bx _)=>Bx.mk (@L2.pw_and v0 v1 v2 v3 v4 v5 v6 v7.h v8.h)
def wbX:=λ{v0 v1 v2 v3} (v4:Bx _)=>Bx.mk (@L2.pw_and1 v0 v1 v2 v3 v4.h)
def wbY:=λ{v0 v1 v2 v3 v4 v5 v6} (v7:Bx _) (v8:Bx _)=>Bx.mk (@L2.pw_or v0 v1 v2 v3 v4 v5 v6 v7.h v8.h)
def wbZ:=λ{v0 v1 v2 v3} (v4:Bx _)=>Bx.mk (@L2.pw_or1 v0 v1 v2 v3 v4.h)
def wca:=λ{v0 v1 v2 v3 v4 v5 v6 v7 v8 v9 v10 v11 v12 v13 v14} v15 v16 v17 v18 v19 v20 v21 (v22:Bx _) v23 v24 v25=>Bx.mk (@L2.EX.ps_raise v0 v1 v2 v3 v4 v5 v6 v7 v8 v9 v10 v11 v12 v13 v14 v15 v16 v17 v18 v19 v20 v21 v22.h (aq v23) (aq v24) (aq v25))
def wcb:=λ{v0 v1 v2 v3 v4 v5 v6 v7 v8 v9 v10 v11 v12 v13 v14 v15 v16 v17 v18 v19 v20 v21 v22 v23} v24 v25 v26 (v27:Bx _) v28 v29 v30=>Bx.mk (@L2.EX.pe_defX v0 v1 v2 v3 v4 v5 v6 v7 v8 v9 v10 v11 v12 v13 v14 v15 v16 v17 v18 v19 v20 v21 v22 v23 v24 v25 v26 v27.h (aq v28) (aq v29) (aq v30))
def wcc:=λ{v0 v3 v4 v5 v6 v7 v8 v9 v10 v11 v12 v13 v14 v15 v16 v18 v19 v20 v21 v22 v23} v1 v2 v17 v24 v25 v26 v27 v28 v29 (v30:Bx _) v31 v32 v33 v34 v35 v36 v37 v38 v39 v40 (v41:∀x0,Bx _) v42 v43 v44 v45 v46=>Bx.mk (@L2.EX.ps_try v0 v1 v2 v3 v4 v5 v6 v7 v8 v9 v10 v11 v12 v13 v14 v15 v16 v17 v18 v19 v20 v21 v22 v23 v24 v25 v26 v27 v28 v29 v30.h v31 v32 v33 v34 v35 v36 v37 v38 v39 v40 (λx0=>(v41 x0).h) (aq v42) (aq v43) (aq v44) (aq v45) (aq v46))
def wcd:=λ{v0 v3 v4 v5 v6 v7 v8 v9} v1 v2 v10 v11 v12 (v13:Bx _) v14 v15 v16=>Bx.mk (@L2.EX.pe_vinit v0 v1 v2 v3 v4 v5 v6 v7 v8 v9 v10 v11 v12 v13.h (aq v14) (aq v15) (aq v16))
def wce:=λ{v0 v3 v4 v5 v6 v7 v8} v1 v2 (v9:Bx _) (v10:Bx _) v11=>Bx.mk (@L2.EX.ps_xset v0 v1 v2 v3 v4 v5 v6 v7 v8 v9.h v10.h (aq v11))
def wcf:=λ{v0 v3 v4 v5} v1 v2 (v6:Bx _) v7=>Bx.mk (@L2.EX.pe_xfld v0 v1 v2 v3 v4 v5 v6.h (aq v7))
theorem un{X:Cx}{b:List Stmt}{t:TS}(h:Bx (PSs X b t)):PSs X b t:=h.h
end WR
namespace K27
open PySem L2 KB XB WR
local macro_rules|`(tactic|symm)=>`(tactic|dsimp only[aT,Cx.nox])
def top (i : Nat) : Stmt := PySem.Challenge.pw_indexwise_k27_names_bound.main.body.getD i (.Pass ⟨0, 0, 0, 0⟩)
def vW:List Str:=["plus","minus","times","less","same"]
structure Txt(K:ζ)(mg:Str->Option δ):Prop where
 len:mg "len"=none
 isinstance:mg "isinstance"=none
 int:mg "int"=none
 bool:mg "bool"=none
 str:mg "str"=none
 tuple:mg "tuple"=none
 list:mg "list"=none
 all:mg "all"=none
 zip:mg "zip"=none
 range:mg "range"=none
 enumerate:mg "enumerate"=none
 max:mg "max"=none
 set:mg "set"=none
 sorted:mg "sorted"=none
 reversed:mg "reversed"=none
 any:mg "any"=none
 ValueError:mg "ValueError"=none
 dict:mg "dict"=none
 sum:mg "sum"=none
 min:mg "min"=none
 lLONGEST_NAME:∃t,mg "LONGEST_NAME"=some (.int 8 t)
 lGREATEST_SIZE:∃t,mg "GREATEST_SIZE"=some (.int 12 t)
 lGREATEST_NUMBER:∃t,mg "GREATEST_NUMBER"=some (.int 99 t)
 lWHOLE_BOUND:∃t,mg "WHOLE_BOUND"=some (.int 1000000000000 t)
 lMOST_NODES:∃t,mg "MOST_NODES"=some (.int 40 t)
 lMOST_ABOVE:∃t,mg "MOST_ABOVE"=some (.int 7 t)
 lMOST_THINGS:∃t,mg "MOST_THINGS"=some (.int 4 t)
 lMOST_ROWS:∃t,mg "MOST_ROWS"=some (.int 12 t)
theorem Txt.g_LONGEST_NAME{X:Cx}{pos:Pos}(T:Txt X.K X.mg)(hg:Gl X "LONGEST_NAME"):PE X (.Name "LONGEST_NAME" pos) (tC (.int 8)):=by
 obtain⟨t,e⟩:=T.lLONGEST_NAME
 exact pe_glob hg e ⟨t,rfl⟩
theorem Txt.g_GREATEST_SIZE{X:Cx}{pos:Pos}(T:Txt X.K X.mg)(hg:Gl X "GREATEST_SIZE"):PE X (.Name "GREATEST_SIZE" pos) (tC (.int 12)):=by
 obtain⟨t,e⟩:=T.lGREATEST_SIZE
 exact pe_glob hg e ⟨t,rfl⟩
theorem Txt.g_GREATEST_NUMBER{X:Cx}{pos:Pos}(T:Txt X.K X.mg)(hg:Gl X "GREATEST_NUMBER"):PE X (.Name "GREATEST_NUMBER" pos) (tC (.int 99)):=by
 obtain⟨t,e⟩:=T.lGREATEST_NUMBER
 exact pe_glob hg e ⟨t,rfl⟩
theorem Txt.g_WHOLE_BOUND{X:Cx}{pos:Pos}(T:Txt X.K X.mg)(hg:Gl X "WHOLE_BOUND"):PE X (.Name "WHOLE_BOUND" pos) (tC (.int 1000000000000)):=by
 obtain⟨t,e⟩:=T.lWHOLE_BOUND
 exact pe_glob hg e ⟨t,rfl⟩
theorem Txt.g_MOST_NODES{X:Cx}{pos:Pos}(T:Txt X.K X.mg)(hg:Gl X "MOST_NODES"):PE X (.Name "MOST_NODES" pos) (tC (.int 40)):=by
 obtain⟨t,e⟩:=T.lMOST_NODES
 exact pe_glob hg e ⟨t,rfl⟩
theorem Txt.g_MOST_ABOVE{X:Cx}{pos:Pos}(T:Txt X.K X.mg)(hg:Gl X "MOST_ABOVE"):PE X (.Name "MOST_ABOVE" pos) (tC (.int 7)):=by
 obtain⟨t,e⟩:=T.lMOST_ABOVE
 exact pe_glob hg e ⟨t,rfl⟩
theorem Txt.g_MOST_THINGS{X:Cx}{pos:Pos}(T:Txt X.K X.mg)(hg:Gl X "MOST_THINGS"):PE X (.Name "MOST_THINGS" pos) (tC (.int 4)):=by
 obtain⟨t,e⟩:=T.lMOST_THINGS
 exact pe_glob hg e ⟨t,rfl⟩
theorem Txt.g_MOST_ROWS{X:Cx}{pos:Pos}(T:Txt X.K X.mg)(hg:Gl X "MOST_ROWS"):PE X (.Name "MOST_ROWS" pos) (tC (.int 12)):=by
 obtain⟨t,e⟩:=T.lMOST_ROWS
 exact pe_glob hg e ⟨t,rfl⟩
abbrev eY:Stmt:=top 15
abbrev hJ:Stmt:=top 16
abbrev gG:Stmt:=top 17
abbrev dP:Stmt:=top 18
abbrev dD:Stmt:=top 19
def bO:Dv->Bool
 |.int _=>true
 |_=>false
def bp:Dv->Bool
 |.str x=>nmB x
 |_=>false
def geD(k:Int):Dv->Bool
 |.int i=>decide (k<=i)
 |_=>false
def eL:Dv->Bool
 |.tup [a,b]=>bp a&&(bO b&&geD 1 b)
 |_=>false
def headD:Dv->Str
 |.tup (.str x::_)=>x
 |_=>""
def goD(last:Str):List Dv->Bool
 |[]=>true
 |p::r=>eL p&&(decide (last.cps.toList<(headD p).cps.toList)&&goD (headD p) r)
def jk:Dv->Bool
 |.tup xs=>goD "" xs
 |_=>false
def oS:Dv->Bool
 |.tup [a,b]=>bO a&&(geD 0 a&&jk b)
 |_=>false
def spD(f:Dv->Bool):Sp:=λvs H Q _=>∃v d,vs=[v]/\Rep H d v/\∀H',ae H H'->Q (.bl (f d)) H'
variable{P:Α}{w:Υ}{K:ζ}{mg:Str->Option δ}{base:Heap}
theorem nB:am ["thing"] ["thing"] (ag eY):=by trivial
theorem pC{f:Addr}{fd:Ο}(F:Fun K "is_whole" "is_whole" eY f fd)(T:Txt K mg):aG P w K mg base CX0 1 f fd ["thing"] (spD bO):=by
 refine F.ok nB (λvs H Q E h=>?_) (λcdv A outer s H vs Q E hr h=>?_)
 ·obtain⟨v,d,rfl,_⟩:=h
  rfl
 obtain⟨v,d,rfl,R,q⟩:=h
 refine⟨_,(@un _ _ _ (wbQ (wbK (wag (wal be rfl T.isinstance () (wae (wv 0 rfl) (wae (wai (.ty "int") rfl T.int () rfl () ()) waf rfl) rfl) () () rfl rfl) (waP (waO (wal be rfl T.isinstance () (wae (wv 0 rfl) (wae (wai (.ty "bool") rfl T.bool () rfl () ()) waf rfl) rfl) () () rfl rfl))))))),?_⟩
 refine⟨_,rfl,v,_,_,_,rfl,R.ty,yY K d,_,rfl,?_⟩
 cases d with
 |int i=>exact au ⟨_,rfl,v,_,_,_,rfl,R.ty,oW K _,_,rfl,q H (ae.refl H)⟩
 |bl b=>exact au ⟨_,rfl,v,_,_,_,rfl,R.ty,oW K _,_,rfl,q H (ae.refl H)⟩
 |_=>exact av (q H (ae.refl H))
def spS(f:Dv->Bool):Sp:=λvs H Q _=>∃v d,vs=[v]/\Rep H d v/\d.small=true/\∀H',ae H H'->Q (.bl (f d)) H'
theorem wO(a b:Nat):decide (([a]:List Nat)<[b])=decide (a<b):=by
 by_cases h:a<b
 ·rw[Q9 h]
  exact Q9 (List.cons_lt_cons_iff.mpr (.inl h))
 ·rw[Q8 h]
  exact Q8 λz=>by
   rcases List.cons_lt_cons_iff.mp z with z|⟨_,z⟩
   ·exact h z
   ·exact List.not_lt_nil _ z
theorem AH(x:Str):((ϋ x.cps.size).map λi=>azB (x.cps.getD i 0)).all id=x.cps.toList.all azB:=by
 have e:(ϋ x.cps.size).map (λi=>azB (x.cps.getD i 0))=x.cps.toList.map azB:=by
  apply B4
  intro i
  rw[Ν,Ν]
  by_cases hi:i<x.cps.size
  ·rw[E5 hi]
   simp[hi]
  ·rw[a7 (by simpa using hi),a7 (by simpa using hi)]
   rfl
 rw[e,DT]
 rfl
theorem qi:am ["thing"] ["thing"] (ag hJ):=by trivial
theorem pT{f:Addr}{fd:Ο}(F:Fun K "is_name" "is_name" hJ f fd)(T:Txt K mg):aG P w K mg base CX0 1 f fd ["thing"] (spS bp):=by
 refine F.ok qi (λvs H Q E h=>?_) (λcdv A outer s H vs Q E hr h=>?_)
 ·obtain⟨v,d,rfl,_⟩:=h
  rfl
 obtain⟨v,d,rfl,R,hsm,q⟩:=h
 refine⟨_,(@un _ _ _ (wbO (wbI (wab (wbY (wbT (wbV (wal be rfl T.isinstance () (wae (wv 0 rfl) (wae (wai (.ty "str") rfl T.str () rfl () ()) waf rfl) rfl) () () rfl rfl) ())) (wbZ (wbT (wbR kJ kJ waC (wal fG rfl T.len () (wae (wv 0 rfl) waf rfl) () () rfl rfl) ⟨T.g_LONGEST_NAME rfl⟩ (by with_unfolding_all rfl)))))) (wbQ (wbK wah)) wbP) (wbQ (wbK (wal (gj rfl) rfl T.all () (wae (waE ["sign"] [] (wbn (wv 0 rfl)) (.of rfl) rfl (λ_ _ _=>⟨pg_name (i:=0) (bE (l:=["sign"]) (()) rfl) rfl (Η rfl)⟩) (bH ()) (λ_ _ _=>wbx) (λ_ _ _=>(wao hU hU waV (wv 0 rfl) waV (by with_unfolding_all rfl))) ()) waf rfl) () () rfl rfl))))),?_⟩
 refine⟨_,rfl,v,_,_,_,rfl,R.ty,iL K d,_,rfl,?_⟩
 cases d with
 |str x=>
  have hx:x.cps.size<=1000:=by simpa[Dv.small]using hsm
  obtain rfl:v=.str x:=R
  refine av ⟨_,rfl,x,rfl,yI hx,_,_,rfl,rfl,_,rfl,?_⟩
  have no:nmB x=false->Q (.bl false) H:=λe=>by
   have:=q H (ae.refl H)
   rwa[show bp (.str x)=false from e]at this
  refine aF (λh1=>?_) (λh1=>?_)
  ·refine⟨_,_,rfl,rfl,_,rfl,?_⟩
   have h1':1<=x.cps.size:=by
    have:=Q7 h1
    have e:x.length=x.cps.size:=rfl
    omega
   by_cases h8:x.cps.size<=8
   ·rw[show decide (((x.length:Nat):Int)<=8)=true from Q9 (by have e:x.length=x.cps.size:=rfl;omega)]
    refine av ?_
    refine⟨_,rfl,x,rfl,pL (F:=λi=>V.bl (azB (x.cps.getD i 0))) (λi ys hi hl=>?_) λa ha=>⟨a,(ϋ x.cps.size).map λi=>azB (x.cps.getD i 0),rfl,SqL.of ?_,?_⟩⟩
    ·refine bJ ⟨_,rfl,_,_,rfl,rfl,_,rfl,?_⟩
     have e1:decide ((⟨#[x.cps.getD i 0]⟩:Str).cps.toList<(ξ "a").cps.toList)=decide (x.cps.getD i 0<97):=wO _ _
     have e2:decide ((ξ "z").cps.toList<(⟨#[x.cps.getD i 0]⟩:Str).cps.toList)=decide (122<x.cps.getD i 0):=wO _ _
     rw[e1]
     by_cases c1:x.cps.getD i 0<97
     ·rw[Q9 c1]
      refine av ⟨by rw[hl,ω];omega,?_,rfl⟩
      unfold azB
      rw[Q8 ()]
      rfl
     ·rw[Q8 c1]
      refine au ⟨_,_,rfl,rfl,?_⟩
      refine⟨by rw[hl,ω];omega,?_,rfl⟩
      rw[e2]
      unfold azB
      rw[Q9 (show 97<=x.cps.getD i 0 by omega)]
      by_cases c2:122<x.cps.getD i 0
      ·rw[Q9 c2,Q8 ()];rfl
      ·rw[Q8 c2,Q9 ()];rfl
    ·rw[aa,ύ]
     rfl
    ·rw[AH]
     have:=q _ (ac ha (.lst ((ϋ x.cps.size).map λi=>V.bl (azB (x.cps.getD i 0)))))
     rwa[show bp (.str x)=x.cps.toList.all azB by
      show nmB x=_
      unfold nmB
      rw[Q9 h1',Q9 h8]
      rfl]at this
   ·rw[show decide (((x.length:Nat):Int)<=8)=false from Q8 (by have e:x.length=x.cps.size:=rfl;omega)]
    refine au (no ?_)
    unfold nmB
    rw[Q8 h8,Gp,i9]
  ·refine⟨_,rfl,au (no ?_)⟩
   have h1':¬ 1<=x.cps.size:=by
    have:=of_decide_eq_false (DD.mpr h1)
    have e:x.length=x.cps.size:=rfl
    omega
   unfold nmB
   rw[Q8 h1',i9,i9]
 |_=>exact au (au (q H (ae.refl H)))
theorem rf(ds:List Dv):(∃a b,ds=[a,b])\/(∀a b,ds≠[a,b]):=by
 match ds with
 |[]=>exact .inr λa b e=>nomatch e
 |[_]=>exact .inr λa b e=>nomatch e
 |[a,b]=>exact .inl ⟨a,b,rfl⟩
 |_::_::_::_=>exact .inr λa b e=>nomatch e
theorem mH{ds:List Dv}(h:∀a b,ds≠[a,b]):ds.length≠2:=λe=>by
 match ds,e with
 |[a,b],_=>exact h a b rfl
theorem vJ{ds:List Dv}(h:∀a b,ds≠[a,b]):eL (.tup ds)=false:=by
 match ds with
 |[]=>rfl
 |[_]=>rfl
 |[a,b]=>exact absurd rfl (h a b)
 |_::_::_::_=>rfl
theorem yd{ds:List Dv}(h:∀a b,ds≠[a,b]):oS (.tup ds)=false:=by
 match ds with
 |[]=>rfl
 |[_]=>rfl
 |[a,b]=>exact absurd rfl (h a b)
 |_::_::_::_=>rfl
theorem rO{k:Int}{d:Dv}(h:bO d=true):∃i,d=.int i/\geD k d=decide (k<=i):=by
 cases d with
 |int i=>exact⟨i,rfl,rfl⟩
 |_=>cases h
theorem mL{a b:Dv}(h:(Dv.tup [a,b]).small=true):a.small=true/\b.small=true:=by
 simp only[Dv.small,smalls,Θ]at h
 exact⟨h.1.1,h.1.2.1⟩
theorem qB:am ["thing"] ["thing"] (ag gG):=by trivial
theorem qC{f:Addr}{fd:Ο}{k:Nat}(F:Fun K "is_part" "is_part" gG f fd)(T:Txt K mg)(Dis_whole:Def P w K mg base k "is_whole" ["thing"] (spD bO))(Dis_name:Def P w K mg base k "is_name" ["thing"] (spS bp)):
  aG P w K mg base CX0 (k+1) f fd ["thing"] (spS eL):=by
 refine F.ok qB (λvs H Q E h=>?_) (λcdv A outer s H vs Q E hr h=>?_)
 ·obtain⟨v,d,rfl,_⟩:=h
  rfl
 obtain⟨v,d,rfl,R,hsm,q⟩:=h
 refine⟨_,(@un _ _ _ (wbO (wbI (wab (wbY (wbT (wbV (wal be rfl T.isinstance () (wae (wv 0 rfl) (wae (wai (.ty "tuple") rfl T.tuple () rfl () ()) waf rfl) rfl) () () rfl rfl) ())) (wbZ (wbS fL (wal ap rfl T.len () (wae (wv 0 rfl) waf rfl) () () rfl rfl) waC (ah _))))) (wbQ (wbK wah)) wbP) (wbQ (wbK (wag (waq Dis_name hr rfl (wae (waD aj (wv 0 rfl) waC (λ_ _=>rfl)) waf rfl) () rfl rfl) (wag (waq Dis_whole hr rfl (wae (waD aj (wv 0 rfl) waC (λ_ _=>rfl)) waf rfl) () rfl rfl) (waP (wap zh (waD aj (wv 0 rfl) waC (λ_ _=>rfl)) waC (ah _))))))))),?_⟩
 refine⟨_,rfl,v,_,_,_,rfl,R.ty,cA K d,_,rfl,?_⟩
 cases d with
 |tup ds=>
  obtain⟨a,vs,rfl,ha,rs⟩:=Rep.tup_inv R
  have hl:=rs.length
  refine av ⟨_,rfl,a,vs,rfl,.inr (SqT.of ha),rfl,_,rfl,?_⟩
  rcases rf ds with ⟨d0,d1,rfl⟩|no
  ·obtain⟨x,y,rfl,R0,R1⟩:=Reps.two rs
   obtain⟨z0,z1⟩:=mL hsm
   refine zE rfl ?_
   have qe:∀c H',ae H H'->eL (.tup [d0,d1])=c->Q (.bl c) H':=λc H' s1 e=>e▸q H' s1
   refine⟨_,rfl,a,_,0,x,rfl,rfl,SqT.of ha,ad (j:=0) rfl,x,d0,rfl,R0,z0,λH1 s1=>⟨_,rfl,?_⟩⟩
   cases c0:bp d0 with
   |false=>exact av (qe _ H1 s1 (by show(bp d0&&_)=false;rw[c0];rfl))
   |true=>
    refine au ⟨_,rfl,a,_,1,y,rfl,rfl,SqT.of (s1 _ _ ha),ad (j:=1) rfl,y,d1,rfl,R1.mono s1,λH2 s2=>⟨_,rfl,?_⟩⟩
    cases c1:bO d1 with
    |false=>exact av (qe _ H2 (s1.trans s2) (by show(bp d0&&(bO d1&&_))=false;rw[c0,c1];rfl))
    |true=>
     obtain⟨i,rfl,e⟩:=rO (k:=1) c1
     obtain rfl:y=.int i:=R1
     refine au ⟨_,rfl,a,_,1,.int i,rfl,rfl,SqT.of (s2 _ _ (s1 _ _ ha)),ad (j:=1) rfl,_,_,rfl,rfl,?_⟩
     refine qe _ H2 (s1.trans s2) ?_
     show(bp d0&&(bO (.int i)&&geD 1 (.int i)))=_
     rw[c0,c1,e]
     rfl
  ·have hn:¬ (V.int ((vs.length:Nat):Int)=V.int 2):=λe=>mH no (by injection e with e;omega)
   rw[Q8 hn]
   refine au ?_
   have:=q H (ae.refl H)
   rwa[vJ no]at this
 |_=>exact au (au (q H (ae.refl H)))
theorem lE:am ["thing"] ["thing"] (ag dD):=by trivial
theorem mY{f:Addr}{fd:Ο}{k:Nat}(F:Fun K "is_length" "is_length" dD f fd)(T:Txt K mg)(Dis_whole:Def P w K mg base k "is_whole" ["thing"] (spD bO))(Dare_parts:Def P w K mg base k "are_parts" ["thing"] (spS jk)):
  aG P w K mg base CX0 (k+1) f fd ["thing"] (spS oS):=by
 refine F.ok lE (λvs H Q E h=>?_) (λcdv A outer s H vs Q E hr h=>?_)
 ·obtain⟨v,d,rfl,_⟩:=h
  rfl
 obtain⟨v,d,rfl,R,hsm,q⟩:=h
 refine⟨_,(@un _ _ _ (wbO (wbI (wab (wbY (wbT (wbV (wal be rfl T.isinstance () (wae (wv 0 rfl) (wae (wai (.ty "tuple") rfl T.tuple () rfl () ()) waf rfl) rfl) () () rfl rfl) ())) (wbZ (wbS fL (wal ap rfl T.len () (wae (wv 0 rfl) waf rfl) () () rfl rfl) waC (ah _))))) (wbQ (wbK wah)) wbP) (wbQ (wbK (wag (waq Dis_whole hr rfl (wae (waD aj (wv 0 rfl) waC (λ_ _=>rfl)) waf rfl) () rfl rfl) (wag (wap zh (waD aj (wv 0 rfl) waC (λ_ _=>rfl)) waC (ah _)) (waP (waq Dare_parts hr rfl (wae (waD aj (wv 0 rfl) waC (λ_ _=>rfl)) waf rfl) () rfl rfl)))))))),?_⟩
 refine⟨_,rfl,v,_,_,_,rfl,R.ty,cA K d,_,rfl,?_⟩
 cases d with
 |tup ds=>
  obtain⟨a,vs,rfl,ha,rs⟩:=Rep.tup_inv R
  have hl:=rs.length
  refine av ⟨_,rfl,a,vs,rfl,.inr (SqT.of ha),rfl,_,rfl,?_⟩
  rcases rf ds with ⟨d0,d1,rfl⟩|no
  ·obtain⟨x,y,rfl,R0,R1⟩:=Reps.two rs
   obtain⟨z0,z1⟩:=mL hsm
   refine zE rfl ?_
   have qe:∀c H',ae H H'->oS (.tup [d0,d1])=c->Q (.bl c) H':=λc H' s1 e=>e▸q H' s1
   refine⟨_,rfl,a,_,0,x,rfl,rfl,SqT.of ha,ad (j:=0) rfl,x,d0,rfl,R0,λH1 s1=>⟨_,rfl,?_⟩⟩
   cases c0:bO d0 with
   |false=>exact av (qe _ H1 s1 (by show(bO d0&&_)=false;rw[c0];rfl))
   |true=>
    obtain⟨i,rfl,e⟩:=rO (k:=0) c0
    obtain rfl:x=.int i:=R0
    refine au ⟨_,rfl,a,_,0,.int i,rfl,rfl,SqT.of (s1 _ _ ha),ad (j:=0) rfl,_,_,rfl,rfl,_,rfl,?_⟩
    by_cases c1:0<=i
    ·rw[Q9 c1]
     refine au ⟨_,rfl,a,_,1,y,rfl,rfl,SqT.of (s1 _ _ ha),ad (j:=1) rfl,y,d1,rfl,R1.mono s1,z1,λH2 s2=>?_⟩
     refine qe _ H2 (s1.trans s2) ?_
     show(bO (.int i)&&(geD 0 (.int i)&&jk d1))=_
     rw[c0,e,Q9 c1]
     rfl
    ·rw[Q8 c1]
     refine av (qe _ H1 s1 ?_)
     show(bO (.int i)&&(geD 0 (.int i)&&jk d1))=_
     rw[c0,e,Q8 c1]
     rfl
  ·have hn:¬ (V.int ((vs.length:Nat):Int)=V.int 2):=λe=>mH no (by injection e with e;omega)
   rw[Q8 hn]
   refine au ?_
   have:=q H (ae.refl H)
   rwa[yd no]at this
 |_=>exact au (au (q H (ae.refl H)))
theorem ka{d:Dv}(h:eL d=true):∃nm b,d=.tup [.str nm,.int b]/\headD d=nm/\nmB nm=true/\1<=b:=by
 match d,h with
 |.tup [a,b],h=>
  simp only[eL,Θ]at h
  obtain⟨h1,h2,h3⟩:=h
  cases a with
  |str x=>
   cases b with
   |int i=>exact⟨x,i,rfl,rfl,h1,Q7 h3⟩
   |_=>cases h2
  |_=>cases h1
theorem gq:am ["thing","last","part"] ["thing"] (ag dP):=by trivial
theorem mr{f:Addr}{fd:Ο}{k:Nat}(F:Fun K "are_parts" "are_parts" dP f fd)(T:Txt K mg)(Dis_part:Def P w K mg base k "is_part" ["thing"] (spS eL)):
  aG P w K mg base CX0 (k+1) f fd ["thing"] (spS jk):=by
 have nd:=gq.nd
 refine F.ok gq (λvs H Q E h=>?_) (λcdv A outer s H vs Q E hr h=>?_)
 ·obtain⟨v,d,rfl,_⟩:=h
  rfl
 obtain⟨v,d,rfl,R,hsm,q⟩:=h
 refine⟨_,(@un _ _ _ (wbO (wbI (wbT (wbV (wal be rfl T.isinstance () (wae (wv 0 rfl) (wae (wai (.ty "tuple") rfl T.tuple () rfl () ()) waf rfl) rfl) () () rfl rfl) ())) (wbQ (wbK wah)) wbP) (wbO (wbM 1 nd rfl (Η rfl) waV rfl ()) (wbO (wbH ϛ rfl (wbo (wv 0 rfl)) (waZ 2 nd rfl (Η rfl) ()) (wbO (wbI (wab (wbY (wbT (wbV (waq Dis_part hr rfl (wae (wv 2 rfl) waf rfl) () rfl rfl) ())) (wbZ (wbS hU (waD aj (wv 2 rfl) waC (λ_ _=>rfl)) (wv 1 rfl) (ah _))))) (wbQ (wbK wah)) wbP) (wbQ (wbM 1 nd rfl (Η rfl) (waD aj (wv 2 rfl) waC (λ_ _=>rfl)) rfl ()))) ()) (wbQ (wbK wah)))))),?_⟩
 refine⟨_,rfl,v,_,_,_,rfl,R.ty,cA K d,_,rfl,?_⟩
 cases d with
 |tup ds=>
  obtain⟨a,vs,rfl,ha,rs⟩:=Rep.tup_inv R
  have hl:=rs.length
  have hds:smalls ds=true:=by
   simp only[Dv.small,Θ]at hsm
   exact hsm.1
  refine av ?_
  refine⟨_,rfl,a,rfl,⟨vs,SqT.of ha⟩,gz (xs:=vs) (λi σ H'=>∃(last:Str) (pv:Option V),σ=[some (.ref a),some (.str last),pv]/\ae H H'/\goD last (ds.drop i)=goD "" ds)
   ⟨"",none,rfl,ae.refl H,rfl⟩ (λi σ H' _ ⟨_,_,_,s1,_⟩=>SqT.of (s1 _ _ ha)) ?_ ?_⟩
  ·rintro i x σ H1 hi ⟨last,pv,rfl,s1,hg⟩
   obtain⟨d,hd,Rd⟩:=rs.get hi
   have hdi:ds.drop i=d::ds.drop (i+1):=by
    obtain⟨h1,h2⟩:=ο.mp hd
    rw[ϲ h1,h2]
   have hsd:=cJ hds hd
   rw[hdi]at hg
   refine⟨_,rfl,x,d,rfl,Rd.mono s1,hsd,λH2 s2=>⟨_,rfl,?_⟩⟩
   have no:goD last (d::ds.drop (i+1))=false->∀H',ae H H'->Q (.bl false) H':=λe H' s'=>by
    have:=q H' s'
    rwa[show jk (.tup ds)=false by show goD "" ds=false;rw[<-hg,e]]at this
   cases c:eL d with
   |false=>
    refine au (au (no ?_ H2 (s1.trans s2)))
    simp only[goD,c,i9]
   |true=>
    obtain⟨nm,b,rfl,hh,_⟩:=ka c
    obtain⟨p,us,rfl,hp,ru⟩:=Rep.tup_inv Rd
    obtain⟨y,z,rfl,R0,R1⟩:=Reps.two ru
    obtain rfl:y=.str nm:=R0
    have hp2:H2 p=some (.tup [.str nm,z]):=s2 _ _ (s1 _ _ hp)
    refine av ⟨_,rfl,p,_,0,.str nm,rfl,rfl,SqT.of hp2,ad (j:=0) rfl,_,rfl,_,_,rfl,rfl,_,rfl,?_⟩
    by_cases lt:last.cps.toList<nm.cps.toList
    ·rw[Q9 lt]
     refine av ⟨_,rfl,p,_,0,.str nm,rfl,rfl,SqT.of hp2,ad (j:=0) rfl,nm,_,rfl,s1.trans s2,?_⟩
     rw[<-hg]
     simp only[goD,c,hh,ϧ]
     rw[Q9 lt,ϧ]
    ·rw[Q8 lt]
     refine au (no ?_ H2 (s1.trans s2))
     simp only[goD,c,hh,ϧ]
     rw[Q8 lt,i9]
  ·rintro σ H1 ⟨last,pv,rfl,s1,hg⟩
   have:=q H1 s1
   rw[show jk (.tup ds)=true by
    show goD "" ds=true
    rw[<-hg,hl,F4]
    rfl]at this
   exact this
 |_=>exact au (q H (ae.refl H))
abbrev fk:Stmt:=top 24
abbrev fC:Stmt:=top 25
abbrev fo:Stmt:=top 26
abbrev bY:Stmt:=top 27
def fD:Dv->Int
 |.tup [_,.int n]=>n
 |_=>0
def CN:Dv->Int
 |.tup (.int c::_)=>c
 |_=>0
def yP:Dv->List Dv
 |.tup [_,.tup ps]=>ps
 |_=>[]
def slD(d:Dv):Bool:=oS d&&(decide (CN d<=99)&&(yP d).all λp=>decide (fD p<=99))
def dz:Dv->Bool
 |.tup (.str _::_)=>true
 |_=>false
def bQ:Dv->Bool
 |.tup [.str x]=>decide (x="whole")
 |.tup [.str x,l]=>decide (x="place")&&slD l
 |.tup [.str x,a,_]=>(decide (x="row")&&slD a)||decide (x="pair")
 |_=>false
def kids{α:Type}(x:Str)(r:List α):List α:=if x="row" then r.drop 1 else if x="pair" then r else []
theorem ug{d:Dv}(h:oS d=true):∃c ps,d=.tup [.int c,.tup ps]/\0<=c/\goD "" ps=true:=by
 match d,h with
 |.tup [a,b],h=>
  simp only[oS,Θ]at h
  obtain⟨h1,h2,h3⟩:=h
  cases a with
  |int i=>
   cases b with
   |tup ps=>exact⟨i,ps,rfl,Q7 h2,h3⟩
   |_=>cases h3
  |_=>cases h1
theorem pc:∀{l:Str}{ps:List Dv},goD l ps=true->∀p∈ps,eL p=true
 |_,[],_,p,hp=>by cases hp
 |l,x::ps,h,p,hp=>by
  simp only[goD,Θ]at h
  rcases μ.mp hp with rfl|hp
  ·exact h.1
  ·exact pc h.2.2 p hp
def zO:Sp:=λvs H Q _=>∃(a:Addr) (x:Str) (us:List V),vs=[.ref a]/\H a=some (.tup (.str x::us))/\(x="row"->us.length=2)/\(x="pair"->us.length=2)/\∀(l:Addr),H l=none->Q (.ref l) (upd H l (.lst (kids x us)))
theorem bu(x y:Str):decide (V.str x=V.str y)=decide (x=y):=by
 by_cases h:x=y
 ·rw[Q9 h,Q9 (by rw[h])]
 ·rw[Q8 h,Q8 (λz=>h (by injection z))]
theorem nN:am ["thing"] ["thing"] (ag fk):=by trivial
theorem oC{f:Addr}{fd:Ο}{k:Nat}(F:Fun K "is_small_length" "is_small_length" fk f fd)(T:Txt K mg)(Dis_length:Def P w K mg base k "is_length" ["thing"] (spS oS)):
  aG P w K mg base CX0 (k+1) f fd ["thing"] (spS slD):=by
 refine F.ok nN (λvs H Q E h=>?_) (λcdv A outer s H vs Q E hr h=>?_)
 ·obtain⟨v,d,rfl,_⟩:=h
  rfl
 obtain⟨v,d,rfl,R,hsm,q⟩:=h
 refine⟨_,(@un _ _ _ (wbO (wbI (wab (wbY (wbT (wbV (waq Dis_length hr rfl (wae (wv 0 rfl) waf rfl) () rfl rfl) ())) (wbZ (wbS fQ (waD aj (wv 0 rfl) waC (λ_ _=>rfl)) ⟨T.g_GREATEST_NUMBER rfl⟩ (ah _))))) (wbQ (wbK wah)) wbP) (wbQ (wbK (wal (gj rfl) rfl T.all () (wae (waE (["name","times"]) [] (wbo (waD aj (wv 0 rfl) waC (λ_ _=>rfl))) (.of rfl) rfl (λ_ _ _=>⟨pg_tup rfl (pgs_cons (pg_name (i:=0) (bE (l:=["name","times"]) (()) rfl) rfl (Η rfl)) (pgs_cons (pg_name (i:=1) (bE (l:=["name","times"]) (()) rfl) rfl (Η rfl)) pgs_nil))⟩) (ie () ()) (λ_ _ _=>wbx) (λ_ _ _=>(wap kJ (wv 1 rfl) ⟨T.g_GREATEST_NUMBER rfl⟩ (ah _))) ()) waf rfl) () () rfl rfl))))),?_⟩
 refine⟨_,rfl,v,d,rfl,R,hsm,λH1 s1=>⟨_,rfl,?_⟩⟩
 cases c0:oS d with
 |false=>
  refine au ?_
  have:=q H1 s1
  rwa[show slD d=false by unfold slD;rw[c0];rfl]at this
 |true=>
  refine av ?_
  obtain⟨c,ps,rfl,hc,hg⟩:=ug c0
  obtain⟨a,vs,rfl,ha,rs⟩:=Rep.tup_inv R
  obtain⟨x,y,rfl,R0,R1⟩:=Reps.two rs
  obtain rfl:x=.int c:=R0
  obtain⟨b,us,rfl,hb,ru⟩:=Rep.tup_inv R1
  have hps:ps.length<=1000:=by
   have:=(mL hsm).2
   simp only[Dv.small,Θ,decide_eq_true_eq]at this
   exact this.2
  have hl:=ru.length
  have e0:slD (.tup [.int c,.tup ps])=(decide (c<=99)&&ps.all λp=>decide (fD p<=99)):=by
   unfold slD;rw[c0];rfl
  refine⟨_,rfl,a,_,0,.int c,rfl,rfl,SqT.of (s1 _ _ ha),ad (j:=0) rfl,_,_,rfl,rfl,_,rfl,?_⟩
  refine aF (λh=>?_) (λh=>?_)
  ·have h':99<c:=Q7 h
   have:=q H1 s1
   rw[e0,Q8 (),i9]at this
   exact this
  have h':c<=99:=by have:=of_decide_eq_false (DD.mpr h);omega
  have hb1:=s1 _ _ hb
  refine⟨_,rfl,a,_,1,.ref b,rfl,rfl,SqT.of (s1 _ _ ha),ad (j:=1) rfl,b,rfl,⟨us,SqT.of hb1⟩,dI (xs:=us) (λi ys H'=>H'=H1/\ys=(ps.take i).map λp=>V.bl (decide (fD p<=99))) ⟨rfl,rfl⟩ (λi ys H' _ p=>by rw[p.1];exact SqT.of hb1) ?_ ?_⟩
  ·rintro i ys H' x hx ⟨rfl,rfl⟩
   obtain⟨d,hd,Rd⟩:=ru.get hx
   obtain⟨hi,ed⟩:=ο.mp hd
   obtain⟨nm,t,rfl,hh,_⟩:=ka (pc hg d (Λ hd))
   obtain⟨p,zs,rfl,hp,rz⟩:=Rep.tup_inv Rd
   obtain⟨y,z,rfl,Ry,Rz⟩:=Reps.two rz
   obtain rfl:y=.str nm:=Ry
   obtain rfl:z=.int t:=Rz
   refine gg (s1 _ _ hp) ⟨_,rfl,_,_,rfl,rfl,?_,rfl,?_⟩
   ·rw[ε,Φ,ω];omega
   ·rw[ϗ,hd,τ]
    rfl
  ·rintro ys H' ⟨rfl,rfl⟩ r hr'
   rw[hl,ϔ]
   refine⟨r,ps.map λp=>decide (fD p<=99),rfl,SqL.of (by rw[aa,ύ];rfl),?_⟩
   have:=q _ (s1.trans (ac hr' (.lst (ps.map λp=>V.bl (decide (fD p<=99))))))
   rw[e0,Q9 h',ϧ]at this
   rw[DT]
   exact this
theorem oQ:am ["thing"] ["thing"] (ag fC):=by trivial
theorem nv{f:Addr}{fd:Ο}(F:Fun K "has_word" "has_word" fC f fd)(T:Txt K mg):aG P w K mg base CX0 1 f fd ["thing"] (spD dz):=by
 refine F.ok oQ (λvs H Q E h=>?_) (λcdv A outer s H vs Q E hr h=>?_)
 ·obtain⟨v,d,rfl,_⟩:=h
  rfl
 obtain⟨v,d,rfl,R,q⟩:=h
 refine⟨_,(@un _ _ _ (wbQ (wbK (wag (wal be rfl T.isinstance () (wae (wv 0 rfl) (wae (wai (.ty "tuple") rfl T.tuple () rfl () ()) waf rfl) rfl) () () rfl rfl) (wag (wap fQ (wal ap rfl T.len () (wae (wv 0 rfl) waf rfl) () () rfl rfl) waC (ah _)) (waP (wal be rfl T.isinstance () (wae (waD aj (wv 0 rfl) waC (λ_ _=>rfl)) (wae (wai (.ty "str") rfl T.str () rfl () ()) waf rfl) rfl) () () rfl rfl))))))),?_⟩
 refine⟨_,rfl,v,_,_,_,rfl,R.ty,cA K d,_,rfl,?_⟩
 cases d with
 |tup ds=>
  obtain⟨a,vs,rfl,ha,rs⟩:=Rep.tup_inv R
  refine au ⟨_,rfl,a,vs,rfl,.inr (SqT.of ha),_,_,rfl,rfl,_,rfl,?_⟩
  cases ds with
  |nil=>
   simp only[Reps]at rs
   subst rs
   exact av (q H (ae.refl H))
  |cons d0 ds=>
   simp only[Reps]at rs
   obtain⟨x,r,rfl,R0,rr⟩:=rs
   rw[show decide (((0:Int))<(((x::r).length:Nat):Int))=true from Q9 (by rw[ϒ];omega)]
   refine au ⟨_,rfl,a,_,0,x,rfl,rfl,SqT.of ha,ad (j:=0) rfl,x,_,_,_,rfl,R0.ty,iL K d0,?_⟩
   have:=q H (ae.refl H)
   cases d0<;>exact this
 |_=>exact av (q H (ae.refl H))
theorem fm{d:Dv}(h:dz d=true):∃x r,d=.tup (.str x::r):=by
 match d,h with
 |.tup (.str x::r),_=>exact⟨x,r,rfl⟩
theorem qv{d:Dv}(h:dz d=false):bQ d=false:=by
 match d,h with
 |.tup [.str x],h=>cases h
 |.tup [.str x,l],h=>cases h
 |.tup [.str x,a,b],h=>cases h
 |.tup (.str x::a::b::c::r),h=>cases h
 |.tup [],_=>rfl
 |.tup (.non::r),_=>rfl
 |.tup (.bl _::r),_=>rfl
 |.tup (.int _::r),_=>rfl
 |.tup (.tup _::r),_=>rfl
 |.tup (.lst _::r),_=>rfl
 |.tup (.dct::r),_=>rfl
 |.non,_=>rfl
 |.bl _,_=>rfl
 |.int _,_=>rfl
 |.str _,_=>rfl
 |.lst _,_=>rfl
 |.dct,_=>rfl
theorem w1:(ξ "whole")≠(ξ "place"):=by decide +kernel
theorem w2:(ξ "whole")≠(ξ "row"):=by decide +kernel
theorem w3:(ξ "whole")≠(ξ "pair"):=by decide +kernel
theorem w4:(ξ "place")≠(ξ "row"):=by decide +kernel
theorem w5:(ξ "place")≠(ξ "pair"):=by decide +kernel
theorem w6:(ξ "row")≠(ξ "pair"):=by decide +kernel
theorem yR{r:List Dv}:bQ (.tup (.str "whole" :: r))=decide (r.length=0):=by
 match r with
 |[]=>show decide (ξ "whole"=ξ "whole")=_;rw[Q9 rfl];rfl
 |[l]=>show(decide (ξ "whole"=ξ "place")&&slD l)=_;rw[Q8 w1];rfl
 |[a,b]=>show((decide (ξ "whole"=ξ "row")&&slD a)||decide (ξ "whole"=ξ "pair"))=_;rw[Q8 w2,Q8 w3];rfl
 |a::b::c::r=>rfl
theorem rL{r:List Dv}:bQ (.tup (.str "place" :: r))=(decide (r.length=1)&&slD (r.headD .non)):=by
 match r with
 |[]=>show decide (ξ "place"=ξ "whole")=_;rw[Q8 (Ϗ w1)];rfl
 |[l]=>show(decide (ξ "place"=ξ "place")&&slD l)=_;rw[Q9 rfl];rfl
 |[a,b]=>show((decide (ξ "place"=ξ "row")&&slD a)||decide (ξ "place"=ξ "pair"))=_;rw[Q8 w4,Q8 w5];rfl
 |a::b::c::r=>
  rw[Q8 ()];rfl
theorem zx{r:List Dv}:bQ (.tup (.str "row" :: r))=(decide (r.length=2)&&slD (r.headD .non)):=by
 match r with
 |[]=>show decide (ξ "row"=ξ "whole")=_;rw[Q8 (Ϗ w2)];rfl
 |[l]=>show(decide (ξ "row"=ξ "place")&&slD l)=_;rw[Q8 (Ϗ w4)];rfl
 |[a,b]=>show((decide (ξ "row"=ξ "row")&&slD a)||decide (ξ "row"=ξ "pair"))=_;rw[Q9 rfl,Q8 w6,FL];rfl
 |a::b::c::r=>
  rw[Q8 ()];rfl
theorem Aw{x:Str}{r:List Dv}(h1:x≠"whole")(h2:x≠"place")(h3:x≠"row"):bQ (.tup (.str x::r))=(decide (r.length=2)&&decide (x="pair")):=by
 match r with
 |[]=>show decide (x="whole")=_;rw[Q8 h1];rfl
 |[l]=>show(decide (x="place")&&slD l)=_;rw[Q8 h2];rfl
 |[a,b]=>show((decide (x="row")&&slD a)||decide (x="pair"))=_;rw[Q8 h3,i9,B6];rfl
 |a::b::c::r=>
  rw[Q8 ()];rfl
theorem eD{vs:List V}{r:List Dv}{x:V}(h:vs.length=r.length)(n m:Nat)(e:m=n+1):decide (V.int (((x::vs).length:Nat):Int)=V.int (m:Int))=decide (r.length=n):=by
 by_cases z:r.length=n
 ·rw[Q9 z,Q9 (by rw[ϒ,h,z,e])]
 ·rw[Q8 z,Q8 (λy=>z (by injection y with y;rw[ϒ,h]at y;omega))]
theorem nq:am ["thing"] ["thing"] (ag fo):=by trivial
theorem nV{f:Addr}{fd:Ο}{k:Nat}(F:Fun K "is_point" "is_point" fo f fd)(T:Txt K mg)(Dhas_word:Def P w K mg base k "has_word" ["thing"] (spD dz))(Dis_small_length:Def P w K mg base k "is_small_length" ["thing"] (spS slD)):
  aG P w K mg base CX0 (k+1) f fd ["thing"] (spS bQ):=by
 refine F.ok nq (λvs H Q E h=>?_) (λcdv A outer s H vs Q E hr h=>?_)
 ·obtain⟨v,d,rfl,_⟩:=h
  rfl
 obtain⟨v,d,rfl,R,hsm,q⟩:=h
 refine⟨_,(@un _ _ _ (wbO (wbI (wbT (wbV (waq Dhas_word hr rfl (wae (wv 0 rfl) waf rfl) () rfl rfl) ())) (wbQ (wbK wah)) wbP) (wbO (wbI (wbS aB (waD aj (wv 0 rfl) waC (λ_ _=>rfl)) waV (ah _)) (wbQ (wbK (wap aB (wal ap rfl T.len () (wae (wv 0 rfl) waf rfl) () () rfl rfl) waC (ah _)))) wbP) (wbO (wbI (wbS aB (waD aj (wv 0 rfl) waC (λ_ _=>rfl)) waV (ah _)) (wbQ (wbK (wag (wap aB (wal ap rfl T.len () (wae (wv 0 rfl) waf rfl) () () rfl rfl) waC (ah _)) (waP (waq Dis_small_length hr rfl (wae (waD aj (wv 0 rfl) waC (λ_ _=>rfl)) waf rfl) () rfl rfl))))) wbP) (wbO (wbI (wbS aB (waD aj (wv 0 rfl) waC (λ_ _=>rfl)) waV (ah _)) (wbQ (wbK (wag (wap aB (wal ap rfl T.len () (wae (wv 0 rfl) waf rfl) () () rfl rfl) waC (ah _)) (waP (waq Dis_small_length hr rfl (wae (waD aj (wv 0 rfl) waC (λ_ _=>rfl)) waf rfl) () rfl rfl))))) wbP) (wbQ (wbK (wag (wap aB (wal ap rfl T.len () (wae (wv 0 rfl) waf rfl) () () rfl rfl) waC (ah _)) (waP (wap aB (waD aj (wv 0 rfl) waC (λ_ _=>rfl)) waV (ah _))))))))))),?_⟩
 symm
 refine⟨_,rfl,v,d,rfl,R,λH1 s1=>⟨_,rfl,?_⟩⟩
 cases c0:dz d with
 |false=>
  refine au ?_
  have:=q H1 s1
  rwa[qv c0]at this
 |true=>
  refine av ?_
  obtain⟨x,r,rfl⟩:=fm c0
  obtain⟨a,vs,rfl,ha,rs⟩:=Rep.tup_inv (R.mono s1)
  simp only[Reps]at rs
  obtain⟨y,us,rfl,R0,ru⟩:=rs
  obtain rfl:y=.str x:=R0
  have hl:=ru.length
  refine⟨_,rfl,a,_,0,.str x,rfl,rfl,SqT.of ha,ad (j:=0) rfl,rfl,_,rfl,?_⟩
  show if decide (V.str x=V.str "whole")=true then _ else _
  rw[bu]
  by_cases h1:x="whole"
  ·subst h1
   rw[Q9 rfl]
   refine au ⟨_,rfl,a,_,rfl,.inr (SqT.of ha),rfl,?_⟩
   have:=q H1 s1
   rw[yR,<-eD (x:=.str "whole") hl 0 1 rfl]at this
   exact this
  rw[Q8 h1]
  refine av ⟨_,rfl,a,_,0,.str x,rfl,rfl,SqT.of ha,ad (j:=0) rfl,rfl,_,rfl,?_⟩
  show if decide (V.str x=V.str "place")=true then _ else _
  rw[bu]
  by_cases h2:x="place"
  ·subst h2
   rw[Q9 rfl]
   refine au ⟨_,rfl,a,_,rfl,.inr (SqT.of ha),rfl,_,rfl,?_⟩
   show if decide (V.int _=V.int ((2:Nat):Int))=true then _ else _
   rw[eD (x:=.str "place") hl 1 2 rfl]
   by_cases z:r.length=1
   ·rw[Q9 z]
    match r,us,z,ru with
    |[l],us,_,ru=>
     simp only[Reps]at ru
     obtain⟨u,rest,rfl,Ru,rfl⟩:=ru
     refine au ⟨_,rfl,a,_,1,u,rfl,rfl,SqT.of ha,ad (j:=1) rfl,u,l,rfl,Ru,cJ (i:=1) (ds:=[.str "place",l]) (by simp only[Dv.small,Θ]at hsm;exact hsm.1) rfl,λH2 s2=>?_⟩
     have:=q H2 (s1.trans s2)
     rw[rL]at this
     exact this
   ·rw[Q8 z]
    refine av ?_
    have:=q H1 s1
    rw[rL,Q8 z]at this
    exact this
  rw[Q8 h2]
  refine av ⟨_,rfl,a,_,0,.str x,rfl,rfl,SqT.of ha,ad (j:=0) rfl,rfl,_,rfl,?_⟩
  show if decide (V.str x=V.str "row")=true then _ else _
  rw[bu]
  by_cases h3:x="row"
  ·subst h3
   rw[Q9 rfl]
   refine au ⟨_,rfl,a,_,rfl,.inr (SqT.of ha),rfl,_,rfl,?_⟩
   show if decide (V.int _=V.int ((3:Nat):Int))=true then _ else _
   rw[eD (x:=.str "row") hl 2 3 rfl]
   by_cases z:r.length=2
   ·rw[Q9 z]
    match r,us,z,ru with
    |[l,m],us,_,ru=>
     obtain⟨u,u',rfl,Ru,Ru'⟩:=Reps.two ru
     refine au ⟨_,rfl,a,_,1,u,rfl,rfl,SqT.of ha,ad (j:=1) rfl,u,l,rfl,Ru,cJ (i:=1) (ds:=[.str "row",l,m]) (by simp only[Dv.small,Θ]at hsm;exact hsm.1) rfl,λH2 s2=>?_⟩
     have:=q H2 (s1.trans s2)
     rw[zx]at this
     exact this
   ·rw[Q8 z]
    refine av ?_
    have:=q H1 s1
    rw[zx,Q8 z]at this
    exact this
  rw[Q8 h3]
  refine av ⟨_,rfl,a,_,rfl,.inr (SqT.of ha),rfl,_,rfl,?_⟩
  show if decide (V.int _=V.int ((3:Nat):Int))=true then _ else _
  rw[eD (x:=.str x) hl 2 3 rfl]
  have qq:=q H1 s1
  rw[Aw h1 h2 h3]at qq
  by_cases z:r.length=2
  ·rw[Q9 z]at qq⊢
   refine au ⟨_,rfl,a,_,0,.str x,rfl,rfl,SqT.of ha,ad (j:=0) rfl,rfl,?_⟩
   rw[ϧ,<-bu]at qq
   exact qq
  ·rw[Q8 z]at qq⊢
   exact av qq
theorem pS:am ["point"] ["point"] (ag bY):=by trivial
theorem pO{f:Addr}{fd:Ο}(F:Fun K "things_of" "things_of" bY f fd)(T:Txt K mg):aG P w K mg base CX0 1 f fd ["point"] zO:=by
 refine F.ok pS (λvs H Q E h=>?_) (λcdv A outer s H vs Q E hr h=>?_)
 ·obtain⟨a,x,us,rfl,_⟩:=h
  rfl
 obtain⟨a,x,us,rfl,ha,hr2,hp2,q⟩:=h
 refine⟨_,(@un _ _ _ (wbO (wbI (wbS aB (waD aj (wv 0 rfl) waC (λ_ _=>rfl)) waV (ah _)) (wbQ (wbK (waM (wae (waD aj (wv 0 rfl) waC (λ_ _=>rfl)) waf rfl)))) wbP) (wbO (wbI (wbS aB (waD aj (wv 0 rfl) waC (λ_ _=>rfl)) waV (ah _)) (wbQ (wbK (waM (wae (waD aj (wv 0 rfl) waC (λ_ _=>rfl)) (wae (waD aj (wv 0 rfl) waC (λ_ _=>rfl)) waf rfl) rfl)))) wbP) (wbQ (wbK (waM waf)))))),?_⟩
 symm
 refine⟨_,rfl,a,_,0,.str x,rfl,rfl,SqT.of ha,ad (j:=0) rfl,rfl,_,rfl,?_⟩
 show if decide (V.str x=V.str "row")=true then _ else _
 rw[bu]
 by_cases h1:x="row"
 ·subst h1
  have hl:=hr2 rfl
  match us,hl with
  |[u,u'],_=>
   rw[Q9 rfl]
   refine au ⟨_,rfl,a,_,2,u',rfl,rfl,SqT.of ha,ad (j:=2) rfl,z1,λl hl=>q l hl⟩
 rw[Q8 h1]
 refine av ⟨_,rfl,a,_,0,.str x,rfl,rfl,SqT.of ha,ad (j:=0) rfl,rfl,_,rfl,?_⟩
 show if decide (V.str x=V.str "pair")=true then _ else _
 rw[bu]
 by_cases h2:x="pair"
 ·subst h2
  have hl:=hp2 rfl
  match us,hl with
  |[u,u'],_=>
   rw[Q9 rfl]
   refine au ⟨_,rfl,a,_,1,u,rfl,rfl,SqT.of ha,ad (j:=1) rfl,_,rfl,a,_,2,u',rfl,rfl,SqT.of ha,ad (j:=2) rfl,z2,λl hl=>?_⟩
   have:=q l hl
   rw[show kids (ξ "pair") [u,u']=[u,u'] by unfold kids;rw[Q6 (Ϗ w6),Q0 rfl]]at this
   exact this
 rw[Q8 h2]
 refine av ⟨Ξ _,λl hl=>?_⟩
 have:=q l hl
 rw[show kids x us=[] by unfold kids;rw[Q6 h1,Q6 h2]]at this
 exact this
abbrev gT:Stmt:=top 29
theorem dkE{t:TS}{D:bI}{σ:St}{H:Hp}(h:∀D':bI,(∀σ H,D.nx σ H->D'.nx σ H)->(∀v H,D.rt v H->D'.rt v H)->t D' σ H):t D σ H:=h D (λ_ _ z=>z) λ_ _ z=>z
theorem gs{Y:St->Hp->Prop}{t u:TS}{D:bI}{i:Nat}{x:V}{σ:St}{H:Hp}(e:∀σ' H',tX t u D σ' H'->Y σ' H')(h:∀X:St->Hp->Prop,(∀σ' H',u D σ' H'->X σ' H')->t {D with nx:=X} (σ.set i (some x)) H):cu i x σ H Y:=e _ _ (h _ λ_ _ z=>z)
theorem CP{c:TT}{t u:TS}{D:bI}{σ:St}{H:Hp}(h:∀Y Z:Hp->Prop,(∀H',t D σ H'->Y H')->(∀H',u D σ H'->Z H')->c σ H λb H1=>if b=true then Y H1 else Z H1):AJ c t u D σ H:=h _ _ (λ_ z=>z) λ_ z=>z
def yc:Dv->List Dv
 |.tup (.str x::r)=>kids x r
 |_=>[]
theorem yV{d c:Dv}(h:c∈yc d):sizeOf c<sizeOf d:=by
 unfold yc at h
 split at h
 ·rename_i x r;have h1:c∈r:=by
   unfold kids at h
   split at h
   ·exact ET h
   ·split at h
    ·exact h
    ·cases h
  have:=List.sizeOf_lt_of_mem h1
  simp
  omega
 ·cases h
def aU(d:Dv):Nat:=if bQ d=true then 1+((yc d).attach.map λc=>aU c.1).sum else 99
termination_by sizeOf d
decreasing_by exact yV c.2
theorem size_eq(d:Dv):aU d=if bQ d=true then 1+((yc d).map aU).sum else 99:=by
 rw[aU,List.attach_map_val (f:=aU)]
theorem sI{d:Dv}(h:bQ d=false):aU d=99:=by
 rw[size_eq,h];rfl
theorem ir{d:Dv}(h:bQ d=true):∃x r,d=.tup (.str x::r)/\(x="row"->r.length=2)/\(x="pair"->r.length=2)/\aU d=1+((kids x r).map aU).sum:=by
 have e:=size_eq d
 rw[Q0 h]at e
 match d,h,e with
 |.tup [.str x],h,e=>
  have h':x="whole":=Q7 h
  subst h'
  exact⟨_,_,rfl,λz=>absurd z w2,λz=>absurd z w3,e⟩
 |.tup [.str x,l],h,e=>
  have h':(decide (x="place")&&slD l)=true:=h
  rw[Θ]at h'
  have e':x="place":=Q7 h'.1
  subst e'
  exact⟨_,_,rfl,λz=>absurd z w4,λz=>absurd z w5,e⟩
 |.tup [.str x,a,b],h,e=>exact⟨x,_,rfl,λ_=>rfl,λ_=>rfl,e⟩
theorem size_pos(d:Dv):1<=aU d:=by
 cases h:bQ d with
 |false=>rw[sI h];decide
 |true=>obtain⟨x,r,_,_,_,e⟩:=ir h;rw[e];omega
theorem uJ{H:Hp}{x:Str}{r:List Dv}{us:List V}(h:Reps H r us):Reps H (kids x r) (kids x us):=by
 unfold kids
 split
 ·match r,us,h with
  |[],us,h=>simp only[Reps]at h;subst h;simp only[List.drop_nil,Reps]
  |d::r,us,h=>simp only[Reps]at h;obtain⟨v,q,rfl,_,h2⟩:=h;exact h2
 ·split
  ·exact h
  ·simp only[Reps]
theorem qL{x:Str}{r:List Dv}(h:smalls r=true):smalls (kids x r)=true:=by
 unfold kids
 split
 ·match r,h with
  |[],_=>rfl
  |d::r,h=>simp only[smalls,Θ]at h;exact h.2
 ·split
  ·exact h
  ·rfl
theorem oX{α:Type}{x:Str}{r:List α}(h1:x="row"->r.length=2)(h2:x="pair"->r.length=2):(kids x r).length<=2:=by
 unfold kids
 split
 ·rename_i e;rw[ϳ,h1 e];decide
 ·split
  ·rename_i e;rw[h2 e];exact ρ _
  ·exact Ξ _
theorem jG:∀{xs ys:List Dv},smalls xs=true->smalls ys=true->smalls (xs++ys)=true
 |[],_,_,h=>h
 |x::xs,ys,g,h=>by
  simp only[smalls,Θ,EI]at g⊢
  exact⟨g.1,jG g.2 h⟩
theorem iw:∀{xs:List Dv}{y:Dv},smalls (xs++[y])=true->smalls xs=true/\y.small=true
 |[],y,h=>by simpa[smalls]using h
 |x::xs,y,h=>by
  simp only[smalls,Θ,EI]at h⊢
  have:=iw h.2
  exact⟨⟨h.1,this.1⟩,this.2⟩
theorem mT{H:Hp}{l:Addr}{o:HO}:ae (aX H l) (aX (upd H l o) l):=λb u h=>by
 unfold aX at h⊢
 split at h
 ·cases h
 ·rename_i e;rw[Q6 e,ai e];exact h
def jy:Sp:=spS λd=>decide (aU d<=12)
theorem kb:am ["thing","size","waiting","point"] ["thing"] (ag gT):=by trivial
theorem qw{f:Addr}{fd:Ο}{k:Nat}(F:Fun K "is_kind" "is_kind" gT f fd)(T:Txt K mg)(Dis_point:Def P w K mg base k "is_point" ["thing"] (spS bQ))(Dthings_of:Def P w K mg base k "things_of" ["point"] zO):
  aG P w K mg base CX0 (k+1) f fd ["thing"] jy:=by
 have nd:=kb.nd
 refine F.ok kb (λvs H Q E h=>?_) (λcdv A outer s H vs Q E hr h=>?_)
 ·obtain⟨v,d,rfl,_⟩:=h
  rfl
 obtain⟨v,d,rfl,R,hsm,q⟩:=h
 replace q:∀(H':Hp),ae H H'->Q (V.bl (decide (aU d<=12))) H':=q
 refine⟨_,(@un _ _ _ (wbO (wbM 1 nd rfl (Η rfl) waC rfl ()) (wbO (wbM 2 nd rfl (Η rfl) (waM (wae (wv 0 rfl) waf rfl)) rfl ()) (wbO (wbN ϛ (wbU (wv 2 rfl) (λ_=>rfl)) (wbO (wbM 3 nd rfl (Η rfl) (wak Ι k_ l8 jc (wv 2 rfl) rfl rfl) rfl ()) (wbO (wbE 1 nd rfl (Η rfl) waC wt ()) (wbO (wbI (wab (wbY (wbS fQ (wv 1 rfl) ⟨T.g_GREATEST_SIZE rfl⟩ (ah _)) (wbZ (wbT (wbV (waq Dis_point hr rfl (wae (wv 3 rfl) waf rfl) () rfl rfl) ()))))) (wbQ (wbK wah)) wbP) (wbQ (wbG (waj Ι B_ C1 ic (wv 2 rfl) (wae (waq Dthings_of hr rfl (wae (wv 3 rfl) waf rfl) () rfl rfl) waf rfl) rfl rfl rfl rfl rfl) rfl)))))) (wbQ (wbK wah)))))),?_⟩
 symm
 refine⟨_,rfl,z1,λW1 hW=>?_⟩
 have q1:=ac hW (.lst [v])
 refine oq (λm σ H'=>∃(o3:Option V) (sz:Nat) (ws:List Dv) (vs:List V),σ=[some v,some (.int sz),some (.ref W1),o3]/\ae H (aX H' W1)/\H' W1=some (.lst vs)/\Reps (aX H' W1) ws vs/\smalls ws=true/\(sz+(ws.map aU).sum<=12↔aU d<=12)/\m=12-sz/\sz<=12/\ws.length<=1+sz) 12
  ⟨_,0,[d],[v],rfl,gf q1 hW,aa,aK (R.mono (gf q1 hW)),by simp only[smalls,hsm,Bool.and_self],(),rfl,(),ρ _⟩ ?_ fz
 rintro m σ H1 D1 gR gD ⟨o3,sz,ws,vs,rfl,s1,w1,R1,sm,eq,rfl,s12,lw⟩
 have s01:ae H H1:=s1.trans bD
 refine⟨_,rfl,_,.inl ⟨vs,SqL.of w1,rfl⟩,?_⟩
 by_cases ne:ws=[]
 ·subst ne
  have e:vs=[]:=by simpa only[Reps]using R1
  subst e
  refine av ?_
  have:=q H1 s01
  rw[Q9 (eq.mp (by simpa using s12))]at this
  exact this
 ·obtain⟨w0,x,rfl⟩:=fV ne
  obtain⟨v0,u,rfl,Ra,Ru⟩:=cC R1
  have e:(!(v0++[u]).isEmpty)=true:=by simp
  rw[e]
  refine au ?_
  rw[τ,x9,ό,Ϫ,EQ,List.sum_nil]at eq
  rw[χ,ϥ]at lw
  obtain⟨sm0,smx⟩:=iw sm
  refine⟨_,rfl,.inl ⟨rfl,_,SqL.of w1⟩,W1,_,_,rfl,rfl,w1,dH _ _,?_⟩
  rw[B5]
  have t2:ae (aX H1 W1) (aX (upd H1 W1 (.lst v0)) W1):=mT
  have w2:upd H1 W1 (.lst v0) W1=some (.lst v0):=aa
  have s02:ae H _:=s1.trans (t2.trans bD)
  generalize upd H1 W1 (.lst v0)=H2 at t2 w2 s02⊢
  have xp:=size_pos x
  refine⟨_,rfl,_,_,rfl,rfl,?_⟩
  refine⟨_,rfl,_,_,rfl,rfl,_,rfl,?_⟩
  refine aF (λh=>?_) (λh=>?_)
  ·have h':(12:Int)<(sz:Int)+1:=Q7 h
   have:=q H2 s02
   rw[Q8 (λz=>by have:=eq.mpr z;omega)]at this
   exact au (gR _ _ this)
  have h':sz+1<=12:=by have z:¬ ((12:Int)<(sz:Int)+1):=of_decide_eq_false (DD.mpr h);omega
  refine⟨_,rfl,u,x,rfl,Ru.mono (t2.trans bD),smx,λH3 s3=>⟨_,rfl,?_⟩⟩
  have s03:=s02.trans s3
  cases c:bQ x with
  |false=>
   have:=q H3 s03
   rw[Q8 (λz=>by have:=eq.mpr z;rw[sI c]at this;omega)]at this
   exact au (gR _ _ this)
  |true=>
   refine av ?_
   obtain⟨wd,r,rfl,k1,k2,es⟩:=ir c
   have Rx:Rep (aX H3 W1) (.tup (.str wd::r)) u:=Ru.mono (t2.trans (bx s3))
   obtain⟨a,us,rfl,ha,rs⟩:=Rep.tup_inv Rx
   simp only[Reps]at rs
   obtain⟨y,ur,rfl,R0,ru⟩:=rs
   obtain rfl:y=.str wd:=R0
   have hl:=ru.length
   have w3:=s3 _ _ w2
   have lk:(kids wd ur).length<=2:=oX (λz=>by rw[hl];exact k1 z) (λz=>by rw[hl];exact k2 z)
   have lv:v0.length<=12:=by rw[Ra.length];omega
   refine⟨_,rfl,.inl ⟨rfl,_,SqL.of w3⟩,_,rfl,a,wd,ur,rfl,bD _ _ ha,λz=>by rw[hl];exact k1 z,λz=>by rw[hl];exact k2 z,λl hl4=>?_⟩
   have q4:=ac hl4 (.lst (kids wd ur))
   refine⟨W1,l,_,_,rfl,rfl,q4 _ _ w3,aa,by rw[ω];omega,?_⟩
   have t5:ae (aX H3 W1) (aX (upd (upd H3 l (.lst (kids wd ur))) W1 (.lst (v0++kids wd ur))) W1):=(bx q4).trans mT
   have t15:=t2.trans ((bx s3).trans t5)
   refine gD (12-(sz+1)) _ _ () ⟨_,sz+1,w0++kids wd r,v0++kids wd ur,rfl,s1.trans t15,aa,Reps.append (Ra.mono t15) ((uJ ru).mono t5),jG sm0 (qL (by simp only[Dv.small,smalls,Θ]at smx;exact smx.1.2)),?_,rfl,h',?_⟩
   ·rw[<-eq,es,τ,x9]
    constructor<;>intro z<;>omega
   ·have:=oX (α:=Dv) k1 k2
    rw[χ];omega
abbrev fv:Stmt:=top 32
abbrev cR:Stmt:=top 40
abbrev jY:Stmt:=top 41
abbrev qr:Stmt:=top 42
def wp(b:Int):Dv->Bool
 |.int i=>decide (0<=i)&&decide (i<b)
 |_=>false
def gP(b:Int):Dv->Bool
 |.tup ds=>decide (b<=(ds.length:Int))&&decide ((ds.length:Int)<=4)
 |_=>false
def iq(x:Str):Bool:=inV (.str x) (vW.map V.str)
def dq(x:Str):Bool:=WT.any λp=>decide (p.1=x)
def gY:Dv->Bool
 |.str x=>nmB x&&(!dq x && !iq x)
 |_=>false
def Bz:Dv->Bool
 |.str x=>iq x
 |_=>false
def vh:So->Dv->Bool
 |.n,d=>wp 1000000000000 d
 |.x,d=>bp d
 |.y,d=>bp d
 |.l,d=>slD d
 |.k,d=>decide (aU d<=12)
 |.w,d=>Bz d
 |.f,d=>gY d
 |.a,d=>gP 0 d
 |.r,d=>gP 1 d
 |.e,_=>true
def rC:Sp:=λvs H Q _=>∃(v:V) (d:Dv) (b:Int),vs=[v,.int b]/\Rep H d v/\∀H',ae H H'->Q (.bl (wp b d)) H'
def rJ:Sp:=λvs H Q _=>∃(v:V) (d:Dv) (b:Int),vs=[v,.int b]/\Rep H d v/\∀H',ae H H'->Q (.bl (gP b d)) H'
def vM:Sp:=λvs H Q _=>∃(s:So) (v:V) (d:Dv),vs=[.str (srt s),v]/\Rep H d v/\d.small=true/\∀H',ae H H'->Q (.bl (vh s d)) H'
theorem oN:am ["thing","bound"] ["thing","bound"] (ag fv):=by trivial
theorem pi{f:Addr}{fd:Ο}{k:Nat}(F:Fun K "is_below" "is_below" fv f fd)(T:Txt K mg)(Dis_whole:Def P w K mg base k "is_whole" ["thing"] (spD bO)):aG P w K mg base CX0 (k+1) f fd ["thing","bound"] rC:=by
 refine F.ok oN (λvs H Q E h=>?_) (λcdv A outer s H vs Q E hr h=>?_)
 ·obtain⟨v,d,b,rfl,_⟩:=h
  rfl
 obtain⟨v,d,b,rfl,R,q⟩:=h
 refine⟨_,(@un _ _ _ (wbQ (wbK (wag (waq Dis_whole hr rfl (wae (wv 0 rfl) waf rfl) () rfl rfl) (waP (wao kJ kR waC (wv 0 rfl) (wv 1 rfl) (by with_unfolding_all rfl))))))),?_⟩
 refine⟨_,rfl,v,d,rfl,R,λH1 s1=>⟨_,rfl,?_⟩⟩
 have qq:=q H1 s1
 cases d with
 |int i=>
  obtain rfl:v=.int i:=R
  refine au ⟨_,rfl,_,_,rfl,rfl,_,rfl,?_⟩
  have qq':Q (.bl (decide (0<=i)&&decide (i<b))) H1:=qq
  by_cases h:0<=i
  ·rw[Q9 h]at qq'⊢
   exact au ⟨_,rfl,_,_,rfl,rfl,qq'⟩
  ·rw[Q8 h]at qq'⊢
   exact av qq'
 |_=>exact av qq
theorem tU:am ["thing","least"] ["thing","least"] (ag jY):=by trivial
theorem uK{f:Addr}{fd:Ο}(F:Fun K "is_few" "is_few" jY f fd)(T:Txt K mg):aG P w K mg base CX0 1 f fd ["thing","least"] rJ:=by
 refine F.ok tU (λvs H Q E h=>?_) (λcdv A outer s H vs Q E hr h=>?_)
 ·obtain⟨v,d,b,rfl,_⟩:=h
  rfl
 obtain⟨v,d,b,rfl,R,q⟩:=h
 refine⟨_,(@un _ _ _ (wbQ (wbK (wag (wal be rfl T.isinstance () (wae (wv 0 rfl) (wae (wai (.ty "tuple") rfl T.tuple () rfl () ()) waf rfl) rfl) () () rfl rfl) (waP (wao kJ kJ (wv 1 rfl) (wal ap rfl T.len () (wae (wv 0 rfl) waf rfl) () () rfl rfl) ⟨T.g_MOST_THINGS rfl⟩ (by with_unfolding_all rfl))))))),?_⟩
 have qq:=q H (ae.refl H)
 refine⟨_,rfl,v,_,_,_,rfl,R.ty,cA K d,_,rfl,?_⟩
 cases d with
 |tup ds=>
  obtain⟨a,vs,rfl,ha,rs⟩:=Rep.tup_inv R
  have hl:=rs.length
  refine au ⟨_,rfl,_,rfl,a,vs,rfl,.inr (SqT.of ha),_,_,rfl,rfl,_,rfl,?_⟩
  have qq':Q (.bl (decide (b<=(ds.length:Int))&&decide ((ds.length:Int)<=4))) H:=qq
  rw[<-hl]at qq'
  by_cases h:b<=(vs.length:Int)
  ·rw[Q9 h]at qq'⊢
   exact au ⟨_,_,rfl,rfl,qq'⟩
  ·rw[Q8 h]at qq'⊢
   exact av qq'
 |_=>exact av qq
theorem jt:am ["thing"] ["thing"] (ag cR):=by trivial
theorem jd{f gS gR:Addr}{fd:Ο}{k:Nat}(F:Fun K "is_def_name" "is_def_name" cR f fd)(T:Txt K mg)(S:Shp P w K gS)(GS:mg "SHAPES"=some (.ref gS))(GR:mg "RECKONS"=some (.ref gR))(hR:∀H,SqT K H gR (vW.map V.str))(Dis_name:Def P w K mg base k "is_name" ["thing"] (spS bp)):aG P w K mg base CX0 (k+1) f fd ["thing"] (spS gY):=by
 refine F.ok jt (λvs H Q E h=>?_) (λcdv A outer s H vs Q E hr h=>?_)
 ·obtain⟨v,d,rfl,_⟩:=h
  rfl
 obtain⟨v,d,rfl,R,sm,q⟩:=h
 obtain⟨kvs,FS,_,hS⟩:=S.ex
 refine⟨_,(@un _ _ _ (wbQ (wbK (wag (waq Dis_name hr rfl (wae (wv 0 rfl) waf rfl) () rfl rfl) (wag (wap (kx FS) (wv 0 rfl) (waB (.ref gS) rfl GS rfl ()) (by with_unfolding_all rfl)) (waP (wap fP (wv 0 rfl) (waB (.ref gR) rfl GR rfl ()) (by with_unfolding_all rfl)))))))),?_⟩
 refine⟨_,rfl,v,d,rfl,R,sm,λH1 s1=>⟨_,rfl,?_⟩⟩
 have qq:=q H1 s1
 cases d with
 |str x=>
  obtain rfl:v=.str x:=R
  have qq':Q (.bl (nmB x&&(!dq x && !iq x))) H1:=qq
  show if nmB x=true then _ else _
  cases hn:nmB x with
  |false=>rw[hn]at qq';exact av qq'
  |true=>
   rw[hn]at qq'
   refine au ⟨_,rfl,x,rfl,rfl,_,rfl,?_⟩
   rw[hS x]
   show if xor true (dq x)=true then _ else _
   cases hw:dq x with
   |true=>rw[hw]at qq';exact av qq'
   |false=>
    rw[hw]at qq'
    exact au ⟨_,rfl,gR,_,rfl,.inr (hR _),rfl,(),qq'⟩
 |_=>exact av qq
theorem yq:am ["sort","thing"] ["sort","thing"] (ag qr):=by trivial
theorem yT{f gR:Addr}{fd:Ο}{k:Nat}(F:Fun K "fits" "fits" qr f fd)(T:Txt K mg)(GR:mg "RECKONS"=some (.ref gR))(hR:∀H,SqT K H gR (vW.map V.str))(Dis_below:Def P w K mg base k "is_below" ["thing","bound"] rC)(Dis_name:Def P w K mg base k "is_name" ["thing"] (spS bp))(Dis_small_length:Def P w K mg base k "is_small_length" ["thing"] (spS slD))(Dis_kind:Def P w K mg base k "is_kind" ["thing"] jy)(Dis_def_name:Def P w K mg base k "is_def_name" ["thing"] (spS gY))(Dis_few:Def P w K mg base k "is_few" ["thing","least"] rJ):aG P w K mg base CX0 (k+1) f fd ["sort","thing"] vM:=by
 refine F.ok yq (λvs H Q E h=>?_) (λcdv A outer s H vs Q E hr h=>?_)
 ·obtain⟨s,v,d,rfl,_⟩:=h
  rfl
 obtain⟨so,v,d,rfl,R,sm,q⟩:=h
 refine⟨_,(@un _ _ _ (wbO (wbI (wbS aB (wv 0 rfl) waV (ah _)) (wbQ (wbK (waq Dis_below hr rfl (wae (wv 1 rfl) (wae ⟨T.g_WHOLE_BOUND rfl⟩ waf rfl) rfl) () rfl rfl))) wbP) (wbO (wbI (wbS aB (wv 0 rfl) waV (ah _)) (wbQ (wbK (waq Dis_name hr rfl (wae (wv 1 rfl) waf rfl) () rfl rfl))) wbP) (wbO (wbI (wbS aB (wv 0 rfl) waV (ah _)) (wbQ (wbK (waq Dis_small_length hr rfl (wae (wv 1 rfl) waf rfl) () rfl rfl))) wbP) (wbO (wbI (wbS aB (wv 0 rfl) waV (ah _)) (wbQ (wbK (waq Dis_kind hr rfl (wae (wv 1 rfl) waf rfl) () rfl rfl))) wbP) (wbO (wbI (wbS aB (wv 0 rfl) waV (ah _)) (wbQ (wbK (wag (wal be rfl T.isinstance () (wae (wv 1 rfl) (wae (wai (.ty "str") rfl T.str () rfl () ()) waf rfl) rfl) () () rfl rfl) (waP (wap uv (wv 1 rfl) (waB (.ref gR) rfl GR rfl ()) (by with_unfolding_all rfl)))))) wbP) (wbO (wbI (wbS aB (wv 0 rfl) waV (ah _)) (wbQ (wbK (waq Dis_def_name hr rfl (wae (wv 1 rfl) waf rfl) () rfl rfl))) wbP) (wbO (wbI (wbS aB (wv 0 rfl) waV (ah _)) (wbQ (wbK (waq Dis_few hr rfl (wae (wv 1 rfl) (wae waC waf rfl) rfl) () rfl rfl))) wbP) (wbO (wbI (wbS aB (wv 0 rfl) waV (ah _)) (wbQ (wbK (waq Dis_few hr rfl (wae (wv 1 rfl) (wae waC waf rfl) rfl) () rfl rfl))) wbP) (wbQ (wbK wah))))))))))),?_⟩
 refine⟨_,rfl,rfl,_,rfl,aF (λh=>?_) (λh1=>?_)⟩
 ·have e:=(ze so).mp (Q7 h)
  subst e
  exact⟨_,rfl,v,d,_,rfl,R,q⟩
 refine⟨_,rfl,rfl,_,rfl,aF (λh=>?_) (λh2=>?_)⟩
 ·rcases(wc so).mp (Q7 h)with e|e
  ·subst e;exact⟨_,rfl,v,d,rfl,R,sm,q⟩
  ·subst e;exact⟨_,rfl,v,d,rfl,R,sm,q⟩
 refine⟨_,rfl,rfl,_,rfl,aF (λh=>?_) (λh3=>?_)⟩
 ·have e:=(zD so).mp (Q7 h)
  subst e
  exact⟨_,rfl,v,d,rfl,R,sm,q⟩
 refine⟨_,rfl,rfl,_,rfl,aF (λh=>?_) (λh4=>?_)⟩
 ·have e:=(zi so).mp (Q7 h)
  subst e
  exact⟨_,rfl,v,d,rfl,R,sm,q⟩
 refine⟨_,rfl,rfl,_,rfl,aF (λh=>?_) (λh5=>?_)⟩
 ·have e:=(zQ so).mp (Q7 h)
  subst e
  refine⟨_,rfl,v,_,_,_,rfl,R.ty,iL K d,_,rfl,?_⟩
  have qq:=q H (ae.refl H)
  cases d with
  |str x=>
   obtain rfl:v=.str x:=R
   exact au ⟨_,rfl,gR,_,rfl,.inr (hR _),rfl,(),qq⟩
  |_=>exact av qq
 refine⟨_,rfl,rfl,_,rfl,aF (λh=>?_) (λh6=>?_)⟩
 ·have e:=(zG so).mp (Q7 h)
  subst e
  exact⟨_,rfl,v,d,rfl,R,sm,q⟩
 refine⟨_,rfl,rfl,_,rfl,aF (λh=>?_) (λh7=>?_)⟩
 ·have e:=(oA so).mp (Q7 h)
  subst e
  exact⟨_,rfl,v,d,_,rfl,R,q⟩
 refine⟨_,rfl,rfl,_,rfl,aF (λh=>?_) (λh8=>?_)⟩
 ·have e:=(nM so).mp (Q7 h)
  subst e
  exact⟨_,rfl,v,d,_,rfl,R,q⟩
 have e:so=.e:=by
  cases so with
  |e=>rfl
  |n=>exact absurd (Q9 ((ze .n).mpr rfl)) h1
  |x=>exact absurd (Q9 ((wc .x).mpr (.inl rfl))) h2
  |y=>exact absurd (Q9 ((wc .y).mpr (.inr rfl))) h2
  |l=>exact absurd (Q9 ((zD .l).mpr rfl)) h3
  |k=>exact absurd (Q9 ((zi .k).mpr rfl)) h4
  |w=>exact absurd (Q9 ((zQ .w).mpr rfl)) h5
  |f=>exact absurd (Q9 ((zG .f).mpr rfl)) h6
  |a=>exact absurd (Q9 ((oA .a).mpr rfl)) h7
  |r=>exact absurd (Q9 ((nM .r).mpr rfl)) h8
 subst e
 exact q H (ae.refl H)
abbrev hV:Stmt:=top 43
abbrev eX:Stmt:=top 44
def rG:Sp:=λvs H Q _=>∃(v:V) (d:Dv) (G:Hp),vs=[v]/\ae G H/\Rep G d v/\Aq d/\∀(H':Hp)(l:Addr)(us:List V),ae H H'->H l=none->H' l=some (.lst us)->Reps G (bR d) us->Q (.ref l) H'
def okF:List So->List Dv->Bool
 |[],[]=>true
 |s::ss,d::ds=>vh s d&&okF ss ds
 |_,_=>false
def lB:List Dv->Bool
 |.str x::_::.str y::_=>decide (x≠y)
 |_=>false
def dG:Dv->Bool
 |.tup (.str w::ds)=>match WT.find? (λq=>decide (q.1=w))with
  |some p=>okF p.2.2 ds&&(decide (w≠"fold")||lB ds)
  |none=>false
 |_=>false
theorem uy{d:Dv}(h:dz d=false):dG d=false:=by
 match d,h with
 |.tup (.str x::r),h=>cases h
 |.tup [],_=>rfl
 |.tup (.non::r),_=>rfl
 |.tup (.bl _::r),_=>rfl
 |.tup (.int _::r),_=>rfl
 |.tup (.tup _::r),_=>rfl
 |.tup (.lst _::r),_=>rfl
 |.tup (.dct::r),_=>rfl
 |.non,_=>rfl
 |.bl _,_=>rfl
 |.int _,_=>rfl
 |.str _,_=>rfl
 |.lst _,_=>rfl
 |.dct,_=>rfl
theorem sk{x:Str}{ds:List Dv}(h:dq x=false):dG (.tup (.str x::ds))=false:=by
 have e:WT.find? (λq=>decide (q.1=x))=none:=by
  rw[Fj]
  intro p hp
  have:=Dt.mp h p hp
  exact this
 show(match WT.find? (λq=>decide (q.1=x))with|some p'=>okF p'.2.2 ds&&(decide (x≠"fold")||lB ds)|none=>false)=_
 rw[e]
theorem sA{x:Str}(h:dq x=true):∃p∈WT,p.1=x:=by
 obtain⟨p,hp,e⟩:=a_.mp h
 exact⟨p,hp,Q7 e⟩
theorem gr{p:Wd}(hp:p∈WT)(ds:List Dv):dG (.tup (.str p.1::ds))=(okF p.2.2 ds&&(decide (p.1≠"fold")||lB ds)):=by
 show(match WT.find? (λq=>decide (q.1=p.1))with|some p'=>okF p'.2.2 ds&&(decide (p.1≠"fold")||lB ds)|none=>false)=_
 rw[sw zA hp]
theorem mZ:∀{ss:List So}{ds:List Dv},okF ss ds=true->ds.length=ss.length
 |[],[],_=>rfl
 |s::ss,d::ds,h=>by
  simp only[okF,Θ]at h
  rw[ϒ,ϒ,mZ h.2]
 |[],_::_,h=>by cases h
 |_::_,[],h=>by cases h
theorem wR{ss:List So}{ds:List Dv}{i:Nat}{s:So}{d:Dv}(hs:ss[i]?=some s)(hd:ds[i]?=some d):okF (ss.drop i) (ds.drop i)=(vh s d&&okF (ss.drop (i+1)) (ds.drop (i+1))):=by
 obtain⟨h1,rfl⟩:=ο.mp hs
 obtain⟨h2,rfl⟩:=ο.mp hd
 rw[ϲ h1,ϲ h2]
 rfl
theorem rN{b:Int}{d:Dv}(h:gP b d=true):∃es,d=.tup es/\b<=(es.length:Int)/\es.length<=4:=by
 cases d with
 |tup es=>
  simp only[gP,Θ,decide_eq_true_eq]at h
  exact⟨es,rfl,h.1,()⟩
 |_=>cases h
theorem vL:∀{ss:List So}{ds:List Dv},okF ss ds=true->F2 (Fld (λ_=>True) (λ_ _=>True)) ss ds
 |[],[],_=>.nil
 |s::ss,d::ds,h=>by
  simp only[okF,Θ]at h
  refine .cons ?_ (vL h.2)
  cases s with
  |a=>obtain⟨es,rfl,_,h4⟩:=rN (b:=0) h.1;exact⟨es,rfl,h4,λ_ _=>trivial⟩
  |r=>obtain⟨es,rfl,h1,h4⟩:=rN (b:=1) h.1;exact⟨es,rfl,(),h4,λ_ _=>trivial⟩
  |e=>trivial
  |_=>trivial
 |[],_::_,h=>by cases h
 |_::_,[],h=>by cases h
theorem uO{d:Dv}(h:dG d=true):Aq d:=by
 match d,h with
 |.tup (.str x::ds),h=>
  cases hw:dq x with
  |false=>rw[sk hw]at h;cases h
  |true=>
   obtain⟨p,hp,rfl⟩:=sA hw
   rw[gr hp,Θ]at h
   exact⟨p,ds,hp,rfl,vL h.1⟩
 |.tup [],h=>cases h
 |.tup (.non::r),h=>cases h
 |.tup (.bl _::r),h=>cases h
 |.tup (.int _::r),h=>cases h
 |.tup (.tup _::r),h=>cases h
 |.tup (.lst _::r),h=>cases h
 |.tup (.dct::r),h=>cases h
 |.non,h=>cases h
 |.bl _,h=>cases h
 |.int _,h=>cases h
 |.str _,h=>cases h
 |.lst _,h=>cases h
 |.dct,h=>cases h
theorem CH{ds:List Dv}(h:ds.length=5):∃a b c d e,ds=[a,b,c,d,e]:=by
 match ds,h with
 |[a,b,c,d,e],_=>exact⟨a,b,c,d,e,rfl⟩
theorem xO:∀p∈WT,p.1="fold"->p.2.2=[.x,.l,.y,.e,.e]:=by decide +kernel
theorem oU{d:Dv}(h:bp d=true):∃x,d=.str x:=by
 cases d with
 |str x=>exact⟨x,rfl⟩
 |_=>cases h
theorem iu:am ["node","parts","sort","given"] ["node"] (ag eX):=by trivial
theorem oO{f gS:Addr}{fd:Ο}(F:Fun K "parts_of" "parts_of" eX f fd)(T:Txt K mg)(S:Shp P w K gS)(GS:mg "SHAPES"=some (.ref gS)):aG P w K mg base CX0 1 f fd ["node"] rG:=by
 have nd:=iu.nd
 refine F.ok iu (λvs H Q E h=>?_) (λcdv A outer s H vs Q E hr h=>?_)
 ·obtain⟨v,d,G,rfl,_⟩:=h
  rfl
 obtain⟨v,d,G,rfl,sG,R,⟨p,ds,hp,rfl,hf⟩,q⟩:=h
 obtain⟨kvs,FS,hS,_⟩:=S.ex
 obtain⟨a,vs,rfl,haG,rs⟩:=Rep.tup_inv R
 obtain⟨v0,ws,rfl,R0,rw'⟩:=cV rs
 have ha:=sG _ _ haG
 obtain rfl:v0=.str p.1:=R0
 obtain⟨b,hb,hbT⟩:=hS p hp
 have lds:=hf.length
 have lws:=rw'.length
 have h5:=sM p hp
 refine⟨_,(@un _ _ _ (wbO (wbM 1 nd rfl (Η rfl) (waM waf) rfl ()) (wbO (wbH ϛ rfl (wbs rfl T.zip (wae (wbu FS (waB (.ref gS) rfl GS rfl ()) (waD aj (wv 0 rfl) waC (λ_ _=>rfl)) (λ_ _=>rfl)) (wae (waT iM (wv 0 rfl) (wbA waC) wbz) waf rfl) rfl) rfl rfl) (wbb rfl (wbd (waZ 2 nd rfl (Η rfl) ()) (wbd (waZ 3 nd rfl (Η rfl) ()) wbe rfl) rfl) rfl rfl) (wbO (wbI (wbS aB (wv 2 rfl) waV (ah _)) (wbQ (wbG (waj Ι Ϣ ϣ bf (wv 1 rfl) (wae (wv 3 rfl) waf rfl) rfl rfl rfl rfl rfl) rfl)) wbP) (wbQ (wbI (wab (wbY (wbS aB (wv 2 rfl) waV (ah _)) (wbZ (wbS aB (wv 2 rfl) waV (ah _))))) (wbQ (wbG (waj Ι B_ C1 yW (wv 1 rfl) (wae (wv 3 rfl) waf rfl) rfl rfl rfl rfl rfl) rfl)) wbP))) ()) (wbQ (wbK (wv 1 rfl)))))),?_⟩
 symm
 refine⟨Ξ _,λl hl=>?_⟩
 have q1:=ac hl (.lst [])
 have l1:upd H l (.lst []) l=some (.lst []):=aa
 generalize upd H l (.lst [])=H1 at q1 l1⊢
 refine gnm ?_
 dsimp only
 refine⟨_,rfl,a,_,0,.str p.1,rfl,rfl,SqT.of (q1 _ _ ha),ad (j:=0) rfl,p.1,b,rfl,rfl,hb,?_⟩
 refine⟨_,rfl,1,rfl,?_⟩
 dsimp only[iO]
 refine sN (q1 _ _ ha) λH2 t s2 ht=>?_
 have ec:aH (V.str p.1::ws) (some 1) none=ws:=cD (V.str p.1::ws) 1
 rw[ec]at ht
 have s02:=q1.trans s2
 have l2:=s2 _ _ l1
 refine⟨b,t,rfl,⟨_,hbT _⟩,⟨_,SqT.of ht⟩,iy (D:={nx:=AS (ig 1) {nx:=λx H'=>Q V.non H',rt:=Q},rt:=Q}) (xs:=p.2.2.map λs=>V.str (srt s)) (ys:=ws) (λi σ H'=>∃(o2 o3:Option V) (us:List V),σ=[some (.ref a),some (.ref l),o2,o3]/\ae H H'/\H' t=some (.tup ws)/\H' l=some (.lst us)/\Reps G (bd (p.2.2.take i) (ds.take i)) us/\us.length<=4*i) ⟨_,_,[],rfl,s02,ht,l2,by simp[bd,Reps],ρ _⟩ (λi σ H' ⟨_,_,_,_,_,h,_⟩=>⟨hbT _,SqT.of h⟩) ?T1 ?_⟩
 case T1=>
  rintro i x y σ H3 t3 D1 gR gD hx hy ⟨o2,o3,us,rfl,s3,ht3,l3,R3,lu⟩ hp3
  rw[Ν]at hx
  obtain⟨so,hso,rfl⟩:=c6.mp hx
  have hi:i<p.2.2.length:=(ο.mp hso).1
  obtain⟨d,hd,hfd⟩:=hf.get hso
  obtain⟨y',hy',Ry⟩:=tQ rw' hd
  rw[hy]at hy'
  cases hy'
  have q4:=ac hp3 (.tup [.str (srt so),y])
  have ht4:upd H3 t3 (.tup [.str (srt so),y]) t3=some (.tup [.str (srt so),y]):=aa
  have s4:=s3.trans q4
  have l4:=q4 _ _ l3
  have t4:=q4 _ _ ht3
  generalize upd H3 t3 (.tup [.str (srt so),y])=H4 at ht4 s4 l4 t4⊢
  refine⟨t3,_,rfl,SqT.of ht4,rfl,_,_,rfl,_,_,rfl,rfl,?_⟩
  have put:∀(us':List V),Reps G (ptD so d) us'->us'.length<=4->(∃(o2 o3:Option V) (us2:List V),[some (V.ref a),some (.ref l),some (.str (srt so)),some y]=[some (.ref a),some (.ref l),o2,o3]/\ae H (upd H4 l (.lst (us++us')))/\upd H4 l (.lst (us++us')) t=some (.tup ws)/\upd H4 l (.lst (us++us')) l=some (.lst us2)/\Reps G (bd (p.2.2.take (i+1)) (ds.take (i+1))) us2/\us2.length<=4*(i+1)):=λus' Ru lu'=>by
   refine⟨_,_,us++us',rfl,λg o e=>?_,?_,aa,?_,by rw[χ];omega⟩
   ·rw[ai (af e hl)];exact s4 g o e
   ·rw[ai (λe=>by rw[e,l4]at t4;cases t4)];exact t4
   ·rw[kC _ _ _ hso hd]
    exact Reps.append R3 Ru
  have same:ptD so d=[]->(∃(o2 o3:Option V) (us2:List V),[some (V.ref a),some (.ref l),some (.str (srt so)),some y]=[some (.ref a),some (.ref l),o2,o3]/\ae H H4/\H4 t=some (.tup ws)/\H4 l=some (.lst us2)/\Reps G (bd (p.2.2.take (i+1)) (ds.take (i+1))) us2/\us2.length<=4*(i+1)):=λe=>by
   refine⟨_,_,us,rfl,s4,t4,l4,?_,()⟩
   rw[kC _ _ _ hso hd,e,c_]
   exact R3
  replace put:=λus' h1 h2=>gD _ _ (put us' h1 h2)
  replace same:=λe=>gD _ _ (same e)
  refine⟨_,rfl,rfl,_,rfl,aF (λh=>?_) (λh=>?_)⟩
  ·have e:=(zj so).mp (Q7 h)
   subst e
   refine⟨_,rfl,.inl ⟨rfl,_,SqL.of l4⟩,_,rfl,l,_,_,rfl,rfl,l4,by rw[ω];omega,?_⟩
   have fin:=put [y] (aK Ry) (by show 1<=4;decide)
   refine⟨_,rfl,rfl,_,rfl,aF (λh2=>absurd ((oA .e).mp (Q7 h2)) ()) (λ_=>⟨_,rfl,rfl,_,rfl,?_⟩)⟩
   rw[show decide (V.str (srt .e)=V.str "things")=false from Q8 λh2=>absurd ((nM .e).mp h2) ()]
   exact av fin
  ·have ne:so≠.e:=λe=>h (Q9 ((zj so).mpr e))
   by_cases har:so=.a\/so=.r
   ·obtain⟨es,rfl,l4e⟩:∃es,d=.tup es/\es.length<=4:=by
     rcases har with e|e
     ·subst e;obtain⟨es,h1,h2,_⟩:=hfd;exact⟨es,h1,h2⟩
     ·subst e;obtain⟨es,h1,_,h2,_⟩:=hfd;exact⟨es,h1,h2⟩
    have ek:ptD so (.tup es)=es:=by rcases har with e|e<;>subst e<;>rfl
    obtain⟨b2,zs,rfl,hb2,rz⟩:=Rep.tup_inv Ry
    have lz:=rz.length
    refine tnx ?_
    dsimp only
    refine Ag (au ?_) λqT=>?_
    ·refine⟨_,rfl,.inl ⟨rfl,_,SqL.of l4⟩,_,rfl,l,b2,_,zs,rfl,rfl,l4,SqT.of (s4 _ _ (sG _ _ hb2)),by rw[ω];omega,put zs (by rw[ek];exact rz) ()⟩
    ·rcases har with e|e
     ·exact⟨_,rfl,rfl,_,rfl,aF (λ_=>qT) (λh2=>absurd (Q9 ((oA so).mpr e)) h2)⟩
     ·refine⟨_,rfl,rfl,_,rfl,aF (λ_=>qT) (λ_=>⟨_,rfl,rfl,_,rfl,?_⟩)⟩
      rw[Q9 ((nM so).mpr e)]
      exact qT
   ·have na:so≠.a:=λe=>har (.inl e)
    have nr:so≠.r:=λe=>har (.inr e)
    refine tnx ⟨_,rfl,rfl,_,rfl,aF (λh2=>absurd ((oA so).mp (Q7 h2)) na) (λ_=>⟨_,rfl,rfl,_,rfl,?_⟩)⟩
    rw[show decide (V.str (srt so)=V.str "things")=false from Q8 λh2=>nr ((nM so).mp h2)]
    refine av (same ?_)
    cases so with
    |e=>exact absurd rfl ne
    |a=>exact absurd rfl na
    |r=>exact absurd rfl nr
    |_=>rfl
 rintro σ H3 ⟨o2,o3,us,rfl,s3,ht3,l3,R3,lu⟩
 refine⟨_,rfl,q H3 l us s3 hl l3 ?_⟩
 rw[ε,Dp (),ϔ,<-lds,ϔ]at R3
 rw[parts_of hp]
 exact R3
theorem jZ:am ["thing","shape","sort","given"] ["thing"] (ag hV):=by trivial
theorem qM{f gS:Addr}{fd:Ο}{k:Nat}(F:Fun K "is_node" "is_node" hV f fd)(T:Txt K mg)(S:Shp P w K gS)(GS:mg "SHAPES"=some (.ref gS))(Dhas_word:Def P w K mg base k "has_word" ["thing"] (spD dz))(Dfits:Def P w K mg base k "fits" ["sort","thing"] vM):aG P w K mg base CX0 (k+1) f fd ["thing"] (spS dG):=by
 have nd:=jZ.nd
 refine F.ok jZ (λvs H Q E h=>?_) (λcdv A outer s H vs Q E hr h=>?_)
 ·obtain⟨v,d,rfl,_⟩:=h
  rfl
 obtain⟨v,d,rfl,R,hsm,q⟩:=h
 obtain⟨kvs,FS,hS,hS2⟩:=S.ex
 refine⟨_,(@un _ _ _ (wbO (wbI (wab (wbY (wbT (wbV (waq Dhas_word hr rfl (wae (wv 0 rfl) waf rfl) () rfl rfl) ())) (wbZ (wbS (kx FS) (waD aj (wv 0 rfl) waC (λ_ _=>rfl)) (waB (.ref gS) rfl GS rfl ()) (by with_unfolding_all rfl))))) (wbQ (wbK wah)) wbP) (wbO (wbM 1 nd rfl (Η rfl) (wbu FS (waB (.ref gS) rfl GS rfl ()) (waD aj (wv 0 rfl) waC (λ_ _=>rfl)) (λ_ _=>rfl)) rfl ()) (wbO (wbI (wbS fL (wal ap rfl T.len () (wae (wv 0 rfl) waf rfl) () () rfl rfl) (waQ bv (wal ap rfl T.len () (wae (wv 1 rfl) waf rfl) () () rfl rfl) waC) (ah _)) (wbQ (wbK wah)) wbP) (wbO (wbH ϛ rfl (wbs rfl T.zip (wae (wv 1 rfl) (wae (waT iM (wv 0 rfl) (wbA waC) wbz) waf rfl) rfl) rfl rfl) (wbb rfl (wbd (waZ 2 nd rfl (Η rfl) ()) (wbd (waZ 3 nd rfl (Η rfl) ()) wbe rfl) rfl) rfl rfl) (wbQ (wbI (wbT (wbV (waq Dfits hr rfl (wae (wv 2 rfl) (wae (wv 3 rfl) waf rfl) rfl) () rfl rfl) ())) (wbQ (wbK wah)) wbP)) ()) (wbQ (wbK (waR (wap fL (waD aj (wv 0 rfl) waC (λ_ _=>rfl)) waV (ah _)) (waP (wap fL (waD aj (wv 0 rfl) waC (λ_ _=>rfl)) (waD aj (wv 0 rfl) waC (λ_ _=>rfl)) (ah _))))))))))),?_⟩
 symm
 refine⟨_,rfl,v,d,rfl,R,λH1 s1=>⟨_,rfl,?_⟩⟩
 cases c0:dz d with
 |false=>
  refine au (au ?_)
  have:=q H1 s1
  rwa[uy c0]at this
 |true=>
  refine av ?_
  obtain⟨x,ds,rfl⟩:=fm c0
  obtain⟨a,vs,rfl,ha,rs⟩:=Rep.tup_inv (R.mono s1)
  obtain⟨y,ws,rfl,R0,ru⟩:=cV rs
  obtain rfl:y=.str x:=R0
  have lws:=ru.length
  have hds:smalls ds=true:=by
   simp only[Dv.small,smalls,Θ]at hsm
   exact hsm.1.2
  refine⟨_,rfl,a,_,0,.str x,rfl,rfl,SqT.of ha,ad (j:=0) rfl,x,rfl,rfl,_,rfl,?_⟩
  rw[hS2 x]
  show if xor true (dq x)=true then _ else _
  cases hw:dq x with
  |false=>
   refine au ?_
   have:=q H1 s1
   rwa[sk hw]at this
  |true=>
   refine av ?_
   obtain⟨p,hp,rfl⟩:=sA hw
   obtain⟨b,hb,hbT⟩:=hS p hp
   have h5:=sM p hp
   refine⟨_,rfl,a,_,0,.str p.1,rfl,rfl,SqT.of ha,ad (j:=0) rfl,p.1,b,rfl,rfl,hb,?_⟩
   refine⟨_,rfl,a,_,rfl,.inr (SqT.of ha),_,rfl,b,_,rfl,.inr (hbT _),_,_,rfl,rfl,rfl,_,rfl,?_⟩
   by_cases hl:ds.length=p.2.2.length
   ·rw[show(!decide (V.int (((V.str p.1::ws).length:Nat):Int)=V.int ((((p.2.2.map λs=>V.str (srt s)).length:Nat):Int)+1)))=false by
     rw[ϒ,lws,hl,ε,show((p.2.2.length+1:Nat):Int)=(p.2.2.length:Int)+1 by omega,Q9 rfl];rfl]
    refine av ?_
    refine⟨_,rfl,_,rfl,1,rfl,?_⟩
    dsimp only[iO]
    refine sN ha λH2 t s2 ht=>?_
    have ec:aH (V.str p.1::ws) (some 1) none=ws:=cD (V.str p.1::ws) 1
    rw[ec]at ht
    have s02:=s1.trans s2
    refine⟨b,t,rfl,⟨_,hbT _⟩,⟨_,SqT.of ht⟩,iy (D:={nx:=AS (BZ (tOp rNe (tOp (xq K) (ig 0) (tC (V.int 0))) (tC (V.str (ξ "fold")))) (tOp rNe (tOp (xq K) (ig 0) (tC (V.int 1))) (tOp (xq K) (ig 0) (tC (V.int 3))))) {nx:=λx H'=>Q V.non H',rt:=Q},rt:=Q}) (xs:=p.2.2.map λs=>V.str (srt s)) (ys:=ws) (λi σ H'=>∃(o2 o3:Option V),σ=[some (.ref a),some (.ref b),o2,o3]/\ae H2 H'/\okF p.2.2 ds=okF (p.2.2.drop i) (ds.drop i)) ⟨_,_,rfl,ae.refl _,rfl⟩ (λi σ H' ⟨_,_,_,h,_⟩=>⟨hbT _,SqT.of (h _ _ ht)⟩) ?T1 ?_⟩
    case T1=>
     rintro i x y σ H3 t3 D1 gR gD hx hy ⟨o2,o3,rfl,s3,ok3⟩ hp3
     rw[Ν]at hx
     obtain⟨so,hso,rfl⟩:=c6.mp hx
     obtain⟨d,hd,Ry⟩:=ru.get hy
     have q4:=ac hp3 (.tup [.str (srt so),y])
     have ht4:upd H3 t3 (.tup [.str (srt so),y]) t3=some (.tup [.str (srt so),y]):=aa
     have s4:=s2.trans (s3.trans q4)
     have s24:=s3.trans q4
     generalize upd H3 t3 (.tup [.str (srt so),y])=H4 at ht4 s4 s24⊢
     refine⟨t3,_,rfl,SqT.of ht4,rfl,_,_,rfl,_,_,rfl,rfl,?_⟩
     refine⟨_,rfl,_,rfl,so,y,d,rfl,Ry.mono s4,cJ hds hd,λH5 s5=>⟨_,rfl,?_⟩⟩
     rw[wR hso hd]at ok3
     cases hfit:vh so d with
     |false=>
      refine au ?_
      have:=q H5 (s1.trans (s4.trans s5))
      rw[gr hp,ok3,hfit]at this
      exact gR _ _ this
     |true=>
      refine av (gD _ _ ⟨_,_,rfl,s24.trans s5,?_⟩)
      rw[ok3,hfit,ϧ]
    rintro σ H3 ⟨o2,o3,rfl,s3,ok3⟩
    have okk:okF p.2.2 ds=true:=by
     rw[ok3,ε,Dp (),F4,<-hl,F4]
     rfl
    have s23:=s2.trans s3
    have qq:=q H3 (s1.trans s23)
    rw[gr hp,okk,ϧ]at qq
    refine⟨_,rfl,a,_,0,.str p.1,rfl,rfl,SqT.of (s23 _ _ ha),ad (j:=0) rfl,rfl,_,rfl,?_⟩
    show if (!decide (V.str p.1=V.str "fold"))=true then _ else _
    rw[bu]
    by_cases hf:p.1="fold"
    ·rw[Q9 hf]
     refine av ?_
     have hss:=xO p hp hf
     rw[hss]at okk
     have l5:ds.length=5:=by rw[hl,hss];rfl
     obtain⟨d1,d2,d3,d4,d5,rfl⟩:=CH l5
     ·simp only[okF,vh,Θ]at okk
      obtain⟨x1,rfl⟩:=oU okk.1
      obtain⟨x3,rfl⟩:=oU okk.2.2.1
      obtain⟨u1,r1,rfl,R1,ru⟩:=cV ru
      obtain⟨u2,r2,rfl,R2,ru⟩:=cV ru
      obtain⟨u3,r3,rfl,R3,ru⟩:=cV ru
      obtain rfl:u1=.str x1:=R1
      obtain rfl:u3=.str x3:=R3
      refine⟨_,rfl,a,_,1,.str x1,rfl,rfl,SqT.of (s23 _ _ ha),ad (j:=1) rfl,_,rfl,a,_,3,.str x3,rfl,rfl,SqT.of (s23 _ _ ha),ad (j:=3) rfl,rfl,?_⟩
      show Q (.bl (!decide (V.str x1=V.str x3))) H3
      rw[bu]
      rw[show decide (p.1≠"fold")=false from Q8 (λz=>z hf),B6]at qq
      have e:lB [.str x1,d2,.str x3,d4,d5]=!decide (x1=x3):=by
       show decide (x1≠x3)=_
       by_cases h:x1=x3
       ·rw[Q9 h,Q8 (λz=>z h)];rfl
       ·rw[Q8 h,Q9 h];rfl
      rw[e]at qq
      exact qq
    ·rw[Q8 hf]
     refine au ?_
     rw[Q9 hf,Bool.true_or]at qq
     exact qq
   ·rw[show(!decide (V.int (((V.str p.1::ws).length:Nat):Int)=V.int ((((p.2.2.map λs=>V.str (srt s)).length:Nat):Int)+1)))=true by
     rw[Q8 λz=>hl (by injection z with z;rw[ϒ,lws,ε]at z;omega)];rfl]
    refine au ?_
    have:=q H1 s1
    rw[gr hp]at this
    cases ho:okF p.2.2 ds with
    |true=>exact absurd (mZ ho) hl
    |false=>rw[ho]at this;exact this
abbrev gN:Stmt:=top 45
def exN:Nat->Dv->Nat
 |0,_=>99
 |n+1,d=>if dG d=true then 1+((bR d).map (exN n)).sum else 99
def ou:Sp:=spS λd=>decide (exN 8 d<=40)
theorem xI(n:Nat)(d:Dv):1<=exN n d:=by
 cases n with
 |zero=>show 1<=99;decide
 |succ n=>unfold exN;split<;>omega
def prD(p:Dv×Nat):Dv:=.tup [p.1,.int p.2]
def jI(ws:List (Dv×Nat)):Nat:=(ws.map λp=>exN (8-p.2) p.1).sum
theorem nu(xs ys:List (Dv×Nat)):jI (xs++ys)=jI xs+jI ys:=by unfold jI;rw[τ,x9]
theorem qO{ds:List Dv}(h:smalls ds=true):∀d∈ds,d.small=true:=by
 induction ds with
 |nil=>intro d hd;cases hd
 |cons x ds ih=>
  simp only[smalls,Θ]at h
  intro d hd
  rcases μ.mp hd with rfl|hd
  ·exact h.1
  ·exact ih h.2 d hd
theorem cH{ds:List Dv}(h:(Dv.tup ds).small=true):∀d∈ds,d.small=true:=by
 simp only[Dv.small,Θ]at h
 exact qO h.1
theorem iz{d:Dv}(h:d.small=true):∀e∈tf d,e.small=true:=by
 cases d with
 |tup ds=>exact cH h
 |_=>intro e he;cases he
theorem lA:∀(ss:List So)(ds:List Dv),(∀d∈ds,d.small=true)->∀e∈bd ss ds,e.small=true
 |[],_,_,e,he=>by simp[bd]at he
 |_::_,[],_,e,he=>by simp[bd]at he
 |s::ss,d::ds,h,e,he=>by
  rcases ϖ.mp (show e∈ptD s d++bd ss ds from he)with h1|h1
  ·cases s with
   |e=>rw[θ.mp h1];exact h d Δ
   |a=>exact iz (h d Δ) e h1
   |r=>exact iz (h d Δ) e h1
   |_=>cases h1
  ·exact lA ss ds (λx hx=>h x (υ _ hx)) e h1
theorem oz{d:Dv}(h:d.small=true):∀e∈bR d,e.small=true:=by
 match d,h with
 |.tup (.str w::ds),h=>exact lA _ ds λx hx=>cH h x (υ _ hx)
 |.tup [],_=>intro e he;cases he
 |.tup (.non::r),_=>intro e he;cases he
 |.tup (.bl _::r),_=>intro e he;cases he
 |.tup (.int _::r),_=>intro e he;cases he
 |.tup (.tup _::r),_=>intro e he;cases he
 |.tup (.lst _::r),_=>intro e he;cases he
 |.tup (.dct::r),_=>intro e he;cases he
 |.non,_=>intro e he;cases he
 |.bl _,_=>intro e he;cases he
 |.int _,_=>intro e he;cases he
 |.str _,_=>intro e he;cases he
 |.lst _,_=>intro e he;cases he
 |.dct,_=>intro e he;cases he
theorem ox{d:Dv}(h:Aq d):(bR d).length<=4:=by
 obtain⟨p,ds,hp,rfl,hf⟩:=h
 rw[XB.parts_of hp]
 exact Ϙ (eG hf).2 (xT p hp)
theorem jW:am ["thing","count","waiting","found","node","above"] ["thing"] (ag gN):=by trivial
theorem qS{f:Addr}{fd:Ο}{k:Nat}(F:Fun K "is_expression" "is_expression" gN f fd)(T:Txt K mg)(Dis_node:Def P w K mg base k "is_node" ["thing"] (spS dG))(Dparts_of:Def P w K mg base k "parts_of" ["node"] rG):aG P w K mg base CX0 (k+1) f fd ["thing"] ou:=by
 have nd:=jW.nd
 refine F.ok jW (λvs H Q E h=>?_) (λcdv A outer s H vs Q E hr h=>?_)
 ·obtain⟨v,d,rfl,_⟩:=h
  rfl
 obtain⟨v,d,rfl,R,hsm,q⟩:=h
 replace q:∀(H':Hp),ae H H'->Q (V.bl (decide (exN 8 d<=40))) H':=q
 refine⟨_,(@un _ _ _ (wbO (wbM 1 nd rfl (Η rfl) waC rfl ()) (wbO (wbM 2 nd rfl (Η rfl) (waM (wae (waX (wae (wv 0 rfl) (wae waC waf rfl) rfl)) waf rfl)) rfl ()) (wbO (wbN ϛ (wbU (wv 2 rfl) (λ_=>rfl)) (wbO (wbM 3 nd rfl (Η rfl) (wak Ι k_ l8 jc (wv 2 rfl) rfl rfl) rfl ()) (wbO (wbM 4 nd rfl (Η rfl) (waD aj (wv 3 rfl) waC (λ_ _=>rfl)) rfl ()) (wbO (wbM 5 nd rfl (Fi rfl) (waD aj (wv 3 rfl) waC (λ_ _=>rfl)) rfl ()) (wbO (wbE 1 nd rfl (Η rfl) waC wt ()) (wbO (wbI (wab (wbY (wbS fQ (wv 1 rfl) ⟨T.g_MOST_NODES rfl⟩ (ah _)) (wbY (wbS fQ (wv 5 rfl) ⟨T.g_MOST_ABOVE rfl⟩ (ah _)) (wbZ (wbT (wbV (waq Dis_node hr rfl (wae (wv 4 rfl) waf rfl) () rfl rfl) ())))))) (wbQ (wbK wah)) wbP) (wbQ (wbG (waj Ι B_ C1 ic (wv 2 rfl) (wae (waE ["part"] [5] (wbi (waq Dparts_of hr rfl (wae (wv 4 rfl) waf rfl) () rfl rfl)) (.of rfl) rfl (λ_ _ _=>⟨pg_name (i:=0) (bE (l:=["part","above"]) (()) rfl) rfl (Η rfl)⟩) (bH ()) (λ_ _ _=>wbx) (λ_ _ _=>(waX (wae (wv 0 rfl) (wae (waQ bv (wv 1 rfl) waC) waf rfl) rfl))) ()) waf rfl) rfl rfl rfl rfl rfl) rfl)))))))) (wbQ (wbK wah)))))),?_⟩
 symm
 refine⟨_,rfl,z2,λt0 ht0=>⟨z1,λW1 hW=>?_⟩⟩
 have q0:=ac ht0 (.tup [v,.int 0])
 have q1:=ac hW (.lst [.ref t0])
 have r0:Rep (upd H t0 (.tup [v,.int 0])) (prD (d,0)) (.ref t0):=by
  unfold prD
  rw[Rep]
  exact⟨t0,_,rfl,aa,by simp only[Reps];exact⟨_,_,rfl,R.mono q0,_,_,rfl,by simp only[Rep];rfl,rfl⟩⟩
 refine oq (λm σ H'=>∃(o3 o4 o5:Option V) (cnt:Nat) (ws:List (Dv×Nat)) (vs:List V),σ=[some v,some (.int cnt),some (.ref W1),o3,o4,o5]/\ae H (aX H' W1)/\H' W1=some (.lst vs)/\Reps (aX H' W1) (ws.map prD) vs/\(∀p∈ws,p.1.small=true/\p.2<=8)/\(cnt+jI ws<=40↔exN 8 d<=40)/\m=40-cnt/\cnt<=40/\ws.length<=1+4*cnt) 40
  ⟨_,_,_,0,[(d,0)],[.ref t0],rfl,q0.trans (gf q1 hW),aa,aK (r0.mono (gf q1 hW)),λp hp=>by rw[θ.mp hp];exact⟨hsm,Ξ _⟩,by simp[jI],rfl,(),ρ _⟩ ?_ fz
 rintro m σ H1 D1 gR gD ⟨o3,o4,o5,cnt,ws,vs,rfl,s1,w1,R1,sm,eq,rfl,c40,lw⟩
 have s01:ae H H1:=s1.trans bD
 refine⟨_,rfl,_,.inl ⟨vs,SqL.of w1,rfl⟩,?_⟩
 by_cases ne:ws=[]
 ·subst ne
  have e:vs=[]:=by simpa only[Ϫ,Reps]using R1
  subst e
  refine av ?_
  have:=q H1 s01
  rw[Q9 (eq.mp (by simpa[jI]using c40))]at this
  exact this
 ·obtain⟨w0,x,rfl⟩:=fV ne
  rw[τ]at R1
  obtain⟨v0,u,rfl,Ra,Ru⟩:=cC R1
  have e:(!(v0++[u]).isEmpty)=true:=by simp
  rw[e]
  refine au ?_
  rw[nu]at eq
  have wx:jI [x]=exN (8-x.2) x.1:=by simp[jI]
  rw[wx]at eq
  rw[χ,ϥ]at lw
  obtain⟨smx,x8⟩:=sm x ()
  refine⟨_,rfl,.inl ⟨rfl,_,SqL.of w1⟩,W1,_,_,rfl,rfl,w1,dH _ _,?_⟩
  rw[B5]
  have t2:ae (aX H1 W1) (aX (upd H1 W1 (.lst v0)) W1):=mT
  have w2:upd H1 W1 (.lst v0) W1=some (.lst v0):=aa
  have s02:ae H _:=s1.trans (t2.trans bD)
  generalize upd H1 W1 (.lst v0)=H2 at t2 w2 s02⊢
  obtain⟨t,us,rfl,ht,ru⟩:=Rep.tup_inv (show Rep (aX H1 W1) (.tup [x.1,.int x.2]) u from Ru)
  obtain⟨y,z,rfl,Ry,Rz⟩:=Reps.two ru
  obtain rfl:z=.int x.2:=Rz
  have ht2:=bD _ _ (t2 _ _ ht)
  have xp:=xI (8-x.2) x.1
  refine⟨_,rfl,t,_,0,y,rfl,rfl,SqT.of ht2,ad (j:=0) rfl,?_⟩
  refine⟨_,rfl,t,_,1,.int x.2,rfl,rfl,SqT.of ht2,ad (j:=1) rfl,?_⟩
  refine⟨_,rfl,_,_,rfl,rfl,?_⟩
  refine⟨_,rfl,_,_,rfl,rfl,_,rfl,?_⟩
  refine aF (λh=>?_) (λh=>?_)
  ·have h':(40:Int)<(cnt:Int)+1:=Q7 h
   have:=q H2 s02
   rw[Q8 (λz=>by have:=eq.mpr z;omega)]at this
   exact au (gR _ _ this)
  have h':cnt+1<=40:=by have z:¬ ((40:Int)<(cnt:Int)+1):=of_decide_eq_false (DD.mpr h);omega
  refine⟨_,rfl,_,_,rfl,rfl,_,rfl,?_⟩
  refine aF (λh2=>?_) (λh2=>?_)
  ·have h2':(7:Int)<(x.2:Int):=Q7 h2
   have:=q H2 s02
   rw[Q8 (λz=>by
    have:=eq.mpr z
    rw[show 8-x.2=0 by omega]at this
    have e99:exN 0 x.1=99:=rfl
    omega)]at this
   exact au (gR _ _ this)
  have h2':x.2<=7:=by have z:¬ ((7:Int)<(x.2:Int)):=of_decide_eq_false (DD.mpr h2);omega
  obtain⟨j,hj⟩:∃j,8-x.2=j+1:=⟨7-x.2,()⟩
  refine⟨_,rfl,y,x.1,rfl,Ry.mono (t2.trans bD),smx,λH3 s3=>⟨_,rfl,?_⟩⟩
  have s03:=s02.trans s3
  cases c:dG x.1 with
  |false=>
   have:=q H3 s03
   rw[Q8 (λz=>by
    have:=eq.mpr z
    have e99:exN (8-x.2) x.1=99:=by rw[hj];unfold exN;rw[c];rfl
    omega)]at this
   exact au (gR _ _ this)
  |true=>
   refine av ?_
   have w3:=s3 _ _ w2
   have t3:=t2.trans (bx (l:=W1) s3)
   have hW3:H3 W1≠none:=by rw[w3];exact nofun
   have nn:=uO c
   have p4:=ox nn
   have exj:exN (8-x.2) x.1=1+((bR x.1).map (exN j)).sum:=by rw[hj];show(if dG x.1=true then _ else _)=_;rw[c];rfl
   refine tnx ⟨_,rfl,.inl ⟨rfl,_,SqL.of w3⟩,_,rfl,y,x.1,aX H3 W1,rfl,bD,Ry.mono t3,nn,λH4 l ks s4 hl h4 R4=>⟨l,rfl,⟨_,SqL.of h4⟩,rR (xs:=ks) (λi ys H'=>ae H4 H'/\Reps (aX H' W1) (((bR x.1).take i).map λe=>prD (e,x.2+1)) ys) ⟨ae.refl _,by simp[Reps]⟩ (λi ys H' _ p=>SqL.of (p.1 _ _ h4)) ?_ ?_⟩⟩
   ·rintro i ys H5 pv hpv ⟨s5,R5⟩
    obtain⟨e,he,Re⟩:=R4.get hpv
    have hi:i<(bR x.1).length:=(ο.mp he).1
    refine bJ ⟨_,rfl,_,rfl,_,_,rfl,rfl,z2,λp hp=>⟨?_,s5.trans (ac hp _),?_⟩⟩
    ·rw[R5.length,ε,Φ,ω];omega
    ·have hW5:H5 W1≠none:=by rw[s5 _ _ (s4 _ _ w3)];exact nofun
     obtain⟨e1,e2⟩:=tw (o:=.tup [pv,.int ((x.2:Int)+1)]) hW5 hp
     rw[ϗ,he,τ]
     refine Reps.append (R5.mono e2) ?_
     refine aK (show Rep _ (.tup [e,.int ((x.2+1:Nat):Int)]) (.ref p)from ?_)
     rw[Rep]
     refine⟨p,_,rfl,e1,?_⟩
     simp only[Reps]
     exact⟨_,_,rfl,(Re.mono (bx (s4.trans s5))).mono e2,_,_,rfl,by simp only[Rep];rfl,rfl⟩
   ·rintro ys H5 ⟨s5,R5⟩ r hr'
    have q6:=ac hr' (.lst ys)
    have lk:=R4.length
    rw[lk,ϔ]at R5
    have lys:=R5.length
    rw[ε]at lys
    have w5:=q6 _ _ (s5 _ _ (s4 _ _ w3))
    have lv:=Ra.length
    rw[ε]at lv
    refine⟨W1,r,_,_,rfl,rfl,w5,aa,by rw[ω];omega,?_⟩
    have hW5:H5 W1≠none:=by rw[s5 _ _ (s4 _ _ w3)];exact nofun
    have t6:ae (aX H5 W1) (aX (upd (upd H5 r (.lst ys)) W1 (.lst (v0++ys))) W1):=(bx q6).trans mT
    have t16:=t3.trans ((bx (s4.trans s5)).trans t6)
    refine gD (40-(cnt+1)) _ _ () ⟨_,_,_,cnt+1,w0++(bR x.1).map λe=>(e,x.2+1),v0++ys,rfl,s1.trans t16,aa,?_,?_,?_,rfl,h',?_⟩
    ·rw[τ]
     refine Reps.append (Ra.mono t16) ?_
     rw[ύ]
     exact R5.mono t6
    ·intro p hp
     rcases ϖ.mp hp with h1|h1
     ·exact sm p (i7 _ h1)
     ·obtain⟨e,he,rfl⟩:=Ζ.mp h1
      exact⟨oz smx e he,by show x.2+1<=8;omega⟩
    ·rw[<-eq,nu,exj]
     have e7:jI ((bR x.1).map λe=>(e,x.2+1))=((bR x.1).map (exN j)).sum:=by
      unfold jI
      rw[ύ]
      congr 1
      refine C3 λe _=>?_
      show exN (8-(x.2+1)) e=exN j e
      rw[show 8-(x.2+1)=j by omega]
     rw[e7]
     constructor<;>intro z<;>omega
    ·rw[χ,ε];omega
theorem BR{x:Str}:aU (.tup [.str x])=if x="whole" then 1 else 99:=by
 rw[size_eq]
 show(if decide (x="whole")=true then 1+((kids x ([]:List Dv)).map aU).sum else 99)=_
 unfold kids
 simp
theorem CS{x:Str}{l:Dv}:aU (.tup [.str x,l])=if x="place"/\slD l=true then 1 else 99:=by
 rw[size_eq]
 show(if (decide (x="place")&&slD l)=true then 1+((kids x [l]).map aU).sum else 99)=_
 by_cases z:x="place"/\slD l=true
 ·rw[Q0 z,z.2,z.1,Q9 rfl,FM,Q0 rfl,kids,Q6 w4,Q6 w5];rfl
 ·rw[Q6 z,Q6 λq=>z (by simpa using q)]
theorem Cq{x:Str}{a b:Dv}:aU (.tup [.str x,a,b])=if x="pair" then 1+aU a+aU b else if x="row"/\slD a=true then 1+aU b else 99:=by
 rw[size_eq]
 show(if ((decide (x="row")&&slD a)||decide (x="pair"))=true then 1+((kids x [a,b]).map aU).sum else 99)=_
 by_cases h:x="pair"
 ·subst h
  rw[Q9 rfl,Bool.or_true,Q0 rfl,Q0 rfl,kids,Q6 (Ϗ w6),Q0 rfl]
  simp[Nat.add_assoc]
 ·rw[Q8 h,FL,Q6 h]
  by_cases z:x="row"/\slD a=true
  ·rw[Q0 z,z.2,z.1,Q9 rfl,FM,Q0 rfl,kids,Q0 rfl];simp
  ·rw[Q6 z,Q6 λq=>z (by simpa using q)]
def SL(c:Int)(ps:List Pr):Prop:=slD (aY c ps)=true/\(aY c ps).small=true
theorem nA:∀{ps:List Pr}{l:Str},ps.Pairwise (λp q=>p.1.cps.toList<q.1.cps.toList)->(∀p∈ps,1<=p.2)->(∀p∈ps,nmB p.1=true)->(∀p∈ps,l.cps.toList<p.1.cps.toList)->goD l (aE ps)=true
 |[],_,_,_,_,_=>rfl
 |p::ps,l,h1,h2,h3,h4=>by
  have e:aE (p::ps)=.tup [.str p.1,.int p.2]::aE ps:=rfl
  rw[e,goD]
  have h1':=List.pairwise_cons.mp h1
  show(eL _&&(decide (l.cps.toList<p.1.cps.toList)&&goD p.1 (aE ps)))=true
  rw[nA h1'.2 (λq hq=>h2 q (υ _ hq)) (λq hq=>h3 q (υ _ hq)) (λq hq=>h1'.1 q hq)]
  show((nmB p.1&&(true&&decide (1<=p.2)))&&(decide (l.cps.toList<p.1.cps.toList)&&true))=true
  rw[h3 p Δ,Q9 (h2 p Δ),Q9 (h4 p Δ)]
  rfl
theorem gB:∀{ps:List Pr},(∀p∈ps,p.1.cps.size<=8)->smalls (aE ps)=true
 |[],_=>rfl
 |p::ps,h=>by
  simp only[aE,ό,smalls,Dv.small,Θ,decide_eq_true_eq]
  refine⟨⟨⟨by have:=h p Δ;omega,trivial,trivial⟩,()⟩,gB λq hq=>h q (υ _ hq)⟩
theorem mw{x:Str}(h:nmB x=true):1<=x.cps.size/\x.cps.size<=8:=by
 unfold nmB at h
 simp only[Θ,decide_eq_true_eq]at h
 exact h.1
theorem we{x:Str}(h:nmB x=true):(ξ "").cps.toList<x.cps.toList:=by
 have:=(mw h).1
 have e:(ξ "").cps.toList=[]:=by decide +kernel
 rw[e]
 cases hx:x.cps.toList with
 |nil=>
  have:x.cps.toList.length=x.cps.size:=by simp
  rw[hx]at this;simp at this;omega
 |cons c cs=>exact List.nil_lt_cons c cs
theorem qj{c:Int}{ps:List Pr}(c0:0<=c)(c1:c<=99)(can:rm ps)(hl:ps.length<=900)(hn':∀p∈ps,nmB p.1=true/\p.2<=99):SL c ps:=by
 constructor
 ·show((true&&(decide (0<=c)&&goD "" (aE ps)))&&(decide (c<=99)&&(aE ps).all λp=>decide (fD p<=99)))=true
  rw[nA can.1 can.2 (λp hp=>(hn' p hp).1) (λp hp=>we (hn' p hp).1),Q9 c0,Q9 c1]
  rw[show((aE ps).all λp=>decide (fD p<=99))=true by
   rw[e_]
   intro d hd
   obtain⟨p,hp,rfl⟩:=Ζ.mp hd
   exact Q9 (hn' p hp).2]
  rfl
 ·have h8:∀p∈ps,p.1.cps.size<=8:=λp hp=>(mw (hn' p hp).1).2
  have h1:=gB h8
  have h2:(Dv.tup (aE ps)).small=true:=by
   simp only[Dv.small,h1,ϧ]
   exact Q9 (by rw[show(aE ps).length=ps.length from ε _];omega)
  show(Dv.tup [.int c,.tup (aE ps)]).small=true
  simp only[Dv.small,smalls]at h2⊢
  simp only[h2,ϧ,FM]
  rfl
theorem bo{ds:List Dv}(h:∀d∈ds,d.small=true)(hl:ds.length<=1000):(Dv.tup ds).small=true:=by
 have:∀ds:List Dv,(∀d∈ds,d.small=true)->smalls ds=true:=by
  intro ds
  induction ds with
  |nil=>intro _;rfl
  |cons d ds ih=>intro h;simp only[smalls,Θ];exact⟨h d Δ,ih λe he=>h e (υ _ he)⟩
 simp only[Dv.small,this ds h,ϧ]
 exact Q9 hl
theorem fH:∀{k:Kd},k.All SL->k.dv.small=true
 |.whole,_=>by decide +kernel
 |.place c ps,h=>bo (λd hd=>by
   rcases μ.mp hd with rfl|hd
   ·decide +kernel
   ·rw[θ.mp hd];exact h.2) (by show 2<=1000;decide)
 |.row c ps k,h=>bo (λd hd=>by
   rcases μ.mp hd with rfl|hd
   ·decide +kernel
   ·rcases μ.mp hd with rfl|hd
    ·exact h.1.2
    ·rw[θ.mp hd];exact fH h.2) (by show 3<=1000;decide)
 |.pair i j,h=>bo (λd hd=>by
   rcases μ.mp hd with rfl|hd
   ·decide +kernel
   ·rcases μ.mp hd with rfl|hd
    ·exact fH h.1
    ·rw[θ.mp hd];exact fH h.2) (by show 3<=1000;decide)
theorem iT:∀{k:Kd},k.All SL->aU k.dv=k.size
 |.whole,_=>by show aU (.tup [.str "whole"])=1;rw[BR,Q0 rfl]
 |.place c ps,h=>by show aU (.tup [.str "place",aY c ps])=1;rw[CS,Q0 ⟨rfl,h.1⟩]
 |.row c ps k,h=>by show aU (.tup [.str "row",aY c ps,k.dv])=k.size+1;rw[Cq,Q6 w6,Q0 ⟨rfl,h.1.1⟩,iT h.2];omega
 |.pair i j,h=>by show aU (.tup [.str "pair",i.dv,j.dv])=i.size+j.size+1;rw[Cq,Q0 rfl,iT h.1,iT h.2];omega
abbrev lF:Stmt:=top 59
abbrev mS:Stmt:=top 60
theorem le4:4<=sizeLine:=by rw[ω];decide
def Dr(H:Hp)(a:Addr)(n:Nat):Prop:=∃ns:List Int,H a=some (.lst (ns.map V.int))/\ns.length=n/\∀x∈ns,0<=x/\x<10^14
theorem Dr.b{H H':Hp}{a b:Addr}{n:Nat}(h:Dr H a n)(s:aD b H H')(ne:a≠b):Dr H' a n:=let ⟨i,e,r⟩:=h;⟨i,s _ _ ne e,r⟩
theorem Dr.m{H H':Hp}{a:Addr}{n:Nat}(h:Dr H a n)(s:ae H H'):Dr H' a n:=let ⟨i,e,r⟩:=h;⟨i,s _ _ e,r⟩
theorem Dr.tups{H H':Hp}{a:Addr}{n:Nat}(h:Dr H a n)(s:aD a H H'):bS H H':=let ⟨_,e,_⟩:=h;s.tups e
theorem Dr.some{H:Hp}{a:Addr}{n:Nat}(h:Dr H a n):H a≠none:=let ⟨_,e,_⟩:=h;λz=>by rw[e]at z;cases z
def mX(K:ζ):Sp:=λvs H Q _=>∃(c:Addr) (m:Int) (cells:List Int),vs=[.ref c,.int m]/\SqL K H c (cells.map V.int)/\1<=cells.length/\cells.length<=9/\0<=m/\m<=1000/\∀(H':Hp)(a:Addr),ae H H'->H a=none->Dr H' a m.toNat->Q (.ref a) H'
def fB:Sp:=λvs H Q _=>∃(a:Addr) (n:Nat),vs=[.ref a]/\Dr H a n/\∀(H':Hp)(x:Int),aD a H H'->Dr H' a (n-1)->0<=x->x<10^14->Q (.int x) H'
theorem ph:am ["_law_cells","_law_many","_law_rests","_law_found","_law_k","_law_j","_law_number"] ["_law_cells","_law_many"] (ag lF):=by trivial
theorem uY{f:Addr}{fd:Ο}(F:Fun K "_law_draws" "_law_draws" lF f fd)(T:Txt K mg):aG P w K mg base CX0 1 f fd ["_law_cells","_law_many"] (mX K):=by
 have nd:=ph.nd
 refine F.ok ph (λvs H Q E h=>?_) (λcdv A outer s H vs Q E hr h=>?_)
 ·obtain⟨c,m,cells,rfl,_⟩:=h
  rfl
 obtain⟨c,m,cells,rfl,hS,l0,l9,m0,m1,q⟩:=h
 refine⟨_,(@un _ _ _ (wbO (wbJ ["_law_cell"] [] 2 nd rfl rfl (wbi (wv 0 rfl)) (.of rfl) rfl (λ_ _ _=>⟨pg_name (i:=0) (bE (l:=["_law_cell"]) (()) rfl) rfl (Η rfl)⟩) (bH ()) (λ_ _ _=>wbx) (λ_ _ _=>(waQ cG (wv 0 rfl) waC)) rfl ()) (wbO (wbM 3 nd rfl (Η rfl) (waM waf) rfl ()) (wbO (wbH ϛ rfl (wbk rfl T.range (wae (wv 1 rfl) waf rfl) rfl) (waZ 4 nd rfl (Η rfl) ()) (wbO (wbM 5 nd rfl (Η rfl) (waQ aA (wv 4 rfl) (wal ap rfl T.len () (wae (wv 0 rfl) waf rfl) () () rfl rfl)) rfl ()) (wbQ (wbI (wab (wbW (wbS aB (waQ aA (waD aJ (wv 0 rfl) (wv 5 rfl) (λ_ _=>rfl)) waC) waC (ah _)) (wbX (wbS fQ (waD aJ (wv 2 rfl) (wv 5 rfl) (λ_ _=>rfl)) waC (ah _))))) (wbO (wbG (waj Ι Ϣ ϣ bf (wv 3 rfl) (wae (waQ aA (waD aJ (wv 2 rfl) (wv 5 rfl) (λ_ _=>rfl)) (waQ mK waC waC)) waf rfl) rfl rfl rfl rfl rfl) rfl) (wbQ (wbD (waQ cG (waD aJ (wv 2 rfl) (wv 5 rfl) (λ_ _=>rfl)) (waQ mK waC waC)) (wba (wv 2 rfl) (wv 5 rfl) pD ()) rfl rfl rfl))) (wbO (wbM 6 nd rfl (Η rfl) (waQ aA (waQ jb (waQ bv (waQ bv (waQ aA (waD aJ (wv 0 rfl) (wv 5 rfl) (λ_ _=>rfl)) (waQ mK waC waC)) (waQ jb waC (wv 4 rfl))) waC) waC) waC) rfl ()) (wbQ (wbG (waj Ι Ϣ ϣ bf (wv 3 rfl) (wae (waQ aA (waQ jb (waQ jb (wv 6 rfl) (wv 6 rfl)) waC) waC) waf rfl) rfl rfl rfl rfl rfl) rfl)))))) ()) (wbQ (wbK (wbw (wv 3 rfl) (wbA (waY jr waC))))))))),?_⟩
 symm
 have p14:ya 10 14:=⟨(),(),()⟩
 have p30:ya 10 30:=⟨(),(),()⟩
 refine⟨_,rfl,c,rfl,⟨_,hS⟩,rR (xs:=cells.map V.int) (λi ys H'=>H'=H/\∃rs:List Int,ys=rs.map V.int/\rs.length=i) ⟨rfl,[],rfl,rfl⟩ (λi ys H' _ p=>by rw[p.1];exact hS) ?_ ?_⟩
 ·rintro i ys H' x hx ⟨rfl,rs,rfl,lr⟩
  have hi:i<9:=by have:=(ο.mp hx).1;rw[ε]at this;omega
  rw[Ν]at hx
  obtain⟨y,_,rfl⟩:=c6.mp hx
  refine bJ ⟨_,rfl,_,_,rfl,rfl,⟨(),()⟩,?_,rfl,rs++[y/2],(),by simp[lr]⟩
  rw[ε,ω];omega
 rintro ys H1 ⟨rfl,rs,rfl,lr⟩ R hR
 rw[ε]at lr
 refine⟨Ξ _,λFo hF=>?_⟩
 have q1:=ac hR (.lst (rs.map V.int))
 have q2:=ac hF (.lst [])
 have hRF:R≠Fo:=af (aa (H:=H1) (a:=R) (o:=.lst (rs.map V.int))) hF
 have hFn:H1 Fo=none:=q1.free hF
 have e1:=q2 _ _ (aa (H:=H1) (a:=R) (o:=.lst (rs.map V.int)))
 have e2:upd (upd H1 R (.lst (rs.map V.int))) Fo (.lst []) Fo=some (.lst []):=aa
 have s2:=q1.trans q2
 generalize upd (upd H1 R (.lst (rs.map V.int))) Fo (.lst [])=H2 at e1 e2 s2⊢
 refine⟨_,rfl,m,rfl,(),(),iA (n:=m.toNat) (λi σ H'=>∃(o4 o5 o6:Option V) (rs ns:List Int),σ=[some (.ref c),some (.int m),some (.ref R),some (.ref Fo),o4,o5,o6]/\ae H1 H'/\H' R=some (.lst (rs.map V.int))/\rs.length=cells.length/\H' Fo=some (.lst (ns.map V.int))/\ns.length=i/\∀x∈ns,0<=x/\x<10^14) ⟨_,_,_,rs,[],rfl,s2,e1,lr,e2,rfl,()⟩ ?T1 ?_⟩
 case T1=>
  rintro i σ H3 D1 gD hi ⟨o4,o5,o6,rs,ns,rfl,s3,r3,lr,f3,ln,hb⟩
  have ci:∃y,atI (cells.map V.int) ((0+(i:Int))%((cells.map V.int).length:Int))=some (.int y)/\True:=by
   obtain⟨b0,b1⟩:=aL (a:=(0+(i:Int))) ((cells.map V.int).length:Int) (by rw[ε];omega)
   rw[ε]at b0 b1⊢
   obtain⟨v,hv⟩:=gb (ns:=cells) b0 b1
   exact⟨v,hv,trivial⟩
  have ri:∃y,atI (rs.map V.int) ((0+(i:Int))%((cells.map V.int).length:Int))=some (.int y):=by
   obtain⟨b0,b1⟩:=aL (a:=(0+(i:Int))) ((cells.map V.int).length:Int) (by rw[ε];omega)
   rw[ε]at b0 b1⊢
   exact gb (ns:=rs) b0 ()
  have rn:∃j,ixN (rs.map V.int).length ((0+(i:Int))%((cells.map V.int).length:Int))=some j:=by
   obtain⟨b0,b1⟩:=aL (a:=(0+(i:Int))) ((cells.map V.int).length:Int) (by rw[ε];omega)
   rw[ε]at b0 b1
   rw[ε,ε]
   refine⟨((0+(i:Int))%(cells.length:Int)).toNat,?_⟩
   unfold ixN
   rw[Q0 b0,Q0 ()]
  obtain⟨y,hy,_⟩:=ci
  obtain⟨z,hz⟩:=ri
  obtain⟨j,hj⟩:=rn
  refine⟨_,rfl,_,rfl,c,_,rfl,.inl (s3.seq hS),_,_,rfl,rfl,?_,?_⟩
  ·show(0:Int)<((cells.map V.int).length:Int)
   rw[ε];omega
  refine gnm ?_
  dsimp only
  generalize (0+(i:Int))%((cells.map V.int).length:Int)=jj at hy hz hj
  have hRc:∀(H':Hp) ,aD R H3 H'->ae H1 H':=λH' s g o e=>s g o (af e hR) (s3 g o e)
  refine rW True (λ_=>au ?TT) (av ?EE) (λqT qF=>⟨_,rfl,_,rfl,c,_,jj,.int y,rfl,rfl,s3.seq hS,hy,_,_,rfl,rfl,(by show(0:Int)<2;decide),rfl,_,rfl,aF (λ_=>⟨_,rfl,_,rfl,R,_,jj,.int z,rfl,rfl,SqL.of r3,hz,_,_,rfl,rfl,_,rfl,(by generalize decide ((0:Int)<z)=b;cases b;exact qF;exact qT trivial)⟩) (λ_=>qF)⟩)
  case TT=>
   have m1:=aL (a:=z) ((10:Int)^(14:Int).toNat) ()
   refine⟨_,rfl,.inl ⟨rfl,_,SqL.of f3⟩,_,rfl,_,rfl,R,_,jj,.int z,rfl,rfl,SqL.of r3,hz,_,_,rfl,rfl,p14,_,_,rfl,rfl,(by show(0:Int)<10^(14:Int).toNat;decide),Fo,_,_,rfl,rfl,f3,by rw[ε,ω];omega,?_⟩
   have r4:upd H3 Fo (.lst (ns.map V.int++[.int (z%10^(14:Int).toNat)])) R=some (.lst (rs.map V.int)):=by rw[ai hRF];exact r3
   refine⟨_,rfl,_,rfl,R,_,jj,.int z,rfl,rfl,SqL.of r4,hz,_,_,rfl,rfl,p14,_,_,rfl,rfl,⟨(),()⟩,_,rfl,_,rfl,R,_,jj,j,rfl,rfl,r4,hj,?_⟩
   refine gD _ _ ⟨_,_,_,rs.set j (z/10^(14:Int).toNat),ns++[z%10^(14:Int).toNat],rfl,λg o e=>?_,?_,?_,?_,?_,?_⟩
   ·rw[ai (af e hR),ai (af e hFn)];exact s3 g o e
   ·rw[aa,F9]
   ·rw[EU];exact lr
   ·rw[ai (Ϗ hRF),aa,τ];rfl
   ·rw[χ,ln];rfl
   ·intro x hx
    rcases ϖ.mp hx with h|h
    ·exact hb x h
    ·rw[θ.mp h];exact m1
  case EE=>
   refine⟨_,rfl,_,rfl,c,_,jj,.int y,rfl,rfl,s3.seq hS,hy,_,_,rfl,rfl,p30,_,_,rfl,rfl,(by show(0:Int)<10^(30:Int).toNat;decide),_,rfl,_,_,rfl,rfl,.inl ⟨(),()⟩,_,_,rfl,rfl,_,_,rfl,rfl,_,_,rfl,rfl,.inr ⟨(),()⟩,_,_,rfl,rfl,(by show(0:Int)<2147483647;decide),?_⟩
   obtain⟨u0,u1⟩:=aL (a:=(y%10^(30:Int).toNat+7919*(0+(i:Int))+3)*69621) 2147483647 ()
   refine gnm ?_
   dsimp only
   generalize (y%10^(30:Int).toNat+7919*(0+(i:Int))+3)*69621%2147483647=u at u0 u1
   obtain⟨v0,v1⟩:=aL (a:=u*u*48271) 99999999999973 ()
   refine⟨_,rfl,.inl ⟨rfl,_,SqL.of f3⟩,_,rfl,_,rfl,_,_,rfl,rfl,.inl ⟨(),()⟩,_,_,rfl,rfl,.inr ⟨(),()⟩,_,_,rfl,rfl,(by show(0:Int)<99999999999973;decide),Fo,_,_,rfl,rfl,f3,by rw[ε,ω];omega,?_⟩
   refine gD _ _ ⟨_,_,_,rs,ns++[u*u*48271%99999999999973],rfl,λg o e=>?_,?_,lr,?_,?_,?_⟩
   ·rw[ai (af e hFn)];exact s3 g o e
   ·rw[ai hRF];exact r3
   ·rw[aa,τ];rfl
   ·rw[χ,ln];rfl
   ·intro x hx
    rcases ϖ.mp hx with h|h
    ·exact hb x h
    ·rw[θ.mp h];exact⟨v0,()⟩
 rintro σ H3 ⟨o4,o5,o6,rs,ns,rfl,s3,r3,lr,f3,ln,hb⟩
 refine⟨_,rfl,1,rfl,_,rfl,Fo,_,rfl,rfl,SqL.of f3,λp hp=>?_⟩
 have q3:=ac hp (.lst (ns.map V.int).reverse)
 refine q _ p (s3.trans q3) (s3.free hp) ⟨ns.reverse,by rw[aa,DU],by rw[Ϯ];exact ln,λx hx=>hb x (List.mem_reverse.mp hx)⟩
theorem yi:am ["_law_draws_here"] ["_law_draws_here"] (ag mS):=by trivial
theorem yw{f:Addr}{fd:Ο}(F:Fun K "_law_next" "_law_next" mS f fd)(T:Txt K mg):aG P w K mg base CX0 1 f fd ["_law_draws_here"] fB:=by
 refine F.ok yi (λvs H Q E h=>?_) (λcdv A outer s H vs Q E hr h=>?_)
 ·obtain⟨a,n,rfl,_⟩:=h
  rfl
 obtain⟨a,n,rfl,⟨ns,ha,ln,hb⟩,q⟩:=h
 have huL:(A.deeper (u6 "_law_next" (ag mS) s.heap.objs.size f cdv)).units<cLine:=Ej (o0 _ 150) (cK hr)
 refine⟨_,(@un _ _ _ (wbO (wbI (wbS (lG huL) (wv 0 rfl) (waM waf) (ah _)) (wbQ (wbK waC)) wbP) (wbQ (wbK (wak Ι k_ l8 jc (wv 0 rfl) rfl rfl))))),?_⟩
 symm
 refine⟨_,rfl,Ξ _,λe he=>⟨a,e,_,rfl,rfl,SqL.of (ac he _ _ _ ha),SqL.of aa,_,rfl,?_⟩⟩
 have q1:=ac he (.lst [])
 generalize upd H e (.lst [])=H1 at q1⊢
 have h1:=q1 _ _ ha
 by_cases c:ns=[]
 ·subst c
  refine au (q H1 0 (ae.b a q1) ⟨[],h1,by rw[<-ln];rfl,()⟩ () ())
 ·obtain⟨n0,x,rfl⟩:=fV c
  rw[show(FW V.int (n0++[x])).isEmpty=false by simp]
  refine av ⟨_,rfl,.inl ⟨rfl,_,SqL.of h1⟩,a,_,.int x,rfl,rfl,h1,by rw[τ];exact dH _ _,?_⟩
  obtain⟨x0,x1⟩:=hb x ()
  refine q _ x ((ae.b a q1).trans (aD.upd _ _ _)) ⟨n0,?_,?_,λy hy=>hb y (i7 _ hy)⟩ x0 x1
  ·rw[aa,τ,ό,Ϫ,B5]
  ·rw[<-ln,χ,ϥ];rfl
abbrev lO:Stmt:=top 61
def zB(x:Str):Prop:=∃j,1<=j/\x.cps.toList[j]?=some 122
structure Nms(xs:List Str):Prop where
 len:xs.length=5
 nm:∀x∈xs,nmB x=true
 nd:xs.Nodup
 z:∀x∈xs,zB x
def nmf(pre post:Str)(t:Int)(k:Nat):Str:=pre++⟨#[97+((t+5*(k:Int))%26).toNat]⟩++ξ "z" ++ post
theorem AX:(ξ "z").cps.toList=[122]:=by decide +kernel
theorem oR(pre post:Str)(t:Int)(k:Nat):(nmf pre post t k).cps.toList=pre.cps.toList++((97+((t+5*(k:Int))%26).toNat)::122::post.cps.toList):=by
 unfold nmf
 rw[DZ,DZ,DZ,AX]
 simp
theorem Aa:Az (ξ "z") 1:=⟨by rw[AX];rfl,λc hc=>by rw[AX,θ]at hc;rw[hc];rfl⟩
theorem jD(t:Int):azB (97+(t%26).toNat)=true:=by
 obtain⟨b0,b1⟩:=aL (a:=t) 26 ()
 unfold azB
 rw[Q9 (),Q9 ()]
 rfl
theorem xZ{pre post:Str}{n m:Nat}(h1:Az pre n)(h2:Az post m)(h6:n+m<=6)(t:Int):Nms ((ϋ 5).map (nmf pre post t)):=by
 refine⟨rfl,λx hx=>?_,?_,λx hx=>?_⟩
 ·obtain⟨k,_,rfl⟩:=Ζ.mp hx
  exact BP (ii (ii (ii h1 (ju (jD _))) Aa) h2) () ()
 ·have inj:∀i j:Nat,i<5->j<5->nmf pre post t i=nmf pre post t j->i=j:=λi j hi hj e=>by
   have e1:=congrArg (λx:Str=>x.cps.toList) e
   simp only[oR]at e1
   have e2:=List.append_cancel_left e1
   injection e2 with e3 _
   obtain⟨b0,b1⟩:=aL (a:=t+5*(i:Int)) 26 ()
   obtain⟨c0,c1⟩:=aL (a:=t+5*(j:Int)) 26 ()
   omega
  rw[DR]
  refine Eb.map (R:=λi j=>i<5/\j<5/\i≠j) _ (λi j h e=>h.2.2 (inj i j h.1 h.2.1 e)) ?_
  decide
 ·obtain⟨k,_,rfl⟩:=Ζ.mp hx
  refine⟨n+1,(),?_⟩
  rw[oR,A2 (by rw[h1.1];omega),h1.1]
  simp
theorem rM{i:Int}(h0:0<=i)(h1:i<26):atI (ξ "abcdefghijklmnopqrstuvwxyz").cps.toList i=some (97+i.toNat):=by
 have h:∀j,j<26->(ξ "abcdefghijklmnopqrstuvwxyz").cps.toList[j]?=some (97+j):=by decide +kernel
 have q:=ad (h i.toNat ())
 rwa[show((i.toNat:Nat):Int)=i by omega]at q
def rY:Sp:=λvs H Q _=>∃c:Int,vs=[.int c]/\0<=c/\∀(H':Hp)(r:Addr)(xs:List Str),ae H H'->H r=none->H' r=some (.lst (xs.map V.str))->Nms xs->Q (.ref r) H'
theorem oj:am ["_law_cell","_law_some","_law_stem","_law_k","_law_at"] ["_law_cell"] (ag lO):=by trivial
theorem vI{f:Addr}{fd:Ο}(F:Fun K "_law_names" "_law_names" lO f fd)(T:Txt K mg):aG P w K mg base CX0 1 f fd ["_law_cell"] rY:=by
 have nd:=oj.nd
 refine F.ok oj (λvs H Q E h=>?_) (λcdv A outer s H vs Q E hr h=>?_)
 ·obtain⟨c,rfl,_⟩:=h
  rfl
 obtain⟨c,rfl,c0,q⟩:=h
 refine⟨_,(@un _ _ _ (wbO (wbM 1 nd rfl (Fi rfl) waV rfl ()) (wbO (wbM 2 nd rfl (Fi rfl) waV rfl ()) (wbO (wbH ϛ rfl (wbk rfl T.range (wae (waQ aA (wv 0 rfl) waC) waf rfl) rfl) (waZ 3 nd rfl (Η rfl) ()) (wbQ (wbM 2 nd rfl (Fi rfl) (waQ bA (wv 2 rfl) (waD qh (wv 1 rfl) (waQ aA (waQ cG (wv 0 rfl) (waD aJ (waM (wae waC (wae waC (wae waC (wae waC (wae waC (wae waC waf rfl) rfl) rfl) rfl) rfl) rfl)) (wv 3 rfl) (λ_ _=>rfl))) waC) (λ_ _=>rfl))) rfl ())) ()) (wbO (wbM 4 nd rfl (Fi rfl) (waQ aA (waQ cG (wv 0 rfl) waC) (waQ bv (wal fG rfl T.len () (wae (wv 2 rfl) waf rfl) () () rfl rfl) waC)) rfl ()) (wbQ (wbK (waE ["_law_k"] ([0,1,2,4]) (wbk rfl T.range (wae waC waf rfl) rfl) (.of rfl) rfl (λ_ _ _=>⟨pg_name (i:=0) (bE (l:=["_law_k","_law_cell","_law_some","_law_stem","_law_at"]) (()) rfl) rfl (Η rfl)⟩) (bH ()) (λ_ _ _=>wbx) (λ_ _ _=>(waQ bA (waQ bA (waQ bA (waT vQ (wv 3 rfl) wbz (wbA (wv 4 rfl))) (waD qh (wv 2 rfl) (waQ aA (waQ bv (waQ cG (wv 1 rfl) waC) (waQ jb waC (wv 0 rfl))) waC) (λ_ _=>rfl))) waV) (waT vQ (wv 3 rfl) (wbA (wv 4 rfl)) wbz))) ())))))))),?_⟩
 have abc:(ξ "abcdefghijklmnopqrstuvwxyz").length<=sizeLine:=by rw[ω];decide +kernel
 obtain⟨m0,m1⟩:=aL (a:=c) 7 ()
 refine⟨_,rfl,_,_,rfl,rfl,(by show(0:Int)<7;decide),_,rfl,(),(),iA (n:=(c%7).toNat) (λi σ H'=>∃(stem:Str) (o3:Option V),σ=[some (.int c),some (.str "abcdefghijklmnopqrstuvwxyz"),some (.str stem),o3,none]/\ae H H'/\Az stem i) ⟨_,_,rfl,ae.refl _,wX⟩ ?T1 ?_⟩
 case T1=>
  rintro i σ H2 D1 gD hi ⟨stem,o1,rfl,s2,az⟩
  have h6:∃d,atI [V.int 7,.int 182,.int 4732,.int 123032,.int 3198832,.int 83169632] (0+(i:Int))=some (.int d)/\0<d/\d<10^60:=by
   have e:i=0\/i=1\/i=2\/i=3\/i=4\/i=5:=by omega
   rcases e with e|e|e|e|e|e<;>subst e
   ·exact⟨_,rfl,(),()⟩
   ·exact⟨_,rfl,(),()⟩
   ·exact⟨_,rfl,(),()⟩
   ·exact⟨_,rfl,(),()⟩
   ·exact⟨_,rfl,(),()⟩
   ·exact⟨_,rfl,(),()⟩
  obtain⟨d,hd,d0,d1⟩:=h6
  obtain⟨b0,b1⟩:=aL (a:=c/d) 26 ()
  refine⟨_,rfl,_,rfl,_,rfl,(by show 6<=sizeLine;rw[ω];decide),λp hp=>⟨_,rfl,p,_,_,.int d,rfl,rfl,SqL.of aa,hd,_,_,rfl,rfl,⟨d0,d1⟩,_,_,rfl,rfl,(by show(0:Int)<26;decide),_,_,_,rfl,rfl,abc,rM b0 b1,_,_,rfl,rfl,?_,?_⟩⟩
  ·rw[az.len,(ju (jD _)).len,ω];omega
  ·exact gD _ _ ⟨_,_,rfl,s2.trans (ac hp _),ii az (ju (jD _))⟩
 rintro σ H2 ⟨stem,o1,rfl,s2,az⟩
 have ln:=az.len
 have stl:stem.length<=sizeLine:=by rw[ln,ω];omega
 refine⟨_,rfl,_,_,rfl,rfl,⟨(),()⟩,_,rfl,_,rfl,stl,_,_,rfl,rfl,_,_,rfl,rfl,(by show(0:Int)<(stem.length:Int)+1;omega),?_⟩
 obtain⟨y0,y1⟩:=aL (a:=c/2162410432) ((stem.length:Int)+1) ()
 refine gnm ?_
 dsimp only
 generalize c/2162410432%((stem.length:Int)+1)=y at y0 y1
 have at1:y<=(c%7).toNat:=by rw[ln]at y1;omega
 have zf:=ye az y0 at1
 have zt:=Ca az y0 at1
 refine⟨_,rfl,(),(),wL (lo:=0) (n:=5) (λi ys H'=>H'=H2/\ys=((ϋ i).map (nmf (Txt.slice stem none (some y)) (Txt.slice stem (some y) none) (c/15136873024))).map V.str) ⟨rfl,rfl⟩ ?_ ?_⟩
 ·rintro i ys H5 hi ⟨rfl,rfl⟩
  obtain⟨b0,b1⟩:=aL (a:=c/15136873024+5*((0:Int)+(i:Int))) 26 ()
  have e1:=ii zt (ju (jD (c/15136873024+5*((0:Int)+(i:Int)))))
  have e2:=ii e1 Aa
  refine bJ ⟨_,rfl,_,rfl,_,rfl,_,rfl,stl,_,rfl,_,rfl,_,_,rfl,rfl,⟨(),()⟩,_,rfl,_,_,rfl,rfl,.inl ⟨(),()⟩,_,_,rfl,rfl,_,_,rfl,rfl,(by show(0:Int)<26;decide),_,_,_,rfl,rfl,abc,rM b0 b1,_,_,rfl,rfl,?_,_,_,rfl,rfl,?_,_,rfl,_,rfl,_,rfl,_,rfl,stl,_,_,rfl,rfl,?_,?_,rfl,?_⟩
  ·rw[zt.len,(ju (jD _)).len,ω];omega
  ·rw[e1.len,Aa.len,ω];omega
  ·rw[e2.len,zf.len,ω];omega
  ·rw[ε,ε,FK,ω];omega
  ·rw[Dm,τ,τ]
   rw[show(0:Int)+(i:Int)=(i:Int) by omega]
   rfl
 ·rintro ys H5 ⟨rfl,rfl⟩ r hr'
  exact q _ r _ (s2.trans (ac hr' _)) (s2.free hr') aa (xZ zt zf () _)
abbrev dC:Stmt:=top 28
abbrev fb:Stmt:=top 30
abbrev dR:Stmt:=top 31
def pH:Sp:=λvs H Q _=>∃(v:V) (k:Kd),vs=[v]/\Rep H k.dv v/\∀(H':Hp)(l:Addr)(us:List V),ae H H'->H l=none->H' l=some (.lst us)->Reps H' (k.kids.map Kd.dv) us->Q (.ref l) H'
def sC:Sp:=λvs H Q _=>∃(v:V) (k:Kd),vs=[v]/\Rep H k.dv v/\∀u,Rep H (ux k.len?) u->Q u H
def kK(fT:Addr):Sp:=λvs H Q _=>∃(v:V) (k:Kd),vs=[v,.ref fT]/\Rep H k.dv v/\k.size<=40/\∀(H':Hp)(l:Addr)(us:List V),ae H H'->H l=none->H' l=some (.lst us)->Reps H' (k.pts.map Kd.dv) us->Q (.ref l) H'
def jz:Sp:=λvs H Q _=>∃(v:V) (k:Kd),vs=[v]/\Rep H k.dv v/\k.size<=40/\∀(H':Hp)(l:Addr)(us:List V),ae H H'->H l=none->H' l=some (.lst us)->Reps H' (k.pts.map Kd.dv) us->Q (.ref l) H'
theorem mj:am ["point"] ["point"] (ag bY):=by trivial
theorem mU{f:Addr}{fd:Ο}(F:Fun K "things_of" "things_of" bY f fd)(T:Txt K mg):aG P w K mg base CX0 1 f fd ["point"] pH:=by
 refine F.ok mj (λvs H Q E h=>?_) (λcdv A outer s H vs Q E hr h=>?_)
 ·obtain⟨v,k,rfl,_⟩:=h
  rfl
 obtain⟨v,k,rfl,R,q⟩:=h
 refine⟨_,(@un _ _ _ (wbO (wbI (wbS aB (waD aj (wv 0 rfl) waC (λ_ _=>rfl)) waV (ah _)) (wbQ (wbK (waM (wae (waD aj (wv 0 rfl) waC (λ_ _=>rfl)) waf rfl)))) wbP) (wbO (wbI (wbS aB (waD aj (wv 0 rfl) waC (λ_ _=>rfl)) waV (ah _)) (wbQ (wbK (waM (wae (waD aj (wv 0 rfl) waC (λ_ _=>rfl)) (wae (waD aj (wv 0 rfl) waC (λ_ _=>rfl)) waf rfl) rfl)))) wbP) (wbQ (wbK (waM waf)))))),?_⟩
 symm
 obtain⟨a,vs,rfl,ha,hv⟩:=Kd.inv R
 refine⟨_,rfl,a,_,0,.str k.word,rfl,rfl,SqT.of ha,ad (j:=0) rfl,rfl,_,rfl,?_⟩
 cases k with
 |whole=>
  refine aF (λh=>absurd (Q7 h) (wne Ce)) (λ_=>⟨_,rfl,a,_,0,.str "whole",rfl,rfl,SqT.of ha,ad (j:=0) rfl,rfl,_,rfl,aF (λh=>absurd (Q7 h) (wne Da)) (λ_=>⟨Ξ _,λl hl=>?_⟩)⟩)
  exact q _ l [] (ac hl _) hl aa (by simp only[Kd.kids,Ϫ,Reps])
 |place c ps=>
  refine aF (λh=>absurd (Q7 h) (wne BN)) (λ_=>⟨_,rfl,a,_,0,.str "place",rfl,rfl,SqT.of ha,ad (j:=0) rfl,rfl,_,rfl,aF (λh=>absurd (Q7 h) (wne BG)) (λ_=>⟨Ξ _,λl hl=>?_⟩)⟩)
  exact q _ l [] (ac hl _) hl aa (by simp only[Kd.kids,Ϫ,Reps])
 |row c ps j=>
  obtain⟨l1,u,rfl,_,Ru⟩:=hv
  refine aF (λ_=>⟨_,rfl,a,_,2,u,rfl,rfl,SqT.of ha,ad (j:=2) rfl,z1,λl hl=>?_⟩) (λh=>absurd (Q9 rfl) h)
  exact q _ l [u] (ac hl _) hl aa (aK (Ru.mono (ac hl _)))
 |pair i j=>
  obtain⟨u,w',rfl,Ru,Rw⟩:=hv
  refine aF (λh=>absurd (Q7 h) (wne (Ϗ Cm))) (λ_=>⟨_,rfl,a,_,0,.str "pair",rfl,rfl,SqT.of ha,ad (j:=0) rfl,rfl,_,rfl,aF (λ_=>⟨_,rfl,a,_,1,u,rfl,rfl,SqT.of ha,ad (j:=1) rfl,_,rfl,a,_,2,w',rfl,rfl,SqT.of ha,ad (j:=2) rfl,z2,λl hl=>?_⟩) (λh=>absurd (Q9 rfl) h)⟩)
  exact q _ l [u,w'] (ac hl _) hl aa (Reps.append (aK (Ru.mono (ac hl _))) (aK (Rw.mono (ac hl _))))
theorem mJ:am ["point"] ["point"] (ag dC):=by trivial
theorem lU{f:Addr}{fd:Ο}(F:Fun K "length_at" "length_at" dC f fd)(T:Txt K mg):aG P w K mg base CX0 1 f fd ["point"] sC:=by
 refine F.ok mJ (λvs H Q E h=>?_) (λcdv A outer s H vs Q E hr h=>?_)
 ·obtain⟨v,k,rfl,_⟩:=h
  rfl
 obtain⟨v,k,rfl,R,q⟩:=h
 refine⟨_,(@un _ _ _ (wbO (wbI (wab (wbY (wbS aB (waD aj (wv 0 rfl) waC (λ_ _=>rfl)) waV (ah _)) (wbZ (wbS aB (waD aj (wv 0 rfl) waC (λ_ _=>rfl)) waV (ah _))))) (wbQ (wbK (waD aj (wv 0 rfl) waC (λ_ _=>rfl)))) wbP) (wbQ (wbK waN)))),?_⟩
 symm
 obtain⟨a,vs,rfl,ha,hv⟩:=Kd.inv R
 refine⟨_,rfl,a,_,0,.str k.word,rfl,rfl,SqT.of ha,ad (j:=0) rfl,rfl,_,rfl,?_⟩
 cases k with
 |whole=>
  refine aF (λh=>absurd (Q7 h) (wne Cu)) (λ_=>⟨_,rfl,a,_,0,.str "whole",rfl,rfl,SqT.of ha,ad (j:=0) rfl,rfl,_,rfl,aF (λh=>absurd (Q7 h) (wne Ce)) (λ_=>?_)⟩)
  exact q .non (by simp only[Kd.len?,ux,Rep])
 |place c ps=>
  obtain⟨l1,rfl,Rl⟩:=hv
  exact aF (λ_=>au ⟨_,rfl,a,_,1,l1,rfl,rfl,SqT.of ha,ad (j:=1) rfl,q l1 Rl⟩) (λh=>absurd (Q9 rfl) h)
 |row c ps j=>
  obtain⟨l1,u,rfl,Rl,Ru⟩:=hv
  refine aF (λh=>absurd (Q7 h) (wne (Ϗ BN))) (λ_=>⟨_,rfl,a,_,0,.str "row",rfl,rfl,SqT.of ha,ad (j:=0) rfl,rfl,_,rfl,aF (λ_=>⟨_,rfl,a,_,1,l1,rfl,rfl,SqT.of ha,ad (j:=1) rfl,q l1 Rl⟩) (λh=>absurd (Q9 rfl) h)⟩)
 |pair i j=>
  refine aF (λh=>absurd (Q7 h) (wne (Ϗ BG))) (λ_=>⟨_,rfl,a,_,0,.str "pair",rfl,rfl,SqT.of ha,ad (j:=0) rfl,rfl,_,rfl,aF (λh=>absurd (Q7 h) (wne (Ϗ Cm))) (λ_=>?_)⟩)
  exact q .non (by simp only[Kd.len?,ux,Rep])
theorem iE:am ["whole","parts_of","points","waiting","point"] ["whole","parts_of"] (ag fb):=by trivial
theorem nS{f fT:Addr}{fd fdT:Ο}{k0:Nat}(F:Fun K "in_order" "in_order" fb f fd)(T:Txt K mg)(FV:aG P w K mg base CX0 k0 fT fdT ["point"] pH)(KV:v_ K (.ref fT)=true)(BV:cf K fdT ["point"] []):aG P w K mg base CX0 (k0+1) f fd ["whole","parts_of"] (kK fT):=by
 have nd:=iE.nd
 refine F.ok iE (λvs H Q E h=>?_) (λcdv A outer s H vs Q E hr h=>?_)
 ·obtain⟨v,k,rfl,_⟩:=h
  rfl
 obtain⟨v,k,rfl,R,k40,q⟩:=h
 refine⟨_,(@un _ _ _ (wbO (wbM 2 nd rfl (Η rfl) (waM waf) rfl ()) (wbO (wbM 3 nd rfl (Η rfl) (waM (wae (wv 0 rfl) waf rfl)) rfl ()) (wbO (wbN ϛ (wbU (wv 3 rfl) (λ_=>rfl)) (wbO (wbM 4 nd rfl (Η rfl) (wak Ι k_ l8 jc (wv 3 rfl) rfl rfl) rfl ()) (wbO (wbG (waj Ι Ϣ ϣ bf (wv 2 rfl) (wae (wv 4 rfl) waf rfl) rfl rfl rfl rfl rfl) rfl) (wbQ (wbG (waj Ι B_ C1 ic (wv 3 rfl) (wae (waF rfl T.list rfl T.reversed rfl (wan 1 FV hr KV BV (wae (wv 4 rfl) waf rfl) rfl () () () rfl rfl) rfl rfl) waf rfl) rfl rfl rfl rfl rfl) rfl))))) (wbQ (wbK (wv 2 rfl))))))),?_⟩
 symm
 refine⟨Ξ _,λP1 hP=>?_⟩
 refine⟨_,rfl,z1,λW1 hW=>?_⟩
 have q1:=ac hP (.lst [])
 have q2:=ac hW (.lst [v])
 have hPW:P1≠W1:=af (aa (H:=H) (a:=P1) (o:=.lst [])) hW
 have hWn:H W1=none:=q1.free hW
 refine rX (λm σ H'=>∃(o4:Option V) (dn ws:List Kd) (us vs:List V),σ=[some v,some (.ref fT),some (.ref P1),some (.ref W1),o4]/\ae H H'/\H' P1=some (.lst us)/\H' W1=some (.lst vs)/\Reps H' (dn.map Kd.dv) us/\Reps H' (ws.map Kd.dv) vs/\k.pts=dn++ws.reverse.flatMap Kd.pts/\m=(ws.map Kd.size).sum/\m<=40) k.size
  ⟨_,[],[k],[],[v],rfl,q1.trans q2,q2 _ _ aa,aa,by simp only[Ϫ,Reps],aK ((R.mono q1).mono q2),(),(),k40⟩ ?_ fz
 rintro m σ H1 ⟨o4,dn,ws,us,vs,rfl,s1,p1,w1,R1,R2,ep,rfl,m40⟩
 refine⟨_,rfl,_,.inl ⟨vs,SqL.of w1,rfl⟩,?_⟩
 have ldn:us.length<=40:=by
  have h1:=R1.length
  have h2:=congrArg List.length ep
  rw[Kd.pts_len,χ]at h2
  rw[ε]at h1
  omega
 by_cases ne:ws=[]
 ·subst ne
  have e:vs=[]:=by simpa only[Ϫ,Reps]using R2
  subst e
  refine av ⟨_,rfl,q H1 P1 us s1 hP p1 ?_⟩
  rw[ep]
  simpa using R1
 ·obtain⟨w0,x,rfl⟩:=fV ne
  rw[τ]at R2
  obtain⟨v0,u,rfl,Ra,Ru⟩:=cC R2
  have e:(!(v0++[u]).isEmpty)=true:=by simp
  rw[e]
  refine au ?_
  have lv0:v0.length<=40:=by
   have h1:=Ra.length
   rw[ε]at h1
   have h2:∀l:List Kd,l.length<=(l.map Kd.size).sum:=by
    intro l
    induction l with
    |nil=>simp
    |cons y l ih=>rw[ϒ,ό,EQ];have:=y.size_pos;omega
   have h3:=h2 w0
   rw[τ,x9]at m40
   omega
  refine⟨_,rfl,.inl ⟨rfl,_,SqL.of w1⟩,W1,_,_,rfl,rfl,w1,dH _ _,?_⟩
  rw[B5]
  have s2:=aD.upd H1 W1 (.lst v0)
  have w2:upd H1 W1 (.lst v0) W1=some (.lst v0):=aa
  have p2:=s2 _ _ hPW p1
  have t2:bS H1 _:=s2.tups w1
  generalize upd H1 W1 (.lst v0)=H2 at s2 w2 p2 t2⊢
  refine⟨_,rfl,.inl ⟨rfl,_,SqL.of p2⟩,_,rfl,P1,_,_,rfl,rfl,p2,by rw[ω];omega,?_⟩
  have s3:=aD.upd H2 P1 (.lst (us++[u]))
  have p3:upd H2 P1 (.lst (us++[u])) P1=some (.lst (us++[u])):=aa
  have w3:=s3 _ _ (Ϗ hPW) w2
  have t3:bS H1 _:=t2.trans (s3.tups p2)
  generalize upd H2 P1 (.lst (us++[u]))=H3 at s3 p3 w3 t3⊢
  refine⟨_,rfl,.inl ⟨rfl,_,SqL.of w3⟩,rfl,_,rfl,u,x,rfl,Kd.tupS t3 Ru,λH4 l ks s4 hl h4 R4=>⟨l,ks,rfl,SqL.of h4,λa ha=>?_⟩⟩
  have s5:=s4.trans (ac ha (.lst ks.reverse))
  have lks:ks.length<=2:=by
   have h1:=R4.length
   rw[ε]at h1
   rw[h1]
   cases x<;>simp[Kd.kids]
  refine⟨W1,a,_,_,rfl,rfl,s5 _ _ w3,aa,by rw[Ϯ,ω];omega,?_⟩
  have R5:Reps (upd H4 a (.lst ks.reverse)) (x.kids.reverse.map Kd.dv) ks.reverse:=by
   have R4':=R4.mono (ac ha (.lst ks.reverse))
   cases x with
   |whole=>simp only[Kd.kids,Ϫ,Reps]at R4'⊢;subst R4';simp[Kd.kids,Reps]
   |place c ps=>simp only[Kd.kids,Ϫ,Reps]at R4'⊢;subst R4';simp[Kd.kids,Reps]
   |row c ps j=>
    simp only[Kd.kids,ό,Ϫ,Reps]at R4'
    obtain⟨y,r,rfl,hy,rfl⟩:=R4'
    exact aK hy
   |pair i j=>
    simp only[Kd.kids,ό,Ϫ,Reps]at R4'
    obtain⟨y,r,rfl,hy,z,r2,rfl,hz,rfl⟩:=R4'
    exact Reps.append (aK hz) (aK hy)
  have s6:=aD.upd (upd H4 a (.lst ks.reverse)) W1 (.lst (v0++ks.reverse))
  have t6:bS H1 _:=t3.trans ((ae.tups s5).trans (s6.tups (s5 _ _ w3)))
  refine⟨_,?_,_,dn++[x],w0++x.kids.reverse,us++[u],v0++ks.reverse,rfl,?_,s6 _ _ hPW (s5 _ _ p3),aa,?_,?_,?_,rfl,?_⟩
  ·rw[τ,x9,τ,x9]
   have h1:=x.size_kids
   have h2:(x.kids.reverse.map Kd.size).sum=(x.kids.map Kd.size).sum:=by rw[DU,List.sum_reverse]
   simp only[ό,Ϫ,EQ,List.sum_nil]
   omega
  ·exactλg o e=>s6 g o (λz=>by rw[z,hWn]at e;cases e) (s5 _ _ (s3 g o (af e hP) (s2 g o (λz=>by rw[z,hWn]at e;cases e) (s1 g o e))))
  ·rw[τ]
   exact Reps.append (aP (λd hd v r=>by obtain⟨y,_,rfl⟩:=Ζ.mp hd;exact Kd.tupS t6 r) R1) (aK (Kd.tupS t6 Ru))
  ·rw[τ]
   exact Reps.append (aP (λd hd v r=>by obtain⟨y,_,rfl⟩:=Ζ.mp hd;exact Kd.tupS t6 r) Ra) (aP (λd hd v r=>by obtain⟨y,_,rfl⟩:=Ζ.mp hd;exact Kd.tupS (s6.tups (s5 _ _ w3)) r) R5)
  ·rw[ep]
   simp only[List.reverse_append,Dx,List.reverse_nil,Ee,List.reverse_reverse,ϰ,s_,List.flatMap_nil,c_,List.singleton_append,w_]
   rw[x.pts_kids]
   simp
  ·rw[τ,x9]at m40⊢
   have h1:=x.size_kids
   have h2:(x.kids.reverse.map Kd.size).sum=(x.kids.map Kd.size).sum:=by rw[DU,List.sum_reverse]
   simp only[ό,Ϫ,EQ,List.sum_nil]at m40
   omega
theorem lK:am ["kind"] ["kind"] (ag dR):=by trivial
theorem mo{f fthings_of:Addr}{fd:Ο}{k0:Nat}(F:Fun K "points_of" "points_of" dR f fd)(T:Txt K mg)(Din_order:Def P w K mg base k0 "in_order" ["whole","parts_of"] (kK fthings_of))(Gthings_of:mg "things_of"=some (.ref fthings_of)):aG P w K mg base CX0 (k0+1) f fd ["kind"] jz:=by
 refine F.ok lK (λvs H Q E h=>?_) (λcdv A outer s H vs Q E hr h=>?_)
 ·obtain⟨v,k,rfl,_⟩:=h
  rfl
 obtain⟨v,k,rfl,R,k40,q⟩:=h
 refine⟨_,(@un _ _ _ (wbQ (wbK (waq Din_order hr rfl (wae (wv 0 rfl) (wae (waB (.ref fthings_of) rfl Gthings_of rfl ()) waf rfl) rfl) () rfl rfl)))),?_⟩
 exact⟨_,rfl,v,k,rfl,R,k40,q⟩
abbrev gO:Stmt:=top 51
abbrev cM:Stmt:=top 52
abbrev dX:Stmt:=top 53
def bdK(bs:List Str):List (Key×V):=bs.map λx=>(Μ x,V.bl true)
theorem jB:∀(bs:List Str)(x:Str),(ca (bdK bs) (Μ x)).isSome=decide (x∈bs)
 |[],x=>by rw[Q8 ()];rfl
 |b::bs,x=>by
  by_cases h:b=x
  ·have e:ca (bdK (b::bs)) (Μ x)=some (V.bl true):=dE (p:=(Μ b,V.bl true)) (by rw[h])
   rw[e,Q9 (by simp[h])];rfl
  ·have e:ca (bdK (b::bs)) (Μ x)=ca (bdK bs) (Μ x):=dL (p:=(Μ b,V.bl true)) (λz=>h (by injection z))
   rw[e,jB bs x]
   by_cases h2:x∈bs
   ·rw[Q9 h2,Q9 (υ _ h2)]
   ·rw[Q8 h2,Q8 (λz=>by rcases μ.mp z with z|z;exact h z.symm;exact h2 z)]
def ay(bs:List Str)(ps:List Pr):List Pr:=ps.filter λp=>!decide (p.1∈bs)
def zw:Sp:=λvs H Q _=>∃(v:V) (b:Addr) (c:Int) (ps:List Pr) (bs:List Str),vs=[v,.ref b]/\Rep H (aY c ps) v/\ps.length<=40/\H b=some (.dK (bdK bs)) /\
 ∀(H':Hp)(l:Addr)(us:List V),ae H H'->H l=none->H' l=some (.lst us)->Reps H' (aE (ay bs ps)) us->Q (.ref l) H'
theorem pY:am ["length","bound"] ["length","bound"] (ag gO):=by trivial
theorem qt{f:Addr}{fd:Ο}(F:Fun K "unbound" "unbound" gO f fd)(T:Txt K mg):aG P w K mg base CX0 1 f fd ["length","bound"] zw:=by
 refine F.ok pY (λvs H Q E h=>?_) (λcdv A outer s H vs Q E hr h=>?_)
 ·obtain⟨v,b,c,ps,bs,rfl,_⟩:=h
  rfl
 obtain⟨v,b,c,ps,bs,rfl,R,h40,hb,q⟩:=h
 have hu:=jE hr
 obtain⟨a,a1,us,rfl,ha,ha1,ru,lu⟩:=iR R
 refine⟨_,(@un _ _ _ (wbQ (wbK (waE ["part"] [1] (wbo (waD aj (wv 0 rfl) waC (λ_ _=>rfl))) (.of rfl) rfl (λ_ _ _=>⟨pg_name (i:=0) (bE (l:=["part","bound"]) (()) rfl) rfl (Η rfl)⟩) (bH ()) (λ_ _ _=>⟨iK (pt_cmpR (kN hu) (pe_ix (iU K rfl) (pv 0) pe_int (λ_ _=>rfl)) (pv 1) (by with_unfolding_all rfl))⟩) (λ_ _ _=>(wv 0 rfl)) ())))),?_⟩
 refine⟨_,rfl,a,_,1,.ref a1,rfl,rfl,SqT.of ha,ad (j:=1) rfl,a1,rfl,⟨us,SqT.of ha1⟩,dI (xs:=us) (λi ys H'=>H'=H/\ys.length<=i/\Reps H (aE (ay bs (ps.take i))) ys) ⟨rfl,ρ _,by simp[ay,Reps]⟩ (λi ys H' _ p=>by rw[p.1];exact SqT.of ha1) ?_ ?_⟩
 ·rintro i ys H' x hx ⟨rfl,ly,Ry⟩
  obtain⟨p,e,hp,rfl,he⟩:=fK ru hx
  have hi:i<us.length:=(ο.mp hx).1
  have hti:ps.take (i+1)=ps.take i++[p]:=by rw[ϗ,hp];rfl
  refine sh ⟨_,rfl,e,_,0,.str p.1,rfl,rfl,SqT.of he,ad (j:=0) rfl,_,rfl,b,_,rfl,fO.k (k:=Μ p.1) hb,?_⟩
  refine⟨_,rfl,?_⟩
  show if (!(ca (bdK bs) (Μ p.1)).isSome)=true then _ else _
  rw[jB]
  by_cases h:p.1∈bs
  ·rw[Q9 h]
   refine av ⟨rfl,(),?_⟩
   have:ay bs (ps.take (i+1))=ay bs (ps.take i):=by unfold ay;rw[hti,El];simp[h]
   rw[this];exact Ry
  ·rw[Q8 h]
   refine au ⟨_,rfl,by rw[ω];omega,rfl,by rw[χ,ϥ];omega,?_⟩
   have:ay bs (ps.take (i+1))=ay bs (ps.take i)++[p]:=by unfold ay;rw[hti,El];simp[h]
   rw[this,show aE (ay bs (ps.take i)++[p])=aE (ay bs (ps.take i))++aE [p]from τ]
   refine Reps.append Ry (aK ?_)
   rw[Rep]
   exact⟨e,_,rfl,he,by simp only[Reps];exact⟨_,_,rfl,by simp only[Rep],_,_,rfl,by simp only[Rep],rfl⟩⟩
 ·rintro ys H' ⟨rfl,ly,Ry⟩ r hr'
  rw[lu,ϔ]at Ry
  exact q _ r ys (ac hr' _) hr' aa (Ry.mono (ac hr' _))
def oY(k:Kd)(fs:List Pr)(ns:List Str):Bool:=fs.isEmpty||(decide (k.word="row")&&(decide (fs.length=1)&&(fs.map λp=>decide (p∈ns.map λx=>(x,(1:Int)))).headD false))
def zn:Sp:=λvs H Q _=>∃(v u:V) (l:Addr) (k:Kd) (fs:List Pr) (us:List V) (ns:List Str),vs=[v,.ref l,u]/\Rep H k.dv v/\H l=some (.lst us)/\Reps H (aE fs) us/\Rep H (.tup (ns.map Dv.str)) u/\ns.length<=40/\∀H',ae H H'->Q (.bl (oY k fs ns)) H'
theorem rj{p q:Pr}(h:Dv.tup [.str p.1,.int p.2]=.tup [.str q.1,.int q.2]):p=q:=by
 injection h with h;injection h with h1 h2;injection h2 with h2 _;injection h1 with h1;injection h2 with h2
 exact Prod.ext h1 h2
theorem mG:am ["point","fresh","names"] ["point","fresh","names"] (ag cM):=by trivial
theorem mh{f:Addr}{fd:Ο}(F:Fun K "may_stand" "may_stand" cM f fd)(T:Txt K mg):aG P w K mg base CX0 1 f fd ["point","fresh","names"] zn:=by
 refine F.ok mG (λvs H Q E h=>?_) (λcdv A outer s H vs Q E hr h=>?_)
 ·obtain⟨v,u,l,k,fs,us,ns,rfl,_⟩:=h
  rfl
 obtain⟨v,u,l,k,fs,us,ns,rfl,R,hl,Rf,Rn,n40,q⟩:=h
 have hu9:=cK hr
 have huL:(A.deeper (u6 (ξ "may_stand") (ag cM) s.heap.objs.size f cdv)).units<cLine:=by omega
 obtain⟨a,vs,rfl,ha⟩:=zu R
 obtain⟨b,ws,rfl,hb,Rw⟩:=Rep.tup_inv Rn
 have lf:us.length=fs.length:=by have:=Rf.length;rwa[ε]at this
 refine⟨_,(@un _ _ _ (wbO (wbI (wbS (lG huL) (wv 1 rfl) (waM waf) (ah _)) (wbQ (wbK wah)) wbP) (wbQ (wbK (wag (wap aB (waD aj (wv 0 rfl) waC (λ_ _=>rfl)) waV (ah _)) (wag (wap aB (wal ap rfl T.len () (wae (wv 1 rfl) waf rfl) () () rfl rfl) waC (ah _)) (waP (wap (AF hu9) (waD aJ (wv 1 rfl) waC (λ_ _=>rfl)) (waE ["name"] [] (wbo (wv 2 rfl)) (.of rfl) rfl (λ_ _ _=>⟨pg_name (i:=0) (bE (l:=["name"]) (()) rfl) rfl (Η rfl)⟩) (bH ()) (λ_ _ _=>wbx) (λ_ _ _=>(waX (wae (wv 0 rfl) (wae waC waf rfl) rfl))) ()) (by with_unfolding_all rfl))))))))),?_⟩
 refine⟨_,rfl,Ξ _,λe he=>?_⟩
 have s1:=ac he (.lst [])
 refine⟨l,e,us,rfl,rfl,SqL.of (s1 _ _ hl),SqL.of aa,_,rfl,?_⟩
 cases fs with
 |nil=>
  obtain rfl:us=[]:=k9 lf
  exact au (q _ s1)
 |cons p fs=>
  obtain⟨y,us,rfl⟩:∃y z,us=y::z:=by cases us with|nil=>cases lf|cons y z=>exact⟨y,z,rfl⟩
  refine av ?_
  have qq:=λH' (s:ae H H')=>q H' s
  simp only[oY,List.isEmpty_cons,B6,ό,List.headD_cons]at qq
  refine⟨_,rfl,a,_,0,.str k.word,rfl,rfl,SqT.of (s1 _ _ ha),ad (j:=0) rfl,rfl,_,rfl,?_⟩
  show if decide (V.str k.word=V.str "row")=true then _ else _
  rw[bu]
  by_cases hw:k.word="row"
  ·rw[Q9 hw]
   refine au ⟨_,rfl,l,_,rfl,.inl (SqL.of (s1 _ _ hl)),rfl,_,rfl,?_⟩
   simp only[Q9 hw,ϧ]at qq
   by_cases h1:us.length=0
   ·obtain rfl:us=[]:=k9 h1
    have ef:fs=[]:=k9 (by simpa using lf.symm)
    subst ef
    refine au ⟨_,rfl,l,_,0,y,rfl,rfl,SqL.of (s1 _ _ hl),ad (j:=0) rfl,?_⟩
    simp only[ϥ,decide_true,ϧ]at qq
    have Ry:Rep H (.tup [.str p.1,.int p.2]) y:=by
     simp only[ό,Ϫ,Reps]at Rf
     obtain⟨z,r,e1,Rz,_⟩:=Rf
     cases e1;exact Rz
    refine⟨_,rfl,b,rfl,⟨ws,SqT.of (s1 _ _ hb)⟩,dI (xs:=ws) (λi ys H'=>ae (upd H e (.lst [])) H'/\Reps H' (aE ((ns.take i).map λx=>(x,(1:Int)))) ys) ⟨ae.refl _,by simp[Reps]⟩ (λi ys H' _ p=>SqT.of (p.1 _ _ (s1 _ _ hb))) ?_ ?_⟩
    ·rintro i ys H2 x hx ⟨s2,R2⟩
     obtain⟨n,hn,Rx⟩:=bi Rw hx
     have ex:x=.str n:=by simpa only[Rep]using Rx
     subst ex
     have hi:i<ws.length:=(ο.mp hx).1
     have lw:ws.length=ns.length:=by have:=Rw.length;rwa[ε]at this
     refine bJ ⟨_,rfl,z2,λt ht=>⟨?_,s2.trans (ac ht _),?_⟩⟩
     ·rw[R2.length,ε,ε,Φ,ω];omega
     ·have s3:=ac ht (.tup [.str n,.int 1])
      rw[ϗ,hn,τ,show aE (FW (λx=>(x,(1:Int))) (ns.take i)++FW (λx=>(x,(1:Int))) (some n).toList)=aE (FW (λx=>(x,(1:Int))) (ns.take i))++aE [(n,1)]from τ]
      refine Reps.append (R2.mono s3) (aK ?_)
      rw[Rep]
      exact⟨t,_,rfl,aa,by simp only[Reps];exact⟨_,_,rfl,by simp only[Rep],_,_,rfl,by simp only[Rep],rfl⟩⟩
    ·rintro ys H2 ⟨s2,R2⟩ r hr'
     have lw:ws.length=ns.length:=by have:=Rw.length;rwa[ε]at this
     rw[lw,ϔ]at R2
     have s3:=ac hr' (.lst ys)
     have plp:∀p:Pr,L2.Pl 1 (.tup [.str p.1,.int p.2]):=λp=>.tup λd hd=>by
      rcases μ.mp hd with rfl|hd
      ·exact .str
      ·rw[θ.mp hd];exact .int
     refine⟨r,ys,1,_,_,rfl,SqL.of aa,R2.mono s3,λd hd=>?_,plp p,(),((Ry.mono s1).mono s2).mono s3,λc hc=>?_⟩
     ·obtain⟨z,_,rfl⟩:=Ζ.mp hd
      exact plp z
     ·have e2:c=decide (p∈ns.map λx=>(x,(1:Int))):=by
       rw[m8,hc,decide_eq_true_iff]
       exact⟨λz=>by obtain⟨y,hy,e⟩:=Ζ.mp z;rw[<-rj e];exact hy,λz=>h_ (f:=λp:Pr=>Dv.tup [.str p.1,.int p.2]) z⟩
      rw[e2]
      exact qq _ (s1.trans (s2.trans s3))
   ·have:¬ V.int (((y::us).length:Nat):Int)=V.int 1:=λz=>h1 (by injection z with z;simp at z;omega)
    rw[Q8 this]
    have h2:¬ (p::fs).length=1:=λz=>h1 (by rw[ϒ]at z;rw[ϒ,ϒ]at lf;omega)
    simp only[Q8 h2,i9]at qq
    exact av (qq _ s1)
  ·rw[Q8 hw]
   simp only[Q8 hw,i9]at qq
   exact av (qq _ s1)
def bU(bs:List Str)(k:Kd):List Pr:=match k.len? with|none=>[]|some p=>ay bs p.2
def dl(ns bs:List Str)(k:Kd):Option (List Str):=if oY k (bU bs k) ns=true then some (bs++(bU bs k).map (·.1))else none
def bZ(ns:List Str):List Str->List Kd->Option (List Str)
 |bs,[]=>some bs
 |bs,k::ks=>match dl ns bs k with|none=>none|some cs=>bZ ns cs ks
theorem cb(ns:List Str):∀(xs ys:List Kd)(bs:List Str),bZ ns bs (xs++ys)=match bZ ns bs xs with|none=>none|some cs=>bZ ns cs ys
 |[],_,_=>rfl
 |x::xs,ys,bs=>by
  show(match dl ns bs x with|none=>none|some cs=>bZ ns cs (xs++ys))=match (match dl ns bs x with|none=>none|some cs=>bZ ns cs xs)with|none=>none|some cs=>bZ ns cs ys
  cases dl ns bs x with
  |none=>rfl
  |some cs=>exact cb ns xs ys cs
abbrev Prm:=Str×Kd
def bX(p:Prm):Dv:=.tup [.str p.1,p.2.dv]
def fE(ns:List Str)(ps:List Prm):Bool:=match bZ ns [] (ps.flatMap λp=>p.2.pts)with|none=>false|some bs=>decide (bs.length=ns.length)
def L40(_:Int)(ps:List Pr):Prop:=ps.length<=40
def rK:Sp:=λvs H Q _=>∃(v u:V) (ns:List Str) (ps:List Prm),vs=[v,u]/\Rep H (.tup (ns.map Dv.str)) v/\Rep H (.tup (ps.map bX)) u/\ns.length<=4/\ps.length<=4/\(∀p∈ps,p.2.size<=12/\p.2.All L40)/\∀H',ae H H'->Q (.bl (fE ns ps)) H'
theorem eh{H:Hp}{p:Prm}{v:V}(R:Rep H (bX p) v):∃a u,v=.ref a/\H a=some (.tup [.str p.1,u])/\Rep H p.2.dv u:=by
 obtain⟨a,vs,rfl,ha,rs⟩:=Rep.tup_inv R
 obtain⟨x,y,rfl,r1,r2⟩:=Reps.two rs
 simp only[Rep]at r1
 subst r1
 exact⟨a,y,rfl,ha,r2⟩
theorem sY{k:Kd}{fs:List Pr}{ns:List Str}(h:oY k fs ns=true):fs=[]\/∃x,fs=[(x,1)]:=by
 unfold oY at h
 match fs,h with
 |[],_=>exact .inl rfl
 |[p],h=>
  refine .inr ?_
  simp only[List.isEmpty_cons,B6,ό,Ϫ,List.headD_cons,Θ,decide_eq_true_eq]at h
  obtain⟨x,_,e⟩:=Ζ.mp h.2.2
  exact⟨x,by rw[<-e]⟩
 |p::q::r,h=>simp at h
theorem uR{bs:List Str}{k:Kd}{p:Pr}(h:p∈bU bs k):p.1∉bs:=by
 unfold bU at h
 cases e:k.len? with
 |none=>rw[e]at h;cases h
 |some q=>
  rw[e]at h
  have:=(ϙ.mp h).2
  simpa using this
theorem qJ{bs:List Str}{x:Str}(h:x∉bs):cx (bdK bs) (Μ x) (.bl true)=bdK (bs++[x]):=by
 have:cx (bdK bs) (Μ x) (.bl true)=bdK bs++[(Μ x,.bl true)]:=by
  unfold cx
  rw[Q6]
  have:=jB bs x
  rw[Q8 h]at this
  intro z
  rw[a_]at z
  obtain⟨p,hp,e⟩:=z
  obtain⟨y,hy,rfl⟩:=Ζ.mp hp
  have e':(Μ y:Key)=Μ x:=Q7 e
  injection e' with e'
  exact h (e'▸hy)
 rw[this]
 unfold bdK
 rw[τ];rfl
theorem eG{P:Int->List Pr->Prop}:∀{k:Kd},k.All P->∀j∈k.pts,∀c ps,j.len?=some (c,ps)->P c ps
 |.whole,_,j,hj,c,ps,e=>by
  rw[θ.mp hj]at e;cases e
 |.place c ps,h,j,hj,c',ps',e=>by
  rw[θ.mp hj]at e;cases e;exact h
 |.row c ps k,h,j,hj,c',ps',e=>by
  rcases μ.mp hj with rfl|hj
  ·cases e;exact h.1
  ·exact eG h.2 j hj c' ps' e
 |.pair a b,h,j,hj,c',ps',e=>by
  rcases μ.mp hj with rfl|hj
  ·cases e
  ·rcases ϖ.mp hj with hj|hj
   ·exact eG h.1 j hj c' ps' e
   ·exact eG h.2 j hj c' ps' e
theorem xX{ns bs cs:List Str}{ps:List Prm}{i j:Nat}{p:Prm}{k:Kd}(hp:ps[i]?=some p)(hj:p.2.pts[j]?=some k)(e1:bZ ns [] ((ps.take i).flatMap λp=>p.2.pts)=some bs)(e3:bZ ns bs (p.2.pts.take j)=some cs)(h:dl ns cs k=none):bZ ns [] (ps.flatMap λp=>p.2.pts)=none:=by
 obtain⟨hi,hpe⟩:=ο.mp hp
 obtain⟨hj',hje⟩:=ο.mp hj
 have e:ps=ps.take i++p::ps.drop (i+1):=by rw[<-hpe,<-ϲ hi,i3]
 have e':p.2.pts=p.2.pts.take j++k::p.2.pts.drop (j+1):=by rw[<-hje,<-ϲ hj',i3]
 have h1:ps.flatMap (λp=>p.2.pts)=((ps.take i).flatMap λp=>p.2.pts)++(p.2.pts++(ps.drop (i+1)).flatMap λp=>p.2.pts):=by
  conv=>lhs;rw[e]
  rw[ϰ,s_]
 have h2:bZ ns bs p.2.pts=none:=by
  rw[e',cb,e3]
  show(match dl ns cs k with|none=>none|some c=>bZ ns c _)=none
  rw[h]
 rw[h1,cb,e1]
 show bZ ns bs _=none
 rw[cb,h2]
theorem gk:am ["names","params","bound","x","kind","point","fresh","name","times"] ["names","params"] (ag dX):=by trivial
theorem lW{f:Addr}{fd:Ο}{k:Nat}(F:Fun K "are_bound" "are_bound" dX f fd)(T:Txt K mg)(Dpoints_of:Def P w K mg base k "points_of" ["kind"] jz)(Dlength_at:Def P w K mg base k "length_at" ["point"] sC)(Dunbound:Def P w K mg base k "unbound" ["length","bound"] zw)(Dmay_stand:Def P w K mg base k "may_stand" ["point","fresh","names"] zn):
  aG P w K mg base CX0 (k+1) f fd ["names","params"] rK:=by
 have nd:=gk.nd
 refine F.ok gk (λvs H Q E h=>?_) (λcdv A outer s H vs Q E hr h=>?_)
 ·obtain⟨v,u,ns,ps,rfl,_⟩:=h
  rfl
 obtain⟨v,u,ns,ps,rfl,Rn,Rp,n4,p4,hk,q⟩:=h
 have hu:=jE hr
 obtain⟨b,ws,rfl,hb,Rw⟩:=Rep.tup_inv Rn
 obtain⟨a,us,rfl,ha,Ru⟩:=Rep.tup_inv Rp
 have lu:us.length=ps.length:=by have:=Ru.length;rwa[ε]at this
 have lw:ws.length=ns.length:=by have:=Rw.length;rwa[ε]at this
 refine⟨_,(@un _ _ _ (wbO (wbM 2 nd rfl (Η rfl) waA rfl ()) (wbO (wbH ϛ rfl (wbo (wv 1 rfl)) (wbb rfl (wbd (waZ 3 nd rfl (Η rfl) ()) (wbd (waZ 4 nd rfl (Η rfl) ()) wbe rfl) rfl) rfl rfl) (wbQ (wbH ϛ rfl (wbi (waq Dpoints_of hr rfl (wae (wv 4 rfl) waf rfl) () rfl rfl)) (waZ 5 nd rfl (Η rfl) ()) (wbO (wbM 6 nd rfl (Η rfl) (wac (wbS AY (waq Dlength_at hr rfl (wae (wv 5 rfl) waf rfl) () rfl rfl) waN (ah _)) (waM waf) (waq Dunbound hr rfl (wae (waq Dlength_at hr rfl (wae (wv 5 rfl) waf rfl) () rfl rfl) (wae (wv 2 rfl) waf rfl) rfl) () rfl rfl)) rfl ()) (wbO (wbI (wbT (wbV (waq Dmay_stand hr rfl (wae (wv 5 rfl) (wae (wv 6 rfl) (wae (wv 0 rfl) waf rfl) rfl) rfl) () rfl rfl) ())) (wbQ (wbK wah)) wbP) (wbQ (wbH ϛ rfl (wbi (wv 6 rfl)) (wbb rfl (wbd (waZ 7 nd rfl (Η rfl) ()) (wbd (waZ 8 nd rfl (Η rfl) ()) wbe rfl) rfl) rfl rfl) (wbQ (wbF hu (wv 2 rfl) (wv 7 rfl) wah rfl)) ())))) ())) ()) (wbQ (wbK (wap aB (wal uc rfl T.len () (wae (wv 2 rfl) waf rfl) () () rfl rfl) (wal ap rfl T.len () (wae (wv 0 rfl) waf rfl) () () rfl rfl) (ah _))))))),?_⟩
 symm
 intro d hd
 have s0:ae H (upd H d (.dK [])):=ac hd _
 have d0:upd H d (.dK []) d=some (.dK (bdK [])):=aa
 generalize upd H d (.dK [])=H0 at s0 d0⊢
 refine⟨_,rfl,a,rfl,⟨us,SqT.of (s0 _ _ ha)⟩,gz (xs:=us) (λi σ H'=>∃(o1 o2 o3 o4 o5 o6:Option V) (bs:List Str),σ=[some (.ref b),some (.ref a),some (.ref d),o1,o2,o3,o4,o5,o6]/\ae H H'/\H' d=some (.dK (bdK bs))/\bZ ns [] ((ps.take i).flatMap λp=>p.2.pts)=some bs/\bs.length<=12*i)
  ⟨_,_,_,_,_,_,[],rfl,s0,d0,rfl,()⟩ (λi σ H' _ ⟨_,_,_,_,_,_,_,_,s1,_⟩=>SqT.of (s1 _ _ ha)) ?T1 ?_⟩
 case T1=>
  rintro i x σ H1 hx ⟨o1,o2,o3,o4,o5,o6,bs,rfl,s1,d1,e1,l1⟩
  obtain⟨p,hp,Rx⟩:=bi (f:=bX) Ru hx
  obtain⟨e,z,rfl,he,Rz⟩:=eh Rx
  have hi:i<us.length:=(ο.mp hx).1
  have hti:ps.take (i+1)=ps.take i++[p]:=by rw[ϗ,hp];rfl
  obtain⟨k12,kA⟩:=hk p (Λ hp)
  refine⟨e,_,rfl,SqT.of (s1 _ _ he),rfl,_,_,rfl,_,_,rfl,rfl,?_⟩
  refine⟨_,rfl,z,p.2,rfl,Rz.mono s1,(),λH2 g ks s2 hg0 hg Rg=>?_⟩
  have lk:ks.length=p.2.pts.length:=by have:=Rg.length;rwa[ε]at this
  have gd:g≠d:=λz=>by rw[z,d1]at hg0;cases hg0
  have lp:=Kd.pts_len p.2
  refine⟨g,rfl,⟨ks,SqL.of hg⟩,jx (xs:=ks) (λj σ H'=>∃(o3 o4 o5 o6:Option V) (cs:List Str),σ=[some (.ref b),some (.ref a),some (.ref d),some (.str p.1),some z,o3,o4,o5,o6]/\aD d H2 H'/\H' d=some (.dK (bdK cs))/\bZ ns bs (p.2.pts.take j)=some cs/\cs.length<=12*i+j)
   ⟨_,_,_,_,bs,rfl,aD.refl _ _,s2 _ _ d1,rfl,()⟩ (λj σ H' _ ⟨_,_,_,_,_,_,sx,_⟩=>SqL.of (sx _ _ gd hg)) ?T2 ?_⟩
  case T2=>
   rintro j y σ H3 hy ⟨o3,o4,o5,o6,cs,rfl,s3,d3,e3,l3⟩
   obtain⟨kj,hj,Ry⟩:=bi Rg hy
   have hjm:=Λ hj
   have hjl:j<ks.length:=(ο.mp hy).1
   have htj:p.2.pts.take (j+1)=p.2.pts.take j++[kj]:=by rw[ϗ,hj];rfl
   have t3:bS H2 H3:=s3.tupsD (s2 _ _ d1)
   have Ry3:=Kd.tupS t3 Ry
   have s03:ae H H3:=λx o e=>s3 x o (af e hd) (s2 _ _ (s1 _ _ e))
   refine bG (λσ' H4=>∃(l:Addr) (zs:List V),σ'=[some (.ref b),some (.ref a),some (.ref d),some (.str p.1),some z,some y,some (.ref l),o5,o6]/\ae H3 H4/\H3 l=none/\H4 l=some (.lst zs)/\Reps H4 (aE (bU cs kj)) zs) ?N1 (λ_ nx=>?_)
   case N1=>
    rintro _ H4 ⟨l,zs,rfl,s4,hl0,hl,Rz'⟩
    have lz:zs.length=(bU cs kj).length:=by have:=Rz'.length;rwa[ε]at this
    refine⟨_,rfl,_,rfl,_,rfl,y,.ref b,l,kj,bU cs kj,zs,ns,rfl,Ry3.mono s4,hl,Rz',by rw[Rep];exact⟨b,ws,rfl,s4 _ _ (s03 _ _ hb),Rw.mono (s03.trans s4)⟩,(),λH5 s5=>⟨_,rfl,?_⟩⟩
    cases hm:oY kj (bU cs kj) ns with
    |false=>
     refine au ?_
     have hf:fE ns ps=false:=by
      unfold fE
      rw[xX hp hj e1 e3 (by unfold dl;rw[hm];rfl)]
     exact hf▸q H5 (s03.trans (s4.trans s5))
    |true=>
     refine av ?_
     have d5:=s5 _ _ (s4 _ _ d3)
     have ld:l≠d:=λz=>by rw[z,d3]at hl0;cases hl0
     refine⟨_,rfl,l,rfl,⟨zs,SqL.of (s5 _ _ hl)⟩,jx (xs:=zs) (λm σ H'=>∃(o5 o6:Option V),σ=[some (.ref b),some (.ref a),some (.ref d),some (.str p.1),some z,some y,some (.ref l),o5,o6]/\aD d H5 H'/\H' d=some (.dK (bdK (cs++((bU cs kj).take m).map (·.1)))))
      ⟨_,_,rfl,aD.refl _ _,by rw[d5];simp⟩ (λm σ H' _ ⟨_,_,_,sx,_⟩=>SqL.of (sx _ _ ld (s5 _ _ hl))) ?T3 ?_⟩
     case T3=>
      rintro m c σ H6 hc ⟨o5,o6,rfl,s6,d6⟩
      obtain⟨r,e,hr',rfl,he'⟩:=fK Rz' hc
      have ed:e≠d:=λz=>by have:=s5 _ _ he';rw[z,d5]at this;cases this
      refine⟨e,_,rfl,SqT.of (s6 _ _ ed (s5 _ _ he')),rfl,_,_,rfl,_,_,rfl,rfl,?_⟩
      rcases sY hm with hn|⟨x,hn⟩
      ·rw[hn]at hr';simp at hr'
      rw[hn]at hr'
      obtain rfl:m=0:=by cases m with|zero=>rfl|succ m=>simp at hr'
      obtain rfl:(x,(1:Int))=r:=by simpa using hr'
      have xn:x∉cs:=uR (p:=(x,1)) (by rw[hn];exact θ.mpr rfl)
      rw[hn]at d6⊢
      simp only[List.take_zero,Ϫ,c_]at d6
      refine⟨_,rfl,_,rfl,d,_,rfl,iG.k (k:=Μ x) d6 ?_,?_⟩
      ·rw[show(bdK cs).length=cs.length from ε _,ω];omega
      ·refine⟨_,_,rfl,s6.trans (aD.upd _ _ _),?_⟩
       rw[aa,qJ xn]
       rfl
     rintro σ H6 ⟨o5,o6,rfl,s6,d6⟩
     rw[lz,ϔ]at d6
     have lf:(bU cs kj).length<=1:=by rcases sY hm with hn|⟨x,hn⟩<;>rw[hn]<;>simp
     refine⟨_,_,_,_,_,rfl,s3.trans ((ae.b d (s4.trans s5)).trans s6),d6,?_,?_⟩
     ·rw[htj,cb,e3]
      show(match dl ns cs kj with|none=>none|some c=>bZ ns c [])=_
      unfold dl
      rw[hm];rfl
     ·rw[χ,ε];omega
   refine⟨_,rfl,y,kj,rfl,Ry3,λw1 Rw1=>⟨rfl,_,rfl,?_⟩⟩
   rcases xy Rw1 with ⟨e,rfl⟩|⟨r,ds,e,ed,Rd⟩
   ·refine au ⟨Ξ _,λl hl=>gnm (nx _ _ ⟨l,[],rfl,ac hl _,hl,aa,?_⟩)⟩
    unfold bU
    rw[e]
    simp[Reps]
   ·have hw:w1≠.non:=λz=>by subst z;simp only[Rep]at Rd;obtain⟨_,_,z,_⟩:=Rd;cases z
    rw[show decide (w1=V.non)=false by simp[hw]]
    refine av ⟨_,rfl,y,kj,rfl,Ry3,λw2 Rw2=>⟨_,rfl,w2,d,r.1,r.2,cs,rfl,by rw[e]at Rw2;exact Rw2,eG kA kj hjm r.1 r.2 e,d3,λH4 l zs s4 hl0 hl Rz'=>gnm (nx _ _ ⟨l,zs,rfl,s4,hl0,hl,?_⟩)⟩⟩
    unfold bU
    rw[e]
    exact Rz'
  rintro σ H3 ⟨o3,o4,o5,o6,cs,rfl,s3,d3,e3,l3⟩
  rw[lk,ϔ]at e3
  refine⟨_,_,_,_,_,_,cs,rfl,λx o e=>s3 x o (af e hd) (s2 _ _ (s1 _ _ e)),d3,?_,()⟩
  rw[hti,ϰ,cb,e1]
  show bZ ns bs (p.2.pts++[])=_
  rw[c_];exact e3
 rintro σ H1 ⟨o1,o2,o3,o4,o5,o6,bs,rfl,s1,d1,e1,l1⟩
 rw[lu,ϔ]at e1
 refine⟨_,rfl,d,_,rfl,d1,_,rfl,b,ws,rfl,.inr (SqT.of (s1 _ _ hb)),rfl,?_⟩
 have qq:=q H1 s1
 have e:fE ns ps=decide (V.int ((bdK bs).length:Nat)=V.int (ws.length:Nat)):=by
  unfold fE
  rw[e1,show(bdK bs).length=bs.length from ε _,lw]
  show decide (bs.length=ns.length)=_
  by_cases z:bs.length=ns.length
  ·rw[Q9 z,Q9 (by rw[z])]
  ·rw[Q8 z,Q8 (λy=>z (by injection y with y;omega))]
 exact e▸qq
abbrev el:Stmt:=top 46
abbrev fg:Stmt:=top 47
abbrev db:Stmt:=top 48
abbrev jp:Stmt:=top 49
def fq:Dv->Bool
 |.tup ds=>gP 0 (.tup ds)&&ds.all bp
 |_=>false
def dy:Dv->Bool
 |.tup [a,b]=>bp a&&decide (aU b<=12)
 |_=>false
def cX:Dv->Bool
 |.tup ds=>gP 0 (.tup ds)&&ds.all dy
 |_=>false
def exD(d:Dv):Bool:=decide (exN 8 d<=40)
def CG:List Dv->Bool
 |[e]=>exD e
 |_=>false
def dfD:List Dv->Bool
 |[a,b,c,e]=>gY a&&(fq b&&(cX c&&exD e))
 |_=>false
def dZ:Dv->Bool
 |.tup (.str x::r)=>if x="ask" then CG r else decide (x="def")&&dfD r
 |_=>false
theorem sQ(e:Dv):dZ (.tup [.str "ask",e])=exD e:=by rw[dZ,Q0 rfl];rfl
theorem rF(a b c e:Dv):dZ (.tup [.str "def",a,b,c,e])=(gY a&&(fq b&&(cX c&&exD e))):=by
 have h:¬ ξ "def"=ξ "ask":=by decide +kernel
 rw[dZ,Q6 h,Q9 rfl,ϧ];rfl
theorem yC{d:Dv}(h:dz d=false):dZ d=false:=by
 match d,h with
 |.tup (.str x::r),h=>cases h
 |.tup [],_=>rfl
 |.tup (.non::r),_=>rfl
 |.tup (.bl _::r),_=>rfl
 |.tup (.int _::r),_=>rfl
 |.tup (.tup _::r),_=>rfl
 |.tup (.lst _::r),_=>rfl
 |.tup (.dct::r),_=>rfl
 |.non,_=>rfl
 |.bl _,_=>rfl
 |.int _,_=>rfl
 |.str _,_=>rfl
 |.lst _,_=>rfl
 |.dct,_=>rfl
theorem uQ{ds:List Dv}(h:∀a b,ds≠[a,b]):dy (.tup ds)=false:=by
 match ds with
 |[]=>rfl
 |[_]=>rfl
 |[a,b]=>exact absurd rfl (h a b)
 |_::_::_::_=>rfl
theorem sZ{ds:List Dv}(h:gP 0 (.tup ds)=true):ds.length<=4:=by
 simp only[gP,Θ,decide_eq_true_eq]at h
 omega
theorem mP:am ["thing"] ["thing"] (ag el):=by trivial
theorem lV{f:Addr}{fd:Ο}{k:Nat}(F:Fun K "are_names" "are_names" el f fd)(T:Txt K mg)(Dis_few:Def P w K mg base k "is_few" ["thing","least"] rJ)(Dis_name:Def P w K mg base k "is_name" ["thing"] (spS bp)):aG P w K mg base CX0 (k+1) f fd ["thing"] (spS fq):=by
 refine F.ok mP (λvs H Q E h=>?_) (λcdv A outer s H vs Q E hr h=>?_)
 ·obtain⟨v,d,rfl,_⟩:=h
  rfl
 obtain⟨v,d,rfl,R,sm,q⟩:=h
 refine⟨_,(@un _ _ _ (wbQ (wbK (wag (waq Dis_few hr rfl (wae (wv 0 rfl) (wae waC waf rfl) rfl) () rfl rfl) (waP (wal (gj rfl) rfl T.all () (wae (waE ["name"] [] (wbo (wv 0 rfl)) (.of rfl) rfl (λ_ _ _=>⟨pg_name (i:=0) (bE (l:=["name"]) (()) rfl) rfl (Η rfl)⟩) (bH ()) (λ_ _ _=>wbx) (λ_ _ _=>(waq Dis_name hr rfl (wae (wv 0 rfl) waf rfl) () rfl rfl)) ()) waf rfl) () () rfl rfl)))))),?_⟩
 symm
 refine⟨_,rfl,v,d,0,rfl,R,λH1 s1=>⟨_,rfl,?_⟩⟩
 have qq:=q H1 s1
 cases d with
 |tup ds=>
  have qd:∀b H',ae H H'->(gP 0 (.tup ds)&&ds.all bp)=b->Q (.bl b) H':=λb H' s' e=>e▸q H' s'
  cases c0:gP 0 (.tup ds)with
  |false=>exact av (qd _ H1 s1 (by rw[c0];rfl))
  |true=>
   obtain⟨a,us,rfl,ha,ru⟩:=Rep.tup_inv R
   have hl:=ru.length
   have l4:=sZ c0
   refine au ⟨_,rfl,a,rfl,⟨us,SqT.of (s1 _ _ ha)⟩,dI (xs:=us) (λi ys H'=>ae H H'/\ys=(ds.take i).map λp=>V.bl (bp p)) ⟨s1,rfl⟩ (λi ys H' _ p=>SqT.of (p.1 _ _ ha)) ?_ ?_⟩
   ·rintro i ys H2 x hx ⟨s2,rfl⟩
    obtain⟨d,hd,Rd⟩:=ru.get hx
    have hi:=(ο.mp hd).1
    refine bJ ⟨_,rfl,x,d,rfl,Rd.mono s2,cH sm d (Λ hd),λH3 s3=>⟨?_,s2.trans s3,?_⟩⟩
    ·rw[ε,Φ,ω];omega
    ·rw[ϗ,hd,τ];rfl
   ·rintro ys H2 ⟨s2,rfl⟩ r hr'
    rw[hl,ϔ]
    refine⟨r,ds.map bp,rfl,SqL.of (by rw[aa,ύ];rfl),?_⟩
    exact qd _ _ (s2.trans (ac hr' _)) (by rw[c0,DT];rfl)
 |_=>exact av qq
theorem oF:am ["thing"] ["thing"] (ag fg):=by trivial
theorem pG{f:Addr}{fd:Ο}{k:Nat}(F:Fun K "is_param" "is_param" fg f fd)(T:Txt K mg)(Dis_name:Def P w K mg base k "is_name" ["thing"] (spS bp))(Dis_kind:Def P w K mg base k "is_kind" ["thing"] jy):aG P w K mg base CX0 (k+1) f fd ["thing"] (spS dy):=by
 refine F.ok oF (λvs H Q E h=>?_) (λcdv A outer s H vs Q E hr h=>?_)
 ·obtain⟨v,d,rfl,_⟩:=h
  rfl
 obtain⟨v,d,rfl,R,sm,q⟩:=h
 refine⟨_,(@un _ _ _ (wbQ (wbK (wag (wal be rfl T.isinstance () (wae (wv 0 rfl) (wae (wai (.ty "tuple") rfl T.tuple () rfl () ()) waf rfl) rfl) () () rfl rfl) (wag (wap aB (wal ap rfl T.len () (wae (wv 0 rfl) waf rfl) () () rfl rfl) waC (ah _)) (wag (waq Dis_name hr rfl (wae (waD aj (wv 0 rfl) waC (λ_ _=>rfl)) waf rfl) () rfl rfl) (waP (waq Dis_kind hr rfl (wae (waD aj (wv 0 rfl) waC (λ_ _=>rfl)) waf rfl) () rfl rfl)))))))),?_⟩
 symm
 refine⟨_,rfl,v,_,_,_,rfl,R.ty,cA K d,_,rfl,?_⟩
 have qq:=q H (ae.refl H)
 cases d with
 |tup ds=>
  obtain⟨a,vs,rfl,ha,rs⟩:=Rep.tup_inv R
  have hl:=rs.length
  refine au ⟨_,rfl,a,vs,rfl,.inr (SqT.of ha),rfl,_,rfl,?_⟩
  rcases rf ds with ⟨d0,d1,rfl⟩|no
  ·obtain⟨x,y,rfl,R0,R1⟩:=Reps.two rs
   obtain⟨z0,z1⟩:=mL sm
   have qe:∀c H',ae H H'->(bp d0&&decide (aU d1<=12))=c->Q (.bl c) H':=λc H' s1 e=>e▸q H' s1
   refine au ⟨_,rfl,a,_,0,x,rfl,rfl,SqT.of ha,ad (j:=0) rfl,x,d0,rfl,R0,z0,λH1 s1=>⟨_,rfl,?_⟩⟩
   cases c0:bp d0 with
   |false=>exact av (qe _ H1 s1 (by rw[c0];rfl))
   |true=>exact au ⟨_,rfl,a,_,1,y,rfl,rfl,SqT.of (s1 _ _ ha),ad (j:=1) rfl,y,d1,rfl,R1.mono s1,z1,λH2 s2=>qe _ H2 (s1.trans s2) (by rw[c0];rfl)⟩
  ·have hn:¬ (V.int ((vs.length:Nat):Int)=V.int 2):=λe=>mH no (by injection e with e;omega)
   rw[Q8 hn]
   rw[uQ no]at qq
   exact av qq
 |_=>exact av qq
theorem ke:am ["thing"] ["thing"] (ag db):=by trivial
theorem ki{f:Addr}{fd:Ο}{k:Nat}(F:Fun K "are_params" "are_params" db f fd)(T:Txt K mg)(Dis_few:Def P w K mg base k "is_few" ["thing","least"] rJ)(Dis_param:Def P w K mg base k "is_param" ["thing"] (spS dy)):aG P w K mg base CX0 (k+1) f fd ["thing"] (spS cX):=by
 refine F.ok ke (λvs H Q E h=>?_) (λcdv A outer s H vs Q E hr h=>?_)
 ·obtain⟨v,d,rfl,_⟩:=h
  rfl
 obtain⟨v,d,rfl,R,sm,q⟩:=h
 refine⟨_,(@un _ _ _ (wbQ (wbK (wag (waq Dis_few hr rfl (wae (wv 0 rfl) (wae waC waf rfl) rfl) () rfl rfl) (waP (wal (gj rfl) rfl T.all () (wae (waE ["param"] [] (wbo (wv 0 rfl)) (.of rfl) rfl (λ_ _ _=>⟨pg_name (i:=0) (bE (l:=["param"]) (()) rfl) rfl (Η rfl)⟩) (bH ()) (λ_ _ _=>wbx) (λ_ _ _=>(waq Dis_param hr rfl (wae (wv 0 rfl) waf rfl) () rfl rfl)) ()) waf rfl) () () rfl rfl)))))),?_⟩
 symm
 refine⟨_,rfl,v,d,0,rfl,R,λH1 s1=>⟨_,rfl,?_⟩⟩
 have qq:=q H1 s1
 cases d with
 |tup ds=>
  have qd:∀b H',ae H H'->(gP 0 (.tup ds)&&ds.all dy)=b->Q (.bl b) H':=λb H' s' e=>e▸q H' s'
  cases c0:gP 0 (.tup ds)with
  |false=>exact av (qd _ H1 s1 (by rw[c0];rfl))
  |true=>
   obtain⟨a,us,rfl,ha,ru⟩:=Rep.tup_inv R
   have hl:=ru.length
   have l4:=sZ c0
   refine au ⟨_,rfl,a,rfl,⟨us,SqT.of (s1 _ _ ha)⟩,dI (xs:=us) (λi ys H'=>ae H H'/\ys=(ds.take i).map λp=>V.bl (dy p)) ⟨s1,rfl⟩ (λi ys H' _ p=>SqT.of (p.1 _ _ ha)) ?_ ?_⟩
   ·rintro i ys H2 x hx ⟨s2,rfl⟩
    obtain⟨d,hd,Rd⟩:=ru.get hx
    have hi:=(ο.mp hd).1
    refine bJ ⟨_,rfl,x,d,rfl,Rd.mono s2,cH sm d (Λ hd),λH3 s3=>⟨?_,s2.trans s3,?_⟩⟩
    ·rw[ε,Φ,ω];omega
    ·rw[ϗ,hd,τ];rfl
   ·rintro ys H2 ⟨s2,rfl⟩ r hr'
    rw[hl,ϔ]
    refine⟨r,ds.map dy,rfl,SqL.of (by rw[aa,ύ];rfl),?_⟩
    exact qd _ _ (s2.trans (ac hr' _)) (by rw[c0,DT];rfl)
 |_=>exact av qq
theorem uN:am ["thing"] ["thing"] (ag jp):=by trivial
theorem tT{f:Addr}{fd:Ο}{k:Nat}(F:Fun K "is_row" "is_row" jp f fd)(T:Txt K mg)(Dhas_word:Def P w K mg base k "has_word" ["thing"] (spD dz))(Dis_expression:Def P w K mg base k "is_expression" ["thing"] ou)(Dis_def_name:Def P w K mg base k "is_def_name" ["thing"] (spS gY))(Dare_names:Def P w K mg base k "are_names" ["thing"] (spS fq))(Dare_params:Def P w K mg base k "are_params" ["thing"] (spS cX)):aG P w K mg base CX0 (k+1) f fd ["thing"] (spS dZ):=by
 refine F.ok uN (λvs H Q E h=>?_) (λcdv A outer s H vs Q E hr h=>?_)
 ·obtain⟨v,d,rfl,_⟩:=h
  rfl
 obtain⟨v,d,rfl,R,sm,q⟩:=h
 refine⟨_,(@un _ _ _ (wbO (wbI (wbT (wbV (waq Dhas_word hr rfl (wae (wv 0 rfl) waf rfl) () rfl rfl) ())) (wbQ (wbK wah)) wbP) (wbO (wbI (wbS aB (waD aj (wv 0 rfl) waC (λ_ _=>rfl)) waV (ah _)) (wbQ (wbK (wag (wap aB (wal ap rfl T.len () (wae (wv 0 rfl) waf rfl) () () rfl rfl) waC (ah _)) (waP (waq Dis_expression hr rfl (wae (waD aj (wv 0 rfl) waC (λ_ _=>rfl)) waf rfl) () rfl rfl))))) wbP) (wbO (wbI (wab (wbY (wbS fL (waD aj (wv 0 rfl) waC (λ_ _=>rfl)) waV (ah _)) (wbZ (wbS fL (wal ap rfl T.len () (wae (wv 0 rfl) waf rfl) () () rfl rfl) waC (ah _))))) (wbQ (wbK wah)) wbP) (wbQ (wbK (wag (waq Dis_def_name hr rfl (wae (waD aj (wv 0 rfl) waC (λ_ _=>rfl)) waf rfl) () rfl rfl) (wag (waq Dare_names hr rfl (wae (waD aj (wv 0 rfl) waC (λ_ _=>rfl)) waf rfl) () rfl rfl) (wag (waq Dare_params hr rfl (wae (waD aj (wv 0 rfl) waC (λ_ _=>rfl)) waf rfl) () rfl rfl) (waP (waq Dis_expression hr rfl (wae (waD aj (wv 0 rfl) waC (λ_ _=>rfl)) waf rfl) () rfl rfl))))))))))),?_⟩
 symm
 refine⟨_,rfl,v,d,rfl,R,λH1 s1=>⟨_,rfl,?_⟩⟩
 cases c0:dz d with
 |false=>
  refine au ?_
  have:=q H1 s1
  rwa[yC c0]at this
 |true=>
  refine av ?_
  obtain⟨x,r,rfl⟩:=fm c0
  obtain⟨a,vs,rfl,ha,rs⟩:=Rep.tup_inv (R.mono s1)
  simp only[Reps]at rs
  obtain⟨y,us,rfl,R0,ru⟩:=rs
  obtain rfl:y=.str x:=R0
  have hl:=ru.length
  have sr:∀d∈r,d.small=true:=λd hd=>cH sm d (υ _ hd)
  have qd:∀b H',ae H1 H'->dZ (.tup (.str x::r))=b->Q (.bl b) H':=λb H' s' e=>e▸q H' (s1.trans s')
  refine⟨_,rfl,a,_,0,.str x,rfl,rfl,SqT.of ha,ad (j:=0) rfl,rfl,_,rfl,?_⟩
  show if decide (V.str x=V.str "ask")=true then _ else _
  rw[bu]
  by_cases h1:x="ask"
  ·subst h1
   rw[Q9 rfl]
   refine au ⟨_,rfl,a,_,rfl,.inr (SqT.of ha),rfl,_,rfl,?_⟩
   show if decide (V.int _=V.int ((2:Nat):Int))=true then _ else _
   rw[eD (x:=.str "ask") hl 1 2 rfl]
   by_cases z:r.length=1
   ·rw[Q9 z]
    match r,us,z,ru,sr,qd with
    |[e],us,_,ru,sr,qd=>
     simp only[Reps]at ru
     obtain⟨u,rest,rfl,Ru,rfl⟩:=ru
     exact au ⟨_,rfl,a,_,1,u,rfl,rfl,SqT.of ha,ad (j:=1) rfl,u,e,rfl,Ru,sr e Δ,λH2 s2=>qd _ H2 s2 (sQ e)⟩
   ·rw[Q8 z]
    refine av (qd _ H1 (ae.refl _) ?_)
    rw[dZ,Q0 rfl]
    match r,z with
    |[],_=>rfl
    |[e],z=>exact absurd rfl z
    |_::_::_,_=>rfl
  rw[Q8 h1]
  refine av ⟨_,rfl,a,_,0,.str x,rfl,rfl,SqT.of ha,ad (j:=0) rfl,rfl,_,rfl,?_⟩
  show if (!decide (V.str x=V.str "def"))=true then _ else _
  rw[bu]
  by_cases h2:x="def"
  ·subst h2
   rw[Q9 rfl]
   refine av ⟨_,rfl,a,_,rfl,.inr (SqT.of ha),rfl,_,rfl,?_⟩
   show if (!decide (V.int _=V.int ((5:Nat):Int)))=true then _ else _
   rw[eD (x:=.str "def") hl 4 5 rfl]
   by_cases z:r.length=4
   ·rw[Q9 z]
    match r,us,z,ru,sr,qd with
    |[d1,d2,d3,d4],us,_,ru,sr,qd=>
     simp only[Reps]at ru
     obtain⟨u1,_,rfl,R1,u2,_,rfl,R2,u3,_,rfl,R3,u4,_,rfl,R4,rfl⟩:=ru
     have qf:∀b H',ae H1 H'->(gY d1&&(fq d2&&(cX d3&&exD d4)))=b->Q (.bl b) H':=λb H' s' e=>qd b H' s' ((rF _ _ _ _).trans e)
     refine av ⟨_,rfl,a,_,1,u1,rfl,rfl,SqT.of ha,ad (j:=1) rfl,u1,d1,rfl,R1,sr d1 (),λH2 s2=>⟨_,rfl,?_⟩⟩
     cases c1:gY d1 with
     |false=>exact av (qf _ H2 s2 (by rw[c1];rfl))
     |true=>
      refine au ⟨_,rfl,a,_,2,u2,rfl,rfl,SqT.of (s2 _ _ ha),ad (j:=2) rfl,u2,d2,rfl,R2.mono s2,sr d2 (),λH3 s3=>⟨_,rfl,?_⟩⟩
      cases c2:fq d2 with
      |false=>exact av (qf _ H3 (s2.trans s3) (by rw[c1,c2];rfl))
      |true=>
       refine au ⟨_,rfl,a,_,3,u3,rfl,rfl,SqT.of (s3 _ _ (s2 _ _ ha)),ad (j:=3) rfl,u3,d3,rfl,R3.mono (s2.trans s3),sr d3 (),λH4 s4=>⟨_,rfl,?_⟩⟩
       cases c3:cX d3 with
       |false=>exact av (qf _ H4 (s2.trans (s3.trans s4)) (by rw[c1,c2,c3];rfl))
       |true=>exact au ⟨_,rfl,a,_,4,u4,rfl,rfl,SqT.of (s4 _ _ (s3 _ _ (s2 _ _ ha))),ad (j:=4) rfl,u4,d4,rfl,R4.mono (s2.trans (s3.trans s4)),sr d4 (),λH5 s5=>qf _ H5 (s2.trans (s3.trans (s4.trans s5))) (by rw[c1,c2,c3];rfl)⟩
   ·rw[Q8 z]
    refine au (qd _ H1 (ae.refl _) ?_)
    rw[dZ,Q6 h1,Q9 rfl,ϧ]
    match r,z with
    |[],_=>rfl
    |[_],_=>rfl
    |[_,_],_=>rfl
    |[_,_,_],_=>rfl
    |[_,_,_,_],z=>exact absurd rfl z
    |_::_::_::_::_::_,_=>rfl
  rw[Q8 h2]
  refine au (au (qd _ H1 (ae.refl _) ?_))
  rw[dZ,Q6 h1,Q8 h2];rfl
abbrev eV:Stmt:=top 50
abbrev dF:Stmt:=top 54
abbrev dM:Stmt:=top 55
abbrev di:Stmt:=top 56
abbrev gX:Stmt:=top 57
theorem sy:∀{ys:List Str},¬ ys.Nodup->∃zs:List Str,zs.length<ys.length/\∀x∈ys,x∈zs
 |[],h=>absurd List.nodup_nil h
 |y::ys,h=>by
  by_cases hy:y∈ys
  ·exact⟨ys,DS _,λx hx=>by rcases μ.mp hx with rfl|hx;exact hy;exact hx⟩
  ·obtain⟨zs,h1,h2⟩:=sy (ys:=ys) λz=>h (m9.mpr ⟨hy,z⟩)
   exact⟨y::zs,Nat.succ_lt_succ h1,λx hx=>by
    rcases μ.mp hx with rfl|hx
    ·exact Δ
    ·exact υ _ (h2 x hx)⟩
theorem oK{zs ys:List Str}(nd:zs.Nodup)(h:∀x,x∈zs↔x∈ys):decide ((zs.length:Int)<(ys.length:Int))=!decide ys.Nodup:=by
 by_cases n:ys.Nodup
 ·have:=d_ ys zs n λx hx=>(h x).mpr hx
  rw[Q9 n,Q8 ()];rfl
 ·obtain⟨xs,h1,h2⟩:=sy n
  have:=d_ zs xs nd λx hx=>h2 x ((h x).mp hx)
  rw[Q8 n,Q9 ()];rfl
def sP(K:ζ):Sp:=λvs H Q _=>∃(l:Addr) (ys:List Str),vs=[.ref l]/\(SqL K H l (ys.map V.str)\/SqT K H l (ys.map V.str))/\ys.length<=1000/\∀H',ae H H'->Q (.bl (!decide ys.Nodup)) H'
inductive Rw where
 |ask (e:Dv)
 |df (f:Str) (ns:List Str) (ps:List Prm) (e:Dv)
def Rw.dv:Rw->Dv
 |.ask e=>.tup [.str "ask",e]
 |.df f ns ps e=>.tup [.str "def",.str f,.tup (ns.map Dv.str),.tup (ps.map bX),e]
def Rw.f?:Rw->List Str
 |.ask _=>[]
 |.df f _ _ _=>[f]
theorem iN:¬ (V.str (ξ "ask")=V.str (ξ "def")):=wne ()
theorem Rw.inv{H:Hp}{r:Rw}{v:V}(R:Rep H r.dv v):∃a,v=.ref a/\match r with
  |.ask _=>∃u,H a=some (.tup [.str "ask",u])
  |.df f ns ps _=>∃b c u,H a=some (.tup [.str "def",.str f,.ref b,.ref c,u])/\Rep H (.tup (ns.map Dv.str)) (.ref b)/\Rep H (.tup (ps.map bX)) (.ref c):=by
 cases r with
 |ask e=>
  obtain⟨a,vs,rfl,ha,rs⟩:=Rep.tup_inv (show Rep H (.tup [.str "ask",e]) v from R)
  obtain⟨x,y,rfl,r1,r2⟩:=Reps.two rs
  simp only[Rep]at r1
  subst r1
  exact⟨a,rfl,y,ha⟩
 |df f ns ps e=>
  obtain⟨a,vs,rfl,ha,rs⟩:=Rep.tup_inv (show Rep H (.tup [.str "def",.str f,.tup (ns.map Dv.str),.tup (ps.map bX),e]) v from R)
  simp only[Reps]at rs
  obtain⟨u1,_,rfl,R1,u2,_,rfl,R2,u3,_,rfl,R3,u4,_,rfl,R4,u5,_,rfl,R5,rfl⟩:=rs
  simp only[Rep]at R1 R2
  subst R1;subst R2
  obtain⟨b,_,rfl,_⟩:=Rep.tup_inv R3
  obtain⟨c,_,rfl,_⟩:=Rep.tup_inv R4
  exact⟨a,rfl,b,c,u5,ha,R3,R4⟩
theorem bM{H:Hp}:∀{ns:List Str}{ws:List V},Reps H (ns.map Dv.str) ws->ws=ns.map V.str
 |[],ws,h=>by simpa only[Ϫ,Reps]using h
 |n::ns,ws,h=>by
  simp only[ό,Reps]at h
  obtain⟨v,r,rfl,h1,h2⟩:=h
  simp only[Rep]at h1
  rw[h1,bM h2];rfl
theorem ae.seqT{K:ζ}{H H':Hp}{a:Addr}{xs:List V}(e:ae H H')(h:SqT K H a xs):SqT K H' a xs:=by
 rcases h with h|h
 ·exact .inl (h.imp (λz=>e _ _ z) λ⟨o,z⟩=>⟨o,e _ _ z⟩)
 ·exact .inr h
theorem oo:am ["things"] ["things"] (ag eV):=by trivial
theorem om{f:Addr}{fd:Ο}(F:Fun K "is_twice" "is_twice" eV f fd)(T:Txt K mg):aG P w K mg base CX0 1 f fd ["things"] (sP K):=by
 refine F.ok oo (λvs H Q E h=>?_) (λcdv A outer s H vs Q E hr h=>?_)
 ·obtain⟨l,ys,rfl,_⟩:=h
  rfl
 obtain⟨l,ys,rfl,hs,hl,q⟩:=h
 refine⟨_,(@un _ _ _ (wbQ (wbK (wap kR (wal kY rfl T.len () (wae (wam (kZ rfl) rfl T.set () (wae (wv 0 rfl) waf rfl) () () rfl rfl) waf rfl) () () rfl rfl) (wal ap rfl T.len () (wae (wv 0 rfl) waf rfl) () () rfl rfl) (ah _))))),?_⟩
 refine⟨_,rfl,l,ys,rfl,hs,hl,λa zs ha nd mz lz=>⟨a,zs,rfl,aa,?_⟩⟩
 have s1:=ac ha (SetO P w a zs)
 have hs1:SqL K (upd H a (SetO P w a zs)) l (ys.map V.str)\/SqT K (upd H a (SetO P w a zs)) l (ys.map V.str):=hs.imp (λh=>s1.seq h) (λh=>ae.seqT s1 h)
 refine⟨_,rfl,l,_,rfl,hs1,_,_,rfl,rfl,?_⟩
 show Q (.bl (decide ((zs.length:Int)<((ys.map V.str).length:Nat)))) _
 rw[ε,oK nd mz]
 exact q _ s1
abbrev dh:Stmt:=top 62
def Xp(h c:Nat)(d:Dv):Prop:=d.small=true/\∀m,h<m->exN m d<=c
theorem xz{c:Nat}:∀{l:List Nat},(∀x∈l,x<=c)->l.sum<=l.length*c
 |[],_=>by simp
 |x::l,h=>by
  have h1:=h x Δ
  have h2:=xz (l:=l) λy hy=>h y (υ _ hy)
  rw[EQ,ϒ,Nat.succ_mul];omega
theorem xu:∀p∈WT,(Dv.str p.1).small=true:=by decide +kernel
theorem iB(x z:String)(ss:List So)(hp:((ξ x,ξ z,ss):Wd)∈WT){ds:List Dv}(hok:okF ss ds=true)(hf:(decide (ξ x≠"fold")||lB ds)=true)(hsm:∀d∈ds,d.small=true){h c k:Nat}(hall:∀e∈bd ss ds,Xp h c e)(hk:(bd ss ds).length<=k):Xp (h+1) (1+k*c) (.tup (.str x::ds)):=by
 have hl:=mZ hok
 have hn:dG (.tup (.str x::ds))=true:=by rw[show(Dv.str (ξ x))=.str ((ξ x,ξ z,ss):Wd).1 from rfl,gr hp,hok,hf];rfl
 have l9:ss.length<=9:=(by decide +kernel:∀p∈WT,p.2.2.length<=9) _ hp
 refine⟨bo (λd hd=>?_) (by rw[ϒ];omega),λm hm=>?_⟩
 ·rcases μ.mp hd with rfl|hd
  ·exact xu _ hp
  ·exact hsm d hd
 ·obtain⟨m,rfl⟩:∃j,m=j+1:=⟨m-1,()⟩
  have e1:exN (m+1) (.tup (.str x::ds))=1+((bR (.tup (.str x::ds))).map (exN m)).sum:=by show(if dG _=true then _ else _)=_;rw[hn];rfl
  rw[e1,show bR (.tup (.str x::ds))=bd ss ds from XB.parts_of hp ds]
  have h1:=xz (c:=c) (l:=(bd ss ds).map (exN m)) λy hy=>by
   obtain⟨e,he,rfl⟩:=Ζ.mp hy
   exact(hall e he).2 m ()
  rw[ε]at h1
  have h2:=Nat.mul_le_mul_right c hk
  omega
theorem BH{h c:Nat}{d:Dv}(x:Xp h c d)(a:h<=7)(b:c<=40):exD d=true:=Q9 (Ϙ (x.2 8 ()) b)
theorem dN{x:Str}(h:nmB x=true):(Dv.str x).small=true:=by
 simp only[Dv.small];exact Q9 (by have:=(mw h).2;omega)
theorem BT{x y:Str}(h:zB x)(hy:(y.cps.toList.drop 1).all (λc=>decide (c≠122))=true):y≠x:=λe=>by
 subst e
 obtain⟨j,hj,hz⟩:=h
 have hm:(122:Nat)∈y.cps.toList.drop 1:=by
  refine Λ (i:=j-1) ?_
  rw[List.getElem?_drop,show 1+(j-1)=j by omega]
  exact hz
 have:=e_.mp hy 122 hm
 simp at this
theorem noz:∀p∈WT,(p.1.cps.toList.drop 1).all (λc=>decide (c≠122))=true:=by decide +kernel
theorem CZ:∀x∈vW,(x.cps.toList.drop 1).all (λc=>decide (c≠122))=true:=by decide +kernel
theorem Ck{x:Str}(hn:nmB x=true)(hz:zB x):gY (.str x)=true:=by
 have h1:dq x=false:=by
  unfold dq
  rw[Dt]
  intro p hp
  simpa using BT hz (noz p hp)
 have h2:iq x=false:=by
  unfold iq inV
  rw[Dt]
  intro y hy
  obtain⟨z,hz',rfl⟩:=Ζ.mp hy
  have:=BT hz (CZ z hz')
  simpa[eqV]using this
 show(nmB x&&(!dq x && !iq x))=true
 rw[hn,h1,h2]
 rfl
section
variable{σ:St}{H:Hp}{ds:List Dv}{ta ti:TE}{d:Dv}
theorem mW{i:Int}(h:∀H1 (Q:VK),Q (.int i) H1->ta σ H1 Q):cT ta σ H (.int i):=λH1 _ Q q=>h H1 Q (q H1 _ (ae.refl _) (by simp[Rep]))
theorem iV{K:ζ}{i:Nat}{r:Addr}{xs:List Str}{y:Str}{j:Int}(hv:σ[i]?=some (some (.ref r)))(hr:H r=some (.lst (xs.map V.str)))(hi:∀H1 (Q:VK),Q (.int j) H1->ti σ H1 Q)(h0:0<=j)(hy:xs[j.toNat]?=some y):cT (tOp (uX K) (ig i) ti) σ H (.str y):=λH1 s Q q=>
 ⟨_,hv,hi H1 _ ⟨r,_,j,.str y,rfl,rfl,SqL.of (s _ _ hr),by
  have:=ad (show(xs.map V.str)[j.toNat]?=some (V.str y) by rw[Ν,hy];rfl)
  rwa[show((j.toNat:Nat):Int)=j by omega]at this,q H1 _ (ae.refl _) (by simp only[Rep])⟩⟩
theorem um{K:ζ}{ys:List Str}{y:Str}{j:Int}(h:cT ta σ H (.lst (ys.map Dv.str)))(hi:∀H1 (Q:VK),Q (.int j) H1->ti σ H1 Q)(h0:0<=j)(hy:ys[j.toNat]?=some y):cT (tOp (uX K) ta ti) σ H (.str y):=λH1 s Q q=>
 h H1 s _ λH2 v s2 R=>hi H2 _ (by
  rw[Rep]at R
  obtain⟨a,us,rfl,ha,ru⟩:=R
  have e:us=ys.map V.str:=bM ru
  subst e
  exact⟨a,_,j,.str y,rfl,rfl,SqL.of ha,by
   have:=ad (show(ys.map V.str)[j.toNat]?=some (V.str y) by rw[Ν,hy];rfl)
   rwa[show((j.toNat:Nat):Int)=j by omega]at this,q H2 _ s2 (by simp only[Rep])⟩)
theorem wo{α:Type}(k:Nat)(v:α):(Β k [v]).flatten=Β k v:=by
 induction k with
 |zero=>rfl
 |succ k ih=>rw[k7,Dy,ih];rfl
theorem nK{v:V}(R:Rep H d v):∀k:Nat,Reps H (Β k d) (Β k v)
 |0=>by simp[Reps]
 |k+1=>by rw[k7,k7,Reps];exact⟨v,_,rfl,R,nK R k⟩
theorem wB{K:ζ}{j:Int}(h:cT ta σ H (.tup [d]))(hi:∀H1 (Q:VK),Q (.int j) H1->ti σ H1 Q)(h0:0<=j)(h1:j<=1000):cT (tOp (zI K) ta ti) σ H (.tup (Β j.toNat d)):=λH1 s Q q=>
 h H1 s _ λH2 v s2 R=>hi H2 _ (by
  rw[Rep]at R
  obtain⟨a,us,rfl,ha,ru⟩:=R
  simp only[Reps]at ru
  obtain⟨u,_,rfl,Ru,rfl⟩:=ru
  refine⟨a,j,[u],rfl,rfl,SqT.of ha,(),h0,h1,by simp;omega,λe=>?_,λe p hp=>?_⟩
  ·subst e
   exact q H2 _ s2 (by rw[Rep];exact⟨a,[u],rfl,ha,by simp only[Int.toNat_one,List.replicate_one,Reps];exact⟨u,_,rfl,Ru,rfl⟩⟩)
  ·have s3:=ac hp (.tup (Β j.toNat [u]).flatten)
   exact q _ _ (s2.trans s3) (by rw[Rep];exact⟨p,_,rfl,aa,(wo j.toNat u).symm▸nK (Ru.mono s3) _⟩))
end
def qY:Sp:=λvs H Q _=>∃(a r:Addr) (n:Nat) (xs:List Str),vs=[.ref a,.ref r]/\Dr H a n/\H r=some (.lst (xs.map V.str))/\r≠a/\Nms xs/\∀(H':Hp)(v:V)(d:Dv),aD a H H'->Dr H' a (n-1-1)->Rep H' d v->exD d=true->d.small=true->L2.Pl 8 d->Q v H'
theorem kc{n:Nat}{ds:List Dv}(h:∀d∈ds,L2.Pl n d):L2.Pl (n+1) (.tup ds):=.tup h
theorem eP:am ["_law_draws_here","_law_names_here","_law_cell","_law_more","_law_x","_law_way"] ["_law_draws_here","_law_names_here"] (ag dh):=by trivial
theorem kh{f:Addr}{fd:Ο}{k:Nat}(F:Fun K "_law_expression" "_law_expression" dh f fd)(T:Txt K mg)(D_law_next:Def P w K mg base k "_law_next" ["_law_draws_here"] fB):aG P w K mg base CX0 (k+1) f fd ["_law_draws_here","_law_names_here"] qY:=by
 have nd:=eP.nd
 refine F.ok eP (λvs H Q E h=>?_) (λcdv A outer s H vs Q E hr h=>?_)
 ·obtain⟨a,r,n,xs,rfl,_⟩:=h
  rfl
 obtain⟨a,r,n,xs,rfl,hD,hR,ra,nms,q⟩:=h
 have p12:ya 10 12:=⟨(),(),()⟩
 have lx:=nms.len
 have pick:∀j:Int,0<=j->j<5->∃y,xs[j.toNat]?=some y/\y∈xs:=λj h0 h1=>by
  have hlt:j.toNat<xs.length:=by omega
  exact⟨xs[j.toNat],Γ hlt,f_ hlt⟩
 refine⟨_,(@un _ _ _ (wbO (wbM 2 nd rfl (Η rfl) (waq D_law_next hr rfl (wae (wv 0 rfl) waf rfl) () rfl rfl) rfl ()) (wbO (wbM 3 nd rfl (Η rfl) (waq D_law_next hr rfl (wae (wv 0 rfl) waf rfl) () rfl rfl) rfl ()) (wbO (wbM 4 nd rfl (Η rfl) (waX (wae waV (wae (waD aJ (wv 1 rfl) (waQ aA (waQ aS (wv 2 rfl) waC) waC) (λ_ _=>rfl)) waf rfl) rfl)) rfl ()) (wbO (wbM 5 nd rfl (Η rfl) (waQ aA (wv 2 rfl) waC) rfl ()) (wbO (wbI (wbS aB (wv 5 rfl) waC (ah _)) (wbQ (wbK (wv 4 rfl))) wbP) (wbO (wbI (wbS aB (wv 5 rfl) waC (ah _)) (wbQ (wbK (waX (wae waV (wae (waQ aA (wv 3 rfl) (waQ mK waC waC)) waf rfl) rfl)))) wbP) (wbO (wbI (wbS aB (wv 5 rfl) waC (ah _)) (wbQ (wbK (waX (wae waV (wae (waX (wae (waQ aA (wv 3 rfl) waC) (wae (waX (wae (waX (wae (waD aJ (wv 1 rfl) (waQ aA (waQ aS (wv 3 rfl) waC) waC) (λ_ _=>rfl)) (wae (waQ bv waC (waQ aA (waQ aS (wv 3 rfl) waC) waC)) waf rfl) rfl)) waf rfl)) waf rfl) rfl)) waf rfl) rfl)))) wbP) (wbO (wbI (wbS aB (wv 5 rfl) waC (ah _)) (wbQ (wbK (waX (wae waV (wae (waD aJ (waM (wae waV (wae waV waf rfl) rfl)) (waQ aA (wv 3 rfl) waC) (λ_ _=>rfl)) (wae (wv 4 rfl) (wae (wv 4 rfl) waf rfl) rfl) rfl) rfl)))) wbP) (wbO (wbI (wbS aB (wv 5 rfl) waC (ah _)) (wbQ (wbK (waX (wae waV (wae (waD aJ (wv 1 rfl) (waQ aA (wv 3 rfl) waC) (λ_ _=>rfl)) (wae (waQ yO (waX (wae (wv 4 rfl) waf rfl)) (waQ aA (waQ aS (wv 3 rfl) waC) waC)) waf rfl) rfl) rfl)))) wbP) (wbO (wbI (wbS aB (wv 5 rfl) waC (ah _)) (wbQ (wbK (waX (wae waV (wae (waD aJ (wv 1 rfl) (waQ aA (wv 3 rfl) waC) (λ_ _=>rfl)) (wae (waX (wae (waQ aA (waQ aS (wv 3 rfl) waC) waC) (wae (waX waf) waf rfl) rfl)) (wae (waX (wae waV (wae (wv 4 rfl) (wae (wv 4 rfl) waf rfl) rfl) rfl)) waf rfl) rfl) rfl) rfl)))) wbP) (wbQ (wbK (waX (wae waV (wae (waX (wae waV waf rfl)) waf rfl) rfl))))))))))))))),?_⟩
 symm
 refine⟨_,rfl,a,n,rfl,hD,λH1 c s1 D1 c0 c1=>?_⟩
 refine⟨_,rfl,a,n-1,rfl,D1,λH2 m s2 D2 m0 m1=>?_⟩
 have r2:=(s1.trans s2) _ _ ra hR
 obtain⟨b0,b1⟩:=aL (a:=c/7) 5 ()
 obtain⟨y,hy,my⟩:=pick _ b0 b1
 have ny:=nms.nm y my
 have q2:∀(H':Hp)(v:V)(d:Dv),ae H2 H'->Rep H' d v->exD d=true->d.small=true->L2.Pl 8 d->Q v H':=λH' v d s R e sm pl=>q H' v d ((s1.trans s2).trans (ae.b a s)) (D2.m s) R e sm pl
 refine wz (d:=.tup [.str "name",.str y]) (aQ (ak bB (ak (iV (j:=c/7%5) rfl r2 (λH1 Q q=>⟨_,rfl,_,_,rfl,rfl,⟨(),()⟩,_,_,rfl,rfl,(by show(0:Int)<5;decide),q⟩) b0 hy) aI)) (ϊ rfl)) λH3 vx s3 Rx=>?_
 have xx:Xp 1 1 (.tup [.str "name",.str y]):=iB "name" "x" [.x] () (h:=0) (c:=0) (k:=0) (by show(nmB y&&true)=true;rw[ny];rfl) rfl (λd hd=>by rw[θ.mp hd];exact dN ny) (λe he=>by simp[bd,XB.ptD]at he) (by simp[bd,XB.ptD])
 have px:L2.Pl 4 (.tup [.str "name",.str y]):=kc λd hd=>by
  rcases μ.mp hd with rfl|hd
  ·exact .str
  ·rw[θ.mp hd];exact .str
 have sx:=xx.1
 have q3:∀(H':Hp)(v:V)(d:Dv){h c:Nat},ae H3 H'->Rep H' d v->Xp h c d->h<=7->c<=40->L2.Pl 8 d->Q v H':=λH' v d h c s R x a b pl=>q2 H' v d (s3.trans s) R (BH x a b) x.1 pl
 have r3:=s3 _ _ r2
 refine⟨_,rfl,_,_,rfl,rfl,(by show(0:Int)<7;decide),?_⟩
 refine⟨_,rfl,rfl,_,rfl,aF (λ_=>?_) (λ_=>?_)⟩
 ·exact⟨_,rfl,q3 H3 vx _ (ae.refl _) Rx xx () () (px.up ())⟩
 refine⟨_,rfl,rfl,_,rfl,aF (λ_=>?_) (λ_=>?_)⟩
 ·obtain⟨d0,d1⟩:=aL (a:=m) (10^(12:Int).toNat) ()
  refine aQ (ds:=[.str "number",.int (m%10^(12:Int).toNat)]) (ak bB (ak (mW λH1 Q q=>⟨_,rfl,_,_,rfl,rfl,p12,_,_,rfl,rfl,(by show(0:Int)<10^(12:Int).toNat;decide),q⟩) aI)) (ϊ rfl) H3 (ae.refl _) _ λH4 v s4 R=>?_
  refine q3 H4 v _ s4 R (iB "number" "n" [.n] () (h:=0) (c:=0) (k:=0) ?_ rfl (λd hd=>by rw[θ.mp hd];rfl) (λe he=>by simp[bd,XB.ptD]at he) (by simp[bd,XB.ptD])) () () ?_
  ·show((decide (0<=m%10^(12:Int).toNat)&&decide (m%10^(12:Int).toNat<1000000000000))&&true)=true
   rw[Q9 d0,Q9 (show m%10^(12:Int).toNat<1000000000000 from d1)];rfl
  ·exact(kc (n:=0) λd hd=>by
    rcases μ.mp hd with rfl|hd
    ·exact .str
    ·rw[θ.mp hd];exact .int).up ()
 refine⟨_,rfl,rfl,_,rfl,aF (λ_=>?_) (λ_=>?_)⟩
 ·obtain⟨e0,e1⟩:=aL (a:=m) 100 ()
  obtain⟨f0,f1⟩:=aL (a:=m/100) 5 ()
  obtain⟨g0,g1⟩:=aL (a:=m/500) 99 ()
  obtain⟨z,hz,mz⟩:=pick _ f0 f1
  have nz:=nms.nm z mz
  have sl:SL (m%100) [(z,1+m/500%99)]:=qj e0 () ⟨Eo _ _,λp hp=>by rw[θ.mp hp];show 1<=1+m/500%99;omega⟩ (by show 1<=900;decide) λp hp=>by rw[θ.mp hp];exact⟨nz,by show 1+m/500%99<=99;omega⟩
  refine aQ (ds:=[.str "length",aY (m%100) [(z,1+m/500%99)]]) (ak bB (ak (aQ (ak (mW λH1 Q q=>⟨_,rfl,_,_,rfl,rfl,(by show(0:Int)<100;decide),q⟩) (ak (aQ (ak (aQ (ak (iV (j:=m/100%5) rfl r3 (λH1 Q q=>⟨_,rfl,_,_,rfl,rfl,⟨(),()⟩,_,_,rfl,rfl,(by show(0:Int)<5;decide),q⟩) f0 hz) (ak (mW λH1 Q q=>⟨_,rfl,_,_,rfl,rfl,⟨(),()⟩,_,_,rfl,rfl,(by show(0:Int)<99;decide),_,_,rfl,rfl,q⟩) aI)) (ϊ rfl)) aI) (ϊ rfl)) aI)) (ϊ rfl)) aI)) (ϊ rfl) H3 (ae.refl _) _ λH4 v s4 R=>?_
  refine q3 H4 v _ s4 R (iB "length" "l" [.l] () (h:=0) (c:=0) (k:=0) (by show(slD (aY _ _)&&true)=true;rw[sl.1];rfl) rfl (λd hd=>by rw[θ.mp hd];exact sl.2) (λe he=>by simp[bd,XB.ptD]at he) (by simp[bd,XB.ptD])) () () ?_
  exact(kc (n:=3) λd hd=>by
    rcases μ.mp hd with rfl|hd
    ·exact .str
    ·rw[θ.mp hd];exact fw _ _).up ()
 refine⟨_,rfl,rfl,_,rfl,aF (λ_=>?_) (λ_=>?_)⟩
 ·obtain⟨f0,f1⟩:=aL (a:=m) 2 ()
  obtain⟨z,hz,mz⟩:∃z:Str,[ξ "plus",ξ "less"][(m%2).toNat]?=some z/\iq z=true/\(Dv.str z).small=true:=by
   rcases(by omega:m%2=0\/m%2=1)with e|e
   ·rw[e];exact⟨ξ "plus",rfl,(),()⟩
   ·rw[e];exact⟨ξ "less",rfl,(),()⟩
  refine aQ (ds:=[.str "reckon",.str z,.tup [.str "name",.str y],.tup [.str "name",.str y]]) (ak bB (ak (um (ys:=[ξ "plus",ξ "less"]) (vq (ak bB (ak bB aI)) (ϊ rfl)) (λH1 Q q=>⟨_,rfl,_,_,rfl,rfl,(by show(0:Int)<2;decide),q⟩) f0 hz) (ak (bc rfl Rx) (ak (bc rfl Rx) aI)))) (ϊ rfl) H3 (ae.refl _) _ λH4 v s4 R=>?_
  refine q3 H4 v _ s4 R (iB "reckon" "wee" [.w,.e,.e] () (h:=1) (c:=1) (k:=2) (by show(iq z&&(true&&(true&&true)))=true;rw[mz.1];rfl) rfl (λd hd=>?_) (λe he=>?_) (by simp[bd,XB.ptD])) () () ?_
  ·rcases μ.mp hd with rfl|hd
   ·exact mz.2
   rcases μ.mp hd with rfl|hd
   ·exact sx
   ·rw[θ.mp hd];exact sx
  ·have:e=.tup [.str "name",.str y]:=by simpa[bd,XB.ptD]using he
   rw[this];exact xx
  ·exact(kc (n:=4) λd hd=>by
    rcases μ.mp hd with rfl|hd
    ·exact .str
    rcases μ.mp hd with rfl|hd
    ·exact .str
    rcases μ.mp hd with rfl|hd
    ·exact px
    ·rw[θ.mp hd];exact px).up ()
 refine⟨_,rfl,rfl,_,rfl,aF (λ_=>?_) (λ_=>?_)⟩
 ·obtain⟨f0,f1⟩:=aL (a:=m) 5 ()
  obtain⟨g0,g1⟩:=aL (a:=m/5) 5 ()
  obtain⟨z,hz,mz⟩:=pick _ f0 f1
  have nz:=nms.nm z mz
  have lr:(Β (m/5%5).toNat (Dv.tup [.str "name",.str y])).length<=4:=by rw[u7];omega
  refine aQ (ds:=[.str "call",.str z,.tup (Β (m/5%5).toNat (.tup [.str "name",.str y]))]) (ak bB (ak (iV (j:=m%5) rfl r3 (λH1 Q q=>⟨_,rfl,_,_,rfl,rfl,(by show(0:Int)<5;decide),q⟩) f0 hz) (ak (wB (j:=m/5%5) (aQ (ak (bc rfl Rx) aI) (ϊ rfl)) (λH1 Q q=>⟨_,rfl,_,_,rfl,rfl,⟨(),()⟩,_,_,rfl,rfl,(by show(0:Int)<5;decide),q⟩) g0 ()) aI))) (ϊ rfl) H3 (ae.refl _) _ λH4 v s4 R=>?_
  refine q3 H4 v _ s4 R (iB "call" "fa" [.f,.a] () (h:=1) (c:=1) (k:=4) ?_ rfl (λd hd=>?_) (λe he=>?_) ?_) () () ?_
  ·show(gY (.str z)&&((decide ((0:Int)<=((Β (m/5%5).toNat (Dv.tup [.str "name",.str y])).length:Int))&&decide (((Β (m/5%5).toNat (Dv.tup [.str "name",.str y])).length:Int)<=4))&&true))=true
   rw[Ck nz (nms.z z mz),Q9 (),Q9 ()];rfl
  ·rcases μ.mp hd with rfl|hd
   ·exact dN nz
   ·rw[θ.mp hd];exact bo (λd hd=>by rw[Ec hd];exact sx) ()
  ·have:e∈Β (m/5%5).toNat (Dv.tup [.str "name",.str y]):=by simpa[bd,XB.ptD,tf]using he
   rw[Ec this];exact xx
  ·show(XB.ptD .f (.str z)++(Β (m/5%5).toNat (Dv.tup [.str "name",.str y])++[])).length<=4
   rw[χ,χ];simp only[XB.ptD,Ed];omega
  ·exact(kc (n:=5) λd hd=>by
    rcases μ.mp hd with rfl|hd
    ·exact .str
    rcases μ.mp hd with rfl|hd
    ·exact .str
    ·rw[θ.mp hd];exact kc λd hd=>by rw[Ec hd];exact px).up ()
 refine⟨_,rfl,rfl,_,rfl,aF (λ_=>?_) (λ_=>?_)⟩
 ·obtain⟨f0,f1⟩:=aL (a:=m) 5 ()
  obtain⟨g0,g1⟩:=aL (a:=m/5) 100 ()
  obtain⟨z,hz,mz⟩:=pick _ f0 f1
  have nz:=nms.nm z mz
  have sl:SL (m/5%100) []:=qj g0 () ⟨.nil,()⟩ (by show 0<=900;decide) ()
  have xp:Xp 2 3 (.tup [.str "pair",.tup [.str "name",.str y],.tup [.str "name",.str y]]):=iB "pair" "ee" [.e,.e] () (h:=1) (c:=1) (k:=2) rfl rfl (λd hd=>by
    rcases μ.mp hd with rfl|hd
    ·exact sx
    ·rw[θ.mp hd];exact sx) (λe he=>by
    have:e=.tup [.str "name",.str y]:=by simpa[bd,XB.ptD]using he
    rw[this];exact xx) (by simp[bd,XB.ptD])
  refine aQ (ds:=[.str "loop",.str z,aY (m/5%100) [],.tup [.str "pair",.tup [.str "name",.str y],.tup [.str "name",.str y]]]) (ak bB (ak (iV (j:=m%5) rfl r3 (λH1 Q q=>⟨_,rfl,_,_,rfl,rfl,(by show(0:Int)<5;decide),q⟩) f0 hz) (ak (aQ (ak (mW λH1 Q q=>⟨_,rfl,_,_,rfl,rfl,⟨(),()⟩,_,_,rfl,rfl,(by show(0:Int)<100;decide),q⟩) (ak (aQ aI (ϊ rfl)) aI)) (ϊ rfl)) (ak (aQ (ak bB (ak (bc rfl Rx) (ak (bc rfl Rx) aI))) (ϊ rfl)) aI)))) (ϊ rfl) H3 (ae.refl _) _ λH4 v s4 R=>?_
  refine q3 H4 v _ s4 R (iB "loop" "xle" [.x,.l,.e] () (h:=2) (c:=3) (k:=1) (by show(nmB z&&(slD (aY _ _)&&(true&&true)))=true;rw[nz,sl.1];rfl) rfl (λd hd=>?_) (λe he=>?_) (by simp[bd,XB.ptD])) () () ?_
  ·rcases μ.mp hd with rfl|hd
   ·exact dN nz
   rcases μ.mp hd with rfl|hd
   ·exact sl.2
   ·rw[θ.mp hd];exact xp.1
  ·have:e=.tup [.str "pair",.tup [.str "name",.str y],.tup [.str "name",.str y]]:=by simpa[bd,XB.ptD]using he
   rw[this];exact xp
  ·exact(kc (n:=5) λd hd=>by
    rcases μ.mp hd with rfl|hd
    ·exact .str
    rcases μ.mp hd with rfl|hd
    ·exact .str
    rcases μ.mp hd with rfl|hd
    ·exact(fw _ _).up ()
    ·rw[θ.mp hd];exact kc λd hd=>by
      rcases μ.mp hd with rfl|hd
      ·exact .str
      rcases μ.mp hd with rfl|hd
      ·exact px
      ·rw[θ.mp hd];exact px).up ()
 refine aQ (ds:=[.str "none",.tup [.str "whole"]]) (ak bB (ak (aQ (ak bB aI) (ϊ rfl)) aI)) (ϊ rfl) H3 (ae.refl _) _ λH4 v s4 R=>?_
 refine q3 H4 v _ s4 R (iB "none" "k" [.k] () (h:=0) (c:=0) (k:=0) ?_ rfl (λd hd=>by rw[θ.mp hd];decide +kernel) (λe he=>by simp[bd,XB.ptD]at he) (by simp[bd,XB.ptD])) () () ?_
 ·show(decide (aU (.tup [.str "whole"])<=12)&&true)=true
  rw[BR,Q0 rfl];rfl
 ·exact (kc (n := 1) λd hd => by
    rcases μ.mp hd with rfl|hd
    ·exact .str
    ·rw[θ.mp hd];exact kc λd hd=>by rw[θ.mp hd];exact .str).up ()
abbrev vi:Stmt:=top 63
structure Sm(ns:List Str)(x:Str)(c:Int)(ps:List Pr):Prop where
 c0:0<=c
 c1:c<=99
 can:rm ps
 len:ps.length<=5
 all:∀p∈ps,p.2<=99/\(p.1∈ns\/(x≠""/\p=(x,1)))
 new:x≠""->(x,(1:Int))∈ps
def zz:Sp:=λvs H Q _=>∃(a t:Addr) (n:Nat) (ns:List Str) (x:Str),vs=[.ref a,.ref t,.str x]/\Dr H a n/\H t=some (.lst (ns.map V.str))/\t≠a/\ns.length<=4/\x∉ns /\
 ∀(H':Hp)(v:V)(c:Int)(ps:List Pr),aD a H H'->Dr H' a (n-1)->Rep H' (aY c ps) v->Sm ns x c ps->Q v H'
theorem zV{i:Nat}(h:i<4):∃n:Int,atI ([V.int 16,V.int 1584,V.int 156816,V.int 15524784]:List V) (i:Int)=some (.int n)/\0<n/\n<10^9:=by
 rcases(by omega:i=0\/i=1\/i=2\/i=3)with rfl|rfl|rfl|rfl
 ·exact⟨16,ad (j:=0) rfl,()⟩
 ·exact⟨1584,ad (j:=1) rfl,()⟩
 ·exact⟨156816,ad (j:=2) rfl,()⟩
 ·exact⟨15524784,ad (j:=3) rfl,()⟩
theorem wb:am ["_law_draws_here","_law_told","_law_new","_law_cell","_law_parts","_law_k","_law_name"] ["_law_draws_here","_law_told","_law_new"] (ag vi):=by trivial
theorem zU{f:Addr}{fd:Ο}{k:Nat}(F:Fun K "_law_sum" "_law_sum" vi f fd)(T:Txt K mg)(D_law_next:Def P w K mg base k "_law_next" ["_law_draws_here"] fB):aG P w K mg base CX0 (k+1) f fd ["_law_draws_here","_law_told","_law_new"] zz:=by
 have nd:=wb.nd
 refine F.ok wb (λvs H Q E h=>?_) (λcdv A outer s H vs Q E hr h=>?_)
 ·obtain⟨a,t,n,ns,x,rfl,_⟩:=h
  rfl
 obtain⟨a,t,n,ns,x,rfl,hD,hT,ta,l4,xn,q⟩:=h
 have hu:=jE hr
 refine⟨_,(@un _ _ _ (wbO (wbM 3 nd rfl (Η rfl) (waq D_law_next hr rfl (wae (wv 0 rfl) waf rfl) () rfl rfl) rfl ()) (wbO (wbM 4 nd rfl (Η rfl) waA rfl ()) (wbO (wbH ϛ rfl (wbg rfl T.enumerate (wae (wv 1 rfl) waf rfl) rfl) (wbb rfl (wbd (waZ 5 nd rfl (Η rfl) ()) (wbd (waZ 6 nd rfl (Η rfl) ()) wbe rfl) rfl) rfl rfl) (wbQ (wbI (wbS aB (waQ AQ (waQ Ay (wv 3 rfl) (wv 5 rfl)) waC) waC (ah _)) (wbQ (wbF hu (wv 4 rfl) (wv 6 rfl) (waQ bv waC (waQ aA (waQ cG (wv 3 rfl) (waD aJ (waM (wae waC (wae waC (wae waC (wae waC waf rfl) rfl) rfl) rfl)) (wv 5 rfl) (λ_ _=>rfl))) waC)) rfl)) wbP)) ()) (wbO (wbI (wbS fL (wv 2 rfl) waV (ah _)) (wbQ (wbF hu (wv 4 rfl) (wv 2 rfl) waC rfl)) wbP) (wbQ (wbK (waX (wae (waQ aA (waQ cG (wv 3 rfl) waC) waC) (wae (wam bF rfl T.tuple () (wae (wal (fF rfl) rfl T.sorted () (wae (wak Em Ep PySem.F.type_dict_items pA (wv 4 rfl) rfl rfl) waf rfl) () () rfl rfl) waf rfl) () () rfl rfl) waf rfl) rfl))))))))),?_⟩
 symm
 refine⟨_,rfl,a,n,rfl,hD,λH1 c s1 D1 c0 c1=>?_⟩
 intro d hd
 have da:d≠a:=λe=>D1.some (e▸hd)
 have t1:=s1 _ _ ta hT
 have dt:t≠d:=af t1 hd
 have s2:=ac hd (.dK [])
 have d2:upd H1 d (.dK []) d=some (.dK (dk [])):=aa
 have D2:=D1.m s2
 have t2:=s2 _ _ t1
 generalize upd H1 d (.dK [])=H2 at s2 d2 D2 t2⊢
 refine⟨_,rfl,t,rfl,⟨_,SqL.of t2⟩,dJ (xs:=ns.map V.str) (λi σ H'=>∃(kvs:List Pr) (o1 o2:Option V),σ=[some (.ref a),some (.ref t),some (.str x),some (.int c),some (.ref d),o1,o2]/\ae H1 H'/\H' d=some (.dK (dk kvs))/\(kvs.map (·.1)).Nodup/\kvs.length<=i/\∀p∈kvs,p.1∈ns/\1<=p.2/\p.2<=99)
  ⟨[],_,_,rfl,s2,d2,(),(),()⟩ (λi σ H' _ ⟨_,_,_,_,sx,_⟩=>SqL.of (sx _ _ t1)) ?T1 ?_⟩
 case T1=>
  rintro i y σ H3 p hx ⟨kvs,o1,o2,rfl,s3,d3,ndk,lk,hall⟩ hp
  rw[Ν]at hx
  obtain⟨z,hz,rfl⟩:=c6.mp hx
  have hi:i<ns.length:=(ο.mp hz).1
  have zm:=Λ hz
  have s4:=s3.trans (ac hp (.tup [.int i,.str z]))
  have d4:=ac hp (.tup [.int i,.str z]) _ _ d3
  refine⟨p,_,rfl,SqT.of aa,rfl,_,_,rfl,_,_,rfl,rfl,?_⟩
  generalize upd H3 p (.tup [.int i,.str z])=H4 at s4 d4⊢
  refine⟨_,rfl,_,rfl,_,_,rfl,rfl,(by show(0:Int)<=(i:Int);omega),_,_,rfl,rfl,rfl,_,rfl,aF (λ_=>?_) (λ_=>⟨kvs,_,_,rfl,s4,d4,ndk,(),hall⟩)⟩
  obtain⟨m,hm,m0,m1⟩:=zV (i:=i) ()
  refine⟨_,rfl,le4,λl hl=>?_⟩
  have s5:=ac hl (.lst [V.int 16,.int 1584,.int 156816,.int 15524784])
  have d5:=s5 _ _ d4
  obtain⟨g0,g1⟩:=aL (a:=c/m) 99 ()
  refine⟨_,rfl,l,_,_,.int m,rfl,rfl,SqL.of aa,hm,_,_,rfl,rfl,⟨m0,()⟩,_,_,rfl,rfl,(by show(0:Int)<99;decide),_,_,rfl,rfl,_,rfl,_,rfl,d,_,rfl,iG.k (k:=Μ z) d5 ?_,?_⟩
  ·rw[show(dk kvs).length=kvs.length from ε _,ω];omega
  refine⟨fj kvs z (1+c/m%99),_,_,rfl,λe o he=>?_,?_,kG ndk,Ϙ (xh _ _ _) (),oP (R:=λp=>p.1∈ns/\1<=p.2/\p.2<=99) hall ⟨zm,by show 1<=1+c/m%99;omega,by show 1+c/m%99<=99;omega⟩⟩
  ·rw[ai (af he hd)];exact s5 _ _ (s4 _ _ he)
  ·rw[aa,jU]
 rintro σ H3 ⟨kvs,o1,o2,rfl,s3,d3,ndk,lk,hall⟩
 rw[ε]at lk
 have s03:aD a H H3:=s1.trans (ae.b a s3)
 have D3:=D1.m s3
 obtain⟨g0,g1⟩:=aL (a:=c/1536953616) 100 ()
 have fin:∀(H4:Hp)(kv:List Pr),aD a H H4->Dr H4 a (n-1)->H4 d=some (.dK (dk kv))->kv.length<=5->(∀p∈kv,1<=p.2)->(∀p∈kv,p.2<=99/\(p.1∈ns\/(x≠""/\p=(x,1))))->(x≠""->(x,(1:Int))∈kv)->∀v,H4 v=none->∀(H5:Hp)(l:Addr)(qs:List TK),ae (upd H4 v (gp v d)) H5->(∀r∈qs,H5 r.1=some (.tup (.str r.2.1::r.2.2))/\upd H4 v (gp v d) r.1=none)->H5 l=some (.lst (qs.map λr=>V.ref r.1))->(qs.map (·.2)).Perm ((kv.map λp=>(p.1,V.int p.2)).map λp=>(p.1,[p.2]))->qs.Pairwise wN ->
   ∀t,H5 t=none->2<=sizeLine/\∀p,upd H5 t (.tup (qs.map λr=>V.ref r.1)) p=none->Q (.ref p) (upd (upd H5 t (.tup (qs.map λr=>V.ref r.1))) p (.tup [.int (c/1536953616%100),.ref t])):=λH4 kv s4 D4 d4 l5 ge all new v hv H5 l qs s5 hq hl pq pw t ht=>by
  obtain⟨perm,can,rep⟩:=ik hq pq pw ge
  refine⟨z2,λp hp=>?_⟩
  have s6:=(ac hv (gp v d)).trans (s5.trans (ac ht (.tup (qs.map λr=>V.ref r.1))))
  have s7:=ac hp (.tup [.int (c/1536953616%100),.ref t])
  exact q _ _ _ _ (s4.trans (ae.b a (s6.trans s7))) (D4.m (s6.trans s7)) (oJ aa ((rep t ht).mono s7)) ⟨g0,(),can,by rw[perm.length_eq];exact l5,λp hp=>all p (perm.mem_iff.mp hp),λe=>perm.mem_iff.mpr (new e)⟩
 have two:∀(H4:Hp)(kv:List Pr)(v:Addr),H4 d=some (.dK (dk kv))->H4 v=none->upd H4 v (gp v d) d=some (.dK ((kv.map λp=>(p.1,V.int p.2)).map λp=>((Μ p.1:Key),p.2))):=λH4 kv v d4 hv=>by rw[ai (af d4 hv),d4,ύ];rfl
 refine⟨_,rfl,rfl,_,rfl,?_⟩
 show if (!decide (V.str x=V.str ""))=true then _ else _
 rw[bu]
 by_cases hx:x=""
 ·rw[Q9 hx]
  refine av ⟨_,rfl,_,_,rfl,rfl,⟨(),()⟩,_,_,rfl,rfl,(by show(0:Int)<100;decide),?_⟩
  refine⟨_,rfl,.inr (.inr (.inl ⟨rfl,.inl ⟨_,d3⟩⟩)),d,_,rfl,rfl,d3,λv hv=>?_⟩
  refine⟨v,d,kvs.map λp=>(p.1,V.int p.2),rfl,aa,two H3 kvs v d3 hv,by rw[ε];omega,λH4 l4 qs s4 _ hq hl4 pq pw=>⟨l4,_,rfl,.inl ⟨SqL.of hl4,λt ht=>?_⟩⟩⟩
  exact fin H3 kvs s03 D3 d3 () (λp hp=>(hall p hp).2.1) (λp hp=>⟨(hall p hp).2.2,.inl (hall p hp).1⟩) (λz=>absurd hx z) v hv H4 l4 qs s4 hq hl4 pq pw t ht
 ·rw[Q8 hx]
  have xk:x∉kvs.map (·.1):=λz=>by obtain⟨p,hp,e⟩:=Ζ.mp z;exact xn (e▸(hall p hp).1)
  refine au ⟨_,rfl,_,rfl,d,_,rfl,iG.k (k:=Μ x) d3 ?_,?_⟩
  ·rw[show(dk kvs).length=kvs.length from ε _,ω];omega
  have d4:upd H3 d (.dK (cx (dk kvs) (Μ x) (.int 1))) d=some (.dK (dk (kvs++[(x,1)]))):=by rw[aa,<-jU,xc xk]
  have s4:aD a H (upd H3 d (.dK (cx (dk kvs) (Μ x) (.int 1)))):=λg o hg e=>by
   by_cases z:g=d
   ·subst z
    rw[s1 _ _ hg e]at hd;cases hd
   ·rw[ai z];exact s03 g o hg e
  have D4:=D3.b (aD.upd H3 d (.dK (cx (dk kvs) (Μ x) (.int 1)))) (Ϗ da)
  generalize upd H3 d (.dK (cx (dk kvs) (Μ x) (.int 1)))=H4 at d4 s4 D4⊢
  refine⟨_,rfl,_,_,rfl,rfl,⟨(),()⟩,_,_,rfl,rfl,(by show(0:Int)<100;decide),?_⟩
  refine⟨_,rfl,.inr (.inr (.inl ⟨rfl,.inl ⟨_,d4⟩⟩)),d,_,rfl,rfl,d4,λv hv=>?_⟩
  refine⟨v,d,(kvs++[(x,1)]).map λp:Pr=>(p.1,V.int p.2),rfl,aa,two H4 _ v d4 hv,by rw[ε,χ,ϥ];omega,λH5 l4 qs s5 _ hq hl4 pq pw=>⟨l4,_,rfl,.inl ⟨SqL.of hl4,λt ht=>?_⟩⟩⟩
  refine fin H4 _ s4 D4 d4 (by rw[χ,ϥ];omega) (λp hp=>?_) (λp hp=>?_) (λ_=>by simp) v hv H5 l4 qs s5 hq hl4 pq pw t ht
  ·rcases ϖ.mp hp with h|h
   ·exact(hall p h).2.1
   ·rw[θ.mp h];exact Int.le_refl 1
  ·rcases ϖ.mp hp with h|h
   ·exact⟨(hall p h).2.2,.inl (hall p h).1⟩
   ·rw[θ.mp h];exact⟨by show(1:Int)<=99;decide,.inr ⟨hx,rfl⟩⟩
structure SmK(os:List Str)(c:Int)(ps:List Pr):Prop where
 c0:0<=c
 c1:c<=99
 can:rm ps
 len:ps.length<=5
 all:∀p∈ps,p.2<=99/\p.1∈os
theorem Sm.k{os ns:List Str}{x:Str}{c:Int}{ps:List Pr}(h:Sm ns x c ps)(hs:∀y∈ns,y∈os)(hx:x≠""->x∈os):SmK os c ps:=⟨h.c0,h.c1,h.can,h.len,λp hp=>⟨(h.all p hp).1,by
 rcases(h.all p hp).2 with z|z
 ·exact hs _ z
 ·rw[z.2];exact hx z.1⟩⟩
theorem vB{k:Kd}(h:k.word="row"):∃c ps j,k=.row c ps j:=by
 cases k with
 |whole=>exact absurd h ()
 |place c ps=>exact absurd (show ξ "place"=ξ "row" from h) ()
 |row c ps j=>exact⟨c,ps,j,rfl⟩
 |pair i j=>exact absurd (show ξ "pair"=ξ "row" from h) ()
theorem SmK.mono{os xs:List Str}(h:∀y∈os,y∈xs):∀c ps,SmK os c ps->SmK xs c ps:=λ_ _ k=>⟨k.c0,k.c1,k.can,k.len,λp hp=>⟨(k.all p hp).1,h _ (k.all p hp).2⟩⟩
structure kr(os:List Str)(i:Nat)(ks:List Kd):Prop where
 all:∀k∈ks,k.size<=4/\k.All (SmK os)
 len:ks.length<=i
section
variable{os:List Str}{i:Nat}{x:Str}{c:Int}{ps:List Pr}{j:Kd}{ks:List Kd}
theorem uF(h:os[i]?=some x):os.take (i+1)=os.take i++[x]:=by rw[ϗ,h];rfl
theorem vb(nd:os.Nodup)(h:os[i]?=some x):x∉os.take i:=λz=>by
 have h1:(os.take (i+1)).Nodup:=(FA _ _).nodup nd
 rw[uF h,k8]at h1
 exact h1.2.2 x z x () rfl
theorem gi{k:Kd}(I:kr os i ks)(sz:k.size<=4)(al:k.All (SmK os)):kr os (i+1) (ks++[k]):=by
 refine⟨λk' hk=>?_,by rw[χ,ϥ];have:=I.len;omega⟩
 rcases ϖ.mp hk with hk|hk
 ·exact I.all k' hk
 ·rw[θ.mp hk];exact⟨sz,al⟩
theorem vD(h:os[i]?=some x)(sm:Sm (os.take i) x c ps):SmK os c ps:=sm.k (λy hy=>j8 hy) (λ_=>Λ h)
theorem vX(I:kr os i ks)(h:os[i]?=some x)(sm:Sm (os.take i) x c ps)(sz:j.size<=1)(al:j.All (SmK os)):kr os (i+1) (ks++[.row c ps j]):=gi I (by show j.size+1<=4;omega) ⟨vD h sm,al⟩
theorem tZ{c1:Int}{p1:List Pr}(I:kr os i ks)(h:os[i]?=some x)(sm:Sm (os.take i) x c ps)(sz:j.size<=1)(al:j.All (SmK os))(s1:Sm (os.take i) "" c1 p1):kr os (i+1) (ks++[.pair (.place c1 p1) (.row c ps j)]):=gi I (by show 1+(j.size+1)+1<=4;omega) ⟨s1.k (λy hy=>j8 hy) (λz=>absurd rfl z),vD h sm,al⟩
theorem xC{c0:Int}{p0:List Pr}{j0:Kd}(I:kr os i (ks++[.row c0 p0 j0]))(h:os[i]?=some x)(sm:Sm (os.take i) x c ps)(sz:j.size<=1)(al:j.All (SmK os)):kr os (i+1) (ks++[.row c0 p0 (.row c ps j)]):=by
 have h0:=I.all (.row c0 p0 j0) ()
 exact gi ⟨λk hk=>I.all k (i7 _ hk),by have:=I.len;rw[χ]at this;omega⟩ (by show(j.size+1)+1<=4;omega) ⟨h0.2.1,vD h sm,al⟩
end
structure BK(os:List Str)(ks:List Kd):Prop where
 all:∀k∈ks,k.size<=4/\k.All (SmK os)
 len:ks.length<=4
theorem yB{os:List Str}{ks:List Kd}{c:Int}{ps:List Pr}(h:BK os ks)(l3:ks.length<4)(sm:Sm os "" c ps):BK os (ks++[.row c ps (.pair .whole .whole)]):=by
 obtain⟨a,b⟩:=gi ⟨h.all,ρ _⟩ (k:=.row c ps (.pair .whole .whole)) (by show 4<=4;decide) ⟨sm.k (λy hy=>hy) (λz=>absurd rfl z),trivial,trivial⟩
 exact⟨a,()⟩
structure DfN(xs:List Str)(f:Str)(ns:List Str)(ps:List Prm)(e:Dv):Prop where
 f1:gY (.str f)=true/\(Dv.str f).small=true
 n0:ns.Nodup
 n1:∀n∈ns,n∈xs
 n4:ns.length<=4
 p0:(ps.map (·.1)).Nodup
 p1:∀p∈ps,p.1∈xs/\p.2.size<=12/\p.2.All (SmK xs)
 p4:ps.length<=4
 e1:exD e=true/\e.small=true/\L2.Pl 8 e
def Rw.Ok(xs:List Str):Rw->Prop
 |.ask e=>exD e=true/\e.small=true/\L2.Pl 8 e
 |.df f ns ps e=>DfN xs f ns ps e
structure xM(xs:List Str)(rs:List Rw):Prop where
 len:rs.length<=12
 ok:∀r∈rs,r.Ok xs
 nd:(rs.flatMap Rw.f?).Nodup
abbrev bV:Stmt:=top 64
theorem jN(os:List Str)(n:Nat)(h:n<=os.length):aH (os.map V.str) none (some (n:Int))=(os.take n).map V.str:=by
 rw[Ad _ n (by rw[ε];exact h),y7]
theorem uM(os:List Str)(n:Nat)(h:n+1<=os.length):aH (os.map V.str) none (some ((n:Int)+1))=(os.take (n+1)).map V.str:=jN os (n+1) h
theorem zM{x:Str}(h:nmB x=true):x≠ξ "":=λe=>by
 subst e
 exact absurd h ()
def BD:Sp:=λvs H Q _=>∃(o a:Addr) (n:Nat) (os:List Str),vs=[.ref o,.ref a]/\Dr H a n/\H o=some (.lst (os.map V.str))/\o≠a/\os.Nodup/\os.length<=4/\(∀x∈os,nmB x=true) /\
 ∀(H':Hp)(l:Addr)(us:List V)(ks:List Kd)(n':Nat),aD a H H'->Dr H' a n'->H l=none->l≠a->H' l=some (.lst us)->Reps H' (ks.map Kd.dv) us->BK os ks->Q (.ref l) H'
theorem dO:am ["_law_order","_law_draws_here","_law_kinds","_law_k","_law_name","_law_length","_law_cell","_law_inner","_law_one","_law_way"] ["_law_order","_law_draws_here"] (ag bV):=by trivial
theorem jv{f:Addr}{fd:Ο}{k:Nat}(F:Fun K "_law_bound_kinds" "_law_bound_kinds" bV f fd)(T:Txt K mg)(D_law_next:Def P w K mg base k "_law_next" ["_law_draws_here"] fB)(D_law_sum:Def P w K mg base k "_law_sum" ["_law_draws_here","_law_told","_law_new"] zz):aG P w K mg base CX0 (k+1) f fd ["_law_order","_law_draws_here"] BD:=by
 have nd:=dO.nd
 refine F.ok dO (λvs H Q E h=>?_) (λcdv A outer s H vs Q E hr h=>?_)
 ·obtain⟨o,a,n,os,rfl,_⟩:=h
  rfl
 obtain⟨o,a,n,os,rfl,hD,hO,oa,ndo,l4,nmo,q⟩:=h
 have hu:=jE hr
 have huL:(A.deeper (u6 (ξ "_law_bound_kinds") (ag bV) s.heap.objs.size f cdv)).units<cLine:=by omega
 have emp:ξ ""∉os:=λz=>zM (nmo _ z) rfl
 refine⟨_,(@un _ _ _ (wbO (wbM 2 nd rfl (Η rfl) (waM waf) rfl ()) (wbO (wbH ϛ rfl (wbg rfl T.enumerate (wae (wv 0 rfl) waf rfl) rfl) (wbb rfl (wbd (waZ 3 nd rfl (Η rfl) ()) (wbd (waZ 4 nd rfl (Η rfl) ()) wbe rfl) rfl) rfl rfl) (wbO (wbM 5 nd rfl (Η rfl) (waq D_law_sum hr rfl (wae (wv 1 rfl) (wae (waT br (wv 0 rfl) wbz (wbA (wv 3 rfl))) (wae (wv 4 rfl) waf rfl) rfl) rfl) () rfl rfl) rfl ()) (wbO (wbM 6 nd rfl (Η rfl) (waq D_law_next hr rfl (wae (wv 1 rfl) waf rfl) () rfl rfl) rfl ()) (wbO (wbM 7 nd rfl (Η rfl) (waX (wae waV waf rfl)) rfl ()) (wbO (wbI (wbS aB (waQ aA (wv 6 rfl) waC) waC (ah _)) (wbQ (wbM 7 nd rfl (Η rfl) (waX (wae waV (wae (waq D_law_sum hr rfl (wae (wv 1 rfl) (wae (waT br (wv 0 rfl) wbz (wbA (waQ bv (wv 3 rfl) waC))) (wae waV waf rfl) rfl) rfl) () rfl rfl) waf rfl) rfl)) rfl ())) wbP) (wbO (wbM 8 nd rfl (Η rfl) (waX (wae waV (wae (wv 5 rfl) (wae (wv 7 rfl) waf rfl) rfl) rfl)) rfl ()) (wbO (wbM 9 nd rfl (Η rfl) (waQ aA (waQ aS (wv 6 rfl) waC) waC) rfl ()) (wbO (wbI (wab (wbW (wbS aB (wv 9 rfl) waC (ah _)) (wbX (wbS fQ (wv 3 rfl) waC (ah _))))) (wbQ (wbM 8 nd rfl (Η rfl) (waX (wae waV (wae (waX (wae waV (wae (waq D_law_sum hr rfl (wae (wv 1 rfl) (wae (waT br (wv 0 rfl) wbz (wbA (wv 3 rfl))) (wae waV waf rfl) rfl) rfl) () rfl rfl) waf rfl) rfl)) (wae (wv 8 rfl) waf rfl) rfl) rfl)) rfl ())) wbP) (wbO (wbI (wab (wbW (wbS aB (wv 9 rfl) waC (ah _)) (wbW (wbS (lY huL) (wv 2 rfl) (waM waf) (ah _)) (wbW (wbS aB (waD aj (waD aJ (wv 2 rfl) (waY jr waC) (λ_ _=>rfl)) waC (λ_ _=>rfl)) waV (ah _)) (wbX (wbS fL (waD aj (waD aj (waD aJ (wv 2 rfl) (waY jr waC) (λ_ _=>rfl)) waC (λ_ _=>rfl)) waC (λ_ _=>rfl)) waV (ah _))))))) (wbO (wbM 8 nd rfl (Η rfl) (waX (wae (waD aj (waD aJ (wv 2 rfl) (waY jr waC) (λ_ _=>rfl)) waC (λ_ _=>rfl)) (wae (waD aj (waD aJ (wv 2 rfl) (waY jr waC) (λ_ _=>rfl)) waC (λ_ _=>rfl)) (wae (wv 8 rfl) waf rfl) rfl) rfl)) rfl ()) (wbQ (wbG (wak Ι k_ l8 jc (wv 2 rfl) rfl rfl) rfl))) wbP) (wbQ (wbG (waj Ι Ϣ ϣ bf (wv 2 rfl) (wae (wv 8 rfl) waf rfl) rfl rfl rfl rfl rfl) rfl)))))))))) ()) (wbO (wbI (wab (wbW (wbS kR (wal ap rfl T.len () (wae (wv 2 rfl) waf rfl) () () rfl rfl) waC (ah _)) (wbX (wbS aB (waQ aA (waq D_law_next hr rfl (wae (wv 1 rfl) waf rfl) () rfl rfl) waC) waC (ah _))))) (wbQ (wbG (waj Ι Ϣ ϣ bf (wv 2 rfl) (wae (waX (wae waV (wae (waq D_law_sum hr rfl (wae (wv 1 rfl) (wae (wv 0 rfl) (wae waV waf rfl) rfl) rfl) () rfl rfl) (wae (waX (wae waV (wae (waX (wae waV waf rfl)) (wae (waX (wae waV waf rfl)) waf rfl) rfl) rfl)) waf rfl) rfl) rfl)) waf rfl) rfl rfl rfl rfl rfl) rfl)) wbP) (wbQ (wbK (wv 2 rfl))))))),?_⟩
 symm
 refine⟨Ξ _,λL hL=>?_⟩
 have s0:=ac hL (.lst [])
 have h0:upd H L (.lst []) L=some (.lst []):=aa
 have D0:=hD.m s0
 have La:L≠a:=λe=>hD.some (e▸hL)
 generalize upd H L (.lst [])=H0 at s0 h0 D0⊢
 refine⟨_,rfl,o,rfl,⟨_,SqL.of (s0 _ _ hO)⟩,dJ (xs:=os.map V.str) (λi σ H'=>∃(o3 o4 o5 o6 o7 o8 o9:Option V) (ks:List Kd) (us:List V) (n':Nat),σ=[some (.ref o),some (.ref a),some (.ref L),o3,o4,o5,o6,o7,o8,o9]/\aD a H H'/\Dr H' a n'/\H' L=some (.lst us)/\Reps H' (ks.map Kd.dv) us/\kr os i ks)
  ⟨_,_,_,_,_,_,_,[],[],n,rfl,ae.b a s0,D0,h0,by simp[Reps],⟨(),Ξ _⟩⟩ (λi σ H' _ ⟨_,_,_,_,_,_,_,_,_,_,_,sx,_⟩=>SqL.of (sx _ _ oa hO)) ?T1 ?_⟩
 case T1=>
  intro i y σ H1 p hx h hp
  rw[Ν]at hx
  obtain⟨x,hx',rfl⟩:=c6.mp hx
  refine⟨p,_,rfl,SqT.of aa,rfl,_,_,rfl,_,_,rfl,rfl,dkE λD go _=>eO λX hX=>?_⟩
  obtain⟨o3,o4,o5,o6,o7,o8,o9,ks,us,n1,rfl,s1,D1,L1,R1,I1⟩:=h
  have hi:i<os.length:=(ο.mp hx').1
  have xm:=Λ hx'
  have x0:=zM (nmo x xm)
  have xn:=vb ndo hx'
  have p1:=ac hp (.tup [.int i,.str x])
  have s2:=s1.trans (ae.b a p1)
  have D2:=D1.m p1
  have L2':=p1 _ _ L1
  have R2:=R1.mono p1
  generalize upd H1 p (.tup [.int i,.str x])=H2 at s2 D2 L2' R2⊢
  refine⟨_,rfl,_,rfl,_,rfl,_,rfl,o,_,rfl,SqL.of (s2 _ _ oa hO),λt ht=>?_⟩
  rw[jN os i ()]
  have p2:=ac ht (.lst ((os.take i).map V.str))
  have ta:t≠a:=λe=>D2.some (e▸ht)
  refine⟨_,rfl,a,t,n1,os.take i,x,rfl,D2.m p2,aa,ta,by rw[Φ];omega,xn,λH3 v c ps s3 D3 Rv sm=>?_⟩
  have s03:aD a H H3:=s2.trans ((ae.b a p2).trans s3)
  have t3:bS H2 H3:=(ae.tups p2).trans ((D2.m p2).tups s3)
  have L3:H3 L=some (.lst us):=s3 _ _ La (p2 _ _ L2')
  have R3:=aP (λd hd v r=>by obtain⟨y,_,rfl⟩:=Ζ.mp hd;exact Kd.tupS t3 r) R2
  refine gs hX λX hX=>?_
  clear t3 R2 R1 p1
  refine⟨_,rfl,a,_,rfl,D3,λH4 cell s4 D4 cl0 cl1=>?_⟩
  have t4:bS H3 H4:=D3.tups s4
  have s04:=s03.trans s4
  have L4:=s4 _ _ La L3
  have R4:=aP (λd hd v r=>by obtain⟨y,_,rfl⟩:=Ζ.mp hd;exact Kd.tupS t4 r) R3
  have Rv4:=ce t4 (fw c ps) Rv
  refine gs hX λX hX=>?_
  refine⟨z1,λe he=>?_⟩
  have p5:=ac he (.tup [.str "whole"])
  have W5:Rep (upd H4 e (.tup [.str "whole"])) Kd.whole.dv (.ref e):=ij aa
  have s05:=s04.trans (ae.b a p5)
  have D5:=D4.m p5
  have L5:=p5 _ _ L4
  have R5:=R4.mono p5
  have Rv5:=Rv4.mono p5
  generalize upd H4 e (.tup [.str "whole"])=H5 at W5 s05 D5 L5 R5 Rv5⊢
  refine gnm (hX _ _ ?_)
  clear R4 Rv4 D4 L4 s04 D3 L3 R3 Rv s03
  refine bG (λσ' H6=>∃(j:Kd) (vj:V) (n6:Nat),σ'=[some (.ref o),some (.ref a),some (.ref L),some (.int i),some (.str x),some v,some (.int cell),some vj,o8,o9]/\aD a H H6/\Dr H6 a n6/\H6 L=some (.lst us)/\Reps H6 (ks.map Kd.dv) us/\Rep H6 (aY c ps) v/\Rep H6 j.dv vj/\j.size<=1/\j.All (SmK os)) ?N1 (λ_ nx=>?_)
  case N1=>
   intro _ H6 h
   refine eO λX hX=>?_
   obtain⟨j,vj,n6,rfl,s06,D6,L6,R6,Rv6,Rj,js,jA⟩:=h
   refine⟨_,rfl,_,rfl,z3,λg hg=>?_⟩
   have p7:=ac hg (.tup [.str "row",v,vj])
   have R7:Rep (upd H6 g (.tup [.str "row",v,vj])) (Kd.row c ps j).dv (.ref g):=eC aa (Rv6.mono p7) (Rj.mono p7)
   have s07:=s06.trans (ae.b a p7)
   have D7:=D6.m p7
   have L7:=p7 _ _ L6
   have Rk7:=R6.mono p7
   generalize upd H6 g (.tup [.str "row",v,vj])=H7 at R7 s07 D7 L7 Rk7⊢
   refine gs hX λX hX=>?_
   refine⟨_,rfl,_,_,rfl,rfl,⟨(),()⟩,_,_,rfl,rfl,(by show(0:Int)<4;decide),gnm (hX _ _ ?_)⟩
   dsimp only
   generalize cell/2%4=way
   refine bG (λσ' H8=>∃(k1:Kd) (v1:V) (n8:Nat),σ'=[some (.ref o),some (.ref a),some (.ref L),some (.int i),some (.str x),some v,some (.int cell),some vj,some v1,some (.int way)]/\aD a H H8/\Dr H8 a n8/\H8 L=some (.lst us)/\Reps H8 (ks.map Kd.dv) us/\Rep H8 k1.dv v1/\(k1=.row c ps j\/(way=0/\∃c1 p1,Sm (os.take i) "" c1 p1/\k1=.pair (.place c1 p1) (.row c ps j)))) ?N2 (λ_ nx2=>?_)
   case N2=>
    rintro _ H8 ⟨k1,v1,n8,rfl,s08,D8,L8,R8,Rk1,ho⟩
    refine bG (λσ' H9=>∃(k2:Kd) (v2:V) (ks':List Kd) (us':List V) (n9:Nat),σ'=[some (.ref o),some (.ref a),some (.ref L),some (.int i),some (.str x),some v,some (.int cell),some vj,some v2,some (.int way)]/\aD a H H9/\Dr H9 a n9/\H9 L=some (.lst us')/\Reps H9 (ks'.map Kd.dv) us'/\Rep H9 k2.dv v2/\kr os (i+1) (ks'++[k2])) ?N3 (λ_ nx3=>?_)
    case N3=>
     rintro _ H9 ⟨k2,v2,ks',us',n9,rfl,s09,D9,L9,R9,Rk2,I9⟩
     have lu:us'.length=ks'.length:=by have:=R9.length;rwa[ε]at this
     have lk:=I9.len
     rw[χ,ϥ]at lk
     refine⟨_,rfl,.inl ⟨rfl,_,SqL.of L9⟩,_,rfl,L,_,_,rfl,rfl,L9,by rw[ω];omega,?_⟩
     have sB:=aD.upd H9 L (.lst (us'++[v2]))
     refine go _ _ ⟨_,_,_,_,_,_,_,ks'++[k2],us'++[v2],n9,rfl,λg ob hg e=>sB g ob (af e hL) (s09 g ob hg e),D9.b sB (Ϗ La),aa,?_,I9⟩
     have tB:=sB.tups L9
     rw[τ]
     exact Reps.append (aP (λd hd v r=>by obtain⟨y,_,rfl⟩:=Ζ.mp hd;exact Kd.tupS tB r) R9) (aK (Kd.tupS tB Rk2))
    have lus:us.length=ks.length:=by have:=R8.length;rwa[ε]at this
    refine AN (way=1/\∃ks0 c0 p0 j0,ks=ks0++[Kd.row c0 p0 j0]/\j0.word≠ξ "row") ?A1 ?A0 (λqT qF=>?_)
    case A0=>
     intro H9 p9
     refine av (nx3 _ _ ⟨k1,v1,ks,us,n8,rfl,s08.trans (ae.b a p9),D8.m p9,p9 _ _ L8,R8.mono p9,Rk1.mono p9,?_⟩)
     rcases ho with rfl|⟨_,c1,p1,sm1,rfl⟩
     ·exact vX I1 hx' sm js jA
     ·exact tZ I1 hx' sm js jA sm1
    case A1=>
     rintro⟨w1,ks0,c0,p0,j0,e0,hj0⟩ H9 p9
     subst e0
     have k1e:k1=.row c ps j:=by
      rcases ho with h|⟨h,_⟩
      ·exact h
      ·omega
     subst k1e
     have R9:=R8.mono p9
     rw[τ]at R9
     obtain⟨u0,ul,rfl,Ra,Rl⟩:=cC R9
     obtain⟨al,vs,rfl,hal,hv⟩:=Kd.inv Rl
     obtain⟨vl,uj,rfl,Rvl,Ruj⟩:=hv
     have L9:=p9 _ _ L8
     refine au (eO λX hX=>?_)
     refine⟨_,rfl,1,rfl,L,_,_,_,rfl,rfl,SqL.of L9,fJ _ _,al,_,0,.str "row",rfl,rfl,SqT.of hal,ad (j:=0) rfl,_,rfl,1,rfl,L,_,_,_,rfl,rfl,SqL.of L9,fJ _ _,al,_,1,vl,rfl,rfl,SqT.of hal,ad (j:=1) rfl,_,rfl,z3,λm hm=>?_⟩
     have p10:=ac hm (.tup [.str "row",vl,v1])
     have R10:Rep (upd H9 m (.tup [.str "row",vl,v1])) (Kd.row c0 p0 (.row c ps j)).dv (.ref m):=eC aa (Rvl.mono p10) ((Rk1.mono p9).mono p10)
     have s10:=s08.trans (ae.b a (p9.trans p10))
     have D10:=D8.m (p9.trans p10)
     have L10:=p10 _ _ L9
     have Ra10:=Ra.mono p10
     generalize upd H9 m (.tup [.str "row",vl,v1])=H10 at R10 s10 D10 L10 Ra10⊢
     refine gnm (hX _ _ ?_)
     refine⟨_,rfl,.inl ⟨rfl,_,SqL.of L10⟩,L,_,_,rfl,rfl,L10,dH _ _,?_⟩
     rw[B5]
     have sB:=aD.upd H10 L (.lst u0)
     have tB:=sB.tups L10
     refine nx3 _ _ ⟨.row c0 p0 (.row c ps j),.ref m,ks0,u0,n8,rfl,λg ob hg e=>sB g ob (af e hL) (s10 g ob hg e),D10.b sB (Ϗ La),aa,aP (λd hd v r=>by obtain⟨y,_,rfl⟩:=Ζ.mp hd;exact Kd.tupS tB r) Ra10,Kd.tupS tB R10,xC I1 hx' sm js jA⟩
    refine⟨_,rfl,rfl,_,rfl,aF (λh1=>?_) (λ_=>qF H8 (ae.refl _))⟩
    have w1:=eqI h1
    refine⟨_,rfl,Ξ _,λb hb=>⟨L,b,us,rfl,rfl,SqL.of (ac hb _ _ _ L8),SqL.of aa,_,rfl,?_⟩⟩
    have p9:=ac hb (.lst [])
    by_cases ne:ks=[]
    ·have e:us=[]:=k9 (by rw[lus,ne];rfl)
     rw[e]
     exact av (qF _ p9)
    obtain⟨ks0,kl,e0⟩:=fV ne
    have R9:=R8.mono p9
    rw[e0,τ]at R9
    obtain⟨u0,ul,eu,Ra,Rl⟩:=cC R9
    subst eu
    obtain⟨al,vs,rfl,hal,hv⟩:=Kd.inv Rl
    have L9:=p9 _ _ L8
    have ee:(!(u0++[V.ref al]).isEmpty)=true:=by simp
    rw[ee]
    refine au ⟨_,rfl,1,rfl,L,_,_,_,rfl,rfl,SqL.of L9,fJ _ _,al,_,0,.str kl.word,rfl,rfl,SqT.of hal,ad (j:=0) rfl,rfl,_,rfl,aF (λh2=>?_) (λ_=>qF _ p9)⟩
    have hw:kl.word=ξ "row":=V.str.inj (Q7 h2)
    obtain⟨c0,p0,j0,ek⟩:=vB hw
    subst ek
    obtain⟨vl,uj,rfl,Rvl,Ruj⟩:=hv
    obtain⟨bj,vj',rfl,hbj⟩:=zu Ruj
    refine⟨_,rfl,1,rfl,L,_,_,_,rfl,rfl,SqL.of L9,fJ _ _,al,_,2,.ref bj,rfl,rfl,SqT.of hal,ad (j:=2) rfl,bj,_,0,.str j0.word,rfl,rfl,SqT.of hbj,ad (j:=0) rfl,rfl,_,rfl,?_⟩
    by_cases hj:j0.word=ξ "row"
    ·rw[show(!decide (V.str j0.word=V.str (ξ "row")))=false by rw[bu,Q9 hj];rfl]
     exact av (qF _ p9)
    ·rw[show(!decide (V.str j0.word=V.str (ξ "row")))=true by rw[bu,Q8 hj];rfl]
     exact au (qT ⟨w1,ks0,c0,p0,j0,e0,hj⟩ _ p9)
   refine rW (way=0/\0<(i:Int)) ?A1 ?A0 (λqT qF=>⟨_,rfl,rfl,_,rfl,aF (λh1=>⟨_,rfl,_,_,rfl,rfl,_,rfl,aF (λh2=>ifT (qT ⟨eqI h1,Q7 h2⟩)) (λ_=>ifF qF)⟩) (λ_=>qF)⟩)
   case A0=>exact av (nx2 _ _ ⟨.row c ps j,.ref g,n6,rfl,s07,D7,L7,Rk7,R7,.inl rfl⟩)
   case A1=>
    rintro⟨w0,i0⟩
    refine au ⟨_,rfl,_,rfl,_,rfl,_,rfl,o,_,rfl,SqL.of (s07 _ _ oa hO),λt' ht'=>?_⟩
    rw[jN os i ()]
    have p8:=ac ht' (.lst ((os.take i).map V.str))
    have ta':t'≠a:=λe=>D7.some (e▸ht')
    refine⟨a,t',n6,os.take i,_,rfl,D7.m p8,aa,ta',by rw[Φ];omega,λz=>emp (j8 z),λH8 u c1 p1 s8 D8 Ru sm1=>?_⟩
    have t8:bS H7 H8:=(ae.tups p8).trans ((D7.m p8).tups s8)
    refine⟨z2,λm hm=>⟨_,rfl,z3,λm2 hm2=>?_⟩⟩
    have p9:=ac hm (.tup [.str "place",u])
    have p10:=ac hm2 (.tup [.str "pair",.ref m,.ref g])
    have t10:=t8.trans (ae.tups (p9.trans p10))
    refine gnm (nx2 _ _ ⟨.pair (.place c1 p1) (.row c ps j),.ref m2,_,rfl,s07.trans ((ae.b a p8).trans (s8.trans (ae.b a (p9.trans p10)))),D8.m (p9.trans p10),p10 _ _ (p9 _ _ (s8 _ _ La (p8 _ _ L7))),aP (λd hd v r=>by obtain⟨y,_,rfl⟩:=Ζ.mp hd;exact Kd.tupS t10 r) Rk7,jM aa ((cU aa (Ru.mono p9)).mono p10) (Kd.tupS t10 R7),.inr ⟨w0,c1,p1,sm1,rfl⟩⟩)
  refine⟨_,rfl,_,_,rfl,rfl,(by show(0:Int)<2;decide),rfl,_,rfl,aF (λ_=>?_) (λ_=>nx _ _ ⟨.whole,.ref e,_,rfl,s05,D5,L5,R5,Rv5,W5,(),trivial⟩)⟩
  refine⟨_,rfl,_,rfl,_,rfl,_,_,rfl,rfl,_,rfl,o,_,rfl,SqL.of (s05 _ _ oa hO),λt' ht'=>?_⟩
  rw[uM os i ()]
  have p6:=ac ht' (.lst ((os.take (i+1)).map V.str))
  have ta':t'≠a:=λe=>D5.some (e▸ht')
  refine⟨a,t',_,os.take (i+1),_,rfl,D5.m p6,aa,ta',by rw[Φ];omega,λz=>emp (j8 z),λH8 u c1 p1 s8 D8 Ru sm1=>?_⟩
  have t8:bS H5 H8:=(ae.tups p6).trans ((D5.m p6).tups s8)
  refine⟨z2,λm hm=>?_⟩
  have p9:=ac hm (.tup [.str "place",u])
  have t9:=t8.trans (ae.tups p9)
  refine gnm (nx _ _ ⟨.place c1 p1,.ref m,_,rfl,s05.trans ((ae.b a p6).trans (s8.trans (ae.b a p9))),D8.m p9,p9 _ _ (s8 _ _ La (p6 _ _ L5)),aP (λd hd v r=>by obtain⟨y,_,rfl⟩:=Ζ.mp hd;exact Kd.tupS t9 r) R5,ce t9 (fw c ps) Rv5,cU aa (Ru.mono p9),by show 1<=1;decide,sm1.k (λy hy=>j8 hy) (λz=>absurd rfl z)⟩)
 rintro σ H1 ⟨o3,o4,o5,o6,o7,o8,o9,ks,us,n1,rfl,s1,D1,L1,R1,I1⟩
 have bk:BK os ks:=⟨I1.all,by have:=I1.len;rw[ε]at this;omega⟩
 have lus:us.length=ks.length:=by have:=R1.length;rwa[ε]at this
 dsimp only
 refine bG (λσ' H6=>∃(ks:List Kd) (us:List V) (n6:Nat),σ'=[some (.ref o),some (.ref a),some (.ref L),o3,o4,o5,o6,o7,o8,o9]/\aD a H H6/\Dr H6 a n6/\H6 L=some (.lst us)/\Reps H6 (ks.map Kd.dv) us/\BK os ks) ?N4 (λ_ nx=>?_)
 case N4=>
  rintro _ H6 ⟨ks,us,n6,rfl,s6,D6,L6,R6,bk⟩
  exact⟨_,rfl,q H6 L us ks n6 s6 D6 hL La L6 R6 bk⟩
 refine⟨_,rfl,L,us,rfl,.inl (SqL.of L1),_,_,rfl,rfl,_,rfl,aF (λh1=>?_) (λ_=>av (nx _ _ ⟨ks,us,n1,rfl,s1,D1,L1,R1,bk⟩))⟩
 have l3:us.length<4:=by have:((us.length:Nat):Int)<4:=Q7 h1;omega
 refine⟨_,rfl,a,_,rfl,D1,λH2 z s2 D2 _ _=>?_⟩
 have t2:bS H1 H2:=D1.tups s2
 have R2:=aP (λd hd v r=>by obtain⟨y,_,rfl⟩:=Ζ.mp hd;exact Kd.tupS t2 r) R1
 have s02:=s1.trans s2
 have L2':=s2 _ _ La L1
 refine⟨_,_,rfl,rfl,(by show(0:Int)<3;decide),rfl,_,rfl,aF (λ_=>?_) (λ_=>nx _ _ ⟨ks,us,_,rfl,s02,D2,L2',R2,bk⟩)⟩
 refine⟨_,rfl,.inl ⟨rfl,_,SqL.of L2'⟩,_,rfl,_,rfl,a,o,_,os,_,rfl,D2,s02 _ _ oa hO,oa,l4,emp,λH3 u c ps s3 D3 Ru sm=>?_⟩
 have t3:bS H2 H3:=D2.tups s3
 have R3:=aP (λd hd v r=>by obtain⟨y,_,rfl⟩:=Ζ.mp hd;exact Kd.tupS t3 r) R2
 refine⟨z1,λm1 hm1=>⟨z1,λm2 hm2=>⟨z3,λm3 hm3=>⟨z3,λm4 hm4=>?_⟩⟩⟩⟩
 have p1:=ac hm1 (.tup [.str "whole"])
 have p2:=ac hm2 (.tup [.str "whole"])
 have p3:=ac hm3 (.tup [.str "pair",.ref m1,.ref m2])
 have p4:=ac hm4 (.tup [.str "row",u,.ref m3])
 have p14:=p1.trans (p2.trans (p3.trans p4))
 have Rr:Rep _ (Kd.row c ps (.pair .whole .whole)).dv (.ref m4):=eC aa (Ru.mono p14) (Rep.mono p4 (jM aa ((ij (p2 _ _ aa)).mono p3) ((ij aa).mono p3)))
 have L4:=p14 _ _ (s3 _ _ La L2')
 have R4:=R3.mono p14
 have s04:=(s02.trans s3).trans (ae.b a p14)
 have D4:=D3.m p14
 generalize upd _ m4 (.tup [.str "row",u,.ref m3])=H4 at Rr L4 R4 s04 D4⊢
 refine⟨L,_,_,rfl,rfl,L4,by rw[ω];omega,?_⟩
 have sB:=aD.upd H4 L (.lst (us++[.ref m4]))
 have tB:=sB.tups L4
 refine nx _ _ ⟨ks++[.row c ps (.pair .whole .whole)],us++[.ref m4],_,rfl,λg ob hg e=>sB g ob (af e hL) (s04 g ob hg e),D4.b sB (Ϗ La),aa,?_,yB bk () sm⟩
 rw[τ]
 exact Reps.append (aP (λd hd v r=>by obtain⟨y,_,rfl⟩:=Ζ.mp hd;exact Kd.tupS tB r) R4) (aK (Kd.tupS tB Rr))
abbrev vG:Stmt:=top 65
theorem lN{k:Nat}{ix:List Nat}{g:TG}{tt:TT}{te:TE}{σ:St}{H1:Hp}{Q:List V->Hp->Prop}{K:ζ}{a:Addr}{xs:List V}(Pv:Nat->List V->Hp->Prop)(h0:Pv 0 [] H1)(hl:∀i zs H,Pv i zs H->SqL K H a xs)
  (hs:∀i zs H x p,xs[i]?=some x->Pv i zs H->H p=none->cE k ix g tt te σ (.ref p) zs (upd H p (.tup [.int i,x])) (Pv (i+1))) (hd:∀zs H,Pv xs.length zs H->Q zs H):rLC (Ite K a) k ix g tt te σ H1 Q:=by
 refine su (n:=xs.length) Pv h0 (λi zs H h p=>?_) (λzs H p=>?_) (λi zs H x H' h p y=>?_) hd
 ·exact⟨xs,xs[i],hl i zs H p,by simp[h]⟩
 ·exact⟨xs,hl _ zs H p,ρ _⟩
 ·obtain⟨c,x',hb,e1,e2,hx⟩:=y
  subst e1 e2
  exact hs i zs H x' c (hx xs (hl i zs H p)) p hb
theorem cD(xs:List V)(n:Nat):aH xs (some (n:Int)) none=xs.drop n:=by
 unfold aH
 rw[HT.sIx_none,HT.sIx_nat]
 rcases Nat.le_total n xs.length with h|h
 ·rw[Dp h]
  exact Dj (by rw[ϳ];omega)
 ·rw[F3 h,List.drop_eq_nil_of_le (ρ _),List.drop_eq_nil_of_le h,List.take_nil]
def nmA(xs:List Str)(c:Int)(k:Nat):Str:=xs.getD ((c+(k:Int))%5).toNat default
theorem fS{xs:List Str}(nms:Nms xs)(c:Int)(k:Nat):xs[((c+(k:Int))%5).toNat]?=some (nmA xs c k):=by
 obtain⟨b0,b1⟩:=aL (a:=c+(k:Int)) 5 ()
 have hl:=nms.len
 have hlt:((c+(k:Int))%5).toNat<xs.length:=by omega
 unfold nmA
 rw[Γ hlt]
 simp[x4,hlt]
theorem sf{xs:List Str}(nms:Nms xs)(c:Int)(k:Nat):nmA xs c k∈xs:=Λ (fS nms c k)
theorem wK{xs:List Str}(nms:Nms xs)(c:Int){m:Nat}(hm:m<=5):((ϋ m).map (nmA xs c)).Nodup:=by
 rw[DR,DC]
 have:∀i j:Nat,i<5->j<5->i≠j->nmA xs c i≠nmA xs c j:=λi j hi hj hij e=>by
  have h1:=fS nms c i
  have h2:=fS nms c j
  rw[<-e]at h2
  obtain⟨l1,e1⟩:=ο.mp h1
  obtain⟨l2,e2⟩:=ο.mp h2
  have:=(C5 nms.nd).mp (e1.trans e2.symm)
  obtain⟨b0,b1⟩:=aL (a:=c+(i:Int)) 5 ()
  obtain⟨d0,d1⟩:=aL (a:=c+(j:Int)) 5 ()
  omega
 refine Eb.imp_of_mem (λ{i j} hi hj hij=>this i j (by have:=Ϭ.mp hi;omega) (by have:=Ϭ.mp hj;omega) hij) (DR.mp List.nodup_range)
structure BS(xs os:List Str):Prop where
 nd:os.Nodup
 len:os.length<=4
 mem:∀x∈os,x∈xs
theorem Kd.All.imp{P Q:Int->List Pr->Prop}(h:∀c ps,P c ps->Q c ps):∀{k:Kd},k.All P->k.All Q
 |.whole,_=>trivial
 |.place _ _,x=>h _ _ x
 |.row _ _ _,x=>⟨h _ _ x.1,Kd.All.imp h x.2⟩
 |.pair _ _,x=>⟨Kd.All.imp h x.1,Kd.All.imp h x.2⟩
theorem DfN.row{xs ns:List Str}{ps:List Prm}{x:Str}{e:Dv}(nms:Nms xs)(h:DfN xs x ns ps e):dZ (Rw.df x ns ps e).dv=true/\(Rw.df x ns ps e).dv.small=true/\(∀p∈ps,p.2.size<=12/\p.2.All L40):=by
 have mn:∀y∈ns,nmB y=true:=λy hy=>nms.nm y (h.n1 y hy)
 have lp:=h.p4
 have ln:=h.n4
 have kS:∀p∈ps,p.2.All SL:=λp hp'=>Kd.All.imp (λc qs h=>qj h.c0 h.c1 h.can (by have:=h.len;omega) λq hq=>⟨nms.nm _ (h.all q hq).2,(h.all q hq).1⟩) (h.p1 p hp').2.2
 refine⟨?_,?_,λp hp'=>⟨(h.p1 p hp').2.1,Kd.All.imp (λc qs h=>by have:=h.len;show qs.length<=40;omega) (h.p1 p hp').2.2⟩⟩
 ·show dZ (.tup [.str "def",.str x,.tup (ns.map Dv.str),.tup (ps.map bX),e])=true
  rw[rF,h.f1.1,h.e1.1,FM]
  have h1:fq (.tup (ns.map Dv.str))=true:=by
   show((decide ((0:Int)<=((ns.map Dv.str).length:Int))&&decide (((ns.map Dv.str).length:Int)<=4))&&(ns.map Dv.str).all bp)=true
   rw[ε,Q9 (),Q9 (),ϧ,ϧ,DT,e_]
   exactλy hy=>mn y hy
  have h2:cX (.tup (ps.map bX))=true:=by
   show((decide ((0:Int)<=((ps.map bX).length:Int))&&decide (((ps.map bX).length:Int)<=4))&&(ps.map bX).all dy)=true
   rw[ε,Q9 (),Q9 (),ϧ,ϧ,DT,e_]
   intro p hp'
   show(nmB p.1&&decide (aU p.2.dv<=12))=true
   rw[nms.nm _ (h.p1 p hp').1,iT (kS p hp'),Q9 (h.p1 p hp').2.1];rfl
  rw[h1,h2];rfl
 ·refine bo (λd hd=>?_) (by show 5<=1000;decide)
  rcases μ.mp hd with rfl|hd
  ·decide +kernel
  rcases μ.mp hd with rfl|hd
  ·exact h.f1.2
  rcases μ.mp hd with rfl|hd
  ·exact bo (λd hd=>by obtain⟨y,hy,rfl⟩:=Ζ.mp hd;exact dN (mn y hy)) (by rw[ε];omega)
  rcases μ.mp hd with rfl|hd
  ·refine bo (λd hd=>?_) (by rw[ε];omega)
   obtain⟨p,hp',rfl⟩:=Ζ.mp hd
   refine bo (λd hd=>?_) (by show 2<=1000;decide)
   rcases μ.mp hd with rfl|hd
   ·exact dN (nms.nm _ (h.p1 p hp').1)
   ·rw[θ.mp hd];exact fH (kS p hp')
  ·rw[θ.mp hd];exact h.e1.2.1
theorem DfN.pl{xs ns:List Str}{ps:List Prm}{x:Str}{e:Dv}(h:DfN xs x ns ps e):L2.Pl 20 (Rw.df x ns ps e).dv:=by
 refine .tup λd hd=>?_
 rcases μ.mp hd with rfl|hd
 ·exact .str
 rcases μ.mp hd with rfl|hd
 ·exact .str
 rcases μ.mp hd with rfl|hd
 ·exact .tup λd hd=>by obtain⟨y,hy,rfl⟩:=Ζ.mp hd;exact .str
 rcases μ.mp hd with rfl|hd
 ·refine .tup λd hd=>?_
  obtain⟨p,hp',rfl⟩:=Ζ.mp hd
  refine .tup λd hd=>?_
  rcases μ.mp hd with rfl|hd
  ·exact .str
  ·rw[θ.mp hd];exact p.2.pl.up (by have:=(h.p1 p hp').2.1;omega)
 ·rw[θ.mp hd];exact h.e1.2.2.up ()
theorem vU(os:List Str)(n:Nat):(os.drop n++os.take n).Perm os:=(List.perm_append_comm).trans (by rw[i3])
theorem lC{H:Hp}:∀ns:List Str,Reps H (ns.map Dv.str) (ns.map V.str)
 |[]=>by simp[Reps]
 |n::ns=>by simp only[ό,Reps];exact⟨_,_,rfl,by simp only[Rep],lC ns⟩
def zJ:Sp:=λvs H Q _=>∃(x:Str) (a r:Addr) (n:Nat) (xs:List Str),vs=[.str x,.ref a,.ref r]/\Dr H a n/\H r=some (.lst (xs.map V.str))/\r≠a/\Nms xs/\gY (.str x)=true/\(Dv.str x).small=true /\
 ∀(H':Hp)(v:V)(ns:List Str)(ps:List Prm)(e:Dv)(n':Nat),aD a H H'->Dr H' a n'->Rep H' (Rw.df x ns ps e).dv v->DfN xs x ns ps e->Q v H'
theorem xl:am ["_law_f","_law_draws_here","_law_names_here","_law_cell","_law_order","_law_kinds","_law_params","_law_told"] ["_law_f","_law_draws_here","_law_names_here"] (ag vG):=by trivial
theorem zZ{f:Addr}{fd:Ο}{k:Nat}(F:Fun K "_law_def" "_law_def" vG f fd)(T:Txt K mg)(D_law_next:Def P w K mg base k "_law_next" ["_law_draws_here"] fB)(D_law_bound_kinds:Def P w K mg base k "_law_bound_kinds" ["_law_order","_law_draws_here"] BD)(D_law_expression:Def P w K mg base k "_law_expression" ["_law_draws_here","_law_names_here"] qY):aG P w K mg base CX0 (k+1) f fd ["_law_f","_law_draws_here","_law_names_here"] zJ:=by
 have nd:=xl.nd
 refine F.ok xl (λvs H Q E h=>?_) (λcdv A outer s H vs Q E hr h=>?_)
 ·obtain⟨x,a,r,n,xs,rfl,_⟩:=h
  rfl
 obtain⟨x,a,r,n,xs,rfl,hD,hR,ra,nms,df,sx,q⟩:=h
 refine⟨_,(@un _ _ _ (wbO (wbM 3 nd rfl (Fi rfl) (waq D_law_next hr rfl (wae (wv 1 rfl) waf rfl) () rfl rfl) rfl ()) (wbO (wbJ ["_law_k"] ([2,3]) 4 nd rfl rfl (wbk rfl T.range (wae (waQ aA (waQ aS (wv 3 rfl) waC) waC) waf rfl) rfl) (.of rfl) rfl (λ_ _ _=>⟨pg_name (i:=0) (bE (l:=["_law_k","_law_names_here","_law_cell"]) (()) rfl) rfl (Η rfl)⟩) (bH ()) (λ_ _ _=>wbx) (λ_ _ _=>(waD (nk K rfl) (wv 1 rfl) (waQ aA (waQ bv (wv 2 rfl) (wv 0 rfl)) waC) (λ_ _=>rfl))) rfl ()) (wbO (wbI (wbS aB (waQ aA (waQ aS (wv 3 rfl) waC) waC) waC (ah _)) (wbQ (wbG (wak Ι Fw Fx jO (wv 4 rfl) rfl rfl) rfl)) wbP) (wbO (wbM 5 nd rfl (Η rfl) (waq D_law_bound_kinds hr rfl (wae (wv 4 rfl) (wae (wv 1 rfl) waf rfl) rfl) () rfl rfl) rfl ()) (wbO (wbJ (["_law_k","_law_kind"]) ([2,3]) 6 nd rfl rfl (wbg rfl T.enumerate (wae (wv 5 rfl) waf rfl) rfl) (.of rfl) rfl (λ_ _ _=>⟨pg_tup rfl (pgs_cons (pg_name (i:=0) (bE (l:=["_law_k","_law_kind","_law_names_here","_law_cell"]) (()) rfl) rfl (Η rfl)) (pgs_cons (pg_name (i:=1) (bE (l:=["_law_k","_law_kind","_law_names_here","_law_cell"]) (()) rfl) rfl (Η rfl)) pgs_nil))⟩) (ie () ()) (λ_ _ _=>wbx) (λ_ _ _=>(waX (wae (waD (nk K rfl) (wv 2 rfl) (waQ aA (waQ bv (waQ aS (wv 3 rfl) waC) (wv 0 rfl)) waC) (λ_ _=>rfl)) (wae (wv 1 rfl) waf rfl) rfl))) rfl ()) (wbO (wbM 7 nd rfl (Η rfl) (waQ dj (waT br (wv 4 rfl) (wbA (waQ aA (waQ aS (wv 3 rfl) waC) waC)) wbz) (waT br (wv 4 rfl) wbz (wbA (waQ aA (waQ aS (wv 3 rfl) waC) waC)))) rfl ()) (wbQ (wbK (waX (wae waV (wae (wv 0 rfl) (wae (wam bF rfl T.tuple () (wae (wv 7 rfl) waf rfl) () () rfl rfl) (wae (wam bF rfl T.tuple () (wae (wv 6 rfl) waf rfl) () () rfl rfl) (wae (waq D_law_expression hr rfl (wae (wv 1 rfl) (wae (wv 2 rfl) waf rfl) rfl) () rfl rfl) waf rfl) rfl) rfl) rfl) rfl))))))))))),?_⟩
 symm
 refine⟨_,rfl,a,n,rfl,hD,λH1 c s1 D1 c0 c1=>?_⟩
 have r1:=s1 _ _ ra hR
 refine gnm ?_
 dsimp only
 obtain⟨m0,m1⟩:=aL (a:=c/5) 5 ()
 refine⟨_,rfl,_,_,rfl,rfl,⟨(),()⟩,_,_,rfl,rfl,(by show(0:Int)<5;decide),c/5%5,rfl,(),(),mE (F:=λk=>V.str (nmA xs c k)) (n:=(c/5%5).toNat) (λi ys hi ly=>bJ ?_) ?_⟩
 ·refine⟨_,rfl,_,rfl,_,rfl,_,_,rfl,rfl,_,_,rfl,rfl,(by show(0:Int)<5;decide),r,_,_,.str (nmA xs c i),rfl,rfl,SqL.of r1,?_,by rw[ly,ω];omega,rfl,rfl⟩
  obtain⟨b0,b1⟩:=aL (a:=c+(i:Int)) 5 ()
  have:=ad (show(xs.map V.str)[((c+(i:Int))%5).toNat]?=some (V.str (nmA xs c i)) by rw[Ν,fS nms c i];rfl)
  rw[show((((c+(i:Int))%5).toNat:Nat):Int)=(c+(i:Int))%5 by omega]at this
  simpa using this
 intro o ho
 have O0:BS xs ((ϋ (c/5%5).toNat).map (nmA xs c)):=⟨wK nms c (),by rw[ε,FK];omega,λy hy=>by obtain⟨j,_,rfl⟩:=Ζ.mp hy;exact sf nms c j⟩
 have o2:upd H1 o (.lst ((ϋ (c/5%5).toNat).map λk=>V.str (nmA xs c k))) o=some (.lst (((ϋ (c/5%5).toNat).map (nmA xs c)).map V.str)):=by rw[aa,ύ];rfl
 have p2:=ac ho (.lst ((ϋ (c/5%5).toNat).map λk=>V.str (nmA xs c k)))
 have oa:o≠a:=λe=>D1.some (e▸ho)
 have hO:H o=none:=by
  cases e:H o with
  |none=>rfl
  |some u=>rw[s1 _ _ oa e]at ho;cases ho
 have s2:=s1.trans (ae.b a p2)
 have D2:=D1.m p2
 generalize (ϋ (c/5%5).toNat).map (nmA xs c)=os0 at O0 o2
 generalize upd H1 o (.lst ((ϋ (c/5%5).toNat).map λk=>V.str (nmA xs c k)))=H2 at o2 s2 D2 p2⊢
 refine gnm ?_
 dsimp only
 refine bG (λσ' H3=>∃os:List Str,σ'=[some (.str x),some (.ref a),some (.ref r),some (.int c),some (.ref o),none,none,none]/\aD a H H3/\Dr H3 a (n-1)/\H3 o=some (.lst (os.map V.str))/\BS xs os) ?N1 (λ_ nx=>?_)
 case N1=>
  rintro _ H3 ⟨os,rfl,s3,D3,o3,O⟩
  have r3:=s3 _ _ ra hR
  refine⟨_,rfl,_,rfl,o,a,_,os,rfl,D3,o3,oa,O.nd,O.len,λy hy=>nms.nm y (O.mem y hy),λH4 l us ks n4 s4 D4 hl la Hl Rk bk=>?_⟩
  have s04:=s3.trans s4
  have r4:=s04 _ _ ra hR
  have o4:=s4 _ _ oa o3
  have lus:us.length=ks.length:=by have:=Rk.length;rwa[ε]at this
  have lk:=bk.len
  refine gnm ?_
  dsimp only
  refine⟨_,rfl,l,rfl,⟨us,SqL.of Hl⟩,lN (xs:=us) (λi zs H'=>ae H4 H'/\∃pl:List Prm,zs.length=i/\Reps H' (pl.map bX) zs/\pl.map (·.2)=ks.take i/\pl.map (·.1)=(ϋ i).map (nmA xs (c/50))) ⟨ae.refl _,[],rfl,by simp[Reps],rfl,rfl⟩ (λi zs H' p=>SqL.of (p.1 _ _ Hl)) ?L1 ?_⟩
  case L1=>
   rintro i zs H5 u p hu ⟨s5,pl,lz,Rz,e1,e2⟩ hp
   obtain⟨kd,hkd,Ru⟩:=bi Rk hu
   have hi:i<us.length:=(ο.mp hu).1
   have p6:=ac hp (.tup [.int i,u])
   have s6:=s5.trans p6
   refine gg aa ⟨_,rfl,_,rfl,_,_,rfl,rfl,⟨(),()⟩,_,rfl,_,_,rfl,rfl,_,_,rfl,rfl,(by show(0:Int)<5;decide),r,_,_,.str (nmA xs (c/50) i),rfl,rfl,SqL.of (s6 _ _ r4),?_,_,rfl,z2,λt ht=>⟨by rw[lz,ω];omega,?_⟩⟩
   ·obtain⟨b0,b1⟩:=aL (a:=c/50+(i:Int)) 5 ()
    have:=ad (show(xs.map V.str)[((c/50+(i:Int))%5).toNat]?=some (V.str (nmA xs (c/50) i)) by rw[Ν,fS nms (c/50) i];rfl)
    rwa[show((((c/50+(i:Int))%5).toNat:Nat):Int)=(c/50+(i:Int))%5 by omega]at this
   ·have p7:=ac ht (.tup [.str (nmA xs (c/50) i),u])
    refine⟨s6.trans p7,pl++[(nmA xs (c/50) i,kd)],by rw[χ,lz];rfl,?_,?_,?_⟩
    ·rw[τ]
     refine Reps.append (Rz.mono (p6.trans p7)) (aK (show Rep _ (.tup [.str (nmA xs (c/50) i),kd.dv]) (.ref t)from ?_))
     rw[Rep]
     exact⟨t,_,rfl,aa,by simp only[Reps];exact⟨_,_,rfl,by simp only[Rep],_,_,rfl,(Ru.mono s6).mono p7,rfl⟩⟩
    ·rw[τ,e1,ϗ,hkd];rfl
    ·rw[τ,e2,Dm,τ];rfl
  rintro zs H5 ⟨s5,ps,lz,Rz,e1,e2⟩ pp hpp
  rw[lus,ϔ]at e1
  rw[lus]at e2
  have p6:=ac hpp (.lst zs)
  have h6:upd H5 pp (.lst zs) pp=some (.lst zs):=aa
  have s46:=s5.trans p6
  have R6:=Rz.mono p6
  have pa:pp≠a:=λe=>(D4.m s5).some (e▸hpp)
  generalize upd H5 pp (.lst zs)=H6 at h6 s46 R6 p6⊢
  refine gnm ?_
  dsimp only
  obtain⟨g0,g1⟩:=aL (a:=c/250) 5 ()
  obtain⟨gn,hgn⟩:∃gn:Nat,c/250%5=(gn:Int):=⟨(c/250%5).toNat,()⟩
  refine⟨_,rfl,_,rfl,_,_,rfl,rfl,⟨(),()⟩,_,_,rfl,rfl,(by show(0:Int)<5;decide),_,rfl,o,_,rfl,SqL.of (s46 _ _ o4),λt1 ht1=>?_⟩
  have p7:=ac ht1 (.lst (aH (os.map V.str) (some (c/250%5)) none))
  refine⟨_,rfl,_,rfl,_,_,rfl,rfl,⟨(),()⟩,_,_,rfl,rfl,(by show(0:Int)<5;decide),_,rfl,o,_,rfl,SqL.of (p7 _ _ (s46 _ _ o4)),λt2 ht2=>?_⟩
  have p8:=ac ht2 (.lst (aH (os.map V.str) none (some (c/250%5))))
  refine⟨t1,t2,_,_,rfl,rfl,p8 _ _ aa,aa,?_,λt3 ht3=>?_⟩
  ·rw[hgn,cD,cQ,ϳ,Φ,ε,ω];have:=O.len;omega
  have p9:=ac ht3 (.lst (aH (os.map V.str) (some (c/250%5)) none++aH (os.map V.str) none (some (c/250%5))))
  have e9:aH (os.map V.str) (some (c/250%5)) none++aH (os.map V.str) none (some (c/250%5))=(os.drop gn++os.take gn).map V.str:=by rw[hgn,cD,cQ,τ,FN,y7]
  have h9:=aa (H:=upd (upd H6 t1 (.lst (aH (os.map V.str) (some (c/250%5)) none))) t2 (.lst (aH (os.map V.str) none (some (c/250%5))))) (a:=t3) (o:=.lst (aH (os.map V.str) (some (c/250%5)) none++aH (os.map V.str) none (some (c/250%5))))
  have s69:=p7.trans (p8.trans p9)
  rw[e9]at h9 s69
  rw[e9]
  generalize upd _ t3 _=H9 at h9 s69⊢
  refine gnm ?_
  dsimp only
  have s49:=s46.trans s69
  refine⟨_,rfl,_,rfl,t3,_,rfl,.inl ⟨SqL.of h9,λu1 hu1=>?_⟩⟩
  have p10:=ac hu1 (.tup ((os.drop gn++os.take gn).map V.str))
  refine⟨_,rfl,pp,_,rfl,.inl ⟨SqL.of (p10 _ _ (s69 _ _ h6)),λu2 hu2=>?_⟩⟩
  have p11:=ac hu2 (.tup zs)
  have q1:=p11 _ _ (aa (H:=H9) (a:=u1) (o:=.tup ((os.drop gn++os.take gn).map V.str)))
  have q2:=aa (H:=upd H9 u1 (.tup ((os.drop gn++os.take gn).map V.str))) (a:=u2) (o:=.tup zs)
  have s411:=s49.trans (p10.trans p11)
  have R11:=R6.mono (s69.trans (p10.trans p11))
  generalize upd (upd H9 u1 (.tup ((os.drop gn++os.take gn).map V.str))) u2 (.tup zs)=H11 at q1 q2 s411 R11⊢
  refine⟨_,rfl,_,rfl,a,r,n4,xs,rfl,D4.m s411,s411 _ _ r4,ra,nms,λH12 ve e s12 D12 Re ee se pe=>⟨by rw[ω];show 5<=16777216;decide,λw0 hw0=>?_⟩⟩
  have t12:=(D4.m s411).tups s12
  have p13:=ac hw0 (.tup [.str "def",.str x,.ref u1,.ref u2,ve])
  have pse:∀p∈ps,p.1∈xs:=λp hp=>by
   have:p.1∈ps.map (·.1):=h_ hp
   rw[e2]at this
   obtain⟨j,_,hj⟩:=Ζ.mp this
   rw[<-hj];exact sf nms _ j
  have hn:=vU os gn
  have dn:DfN xs x (os.drop gn++os.take gn) ps e:=⟨⟨df,sx⟩,hn.nodup_iff.mpr O.nd,λy hy=>O.mem y (hn.mem_iff.mp hy),by rw[hn.length_eq];exact O.len,by rw[e2];exact wK nms _ (),λp hp=>by
   have k:=bk.all p.2 (by rw[<-e1];exact h_ hp)
   exact⟨pse p hp,(),Kd.All.imp (SmK.mono O.mem) k.2⟩,by have:=bk.len;rw[<-e1,ε]at this;exact this,ee,se,pe⟩
  refine q _ _ _ ps e _ ((s04.trans (ae.b a s411)).trans (s12.trans (ae.b a p13))) (D12.m p13) ?_ dn
  show Rep _ (.tup [.str "def",.str x,.tup ((os.drop gn++os.take gn).map Dv.str),.tup (ps.map bX),e]) (.ref w0)
  rw[Rep]
  refine⟨w0,_,rfl,aa,?_⟩
  have h1:Rep (upd H12 w0 (.tup [.str "def",.str x,.ref u1,.ref u2,ve])) (.tup ((os.drop gn++os.take gn).map Dv.str)) (.ref u1):=by
   rw[Rep];exact⟨u1,_,rfl,p13 _ _ (t12 _ _ q1),lC _⟩
  have h2:Rep (upd H12 w0 (.tup [.str "def",.str x,.ref u1,.ref u2,ve])) (.tup (ps.map bX)) (.ref u2):=by
   rw[Rep]
   refine⟨u2,zs,rfl,p13 _ _ (t12 _ _ q2),?_⟩
   refine aP (λd hd v rr=>?_) R11
   obtain⟨p,hp,rfl⟩:=Ζ.mp hd
   exact ce (t12.trans (ae.tups p13)) (n:=p.2.size+4) (.tup λd hd=>by
    rcases μ.mp hd with rfl|hd
    ·exact .str
    ·rw[θ.mp hd];exact p.2.pl) rr
  simp only[Reps]
  exact⟨_,_,rfl,by simp only[Rep],_,_,rfl,by simp only[Rep],_,_,rfl,h1,_,_,rfl,h2,_,_,rfl,Re.mono p13,rfl⟩
 refine⟨_,rfl,_,_,rfl,rfl,⟨(),()⟩,_,_,rfl,rfl,(by show(0:Int)<2;decide),rfl,_,rfl,aF (λ_=>?_) (λ_=>nx _ _ ⟨os0,rfl,s2,D2,o2,O0⟩)⟩
 refine⟨_,rfl,.inl ⟨rfl,_,SqL.of o2⟩,o,_,rfl,rfl,o2,?_⟩
 have sB:=aD.upd H2 o (.lst (os0.map V.str).reverse)
 refine nx _ _ ⟨os0.reverse,rfl,λg ob hg e=>sB g ob (af e hO) (s2 g ob hg e),D2.b sB (Ϗ oa),by rw[aa,DU],⟨(List.reverse_perm os0).nodup_iff.mpr O0.nd,by rw[Ϯ];exact O0.len,λy hy=>O0.mem y (List.mem_reverse.mp hy)⟩⟩
abbrev gL:Stmt:=top 66
def fN(i:Nat):Str:=ξ "f" ++ ⟨#[97+i]⟩
theorem Bv:∀i,i<12->gY (.str (fN i))=true/\(Dv.str (fN i)).small=true:=by decide +kernel
theorem Au:∀i,i<12->∀j,j<12->fN i=fN j->i=j:=by decide +kernel
theorem CF{i:Nat}(h1:i<12):atI (ξ "abcdefghijkl").cps.toList ((i:Int)%12)=some (97+i):=by
 have h:∀j,j<12->(ξ "abcdefghijkl").cps.toList[j]?=some (97+j):=by decide +kernel
 rw[Int.emod_eq_of_lt () ()]
 exact ad (h i h1)
structure oV(xs:List Str)(i:Nat)(rs:List Rw):Prop where
 len:rs.length=i
 ok:∀r∈rs,r.Ok xs
 nd:(rs.flatMap Rw.f?).Nodup
 fs:∀x∈rs.flatMap Rw.f?,∃j,j<i/\x=fN j
theorem Rw.Ok.pl{xs:List Str}{r:Rw}(h:r.Ok xs):L2.Pl 20 r.dv:=by
 cases r with
 |ask e=>
  refine .tup λd hd=>?_
  rcases μ.mp hd with rfl|hd
  ·exact .str
  ·rw[θ.mp hd];exact h.2.2.up ()
 |df f ns ps e=>exact DfN.pl h
theorem Rw.Ok.row{xs:List Str}(nms:Nms xs){r:Rw}(h:r.Ok xs):dZ r.dv=true/\r.dv.small=true:=by
 cases r with
 |ask e=>
  refine⟨by show dZ (.tup [.str "ask",e])=true;rw[sQ];exact h.1,bo (λd hd=>?_) (by show 2<=1000;decide)⟩
  rcases μ.mp hd with rfl|hd
  ·decide +kernel
  ·rw[θ.mp hd];exact h.2.1
 |df f ns ps e=>exact⟨(DfN.row nms h).1,(DfN.row nms h).2.1⟩
theorem si{xs:List Str}{rs:List Rw}{r:Rw}(h:∀r∈rs,r.Ok xs)(hr:r.Ok xs):∀r'∈rs++[r],r'.Ok xs:=λr' hr'=>by
 rcases ϖ.mp hr' with z|z
 ·exact h r' z
 ·rw[θ.mp z];exact hr
theorem oV.ask{xs:List Str}{i:Nat}{rs:List Rw}{e:Dv}(I:oV xs i rs)(h:exD e=true/\e.small=true/\L2.Pl 8 e):oV xs (i+1) (rs++[.ask e]):=by
 have ef:(rs++[Rw.ask e]).flatMap Rw.f?=rs.flatMap Rw.f?:=by rw[ϰ];simp[Rw.f?]
 exact⟨by rw[χ,I.len];rfl,si I.ok h,by rw[ef];exact I.nd,λx hx=>by rw[ef]at hx;obtain⟨j,hj,e⟩:=I.fs x hx;exact⟨j,(),e⟩⟩
theorem oV.df{xs:List Str}{i:Nat}{rs:List Rw}{ns:List Str}{ps:List Prm}{e:Dv}(I:oV xs i rs)(hi:i<12)(h:DfN xs (fN i) ns ps e):oV xs (i+1) (rs++[.df (fN i) ns ps e]):=by
 have ef:(rs++[Rw.df (fN i) ns ps e]).flatMap Rw.f?=rs.flatMap Rw.f?++[fN i]:=by rw[ϰ];simp[Rw.f?]
 refine⟨by rw[χ,I.len];rfl,si I.ok h,?_,λx hx=>?_⟩
 ·rw[ef]
  refine k8.mpr ⟨I.nd,(),λx hx y hy e=>?_⟩
  rw[θ.mp hy]at e
  obtain⟨j,hj,e2⟩:=I.fs x hx
  have:=Au j () i hi (e2.symm.trans e)
  omega
 ·rw[ef]at hx
  rcases ϖ.mp hx with h|h
  ·obtain⟨j,hj,e⟩:=I.fs x h;exact⟨j,(),e⟩
  ·exact⟨i,(),θ.mp h⟩
theorem lQ(ns:List Int)(lo hi:Option Int):∃ms:List Int,aH (ns.map V.int) lo hi=ms.map V.int/\ms.length<=ns.length:=by
 unfold aH
 rw[ε]
 refine⟨(ns.drop (HT.sIx ns.length 0 lo)).take (HT.sIx ns.length ns.length hi-HT.sIx ns.length 0 lo),by rw[y7,FN],?_⟩
 rw[Φ,ϳ]
 omega
theorem rs6(n:Nat)(h:n<=63):(Ϛ 0 (if (n:Int)>1 then (n:Int)else 1) 6).toNat<=12:=by
 unfold Ϛ
 split<;>(repeat' split)<;>omega
def wF(K:ζ):Sp:=λvs H Q _=>∃(sc r:Addr) (ns:List Int) (xs:List Str),vs=[.ref sc,.ref r]/\SqL K H sc (ns.map V.int)/\ns.length<=63/\H r=some (.lst (xs.map V.str))/\Nms xs /\
 ∀(H':Hp)(l:Addr)(us:List V)(rs:List Rw),ae H H'->H l=none->H' l=some (.lst us)->Reps H' (rs.map Rw.dv) us->xM xs rs->Q (.ref l) H'
theorem ja:am ["_law_script","_law_names_here","_law_rows","_law_begin","_law_draws_here","_law_way"] ["_law_script","_law_names_here"] (ag gL):=by trivial
theorem rc{f:Addr}{fd:Ο}{k:Nat}(F:Fun K "_law_program" "_law_program" gL f fd)(T:Txt K mg)(D_law_draws:Def P w K mg base k "_law_draws" ["_law_cells","_law_many"] (mX K))(D_law_next:Def P w K mg base k "_law_next" ["_law_draws_here"] fB)(D_law_expression:Def P w K mg base k "_law_expression" ["_law_draws_here","_law_names_here"] qY)(D_law_def:Def P w K mg base k "_law_def" ["_law_f","_law_draws_here","_law_names_here"] zJ):aG P w K mg base CX0 (k+1) f fd ["_law_script","_law_names_here"] (wF K):=by
 have nd:=ja.nd
 refine F.ok ja (λvs H Q E h=>?_) (λcdv A outer s H vs Q E hr h=>?_)
 ·obtain⟨sc,r,ns,xs,rfl,_⟩:=h
  rfl
 obtain⟨sc,r,ns,xs,rfl,hS,h63,hR,nms,q⟩:=h
 refine⟨_,(@un _ _ _ (wbO (wbM 2 nd rfl (Η rfl) (waM waf) rfl ()) (wbO (wbH ϛ rfl (wbm rfl T.range (wae waC (wae (wal (kU rfl) rfl T.max () (wae waC (wae (wal ap rfl T.len () (wae (wv 0 rfl) waf rfl) () () rfl rfl) waf rfl) rfl) () () rfl rfl) (wae waC waf rfl) rfl) rfl) rfl rfl) (waZ 3 nd rfl (Η rfl) ()) (wbO (wbM 4 nd rfl (Η rfl) (waq D_law_draws hr rfl (wae (waT br (waQ dj (waT br (wv 0 rfl) (wbA (wv 3 rfl)) (wbA (waQ bv (wv 3 rfl) waC))) (waQ wm (waM (wae waC waf rfl)) waC)) wbz (wbA waC)) (wae waC waf rfl) rfl) () rfl rfl) rfl ()) (wbO (wbM 5 nd rfl (Η rfl) (waq D_law_next hr rfl (wae (wv 4 rfl) waf rfl) () rfl rfl) rfl ()) (wbQ (wbI (wbS aB (waQ aA (wv 5 rfl) waC) waC (ah _)) (wbQ (wbG (waj Ι Ϣ ϣ bf (wv 2 rfl) (wae (waX (wae waV (wae (waq D_law_expression hr rfl (wae (wv 4 rfl) (wae (wv 1 rfl) waf rfl) rfl) () rfl rfl) waf rfl) rfl)) waf rfl) rfl rfl rfl rfl rfl) rfl)) (wbQ (wbG (waj Ι Ϣ ϣ bf (wv 2 rfl) (wae (waq D_law_def hr rfl (wae (waQ bA waV (waD qh waV (waQ aA (wal ap rfl T.len () (wae (wv 2 rfl) waf rfl) () () rfl rfl) waC) (λ_ _=>rfl))) (wae (wv 4 rfl) (wae (wv 1 rfl) waf rfl) rfl) rfl) () rfl rfl) waf rfl) rfl rfl rfl rfl rfl) rfl)))))) ()) (wbQ (wbK (waT br (wv 2 rfl) wbz (wbA waC))))))),?_⟩
 symm
 refine⟨Ξ _,λL hL=>?_⟩
 have s0:=ac hL (.lst [])
 have h0:upd H L (.lst []) L=some (.lst []):=aa
 generalize upd H L (.lst [])=H0 at s0 h0⊢
 have B2:(if ((ns.map V.int).length:Int)>1 then ((ns.map V.int).length:Int)else 1)<(1000000:Int):=by
  rw[ε]
  split<;>omega
 refine⟨_,rfl,sc,_,rfl,.inl (s0.seq hS),_,_,rfl,0,_,6,rfl,⟨(),(),(),(),?B1,B2⟩,kI (λi σ H'=>∃(o3 o4 o5:Option V) (rs:List Rw) (us:List V),σ=[some (.ref sc),some (.ref r),some (.ref L),o3,o4,o5]/\ae H H'/\H' L=some (.lst us)/\Reps H' (rs.map Rw.dv) us/\oV xs i rs) ⟨_,_,_,[],[],rfl,s0,h0,by simp[Reps],⟨rfl,(),(),()⟩⟩ ?T1 ?_⟩
 case B1=>
  show(-1000000:Int)<=(if ((ns.map V.int).length:Int)>1 then ((ns.map V.int).length:Int)else 1)
  split<;>omega
 case T1=>
  rintro i σ H2 D1 go1 hi ⟨o3,o4,o5,rs,us,rfl,s2,L2',R2,I2⟩
  have s02:=s2
  have i12:i<12:=by have:=rs6 ns.length h63;rw[ε]at hi;omega
  obtain⟨ms,hms,lms⟩:=lQ ns (some (0+(i:Int)*6)) (some (0+(i:Int)*6+6))
  refine⟨_,rfl,_,rfl,_,rfl,_,rfl,_,_,rfl,rfl,_,rfl,sc,_,rfl,s02.seq hS,λe1 he1=>⟨z1,λe2 he2=>⟨e2,6,_,rfl,rfl,aa,(),(),by rw[ω];decide,λe3 he3=>?_⟩⟩⟩
  have c1:=ac he1 (.lst (aH (ns.map V.int) (some (0+(i:Int)*6)) (some (0+(i:Int)*6+6))))
  have c2:=ac he2 (.lst [.int 0])
  have c3:=ac he3 (.lst (Β (6:Int).toNat [V.int 0]).flatten)
  have f1:=c3 _ _ (c2 _ _ (aa (H:=H2) (a:=e1) (o:=.lst (aH (ns.map V.int) (some (0+(i:Int)*6)) (some (0+(i:Int)*6+6))))))
  refine⟨e1,e3,_,_,rfl,rfl,f1,aa,?_,λe4 he4=>?_⟩
  ·rw[hms,ε,ω]
   have:(Β (6:Int).toNat [V.int 0]).flatten.length=6:=by decide
   omega
  have c4:=ac he4 (.lst (aH (ns.map V.int) (some (0+(i:Int)*6)) (some (0+(i:Int)*6+6))++(Β (6:Int).toNat [V.int 0]).flatten))
  refine⟨6,rfl,e4,_,rfl,SqL.of aa,λe5 he5=>?_⟩
  have c5:=ac he5 (.lst (aH (aH (ns.map V.int) (some (0+(i:Int)*6)) (some (0+(i:Int)*6+6))++(Β (6:Int).toNat [V.int 0]).flatten) none (some 6)))
  have hcells:∃cells:List Int,aH (aH (ns.map V.int) (some (0+(i:Int)*6)) (some (0+(i:Int)*6+6))++(Β (6:Int).toNat [V.int 0]).flatten) none (some 6)=cells.map V.int/\cells.length=6:=by
   refine⟨(ms++Β 6 0).take 6,?_,by rw[Φ,χ,u7];omega⟩
   have e:=cQ (aH (ns.map V.int) (some (0+(i:Int)*6)) (some (0+(i:Int)*6+6))++(Β (6:Int).toNat [V.int 0]).flatten) 6
   rw[y7,τ,<-hms]
   exact e
  obtain⟨cells,hc,lc⟩:=hcells
  have s5:=c1.trans (c2.trans (c3.trans (c4.trans c5)))
  have f5:=aa (H:=upd (upd (upd (upd H2 e1 (.lst (aH (ns.map V.int) (some (0+(i:Int)*6)) (some (0+(i:Int)*6+6))))) e2 (.lst [.int 0])) e3 (.lst (Β (6:Int).toNat [V.int 0]).flatten)) e4 (.lst (aH (ns.map V.int) (some (0+(i:Int)*6)) (some (0+(i:Int)*6+6))++(Β (6:Int).toNat [V.int 0]).flatten))) (a:=e5) (o:=.lst (aH (aH (ns.map V.int) (some (0+(i:Int)*6)) (some (0+(i:Int)*6+6))++(Β (6:Int).toNat [V.int 0]).flatten) none (some 6)))
  rw[hc]at f5 s5
  rw[hc]
  generalize upd _ e5 _=H3 at f5 s5⊢
  clear c1 c2 c3 c4 c5 f1 he1 he2 he3 he4 he5
  refine⟨e5,36,cells,rfl,SqL.of f5,(),(),(),(),λH4 dA s4 hdA d4=>?_⟩
  have s24:=s5.trans s4
  have dAn:H2 dA=none:=s5.free hdA
  refine gnm ?_
  dsimp only
  refine⟨_,rfl,dA,_,rfl,d4,λH5 x s5' d5 x0 x1=>?_⟩
  have s25:ae H2 H5:=λg o e=>s5' g o (af e dAn) (s24 _ _ e)
  have s05:=s02.trans s25
  have L5:=s25 _ _ L2'
  have LA:L≠dA:=af L2' dAn
  have rA:r≠dA:=af (s02 _ _ hR) dAn
  have r5:=s05 _ _ hR
  have lus:us.length=rs.length:=by have:=R2.length;rwa[ε]at this
  have lrs:=I2.len
  have rr:∀{G G':Hp}{vs:List V},bS G G'->Reps G (rs.map Rw.dv) vs->Reps G' (rs.map Rw.dv) vs:=λt R=>aP (λd hd v r=>by obtain⟨y,hy,rfl⟩:=Ζ.mp hd;exact ce t (I2.ok y hy).pl r) R
  have R5:=R2.mono s25
  have hAn:H dA=none:=by
   cases e:H dA with
   |none=>rfl
   |some u=>rw[s02 _ _ e]at dAn;cases dAn
  refine gnm ?_
  dsimp only
  have fin:∀(H6:Hp)(v:V)(rw':Rw),aD dA H5 H6->bS H5 H6->Rep H6 rw'.dv v->oV xs (i+1) (rs++[rw'])->H6 L=some (.lst us)/\us.length<sizeLine/\D1.nx [some (.ref sc),some (.ref r),some (.ref L),some (.int (0+(i:Int)*6)),some (.ref dA),some (.int x)] (upd H6 L (.lst (us++[v]))):=λH6 v rw' s6 t6 Rv I6=>by
   have L6:=s6 _ _ LA L5
   have sB:=aD.upd H6 L (.lst (us++[v]))
   have tB:=sB.tups L6
   refine⟨L6,by rw[ω];omega,go1 _ _ ⟨_,_,_,rs++[rw'],us++[v],rfl,λg o e=>sB g o (af e hL) (s6 g o (af e hAn) (s05 _ _ e)),aa,?_,I6⟩⟩
   rw[τ]
   exact Reps.append (rr (t6.trans tB) R5) (aK (ce tB (I6.ok rw' ()).pl Rv))
  refine⟨_,rfl,_,_,rfl,rfl,(by show(0:Int)<4;decide),rfl,_,rfl,aF (λ_=>?_) (λ_=>?_)⟩
  ·refine⟨_,rfl,.inl ⟨rfl,_,SqL.of L5⟩,_,rfl,_,rfl,dA,r,_,xs,rfl,d5,r5,rA,nms,λH6 v e s6 D6 Re ee se pe=>⟨z2,λt ht=>?_⟩⟩
   have p7:=ac ht (.tup [.str "ask",v])
   have Ra:Rep (upd H6 t (.tup [.str "ask",v])) (Rw.ask e).dv (.ref t):=by
    show Rep _ (.tup [.str "ask",e]) _
    rw[Rep]
    exact⟨t,_,rfl,aa,by simp only[Reps];exact⟨_,_,rfl,by simp only[Rep],_,_,rfl,Re.mono p7,rfl⟩⟩
   obtain⟨g1,g2,g3⟩:=fin _ (.ref t) (.ask e) (s6.trans (ae.b dA p7)) ((d5.tups s6).trans (ae.tups p7)) Ra (I2.ask ⟨ee,se,pe⟩)
   exact⟨L,_,_,rfl,rfl,g1,g2,g3⟩
  ·obtain⟨k1,k2⟩:=Bv i i12
   have hl:(((us.length:Nat):Int)%12)=((i:Int)%12):=by rw[lus,lrs]
   have hat:atI (ξ "abcdefghijkl").cps.toList (((us.length:Nat):Int)%12)=some (97+i):=by rw[hl];exact CF i12
   refine⟨_,rfl,.inl ⟨rfl,_,SqL.of L5⟩,_,rfl,L,us,rfl,.inl (SqL.of L5),_,_,rfl,rfl,(by show(0:Int)<12;decide),_,_,_,rfl,rfl,(by rw[ω];decide +kernel),hat,_,_,rfl,rfl,?_,_,rfl,_,rfl,fN i,dA,r,_,xs,rfl,d5,r5,rA,nms,k1,k2,λH6 v qs ps e n6 s6 D6 Rv h1=>?_⟩
   ·rw[ω];show _<=16777216;exact Ϙ (show(ξ "f").length+1<=2 by decide +kernel) ()
   ·obtain⟨g1,g2,g3⟩:=fin H6 v (.df (fN i) qs ps e) s6 (d5.tups s6) Rv (I2.df i12 h1)
    exact⟨L,_,_,rfl,rfl,g1,g2,g3⟩
 rintro σ H2 ⟨o3,o4,o5,rs,us,rfl,s2,L2',R2,I2⟩
 have n12:=rs6 ns.length h63
 rw[ε]at I2
 have lus:us.length=rs.length:=by have:=R2.length;rwa[ε]at this
 have lrs:=I2.len
 refine⟨_,rfl,12,rfl,L,us,rfl,SqL.of L2',λl hl=>?_⟩
 have e:aH us none (some 12)=us:=by
  rw[show(12:Int)=((12:Nat):Int)from rfl,cQ]
  exact Dj ()
 rw[e]
 have p3:=ac hl (.lst us)
 exact q _ l us rs (s2.trans p3) (s2.free hl) aa (R2.mono p3) ⟨(),I2.ok,I2.nd⟩
open PySem L2 KB XB L2.EX WR
def Cj(s:Stmt)(i:Nat):Stmt:=match s with|.ClassDef _ _ _ body _ _ _ _ _ _ _=>body.getD i (.Pass ⟨0,0,0,0⟩)|_=>.Pass ⟨0,0,0,0⟩
abbrev eI:Stmt:=Cj (top 1) 0
def Thr(E:XK)(H:Hp)(C:Addr)(i:Nat):Prop:=∀(H':Hp)(dx p:Addr),ae H H'->H' dx=some (.xd [("place",.ref p)])->H' p=some (.tup [.int i,.int 0])->E (.ref C) (some dx) H'
theorem Thr.same{E:XK}{H H1:Hp}{C:Addr}{i:Nat}(h:Thr E H C i)(s:ae H H1):Thr E H1 C i:=λH' dx p s1 h1 h2=>h H' dx p (s.trans s1) h1 h2
theorem Thr.at_{E:XK}{H H1:Hp}{C p:Addr}{i:Nat}(h:Thr E H C i)(s:ae H H1)(hp:H1 p=none):∀dx,upd H1 p (.tup [.int (i:Int),.int 0]) dx=none->E (.ref C) (some dx) (upd (upd H1 p (.tup [.int (i:Int),.int 0])) dx (.xd [("place",.ref p)])):=λdx hd=>
 h _ dx p (s.trans ((ac hp _).trans (ac hd _))) aa (ac hd _ _ _ aa)
def Rw.Fit:Rw->Prop
 |.ask _=>True
 |.df _ ns ps _=>ns.length<=4/\ps.length<=4/\∀p∈ps,p.2.size<=12/\p.2.All L40
def nbB(rs:List Rw)(i:Nat):Prop:=∃f ns ps e,rs[i]?=some (.df f ns ps e)/\fE ns ps=false
def md(C:List Rw->Prop):Sp:=λvs H Q _=>∃(l:Addr) (us:List V) (rs:List Rw),vs=[.ref l]/\H l=some (.lst us)/\Reps H (rs.map Rw.dv) us/\C rs/\rs.length<=12/\∀H',ae H H'->Q .non H'
theorem wn:am ["self","place"] ["self","place"] (ag eI):=by trivial
theorem vy{D fI:Addr}{fd:Ο}{dV:δ}(F:uH K "__init__" "IndexwiseError.__init__" eI fI fd dV)(T:Txt K mg):aG P w K mg base CX0 1 fI fd ["self","place"] (mV K D fI):=by
 refine F.ok wn (λvs H Q E h=>?_) (λcdv A outer s H vs Q E hr h=>?_)
 ·obtain⟨e,C,t,v,rfl,_⟩:=h
  rfl
 obtain⟨e,C,t,v,rfl,he,c,q⟩:=h
 refine⟨_,(@un _ _ _ (wbO (wbG (wcd D fI rfl T.ValueError () (wae (wv 0 rfl) (wae (wv 1 rfl) waf rfl) rfl) rfl rfl rfl) rfl) (wbQ (wce D fI (wv 0 rfl) (wv 1 rfl) rfl)))),?_⟩
 symm
 refine⟨_,rfl,_,rfl,e,C,t,v,rfl,he,c,λt'=>⟨_,rfl,_,rfl,e,C,t',rfl,aa,c,λdx hd hne=>?_⟩⟩
 have hd':H dx=none:=by rw[ai hne]at hd;exact hd
 have z:=q dx t' hd' hne
 have y:upd (upd (upd H e (Xr C t' e)) dx (.xd [("place",v)])) e (Xo C t' dx e)=upd (upd H dx (.xd [("place",v)])) e (Xo C t' dx e):=by
  funext b
  by_cases hb:b=e
  ·rw[hb,aa,aa]
  ·rw[ai hb,ai hb]
   by_cases hx:b=dx
   ·rw[hx,aa,aa]
   ·rw[ai hx,ai hx,ai hb]
 show Q .non (upd (upd (upd H e (Xr C t' e)) dx (.xd [("place",v)])) e (Xo C t' dx e))
 rw[y];exact z
theorem gm:am ["rows","number","row"] ["rows"] (ag dF):=by trivial
theorem mN{f:Addr}{fd:Ο}{k:Nat}(F:Fun K "hold_rows" "hold_rows" dF f fd)(T:Txt K mg)(Dis_row:Def P w K mg base k "is_row" ["thing"] (spS dZ)):aG P w K mg base CX0 (k+1) f fd ["rows"] (md λrs=>∀r∈rs,dZ r.dv=true/\r.dv.small=true):=by
 have nd:=gm.nd
 refine F.ok gm (λvs H Q E h=>?_) (λcdv A outer s H vs Q E hr h=>?_)
 ·obtain⟨l,us,rs,rfl,_⟩:=h
  rfl
 obtain⟨l,us,rs,rfl,hl,Ru,hC,l12,q⟩:=h
 refine⟨_,(@un _ _ _ (wbQ (wbH ϛ rfl (wbg rfl T.enumerate (wae (wv 0 rfl) waf rfl) rfl) (wbb rfl (wbd (waZ 1 nd rfl (Η rfl) ()) (wbd (waZ 2 nd rfl (Η rfl) ()) wbe rfl) rfl) rfl rfl) (wbQ (wbI (wbT (wbV (waq Dis_row hr rfl (wae (wv 2 rfl) waf rfl) () rfl rfl) ())) (wbQ wad) wbP)) ()))),?_⟩
 symm
 refine⟨_,rfl,l,rfl,⟨us,SqL.of hl⟩,dJ (xs:=us) (λi σ H'=>∃(o1 o2:Option V),σ=[some (.ref l),o1,o2]/\ae H H') ⟨_,_,rfl,ae.refl _⟩ (λi σ H' _ ⟨_,_,_,s1⟩=>SqL.of (s1 _ _ hl)) ?T1 ?_⟩
 case T1=>
  rintro i x σ H1 p hx ⟨o1,o2,rfl,s1⟩ hp
  obtain⟨r,hr',Rx⟩:=bi (f:=Rw.dv) Ru hx
  obtain⟨c1,c2⟩:=hC r (Λ hr')
  have s2:=s1.trans (ac hp (.tup [.int i,x]))
  refine⟨p,_,rfl,SqT.of aa,rfl,_,_,rfl,_,_,rfl,rfl,?_⟩
  refine⟨_,rfl,x,_,rfl,Rx.mono s2,c2,λH2 s3=>⟨_,rfl,?_⟩⟩
  rw[c1]
  exact av ⟨_,_,rfl,s2.trans s3⟩
 rintro σ H1 ⟨o1,o2,rfl,s1⟩
 exact q H1 s1
theorem gA:am ["rows","seen","number","row"] ["rows"] (ag dM):=by trivial
theorem lX{f:Addr}{fd:Ο}{k:Nat}(F:Fun K "hold_once" "hold_once" dM f fd)(T:Txt K mg)(Dis_twice:Def P w K mg base k "is_twice" ["things"] (sP K)):aG P w K mg base CX0 (k+1) f fd ["rows"] (md λrs=>(∃xs,∀r∈rs,r.Ok xs)/\(rs.flatMap Rw.f?).Nodup):=by
 have nd:=gA.nd
 refine F.ok gA (λvs H Q E h=>?_) (λcdv A outer s H vs Q E hr h=>?_)
 ·obtain⟨l,us,rs,rfl,_⟩:=h
  rfl
 obtain⟨l,us,rs,rfl,hl,Ru,⟨⟨xs,hC⟩,hN⟩,l12,q⟩:=h
 have hu:=jE hr
 have lu:us.length=rs.length:=by have:=Ru.length;rwa[ε]at this
 refine⟨_,(@un _ _ _ (wbO (wbM 1 nd rfl (Η rfl) waA rfl ()) (wbQ (wbH ϛ rfl (wbg rfl T.enumerate (wae (wv 0 rfl) waf rfl) rfl) (wbb rfl (wbd (waZ 2 nd rfl (Η rfl) ()) (wbd (waZ 3 nd rfl (Η rfl) ()) wbe rfl) rfl) rfl rfl) (wbQ (wbI (wbS aB (waD aj (wv 3 rfl) waC (λ_ _=>rfl)) waV (ah _)) (wbO (wbI (wab (wbY (wbS (qb hu) (waD aj (wv 3 rfl) waC (λ_ _=>rfl)) (wv 1 rfl) (by with_unfolding_all rfl)) (wbY (wbV (waq Dis_twice hr rfl (wae (waD aj (wv 3 rfl) waC (λ_ _=>rfl)) waf rfl) () rfl rfl) ()) (wbZ (wbV (waq Dis_twice hr rfl (wae (waE (["x","kind"]) [] (wbo (waD aj (wv 3 rfl) waC (λ_ _=>rfl))) (.of rfl) rfl (λ_ _ _=>⟨pg_tup rfl (pgs_cons (pg_name (i:=0) (bE (l:=["x","kind"]) (()) rfl) rfl (Η rfl)) (pgs_cons (pg_name (i:=1) (bE (l:=["x","kind"]) (()) rfl) rfl (Η rfl)) pgs_nil))⟩) (ie () ()) (λ_ _ _=>wbx) (λ_ _ _=>(wv 0 rfl)) ()) waf rfl) () rfl rfl) ()))))) (wbQ wad) wbP) (wbQ (wbF hu (wv 1 rfl) (waD aj (wv 3 rfl) waC (λ_ _=>rfl)) wah rfl))) wbP)) ())))),?_⟩
 symm
 intro d hd
 have s0:ae H (upd H d (.dK [])):=ac hd _
 have d0:upd H d (.dK []) d=some (.dK (bdK [])):=aa
 generalize upd H d (.dK [])=H0 at s0 d0⊢
 refine⟨_,rfl,l,rfl,⟨us,SqL.of (s0 _ _ hl)⟩,dJ (xs:=us) (λi σ H'=>∃(o1 o2:Option V),σ=[some (.ref l),some (.ref d),o1,o2]/\ae H H'/\H' d=some (.dK (bdK ((rs.take i).flatMap Rw.f?)))) ⟨_,_,rfl,s0,d0⟩ (λi σ H' _ ⟨_,_,_,s1,_⟩=>SqL.of (s1 _ _ hl)) ?T1 ?_⟩
 case T1=>
  rintro i x σ H1 p hx ⟨o1,o2,rfl,s1,d1⟩ hp
  obtain⟨r,hr',Rx⟩:=bi (f:=Rw.dv) Ru hx
  have hi:i<us.length:=(ο.mp hx).1
  have ok:=hC r (Λ hr')
  have hti:rs.take (i+1)=rs.take i++[r]:=by rw[ϗ,hr'];rfl
  have hsub:((rs.take (i+1)).flatMap Rw.f?).Nodup:=by
   have:rs.flatMap Rw.f?=(rs.take (i+1)).flatMap Rw.f?++(rs.drop (i+1)).flatMap Rw.f?:=by rw[<-ϰ,i3]
   rw[this]at hN
   exact(k8.mp hN).1
  have lf:((rs.take i).flatMap Rw.f?).length<=12:=by
   have h1:∀l:List Rw,(l.flatMap Rw.f?).length<=l.length:=by
    intro l
    induction l with
    |nil=>simp
    |cons y l ih=>rw[s_,χ,ϒ];have:y.f?.length<=1:=(by cases y<;>simp[Rw.f?]);omega
   have h2:=h1 (rs.take i)
   rw[Φ]at h2
   omega
  have s2:=s1.trans (ac hp (.tup [.int i,x]))
  have d2:=ac hp (.tup [.int i,x]) _ _ d1
  refine⟨p,_,rfl,SqT.of aa,rfl,_,_,rfl,_,_,rfl,rfl,?_⟩
  generalize upd H1 p (.tup [.int i,x])=H2 at s2 d2⊢
  obtain⟨a,rfl,inv⟩:=Rw.inv (Rx.mono s2)
  cases r with
  |ask e=>
   obtain⟨u,ha⟩:=inv
   refine⟨_,rfl,a,_,0,.str "ask",rfl,rfl,SqT.of ha,ad (j:=0) rfl,rfl,_,rfl,aF (λh=>absurd (Q7 h) iN) (λ_=>?_)⟩
   refine⟨_,_,rfl,s2,?_⟩
   rw[hti,ϰ]
   simpa[Rw.f?]using d2
  |df g ns ps e=>
   obtain⟨b,c,u,ha,Rn,Rp⟩:=inv
   have ok:DfN xs g ns ps e:=ok
   have n1:=ok.n0
   have n2:=ok.p0
   have n4:=ok.n4
   have p4:=ok.p4
   refine⟨_,rfl,a,_,0,.str "def",rfl,rfl,SqT.of ha,ad (j:=0) rfl,rfl,_,rfl,aF (λ_=>?_) (λh=>absurd (Q9 rfl) h)⟩
   have gn:g∉(rs.take i).flatMap Rw.f?:=by
    rw[hti,ϰ,k8]at hsub
    exactλz=>hsub.2.2 g z g (by simp[Rw.f?]) rfl
   refine⟨_,rfl,a,_,1,.str g,rfl,rfl,SqT.of ha,ad (j:=1) rfl,_,rfl,d,_,rfl,fO.k (k:=Μ g) d2,_,rfl,?_⟩
   show if (ca (bdK ((rs.take i).flatMap Rw.f?)) (Μ g)).isSome=true then _ else _
   rw[jB,Q8 gn]
   obtain⟨b',ws,e1,hb,Rw'⟩:=Rep.tup_inv Rn
   cases e1
   obtain⟨c',zs,e2,hc,Rz⟩:=Rep.tup_inv Rp
   cases e2
   have ew:ws=ns.map V.str:=bM Rw'
   subst ew
   refine av ⟨_,rfl,a,_,2,.ref b,rfl,rfl,SqT.of ha,ad (j:=2) rfl,b,ns,rfl,.inr (SqT.of hb),(),λH3 s3=>⟨_,rfl,?_⟩⟩
   rw[Q9 n1]
   have lz:zs.length=ps.length:=by have:=Rz.length;rwa[ε]at this
   refine av ⟨_,rfl,a,_,3,.ref c,rfl,rfl,SqT.of (s3 _ _ ha),ad (j:=3) rfl,c,rfl,⟨zs,SqT.of (s3 _ _ hc)⟩,dI (xs:=zs) (λi ys H'=>H'=H3/\ys=(ps.take i).map λp=>V.str p.1) ⟨rfl,rfl⟩ (λi ys H' _ p=>by rw[p.1];exact SqT.of (s3 _ _ hc)) ?_ ?_⟩
   ·rintro i ys H' x hx ⟨rfl,rfl⟩
    obtain⟨p,hp,Rx⟩:=bi (f:=bX) Rz hx
    obtain⟨e,z,rfl,he,_⟩:=eh Rx
    refine gg (s3 _ _ he) ⟨_,rfl,?_,rfl,?_⟩
    ·rw[ε,Φ,ω];omega
    ·rw[ϗ,hp,τ];rfl
   ·rintro ys H' ⟨rfl,rfl⟩ r hr''
    rw[lz,ϔ]
    have s4:=ac hr'' (.lst (ps.map λp=>V.str p.1))
    refine⟨r,ps.map (·.1),rfl,.inl (SqL.of (by rw[aa,ύ];rfl)),by rw[ε];omega,λH5 s5=>⟨_,rfl,?_⟩⟩
    rw[Q9 n2]
    have s25:=s3.trans (s4.trans s5)
    refine av ⟨_,rfl,_,rfl,a,_,1,.str g,rfl,rfl,SqT.of (s25 _ _ ha),ad (j:=1) rfl,d,_,rfl,iG.k (k:=Μ g) (s25 _ _ d2) ?_,?_⟩
    ·rw[show(bdK ((rs.take i).flatMap Rw.f?)).length=((rs.take i).flatMap Rw.f?).length from ε _,ω];omega
    ·refine⟨_,_,rfl,λx o e=>by rw[ai (af e hd)];exact s25 _ _ (s2 _ _ e),?_⟩
     rw[aa,qJ gn,hti,ϰ]
     rfl
 rintro σ H1 ⟨o1,o2,rfl,s1,_⟩
 exact q H1 s1
def kz(rs:List Rw):Option Nat->Prop
 |some i=>nbB rs i/\∀j,j<i->¬ nbB rs j
 |none=>∀j,¬ nbB rs j
def zK(cB:Addr)(H:Hp)(Q:VK)(E:XK):Option Nat->Prop
 |some i=>Thr E H cB i
 |none=>∀v H',ae H H'->Q v H'
def Bo(c:Addr):Sp:=λvs H Q E=>∃(l:Addr) (us:List V) (rs:List Rw) (ft:Option Nat),vs=[.ref l]/\H l=some (.lst us)/\Reps H (rs.map Rw.dv) us/\(∀r∈rs,r.Fit)/\kz rs ft/\zK c H Q E ft
def zH(cB:Addr):Sp:=λvs H Q E=>∃(l:Addr) (us:List V) (rs:List Rw) (xs:List Str) (ft:Option Nat),vs=[.ref l]/\H l=some (.lst us)/\Reps H (rs.map Rw.dv) us/\Nms xs/\xM xs rs/\kz rs ft/\zK cB H Q E ft
theorem eU{j i:Nat}{p:Nat->Prop}(h:j<i+1)(h1:∀j,j<i->p j)(h2:p i):p j:=by
 rcases Nat.lt_succ_iff_lt_or_eq.mp h with z|z
 ·exact h1 j z
 ·rw[z];exact h2
theorem eM:am ["rows","number","row"] ["rows"] (ag di):=by trivial
theorem ko{f D fI aNoBind:Addr}{fd fdI:Ο}{psI:List Str}{k:Nat}(F:Fun K "hold_bound" "hold_bound" di f fd)(T:Txt K mg)(c_NoBind:gZ K D fI aNoBind)(G_NoBind:mg "NoBind"=some (.ref aNoBind))(FI:aG P w K mg base CX0 k fI fdI psI (mV K D fI))(BI:cf K fdI psI [])
  (Dare_bound:Def P w K mg base (k+1) "are_bound" ["names","params"] rK):aG P w K mg base (CXe P w) (k+2) f fd ["rows"] (Bo aNoBind):=by
 have nd:=eM.nd
 refine okX F eM (λvs H Q E h=>?_) (λcdv A outer s H vs Q E hr h=>?_)
 ·obtain⟨l,us,rs,ft,rfl,_⟩:=h
  rfl
 obtain⟨l,us,rs,ft,rfl,hl,Ru,hC,ff,fe⟩:=h
 have lu:us.length=rs.length:=by have:=Ru.length;rwa[ε]at this
 refine⟨_,(@un _ _ _ (wbQ (wbH GI.leaving rfl (wbg rfl T.enumerate (wae (wv 0 rfl) waf rfl) rfl) (wbb rfl (wbd (waZ 1 nd rfl (Η rfl) ()) (wbd (waZ 2 nd rfl (Η rfl) ()) wbe rfl) rfl) rfl rfl) (wbQ (wbI (wab (wbW (wbS aB (waD aj (wv 2 rfl) waC (λ_ _=>rfl)) waV (ah _)) (wbX (wbT (wbV (waq Dare_bound hr rfl (wae (waD aj (wv 2 rfl) waC (λ_ _=>rfl)) (wae (waD aj (wv 2 rfl) waC (λ_ _=>rfl)) waf rfl) rfl) () rfl rfl) ()))))) (wbQ (wca c_NoBind FI hr BI rfl G_NoBind tP (wae (waX (wae (wv 1 rfl) (wae waC waf rfl) rfl)) waf rfl) () rfl rfl)) wbP)) ()))),?_⟩
 symm
 refine⟨_,rfl,l,rfl,⟨us,SqL.of hl⟩,dJ (xs:=us) (λi σ H'=>∃(o1 o2:Option V),σ=[some (.ref l),o1,o2]/\ae H H'/\∀j,j<i->¬ nbB rs j) ⟨_,_,rfl,ae.refl _,λj h=>absurd h (Ge _)⟩ (λi σ H' _ ⟨_,_,_,s1,_⟩=>SqL.of (s1 _ _ hl)) ?T1 ?_⟩
 case T1=>
  rintro i x σ H1 p hx ⟨o1,o2,rfl,s1,g1⟩ hp
  obtain⟨r,hr',Rx⟩:=bi (f:=Rw.dv) Ru hx
  have ok:=hC r (Λ hr')
  have s2:=s1.trans (ac hp (.tup [.int i,x]))
  refine⟨p,_,rfl,SqT.of aa,rfl,_,_,rfl,_,_,rfl,rfl,?_⟩
  generalize upd H1 p (.tup [.int i,x])=H2 at s2⊢
  obtain⟨a,rfl,inv⟩:=Rw.inv (Rx.mono s2)
  cases r with
  |ask e=>
   obtain⟨u,ha⟩:=inv
   exact⟨_,rfl,a,_,0,.str "ask",rfl,rfl,SqT.of ha,ad (j:=0) rfl,rfl,_,rfl,aF (λh=>absurd (Q7 h) iN) (λ_=>av ⟨_,_,rfl,s2,λj hj=>eU (p:=λj=>¬ nbB rs j) hj g1 λ⟨f,ns,ps,e',h',_⟩=>by rw[hr']at h';cases h'⟩)⟩
  |df g ns ps e=>
   obtain⟨b,c,u,ha,Rn,Rp⟩:=inv
   obtain⟨n4,p4,pk⟩:=ok
   refine⟨_,rfl,a,_,0,.str "def",rfl,rfl,SqT.of ha,ad (j:=0) rfl,rfl,_,rfl,aF (λ_=>?_) (λh=>absurd (Q9 rfl) h)⟩
   refine⟨_,rfl,a,_,2,.ref b,rfl,rfl,SqT.of ha,ad (j:=2) rfl,_,rfl,a,_,3,.ref c,rfl,rfl,SqT.of ha,ad (j:=3) rfl,.ref b,.ref c,ns,ps,rfl,Rn,Rp,n4,p4,pk,λH3 s3=>⟨_,rfl,?_⟩⟩
   cases hb:fE ns ps with
   |true=>exact av ⟨_,_,rfl,s2.trans s3,λj hj=>eU (p:=λj=>¬ nbB rs j) hj g1 λ⟨f,ns',ps',e',h',z⟩=>by rw[hr']at h';cases h';rw[hb]at z;cases z⟩
   |false=>
    have bad:nbB rs i:=⟨g,ns,ps,e,hr',hb⟩
    have T0:Thr E H aNoBind i:=by
     cases ft with
     |none=>exact absurd bad (ff i)
     |some k=>
      rcases Nat.lt_trichotomy i k with y|y|y
      ·exact absurd bad (ff.2 i y)
      ·rw[y];exact fe
      ·exact absurd ff.1 (g1 k y)
    exact au ⟨_,rfl,z2,λp2 hp2=>⟨_,rfl,T0.at_ (s2.trans s3) hp2⟩⟩
 rintro σ H1 ⟨o1,o2,rfl,s1,g1⟩
 cases ft with
 |none=>exact fe _ H1 s1
 |some k=>
  obtain⟨f,ns,ps,e,h,_⟩:=id ff.1
  exact absurd ff.1 (g1 k (by rw[lu];exact(ο.mp h).1))
theorem jh:am ["thing","rows"] ["thing"] (ag gX):=by trivial
theorem pK{f cB:Addr}{fd:Ο}{k:Nat}(F:Fun K "checked" "checked" gX f fd)(T:Txt K mg)
  (Dhold_rows:Def P w K mg base (k+1) "hold_rows" ["rows"] (md λrs=>∀r∈rs,dZ r.dv=true/\r.dv.small=true)) (Dhold_once:Def P w K mg base (k+1) "hold_once" ["rows"] (md λrs=>(∃xs,∀r∈rs,r.Ok xs)/\(rs.flatMap Rw.f?).Nodup)) (Dhold_bound:uG P w K mg base (k+1) "hold_bound" ["rows"] (Bo cB)):aG P w K mg base (CXe P w) (k+2) f fd ["thing"] (zH cB):=by
 have nd:=jh.nd
 refine okX F jh (λvs H Q E h=>?_) (λcdv A outer s H vs Q E hr h=>?_)
 ·obtain⟨l,us,rs,xs,ft,rfl,_⟩:=h
  rfl
 obtain⟨l,us,rs,xs,ft,rfl,hl,Ru,nms,ok,ff,fe⟩:=h
 have lu:us.length=rs.length:=by have:=Ru.length;rwa[ε]at this
 have l12:=ok.len
 have Rl:Rep H (.lst (rs.map Rw.dv)) (.ref l):=by rw[Rep];exact⟨l,us,rfl,hl,Ru⟩
 refine⟨_,(@un _ _ _ (wbO (wbI (wab (wbY (wbT (wbV (wal be rfl T.isinstance () (wae (wv 0 rfl) (wae (wai (.ty "list") rfl T.list () rfl () ()) waf rfl) rfl) () () rfl rfl) ())) (wbZ (wbS fQ (wal ap rfl T.len () (wae (wv 0 rfl) waf rfl) () () rfl rfl) ⟨T.g_MOST_ROWS rfl⟩ (ah _))))) (wbQ wad) wbP) (wbO (wbM 1 nd rfl (Η rfl) (wam gc rfl T.list () (wae (wv 0 rfl) waf rfl) () () rfl rfl) rfl ()) (wbO (wbG (waq Dhold_rows hr rfl (wae (wv 1 rfl) waf rfl) () rfl rfl) rfl) (wbO (wbG (waq Dhold_once hr rfl (wae (wv 1 rfl) waf rfl) () rfl rfl) rfl) (wbO (wbG (wcb Dhold_bound hr rfl (wae (wv 1 rfl) waf rfl) () rfl rfl) rfl) (wbQ (wbK (wv 1 rfl))))))))),?_⟩
 symm
 refine⟨_,rfl,_,_,_,_,rfl,Rl.ty,wg K _,_,rfl,?_⟩
 refine av ⟨_,rfl,l,us,rfl,.inl (SqL.of hl),_,_,rfl,rfl,_,rfl,?_⟩
 rw[Q8 ()]
 refine av ⟨_,rfl,l,us,rfl,.inl (SqL.of hl),λr hr'=>?_⟩
 have s1:=ac hr' (.lst us)
 have h1:upd H r (.lst us) r=some (.lst us):=aa
 generalize upd H r (.lst us)=H1 at s1 h1⊢
 refine⟨_,rfl,r,us,rs,rfl,h1,Ru.mono s1,λr hr=>(ok.ok r hr).row nms,l12,λH2 s2=>?_⟩
 refine⟨_,rfl,r,us,rs,rfl,s2 _ _ h1,Ru.mono (s1.trans s2),⟨⟨xs,ok.ok⟩,ok.nd⟩,l12,λH3 s3=>?_⟩
 have s13:=s1.trans (s2.trans s3)
 refine⟨_,rfl,r,us,rs,ft,rfl,(s2.trans s3) _ _ h1,Ru.mono s13,λr hr=>?_,ff,?_⟩
 ·have h:=ok.ok r hr
  cases r with
  |ask e=>trivial
  |df f ns ps e=>exact⟨DfN.n4 h,DfN.p4 h,(DfN.row nms h).2.2⟩
 ·cases ft with
  |none=>exactλv H4 s4=>⟨_,rfl,fe _ H4 (s13.trans s4)⟩
  |some i=>exact Thr.same fe s13
abbrev gU:Stmt:=top 73
structure Cb(K:ζ)(mg:Str->Option δ)(D fI aNoBind aNoProgram aTwice aNoName aUnlike aParts aTooGreat aTooLong aNoValue aNoWords aNoLine:Addr):Prop where
 top:Cn K D
 gD:mg "IndexwiseError"=some (.ref D)
 cB:gZ K D fI aNoBind
 oth:∀b∈[aNoProgram,aTwice,aNoName,aUnlike,aParts,aTooGreat,aTooLong,aNoValue,aNoWords,aNoLine],AM K D b
 gNoBind:mg "NoBind"=some (.ref aNoBind)
 gNoProgram:mg "NoProgram"=some (.ref aNoProgram)
 gTwice:mg "Twice"=some (.ref aTwice)
 gNoName:mg "NoName"=some (.ref aNoName)
 gUnlike:mg "Unlike"=some (.ref aUnlike)
 gParts:mg "Parts"=some (.ref aParts)
 gTooGreat:mg "TooGreat"=some (.ref aTooGreat)
 gTooLong:mg "TooLong"=some (.ref aTooLong)
 gNoValue:mg "NoValue"=some (.ref aNoValue)
 gNoWords:mg "NoWords"=some (.ref aNoWords)
 gNoLine:mg "NoLine"=some (.ref aNoLine)
 nd:aNoBind∉[aNoProgram,aTwice,aNoName,aUnlike,aParts,aTooGreat,aTooLong,aNoValue,aNoWords,aNoLine]
def wD:Option Nat->Dv
 |none=>.tup [.str "taken",.non]
 |some i=>.tup [.str "bind",.tup [.int i,.int 0]]
def zc:Sp:=λvs H Q _=>∃(l:Addr) (us:List V) (rs:List Rw) (xs:List Str) (ft:Option Nat),vs=[.ref l]/\H l=some (.lst us)/\Reps H (rs.map Rw.dv) us/\Nms xs/\xM xs rs/\kz rs ft/\∀H' v,ae H H'->Rep H' (wD ft) v->Q v H'
def zF:Str:=(Txt.mul "program" 0++Txt.mul "twice" 0)++Txt.mul "bind" 1++Txt.mul "-" 0
theorem BB:zF="bind":=by decide +kernel
theorem zle{n m:Nat}(h:n<=m)(hm:m<=1000):n<=sizeLine:=by rw[ω];omega
theorem jS:am ["_law_thing","_law_told","_law_e","_law_others","_law_word"] ["_law_thing"] (ag gU):=by trivial
theorem pJ{f fc D fI aNoBind aNoProgram aTwice aNoName aUnlike aParts aTooGreat aTooLong aNoValue aNoWords aNoLine:Addr}{fd fdc:Ο}{k:Nat}(F:Fun K "_law_refused" "_law_refused" gU f fd)(T:Txt K mg)(Er:Cb K mg D fI aNoBind aNoProgram aTwice aNoName aUnlike aParts aTooGreat aTooLong aNoValue aNoWords aNoLine)
  (F_checked:aG P w K mg base (CXe P w) k fc fdc ["thing"] (zH aNoBind)) (G_checked:mg "checked"=some (.ref fc)) (K_checked:v_ K (.ref fc)=true) (B_checked:cf K fdc ["thing"] []):aG P w K mg base CX0 (k+1) f fd ["_law_thing"] zc:=by
 have nd:=jS.nd
 have G_NoProgram:=Er.gNoProgram
 have G_Twice:=Er.gTwice
 have G_NoBind:=Er.gNoBind
 have G_NoName:=Er.gNoName
 have G_Unlike:=Er.gUnlike
 have G_Parts:=Er.gParts
 have G_TooGreat:=Er.gTooGreat
 have G_TooLong:=Er.gTooLong
 have G_NoValue:=Er.gNoValue
 have G_NoWords:=Er.gNoWords
 have G_NoLine:=Er.gNoLine
 have G_IndexwiseError:=Er.gD
 have XT:=Er.top
 refine F.ok jS (λvs H Q E h=>?_) (λcdv A outer s H vs Q E hr h=>?_)
 ·obtain⟨l,us,rs,xs,ft,rfl,_⟩:=h
  rfl
 obtain⟨l,us,rs,xs,ft,rfl,hl,Ru,nms,ok,ff,q⟩:=h
 refine⟨_,(@un _ _ _ (wbO (wbM 1 nd rfl (Η rfl) (waX (wae waV (wae waN waf rfl) rfl)) rfl ()) (wbO (wcc D fI 2 F_checked hr rfl G_checked K_checked B_checked (wae (wv 0 rfl) waf rfl) (λ_ _ z=>z) rfl XT rfl G_IndexwiseError rfl rfl nd rfl rfl (λeH=>(wbO (wbM 3 nd rfl (Η rfl) (waM (wae (wal (ba (D:=D) (fI:=fI)) rfl T.isinstance () (wae (wv 2 rfl) (wae (waB (.ref aNoName) rfl G_NoName rfl ()) waf rfl) rfl) () () rfl rfl) (wae (wal (ba (D:=D) (fI:=fI)) rfl T.isinstance () (wae (wv 2 rfl) (wae (waB (.ref aUnlike) rfl G_Unlike rfl ()) waf rfl) rfl) () () rfl rfl) (wae (wal (ba (D:=D) (fI:=fI)) rfl T.isinstance () (wae (wv 2 rfl) (wae (waB (.ref aParts) rfl G_Parts rfl ()) waf rfl) rfl) () () rfl rfl) (wae (wal (ba (D:=D) (fI:=fI)) rfl T.isinstance () (wae (wv 2 rfl) (wae (waB (.ref aTooGreat) rfl G_TooGreat rfl ()) waf rfl) rfl) () () rfl rfl) waf rfl) rfl) rfl) rfl)) rfl ()) (wbO (wbM 3 nd rfl (Η rfl) (waQ dj (wv 3 rfl) (waM (wae (wal (ba (D:=D) (fI:=fI)) rfl T.isinstance () (wae (wv 2 rfl) (wae (waB (.ref aTooLong) rfl G_TooLong rfl ()) waf rfl) rfl) () () rfl rfl) (wae (wal (ba (D:=D) (fI:=fI)) rfl T.isinstance () (wae (wv 2 rfl) (wae (waB (.ref aNoValue) rfl G_NoValue rfl ()) waf rfl) rfl) () () rfl rfl) (wae (wal (ba (D:=D) (fI:=fI)) rfl T.isinstance () (wae (wv 2 rfl) (wae (waB (.ref aNoWords) rfl G_NoWords rfl ()) waf rfl) rfl) () () rfl rfl) waf rfl) rfl) rfl))) rfl ()) (wbO (wbG (waj Ι Ϣ ϣ bf (wv 3 rfl) (wae (wal (ba (D:=D) (fI:=fI)) rfl T.isinstance () (wae (wv 2 rfl) (wae (waB (.ref aNoLine) rfl G_NoLine rfl ()) waf rfl) rfl) () () rfl rfl) waf rfl) rfl rfl rfl rfl rfl) rfl) (wbO (wbM 4 nd rfl (Η rfl) (waQ bA (waQ de waV (wam eF rfl T.int () (wae (wal (ba (D:=D) (fI:=fI)) rfl T.isinstance () (wae (wv 2 rfl) (wae (waB (.ref aNoProgram) rfl G_NoProgram rfl ()) waf rfl) rfl) () () rfl rfl) waf rfl) () () rfl rfl)) (waQ de waV (wam eF rfl T.int () (wae (wal (ba (D:=D) (fI:=fI)) rfl T.isinstance () (wae (wv 2 rfl) (wae (waB (.ref aTwice) rfl G_Twice rfl ()) waf rfl) rfl) () () rfl rfl) waf rfl) () () rfl rfl))) rfl ()) (wbO (wbM 4 nd rfl (Η rfl) (waQ bA (waQ bA (wv 4 rfl) (waQ de waV (wam eF rfl T.int () (wae (wal (ba (D:=D) (fI:=fI)) rfl T.isinstance () (wae (wv 2 rfl) (wae (waB (.ref aNoBind) rfl G_NoBind rfl ()) waf rfl) rfl) () () rfl rfl) waf rfl) () () rfl rfl))) (waQ de waV (wam eF rfl T.int () (wae (waR (wal (tH (e:=eH) rfl) rfl T.any () (wae (wv 3 rfl) waf rfl) () () rfl rfl) (waP (waO (wal (ba (D:=D) (fI:=fI)) rfl T.isinstance () (wae (wv 2 rfl) (wae (wai (.ty "ValueError") rfl T.ValueError () rfl () ()) waf rfl) rfl) () () rfl rfl)))) waf rfl) () () rfl rfl))) rfl ()) (wbQ (wbM 1 nd rfl (Η rfl) (waX (wae (wv 4 rfl) (wae (wcf D fI (wv 2 rfl) rfl) waf rfl) rfl)) rfl ())))))))) () () rfl rfl rfl) (wbQ (wbK (wv 1 rfl)))))),?_⟩
 symm
 refine⟨z2,λp0 hp0=>?_⟩
 have s0:=ac hp0 (.tup [.str "taken",.non])
 have h0:upd H p0 (.tup [.str "taken",.non]) p0=some (.tup [.str "taken",.non]):=aa
 generalize upd H p0 (.tup [.str "taken",.non])=H0 at s0 h0⊢
 refine⟨_,rfl,l,us,rs,xs,ft,rfl,s0 _ _ hl,Ru.mono s0,nms,ok,ff,?_⟩
 cases ft with
 |none=>
  intro v H' s'
  refine⟨_,rfl,q H' (.ref p0) (s0.trans s') ?_⟩
  show Rep H' (.tup [.str "taken",.non]) _
  rw[Rep]
  exact⟨p0,_,rfl,s' _ _ h0,by simp only[Reps];exact⟨_,_,rfl,by simp only[Rep],_,_,rfl,by simp only[Rep],rfl⟩⟩
 |some i=>
  intro H1 dx p s1 hdx hp
  have c:=Er.cB
  have ho:∀b∈[aNoProgram,aTwice,aNoName,aUnlike,aParts,aTooGreat,aTooLong,aNoValue,aNoWords,aNoLine],decide (b=aNoBind)=false:=λb hb=>Q8 λz=>Er.nd (z▸hb)
  refine⟨aNoBind,dx,.ref p,rfl,rfl,c,hdx,λe he=>?_⟩
  have t1:=s0.trans (s1.trans (ac he (Xh aNoBind dx e)))
  have hX:upd H1 e (Xh aNoBind dx e) e=some (Xh aNoBind dx e):=aa
  have hd1:=ac he (Xh aNoBind dx e) _ _ hdx
  have hp1:=ac he (Xh aNoBind dx e) _ _ hp
  generalize upd H1 e (Xh aNoBind dx e)=H2 at t1 hX hd1 hp1⊢
  refine⟨_,rfl,e,aNoBind,dx,_,rfl,hX,c,.inl ⟨_,_,rfl,(Er.oth aNoName ()),(ho aNoName ()),⟨_,rfl,e,aNoBind,dx,_,rfl,hX,c,.inl ⟨_,_,rfl,(Er.oth aUnlike ()),(ho aUnlike ()),⟨_,rfl,e,aNoBind,dx,_,rfl,hX,c,.inl ⟨_,_,rfl,(Er.oth aParts ()),(ho aParts ()),⟨_,rfl,e,aNoBind,dx,_,rfl,hX,c,.inl ⟨_,_,rfl,(Er.oth aTooGreat ()),(ho aTooGreat ()),⟨zle (ρ 4) (),λq1 hq1=>?_⟩⟩⟩⟩⟩⟩⟩⟩⟩
  have t2:=ac hq1 (.lst [.bl false,.bl false,.bl false,.bl false])
  have hX:=t2 _ _ hX
  have w2:upd H2 q1 (.lst [.bl false,.bl false,.bl false,.bl false]) q1=some (.lst [.bl false,.bl false,.bl false,.bl false]):=aa
  generalize upd H2 q1 (.lst [.bl false,.bl false,.bl false,.bl false])=H3 at t2 hX w2⊢
  refine⟨_,rfl,⟨_,rfl,e,aNoBind,dx,_,rfl,hX,c,.inl ⟨_,_,rfl,(Er.oth aTooLong ()),(ho aTooLong ()),⟨_,rfl,e,aNoBind,dx,_,rfl,hX,c,.inl ⟨_,_,rfl,(Er.oth aNoValue ()),(ho aNoValue ()),⟨_,rfl,e,aNoBind,dx,_,rfl,hX,c,.inl ⟨_,_,rfl,(Er.oth aNoWords ()),(ho aNoWords ()),⟨zle (ρ 3) (),λq2 hq2=>?_⟩⟩⟩⟩⟩⟩⟩⟩
  have t3:=ac hq2 (.lst [.bl false,.bl false,.bl false])
  refine⟨q1,q2,_,_,rfl,rfl,t3 _ _ w2,aa,zle (ρ 7) (),λq3 hq3=>?_⟩
  have t4:=t3.trans (ac hq3 (.lst [.bl false,.bl false,.bl false,.bl false,.bl false,.bl false,.bl false]))
  have hX:=t4 _ _ hX
  have w4:upd (upd H3 q2 (.lst [.bl false,.bl false,.bl false])) q3 (.lst ([.bl false,.bl false,.bl false,.bl false]++[.bl false,.bl false,.bl false])) q3=some (.lst [.bl false,.bl false,.bl false,.bl false,.bl false,.bl false,.bl false]):=aa
  have n3:H3 q3=none:=t3.free hq3
  replace t4:ae H3 (upd (upd H3 q2 (.lst [.bl false,.bl false,.bl false])) q3 (.lst ([.bl false,.bl false,.bl false,.bl false]++[.bl false,.bl false,.bl false]))):=t4
  replace hX:upd (upd H3 q2 (.lst [.bl false,.bl false,.bl false])) q3 (.lst ([.bl false,.bl false,.bl false,.bl false]++[.bl false,.bl false,.bl false])) e=some (Xh aNoBind dx e):=hX
  generalize upd (upd H3 q2 (.lst [.bl false,.bl false,.bl false])) q3 (.lst ([.bl false,.bl false,.bl false,.bl false]++[.bl false,.bl false,.bl false]))=H4 at t4 hX w4⊢
  refine⟨_,rfl,.inl ⟨rfl,_,SqL.of w4⟩,_,rfl,e,aNoBind,dx,_,rfl,hX,c,.inl ⟨_,_,rfl,(Er.oth aNoLine ()),(ho aNoLine ()),⟨q3,_,_,rfl,rfl,w4,by rw[ω];show 7<16777216;decide,?_⟩⟩⟩
  have t5:ae H3 (upd H4 q3 (.lst (([false,false,false,false,false,false,false,false]:List Bool).map V.bl))):=λg o z=>by rw[ai (af z n3)];exact t4 _ _ z
  have w5:upd H4 q3 (.lst (([false,false,false,false,false,false,false,false]:List Bool).map V.bl)) q3=some (.lst (([false,false,false,false,false,false,false,false]:List Bool).map V.bl)):=aa
  have ne3:e≠q3:=λz=>by rw[z]at hX;rw[hX]at w4;cases w4
  have hX:upd H4 q3 (.lst (([false,false,false,false,false,false,false,false]:List Bool).map V.bl)) e=some (Xh aNoBind dx e):=by rw[ai ne3];exact hX
  show tX _ _ _ _ (upd H4 q3 (.lst (([false,false,false,false,false,false,false,false]:List Bool).map V.bl)))
  generalize upd H4 q3 (.lst (([false,false,false,false,false,false,false,false]:List Bool).map V.bl))=H5 at t5 hX w5⊢
  refine⟨_,rfl,e,aNoBind,dx,_,rfl,hX,c,.inl ⟨_,_,rfl,(Er.oth aNoProgram ()),(ho aNoProgram ()),(.inr ⟨_,rfl,_,_,rfl,rfl,(),(),(),?_⟩)⟩⟩
  refine⟨_,rfl,e,aNoBind,dx,_,rfl,hX,c,.inl ⟨_,_,rfl,(Er.oth aTwice ()),(ho aTwice ()),(.inr ⟨_,rfl,_,_,rfl,rfl,(),(),(),?_⟩)⟩⟩
  refine⟨_,_,rfl,rfl,zle (m:=17) () (),?_⟩
  refine⟨_,rfl,⟨_,rfl,e,aNoBind,dx,_,rfl,hX,c,.inl ⟨_,_,rfl,Er.cB.sub,Q9 rfl,(.inr ⟨_,rfl,_,_,rfl,rfl,(),(),(),?_⟩)⟩⟩⟩
  refine⟨_,_,rfl,rfl,zle (m:=17) () (),?_⟩
  refine⟨_,rfl,q3,_,aNoBind,dx,rfl,w5,hX,false,rfl,av ⟨_,rfl,e,aNoBind,dx,_,rfl,hX,c,.inr ⟨rfl,_,rfl,.inr ⟨_,rfl,_,_,rfl,rfl,(),(),(),?_⟩⟩⟩⟩
  refine⟨_,_,rfl,rfl,zle (m:=17) () (),?_⟩
  refine⟨_,rfl,_,rfl,e,aNoBind,dx,_,rfl,hX,c,t5 _ _ (t2 _ _ hd1),z2,λq9 hq9=>?_⟩
  have t6:=ac hq9 (.tup [.str zF,.ref p])
  refine⟨_,rfl,q _ (.ref q9) (t1.trans (t2.trans (t5.trans t6))) ?_⟩
  show Rep _ (.tup [.str "bind",.tup [.int i,.int 0]]) _
  rw[<-BB,Rep]
  refine⟨q9,_,rfl,aa,?_⟩
  simp only[Reps]
  refine⟨_,_,rfl,by simp only[Rep];rfl,_,_,rfl,?_,rfl⟩
  rw[Rep]
  exact⟨p,_,rfl,t6 _ _ (t5 _ _ (t2 _ _ hp1)),by simp only[Reps];exact⟨_,_,rfl,by simp only[Rep],_,_,rfl,by simp only[Rep],rfl⟩⟩
abbrev qE:Stmt:=top 71
abbrev ia:Stmt:=top 67
theorem Bm{X:Cx}(K:ζ)(e:X.K=K):SlR X (vV K):=by subst e;exact iM
def ml(n:Nat):Sp:=λvs H Q _=>∃(v:V) (k:Kd),vs=[v]/\Rep H k.dv v/\k.size<=n/\∀H',ae H H'->Q (.int (k.size:Int)) H'
def gM:Kd->List (Option Kd)
 |.whole=>[]
 |.place _ _=>[none]
 |.row _ _ j=>[none,some j]
 |.pair i j=>[some i,some j]
def tD(H:Hp)(o:Option Kd)(u:V):Prop:=match o with|some j=>Rep H j.dv u|none=>∃c ps,Rep H (aY c ps) u
theorem tD.mono{H H':Hp}{o:Option Kd}{u:V}(h:tD H o u)(s:ae H H'):tD H' o u:=by
 cases o with
 |some j=>exact Rep.mono s h
 |none=>obtain⟨c,ps,r⟩:=h;exact⟨c,ps,r.mono s⟩
theorem tD.head{H:Hp}{o:Option Kd}{u:V}(h:tD H o u):∃a f rest d,u=.ref a/\H a=some (.tup (f::rest))/\(∀H',Rep H' d f)/\L2.Pl 0 d/\isT d "str"=o.isSome:=by
 cases o with
 |some j=>
  obtain⟨a,vs,rfl,ha,_⟩:=Kd.inv h
  exact⟨a,_,vs,.str j.word,rfl,ha,λH'=>by simp only[Rep],.str,rfl⟩
 |none=>
  obtain⟨c,ps,r⟩:=h
  obtain⟨a,b,us,rfl,ha,_⟩:=iR r
  exact⟨a,_,_,.int c,rfl,ha,λH'=>by simp only[Rep],.int,rfl⟩
theorem Ci{f:V}{xs:List V}:aH (f::xs) (some 1) none=xs:=by simp[aH,HT.sIx]
theorem zr{f:V}{xs:List V}:aH (f::xs) none (some 1)=[f]:=by simp[aH,HT.sIx]
theorem Ba{K:ζ}{H:Hp}{a:Addr}{f:V}{rest:List V}{Q:VK}(ha:H a=some (.tup (f::rest)))(k:∀H3 c,ae H H3->H3 c=some (.tup [f])->Q (.ref c) H3):vV K (.ref a) none (some 1) H Q:=
 ⟨a,_,rfl,SqT.of ha,λec=>k H a (ae.refl _) (by rw[zr]at ec;rw[ha,<-ec]),λp hp=>by rw[zr];exact k _ p (ac hp _) aa⟩
theorem vp{H:Hp}{k:Kd}{v:V}(r:Rep H k.dv v):∃a f us,v=.ref a/\H a=some (.tup (f::us))/\us.length=(gM k).length/\us.length<=2/\∀(i:Nat)(u:V),us[i]?=some u->∃o,(gM k)[i]?=some o/\tD H o u:=by
 obtain⟨a,vs,rfl,ha,h⟩:=Kd.inv r
 refine⟨a,_,vs,rfl,ha,?_⟩
 cases k with
 |whole=>subst h;exact⟨rfl,(),λi u hu=>by simp at hu⟩
 |place c ps=>
  obtain⟨l,rfl,r1⟩:=h
  refine⟨rfl,(),λi u hu=>?_⟩
  match i,hu with
  |0,hu=>cases hu;exact⟨_,rfl,c,ps,r1⟩
 |row c ps j=>
  obtain⟨l,u,rfl,r1,r2⟩:=h
  refine⟨rfl,(),λi u hu=>?_⟩
  match i,hu with
  |0,hu=>cases hu;exact⟨_,rfl,c,ps,r1⟩
  |1,hu=>cases hu;exact⟨_,rfl,r2⟩
 |pair i j=>
  obtain⟨l,u,rfl,r1,r2⟩:=h
  refine⟨rfl,(),λi u hu=>?_⟩
  match i,hu with
  |0,hu=>cases hu;exact⟨_,rfl,r1⟩
  |1,hu=>cases hu;exact⟨_,rfl,r2⟩
def szs(os:List (Option Kd)):List Int:=os.filterMap λo=>o.map λj=>(j.size:Int)
theorem yb(k:Kd):1+(szs (gM k)).sum=(k.size:Int):=by
 cases k with
 |whole=>rfl
 |place c ps=>rfl
 |row c ps j=>show 1+((j.size:Int)+0)=((j.size+1:Nat):Int);omega
 |pair i j=>show 1+((i.size:Int)+((j.size:Int)+0))=((i.size+j.size+1:Nat):Int);omega
theorem xW{k j:Kd}(h:some j∈gM k):j.size<k.size:=by
 cases k with
 |whole=>cases h
 |place c ps=>simp[gM]at h
 |row c ps i=>simp[gM]at h;subst h;show j.size<j.size+1;omega
 |pair i l=>
  simp[gM]at h
  rcases h with rfl|rfl
  ·show j.size<j.size+l.size+1;omega
  ·show j.size<i.size+j.size+1;omega
def aW:Kd->List (Bool×Int×List Pr)
 |.whole=>[]
 |.place c ps=>[(false,c,ps)]
 |.row c ps k=>(true,c,ps)::aW k
 |.pair i j=>aW i++aW j
def lnD(p:Bool×Int×List Pr):Dv:=.tup [.bl p.1,aY p.2.1 p.2.2]
theorem sR{H:Hp}{t:Addr}{b:Bool}{u:V}{c:Int}{ps:List Pr}(h:H t=some (.tup [.bl b,u]))(r:Rep H (aY c ps) u):Rep H (lnD (b,c,ps)) (.ref t):=by
 show Rep H (.tup [.bl b,aY c ps]) _
 rw[Rep]
 exact⟨t,_,rfl,h,by simp only[Reps];exact⟨_,_,rfl,by simp only[Rep],_,_,rfl,r,rfl⟩⟩
def mi(n:Nat):Sp:=λvs H Q _=>∃(v:V) (k:Kd),vs=[v]/\Rep H k.dv v/\k.size<=n/\k.size<=1000/\∀(H':Hp)(l:Addr)(us:List V),ae H H'->H l=none->H' l=some (.lst us)->Reps H' ((aW k).map lnD) us->us.length<=k.size->Q (.ref l) H'
theorem rZ:am ["_law_kind"] ["_law_kind"] (ag qE):=by trivial
theorem xY{f:Addr}{fd:Ο}{k0 n:Nat}(F:Fun K "_law_size" "_law_size" qE f fd)(T:Txt K mg)(D_law_size:Def P w K mg base k0 "_law_size" ["_law_kind"] (ml n)):aG P w K mg base CX0 (k0+1) f fd ["_law_kind"] (ml (n+1)):=by
 have nd:=rZ.nd
 refine F.ok rZ (λvs H Q E h=>?_) (λcdv A outer s H vs Q E hr h=>?_)
 ·obtain⟨v,k,rfl,_⟩:=h
  rfl
 obtain⟨v,k,rfl,R,hn,q⟩:=h
 have hu9:=cK hr
 refine⟨_,(@un _ _ _ (wbQ (wbK (waQ bv waC (wal (uo rfl) rfl T.sum () (wae (waE ["_law_part"] [] (wbo (waT (Bm K rfl) (wv 0 rfl) (wbA waC) wbz)) (.of rfl) rfl (λ_ _ _=>⟨pg_name (i:=0) (bE (l:=["_law_part"]) (()) rfl) rfl (Η rfl)⟩) (bH ()) (λ_ _ _=>⟨iK (PW.pt (pw_and (pt_cmpR (pM hu9) (pe_slice (Bm K rfl) (pv 0) po_none (po_some pe_int)) (pe_tup pa_nil) (ah _)) (pw_and1 (pt_val (pe_callB (Dc K rfl) rfl T.isinstance () (pa_cons (pe_ix (iU K rfl) (pv 0) pe_int (λ_ _=>rfl)) (pa_cons (pe_bltn (v:=.ty "str") rfl T.str () rfl) pa_nil)))))))⟩) (λ_ _ _=>(waq D_law_size hr rfl (wae (wv 0 rfl) waf rfl) () rfl rfl)) ()) waf rfl) () () rfl rfl))))),?_⟩
 symm
 obtain⟨a,f0,us,rfl,ha,lu,l2,hp⟩:=vp R
 refine⟨_,rfl,1,rfl,a,_,rfl,SqT.of ha,λec=>?_,λp hp0=>?_⟩
 ·rw[Ci]at ec
  have:=congrArg List.length ec
  simp at this
 rw[Ci]
 have s1:=ac hp0 (.tup us)
 have h1:upd H p (.tup us) p=some (.tup us):=aa
 generalize upd H p (.tup us)=H1 at s1 h1⊢
 refine⟨p,rfl,⟨us,SqT.of h1⟩,dI (xs:=us) (λi ys H'=>ae H1 H'/\ys=(szs ((gM k).take i)).map V.int) ⟨ae.refl _,rfl⟩ (λi ys H' _ p=>SqT.of (p.1 _ _ h1)) ?_ ?_⟩
 ·rintro i ys H2 u hu ⟨s2,rfl⟩
  obtain⟨o,ho,pt⟩:=hp i u hu
  have s12:=s1.trans s2
  obtain⟨b,f1,rest,d,rfl,hb,Rf,pl,hd⟩:=(pt.mono s12).head
  have hti:(gM k).take (i+1)=(gM k).take i++[o]:=by rw[ϗ,ho];rfl
  have ls:(szs ((gM k).take i)).length<=2:=by
   have h1:=List.length_filterMap_le (λo:Option Kd=>o.map λj=>(j.size:Int)) ((gM k).take i)
   rw[Φ]at h1
   unfold szs
   omega
  refine sh ⟨_,rfl,1,rfl,Ba hb λH3 c s3 hc=>⟨Ξ _,λt ht=>⟨1,[d],[],.tup (λe he=>by rw[θ.mp he];exact pl),.tup (),(),?_,?_,λb' hb'=>⟨b',rfl,?_⟩⟩⟩⟩
  ·rw[Rep];exact⟨c,_,rfl,ac ht _ _ _ hc,aK (Rf _)⟩
  ·rw[Rep];exact⟨t,_,rfl,aa,by simp[Reps]⟩
  ·rw[hb'.mpr ()]
   have s4:=s3.trans (ac ht (.tup []))
   refine au ⟨_,rfl,b,_,0,f1,rfl,rfl,SqT.of (s4 _ _ hb),ad (j:=0) rfl,f1,_,_,_,rfl,(Rf _).ty,iL K d,_,rfl,?_⟩
   rw[hd]
   cases o with
   |some j=>
    have pj:Rep H j.dv (.ref b):=pt
    have lj:=xW (Λ ho)
    refine au ⟨_,rfl,.ref b,j,rfl,pj.mono (s12.trans s4),(),λH5 s5=>⟨by rw[ε,ω];omega,s2.trans (s4.trans s5),?_⟩⟩
    rw[hti]
    unfold szs
    rw[List.filterMap_append,τ];rfl
   |none=>
    refine av ⟨s2.trans s4,?_⟩
    rw[hti]
    unfold szs
    rw[List.filterMap_append]
    simp
 ·rintro ys H2 ⟨s2,rfl⟩ l hl
  rw[lu,ϔ]
  refine⟨l,_,rfl,SqL.of aa,?_⟩
  refine⟨_,_,rfl,rfl,?_⟩
  show Q (.int (1+(szs (gM k)).sum)) _
  rw[yb]
  exact q _ (s1.trans (s2.trans (ac hl _)))
theorem iZ:am ["_law_kind"] ["_law_kind"] (ag ia):=by trivial
theorem qK{f:Addr}{fd:Ο}{k0 n:Nat}(F:Fun K "_law_lengths" "_law_lengths" ia f fd)(T:Txt K mg)(D_law_lengths:Def P w K mg base k0 "_law_lengths" ["_law_kind"] (mi n)):aG P w K mg base CX0 (k0+1) f fd ["_law_kind"] (mi (n+1)):=by
 have nd:=iZ.nd
 refine F.ok iZ (λvs H Q E h=>?_) (λcdv A outer s H vs Q E hr h=>?_)
 ·obtain⟨v,k,rfl,_⟩:=h
  rfl
 obtain⟨v,k,rfl,R,hn,hz,q⟩:=h
 refine⟨_,(@un _ _ _ (wbO (wbI (wbS aB (waD aj (wv 0 rfl) waC (λ_ _=>rfl)) waV (ah _)) (wbQ (wbK (waM waf))) wbP) (wbO (wbI (wbS aB (waD aj (wv 0 rfl) waC (λ_ _=>rfl)) waV (ah _)) (wbQ (wbK (waQ dj (waq D_law_lengths hr rfl (wae (waD aj (wv 0 rfl) waC (λ_ _=>rfl)) waf rfl) () rfl rfl) (waq D_law_lengths hr rfl (wae (waD aj (wv 0 rfl) waC (λ_ _=>rfl)) waf rfl) () rfl rfl)))) wbP) (wbO (wbI (wbS aB (waD aj (wv 0 rfl) waC (λ_ _=>rfl)) waV (ah _)) (wbQ (wbK (waM (wae (waX (wae wah (wae (waD aj (wv 0 rfl) waC (λ_ _=>rfl)) waf rfl) rfl)) waf rfl)))) wbP) (wbQ (wbK (waQ dj (waM (wae (waX (wae wah (wae (waD aj (wv 0 rfl) waC (λ_ _=>rfl)) waf rfl) rfl)) waf rfl)) (waq D_law_lengths hr rfl (wae (waD aj (wv 0 rfl) waC (λ_ _=>rfl)) waf rfl) () rfl rfl)))))))),?_⟩
 symm
 obtain⟨a,vs,rfl,ha,h⟩:=Kd.inv R
 cases k with
 |whole=>
  exact⟨_,rfl,a,_,0,.str "whole",rfl,rfl,SqT.of ha,ad (j:=0) rfl,rfl,_,rfl,aF (λ_=>⟨Ξ _,λl hl=>q _ l [] (ac hl _) hl aa (by simp[aW,Reps]) (Ξ _)⟩) (λh=>absurd (Q9 rfl) h)⟩
 |place c ps=>
  obtain⟨u,rfl,r1⟩:=h
  refine⟨_,rfl,a,_,0,.str "place",rfl,rfl,SqT.of ha,ad (j:=0) rfl,rfl,_,rfl,aF (λh=>absurd (Q7 h) (wne ())) (λ_=>?_)⟩
  refine⟨_,rfl,a,_,0,.str "place",rfl,rfl,SqT.of ha,ad (j:=0) rfl,rfl,_,rfl,aF (λh=>absurd (Q7 h) (wne ())) (λ_=>?_)⟩
  refine⟨_,rfl,a,_,0,.str "place",rfl,rfl,SqT.of ha,ad (j:=0) rfl,rfl,_,rfl,aF (λ_=>?_) (λh=>absurd (Q9 rfl) h)⟩
  refine⟨_,rfl,a,_,1,u,rfl,rfl,SqT.of ha,ad (j:=1) rfl,z2,λt ht=>⟨z1,λl hl=>?_⟩⟩
  have p1:=(ac ht (.tup [.bl false,u])).trans (ac hl (.lst [.ref t]))
  exact q _ l _ p1 ((ac ht _).free hl) aa (aK (sR (ac hl _ _ _ aa) (r1.mono p1))) (ρ 1)
 |row c ps j=>
  obtain⟨u,w',rfl,r1,r2⟩:=h
  refine⟨_,rfl,a,_,0,.str "row",rfl,rfl,SqT.of ha,ad (j:=0) rfl,rfl,_,rfl,aF (λh=>absurd (Q7 h) (wne ())) (λ_=>?_)⟩
  refine⟨_,rfl,a,_,0,.str "row",rfl,rfl,SqT.of ha,ad (j:=0) rfl,rfl,_,rfl,aF (λh=>absurd (Q7 h) (wne ())) (λ_=>?_)⟩
  refine⟨_,rfl,a,_,0,.str "row",rfl,rfl,SqT.of ha,ad (j:=0) rfl,rfl,_,rfl,aF (λh=>absurd (Q7 h) (wne ())) (λ_=>?_)⟩
  have hn:j.size+1<=n+1:=hn
  have hz:j.size+1<=1000:=hz
  refine⟨_,rfl,a,_,1,u,rfl,rfl,SqT.of ha,ad (j:=1) rfl,z2,λt ht=>⟨z1,λl hl=>?_⟩⟩
  have p1:=(ac ht (.tup [.bl true,u])).trans (ac hl (.lst [.ref t]))
  have ht1:=ac hl (.lst [.ref t]) _ _ (aa (H:=H) (a:=t) (o:=.tup [.bl true,u]))
  have hl1:upd (upd H t (.tup [.bl true,u])) l (.lst [.ref t]) l=some (.lst [.ref t]):=aa
  generalize upd (upd H t (.tup [.bl true,u])) l (.lst [.ref t])=H1 at p1 ht1 hl1⊢
  refine⟨_,rfl,a,_,2,w',rfl,rfl,SqT.of (p1 _ _ ha),ad (j:=2) rfl,w',j,rfl,r2.mono p1,(),(),λH2 l2 us s2 hl2 h2 Rs lu=>?_⟩
  refine⟨l,l2,_,us,rfl,rfl,s2 _ _ hl1,h2,by rw[ω];show 1+_<=_;omega,λl3 hl3=>?_⟩
  have p3:=ac hl3 (.lst ([.ref t]++us))
  refine q _ l3 _ (p1.trans (s2.trans p3)) ((p1.trans s2).free hl3) aa (Reps.append (aK (sR (p3 _ _ (s2 _ _ ht1)) (r1.mono (p1.trans (s2.trans p3))))) (Rs.mono p3)) ?_
  show([V.ref t]++us).length<=j.size+1
  rw[χ];show 1+_<=_;omega
 |pair i j=>
  obtain⟨u,w',rfl,r1,r2⟩:=h
  refine⟨_,rfl,a,_,0,.str "pair",rfl,rfl,SqT.of ha,ad (j:=0) rfl,rfl,_,rfl,aF (λh=>absurd (Q7 h) (wne ())) (λ_=>?_)⟩
  refine⟨_,rfl,a,_,0,.str "pair",rfl,rfl,SqT.of ha,ad (j:=0) rfl,rfl,_,rfl,aF (λ_=>?_) (λh=>absurd (Q9 rfl) h)⟩
  have hn:i.size+j.size+1<=n+1:=hn
  have hz:i.size+j.size+1<=1000:=hz
  refine⟨_,rfl,a,_,1,u,rfl,rfl,SqT.of ha,ad (j:=1) rfl,u,i,rfl,r1,(),(),λH1 l1 us1 s1 hl1 h1 Rs1 lu1=>?_⟩
  refine⟨_,rfl,a,_,2,w',rfl,rfl,SqT.of (s1 _ _ ha),ad (j:=2) rfl,w',j,rfl,r2.mono s1,(),(),λH2 l2 us s2 hl2 h2 Rs lu=>?_⟩
  refine⟨l1,l2,us1,us,rfl,rfl,s2 _ _ h1,h2,by rw[ω];omega,λl3 hl3=>?_⟩
  have p3:=ac hl3 (.lst (us1++us))
  refine q _ l3 _ (s1.trans (s2.trans p3)) ((s1.trans s2).free hl3) aa ?_ ?_
  ·show Reps _ ((aW i++aW j).map lnD) _
   rw[τ]
   exact Reps.append (Rs1.mono (s2.trans p3)) (Rs.mono p3)
  ·show(us1++us).length<=i.size+j.size+1
   rw[χ];omega
abbrev iP:Stmt:=top 68
def stp(ns bs:List Str)(p:Bool×Int×List Pr):Option (List Str):=if ((ay bs p.2.2).isEmpty||(p.1&&(decide ((ay bs p.2.2).length=1)&&((ay bs p.2.2).map λq=>decide (q∈ns.map λx=>(x,(1:Int)))).headD false)))=true then some (bs++(ay bs p.2.2).map (·.1))else none
def bnN(ns:List Str):List Str->List (Bool×Int×List Pr)->Option (List Str)
 |bs,[]=>some bs
 |bs,p::ls=>match stp ns bs p with|none=>none|some cs=>bnN ns cs ls
theorem cO(ns:List Str):∀(xs ys:List (Bool×Int×List Pr))(bs:List Str),bnN ns bs (xs++ys)=match bnN ns bs xs with|none=>none|some cs=>bnN ns cs ys
 |[],_,_=>rfl
 |x::xs,ys,bs=>by
  show(match stp ns bs x with|none=>none|some cs=>bnN ns cs (xs++ys))=match (match stp ns bs x with|none=>none|some cs=>bnN ns cs xs)with|none=>none|some cs=>bnN ns cs ys
  cases stp ns bs x with
  |none=>rfl
  |some cs=>exact cO ns xs ys cs
theorem og{ns bs:List Str}{k:Kd}(h:bU bs k=[]):dl ns bs k=some bs:=by
 unfold dl
 rw[h,Q0 (by rfl)]
 simp
theorem gv(ns:List Str):∀(k:Kd)(bs:List Str),bZ ns bs k.pts=bnN ns bs (aW k)
 |.whole,bs=>by
  show(match dl ns bs .whole with|none=>none|some cs=>bZ ns cs [])=_
  rw[og rfl];rfl
 |.place c ps,bs=>by
  show(match dl ns bs (.place c ps)with|none=>none|some cs=>bZ ns cs [])=match stp ns bs (false,c,ps)with|none=>none|some cs=>bnN ns cs []
  have e:dl ns bs (.place c ps)=stp ns bs (false,c,ps):=by
   unfold dl stp oY
   rw[show decide ((Kd.place c ps).word=ξ "row")=false from by show decide (ξ "place"=ξ "row")=false;decide +kernel]
   rfl
  rw[e];rfl
 |.row c ps k,bs=>by
  show(match dl ns bs (.row c ps k)with|none=>none|some cs=>bZ ns cs k.pts)=match stp ns bs (true,c,ps)with|none=>none|some cs=>bnN ns cs (aW k)
  have e:dl ns bs (.row c ps k)=stp ns bs (true,c,ps):=by
   unfold dl stp oY
   rw[show decide ((Kd.row c ps k).word=ξ "row")=true from Q9 rfl]
   rfl
  rw[e]
  cases stp ns bs (true,c,ps)with
  |none=>rfl
  |some cs=>exact gv ns k cs
 |.pair i j,bs=>by
  show(match dl ns bs (.pair i j)with|none=>none|some cs=>bZ ns cs (i.pts++j.pts))=bnN ns bs (aW i++aW j)
  rw[og rfl,cO,<-gv ns i bs]
  show bZ ns bs (i.pts++j.pts)=_
  rw[cb]
  cases bZ ns bs i.pts with
  |none=>rfl
  |some cs=>exact gv ns j cs
theorem oB(ns:List Str):∀(ks:List Kd)(bs:List Str),bZ ns bs (ks.flatMap Kd.pts)=bnN ns bs (ks.flatMap aW)
 |[],_=>rfl
 |k::ks,bs=>by
  rw[s_,s_,cb,cO,gv]
  cases bnN ns bs (aW k)with
  |none=>rfl
  |some cs=>exact oB ns ks cs
theorem sJ(ns:List Str)(ps:List Prm):fE ns ps=match bnN ns [] (ps.flatMap λp=>aW p.2)with|none=>false|some bs=>decide (bs.length=ns.length):=by
 unfold fE
 rw[show(ps.flatMap λp=>p.2.pts)=(ps.map (·.2)).flatMap Kd.pts by rw[List.flatMap_map],oB,List.flatMap_map]<;>rfl
theorem xU{ns bs:List Str}{b:Bool}{c:Int}{ps:List Pr}{p:Pr}(hb:∀x∈bs,x∈ns)(hp:p∈ps)(hn:p.1∉ns):stp ns bs (b,c,ps)=none:=by
 have hf:p∈ay bs ps:=ϙ.mpr ⟨hp,by simp;exactλz=>hn (hb _ z)⟩
 unfold stp
 rw[Q6]
 show ¬ ((ay bs ps).isEmpty||_)=true
 match e:ay bs ps,hf with
 |[q],hf=>
  rw[θ]at hf
  subst hf
  have:decide (p∈ns.map λx=>(x,(1:Int)))=false:=Q8 λz=>by
   obtain⟨x,hx,rfl⟩:=Ζ.mp z
   exact hn hx
  show ¬ (false||(b&&(decide (1=1)&&decide (p∈ns.map λx=>(x,(1:Int))))))=true
  rw[this];simp
 |q::r::l,_=>show ¬ (false||(b&&(decide (l.length+1+1=1)&&_)))=true;rw[Q8 ()];simp
theorem Ar{ns bs:List Str}{b:Bool}{c:Int}{ps:List Pr}(ha:∀p∈ps,p.1∈ns):stp ns bs (b,c,ps)=if ((ay bs ps).map (·.2)=[]\/(b=true/\(ay bs ps).map (·.2)=[1]))then some (bs++(ay bs ps).map (·.1))else none:=by
 unfold stp
 have hf:∀p∈ay bs ps,p.1∈ns:=λp hp=>ha p (ϙ.mp hp).1
 show(if ((ay bs ps).isEmpty||(b&&(decide ((ay bs ps).length=1)&&((ay bs ps).map λq=>decide (q∈ns.map λx=>(x,(1:Int)))).headD false)))=true then some (bs++(ay bs ps).map (·.1))else none)=_
 congr 1
 match e:ay bs ps with
 |[]=>simp
 |[q]=>
  have hq:q.1∈ns:=hf q (by rw[e];simp)
  have:(q∈ns.map λx=>(x,(1:Int)))↔q.2=1:=by
   rw[Ζ]
   exact⟨λ⟨x,_,h⟩=>by rw[<-h],λh=>⟨q.1,hq,by rw[<-h]⟩⟩
  have this':(∃a,a∈ns/\(a,(1:Int))=q)↔q.2=1:=by rw[<-this,Ζ]
  simp[this']
 |q::r::l=>simp
theorem gJ(bs:List Str)(xs ys:List Pr):ay bs (xs++ys)=ay bs xs++ay bs ys:=El ..
theorem uW{m:Str}:∀ms:List Str,inV (.str m) (ms.map V.str)=decide (m∈ms)
 |[]=>rfl
 |y::ms=>by
  have ih:=uW (m:=m) ms
  show(eqV (.str y) (.str m)||inV (.str m) (ms.map V.str))=_
  rw[ih]
  by_cases h:y=m
  ·subst h
   rw[Q9 (Δ)]
   simp[eqV]
  ·have e1:eqV (.str y) (.str m)=false:=by simp[eqV,h]
   rw[e1,B6]
   by_cases z:m∈ms
   ·rw[Q9 z,Q9 (υ _ z)]
   ·rw[Q8 z,Q8 (λq=>(μ.mp q).elim (λq=>h q.symm) z)]
theorem uh(ms:List Str):(ms.map V.str).all gu=true:=by rw[DT,e_];intro x _;rfl
theorem Ae{ns bs cs:List Str}{ps:List Prm}{i j:Nat}{p:Prm}{k:Bool×Int×List Pr}(hp:ps[i]?=some p)(hj:(aW p.2)[j]?=some k)(e1:bnN ns [] ((ps.take i).flatMap λp=>aW p.2)=some bs)(e3:bnN ns bs ((aW p.2).take j)=some cs)(h:stp ns cs k=none):fE ns ps=false:=by
 obtain⟨hi,hpe⟩:=ο.mp hp
 obtain⟨hj',hje⟩:=ο.mp hj
 have e:ps=ps.take i++p::ps.drop (i+1):=by rw[<-hpe,<-ϲ hi,i3]
 have e':aW p.2=(aW p.2).take j++k::(aW p.2).drop (j+1):=by rw[<-hje,<-ϲ hj',i3]
 have h1:ps.flatMap (λp=>aW p.2)=((ps.take i).flatMap λp=>aW p.2)++(aW p.2++(ps.drop (i+1)).flatMap λp=>aW p.2):=by
  conv=>lhs;rw[e]
  rw[ϰ,s_]
 have h2:bnN ns bs (aW p.2)=none:=by
  rw[e',cO,e3]
  show(match stp ns cs k with|none=>none|some c=>bnN ns c _)=none
  rw[h]
 rw[sJ,h1,cO,e1]
 show(match bnN ns bs (aW p.2++_)with|none=>false|some bs=>decide (bs.length=ns.length))=false
 rw[cO,h2]
theorem zY{bs:List Str}{x:Str}(h:x∈bs):cx (bdK bs) (Μ x) (.bl true)=bdK bs:=by
 unfold cx
 have e:((bdK bs).any λkv=>decide (kv.1=Μ x))=true:=a_.mpr ⟨(Μ x,V.bl true),Ζ.mpr ⟨x,h,rfl⟩,Q9 rfl⟩
 rw[Q0 e]
 unfold bdK
 rw[ύ]
 refine C3 λy hy=>?_
 show(if _ then _ else _)=_
 by_cases z:(Μ y:Key)=Μ x
 ·injection z with z;subst z;simp
 ·simp[z]
theorem fR{P:Int->List Pr->Prop}:∀{k:Kd},k.All P->∀p∈aW k,P p.2.1 p.2.2
 |.whole,_,p,hp=>by cases hp
 |.place c ps,h,p,hp=>by rw[θ.mp hp];exact h
 |.row c ps k,h,p,hp=>by
  rcases μ.mp hp with rfl|hp
  ·exact h.1
  ·exact fR h.2 p hp
 |.pair i j,h,p,hp=>by
  rcases ϖ.mp hp with hp|hp
  ·exact fR h.1 p hp
  ·exact fR h.2 p hp
def sW:Sp:=λvs H Q _=>∃(v:V) (xs:List Str) (f:Str) (ns:List Str) (ps:List Prm) (e:Dv),vs=[v]/\Rep H (Rw.df f ns ps e).dv v/\DfN xs f ns ps e/\∀H',ae H H'->Q (.bl (fE ns ps)) H'
theorem pF:am ["_law_row","_law_met","_law_x","_law_kind","_law_in_row","_law_length","_law_new","_law_name","_law_times"] ["_law_row"] (ag iP):=by trivial
theorem vE{f:Addr}{fd:Ο}{k0:Nat}(F:Fun K "_law_binds" "_law_binds" iP f fd)(T:Txt K mg)(D_law_lengths:Def P w K mg base k0 "_law_lengths" ["_law_kind"] (mi 12)):aG P w K mg base CX0 (k0+1) f fd ["_law_row"] sW:=by
 have nd:=pF.nd
 refine F.ok pF (λvs H Q E h=>?_) (λcdv A outer s H vs Q E hr h=>?_)
 ·obtain⟨v,xs,f,ns,ps,e,rfl,_⟩:=h
  rfl
 obtain⟨v,xs,f',ns,ps,e,rfl,R,dn,q⟩:=h
 have hu:=jE hr
 have hu9:=cK hr
 have huL:(A.deeper (u6 "_law_binds" (ag iP) s.heap.objs.size f cdv)).units<cLine:=by omega
 obtain⟨a,rfl,b,c,u,ha,Rn,Rp⟩:=Rw.inv R
 obtain⟨b',ws,eb,hb,Rw'⟩:=Rep.tup_inv Rn
 cases eb
 obtain⟨c',us,ec,hc,Ru⟩:=Rep.tup_inv Rp
 cases ec
 have ew:ws=ns.map V.str:=bM Rw'
 subst ew
 have n4:=dn.n4
 have p4:=dn.p4
 have lu:us.length=ps.length:=by have:=Ru.length;rwa[ε]at this
 refine⟨_,(@un _ _ _ (wbO (wbM 1 nd rfl (Η rfl) waA rfl ()) (wbO (wbH ϛ rfl (wbo (waD aj (wv 0 rfl) waC (λ_ _=>rfl))) (wbb rfl (wbd (waZ 2 nd rfl (Η rfl) ()) (wbd (waZ 3 nd rfl (Η rfl) ()) wbe rfl) rfl) rfl rfl) (wbQ (wbH ϛ rfl (wbi (waq D_law_lengths hr rfl (wae (wv 3 rfl) waf rfl) () rfl rfl)) (wbb rfl (wbd (waZ 4 nd rfl (Η rfl) ()) (wbd (waZ 5 nd rfl (Η rfl) ()) wbe rfl) rfl) rfl rfl) (wbO (wbM 6 nd rfl (Η rfl) (waM waf) rfl ()) (wbO (wbH ϛ rfl (wbo (waD aj (wv 5 rfl) waC (λ_ _=>rfl))) (wbb rfl (wbd (waZ 7 nd rfl (Η rfl) ()) (wbd (waZ 8 nd rfl (Η rfl) ()) wbe rfl) rfl) rfl rfl) (wbO (wbI (wbS fP (wv 7 rfl) (waD aj (wv 0 rfl) waC (λ_ _=>rfl)) (by with_unfolding_all rfl)) (wbQ (wbK wah)) wbP) (wbQ (wbI (wbS (kN hu) (wv 7 rfl) (wv 1 rfl) (by with_unfolding_all rfl)) (wbQ (wbG (waj Ι Ϣ ϣ bf (wv 6 rfl) (wae (wv 8 rfl) waf rfl) rfl rfl rfl rfl rfl) rfl)) wbP))) ()) (wbO (wbI (wab (wbW (wbS (lY huL) (wv 6 rfl) (waM waf) (ah _)) (wbX (wbT (wab (wbW (wbV (wv 4 rfl) ()) (wbX (wbS (xV hu9) (wv 6 rfl) (waM (wae waC waf rfl)) (ah _))))))))) (wbQ (wbK wah)) wbP) (wbQ (wbH ϛ rfl (wbo (waD aj (wv 5 rfl) waC (λ_ _=>rfl))) (wbb rfl (wbd (waZ 7 nd rfl (Η rfl) ()) (wbd (waZ 8 nd rfl (Η rfl) ()) wbe rfl) rfl) rfl rfl) (wbQ (wbF hu (wv 1 rfl) (wv 7 rfl) wah rfl)) ()))))) ())) ()) (wbQ (wbK (wap (xL hu9) (wal (nc rfl) rfl T.sorted () (wae (wv 1 rfl) waf rfl) () () rfl rfl) (wal lM rfl T.sorted () (wae (waD aj (wv 0 rfl) waC (λ_ _=>rfl)) waf rfl) () () rfl rfl) (ah _))))))),?_⟩
 symm
 intro d hd
 have s0:ae H (upd H d (.dK [])):=ac hd _
 have d0:upd H d (.dK []) d=some (.dK (bdK [])):=aa
 generalize upd H d (.dK [])=H0 at s0 d0⊢
 refine⟨_,rfl,a,_,3,.ref c,rfl,rfl,SqT.of (s0 _ _ ha),ad (j:=3) rfl,c,rfl,⟨us,SqT.of (s0 _ _ hc)⟩,gz (xs:=us) (λi σ H'=>∃(o2 o3 o4 o5 o6 o7 o8:Option V) (bs:List Str),σ=[some (.ref a),some (.ref d),o2,o3,o4,o5,o6,o7,o8]/\ae H H'/\H' d=some (.dK (bdK bs))/\bnN ns [] ((ps.take i).flatMap λp=>aW p.2)=some bs/\(∀x∈bs,x∈ns)/\bs.Nodup)
  ⟨_,_,_,_,_,_,_,[],rfl,s0,d0,rfl,(),()⟩ (λi σ H' _ ⟨_,_,_,_,_,_,_,_,_,s1,_⟩=>SqT.of (s1 _ _ hc)) ?T1 ?_⟩
 case T1=>
  rintro i x σ H1 hx ⟨o2,o3,o4,o5,o6,o7,o8,bs,rfl,s1,d1,e1,sub1,nd1⟩
  obtain⟨p,hp,Rx⟩:=bi (f:=bX) Ru hx
  obtain⟨e',z,rfl,he,Rz⟩:=eh Rx
  have hti:ps.take (i+1)=ps.take i++[p]:=by rw[ϗ,hp];rfl
  obtain⟨_,k12,kA⟩:=dn.p1 p (Λ hp)
  refine⟨e',_,rfl,SqT.of (s1 _ _ he),rfl,_,_,rfl,_,_,rfl,rfl,dkE λD go rt=>?_⟩
  refine⟨_,rfl,z,p.2,rfl,Rz.mono s1,k12,(),λH2 g ls s2 hg0 hg Rg lg=>?_⟩
  have gd:g≠d:=λz=>by rw[z,d1]at hg0;cases hg0
  have ll:ls.length=(aW p.2).length:=by have:=Rg.length;rwa[ε]at this
  refine⟨g,rfl,⟨ls,SqL.of hg⟩,jx (xs:=ls) (λj σ H'=>∃(o4 o5 o6 o7 o8:Option V) (cs:List Str),σ=[some (.ref a),some (.ref d),some (.str p.1),some z,o4,o5,o6,o7,o8]/\aD d H2 H'/\H' d=some (.dK (bdK cs))/\bnN ns bs ((aW p.2).take j)=some cs/\(∀x∈cs,x∈ns)/\cs.Nodup)
   ⟨_,_,_,_,_,bs,rfl,aD.refl _ _,s2 _ _ d1,rfl,sub1,nd1⟩ (λj σ H' _ ⟨_,_,_,_,_,_,_,sx,_⟩=>SqL.of (sx _ _ gd hg)) ?T2 ?_⟩
  case T2=>
   rintro j y σ H3 hy ⟨o4,o5,o6,o7,o8,cs,rfl,s3,d3,e3,sub3,nd3⟩
   obtain⟨k,hj,Ry⟩:=bi (f:=lnD) Rg hy
   obtain⟨bb,cc,qs⟩:=k
   have sm:=fR kA _ (Λ hj)
   have sm:SmK xs cc qs:=sm
   have htj:(aW p.2).take (j+1)=(aW p.2).take j++[(bb,cc,qs)]:=by rw[ϗ,hj];rfl
   have c4:cs.length<=4:=Ϙ (d_ cs ns nd3 sub3) n4
   obtain⟨t,vt,rfl,ht,Rt⟩:=Rep.tup_inv (show Rep H2 (.tup [.bl bb,aY cc qs]) y from Ry)
   obtain⟨w1,w2,rfl,rb,rl⟩:=Reps.two Rt
   simp only[Rep]at rb
   subst rb
   have t3:bS H2 H3:=s3.tupsD (s2 _ _ d1)
   have rl3:=ce t3 (fw cc qs) rl
   obtain⟨la,lb,zs,rfl,hla,hlb,Rz',lz⟩:=iR rl3
   have s03:ae H H3:=λx o e=>s3 x o (af e hd) (s2 _ _ (s1 _ _ e))
   refine⟨t,_,rfl,SqT.of (t3 _ _ ht),rfl,_,_,rfl,_,_,rfl,rfl,dkE λD go2 rt2=>eO λX hX=>⟨Ξ _,λN hN=>hX _ _ (eO λX hX=>?_)⟩⟩
   have no:∀{H':Hp},ae H H'->stp ns cs (bb,cc,qs)=none->D.rt (.bl false) H':=λs' h=>by
    have:=q _ s'
    rw[Ae hp hj e1 e3 h]at this
    exact rt2 _ _ (rt _ _ this)
   have p4':=ac hN (.lst [])
   have n4':upd H3 N (.lst []) N=some (.lst (([]:List Int).map V.int)):=aa
   have nd':N≠d:=λz=>by rw[z,d3]at hN;cases hN
   generalize upd H3 N (.lst [])=H4 at p4' n4'⊢
   have s04:=s03.trans p4'
   have nH:H N=none:=s03.free hN
   have fr:∀{b:Addr}{o:HO},H3 b=some o->b≠N:=λh=>af h hN
   refine⟨_,rfl,la,_,1,.ref lb,rfl,rfl,SqT.of (p4' _ _ hla),ad (j:=1) rfl,lb,rfl,⟨zs,SqT.of (p4' _ _ hlb)⟩,gz (xs:=zs) (λm σ H'=>∃(o7 o8:Option V),σ=[some (.ref a),some (.ref d),some (.str p.1),some z,some (.bl bb),some (.ref la),some (.ref N),o7,o8]/\aD N H4 H'/\H' N=some (.lst (((ay cs (qs.take m)).map (·.2)).map V.int))/\∀r∈qs.take m,r.1∈ns)
    ⟨_,_,rfl,aD.refl _ _,n4',()⟩ (λm σ H' _ ⟨_,_,_,sx,_⟩=>SqT.of (sx _ _ (fr hlb) (p4' _ _ hlb))) ?T3 ?_⟩
   case T3=>
    rintro m vr σ H5 hv ⟨o7,o8,rfl,s5,n5,a5⟩
    obtain⟨r,er,hr',rfl,her⟩:=fK Rz' hv
    have htm:qs.take (m+1)=qs.take m++[r]:=by rw[ϗ,hr'];rfl
    have her5:=s5 _ _ (fr her) (p4' _ _ her)
    have s05:ae H H5:=λx o e=>s5 x o (af e nH) (s04 _ _ e)
    have d5:=s5 _ _ (Ϗ nd') (p4' _ _ d3)
    have l5:(((ay cs (qs.take m)).map (·.2)).map V.int).length<=5:=by
     rw[ε,ε]
     have h1:=Dq (λp:Pr=>!decide (p.1∈cs)) (qs.take m)
     have h2:=sm.len
     rw[Φ]at h1
     unfold ay
     omega
    refine⟨er,_,rfl,SqT.of her5,rfl,_,_,rfl,_,_,rfl,rfl,dkE λD go3 rt3=>eO λX hX=>?_⟩
    refine⟨_,rfl,_,rfl,a,_,2,.ref b,rfl,rfl,SqT.of (s05 _ _ ha),ad (j:=2) rfl,b,_,rfl,.inr (SqT.of (s05 _ _ hb)),rfl,uh _,_,rfl,?_⟩
    show if (!inV (.str r.1) (ns.map V.str))=true then _ else _
    rw[uW]
    by_cases hn:r.1∈ns
    ·rw[Q9 hn]
     refine av (tnx (hX _ _ ?_))
     have a6:∀r'∈qs.take (m+1),r'.1∈ns:=λr' h'=>by
      rw[htm]at h'
      rcases ϖ.mp h' with h'|h'
      ·exact a5 r' h'
      ·rw[θ.mp h'];exact hn
     refine⟨_,rfl,_,rfl,d,_,rfl,fO.k (k:=Μ r.1) d5,_,rfl,?_⟩
     show if (!(ca (bdK cs) (Μ r.1)).isSome)=true then _ else _
     rw[jB]
     by_cases hm:r.1∈cs
     ·rw[Q9 hm]
      refine av (tnx (go3 _ _ ⟨_,_,rfl,s5,?_,a6⟩))
      rw[n5,htm,gJ,show ay cs [r]=[] by simp[ay,hm],c_]
     ·rw[Q8 hm]
      refine au ⟨_,rfl,.inl ⟨rfl,_,SqL.of n5⟩,_,rfl,N,_,_,rfl,rfl,n5,by rw[ω];omega,?_⟩
      refine go3 _ _ ⟨_,_,rfl,λx o h e=>by rw[ai h];exact s5 x o h e,?_,a6⟩
      rw[aa,htm,gJ,show ay cs [r]=[r] by simp[ay,hm],τ,τ]
      rfl
    ·rw[Q8 hn]
     exact au (rt3 _ _ (no s05 (xU sub3 (Λ hr') hn)))
   rintro σ H5 ⟨o7,o8,rfl,s5,n5,a5⟩
   refine hX _ _ ?_
   rw[lz,ϔ]at n5 a5
   have s05:ae H H5:=λx o e=>s5 x o (af e nH) (s04 _ _ e)
   have d5:=s5 _ _ (Ϗ nd') (p4' _ _ d3)
   have st:=Ar (bs:=cs) (b:=bb) (c:=cc) a5
   generalize hfi:(ay cs qs).map (·.2)=fi at n5 st
   refine bG (λσ' H6=>σ'=[some (.ref a),some (.ref d),some (.str p.1),some z,some (.bl bb),some (.ref la),some (.ref N),o7,o8]/\ae H5 H6/\(fi=[]\/(bb=true/\fi=[1]))) ?N1 (λ_ nx=>?_)
   case N1=>
    rintro _ H6 ⟨rfl,s6,okf⟩
    rw[Q0 okf]at st
    have s06:=s05.trans s6
    have d6:=s6 _ _ d5
    have up:∀{b:Addr}{o:HO},H3 b=some o->H6 b=some o:=λh=>s6 _ _ (s5 _ _ (fr h) (p4' _ _ h))
    have fd:∀{b:Addr}{vs:List V},H3 b=some (.tup vs)->b≠d:=λh z=>by rw[z,d3]at h;cases h
    refine⟨_,rfl,la,_,1,.ref lb,rfl,rfl,SqT.of (up hla),ad (j:=1) rfl,lb,rfl,⟨zs,SqT.of (up hlb)⟩,gz (xs:=zs) (λm σ H'=>∃(o7 o8:Option V),σ=[some (.ref a),some (.ref d),some (.str p.1),some z,some (.bl bb),some (.ref la),some (.ref N),o7,o8]/\aD d H6 H'/\H' d=some (.dK (bdK (cs++(ay cs (qs.take m)).map (·.1)))))
     ⟨_,_,rfl,aD.refl _ _,by rw[d6];simp[ay]⟩ (λm σ H' _ ⟨_,_,_,sx,_⟩=>SqT.of (sx _ _ (fd hlb) (up hlb))) ?T4 ?_⟩
    case T4=>
     rintro m vr σ H7 hv ⟨o7,o8,rfl,s7,d7⟩
     obtain⟨r,er,hr',rfl,her⟩:=fK Rz' hv
     have htm:qs.take (m+1)=qs.take m++[r]:=by rw[ϗ,hr'];rfl
     have l7:(bdK (cs++(ay cs (qs.take m)).map (·.1))).length<16:=by
      unfold bdK
      rw[ε,χ,ε]
      have h1:=Dq (λp:Pr=>!decide (p.1∈cs)) (qs.take m)
      have h2:=sm.len
      rw[Φ]at h1
      unfold ay
      omega
     refine⟨er,_,rfl,SqT.of (s7 _ _ (fd her) (up her)),rfl,_,_,rfl,_,_,rfl,rfl,?_⟩
     refine⟨_,rfl,_,rfl,d,_,rfl,iG.k (k:=Μ r.1) d7 (by rw[ω];omega),?_⟩
     refine⟨_,_,rfl,λx o h e=>by rw[ai h];exact s7 x o h e,?_⟩
     rw[aa,htm,gJ]
     by_cases hm:r.1∈cs
     ·rw[zY (i7 _ hm),show ay cs [r]=[] by simp[ay,hm],c_]
     ·have nn:r.1∉cs++(ay cs (qs.take m)).map (·.1):=λz=>by
       rcases ϖ.mp z with z|z
       ·exact hm z
       ·obtain⟨r',h',e'⟩:=Ζ.mp z
        have n1:=dQ sm.can.pw
        have n2:((qs.take (m+1)).map (·.1)).Nodup:=((FA (m+1) qs).map _).nodup n1
        rw[htm,τ,k8]at n2
        exact n2.2.2 r'.1 (h_ (ϙ.mp h').1) r.1 () e'
      rw[qJ nn,show ay cs [r]=[r] by simp[ay,hm],τ,w_]
      rfl
    rintro σ H7 ⟨o7,o8,rfl,s7,d7⟩
    rw[lz,ϔ]at d7
    refine go2 _ _ ⟨_,_,_,_,_,cs++(ay cs qs).map (·.1),rfl,λx o h e=>s7 x o h (up (s3 x o h e)),d7,?_,λx hx=>?_,?_⟩
    ·rw[htj,cO,e3]
     show(match stp ns cs (bb,cc,qs)with|none=>none|some cs=>bnN ns cs [])=_
     rw[st];rfl
    ·rcases ϖ.mp hx with hx|hx
     ·exact sub3 x hx
     ·obtain⟨r,h',rfl⟩:=Ζ.mp hx
      exact a5 r (ϙ.mp h').1
    ·refine k8.mpr ⟨nd3,((List.filter_sublist).map _).nodup (dQ sm.can.pw),λx hx y hy e=>?_⟩
     obtain⟨r,h',rfl⟩:=Ζ.mp hy
     have:=(ϙ.mp h').2
     rw[<-e]at this
     simp[hx]at this
   refine⟨_,rfl,Ξ _,λeE hE=>⟨N,eE,_,rfl,rfl,SqL.of (ac hE (.lst []) _ _ n5),SqL.of aa,_,rfl,?_⟩⟩
   have p6:=ac hE (.lst [])
   have n6:=p6 _ _ n5
   generalize upd H5 eE (.lst [])=H6 at p6 n6⊢
   cases fi with
   |nil=>exact av (av (tnx (nx _ _ ⟨rfl,p6,.inl rfl⟩)))
   |cons f0 fr'=>
    refine au ?_
    refine⟨_,rfl,_,rfl,?_⟩
    cases bb with
    |false=>
     refine av ?_
     rw[Q6 ()]at st
     exact au (no (s05.trans p6) st)
    |true=>
     refine au ⟨_,rfl,z1,λe1' he1'=>⟨N,e1',f0::fr',1,rfl,rfl,ac he1' _ _ _ n6,aa,_,rfl,?_⟩⟩
     have p7:=p6.trans (ac he1' (.lst [.int 1]))
     by_cases h1:f0::fr'=[1]
     ·rw[Q9 h1]
      exact av (tnx (nx _ _ ⟨rfl,p7,.inr ⟨rfl,h1⟩⟩))
     ·rw[Q8 h1]
      rw[Q6 (by simpa using h1)]at st
      exact au (no (s05.trans p7) st)
  rintro σ H3 ⟨o4,o5,o6,o7,o8,cs,rfl,s3,d3,e3,sub3,nd3⟩
  rw[ll,ϔ]at e3
  refine go _ _ ⟨_,_,_,_,_,_,_,cs,rfl,λx o e=>s3 x o (af e hd) (s2 _ _ (s1 _ _ e)),d3,?_,sub3,nd3⟩
  rw[hti,ϰ,cO,e1]
  show bnN ns bs _=_
  simpa using e3
 rintro σ H1 ⟨o2,o3,o4,o5,o6,o7,o8,bs,rfl,s1,d1,e1,sub1,nd1⟩
 rw[lu,ϔ]at e1
 have lb:bs.length<=4:=Ϙ (d_ bs ns nd1 sub1) n4
 have bq:fE ns ps=decide (bs.length=ns.length):=by rw[sJ,e1]
 have dm:bdK bs=(bs.map λx=>(x,V.bl true)).map λp=>((Μ p.1:Key),p.2):=by rw[ύ];rfl
 refine⟨_,rfl,d,bs.map λx=>(x,V.bl true),rfl,by rw[d1,dm],by rw[ε];omega,λl1 q1 hl1 pm1 pw1=>?_⟩
 rw[ύ]at pm1
 have pm1:q1.Perm bs:=by rwa[show bs.map ((λp:Str×V=>p.1)∘λx=>(x,V.bl true))=bs from by simp[FF]]at pm1
 have p2:=ac hl1 (.lst (q1.map V.str))
 refine⟨_,rfl,a,_,2,.ref b,rfl,rfl,SqT.of (p2 _ _ (s1 _ _ ha)),ad (j:=2) rfl,b,ns,rfl,.inr (p2 _ _ (s1 _ _ hb)),(),λl2 q2 hl2 pm2 pw2=>?_⟩
 have p3:=ac hl2 (.lst (q2.map V.str))
 refine⟨l1,l2,q1,q2,decide (bs.length=ns.length),rfl,rfl,p3 _ _ aa,aa,?_,by rw[<-bq];exact q _ (s1.trans (p2.trans p3))⟩
 by_cases h:bs.length=ns.length
 ·rw[Q9 h,Q0 rfl]
  refine An pw1 (pw2 dn.n0) (pm1.trans (GG.trans ?_ pm2.symm))
  refine(List.perm_ext_iff_of_nodup nd1 dn.n0).mpr λx=>⟨sub1 x,λhx=>Classical.byContradiction λz=>?_⟩
  have:=d_ (x::bs) ns (m9.mpr ⟨z,nd1⟩) λy hy=>by
   rcases μ.mp hy with rfl|hy
   ·exact hx
   ·exact sub1 y hy
  rw[ϒ]at this
  omega
 ·rw[Q8 h,Q6 (),pm1.length_eq,pm2.length_eq]
  exact h
abbrev qg:Stmt:=top 69
theorem vY(x:Str):∀kvs:List Pr,(∃n,(x,n)∈kvs/\ca (dk kvs) (Μ x)=some (.int n))\/ca (dk kvs) (Μ x)=none
 |[]=>.inr rfl
 |p::r=>by
  by_cases h:p.1=x
  ·exact .inl ⟨p.2,by rw[<-h];exact Δ,dE (p:=(Μ p.1,V.int p.2)) (by rw[h])⟩
  ·have e1:ca (dk (p::r)) (Μ x)=ca (dk r) (Μ x):=dL (p:=(Μ p.1,V.int p.2)) (λz=>h (by injection z))
   rw[e1]
   rcases vY x r with ⟨n,h1,h2⟩|h2
   ·exact .inl ⟨n,υ _ h1,h2⟩
   ·exact .inr h2
theorem ym(x:Str)(kvs:List Pr):je (dk kvs) (Μ x)=dk (kvs.filter λp=>decide (p.1≠x)):=by
 unfold je dk
 rw[List.filter_map]
 congr 1
 refine List.filter_congr λp _=>?_
 show decide ((Μ p.1:Key)≠Μ x)=decide (p.1≠x)
 by_cases h:p.1=x
 ·rw[h];simp
 ·simp[h]
theorem xb{t1 t2:TT}{A B:TS}{D:bI}{σ:St}{H:Hp}(b1 b2:Bool)(h1:∀k:Bool->Hp->Prop,(∀H',ae H H'->k b1 H')->t1 σ H k)(h2:∀H',ae H H'->∀k:Bool->Hp->Prop,k b2 H'->t2 σ H' k)(hT:∀H',ae H H'->b1=true->b2=true->A D σ H')(hF:∀H',ae H H'->B D σ H'):AJ (tj t1 t2) A B D σ H:=by
 refine h1 _ λH' s=>?_
 cases b1 with
 |false=>exact av (av (hF _ s))
 |true=>
  refine au (h2 _ s _ ?_)
  cases b2 with
  |false=>exact av (hF _ s)
  |true=>exact au (hT _ s rfl rfl)
theorem vF{xs:List Str}(nms:Nms xs)(c:Int):∃x∈xs,atI (xs.map V.str) (c%5)=some (.str x):=by
 obtain⟨b0,b1⟩:=aL (a:=c) 5 ()
 have hl:(c%5).toNat<xs.length:=by rw[nms.len];omega
 have q:=ad (show(xs.map V.str)[(c%5).toNat]?=some (.str xs[(c%5).toNat]) by rw[Ν,Γ hl];rfl)
 rw[show(((c%5).toNat:Nat):Int)=c%5 by omega]at q
 exact⟨_,f_ hl,q⟩
structure Dic(xs:List Str)(kv:List Pr):Prop where
 nd:(kv.map (·.1)).Nodup
 all:∀p∈kv,p.1∈xs/\1<=p.2/\p.2<=99
theorem Dic.len{xs:List Str}{kv:List Pr}(h:Dic xs kv)(nms:Nms xs):kv.length<=5:=by
 have:=d_ (kv.map (·.1)) xs h.nd λx hx=>by obtain⟨p,hp,rfl⟩:=Ζ.mp hx;exact(h.all p hp).1
 rw[ε,nms.len]at this
 exact this
theorem Dic.put{xs:List Str}{kv:List Pr}(h:Dic xs kv){x:Str}{n:Int}(hx:x∈xs)(h1:1<=n)(h9:n<=99):Dic xs (fj kv x n):=⟨kG h.nd,oP (R:=λp=>p.1∈xs/\1<=p.2/\p.2<=99) h.all ⟨hx,h1,h9⟩⟩
def BW:Sp:=λvs H Q _=>∃(v:V) (c:Int) (ps:List Pr) (m:Int) (r:Addr) (xs:List Str),vs=[v,.int m,.ref r]/\Rep H (aY c ps) v/\SmK xs c ps/\0<=m/\H r=some (.lst (xs.map V.str))/\Nms xs/\∀(H':Hp)(v':V)(ps':List Pr),ae H H'->Rep H' (aY c ps') v'->SmK xs c ps'->Q v' H'
theorem rT:am ["_law_length","_law_cell","_law_names_here","_law_parts","_law_name"] ["_law_length","_law_cell","_law_names_here"] (ag qg):=by trivial
theorem xQ{f:Addr}{fd:Ο}(F:Fun K "_law_other_length" "_law_other_length" qg f fd)(T:Txt K mg):aG P w K mg base CX0 1 f fd ["_law_length","_law_cell","_law_names_here"] BW:=by
 have nd:=rT.nd
 refine F.ok rT (λvs H Q E h=>?_) (λcdv A outer s H vs Q E hr h=>?_)
 ·obtain⟨v,c,ps,m,r,xs,rfl,_⟩:=h
  rfl
 obtain⟨v,c,ps,m,r,xs,rfl,R,sm,m0,hr0,nms,q⟩:=h
 have hu:=jE hr
 have hu9:=cK hr
 obtain⟨la,lb,us,rfl,hla,hlb,Ru,lu⟩:=iR R
 have ndp:=dQ sm.can.pw
 refine⟨_,(@un _ _ _ (wbO (wbM 3 nd rfl (Η rfl) (wam (qX rfl) rfl T.dict () (wae (waD aj (wv 0 rfl) waC (λ_ _=>rfl)) waf rfl) () () rfl rfl) rfl ()) (wbO (wbM 4 nd rfl (Η rfl) (waD aJ (wv 2 rfl) (waQ aA (waQ aS (wv 1 rfl) waC) waC) (λ_ _=>rfl)) rfl ()) (wbO (wbI (wab (wbW (wbS (pM hu9) (waD aj (wv 0 rfl) waC (λ_ _=>rfl)) (waX waf) (ah _)) (wbX (wbS kR (waQ aA (wv 1 rfl) waC) waC (ah _))))) (wbQ (wbM 4 nd rfl (Η rfl) (waD aj (waD aj (waD aj (wv 0 rfl) waC (λ_ _=>rfl)) (waQ aA (waQ aS (wv 1 rfl) waC) (wal ap rfl T.len () (wae (waD aj (wv 0 rfl) waC (λ_ _=>rfl)) waf rfl) () () rfl rfl)) (λ_ _=>rfl)) waC (λ_ _=>rfl)) rfl ())) wbP) (wbO (wbI (wab (wbW (wbS aB (waQ aA (wv 1 rfl) waC) waC (ah _)) (wbX (wbS (qb hu) (wv 4 rfl) (wv 3 rfl) (by with_unfolding_all rfl))))) (wbQ (wbF hu (wv 3 rfl) (wv 4 rfl) (wal (tG rfl) rfl T.min () (wae waC (wae (waQ bv (wax hu (wv 3 rfl) (wv 4 rfl) (λ_ _=>rfl)) waC) waf rfl) rfl) () () rfl rfl) rfl)) (wbQ (wbI (wab (wbW (wbS aB (waQ aA (wv 1 rfl) waC) waC (ah _)) (wbX (wbS (qb hu) (wv 4 rfl) (wv 3 rfl) (by with_unfolding_all rfl))))) (wbO (wbG ⟨uV (pv 3) (pv 4) ⟨rfl,rfl,rfl,rfl⟩⟩ rfl) (wbQ (wbF hu (wv 3 rfl) (waD aJ (wv 2 rfl) (waQ aA (waQ aS (wv 1 rfl) waC) waC) (λ_ _=>rfl)) waC rfl))) (wbQ (wbF hu (wv 3 rfl) (wv 4 rfl) (waQ bv waC (waQ aA (waQ aS (wv 1 rfl) waC) waC)) rfl))))) (wbQ (wbK (waX (wae (waD aj (wv 0 rfl) waC (λ_ _=>rfl)) (wae (wam bF rfl T.tuple () (wae (wal (fF rfl) rfl T.sorted () (wae (wak Em Ep PySem.F.type_dict_items pA (wv 3 rfl) rfl rfl) waf rfl) () () rfl rfl) waf rfl) () () rfl rfl) waf rfl) rfl))))))))),?_⟩
 symm
 obtain⟨qs,eq,hq,qn,qd⟩:=pX Ru ndp
 refine⟨_,rfl,la,_,1,.ref lb,rfl,rfl,SqT.of hla,ad (j:=1) rfl,lb,qs,rfl,by rw[hlb,eq],hq,qn,λd hd=>gnm ?_⟩
 rw[qd]
 have s1:=ac hd (.dK (dk ps))
 have d1:upd H d (.dK (dk ps)) d=some (.dK (dk ps)):=aa
 generalize upd H d (.dK (dk ps))=H1 at s1 d1⊢
 have D0:Dic xs ps:=⟨ndp,λp hp=>⟨(sm.all p hp).2,sm.can.ge p hp,(sm.all p hp).1⟩⟩
 obtain⟨x1,hx1,at1⟩:=vF nms (m/3)
 try dsimp only
 refine⟨_,rfl,_,rfl,_,_,rfl,rfl,⟨(),()⟩,_,_,rfl,rfl,(by show(0:Int)<5;decide),r,_,_,.str x1,rfl,rfl,SqL.of (s1 _ _ hr0),at1,gnm ?_⟩
 try dsimp only
 refine bG (λσ' H2=>∃x,x∈xs/\σ'=[some (.ref la),some (.int m),some (.ref r),some (.ref d),some (.str x)]/\ae H1 H2) ?N1 (λ_ nx=>?_)
 case N1=>
  rintro _ H2 ⟨x,hx,rfl,s2⟩
  have s02:=s1.trans s2
  have d2:=s2 _ _ d1
  refine bG (λσ' H3=>∃kv,Dic xs kv/\σ'=[some (.ref la),some (.int m),some (.ref r),some (.ref d),some (.str x)]/\ae H H3/\H3 d=some (.dK (dk kv))) ?N2 (λ_ nx2=>?_)
  case N2=>
   rintro _ H3 ⟨kv,dc,rfl,s3,d3⟩
   have l5:=dc.len nms
   refine⟨_,rfl,la,_,0,.int c,rfl,rfl,SqT.of (s3 _ _ hla),ad (j:=0) rfl,_,rfl,.inr (.inr (.inl ⟨rfl,.inl ⟨_,d3⟩⟩)),d,_,rfl,rfl,d3,λv hv=>?_⟩
   refine⟨v,d,kv.map λp=>(p.1,V.int p.2),rfl,aa,by rw[ai (af d3 hv),d3,ύ];rfl,by rw[ε];omega,λH4 l4 qs' s4 _ hq' hl4 pq pw=>⟨l4,_,rfl,.inl ⟨SqL.of hl4,λt ht=>⟨z2,λp hp=>?_⟩⟩⟩⟩
   obtain⟨perm,can,rep⟩:=ik hq' pq pw λp hp=>(dc.all p hp).2.1
   have s6:=(ac hv (gp v d)).trans (s4.trans (ac ht (.tup (qs'.map λr=>V.ref r.1))))
   have s7:=ac hp (.tup [.int c,.ref t])
   exact q _ _ _ (s3.trans (s6.trans s7)) (oJ aa ((rep t ht).mono s7)) ⟨sm.c0,sm.c1,can,by rw[perm.length_eq];exact l5,λp hp=>⟨(dc.all p (perm.mem_iff.mp hp)).2.2,(dc.all p (perm.mem_iff.mp hp)).1⟩⟩
  have ld:(dk ps).length<sizeLine:=by rw[show(dk ps).length=ps.length from ε _,ω];have:=sm.len;omega
  have some_in:∀{b:Bool},(ca (dk ps) (Μ x)).isSome=true->∃n,(x,n)∈ps/\ca (dk ps) (Μ x)=some (.int n):=λhs=>by
   rcases vY x ps with h|h
   ·exact h
   ·rw[h]at hs;cases hs
  have out:∀{H3:Hp}{o:HO},ae H2 H3->ae H (upd H3 d o):=λs3 b o e=>by
   rw[ai (af e hd)];exact s3 _ _ (s02 _ _ e)
  refine xb _ _ (λk hk=>⟨_,rfl,_,_,rfl,rfl,(by show(0:Int)<3;decide),rfl,_,rfl,hk H2 (ae.refl _)⟩) (λH3 s3 k hk=>⟨_,rfl,_,rfl,d,_,rfl,fO.k (k:=Μ x) (s3 _ _ d2),_,rfl,hk⟩) (λH3 s3 _ hs=>?_) (λH3 s3=>?_)
  ·obtain⟨n,hn,hv⟩:=some_in (b:=true) hs
   have n1:=(D0.all _ hn).2.1
   refine⟨_,rfl,_,rfl,d,.int n,rfl,by rw[<-hv];exact fO.k (k:=Μ x) (s3 _ _ d2),_,_,rfl,rfl,_,_,rfl,_,rfl,_,rfl,d,_,rfl,iG.k (k:=Μ x) (s3 _ _ d2) ld,?_⟩
   refine nx2 _ _ ⟨fj ps x (if n+1<99 then n+1 else 99),D0.put hx ?_ ?_,rfl,out s3,by rw[aa,jU]⟩
   ·split<;>omega
   ·split<;>omega
  ·refine xb _ _ (λk hk=>⟨_,rfl,_,_,rfl,rfl,(by show(0:Int)<3;decide),rfl,_,rfl,hk H3 (ae.refl _)⟩) (λH4 s4 k hk=>⟨_,rfl,_,rfl,d,_,rfl,fO.k (k:=Μ x) (s4 _ _ (s3 _ _ d2)),_,rfl,hk⟩) (λH4 s4 _ hs=>?_) (λH4 s4=>?_)
   ·obtain⟨n,hn,hv⟩:=some_in (b:=true) hs
    have d4:=s4 _ _ (s3 _ _ d2)
    obtain⟨y,hy,aty⟩:=vF nms (m/15)
    refine⟨_,rfl,d,rfl,.inl ⟨_,.inl d4⟩,_,rfl,dk ps,Μ x,.int n,d4,rfl,hv,?_⟩
    rw[ym]
    have D1:Dic xs (ps.filter λp=>decide (p.1≠x)):=⟨((List.filter_sublist).map _).nodup D0.nd,λp hp=>D0.all p (ϙ.mp hp).1⟩
    have r5:=out (o:=.dK (dk (ps.filter λp=>decide (p.1≠x)))) (s3.trans s4) _ _ hr0
    have s5:=out (o:=.dK (dk (ps.filter λp=>decide (p.1≠x)))) (s3.trans s4)
    refine⟨_,rfl,_,rfl,_,rfl,_,_,rfl,rfl,⟨(),()⟩,_,_,rfl,rfl,(by show(0:Int)<5;decide),r,_,_,.str y,rfl,rfl,SqL.of r5,aty,d,_,rfl,iG.k (k:=Μ y) aa ?_,?_⟩
    ·rw[show(dk (ps.filter λp=>decide (p.1≠x))).length=(ps.filter λp=>decide (p.1≠x)).length from ε _,ω];have:=D1.len nms;omega
    ·refine nx2 _ _ ⟨fj (ps.filter λp=>decide (p.1≠x)) y 1,D1.put hy () (),rfl,λb o e=>?_,by rw[aa,jU]⟩
     rw[ai (af e hd)];exact s5 _ _ e
   ·obtain⟨g0,g1⟩:=aL (a:=m/75) 2 ()
    refine⟨_,rfl,_,_,rfl,rfl,⟨(),()⟩,_,_,rfl,rfl,(by show(0:Int)<2;decide),_,_,rfl,rfl,_,rfl,_,rfl,d,_,rfl,iG.k (k:=Μ x) (s4 _ _ (s3 _ _ d2)) ld,?_⟩
    exact nx2 _ _ ⟨fj ps x (1+m/75%2),D0.put hx () (),rfl,out (s3.trans s4),by rw[aa,jU]⟩
 have pl2:L2.Pl 2 (.tup (aE ps)):=.tup λd hd=>by
  obtain⟨p,_,rfl⟩:=Ζ.mp hd
  exact .tup λd hd=>by
   rcases μ.mp hd with rfl|hd
   ·exact .str
   ·rw[θ.mp hd];exact .int
 have la1:=s1 _ _ hla
 have lb1:=s1 _ _ hlb
 refine xb (decide (ps≠[])) _ (λk hk=>⟨_,rfl,la,_,1,.ref lb,rfl,rfl,SqT.of la1,ad (j:=1) rfl,Ξ _,λt ht=>⟨2,_,[],pl2,.tup (),(),?_,?_,λb hb=>⟨b,rfl,?_⟩⟩⟩) (λH2 s2 k hk=>⟨_,rfl,_,_,rfl,rfl,(by show(0:Int)<3;decide),_,_,rfl,rfl,_,rfl,hk⟩) (λH2 s2 hne _=>?_) (λH2 s2=>tnx (nx _ _ ⟨x1,hx1,rfl,s2⟩))
 ·rw[Rep];exact⟨lb,us,rfl,ac ht _ _ _ lb1,(Ru.mono s1).mono (ac ht _)⟩
 ·rw[Rep];exact⟨t,_,rfl,aa,by simp[Reps]⟩
 ·have e:b=decide (ps≠[]):=by
   rw[m8,hb,decide_eq_true_iff]
   exact not_congr ⟨λz=>List.map_eq_nil_iff.mp z,λz=>by rw[z];rfl⟩
  rw[e]
  exact hk _ (ac ht _)
 ·have hne:ps≠[]:=Q7 hne
  have hp:0<us.length:=by rw[lu];exact E6.mpr hne
  have h0:0<=m/3%(us.length:Int):=E3 _ ()
  have h1:m/3%(us.length:Int)<us.length:=Ek _ ()
  obtain⟨j,hj⟩:∃j:Nat,m/3%(us.length:Int)=j:=⟨(m/3%(us.length:Int)).toNat,()⟩
  have hv:=Γ (l:=us) (i:=j) ()
  obtain⟨p,e,hp',ee,he⟩:=fK Ru hv
  have s02:=s1.trans s2
  refine⟨_,rfl,la,_,1,.ref lb,rfl,rfl,SqT.of (s02 _ _ hla),ad (j:=1) rfl,_,rfl,_,_,rfl,rfl,⟨(),()⟩,_,rfl,la,_,1,.ref lb,rfl,rfl,SqT.of (s02 _ _ hla),ad (j:=1) rfl,lb,us,rfl,.inr (SqT.of (s02 _ _ hlb)),_,_,rfl,rfl,(by show(0:Int)<(us.length:Int);omega),lb,us,_,.ref e,rfl,rfl,SqT.of (s02 _ _ hlb),?_,e,_,0,.str p.1,rfl,rfl,SqT.of (s02 _ _ he),ad (j:=0) rfl,gnm (nx _ _ ⟨p.1,(sm.all p (Λ hp')).2,rfl,s2⟩)⟩
  rw[hj,<-ee]
  exact ad hv
abbrev lJ:Stmt:=top 70
def yJ(n:Nat):Sp:=λvs H Q _=>∃(v:V) (k:Kd) (m:Int) (r:Addr) (xs:List Str),vs=[v,.int m,.ref r]/\Rep H k.dv v/\k.size<=n/\k.All (SmK xs)/\0<=m/\H r=some (.lst (xs.map V.str))/\Nms xs/\∀(H':Hp)(v':V)(k':Kd),ae H H'->Rep H' k'.dv v'->k'.All (SmK xs)->k'.size<=k.size+1->Q v' H'
theorem oy:am ["_law_kind","_law_cell","_law_names_here"] ["_law_kind","_law_cell","_law_names_here"] (ag lJ):=by trivial
theorem vC{f:Addr}{fd:Ο}{k0 n:Nat}(F:Fun K "_law_other_kind" "_law_other_kind" lJ f fd)(T:Txt K mg)(D_law_other_length:Def P w K mg base k0 "_law_other_length" ["_law_length","_law_cell","_law_names_here"] BW)(D_law_other_kind:Def P w K mg base k0 "_law_other_kind" ["_law_kind","_law_cell","_law_names_here"] (yJ n)):aG P w K mg base CX0 (k0+1) f fd ["_law_kind","_law_cell","_law_names_here"] (yJ (n+1)):=by
 have nd:=oy.nd
 refine F.ok oy (λvs H Q E h=>?_) (λcdv A outer s H vs Q E hr h=>?_)
 ·obtain⟨v,k,m,r,xs,rfl,_⟩:=h
  rfl
 obtain⟨v,k,m,r,xs,rfl,R,hn,al,m0,hr0,nms,q⟩:=h
 refine⟨_,(@un _ _ _ (wbO (wbI (wbS aB (waD aj (wv 0 rfl) waC (λ_ _=>rfl)) waV (ah _)) (wbQ (wbK (waX (wae waV (wae (waD aj (wv 0 rfl) waC (λ_ _=>rfl)) (wae (waq D_law_other_kind hr rfl (wae (waD aj (wv 0 rfl) waC (λ_ _=>rfl)) (wae (wv 1 rfl) (wae (wv 2 rfl) waf rfl) rfl) rfl) () rfl rfl) waf rfl) rfl) rfl)))) wbP) (wbO (wbI (wbS aB (waD aj (wv 0 rfl) waC (λ_ _=>rfl)) waV (ah _)) (wbQ (wbK (waX (wae waV (wae (waq D_law_other_length hr rfl (wae (waX (wae waC (wae (waX waf) waf rfl) rfl)) (wae (wv 1 rfl) (wae (wv 2 rfl) waf rfl) rfl) rfl) () rfl rfl) (wae (wv 0 rfl) waf rfl) rfl) rfl)))) wbP) (wbO (wbI (wab (wbY (wbS aB (waD aj (wv 0 rfl) waC (λ_ _=>rfl)) waV (ah _)) (wbZ (wbS aB (waQ aA (wv 1 rfl) waC) waC (ah _))))) (wbQ (wbK (waX (wae waV (wae (waq D_law_other_length hr rfl (wae (waD aj (wv 0 rfl) waC (λ_ _=>rfl)) (wae (waQ aS (wv 1 rfl) waC) (wae (wv 2 rfl) waf rfl) rfl) rfl) () rfl rfl) waf rfl) rfl)))) wbP) (wbO (wbI (wbS aB (waQ aA (wv 1 rfl) waC) waC (ah _)) (wbQ (wbK (waX (wae waV (wae (waD aj (wv 0 rfl) waC (λ_ _=>rfl)) waf rfl) rfl)))) wbP) (wbO (wbI (wbS kR (waQ aA (wv 1 rfl) waC) waC (ah _)) (wbQ (wbK (waX (wae waV (wae (waD aj (wv 0 rfl) waC (λ_ _=>rfl)) (wae (waq D_law_other_kind hr rfl (wae (waD aj (wv 0 rfl) waC (λ_ _=>rfl)) (wae (waQ aS (wv 1 rfl) waC) (wae (wv 2 rfl) waf rfl) rfl) rfl) () rfl rfl) waf rfl) rfl) rfl)))) wbP) (wbQ (wbK (waX (wae waV (wae (waq D_law_other_length hr rfl (wae (waD aj (wv 0 rfl) waC (λ_ _=>rfl)) (wae (waQ aS (wv 1 rfl) waC) (wae (wv 2 rfl) waf rfl) rfl) rfl) () rfl rfl) (wae (waD aj (wv 0 rfl) waC (λ_ _=>rfl)) waf rfl) rfl) rfl)))))))))),?_⟩
 symm
 obtain⟨a,vs,rfl,ha,h⟩:=Kd.inv R
 have d8:0<=m/8:=Gh m0 ()
 cases k with
 |pair i j=>
  obtain⟨u,w',rfl,r1,r2⟩:=h
  have hn:i.size+j.size+1<=n+1:=hn
  have al:i.All (SmK xs)/\j.All (SmK xs):=al
  refine⟨_,rfl,a,_,0,.str "pair",rfl,rfl,SqT.of ha,ad (j:=0) rfl,rfl,_,rfl,aF (λ_=>?_) (λh=>absurd (Q9 rfl) h)⟩
  refine⟨_,rfl,a,_,1,u,rfl,rfl,SqT.of ha,ad (j:=1) rfl,_,rfl,a,_,2,w',rfl,rfl,SqT.of ha,ad (j:=2) rfl,_,rfl,_,rfl,w',j,m,r,xs,rfl,r2,(),al.2,m0,hr0,nms,λH1 v1 k1 s1 R1 a1 z1'=>⟨z3,λp hp=>?_⟩⟩
  have p1:=ac hp (.tup [.str "pair",u,v1])
  refine q _ _ (.pair i k1) (s1.trans p1) (jM aa (r1.mono (s1.trans p1)) (R1.mono p1)) ⟨al.1,a1⟩ ?_
  show i.size+k1.size+1<=i.size+j.size+1+1
  omega
 |whole=>
  refine⟨_,rfl,a,_,0,.str "whole",rfl,rfl,SqT.of ha,ad (j:=0) rfl,rfl,_,rfl,aF (λh=>absurd (Q7 h) (wne ())) (λ_=>?_)⟩
  refine⟨_,rfl,a,_,0,.str "whole",rfl,rfl,SqT.of ha,ad (j:=0) rfl,rfl,_,rfl,aF (λ_=>?_) (λh=>absurd (Q9 rfl) h)⟩
  refine⟨Ξ _,λt1 ht1=>⟨z2,λt2 ht2=>?_⟩⟩
  have p1:=(ac ht1 (.tup [])).trans (ac ht2 (.tup [.int 1,.ref t1]))
  refine⟨_,rfl,_,rfl,.ref t2,1,[],m,r,xs,rfl,?_,⟨(),(),⟨(),()⟩,(),()⟩,m0,p1 _ _ hr0,nms,λH1 v1 ps1 s1 R1 sm1=>⟨_,rfl,z3,λp hp=>?_⟩⟩
  ·show Rep _ (.tup [.int 1,.tup []]) _
   rw[Rep]
   refine⟨t2,_,rfl,aa,?_⟩
   simp only[Reps]
   refine⟨_,_,rfl,by simp only[Rep],_,_,rfl,?_,rfl⟩
   rw[Rep]
   exact⟨t1,_,rfl,ac ht2 _ _ _ aa,by simp[Reps]⟩
  ·have p2:=ac hp (.tup [.str "row",v1,.ref a])
   have p3:=p1.trans (s1.trans p2)
   refine q _ _ (.row 1 ps1 .whole) p3 (eC aa (R1.mono p2) (R.mono p3)) ⟨sm1,trivial⟩ ?_
   show 1+1<=1+1;omega
 |place c ps=>
  obtain⟨u,rfl,r1⟩:=h
  have al:SmK xs c ps:=al
  refine⟨_,rfl,a,_,0,.str "place",rfl,rfl,SqT.of ha,ad (j:=0) rfl,rfl,_,rfl,aF (λh=>absurd (Q7 h) (wne ())) (λ_=>?_)⟩
  refine⟨_,rfl,a,_,0,.str "place",rfl,rfl,SqT.of ha,ad (j:=0) rfl,rfl,_,rfl,aF (λh=>absurd (Q7 h) (wne ())) (λ_=>?_)⟩
  refine⟨_,rfl,a,_,0,.str "place",rfl,rfl,SqT.of ha,ad (j:=0) rfl,rfl,_,rfl,aF (λ_=>au ?_) (λh=>absurd (Q9 rfl) h)⟩
  refine⟨_,rfl,a,_,1,u,rfl,rfl,SqT.of ha,ad (j:=1) rfl,_,rfl,_,_,rfl,rfl,⟨(),()⟩,_,rfl,u,c,ps,_,r,xs,rfl,r1,al,d8,hr0,nms,λH1 v1 ps1 s1 R1 sm1=>⟨z2,λp hp=>?_⟩⟩
  have p2:=ac hp (.tup [.str "place",v1])
  exact q _ _ (.place c ps1) (s1.trans p2) (cU aa (R1.mono p2)) sm1 (by show 1<=1+1;omega)
 |row c ps j=>
  obtain⟨u,w',rfl,r1,r2⟩:=h
  have hn:j.size+1<=n+1:=hn
  have al:SmK xs c ps/\j.All (SmK xs):=al
  refine⟨_,rfl,a,_,0,.str "row",rfl,rfl,SqT.of ha,ad (j:=0) rfl,rfl,_,rfl,aF (λh=>absurd (Q7 h) (wne ())) (λ_=>?_)⟩
  refine⟨_,rfl,a,_,0,.str "row",rfl,rfl,SqT.of ha,ad (j:=0) rfl,rfl,_,rfl,aF (λh=>absurd (Q7 h) (wne ())) (λ_=>?_)⟩
  refine⟨_,rfl,a,_,0,.str "row",rfl,rfl,SqT.of ha,ad (j:=0) rfl,rfl,_,rfl,aF (λh=>absurd (Q7 h) (wne ())) (λ_=>?_)⟩
  refine⟨_,rfl,_,_,rfl,rfl,(by show(0:Int)<8;decide),rfl,_,rfl,aF (λ_=>?_) (λ_=>?_)⟩
  ·refine⟨_,rfl,a,_,1,u,rfl,rfl,SqT.of ha,ad (j:=1) rfl,_,rfl,_,_,rfl,rfl,⟨(),()⟩,_,rfl,u,c,ps,_,r,xs,rfl,r1,al.1,d8,hr0,nms,λH1 v1 ps1 s1 R1 sm1=>⟨z2,λp hp=>?_⟩⟩
   have p2:=ac hp (.tup [.str "place",v1])
   exact q _ _ (.place c ps1) (s1.trans p2) (cU aa (R1.mono p2)) sm1 (by show 1<=j.size+1+1;omega)
  refine⟨_,rfl,_,_,rfl,rfl,(by show(0:Int)<8;decide),rfl,_,rfl,aF (λ_=>?_) (λ_=>?_)⟩
  ·refine⟨_,rfl,a,_,1,u,rfl,rfl,SqT.of ha,ad (j:=1) rfl,z2,λp hp=>?_⟩
   have p2:=ac hp (.tup [.str "place",u])
   exact q _ _ (.place c ps) p2 (cU aa (r1.mono p2)) al.1 (by show 1<=j.size+1+1;omega)
  refine⟨_,rfl,_,_,rfl,rfl,(by show(0:Int)<8;decide),_,_,rfl,rfl,_,rfl,aF (λ_=>?_) (λ_=>?_)⟩
  ·refine⟨_,rfl,a,_,1,u,rfl,rfl,SqT.of ha,ad (j:=1) rfl,_,rfl,a,_,2,w',rfl,rfl,SqT.of ha,ad (j:=2) rfl,_,rfl,_,_,rfl,rfl,⟨(),()⟩,_,rfl,w',j,_,r,xs,rfl,r2,(),al.2,d8,hr0,nms,λH1 v1 k1 s1 R1 a1 z1'=>⟨z3,λp hp=>?_⟩⟩
   have p1:=ac hp (.tup [.str "row",u,v1])
   refine q _ _ (.row c ps k1) (s1.trans p1) (eC aa (r1.mono (s1.trans p1)) (R1.mono p1)) ⟨al.1,a1⟩ ?_
   show k1.size+1<=j.size+1+1
   omega
  ·refine⟨_,rfl,a,_,1,u,rfl,rfl,SqT.of ha,ad (j:=1) rfl,_,rfl,_,_,rfl,rfl,⟨(),()⟩,_,rfl,u,c,ps,_,r,xs,rfl,r1,al.1,d8,hr0,nms,λH1 v1 ps1 s1 R1 sm1=>⟨_,rfl,a,_,2,w',rfl,rfl,SqT.of (s1 _ _ ha),ad (j:=2) rfl,z3,λp hp=>?_⟩⟩
   have p2:=ac hp (.tup [.str "row",v1,w'])
   exact q _ _ (.row c ps1 j) (s1.trans p2) (eC aa (R1.mono p2) (r2.mono (s1.trans p2))) ⟨sm1,al.2⟩ (by show j.size+1<=j.size+1+1;omega)
abbrev fY:Stmt:=top 72
structure DfS(xs ns:List Str)(ps:List Prm):Prop where
 n1:∀n∈ns,n∈xs
 n4:ns.length<=4
 p0:(ps.map (·.1)).Nodup
 p1:∀p∈ps,p.1∈xs/\p.2.size<=13/\p.2.All (SmK xs)
 p4:ps.length<=4
def Bh:Sp:=λvs H Q _=>∃(v:V) (m:Int) (r:Addr) (xs:List Str) (f:Str) (ns:List Str) (ps:List Prm) (e:Dv),vs=[v,.int m,.ref r]/\Rep H (Rw.df f ns ps e).dv v/\DfN xs f ns ps e/\0<=m/\H r=some (.lst (xs.map V.str))/\Nms xs/\∀(H':Hp)(v':V)(ns':List Str)(ps':List Prm),ae H H'->Rep H' (Rw.df f ns' ps' e).dv v'->DfS xs ns' ps'->Q v' H'
theorem DfN.s{xs ns:List Str}{f:Str}{ps:List Prm}{e:Dv}(h:DfN xs f ns ps e):DfS xs ns ps:=⟨h.n1,h.n4,h.p0,λp hp=>⟨(h.p1 p hp).1,Nat.le_succ_of_le (h.p1 p hp).2.1,(h.p1 p hp).2.2⟩,h.p4⟩
theorem on{H H':Hp}(t:bS H H'){p:Prm}{v:V}(h:Rep H (bX p) v):Rep H' (bX p) v:=ce t (n:=p.2.size+4) (.tup λd hd=>by
 rcases μ.mp hd with rfl|hd
 ·exact .str
 ·rw[θ.mp hd];exact p.2.pl) h
theorem et{H H':Hp}(t:bS H H'){ps:List Prm}{us:List V}(h:Reps H (ps.map bX) us):Reps H' (ps.map bX) us:=aP (λd hd v r=>by obtain⟨p,_,rfl⟩:=Ζ.mp hd;exact on t r) h
theorem xg{K:ζ}{t:TE}{σ:St}{H:Hp}{ds:List Dv}(h:cT t σ H (.tup ds)):cT (tSl (vV K) t iO (zL (tC (.int 4)))) σ H (.tup (ds.take 4)):=λH1 s Q q=>
 h H1 s _ λH2 v s2 R=>by
  obtain⟨a,vs,rfl,ha,Rs⟩:=Rep.tup_inv R
  have R4:=XB.reps_take 4 Rs
  have e4:aH vs none (some 4)=vs.take 4:=cQ vs 4
  refine⟨4,rfl,a,vs,rfl,SqT.of ha,λec=>q _ _ s2 ?_,λp hp=>q _ _ (s2.trans (ac hp _)) ?_⟩
  ·rw[e4]at ec
   rw[Rep];exact⟨a,vs,rfl,ha,by rw[<-ec];simpa[ec]using R4⟩
  ·rw[Rep];exact⟨p,_,rfl,aa,by rw[e4];exact R4.mono (ac hp _)⟩
theorem uS{K:ζ}{σ:St}{H:Hp}{ta:TE}{ds:List Dv}(h:cT ta σ H (.lst ds)):cT (tCB (λxs H Q=>∃p ys,xs=[.ref p]/\((SqL K H p ys/\∀l,H l=none->Q (.ref l) (upd H l (.tup ys)))\/(SqT K H p ys/\Q (.ref p) H))) (xi ta As)) σ H (.tup ds):=λH1 s Q q=>
 h H1 s _ λH2 v s2 R=>by
  simp only[Rep]at R
  obtain⟨a,xs,rfl,ha,r1⟩:=R
  exact⟨a,xs,rfl,.inl ⟨SqL.of ha,λl hl=>q _ (.ref l) (s2.trans (ac hl _)) (by simp only[Rep];exact⟨l,xs,rfl,aa,r1.mono (ac hl _)⟩)⟩⟩
theorem vT{K:ζ}{σ:St}{H:Hp}{i j:Nat}{r:Addr}{m:Int}{xs:List Str}{x:Str}(h1:σ[i]?=some (some (.ref r)))(h2:σ[j]?=some (some (.int m)))(hr:H r=some (.lst (xs.map V.str)))(at1:atI (xs.map V.str) (m%5)=some (.str x)):cT (tOp (uX K) (ig i) (tOp (rI (λ_ j=>0<j) λi j=>.int (i%j)) (ig j) (tC (.int 5)))) σ H (.str x):=λH1 s Q q=>
 ⟨_,h1,_,h2,_,_,rfl,rfl,(by show(0:Int)<5;decide),r,_,_,.str x,rfl,rfl,SqL.of (s _ _ hr),at1,q H1 _ (ae.refl _) (by simp[Rep])⟩
theorem jn{H:Hp}{d:Dv}{v:V}(Rd:Rep H d v):∀(j:Nat){ds:List Dv}{vs:List V},Reps H ds vs->Reps H (ds.set j d) (vs.set j v)
 |j,[],vs,h=>by
  simp only[Reps]at h
  subst h
  simp[Reps]
 |0,d'::ds,vs,h=>by
  simp only[Reps]at h
  obtain⟨v',r,rfl,_,h2⟩:=h
  simp only[List.set_cons_zero,Reps]
  exact⟨_,_,rfl,Rd,h2⟩
 |j+1,d'::ds,vs,h=>by
  simp only[Reps]at h
  obtain⟨v',r,rfl,h1,h2⟩:=h
  simp only[List.set_cons_succ,Reps]
  exact⟨_,_,rfl,h1,jn Rd j h2⟩
theorem sO{t:TS}{D:bI}{σ:St}{H:Hp}(σ':St)(e:σ=σ')(h:t D σ' H):t D σ H:=e▸h
theorem xA{α:Type}{l:List α}{j:Nat}{x:α}(h:l[j]?=some x):((l.take j++l.drop (j+1))++[x]).Perm l:=by
 obtain⟨hj,e⟩:=ο.mp h
 have e2:l=l.take j++x::l.drop (j+1):=by rw[<-e,<-ϲ hj,i3]
 conv=>rhs;rw[e2]
 rw[w_]
 exact GG.append_left _ (List.perm_append_singleton x _)
theorem DfS.perm{xs ns:List Str}{ps qs:List Prm}(h:DfS xs ns ps)(p:qs.Perm ps):DfS xs ns qs:=⟨h.n1,h.n4,(p.map (·.1)).nodup_iff.mpr h.p0,λq hq=>h.p1 q (p.mem_iff.mp hq),by rw[p.length_eq];exact h.p4⟩
theorem DfS.sub{xs ns:List Str}{ps qs:List Prm}(h:DfS xs ns ps)(p:qs.Sublist ps):DfS xs ns qs:=⟨h.n1,h.n4,(p.map (·.1)).nodup h.p0,λq hq=>h.p1 q (p.subset hq),Ϙ p.length_le h.p4⟩
theorem le:am ["_law_row","_law_cell","_law_names_here","_law_word","_law_f","_law_told","_law_params","_law_e","_law_way","_law_at"] ["_law_row","_law_cell","_law_names_here"] (ag fY):=by trivial
theorem tL{f:Addr}{fd:Ο}{k0:Nat}(F:Fun K "_law_spoilt" "_law_spoilt" fY f fd)(T:Txt K mg)(D_law_other_kind:Def P w K mg base k0 "_law_other_kind" ["_law_kind","_law_cell","_law_names_here"] (yJ 12)):aG P w K mg base CX0 (k0+1) f fd ["_law_row","_law_cell","_law_names_here"] Bh:=by
 have nd:=le.nd
 refine F.ok le (λvs H Q E h=>?_) (λcdv A outer s H vs Q E hr h=>?_)
 ·obtain⟨v,m,r,xs,f,ns,ps,e,rfl,_⟩:=h
  rfl
 obtain⟨v,m,r,xs,f',ns,ps,e,rfl,R,dn,m0,hr0,nms,q⟩:=h
 have hu9:=cK hr
 have huL:(A.deeper (u6 "_law_spoilt" (ag fY) s.heap.objs.size f cdv)).units<cLine:=by omega
 obtain⟨a,vs5,rfl,ha,r5⟩:=Rep.tup_inv (show Rep H (.tup [.str "def",.str f',.tup (ns.map Dv.str),.tup (ps.map bX),e]) v from R)
 simp only[Reps]at r5
 obtain⟨w1,_,rfl,Q1,w2,_,rfl,Q2,w3,_,rfl,Q3,w4,_,rfl,Q4,u5,_,rfl,Q5,rfl⟩:=r5
 simp only[Rep]at Q1 Q2
 subst Q1;subst Q2
 obtain⟨c,us,rfl,hc,Ru⟩:=Rep.tup_inv Q4
 have lu:us.length=ps.length:=by have:=Ru.length;rwa[ε]at this
 have p4:=dn.p4
 refine⟨_,(@un _ _ _ (wbO (wbD (wv 0 rfl) (wbb rfl (wbd (waZ 3 nd rfl (Η rfl) ()) (wbd (waZ 4 nd rfl (Η rfl) ()) (wbd (waZ 5 nd rfl (Η rfl) ()) (wbd (waZ 6 nd rfl (Η rfl) ()) (wbd (waZ 7 nd rfl (Η rfl) ()) wbe rfl) rfl) rfl) rfl) rfl) rfl rfl) rfl rfl rfl) (wbO (wbM 6 nd rfl (Η rfl) (wam gc rfl T.list () (wae (wv 6 rfl) waf rfl) () () rfl rfl) rfl ()) (wbO (wbM 8 nd rfl (Η rfl) (waQ aA (wv 1 rfl) waC) rfl ()) (wbO (wbI (wbS (lG huL) (wv 6 rfl) (waM waf) (ah _)) (wbQ (wbK (waX (wae (wv 3 rfl) (wae (wv 4 rfl) (wae (waT iM (waQ yU (wv 5 rfl) (waX (wae (waD aJ (wv 2 rfl) (waQ aA (wv 1 rfl) waC) (λ_ _=>rfl)) waf rfl))) wbz (wbA waC)) (wae (waX waf) (wae (wv 7 rfl) waf rfl) rfl) rfl) rfl) rfl)))) wbP) (wbO (wbM 9 nd rfl (Η rfl) (waQ aA (waQ aS (wv 1 rfl) waC) (wal ap rfl T.len () (wae (wv 6 rfl) waf rfl) () () rfl rfl)) rfl ()) (wbO (wbI (wbS aB (wv 8 rfl) waC (ah _)) (wbQ (wbG (waj Ι k_ l8 sK (wv 6 rfl) (wae (wv 9 rfl) waf rfl) rfl rfl rfl rfl rfl) rfl)) (wbQ (wbI (wbS aB (wv 8 rfl) waC (ah _)) (wbQ (wbG (waj Ι Ϣ ϣ bf (wv 6 rfl) (wae (waj Ι k_ l8 sK (wv 6 rfl) (wae (wv 9 rfl) waf rfl) rfl rfl rfl rfl rfl) waf rfl) rfl rfl rfl rfl rfl) rfl)) (wbQ (wbI (wbS aB (wv 8 rfl) waC (ah _)) (wbQ (wbG (wak Ι Fw Fx jO (wv 6 rfl) rfl rfl) rfl)) (wbQ (wbD (waX (wae (waD aj (waD aJ (wv 6 rfl) (wv 9 rfl) (λ_ _=>rfl)) waC (λ_ _=>rfl)) (wae (waq D_law_other_kind hr rfl (wae (waD aj (waD aJ (wv 6 rfl) (wv 9 rfl) (λ_ _=>rfl)) waC (λ_ _=>rfl)) (wae (waQ aS (wv 1 rfl) waC) (wae (wv 2 rfl) waf rfl) rfl) rfl) () rfl rfl) waf rfl) rfl)) (wba (wv 6 rfl) (wv 9 rfl) pD ()) rfl rfl rfl))))))) (wbQ (wbK (waX (wae (wv 3 rfl) (wae (wv 4 rfl) (wae (wv 5 rfl) (wae (wam bF rfl T.tuple () (wae (wv 6 rfl) waf rfl) () () rfl rfl) (wae (wv 7 rfl) waf rfl) rfl) rfl) rfl) rfl))))))))))),?_⟩
 symm
 refine⟨_,rfl,a,_,rfl,SqT.of ha,rfl,_,_,rfl,gnm ⟨_,_,rfl,gnm ⟨_,_,rfl,gnm ⟨_,_,rfl,gnm ⟨_,_,rfl,gnm ⟨rfl,?_⟩⟩⟩⟩⟩⟩
 refine sO [some (.ref a),some (.int m),some (.ref r),some (.str "def"),some (.str f'),some w3,some (.ref c),some u5,none,none] rfl ?_
 refine⟨_,rfl,c,us,rfl,.inr (SqT.of hc),λpl hpl=>gnm ?_⟩
 have s1:=ac hpl (.lst us)
 have h1:upd H pl (.lst us) pl=some (.lst us):=aa
 generalize upd H pl (.lst us)=H1 at s1 h1⊢
 refine sO [some (.ref a),some (.int m),some (.ref r),some (.str "def"),some (.str f'),some w3,some (.ref pl),some u5,none,none] rfl ?_
 refine⟨_,rfl,_,_,rfl,rfl,(by show(0:Int)<7;decide),gnm ?_⟩
 refine sO [some (.ref a),some (.int m),some (.ref r),some (.str "def"),some (.str f'),some w3,some (.ref pl),some u5,some (.int (m%7)),none] rfl ?_
 refine⟨_,rfl,Ξ _,λt ht=>⟨pl,t,us,rfl,rfl,SqL.of (ac ht (.lst []) _ _ h1),SqL.of aa,_,rfl,?_⟩⟩
 have s2:=s1.trans (ac ht (.lst []))
 have h2:=ac ht (.lst []) _ _ h1
 generalize upd H1 t (.lst [])=H2 at s2 h2⊢
 have rn:∀{G:Hp}{y:Str},Rep G (.str y) (.str y):=λ{G y}=>by simp only[Rep]
 match us,ps,lu,Ru,hc,h2,dn,R,Q4,p4,q with
 |[],[],lu,Ru,hc,h2,dn,R,Q4,p4,q=>
  refine au ?_
  obtain⟨x,hx,at1⟩:=vF nms m
  refine aQ (ds:=[.str "def",.str f',.tup ((ns.map Dv.str++[Dv.str x]).take 4),.tup [],e]) (ak (bc (i:=3) rfl rn) (ak (bc (i:=4) rfl rn) (ak (xg (wu (bc (i:=5) rfl (Q3.mono s2)) (aQ (ak (vT (i:=2) (j:=1) rfl rfl (s2 _ _ hr0) at1) aI) (ϊ rfl)) (by rw[ε];have:=dn.n4;show _+1<=_;omega))) (ak (aQ aI (ϊ rfl)) (ak (bc (i:=7) rfl (Q5.mono s2)) aI))))) (ϊ rfl) _ (ae.refl _) _ λH' v' s' R'=>?_
  have e4:(ns.map Dv.str++[Dv.str x]).take 4=((ns++[x]).take 4).map Dv.str:=by rw[y7,τ];rfl
  rw[e4]at R'
  refine q _ _ ((ns++[x]).take 4) [] (s2.trans s') R' ⟨λn hn=>?_,by rw[Φ];omega,(),(),()⟩
  rcases ϖ.mp (j8 hn)with z|z
  ·exact dn.n1 n z
  ·rw[θ.mp z];exact hx
 |[],_::_,lu,_,_,_,_,_,_,_,_=>cases lu
 |u0::ul,ps,lu,Ru,hc,h2,dn,R,Q4,p4,q=>
  refine av (tnx ?_)
  generalize hus:u0::ul=us at lu Ru hc h2⊢
  have hpos:0<us.length:=by rw[<-hus];simp
  have g0:0<=m/7%(us.length:Int):=E3 _ ()
  have g1:m/7%(us.length:Int)<us.length:=Ek _ ()
  obtain⟨j,hj⟩:∃j:Nat,m/7%(us.length:Int)=j:=⟨(m/7%(us.length:Int)).toNat,()⟩
  have jl:j<us.length:=by omega
  refine⟨_,rfl,_,_,rfl,rfl,⟨(),()⟩,_,rfl,pl,us,rfl,.inl (SqL.of h2),_,_,rfl,rfl,(by show(0:Int)<(us.length:Int);omega),gnm ?_⟩
  refine sO [some (.ref a),some (.int m),some (.ref r),some (.str "def"),some (.str f'),some w3,some (.ref pl),some u5,some (.int (m%7)),some (.int j)] (by rw[<-hj];rfl) ?_
  dsimp only
  have hv:=Γ jl
  generalize us[j]=uj at hv
  obtain⟨p,hp,Rp⟩:=bi (f:=bX) Ru hv
  have ds:=dn.s
  have Ru2:=Ru.mono s2
  have u4:us.length<=4:=by omega
  have tt:∀{o:HO},(∃zs,o=.lst zs)->bS H2 (upd H2 pl o):=λ_=>(aD.upd H2 pl _).tups h2
  refine bG (λσ' H'=>∃us' ps',σ'=[some (.ref a),some (.int m),some (.ref r),some (.str "def"),some (.str f'),some w3,some (.ref pl),some u5,some (.int (m%7)),some (.int j)]/\ae H H'/\H' pl=some (.lst us')/\Reps H' (ps'.map bX) us'/\DfS xs ns ps') ?N1 (λ_ nx=>?_)
  case N1=>
   rintro _ H3 ⟨us',ps',rfl,s3,h3,R3,d3⟩
   exact aQ (ds:=[.str "def",.str f',.tup (ns.map Dv.str),.tup (ps'.map bX),e]) (ak (bc (i:=3) rfl rn) (ak (bc (i:=4) rfl rn) (ak (bc (i:=5) rfl (Q3.mono s3)) (ak (uS (bc (i:=6) rfl (by rw[Rep];exact⟨pl,us',rfl,h3,R3⟩))) (ak (bc (i:=7) rfl (Q5.mono s3)) aI))))) (ϊ rfl) _ (ae.refl _) _ λH' v' s' R'=>q _ _ ns ps' (s3.trans s') R' d3
  have out:∀{H3:Hp}{o:HO},ae H2 H3->ae H (upd H3 pl o):=λs3 b o e=>by
   rw[ai (af e hpl)];exact s3 _ _ (s2 _ _ e)
  refine⟨_,rfl,rfl,_,rfl,aF (λ_=>?_) (λ_=>?_)⟩
  ·refine⟨_,rfl,.inl ⟨rfl,_,SqL.of h2⟩,_,rfl,pl,us,(j:Int),uj,rfl,rfl,h2,(),by rw[r6];exact hv,(),?_⟩
   rw[r6]
   refine nx _ _ ⟨_,ps.take j++ps.drop (j+1),rfl,out (ae.refl _),aa,?_,ds.sub ?_⟩
   ·rw[τ,y7,FN]
    have:=et (tt (o:=.lst (us.take j++us.drop (j+1))) ⟨_,rfl⟩) Ru2
    exact Reps.append (XB.reps_take j this) (XB.reps_drop (j+1) this)
   ·have:=List.Sublist.append (List.Sublist.refl (ps.take j)) (List.drop_sublist 1 (ps.drop j))
    rwa[List.drop_drop,i3]at this
  refine⟨_,rfl,rfl,_,rfl,aF (λ_=>?_) (λ_=>?_)⟩
  ·refine⟨_,rfl,.inl ⟨rfl,_,SqL.of h2⟩,_,rfl,.inl ⟨rfl,_,SqL.of h2⟩,_,rfl,pl,us,(j:Int),uj,rfl,rfl,h2,(),by rw[r6];exact hv,(),?_⟩
   rw[r6]
   refine⟨pl,_,uj,rfl,rfl,aa,by rw[χ,Φ,ϳ,ω];omega,?_⟩
   refine nx _ _ ⟨_,(ps.take j++ps.drop (j+1))++[p],rfl,?_,aa,?_,ds.perm (xA hp)⟩
   ·rw[iS];exact out (ae.refl _)
   ·rw[iS]
    have:=et (tt (o:=.lst ((us.take j++us.drop (j+1))++[uj])) ⟨_,rfl⟩) Ru2
    rw[τ,τ,y7,FN]
    exact Reps.append (Reps.append (XB.reps_take j this) (XB.reps_drop (j+1) this)) (aK (on (tt (o:=.lst ((us.take j++us.drop (j+1))++[uj])) ⟨_,rfl⟩) (Rp.mono s2)))
  refine⟨_,rfl,rfl,_,rfl,aF (λ_=>?_) (λ_=>?_)⟩
  ·refine⟨_,rfl,.inl ⟨rfl,_,SqL.of h2⟩,pl,_,rfl,rfl,h2,?_⟩
   refine nx _ _ ⟨_,ps.reverse,rfl,out (ae.refl _),aa,?_,ds.perm (List.reverse_perm ps)⟩
   rw[DU]
   exact XB.reps_rev (et (tt (o:=.lst us.reverse) ⟨_,rfl⟩) Ru2)
  ·obtain⟨e',z,rfl,he,Rz⟩:=eh Rp
   obtain⟨px,pk,pa⟩:=dn.p1 p (Λ hp)
   have d28:0<=m/28:=Gh m0 ()
   have he2:=s2 _ _ he
   refine⟨_,rfl,_,rfl,pl,us,j,.ref e',rfl,rfl,SqL.of h2,ad hv,e',_,0,.str p.1,rfl,rfl,SqT.of he2,ad (j:=0) rfl,?_⟩
   refine⟨_,rfl,_,rfl,pl,us,j,.ref e',rfl,rfl,SqL.of h2,ad hv,e',_,1,z,rfl,rfl,SqT.of he2,ad (j:=1) rfl,_,rfl,_,_,rfl,rfl,⟨(),()⟩,_,rfl,z,p.2,_,r,xs,rfl,Rz.mono s2,pk,pa,d28,s2 _ _ hr0,nms,λH3 v3 k3 s3 R3 a3 z3'=>⟨z2,λp2 hp2=>?_⟩⟩
   have s4:=s3.trans (ac hp2 (.tup [.str p.1,v3]))
   have xj:ixN us.length (j:Int)=some j:=by simp[ixN,jl]
   refine⟨_,rfl,_,rfl,pl,us,j,j,rfl,rfl,s4 _ _ h2,xj,?_⟩
   have t1:bS H3 (upd (upd H3 p2 (.tup [.str p.1,v3])) pl (.lst (us.set j (.ref p2)))):=(ae.tups (ac hp2 _)).trans ((aD.upd _ pl _).tups (s4 _ _ h2))
   have np:p2≠pl:=λz=>by rw[z,s3 _ _ h2]at hp2;cases hp2
   refine nx _ _ ⟨_,ps.set j (p.1,k3),rfl,out s4,aa,?_,ds.n1,ds.n4,?_,λp' hp'=>?_,by rw[EU];exact ds.p4⟩
   ·rw[F9]
    refine jn ?_ j (et ((ae.tups s3).trans t1) Ru2)
    show Rep _ (.tup [.str p.1,k3.dv]) _
    rw[Rep]
    refine⟨p2,_,rfl,by rw[ai np];exact aa,?_⟩
    simp only[Reps]
    exact⟨_,_,rfl,by simp only[Rep],_,_,rfl,Kd.tupS t1 R3,rfl⟩
   ·have e0:(ps.set j (p.1,k3)).map (·.1)=ps.map (·.1):=by
     rw[F9]
     refine B4 λi=>?_
     rw[List.getElem?_set]
     split
     ·next h=>subst h;rw[ε];have:j<ps.length:=(ο.mp hp).1;rw[Q0 this,Ν,hp];rfl
     ·rfl
    rw[e0];exact ds.p0
   ·rcases Fy hp' with h|h
    ·exact ds.p1 p' h
    ·rw[h];exact⟨px,by show k3.size<=13;omega,a3⟩
theorem me{P:Α}{w:Υ}{K:ζ}{mg:Str->Option δ}{base:Heap}{CX:CXT}{k:Nat}{f:Addr}{fd:Ο}{ps:List Str}{sp:Sp}(n:∀vs H Q E,¬ sp vs H Q E):aG P w K mg base CX k f fd ps sp:=⟨λvs H Q E h=>absurd h (n _ _ _ _),λ_ _ _ _ _ _ _ _ _ _ _ _ _ h=>absurd h (n _ _ _ _)⟩
abbrev jX:Stmt:=top 74
def rH(K:ζ):Sp:=λvs H Q _=>∃(a:Addr) (ns:List Int),vs=[.ref a]/\SqL K H a (ns.map V.int)/\ns.length<=63/\∀H',Q (.bl true) H'
theorem iD{k:Nat}{ix:List Nat}{tt:TT}{te:TE}{σ:St}{i j:Nat}{K:ζ}{a:Addr}{x y:V}{ys:List V}{H:Hp}{N:List V->Hp->Prop}(ha:H a=some (.tup [x,y]))(h:tt (((cw k ix σ).set i (some x)).set j (some y)) H λc H3=>if c=true then te (((cw k ix σ).set i (some x)).set j (some y)) H3 λy H4=>ys.length<sizeLine/\N (ys++[y]) H4 else N ys H3):
  cE k ix (ww K 2 (eN (cu i) (eN (cu j) qx))) tt te σ (.ref a) ys H N:=⟨a,_,rfl,SqT.of ha,rfl,_,_,rfl,_,_,rfl,rfl,h⟩
def IsD(rs:List Rw)(j:Nat):Prop:=∃f ns ps e,rs[j]?=some (.df f ns ps e)
structure Rws(xs:List Str)(H:Hp)(R:Addr)(us:List V)(rs:List Rw):Prop where
 at_:H R=some (.lst us)
 rep:Reps H (rs.map Rw.dv) us
 ok:xM xs rs
theorem Rws.mono{xs:List Str}{H H':Hp}{R:Addr}{us:List V}{rs:List Rw}(h:Rws xs H R us rs)(s:ae H H'):Rws xs H' R us rs:=⟨s _ _ h.at_,h.rep.mono s,h.ok⟩
theorem Rws.lu{xs:List Str}{H:Hp}{R:Addr}{us:List V}{rs:List Rw}(h:Rws xs H R us rs):us.length=rs.length:=by have:=h.rep.length;rwa[ε]at this
theorem nY{f:Str}{ns ns':List Str}{ps ps':List Prm}{e:Dv}:∀{rs:List Rw}{j:Nat},rs[j]?=some (.df f ns ps e)->(rs.set j (.df f ns' ps' e)).flatMap Rw.f?=rs.flatMap Rw.f?
 |[],j,h=>by simp at h
 |r::rs,0,h=>by simp at h;subst h;rfl
 |r::rs,j+1,h=>by
  rw[List.set_cons_succ,s_,s_,nY (by simpa using h)]
theorem Rws.set{xs:List Str}{H H':Hp}{R S:Addr}{us:List V}{rs:List Rw}{v:V}{j:Nat}{f:Str}{ns ns':List Str}{ps ps':List Prm}{e:Dv}(W:Rws xs H R us rs)(s:ae H H')(hS:H' S=some (.lst (us.set j v)))(hj:rs[j]?=some (.df f ns ps e))(Rv:Rep H' (Rw.df f ns' ps' e).dv v)(k:DfN xs f ns' ps' e):Rws xs H' S (us.set j v) (rs.set j (.df f ns' ps' e)):=by
 refine⟨hS,?_,by rw[EU];exact W.ok.len,λx hx=>?_,by rw[nY hj];exact W.ok.nd⟩
 ·rw[F9]
  exact jn Rv j (W.rep.mono s)
 ·rcases Fy hx with z|z
  ·exact W.ok.ok x z
  ·rw[z];exact k
theorem yk{us:List V}{v:V}{j:Nat}(h:j<us.length):us.take j++[v]++us.drop (j+1)=us.set j v:=by
 rw[List.set_eq_take_append_cons_drop,Q0 h,w_];rfl
theorem yf{w:Str}{i:Int}:L2.Pl 2 (.tup [.str w,.tup [.int i,.int 0]]):=.tup λd hd=>by
 rcases μ.mp hd with rfl|hd
 ·exact .str
 ·rw[θ.mp hd];exact .tup λd hd=>by
   rcases μ.mp hd with rfl|hd
   ·exact .int
   ·rw[θ.mp hd];exact .int
theorem Bc{b:Bool}{ds:List Dv}(h:b=true↔ds≠ds):b=false:=by
 cases b with
 |false=>rfl
 |true=>exact absurd rfl (h.mp rfl)
theorem wT:L2.Pl 2 (.tup [.str "taken",.non]):=.tup λd hd=>by
 rcases μ.mp hd with rfl|hd
 ·exact .str
 ·rw[θ.mp hd];exact .non
def nbT:Rw->Bool
 |.ask _=>false
 |.df _ ns ps _=>!fE ns ps
def nbA(rs:List Rw)(k:Nat):Bool:=match rs[k]? with|some r=>nbT r|none=>false
theorem mQ{rs:List Rw}{k:Nat}:nbA rs k=true↔nbB rs k:=by
 unfold nbA nbB
 cases h:rs[k]? with
 |none=>simp
 |some r=>
  cases r with
  |ask e=>simp[nbT]
  |df f ns ps e=>exact⟨λz=>⟨f,ns,ps,e,rfl,by simpa[nbT]using z⟩,λ⟨_,_,_,_,e',z⟩=>by cases e';simp[nbT,z]⟩
def eJ(rs:List Rw)(n:Nat):List Nat:=(ϋ n).filter (nbA rs)
theorem tN(rs:List Rw):match eJ rs rs.length with| []=>kz rs none|j::_=>kz rs (some j):=by
 have none_out:∀j,nbB rs j->j<rs.length:=λj ⟨_,_,_,_,h,_⟩=>(ο.mp h).1
 cases h:eJ rs rs.length with
 |nil=>
  intro j hj
  have:j∈eJ rs rs.length:=ϙ.mpr ⟨Ϭ.mpr (none_out j hj),mQ.mpr hj⟩
  rw[h]at this;cases this
 |cons j js=>
  have hm:j∈eJ rs rs.length:=by rw[h];exact Δ
  refine⟨mQ.mp (ϙ.mp hm).2,λi hi hb=>?_⟩
  have hi':i∈eJ rs rs.length:=ϙ.mpr ⟨Ϭ.mpr (none_out i hb),mQ.mpr hb⟩
  have pw:(eJ rs rs.length).Pairwise (· < ·):=Eb.filter _ List.pairwise_lt_range
  rw[h]at hi' pw
  rcases μ.mp hi' with z|z
  ·omega
  ·have:=(List.pairwise_cons.mp pw).1 i z;omega
theorem wy(rs:List Rw)(n:Nat):(eJ rs n).length<=n:=by
 have:=Dq (nbA rs) (ϋ n)
 rwa[FK]at this
theorem vv{js:List Nat}(h:js≠[])(k:Int):∃j∈js,atI (js.map λj:Nat=>V.int j) (k%((js.map λj:Nat=>V.int j).length:Int))=some (.int j):=by
 have hp:0<js.length:=E6.mpr h
 rw[ε]
 have h0:0<=k%(js.length:Int):=E3 _ ()
 have h1:k%(js.length:Int)<js.length:=Ek _ ()
 obtain⟨j,hj⟩:∃j:Nat,k%(js.length:Int)=j:=⟨(k%(js.length:Int)).toNat,()⟩
 have hv:j<js.length:=by omega
 exact⟨js[j],f_ hv,by rw[hj];exact ad (by rw[Ν,Γ hv];rfl)⟩
theorem va:am ["_law_script","_law_names_here","_law_rows","_law_begin","_law_draws_here","_law_cell","_law_defs","_law_at","_law_odd","_law_some","_law_bad","_law_due"] ["_law_script"] (ag jX):=by trivial
theorem AU{f:Addr}{fd:Ο}{k0:Nat}(F:Fun K "law" "law" jX f fd)(T:Txt K mg)(D_law_draws:Def P w K mg base k0 "_law_draws" ["_law_cells","_law_many"] (mX K))(D_law_next:Def P w K mg base k0 "_law_next" ["_law_draws_here"] fB)(D_law_names:Def P w K mg base k0 "_law_names" ["_law_cell"] rY)(D_law_program:Def P w K mg base k0 "_law_program" ["_law_script","_law_names_here"] (wF K))(D_law_refused:Def P w K mg base k0 "_law_refused" ["_law_thing"] zc)(D_law_spoilt:Def P w K mg base k0 "_law_spoilt" ["_law_row","_law_cell","_law_names_here"] Bh)(D_law_size:Def P w K mg base k0 "_law_size" ["_law_kind"] (ml 13))(D_law_binds:Def P w K mg base k0 "_law_binds" ["_law_row"] sW):
  aG P w K mg base CX0 (k0+1) f fd ["_law_script"] (rH K):=by
 have nd:=va.nd
 refine F.ok va (λvs H Q E h=>?_) (λcdv A outer s H vs Q E hr h=>?_)
 ·obtain⟨a,ns,rfl,_⟩:=h
  rfl
 obtain⟨sc,ns,rfl,hS,h63,q⟩:=h
 have hu9:=cK hr
 have huL:(A.deeper (u6 "law" (ag jX) s.heap.objs.size f cdv)).units<cLine:=Ej (o0 _ 150) hu9
 refine⟨_,(@un _ _ _ (wbO (wbM 1 nd rfl (Η rfl) (waq D_law_names hr rfl (wae (waD aJ (waq D_law_draws hr rfl (wae (waT br (waQ dj (waT br (wv 0 rfl) wbz (wbA waC)) (waM (wae waC waf rfl))) wbz (wbA waC)) (wae waC waf rfl) rfl) () rfl rfl) waC (λ_ _=>rfl)) waf rfl) () rfl rfl) rfl ()) (wbO (wbM 2 nd rfl (Η rfl) (waq D_law_program hr rfl (wae (wv 0 rfl) (wae (wv 1 rfl) waf rfl) rfl) () rfl rfl) rfl ()) (wbO (wbH ϛ rfl (wbm rfl T.range (wae waC (wae (wal (kU rfl) rfl T.max () (wae waC (wae (wal ap rfl T.len () (wae (wv 0 rfl) waf rfl) () () rfl rfl) waf rfl) rfl) () () rfl rfl) (wae waC waf rfl) rfl) rfl) rfl rfl) (waZ 3 nd rfl (Η rfl) ()) (wbO (wbM 4 nd rfl (Η rfl) (waq D_law_draws hr rfl (wae (waT br (waQ dj (waT br (wv 0 rfl) (wbA (wv 3 rfl)) (wbA (waQ bv (wv 3 rfl) waC))) (waQ wm (waM (wae waC waf rfl)) waC)) wbz (wbA waC)) (wae waC waf rfl) rfl) () rfl rfl) rfl ()) (wbO (wbM 5 nd rfl (Η rfl) (waq D_law_next hr rfl (wae (wv 4 rfl) waf rfl) () rfl rfl) rfl ()) (wbO (wbJ (["_law_k","_law_row"]) [] 6 nd rfl rfl (wbg rfl T.enumerate (wae (wv 2 rfl) waf rfl) rfl) (.of rfl) rfl (λ_ _ _=>⟨pg_tup rfl (pgs_cons (pg_name (i:=0) (bE (l:=["_law_k","_law_row"]) (()) rfl) rfl (Η rfl)) (pgs_cons (pg_name (i:=1) (bE (l:=["_law_k","_law_row"]) (()) rfl) rfl (Η rfl)) pgs_nil))⟩) (ie () ()) (λ_ _ _=>⟨iK (pt_cmpR aB (pe_ix (iU K rfl) (pv 1) pe_int (λ_ _=>rfl)) pe_str (ah _))⟩) (λ_ _ _=>(wv 0 rfl)) rfl ()) (wbQ (wbI (wbS (lY huL) (wv 6 rfl) (waM waf) (ah _)) (wbO (wbM 7 nd rfl (Η rfl) (waD aJ (wv 6 rfl) (waQ aA (wv 5 rfl) (wal ap rfl T.len () (wae (wv 6 rfl) waf rfl) () () rfl rfl)) (λ_ _=>rfl)) rfl ()) (wbO (wbM 8 nd rfl (Η rfl) (waq D_law_spoilt hr rfl (wae (waD aJ (wv 2 rfl) (wv 7 rfl) (λ_ _=>rfl)) (wae (waq D_law_next hr rfl (wae (wv 4 rfl) waf rfl) () rfl rfl) (wae (wv 1 rfl) waf rfl) rfl) rfl) () rfl rfl) rfl ()) (wbO (wbI (wab (wbY (wbS kR (wal kY rfl T.len () (wae (wam (kZ rfl) rfl T.set () (wae (waD aj (wv 8 rfl) waC (λ_ _=>rfl)) waf rfl) () () rfl rfl) waf rfl) () () rfl rfl) (wal ap rfl T.len () (wae (waD aj (wv 8 rfl) waC (λ_ _=>rfl)) waf rfl) () () rfl rfl) (ah _)) (wbZ (wbS fQ ⟨yt rfl T.max rfl (pe_lc (own:=["_law_x","_law_kind"]) (ix:=[]) (pi_tup (pe_ix aj (pv 8) pe_int (λ_ _=>rfl))) (.of rfl) rfl (λ_ _ _=>pg_tup rfl (pgs_cons (pg_name (i:=0) (bE (l:=["_law_x","_law_kind"]) (()) rfl) rfl (Η rfl)) (pgs_cons (pg_name (i:=1) (bE (l:=["_law_x","_law_kind"]) (()) rfl) rfl (Η rfl)) pgs_nil))) (ie () ()) (λ_ _ _=>pif_nil) (λ_ _ _=>(pe_def D_law_size hr rfl (pa_cons (pv 1) pa_nil))))⟩ waC (ah _))))) (wbQ (wbM 8 nd rfl (Η rfl) (waD aJ (wv 2 rfl) (wv 7 rfl) (λ_ _=>rfl)) rfl ())) wbP) (wbO (wbM 9 nd rfl (Η rfl) (waQ dj (waQ dj (waT br (wv 2 rfl) wbz (wbA (wv 7 rfl))) (waM (wae (wv 8 rfl) waf rfl))) (waT br (wv 2 rfl) (wbA (waQ bv (wv 7 rfl) waC)) wbz)) rfl ()) (wbO (wbJ (["_law_k","_law_row"]) [] 10 nd rfl rfl (wbg rfl T.enumerate (wae (wv 9 rfl) waf rfl) rfl) (.of rfl) rfl (λ_ _ _=>⟨pg_tup rfl (pgs_cons (pg_name (i:=0) (bE (l:=["_law_k","_law_row"]) (()) rfl) rfl (Η rfl)) (pgs_cons (pg_name (i:=1) (bE (l:=["_law_k","_law_row"]) (()) rfl) rfl (Η rfl)) pgs_nil))⟩) (ie () ()) (λ_ _ _=>⟨iK (PW.pt (pw_and (pt_cmpR aB (pe_ix (iU K rfl) (pv 1) pe_int (λ_ _=>rfl)) pe_str (ah _)) (pw_and1 (pt_not (pt_val (pe_def D_law_binds hr rfl (pa_cons (pv 1) pa_nil)))))))⟩) (λ_ _ _=>(wv 0 rfl)) rfl ()) (wbO (wbM 11 nd rfl (Η rfl) (waX (wae waV (wae waN waf rfl) rfl)) rfl ()) (wbO (wbI (wbS (lY huL) (wv 10 rfl) (waM waf) (ah _)) (wbQ (wbM 11 nd rfl (Η rfl) (waX (wae waV (wae (waX (wae (waD aJ (wv 10 rfl) waC (λ_ _=>rfl)) (wae waC waf rfl) rfl)) waf rfl) rfl)) rfl ())) wbP) (wbO (wbI (wbS (pM hu9) (waq D_law_refused hr rfl (wae (wv 9 rfl) waf rfl) () rfl rfl) (wv 11 rfl) (ah _)) (wbQ (wbK wah)) wbP) (wbQ (wbI (wab (wbY (wbS (lG huL) (wv 10 rfl) (waM waf) (ah _)) (wbZ (wbS aB (waQ aA (waQ aS (wv 5 rfl) waC) waC) waC (ah _))))) (wbQ (wbM 2 nd rfl (Η rfl) (wv 9 rfl) rfl ())) wbP)))))))))) wbP))))) ()) (wbQ (wbK wah)))))),?_⟩
 symm
 refine eO λX hX=>?_
 obtain⟨ms,hms,lms⟩:=lQ ns none (some 1)
 refine⟨_,rfl,1,rfl,sc,_,rfl,hS,λe1 he1=>⟨z1,λe2 he2=>?_⟩⟩
 have c1:=ac he1 (.lst (aH (ns.map V.int) none (some 1)))
 have c2:=ac he2 (.lst [.int 0])
 refine⟨e1,e2,_,_,rfl,rfl,c2 _ _ aa,aa,by rw[hms,ε,ω];show ms.length+1<=16777216;omega,λe3 he3=>?_⟩
 have c3:=ac he3 (.lst (aH (ns.map V.int) none (some 1)++[.int 0]))
 refine⟨1,rfl,e3,_,rfl,SqL.of aa,λe4 he4=>?_⟩
 have c4:=ac he4 (.lst (aH (aH (ns.map V.int) none (some 1)++[.int 0]) none (some 1)))
 have hcells:∃cells:List Int,aH (aH (ns.map V.int) none (some 1)++[.int 0]) none (some 1)=cells.map V.int/\cells.length=1:=by
  refine⟨(ms++[0]).take 1,?_,by rw[Φ,χ,ϥ];omega⟩
  have e:=cQ (aH (ns.map V.int) none (some 1)++[.int 0]) 1
  rw[y7,τ,<-hms]
  exact e
 obtain⟨cells,hc,lc⟩:=hcells
 have s1:=c1.trans (c2.trans (c3.trans c4))
 have f1:=aa (H:=upd (upd (upd H e1 (.lst (aH (ns.map V.int) none (some 1)))) e2 (.lst [.int 0])) e3 (.lst (aH (ns.map V.int) none (some 1)++[.int 0]))) (a:=e4) (o:=.lst (aH (aH (ns.map V.int) none (some 1)++[.int 0]) none (some 1)))
 rw[hc]at f1 s1
 rw[hc]
 generalize upd _ e4 _=H1 at f1 s1⊢
 clear c1 c2 c3 c4
 refine⟨e4,3,cells,rfl,SqL.of f1,(),(),(),(),λH2 dA s2 hdA d2=>?_⟩
 obtain⟨is,hdl,lis,his⟩:=d2
 obtain⟨y,ys,rfl⟩:∃y z,is=y::z:=by cases is with|nil=>cases lis|cons y z=>exact⟨y,z,rfl⟩
 refine⟨dA,_,0,.int y,rfl,rfl,SqL.of hdl,ad (j:=0) rfl,y,rfl,(his y Δ).1,λH3 r xs s3 hrn hr3 nms=>?_⟩
 have s03:=s1.trans (s2.trans s3)
 refine gs hX λX hX=>?_
 refine⟨_,rfl,_,rfl,sc,r,ns,xs,rfl,s03.seq hS,h63,hr3,nms,λH4 L us rs s4 hLn hL R4 ok=>gs hX λX hX=>?_⟩
 have s04:=s03.trans s4
 have W4:Rws xs H4 L us rs:=⟨hL,R4,ok⟩
 have B2:(if ((ns.map V.int).length:Int)>1 then ((ns.map V.int).length:Int)else 1)<(1000000:Int):=by
  rw[ε]
  split<;>omega
 refine⟨_,rfl,sc,_,rfl,.inl (s04.seq hS),_,_,rfl,0,_,6,rfl,⟨(),(),(),(),?B1,B2⟩,kI (λi σ H'=>∃(o3 o4 o5 o6 o7 o8 o9 o10 o11:Option V) (R:Addr) (us:List V) (rs:List Rw),σ=[some (.ref sc),some (.ref r),some (.ref R),o3,o4,o5,o6,o7,o8,o9,o10,o11]/\ae H H'/\H' r=some (.lst (xs.map V.str))/\Rws xs H' R us rs) ⟨_,_,_,_,_,_,_,_,_,L,us,rs,rfl,s04,s4 _ _ hr3,W4⟩ ?T1 ?_⟩
 case B1=>
  show(-1000000:Int)<=(if ((ns.map V.int).length:Int)>1 then ((ns.map V.int).length:Int)else 1)
  split<;>omega
 case T1=>
  clear W4
  intro i σ H2 D1 go1 hi h
  refine gs (λ_ _ z=>z) λX hX=>?_
  obtain⟨o3,o4,o5,o6,o7,o8,o9,o10,o11,R,us,rs,rfl,s02,r02,W⟩:=h
  obtain⟨ms,hms,lms⟩:=lQ ns (some (0+(i:Int)*6)) (some (0+(i:Int)*6+6))
  refine⟨_,rfl,_,rfl,_,rfl,_,rfl,_,_,rfl,rfl,_,rfl,sc,_,rfl,s02.seq hS,λe1 he1=>⟨z1,λe2 he2=>⟨e2,6,_,rfl,rfl,aa,(),(),by rw[ω];decide,λe3 he3=>?_⟩⟩⟩
  have c1:=ac he1 (.lst (aH (ns.map V.int) (some (0+(i:Int)*6)) (some (0+(i:Int)*6+6))))
  have c2:=ac he2 (.lst [.int 0])
  have c3:=ac he3 (.lst (Β (6:Int).toNat [V.int 0]).flatten)
  have f1:=c3 _ _ (c2 _ _ (aa (H:=H2) (a:=e1) (o:=.lst (aH (ns.map V.int) (some (0+(i:Int)*6)) (some (0+(i:Int)*6+6))))))
  refine⟨e1,e3,_,_,rfl,rfl,f1,aa,?_,λe4 he4=>?_⟩
  ·rw[hms,ε,ω]
   have:(Β (6:Int).toNat [V.int 0]).flatten.length=6:=by decide
   omega
  have c4:=ac he4 (.lst (aH (ns.map V.int) (some (0+(i:Int)*6)) (some (0+(i:Int)*6+6))++(Β (6:Int).toNat [V.int 0]).flatten))
  refine⟨6,rfl,e4,_,rfl,SqL.of aa,λe5 he5=>?_⟩
  have c5:=ac he5 (.lst (aH (aH (ns.map V.int) (some (0+(i:Int)*6)) (some (0+(i:Int)*6+6))++(Β (6:Int).toNat [V.int 0]).flatten) none (some 6)))
  have hcells:∃cells:List Int,aH (aH (ns.map V.int) (some (0+(i:Int)*6)) (some (0+(i:Int)*6+6))++(Β (6:Int).toNat [V.int 0]).flatten) none (some 6)=cells.map V.int/\cells.length=6:=by
   refine⟨(ms++Β 6 0).take 6,?_,by rw[Φ,χ,u7];omega⟩
   have e:=cQ (aH (ns.map V.int) (some (0+(i:Int)*6)) (some (0+(i:Int)*6+6))++(Β (6:Int).toNat [V.int 0]).flatten) 6
   rw[y7,τ,<-hms]
   exact e
  obtain⟨cells,hc,lc⟩:=hcells
  have s5:=c1.trans (c2.trans (c3.trans (c4.trans c5)))
  have f5:=aa (H:=upd (upd (upd (upd H2 e1 (.lst (aH (ns.map V.int) (some (0+(i:Int)*6)) (some (0+(i:Int)*6+6))))) e2 (.lst [.int 0])) e3 (.lst (Β (6:Int).toNat [V.int 0]).flatten)) e4 (.lst (aH (ns.map V.int) (some (0+(i:Int)*6)) (some (0+(i:Int)*6+6))++(Β (6:Int).toNat [V.int 0]).flatten))) (a:=e5) (o:=.lst (aH (aH (ns.map V.int) (some (0+(i:Int)*6)) (some (0+(i:Int)*6+6))++(Β (6:Int).toNat [V.int 0]).flatten) none (some 6)))
  rw[hc]at f5 s5
  rw[hc]
  generalize upd _ e5 _=H3 at f5 s5⊢
  clear c1 c2 c3 c4 c5 f1 he1 he2 he3 he4 he5
  refine⟨e5,24,cells,rfl,SqL.of f5,(),(),(),(),λH4 dA s4 hdA d4=>?_⟩
  have s24:=s5.trans s4
  have dAn:H2 dA=none:=s5.free hdA
  refine gs hX λX hX=>?_
  refine⟨_,rfl,dA,_,rfl,d4,λH5 x s5' d5 x0 x1=>gs hX λX hX=>?_⟩
  have s25:ae H2 H5:=λg o e=>s5' g o (af e dAn) (s24 _ _ e)
  have fin:∀(o3 o4 o5 o6 o7 o8 o9 o10 o11:Option V)(R:Addr)(us:List V)(rs:List Rw)(H':Hp),ae H2 H'->Rws xs H' R us rs->D1.nx [some (.ref sc),some (.ref r),some (.ref R),o3,o4,o5,o6,o7,o8,o9,o10,o11] H':=λ_ _ _ _ _ _ _ _ _ R us rs H' s' W'=>go1 _ _ ⟨_,_,_,_,_,_,_,_,_,R,us,rs,rfl,s02.trans s',s' _ _ r02,W'⟩
  refine⟨_,rfl,R,rfl,⟨us,SqL.of (s25 _ _ W.at_)⟩,lN (xs:=us) (λi zs H'=>ae H5 H'/\∃js:List Nat,zs=js.map (λj:Nat=>V.int j)/\js.length<=i/\∀j∈js,IsD rs j) ⟨ae.refl _,[],rfl,ρ _,()⟩ (λi zs H' p=>SqL.of (p.1 _ _ (s25 _ _ W.at_))) ?_ ?_⟩
  ·rintro i zs H' v p hx ⟨s',js,rfl,lj,hj⟩ hp
   have hi:i<us.length:=(ο.mp hx).1
   have lu:=W.lu
   have l12:=W.ok.len
   have s6:=s'.trans (ac hp (.tup [.int i,v]))
   refine iD aa ?_
   generalize upd H' p (.tup [.int i,v])=H6 at s6⊢
   obtain⟨rr,hr',Rx⟩:=bi (f:=Rw.dv) W.rep hx
   obtain⟨a',rfl,z⟩:=Rw.inv (Rx.mono (s25.trans s6))
   cases rr with
   |ask e'=>
    obtain⟨u,h2⟩:=z
    refine⟨_,rfl,a',_,0,.str "ask",rfl,rfl,SqT.of h2,ad (j:=0) rfl,rfl,_,rfl,?_⟩
    rw[Q8 iN]
    exact av ⟨s6,js,rfl,(),hj⟩
   |df f' ns' ps' e'=>
    obtain⟨b',c',u,h2,_⟩:=z
    refine⟨_,rfl,a',_,0,.str "def",rfl,rfl,SqT.of h2,ad (j:=0) rfl,rfl,_,rfl,?_⟩
    refine aF (λ_=>⟨_,rfl,by rw[ε,ω];omega,s6,js++[i],by rw[τ];rfl,by rw[χ];show _+1<=_;omega,λj hj'=>?_⟩) (λh=>absurd (Q9 rfl) h)
    rcases ϖ.mp hj' with z|z
    ·exact hj j z
    ·rw[θ.mp z];exact⟨_,_,_,_,hr'⟩
  ·rintro zs H6 ⟨s56,js,rfl,lj,hj⟩ D hD
   have s6D:=ac hD (.lst (js.map λj:Nat=>V.int j))
   have hD7:upd H6 D (.lst (js.map λj:Nat=>V.int j)) D=some (.lst (js.map λj:Nat=>V.int j)):=aa
   have D5:H5 D=none:=s56.free hD
   refine gnm (hX _ _ (CP λY Z hY hZ=>?_))
   generalize upd H6 D (.lst (js.map λj:Nat=>V.int j))=H7 at s6D hD7⊢
   refine⟨_,rfl,Ξ _,λeE hE=>⟨D,eE,_,rfl,rfl,SqL.of (ac hE (.lst []) _ _ hD7),SqL.of aa,_,rfl,?_⟩⟩
   have s57:=s56.trans (s6D.trans (ac hE (.lst [])))
   have hD8:=ac hE (.lst []) _ _ hD7
   generalize upd H7 eE (.lst [])=H8 at s57 hD8⊢
   refine aF (λh=>hY _ (eO λX hX=>?_)) (λ_=>hZ _ (tnx (fin _ _ _ _ _ _ _ _ _ R us rs _ (s25.trans s57) (W.mono (s25.trans s57)))))
   have j0:js≠[]:=λz=>by rw[z]at h;cases h
   have d8:Dr H8 dA _:=let ⟨is,h1,h2⟩:=d5;⟨is,s57 _ _ h1,h2⟩
   have dA8:H8 dA≠none:=λz=>by obtain⟨is,h1,_⟩:=d8;rw[z]at h1;cases h1
   have DA:D≠dA:=λz=>by rw[z]at D5;obtain⟨is,h1,_⟩:=d5;rw[h1]at D5;cases D5
   obtain⟨j,hjm,haj⟩:=vv j0 x
   obtain⟨f,ns',ps,e,hrj⟩:=hj j hjm
   have jl:j<rs.length:=(ο.mp hrj).1
   have lu:=W.lu
   have l12:=W.ok.len
   have hv:=Γ (l:=us) (i:=j) ()
   obtain⟨r1,hr1,Rv⟩:=bi (f:=Rw.dv) W.rep hv
   rw[hrj]at hr1
   cases hr1
   have s28:=s25.trans s57
   have dn:DfN xs f ns' ps e:=W.ok.ok _ (Λ hrj)
   refine⟨_,rfl,_,rfl,_,rfl,D,_,rfl,.inl (SqL.of hD8),_,_,rfl,rfl,(by rw[ε];show(0:Int)<_;have:=E6.mpr j0;omega),D,_,_,.int j,rfl,rfl,SqL.of hD8,haj,gs hX λX hX=>?_⟩
   refine⟨_,rfl,_,rfl,R,us,j,us[j],rfl,rfl,SqL.of (s28 _ _ W.at_),ad hv,_,rfl,dA,_,rfl,d8,λH10 y s10 d10 y0 y1=>?_⟩
   have s2A:=aD.same dAn s28 s10
   refine⟨_,rfl,us[j],y,r,xs,f,ns',ps,e,rfl,Rv.mono s2A,dn,y0,s2A _ _ r02,nms,λH11 vo ns1 ps1 s11 Ro dS=>gnm (hX _ _ ?_)⟩
   have s2B:=s2A.trans s11
   refine bG (λσ' H'=>∃vo ns2 ps2,σ'=[some (.ref sc),some (.ref r),some (.ref R),some (.int (0+(i:Int)*6)),some (.ref dA),some (.int x),some (.ref D),some (.int j),some vo,o9,o10,o11]/\ae H2 H'/\Rep H' (Rw.df f ns2 ps2 e).dv vo/\DfN xs f ns2 ps2 e) ?N1 (λ_ nx=>?_)
   case N1=>
    intro _ HA h
    refine eO λX hX=>?_
    obtain⟨vo,ns2,ps2,rfl,s2A',Ro,dn2⟩:=h
    refine⟨_,rfl,_,rfl,j,rfl,R,_,rfl,SqL.of (s2A' _ _ W.at_),λe1 he1=>?_⟩
    rw[cQ]
    have sa:=ac he1 (.lst (us.take j))
    refine⟨_,rfl,z1,λe2 he2=>?_⟩
    have sb:=ac he2 (.lst [vo])
    refine⟨e1,e2,_,_,rfl,rfl,sb _ _ aa,aa,by rw[Φ,ω];show _+1<=_;omega,λe3 he3=>?_⟩
    have sc':=ac he3 (.lst (us.take j++[vo]))
    have h3:upd (upd (upd HA e1 (.lst (us.take j))) e2 (.lst [vo])) e3 (.lst (us.take j++[vo])) e3=some (.lst (us.take j++[vo])):=aa
    have sAB:=sa.trans (sb.trans sc')
    generalize upd (upd (upd HA e1 (.lst (us.take j))) e2 (.lst [vo])) e3 (.lst (us.take j++[vo]))=HB at h3 sAB⊢
    refine⟨_,rfl,_,rfl,_,_,rfl,rfl,(j:Int)+1,rfl,R,_,rfl,SqL.of ((s2A'.trans sAB) _ _ W.at_),λe4 he4=>?_⟩
    rw[show aH us (some ((j:Int)+1)) none=us.drop (j+1)from cD us (j+1)]
    have sd:=ac he4 (.lst (us.drop (j+1)))
    refine⟨e3,e4,_,_,rfl,rfl,sd _ _ h3,aa,by rw[χ,Φ,ϳ,ω];show _+1+_<=_;omega,λS hS9=>gs hX λX hX=>?_⟩
    rw[yk ()]
    have s2C:=(s2A'.trans (sAB.trans sd)).trans (ac hS9 (.lst (us.set j vo)))
    have W1:=W.set s2C aa hrj (Ro.mono ((sAB.trans sd).trans (ac hS9 (.lst (us.set j vo))))) dn2
    generalize upd (upd HB e4 (.lst (us.drop (j+1)))) S (.lst (us.set j vo))=HC at s2C W1⊢
    generalize rs.set j (.df f ns2 ps2 e)=rs',us.set j vo=us' at W1⊢
    have lu':=W1.lu
    have l12':=W1.ok.len
    refine⟨_,rfl,S,rfl,⟨us',SqL.of W1.at_⟩,lN (xs:=us') (λi zs H'=>ae HC H'/\zs=(eJ rs' i).map (λj:Nat=>V.int j)) ⟨ae.refl _,rfl⟩ (λi zs H' p=>SqL.of (p.1 _ _ W1.at_)) ?_ ?_⟩
    ·rintro i' zs H' v p hx ⟨s',rfl⟩ hp
     have hi':i'<us'.length:=(ο.mp hx).1
     have s6:=s'.trans (ac hp (.tup [.int i',v]))
     have bl:=wy rs' i'
     have bs1:∀b,nbA rs' i'=b->eJ rs' (i'+1)=eJ rs' i'++(if b then [i']else []):=λb hb=>by
      unfold eJ
      rw[Dm,El,FP,hb]
      cases b<;>rfl
     refine iD aa ?_
     generalize upd H' p (.tup [.int i',v])=H6' at s6⊢
     obtain⟨rr,hr',Rx⟩:=bi (f:=Rw.dv) W1.rep hx
     have okr:=W1.ok.ok rr (Λ hr')
     have Rx6:=Rx.mono s6
     obtain⟨a',rfl,z⟩:=Rw.inv Rx6
     cases rr with
     |ask e'=>
      obtain⟨u,h2⟩:=z
      refine⟨_,rfl,a',_,0,.str "ask",rfl,rfl,SqT.of h2,ad (j:=0) rfl,rfl,_,rfl,?_⟩
      rw[Q8 iN]
      refine av (av ⟨s6,?_⟩)
      rw[bs1 false (by unfold nbA;rw[hr'];rfl)];simp
     |df f' ns' ps' e'=>
      obtain⟨b',c',u,h2,_⟩:=z
      refine⟨_,rfl,a',_,0,.str "def",rfl,rfl,SqT.of h2,ad (j:=0) rfl,rfl,_,rfl,aF (λ_=>?_) (λh=>absurd (Q9 rfl) h)⟩
      refine⟨_,rfl,.ref a',xs,f',ns',ps',e',rfl,Rx6,okr,λH7 s7=>⟨_,rfl,?_⟩⟩
      have nb:nbA rs' i'=!fE ns' ps':=by unfold nbA;rw[hr'];rfl
      cases hb:fE ns' ps' with
      |true=>exact av ⟨s6.trans s7,by rw[bs1 false (by rw[nb,hb];rfl)];simp⟩
      |false=>exact au ⟨_,rfl,by rw[ε,ω];omega,s6.trans s7,by rw[bs1 true (by rw[nb,hb];rfl),τ];rfl⟩
    ·rintro zs HD' ⟨sCD,rfl⟩ B hB
     rw[lu']
     have p1:=ac hB (.lst ((eJ rs' rs'.length).map λj:Nat=>V.int j))
     have hB1:upd HD' B (.lst ((eJ rs' rs'.length).map λj:Nat=>V.int j)) B=some (.lst ((eJ rs' rs'.length).map λj:Nat=>V.int j)):=aa
     have sCE:=sCD.trans p1
     refine gs hX λX hX=>?_
     generalize upd HD' B (.lst ((eJ rs' rs'.length).map λj:Nat=>V.int j))=HE at sCE hB1⊢
     refine⟨z2,λt ht=>gnm (hX _ _ ?_)⟩
     have p2:=ac ht (.tup [.str "taken",.non])
     have ht1:upd HE t (.tup [.str "taken",.non]) t=some (.tup [.str "taken",.non]):=aa
     have hB2:=p2 _ _ hB1
     have sCF:=sCE.trans p2
     generalize upd HE t (.tup [.str "taken",.non])=HF at sCF hB2 ht1⊢
     have ft0:=tN rs'
     refine bG (λσ' H'=>∃vd ft,σ'=[some (.ref sc),some (.ref r),some (.ref R),some (.int (0+(i:Int)*6)),some (.ref dA),some (.int x),some (.ref D),some (.int j),some vo,some (.ref S),some (.ref B),some vd]/\ae HF H'/\Rep H' (wD ft) vd/\kz rs' ft) ?N2 (λ_ nx2=>?_)
     case N2=>
      intro _ HG h
      refine eO λX hX=>?_
      obtain⟨vd,ft,rfl,sFG,Rd,ff⟩:=h
      have W3:=W1.mono (sCF.trans sFG)
      refine⟨_,rfl,S,us',rs',xs,ft,rfl,W3.at_,W3.rep,nms,W3.ok,ff,λHI v' sGI R'=>?_⟩
      have hBI:=sGI _ _ (sFG _ _ hB2)
      have s2I:=s2C.trans (sCF.trans (sFG.trans sGI))
      have fin2:∃ds,wD ft=.tup ds/\L2.Pl 2 (.tup ds):=by
       cases ft with
       |none=>exact⟨_,rfl,wT⟩
       |some i=>exact⟨_,rfl,yf⟩
      obtain⟨ds,eds,pld⟩:=fin2
      rw[eds]at R' Rd
      refine⟨_,rfl,2,ds,ds,pld,pld,(),R',Rd.mono sGI,λb hb=>?_⟩
      rw[Bc hb]
      refine⟨_,rfl,av (tnx (hX _ _ ?_))⟩
      refine⟨_,rfl,Ξ _,λt2 ht2=>⟨B,t2,_,rfl,rfl,SqL.of (ac ht2 (.lst []) _ _ hBI),SqL.of aa,_,rfl,?_⟩⟩
      have p3:=ac ht2 (.lst [])
      have W4':=W3.mono (sGI.trans p3)
      have s2J:=s2I.trans p3
      refine aF (λ_=>au ⟨_,rfl,gnm (fin _ _ _ _ _ _ _ _ _ S us' rs' _ s2J W4')⟩) (λ_=>?_)
      exact⟨_,rfl,_,_,rfl,rfl,⟨(),()⟩,_,_,rfl,rfl,(by show(0:Int)<4;decide),rfl,_,rfl,aF (λ_=>⟨_,rfl,gnm (fin _ _ _ _ _ _ _ _ _ S us' rs' _ s2J W4')⟩) (λ_=>tnx (fin _ _ _ _ _ _ _ _ _ R us rs _ s2J (W.mono s2J)))⟩
     refine⟨_,rfl,Ξ _,λt2 ht2=>⟨B,t2,_,rfl,rfl,SqL.of (ac ht2 (.lst []) _ _ hB2),SqL.of aa,_,rfl,?_⟩⟩
     have p3:=ac ht2 (.lst [])
     have hB3:=p3 _ _ hB2
     cases hbd:eJ rs' rs'.length with
     |nil=>
      rw[hbd]at ft0
      refine av (tnx (nx2 _ _ ⟨_,none,rfl,p3,?_,ft0⟩))
      show Rep _ (.tup [.str "taken",.non]) _
      rw[Rep]
      exact⟨t,_,rfl,p3 _ _ ht1,by simp only[Reps];exact⟨_,_,rfl,by simp only[Rep],_,_,rfl,by simp only[Rep],rfl⟩⟩
     |cons k0' ks'=>
      rw[hbd]at ft0 hB3
      refine au ⟨_,rfl,B,_,0,.int k0',rfl,rfl,SqL.of hB3,ad (j:=0) rfl,z2,λt3 ht3=>⟨z2,λt4 ht4=>gnm ?_⟩⟩
      have p4:=ac ht3 (.tup [.int (k0':Int),.int 0])
      have p5:=ac ht4 (.tup [.str "bind",.ref t3])
      refine nx2 _ _ ⟨_,some k0',rfl,p3.trans (p4.trans p5),?_,ft0⟩
      show Rep _ (.tup [.str "bind",.tup [.int (k0':Int),.int 0]]) _
      rw[Rep]
      refine⟨t4,_,rfl,aa,?_⟩
      simp only[Reps]
      refine⟨_,_,rfl,by simp only[Rep],_,_,rfl,?_,rfl⟩
      rw[Rep]
      exact⟨t3,_,rfl,p5 _ _ aa,by simp only[Reps];exact⟨_,_,rfl,by simp only[Rep],_,_,rfl,by simp only[Rep],rfl⟩⟩
   have Ro':=Ro
   obtain⟨ao,vs5,rfl,hao,r5⟩:=Rep.tup_inv (show Rep H11 (.tup [.str "def",.str f,.tup (ns1.map Dv.str),.tup (ps1.map bX),e]) vo from Ro)
   simp only[Reps]at r5
   obtain⟨w1,_,rfl,Q1,w2,_,rfl,Q2,w3,_,rfl,Q3,w4,_,rfl,Q4,u5,_,rfl,Q5,rfl⟩:=r5
   simp only[Rep]at Q1 Q2
   subst Q1;subst Q2
   obtain⟨b1,ws1,rfl,hb1,Rb1⟩:=Rep.tup_inv Q3
   obtain⟨c1,zs1,rfl,hc1,Rc1⟩:=Rep.tup_inv Q4
   have ew:ws1=ns1.map V.str:=bM Rb1
   subst ew
   have n4:=dS.n4
   have p4:=dS.p4
   refine⟨_,rfl,ao,_,2,.ref b1,rfl,rfl,SqT.of hao,ad (j:=2) rfl,b1,ns1,rfl,.inr (SqT.of hb1),(),λsa zs hsa nd1 mz lz=>⟨sa,zs,rfl,aa,?_⟩⟩
   have sS:=ac hsa (SetO P w sa zs)
   refine⟨_,rfl,ao,_,2,.ref b1,rfl,rfl,SqT.of (sS _ _ hao),ad (j:=2) rfl,b1,_,rfl,.inr (SqT.of (sS _ _ hb1)),_,_,rfl,rfl,_,rfl,?_⟩
   show if (decide ((zs.length:Int)<((ns1.map V.str).length:Nat)))=true then _ else _
   rw[ε,oK nd1 mz]
   generalize eS:upd H11 sa _=H12
   have sS:ae H11 H12:=eS▸sS
   have s2D:=s2B.trans sS
   by_cases n1:ns1.Nodup
   ·rw[Q9 n1]
    have lz1:zs1.length=ps1.length:=by have:=Rc1.length;rwa[ε]at this
    refine av ⟨_,rfl,ao,_,3,.ref c1,rfl,rfl,SqT.of (sS _ _ hao),ad (j:=3) rfl,c1,rfl,⟨zs1,SqT.of (sS _ _ hc1)⟩,dI (xs:=zs1) (λi ys H'=>ae H12 H'/\ys=((ps1.take i).map λp=>(p.2.size:Int)).map V.int) ⟨ae.refl _,rfl⟩ (λi ys H' _ p=>SqT.of (p.1 _ _ (sS _ _ hc1))) ?_ ?_⟩
    ·rintro i' ys H' v hx ⟨s',rfl⟩
     obtain⟨p,hp,Rx⟩:=bi (f:=bX) Rc1 hx
     obtain⟨e',z,rfl,he,Rz⟩:=eh Rx
     have s13:=sS.trans s'
     refine gg (s13 _ _ he) ⟨_,rfl,z,p.2,rfl,Rz.mono s13,(dS.p1 p (Λ hp)).2.1,λH5' s5'=>⟨?_,s'.trans s5',?_⟩⟩
     ·rw[ε,ε,Φ,ω];omega
     ·rw[ϗ,hp,τ,τ];rfl
    ·rintro ys H' ⟨s',rfl⟩ lm hlm
     rw[lz1,ϔ]
     have s2E:=(s2D.trans s').trans (ac hlm (.lst ((ps1.map λp=>(p.2.size:Int)).map V.int)))
     have sE:=(sS.trans s').trans (ac hlm (.lst ((ps1.map λp=>(p.2.size:Int)).map V.int)))
     refine⟨lm,_,rfl,SqL.of aa,λmx mxu _=>⟨_,_,rfl,rfl,_,rfl,?_⟩⟩
     generalize upd H' lm (.lst ((ps1.map λp=>(p.2.size:Int)).map V.int))=HL at s2E sE⊢
     refine aF (λ_=>?_) (λh12=>?_)
     ·exact⟨_,rfl,_,rfl,R,us,j,us[j],rfl,rfl,SqL.of (s2E _ _ W.at_),ad hv,gnm (nx _ _ ⟨us[j],ns',ps,rfl,s2E,Rv.mono s2E,dn⟩)⟩
     ·have h12:mx<=12:=Int.not_lt.mp λz=>h12 (Q9 z)
      refine tnx (nx _ _ ⟨_,ns1,ps1,rfl,s2E,Ro'.mono sE,dn.f1,n1,dS.n1,dS.n4,dS.p0,λp hp=>⟨(dS.p1 p hp).1,?_,(dS.p1 p hp).2.2⟩,dS.p4,dn.e1⟩)
      have:=mxu (p.2.size:Int) (Ζ.mpr ⟨p,hp,rfl⟩)
      omega
   ·rw[Q8 n1]
    exact au (au ⟨_,rfl,_,rfl,R,us,j,us[j],rfl,rfl,SqL.of (s2D _ _ W.at_),ad hv,gnm (nx _ _ ⟨us[j],ns',ps,rfl,s2D,Rv.mono s2D,dn⟩)⟩)
 intro σ H1 _
 exact hX _ _ (q H1)
open PySem L2 KB XB L2.EX
theorem us1{p:List δ->Prop}(h:∀x0,p [x0]):∀us:List δ,us.length=1->p us
 |[x0],_=>h x0
theorem us2{p:List δ->Prop}(h:∀x0 x1,p [x0,x1]):∀us:List δ,us.length=2->p us
 |[x0,x1],_=>h x0 x1
theorem us3{p:List δ->Prop}(h:∀x0 x1 x2,p [x0,x1,x2]):∀us:List δ,us.length=3->p us
 |[x0,x1,x2],_=>h x0 x1 x2
structure Df(K:ζ)(x:Str)(st:Stmt)(f:Addr)(fd:Ο):Prop where
 a:Τ K mainGlobals x=some (some (.ref f))
 F:Fun K x x st f fd
theorem df_mk{K:ζ}{x:Str}{st:Stmt}{f:Addr}{oc:δ}{od an:Option Addr}{osl:Array (Option δ)}{kV doc pm cdv ct:δ}(a:Τ K mainGlobals x=some (some (.ref f)))(l:K.lookup f=some ⟨oc,od,.func (q_ x x (bW st) (bC st) (ag st) .none kV doc pm an cdv ct),osl⟩)
  (c:DI K cdv x=true) (k:v_ K (.ref f)=true):Df K x st f (q_ x x (bW st) (bC st) (ag st) .none kV doc pm an cdv ct):=⟨a,AA l c k⟩
theorem Df.d{P:Α}{w:Υ}{K:ζ}{mg:Str->Option δ}{base h:Heap}{x:Str}{st:Stmt}{f:Addr}{fd:Ο}{k:Nat}{ps:List Str}{sp:Sp}(d:Df K x st f fd)(X:K.In h)(G:h.Ns mainGlobals mg)(b:cf K fd ps [])(F:aG P w K mg base CX0 k f fd ps sp):Def P w K mg base k x ps sp:=⟨f,fd,F,b,d.F.kp,ώ X G d.a⟩
theorem Df.x{P:Α}{w:Υ}{K:ζ}{mg:Str->Option δ}{base h:Heap}{x:Str}{st:Stmt}{f:Addr}{fd:Ο}{k:Nat}{ps:List Str}{sp:Sp}(d:Df K x st f fd)(X:K.In h)(G:h.Ns mainGlobals mg)(b:cf K fd ps [])(F:aG P w K mg base (CXe P w) k f fd ps sp):uG P w K mg base k x ps sp:=⟨f,fd,F,b,d.F.kp,ώ X G d.a⟩
theorem all_mk{l:Gf}{w:Υ}{K:ζ}{h:Heap}{mg:Str->Option δ}{fa f1 f2 f3 f4 f5 f6 f7 f8 f9 f10 f11 f12 f13 f14 f15 f16 f17 f18 f19 f20 f21 f22 f23 f24 f25 f26 f27 f28 f29 f30 f31 f32 f33 f34 f35 f36 f37 f38 f39 f40 f41 f42 f43 f44 f45 f46 f47 f48:Addr}{g1 g2 g3 g4 g5 g6 g7 g8 g9 g10 g11 g12 g13 g14 g15 g16 g17 g18 g19 g20 g21 g22 g23 g24 g25 g26 g27 g28 g29 g30 g31 g32 g33 g34 g35 g36 g37 g38 g39 g40 g41 g42 g43 g44 g45 g46 g47 g48:Ο}(X:K.In h)(G:h.Ns mainGlobals mg)(hfa:mg "law"=some (.ref fa))
  (d1:Df K "is_whole" eY f1 g1)
  (d2:Df K "is_name" hJ f2 g2)
  (d3:Df K "is_part" gG f3 g3)
  (d4:Df K "are_parts" dP f4 g4)
  (d5:Df K "is_length" dD f5 g5)
  (d6:Df K "is_small_length" fk f6 g6)
  (d7:Df K "has_word" fC f7 g7)
  (d8:Df K "is_point" fo f8 g8)
  (d9:Df K "things_of" bY f9 g9)
  (d10:Df K "is_kind" gT f10 g10)
  (d11:Df K "is_below" fv f11 g11)
  (d12:Df K "is_def_name" cR f12 g12)
  (d13:Df K "is_few" jY f13 g13)
  (d14:Df K "fits" qr f14 g14)
  (d15:Df K "is_node" hV f15 g15)
  (d16:Df K "parts_of" eX f16 g16)
  (d17:Df K "is_expression" gN f17 g17)
  (d18:Df K "length_at" dC f18 g18)
  (d19:Df K "in_order" fb f19 g19)
  (d20:Df K "points_of" dR f20 g20)
  (d21:Df K "are_names" el f21 g21)
  (d22:Df K "is_param" fg f22 g22)
  (d23:Df K "are_params" db f23 g23)
  (d24:Df K "is_row" jp f24 g24)
  (d25:Df K "is_twice" eV f25 g25)
  (d26:Df K "unbound" gO f26 g26)
  (d27:Df K "may_stand" cM f27 g27)
  (d28:Df K "are_bound" dX f28 g28)
  (d29:Df K "hold_rows" dF f29 g29)
  (d30:Df K "hold_once" dM f30 g30)
  (d31:Df K "hold_bound" di f31 g31)
  (d32:Df K "checked" gX f32 g32)
  (d33:Df K "_law_draws" lF f33 g33)
  (d34:Df K "_law_next" mS f34 g34)
  (d35:Df K "_law_names" lO f35 g35)
  (d36:Df K "_law_expression" dh f36 g36)
  (d37:Df K "_law_sum" vi f37 g37)
  (d38:Df K "_law_bound_kinds" bV f38 g38)
  (d39:Df K "_law_def" vG f39 g39)
  (d40:Df K "_law_program" gL f40 g40)
  (d41:Df K "_law_lengths" ia f41 g41)
  (d42:Df K "_law_binds" iP f42 g42)
  (d43:Df K "_law_other_length" qg f43 g43)
  (d44:Df K "_law_other_kind" lJ f44 g44)
  (d45:Df K "_law_size" qE f45 g45)
  (d46:Df K "_law_spoilt" fY f46 g46)
  (d47:Df K "_law_refused" gU f47 g47)
  (d48:Df K "law" jX f48 g48)
  (z1:Τ K mainGlobals "len"=some none)
  (z2:Τ K mainGlobals "isinstance"=some none)
  (z3:Τ K mainGlobals "int"=some none)
  (z4:Τ K mainGlobals "bool"=some none)
  (z5:Τ K mainGlobals "str"=some none)
  (z6:Τ K mainGlobals "tuple"=some none)
  (z7:Τ K mainGlobals "list"=some none)
  (z8:Τ K mainGlobals "all"=some none)
  (z9:Τ K mainGlobals "zip"=some none)
  (z10:Τ K mainGlobals "range"=some none)
  (z11:Τ K mainGlobals "enumerate"=some none)
  (z12:Τ K mainGlobals "max"=some none)
  (z13:Τ K mainGlobals "set"=some none)
  (z14:Τ K mainGlobals "sorted"=some none)
  (z15:Τ K mainGlobals "reversed"=some none)
  (z16:Τ K mainGlobals "any"=some none)
  (z17:Τ K mainGlobals "ValueError"=some none)
  (z18:Τ K mainGlobals "dict"=some none)
  (z19:Τ K mainGlobals "sum"=some none)
  (z20:Τ K mainGlobals "min"=some none)
  {tg0 tg1 tg2 tg3 tg4 tg5 tg6 tg7:Tok}
  (zg0:Τ K mainGlobals "LONGEST_NAME"=some (some (.int 8 tg0)))
  (zg1:Τ K mainGlobals "GREATEST_SIZE"=some (some (.int 12 tg1)))
  (zg2:Τ K mainGlobals "GREATEST_NUMBER"=some (some (.int 99 tg2)))
  (zg3:Τ K mainGlobals "WHOLE_BOUND"=some (some (.int 1000000000000 tg3)))
  (zg4:Τ K mainGlobals "MOST_NODES"=some (some (.int 40 tg4)))
  (zg5:Τ K mainGlobals "MOST_ABOVE"=some (some (.int 7 tg5)))
  (zg6:Τ K mainGlobals "MOST_THINGS"=some (some (.int 4 tg6)))
  (zg7:Τ K mainGlobals "MOST_ROWS"=some (some (.int 12 tg7)))
  {gR:Addr} {odR:Option Addr} {nR:Nat} {slR:Array (Option δ)} {tr0 tr1 tr2 tr3 tr4:Tok}
  (zR:Τ K mainGlobals "RECKONS"=some (some (.ref gR)))
  (lR:K.lookup gR=some ⟨.type "tuple",odR,.seq #[.str "plus" tr0,.str "minus" tr1,.str "times" tr2,.str "less" tr3,.str "same" tr4] nR,slR⟩)
  {gS:Addr}
  (zS:Τ K mainGlobals "SHAPES"=some (some (.ref gS)))
  (sS:XB.Shp l.prog w K gS)
  {D fI gI aNoBind aNoProgram aTwice aNoName aUnlike aParts aTooGreat aTooLong aNoValue aNoWords aNoLine:Addr}
  {ocI kVI dcI pmI cdI ctI ocg:δ} {odI anI odg:Option Addr} {slI slg:Array (Option δ)} {ng:Nat}
  (lI:K.lookup fI=some ⟨ocI,odI,.func (q_ "__init__" "IndexwiseError.__init__" (bW eI) (bC eI) (ag eI) (.ref gI) kVI dcI pmI anI cdI ctI),slI⟩)
  (cI:DI K cdI "IndexwiseError.__init__"=true) (lgI:K.lookup gI=some ⟨ocg,odg,.seq #[.none] ng,slg⟩) (tI:PySem.W.typeIn K (.ref fI)=some (.type "function"))
  {nmD qD:Str} {ND:Addr} {bsD subD:List δ} {snD:List Str} {abD:Bool} {colD:Option Bool} {ddD:Option Addr} {j0D j1D j2D j3D j5D:Option δ}
  (oD:Τ K mainGlobals "IndexwiseError"=some (some (.ref D)))
  (xD:K.lookup D=some (excClassObj nmD qD D ND bsD veM true snD subD abD colD ddD j0D j1D j2D j3D j5D "ValueError.__new__"))
  {nmNoBind qNoBind:Str} {NNoBind:Addr} {bsNoBind subNoBind:List δ} {snNoBind:List Str} {abNoBind:Bool} {colNoBind:Option Bool} {ddNoBind:Option Addr} {j0NoBind j1NoBind j2NoBind j3NoBind j5NoBind:Option δ}
  (oNoBind:Τ K mainGlobals "NoBind"=some (some (.ref aNoBind)))
  (xNoBind:K.lookup aNoBind=some (excClassObj nmNoBind qNoBind aNoBind NNoBind bsNoBind (.ref D::veM) true snNoBind subNoBind abNoBind colNoBind ddNoBind j0NoBind j1NoBind j2NoBind j3NoBind j5NoBind "ValueError.__new__"))
  {nmNoProgram qNoProgram:Str} {NNoProgram:Addr} {bsNoProgram subNoProgram:List δ} {snNoProgram:List Str} {abNoProgram:Bool} {colNoProgram:Option Bool} {ddNoProgram:Option Addr} {j0NoProgram j1NoProgram j2NoProgram j3NoProgram j5NoProgram:Option δ}
  (oNoProgram:Τ K mainGlobals "NoProgram"=some (some (.ref aNoProgram)))
  (xNoProgram:K.lookup aNoProgram=some (excClassObj nmNoProgram qNoProgram aNoProgram NNoProgram bsNoProgram (.ref D::veM) true snNoProgram subNoProgram abNoProgram colNoProgram ddNoProgram j0NoProgram j1NoProgram j2NoProgram j3NoProgram j5NoProgram "ValueError.__new__"))
  {nmTwice qTwice:Str} {NTwice:Addr} {bsTwice subTwice:List δ} {snTwice:List Str} {abTwice:Bool} {colTwice:Option Bool} {ddTwice:Option Addr} {j0Twice j1Twice j2Twice j3Twice j5Twice:Option δ}
  (oTwice:Τ K mainGlobals "Twice"=some (some (.ref aTwice)))
  (xTwice:K.lookup aTwice=some (excClassObj nmTwice qTwice aTwice NTwice bsTwice (.ref D::veM) true snTwice subTwice abTwice colTwice ddTwice j0Twice j1Twice j2Twice j3Twice j5Twice "ValueError.__new__"))
  {nmNoName qNoName:Str} {NNoName:Addr} {bsNoName subNoName:List δ} {snNoName:List Str} {abNoName:Bool} {colNoName:Option Bool} {ddNoName:Option Addr} {j0NoName j1NoName j2NoName j3NoName j5NoName:Option δ}
  (oNoName:Τ K mainGlobals "NoName"=some (some (.ref aNoName)))
  (xNoName:K.lookup aNoName=some (excClassObj nmNoName qNoName aNoName NNoName bsNoName (.ref D::veM) true snNoName subNoName abNoName colNoName ddNoName j0NoName j1NoName j2NoName j3NoName j5NoName "ValueError.__new__"))
  {nmUnlike qUnlike:Str} {NUnlike:Addr} {bsUnlike subUnlike:List δ} {snUnlike:List Str} {abUnlike:Bool} {colUnlike:Option Bool} {ddUnlike:Option Addr} {j0Unlike j1Unlike j2Unlike j3Unlike j5Unlike:Option δ}
  (oUnlike:Τ K mainGlobals "Unlike"=some (some (.ref aUnlike)))
  (xUnlike:K.lookup aUnlike=some (excClassObj nmUnlike qUnlike aUnlike NUnlike bsUnlike (.ref D::veM) true snUnlike subUnlike abUnlike colUnlike ddUnlike j0Unlike j1Unlike j2Unlike j3Unlike j5Unlike "ValueError.__new__"))
  {nmParts qParts:Str} {NParts:Addr} {bsParts subParts:List δ} {snParts:List Str} {abParts:Bool} {colParts:Option Bool} {ddParts:Option Addr} {j0Parts j1Parts j2Parts j3Parts j5Parts:Option δ}
  (oParts:Τ K mainGlobals "Parts"=some (some (.ref aParts)))
  (xParts:K.lookup aParts=some (excClassObj nmParts qParts aParts NParts bsParts (.ref D::veM) true snParts subParts abParts colParts ddParts j0Parts j1Parts j2Parts j3Parts j5Parts "ValueError.__new__"))
  {nmTooGreat qTooGreat:Str} {NTooGreat:Addr} {bsTooGreat subTooGreat:List δ} {snTooGreat:List Str} {abTooGreat:Bool} {colTooGreat:Option Bool} {ddTooGreat:Option Addr} {j0TooGreat j1TooGreat j2TooGreat j3TooGreat j5TooGreat:Option δ}
  (oTooGreat:Τ K mainGlobals "TooGreat"=some (some (.ref aTooGreat)))
  (xTooGreat:K.lookup aTooGreat=some (excClassObj nmTooGreat qTooGreat aTooGreat NTooGreat bsTooGreat (.ref D::veM) true snTooGreat subTooGreat abTooGreat colTooGreat ddTooGreat j0TooGreat j1TooGreat j2TooGreat j3TooGreat j5TooGreat "ValueError.__new__"))
  {nmTooLong qTooLong:Str} {NTooLong:Addr} {bsTooLong subTooLong:List δ} {snTooLong:List Str} {abTooLong:Bool} {colTooLong:Option Bool} {ddTooLong:Option Addr} {j0TooLong j1TooLong j2TooLong j3TooLong j5TooLong:Option δ}
  (oTooLong:Τ K mainGlobals "TooLong"=some (some (.ref aTooLong)))
  (xTooLong:K.lookup aTooLong=some (excClassObj nmTooLong qTooLong aTooLong NTooLong bsTooLong (.ref D::veM) true snTooLong subTooLong abTooLong colTooLong ddTooLong j0TooLong j1TooLong j2TooLong j3TooLong j5TooLong "ValueError.__new__"))
  {nmNoValue qNoValue:Str} {NNoValue:Addr} {bsNoValue subNoValue:List δ} {snNoValue:List Str} {abNoValue:Bool} {colNoValue:Option Bool} {ddNoValue:Option Addr} {j0NoValue j1NoValue j2NoValue j3NoValue j5NoValue:Option δ}
  (oNoValue:Τ K mainGlobals "NoValue"=some (some (.ref aNoValue)))
  (xNoValue:K.lookup aNoValue=some (excClassObj nmNoValue qNoValue aNoValue NNoValue bsNoValue (.ref D::veM) true snNoValue subNoValue abNoValue colNoValue ddNoValue j0NoValue j1NoValue j2NoValue j3NoValue j5NoValue "ValueError.__new__"))
  {nmNoWords qNoWords:Str} {NNoWords:Addr} {bsNoWords subNoWords:List δ} {snNoWords:List Str} {abNoWords:Bool} {colNoWords:Option Bool} {ddNoWords:Option Addr} {j0NoWords j1NoWords j2NoWords j3NoWords j5NoWords:Option δ}
  (oNoWords:Τ K mainGlobals "NoWords"=some (some (.ref aNoWords)))
  (xNoWords:K.lookup aNoWords=some (excClassObj nmNoWords qNoWords aNoWords NNoWords bsNoWords (.ref D::veM) true snNoWords subNoWords abNoWords colNoWords ddNoWords j0NoWords j1NoWords j2NoWords j3NoWords j5NoWords "ValueError.__new__"))
  {nmNoLine qNoLine:Str} {NNoLine:Addr} {bsNoLine subNoLine:List δ} {snNoLine:List Str} {abNoLine:Bool} {colNoLine:Option Bool} {ddNoLine:Option Addr} {j0NoLine j1NoLine j2NoLine j3NoLine j5NoLine:Option δ}
  (oNoLine:Τ K mainGlobals "NoLine"=some (some (.ref aNoLine)))
  (xNoLine:K.lookup aNoLine=some (excClassObj nmNoLine qNoLine aNoLine NNoLine bsNoLine (.ref D::veM) true snNoLine subNoLine abNoLine colNoLine ddNoLine j0NoLine j1NoLine j2NoLine j3NoLine j5NoLine "ValueError.__new__"))
  (inNoBind:y_ K (.ref aNoBind) "__init__"=some (some (.ref fI)))
  (saNoBind:y_ K (.ref aNoBind) "__setattr__"=some (some (.builtin "object.__setattr__")))
  (plNoBind:y_ K (.ref aNoBind) "place"=some none)
  (gaNoBind:y_ K (.ref aNoBind) "__getattribute__"=some (some (.builtin "BaseException.__getattribute__")))
  (ghNoBind:y_ K (.ref aNoBind) "__getattr__"=some none)
  (clNoBind:y_ K (.ref aNoBind) "__class__"=some (some (.builtin "object.__class__")))
  (kpNoBind:v_ K (.ref aNoBind)=true)
  (ndC:(D::[aNoBind,aNoProgram,aTwice,aNoName,aUnlike,aParts,aTooGreat,aTooLong,aNoValue,aNoWords,aNoLine]).Nodup)
  :
  ∃fd:Ο,(∀(s:η)(v:δ),Gw s fd ⟨[v],[]⟩ [("_law_script",v)])/\∀base:Heap,K.In base->base.Ns mainGlobals mg->aG l.prog w K mg base CX0 15 fa fd ["_law_script"] (rH K):=by
 have e:=hfa.symm.trans (ώ X G d48.a)
 cases e
 have T:Txt K mg:=⟨ϐ X G z1,ϐ X G z2,ϐ X G z3,ϐ X G z4,ϐ X G z5,ϐ X G z6,ϐ X G z7,ϐ X G z8,ϐ X G z9,ϐ X G z10,ϐ X G z11,ϐ X G z12,ϐ X G z13,ϐ X G z14,ϐ X G z15,ϐ X G z16,ϐ X G z17,ϐ X G z18,ϐ X G z19,ϐ X G z20,⟨tg0,ώ X G zg0⟩,⟨tg1,ώ X G zg1⟩,⟨tg2,ώ X G zg2⟩,⟨tg3,ώ X G zg3⟩,⟨tg4,ώ X G zg4⟩,⟨tg5,ώ X G zg5⟩,⟨tg6,ώ X G zg6⟩,⟨tg7,ώ X G zg7⟩⟩
 have b1:=d1.F.binds (ps:=["thing"]) λ_ _ _ _ _ _=>us1 λ_=>rfl
 have b2:=d2.F.binds (ps:=["thing"]) λ_ _ _ _ _ _=>us1 λ_=>rfl
 have b3:=d3.F.binds (ps:=["thing"]) λ_ _ _ _ _ _=>us1 λ_=>rfl
 have b4:=d4.F.binds (ps:=["thing"]) λ_ _ _ _ _ _=>us1 λ_=>rfl
 have b5:=d5.F.binds (ps:=["thing"]) λ_ _ _ _ _ _=>us1 λ_=>rfl
 have b6:=d6.F.binds (ps:=["thing"]) λ_ _ _ _ _ _=>us1 λ_=>rfl
 have b7:=d7.F.binds (ps:=["thing"]) λ_ _ _ _ _ _=>us1 λ_=>rfl
 have b8:=d8.F.binds (ps:=["thing"]) λ_ _ _ _ _ _=>us1 λ_=>rfl
 have b9:=d9.F.binds (ps:=["point"]) λ_ _ _ _ _ _=>us1 λ_=>rfl
 have b10:=d10.F.binds (ps:=["thing"]) λ_ _ _ _ _ _=>us1 λ_=>rfl
 have b11:=d11.F.binds (ps:=["thing","bound"]) λ_ _ _ _ _ _=>us2 λ_ _=>rfl
 have b12:=d12.F.binds (ps:=["thing"]) λ_ _ _ _ _ _=>us1 λ_=>rfl
 have b13:=d13.F.binds (ps:=["thing","least"]) λ_ _ _ _ _ _=>us2 λ_ _=>rfl
 have b14:=d14.F.binds (ps:=["sort","thing"]) λ_ _ _ _ _ _=>us2 λ_ _=>rfl
 have b15:=d15.F.binds (ps:=["thing"]) λ_ _ _ _ _ _=>us1 λ_=>rfl
 have b16:=d16.F.binds (ps:=["node"]) λ_ _ _ _ _ _=>us1 λ_=>rfl
 have b17:=d17.F.binds (ps:=["thing"]) λ_ _ _ _ _ _=>us1 λ_=>rfl
 have b18:=d18.F.binds (ps:=["point"]) λ_ _ _ _ _ _=>us1 λ_=>rfl
 have b19:=d19.F.binds (ps:=["whole","parts_of"]) λ_ _ _ _ _ _=>us2 λ_ _=>rfl
 have b20:=d20.F.binds (ps:=["kind"]) λ_ _ _ _ _ _=>us1 λ_=>rfl
 have b21:=d21.F.binds (ps:=["thing"]) λ_ _ _ _ _ _=>us1 λ_=>rfl
 have b22:=d22.F.binds (ps:=["thing"]) λ_ _ _ _ _ _=>us1 λ_=>rfl
 have b23:=d23.F.binds (ps:=["thing"]) λ_ _ _ _ _ _=>us1 λ_=>rfl
 have b24:=d24.F.binds (ps:=["thing"]) λ_ _ _ _ _ _=>us1 λ_=>rfl
 have b25:=d25.F.binds (ps:=["things"]) λ_ _ _ _ _ _=>us1 λ_=>rfl
 have b26:=d26.F.binds (ps:=["length","bound"]) λ_ _ _ _ _ _=>us2 λ_ _=>rfl
 have b27:=d27.F.binds (ps:=["point","fresh","names"]) λ_ _ _ _ _ _=>us3 λ_ _ _=>rfl
 have b28:=d28.F.binds (ps:=["names","params"]) λ_ _ _ _ _ _=>us2 λ_ _=>rfl
 have b29:=d29.F.binds (ps:=["rows"]) λ_ _ _ _ _ _=>us1 λ_=>rfl
 have b30:=d30.F.binds (ps:=["rows"]) λ_ _ _ _ _ _=>us1 λ_=>rfl
 have b31:=d31.F.binds (ps:=["rows"]) λ_ _ _ _ _ _=>us1 λ_=>rfl
 have b32:=d32.F.binds (ps:=["thing"]) λ_ _ _ _ _ _=>us1 λ_=>rfl
 have b33:=d33.F.binds (ps:=["_law_cells","_law_many"]) λ_ _ _ _ _ _=>us2 λ_ _=>rfl
 have b34:=d34.F.binds (ps:=["_law_draws_here"]) λ_ _ _ _ _ _=>us1 λ_=>rfl
 have b35:=d35.F.binds (ps:=["_law_cell"]) λ_ _ _ _ _ _=>us1 λ_=>rfl
 have b36:=d36.F.binds (ps:=["_law_draws_here","_law_names_here"]) λ_ _ _ _ _ _=>us2 λ_ _=>rfl
 have b37:=d37.F.binds (ps:=["_law_draws_here","_law_told","_law_new"]) λ_ _ _ _ _ _=>us3 λ_ _ _=>rfl
 have b38:=d38.F.binds (ps:=["_law_order","_law_draws_here"]) λ_ _ _ _ _ _=>us2 λ_ _=>rfl
 have b39:=d39.F.binds (ps:=["_law_f","_law_draws_here","_law_names_here"]) λ_ _ _ _ _ _=>us3 λ_ _ _=>rfl
 have b40:=d40.F.binds (ps:=["_law_script","_law_names_here"]) λ_ _ _ _ _ _=>us2 λ_ _=>rfl
 have b41:=d41.F.binds (ps:=["_law_kind"]) λ_ _ _ _ _ _=>us1 λ_=>rfl
 have b42:=d42.F.binds (ps:=["_law_row"]) λ_ _ _ _ _ _=>us1 λ_=>rfl
 have b43:=d43.F.binds (ps:=["_law_length","_law_cell","_law_names_here"]) λ_ _ _ _ _ _=>us3 λ_ _ _=>rfl
 have b44:=d44.F.binds (ps:=["_law_kind","_law_cell","_law_names_here"]) λ_ _ _ _ _ _=>us3 λ_ _ _=>rfl
 have b45:=d45.F.binds (ps:=["_law_kind"]) λ_ _ _ _ _ _=>us1 λ_=>rfl
 have b46:=d46.F.binds (ps:=["_law_row","_law_cell","_law_names_here"]) λ_ _ _ _ _ _=>us3 λ_ _ _=>rfl
 have b47:=d47.F.binds (ps:=["_law_thing"]) λ_ _ _ _ _ _=>us1 λ_=>rfl
 obtain⟨_,_,kV,doc,pm,an,cdv,ct,_,rfl,_⟩:=id d48.F.ex
 refine⟨q_ "law" "law" (bW jX) (bC jX) (ag jX) .none kV doc pm an cdv ct,λs v=>.of_eq rfl,λbase _ _=>?_⟩
 have hRK:∀H,SqT K H gR (vW.map V.str):=λH=>.inr ⟨_,_,_,lR,rfl,rfl,(by show 5<=sizeLine;rw[ω];decide),.cons ⟨_,rfl⟩ (.cons ⟨_,rfl⟩ (.cons ⟨_,rfl⟩ (.cons ⟨_,rfl⟩ (.cons ⟨_,rfl⟩ .nil))))⟩
 have D1:=d1.d X G b1 (pC d1.F T (P:=l.prog) (w:=w) (base:=base))
 have D2:=d2.d X G b2 (pT d2.F T (P:=l.prog) (w:=w) (base:=base))
 have D3:=d3.d X G b3 (qC (k:=1) d3.F T (D1.up ()) (D2.up ()))
 have D4:=d4.d X G b4 (mr (k:=2) d4.F T (D3.up ()))
 have D5:=d5.d X G b5 (mY (k:=3) d5.F T (D1.up ()) (D4.up ()))
 have D6:=d6.d X G b6 (oC (k:=4) d6.F T (D5.up ()))
 have D7:=d7.d X G b7 (nv d7.F T (P:=l.prog) (w:=w) (base:=base))
 have D8:=d8.d X G b8 (nV (k:=5) d8.F T (D7.up ()) (D6.up ()))
 have D9:=d9.d X G b9 (pO (P:=l.prog) (w:=w) (base:=base) d9.F T)
 have D10:=d10.d X G b10 (qw (k:=6) d10.F T (D8.up ()) (D9.up ()))
 have D11:=d11.d X G b11 (pi (k:=1) d11.F T (D1.up ()))
 have D13:=d13.d X G b13 (uK d13.F T (P:=l.prog) (w:=w) (base:=base))
 have D12:=d12.d X G b12 (jd (k:=1) d12.F T sS (ώ X G zS) (ώ X G zR) hRK (D2.up ()))
 have D14:=d14.d X G b14 (yT (k:=7) d14.F T (ώ X G zR) hRK (D11.up ()) (D2.up ()) (D6.up ()) (D10.up ()) (D12.up ()) (D13.up ()))
 have D15:=d15.d X G b15 (qM (k:=8) d15.F T sS (ώ X G zS) (D7.up ()) (D14.up ()))
 have D16:=d16.d X G b16 (oO d16.F T sS (ώ X G zS) (P:=l.prog) (w:=w) (base:=base))
 have D17:=d17.d X G b17 (qS (k:=9) d17.F T (D15.up ()) (D16.up ()))
 have D18:=d18.d X G b18 (lU d18.F T (P:=l.prog) (w:=w) (base:=base))
 have D19:=d19.d X G b19 (nS (k0:=1) d19.F T (mU (P:=l.prog) (w:=w) (base:=base) d9.F T) d9.F.kp b9)
 have D20:=d20.d X G b20 (mo (k0:=2) d20.F T D19 (ώ X G d9.a))
 have D21:=d21.d X G b21 (lV (k:=1) d21.F T (D13.up ()) (D2.up ()))
 have D22:=d22.d X G b22 (pG (k:=7) d22.F T (D2.up ()) (D10.up ()))
 have D23:=d23.d X G b23 (ki (k:=8) d23.F T (D13.up ()) (D22.up ()))
 have D24:=d24.d X G b24 (tT (k:=10) d24.F T (D7.up ()) (D17.up ()) (D12.up ()) (D21.up ()) (D23.up ()))
 have D25:=d25.d X G b25 (om d25.F T (P:=l.prog) (w:=w) (base:=base))
 have D26:=d26.d X G b26 (qt d26.F T (P:=l.prog) (w:=w) (base:=base))
 have D27:=d27.d X G b27 (mh d27.F T (P:=l.prog) (w:=w) (base:=base))
 have D28:=d28.d X G b28 (lW (k:=3) d28.F T (D20.up ()) (D18.up ()) (D26.up ()) (D27.up ()))
 have FxI:uH K "__init__" "IndexwiseError.__init__" eI fI _ (.ref gI):=⟨⟨_,_,_,_,_,_,_,_,_,rfl,lI,cI⟩⟩
 have BI:=FxI.binds (ps:=["self","place"]) (ds:=[]) lgI rfl λ_ _ _ _ _ _ us hl=>match us,(show us.length=2 by simpa using hl)with| [_,_],_=>⟨_,rfl,rfl⟩
 have FI:aG l.prog w K mg base CX0 1 fI _ ["self","place"] (mV K D fI):=vy FxI T
 have ndA:=m9.mp ndC
 have neD:∀b∈[aNoBind,aNoProgram,aTwice,aNoName,aUnlike,aParts,aTooGreat,aTooLong,aNoValue,aNoWords,aNoLine],b≠D:=λb hb z=>ndA.1 (z▸hb)
 have CNoBind:gZ K D fI aNoBind:=⟨⟨_,_,_,_,_,_,_,_,_,_,_,_,_,_,xNoBind⟩,inNoBind,tI,saNoBind,plNoBind,gaNoBind,ghNoBind,clNoBind,kpNoBind,neD _ ()⟩
 have Er:Cb K mg D fI aNoBind aNoProgram aTwice aNoName aUnlike aParts aTooGreat aTooLong aNoValue aNoWords aNoLine:=⟨⟨_,_,_,_,_,_,_,_,_,_,_,_,_,_,xD⟩,ώ X G oD,CNoBind,λb hb=>by
  simp only[μ,g_,or_false]at hb
  rcases hb with rfl|rfl|rfl|rfl|rfl|rfl|rfl|rfl|rfl|rfl
  ·exact⟨⟨_,_,_,_,_,_,_,_,_,_,_,_,_,_,xNoProgram⟩,neD _ ()⟩
  ·exact⟨⟨_,_,_,_,_,_,_,_,_,_,_,_,_,_,xTwice⟩,neD _ ()⟩
  ·exact⟨⟨_,_,_,_,_,_,_,_,_,_,_,_,_,_,xNoName⟩,neD _ ()⟩
  ·exact⟨⟨_,_,_,_,_,_,_,_,_,_,_,_,_,_,xUnlike⟩,neD _ ()⟩
  ·exact⟨⟨_,_,_,_,_,_,_,_,_,_,_,_,_,_,xParts⟩,neD _ ()⟩
  ·exact⟨⟨_,_,_,_,_,_,_,_,_,_,_,_,_,_,xTooGreat⟩,neD _ ()⟩
  ·exact⟨⟨_,_,_,_,_,_,_,_,_,_,_,_,_,_,xTooLong⟩,neD _ ()⟩
  ·exact⟨⟨_,_,_,_,_,_,_,_,_,_,_,_,_,_,xNoValue⟩,neD _ ()⟩
  ·exact⟨⟨_,_,_,_,_,_,_,_,_,_,_,_,_,_,xNoWords⟩,neD _ ()⟩
  ·exact⟨⟨_,_,_,_,_,_,_,_,_,_,_,_,_,_,xNoLine⟩,neD _ ()⟩,ώ X G oNoBind,ώ X G oNoProgram,ώ X G oTwice,ώ X G oNoName,ώ X G oUnlike,ώ X G oParts,ώ X G oTooGreat,ώ X G oTooLong,ώ X G oNoValue,ώ X G oNoWords,ώ X G oNoLine,(m9.mp ndA.2).1⟩
 have D29:=d29.d X G b29 (mN (k:=11) d29.F T (D24.up ()))
 have D30:=d30.d X G b30 (lX (k:=1) d30.F T (D25.up ()))
 have D31:=d31.x X G b31 (ko (k:=3) d31.F T CNoBind (ώ X G oNoBind) (FI.mono ()) BI (D28.up ()))
 have Fck:=pK (k:=11) d32.F T (D29.up ()) (D30.up ()) (D31.up ())
 have D47:=d47.d X G b47 (pJ (k:=13) d47.F T Er Fck (ώ X G d32.a) d32.F.kp b32)
 have ch41:∀n,aG l.prog w K mg base CX0 (1+n) f41 _ ["_law_kind"] (mi n):=λn=>by
  induction n with
  |zero=>exact me λvs H Q E h=>by obtain⟨v,k,_,_,z,_⟩:=h;have:=k.size_pos;omega
  |succ n ih=>exact qK (k0:=1+n) d41.F T (d41.d X G b41 ih)
 have D41:=d41.d X G b41 (ch41 12)
 have ch45:∀n,aG l.prog w K mg base CX0 (1+n) f45 _ ["_law_kind"] (ml n):=λn=>by
  induction n with
  |zero=>exact me λvs H Q E h=>by obtain⟨v,k,_,_,z,_⟩:=h;have:=k.size_pos;omega
  |succ n ih=>exact xY (k0:=1+n) d45.F T (d45.d X G b45 ih)
 have D45:=d45.d X G b45 (ch45 13)
 have D42:=d42.d X G b42 (vE (k0:=13) d42.F T (D41.up ()))
 have D43:=d43.d X G b43 (xQ d43.F T (P:=l.prog) (w:=w) (base:=base))
 have ch44:∀n,aG l.prog w K mg base CX0 (1+n) f44 _ ["_law_kind","_law_cell","_law_names_here"] (yJ n):=λn=>by
  induction n with
  |zero=>exact me λvs H Q E h=>by obtain⟨v,k,m,r,xs,_,_,z,_⟩:=h;have:=k.size_pos;omega
  |succ n ih=>exact vC (k0:=1+n) d44.F T (D43.up ()) (d44.d X G b44 ih)
 have D44:=d44.d X G b44 (ch44 12)
 have D46:=d46.d X G b46 (tL (k0:=13) d46.F T (D44.up ()))
 have D33:=d33.d X G b33 (uY d33.F T (P:=l.prog) (w:=w) (base:=base))
 have D34:=d34.d X G b34 (yw d34.F T (P:=l.prog) (w:=w) (base:=base))
 have D35:=d35.d X G b35 (vI d35.F T (P:=l.prog) (w:=w) (base:=base))
 have D36:=d36.d X G b36 (kh (k:=1) d36.F T (D34.up ()))
 have D37:=d37.d X G b37 (zU (k:=1) d37.F T (D34.up ()))
 have D38:=d38.d X G b38 (jv (k:=2) d38.F T (D34.up ()) (D37.up ()))
 have D39:=d39.d X G b39 (zZ (k:=3) d39.F T (D34.up ()) (D38.up ()) (D36.up ()))
 have D40:=d40.d X G b40 (rc (k:=4) d40.F T (D33.up ()) (D34.up ()) (D36.up ()) (D39.up ()))
 exact AU (k0:=14) d48.F T (D33.up ()) (D34.up ()) (D35.up ()) (D40.up ()) (D47.up ()) (D46.up ()) (D45.up ()) (D42.up ())
theorem walk{l:Gf}{q:Α}{loose:List Str}{XP:(Str->Option δ)->Heap->Prop}{YP:Υ->Heap->Prop}{d:DefRec}{K:Params->ζ}(hn:l.most=some 63)(hdf:d.params.defaults=[])
  (hY:∀(w:Υ)(h:Heap),YP w h->(K w.params).In h)
  (F:∀(w:Υ)(mg:Str->Option δ)(fa:Addr)(h:Heap),(K w.params).In h->h.Ns mainGlobals mg->mg d.name=some (.ref fa) ->
   ∃fd:Ο,(∀(s:η)(u:δ),Gw s fd ⟨[u],[]⟩ [("_law_script",u)])/\∀base:Heap,(K w.params).In base->base.Ns mainGlobals mg->aG l.prog w (K w.params) mg base CX0 15 fa fd ["_law_script"] (rH (K w.params))):
  PySem.W.WalkO q loose XP YP l.row.toRowW d [] (λf vs=>PySem.call f vs):=
 L2.walk_of (n:=63) (k:=15) (x:="_law_script") (CX:=λ_=>CX0) (sp:=λw=>rH (K w.params)) hn () hdf ⟨rfl,(),()⟩ hY F (λ_ _ a ns hl _ hS=>⟨a,ns,rfl,hS,hl,λ_=>rfl⟩) λ_ _ _ _ _ z=>z
end K27
namespace PySem.W.Fast
local macro_rules|`(universe $xs*)=>do return Lean.mkNullNode (←xs.mapM fun x=>`(def $x:ident:=0))
universe tw15266778487685268165 tw17833069103775031047 tw7961913989450834777 tw7755254286461860209 tw4725869968419957026 tw6934588123435375922 tw4085773202666283016 tw12752956983203389940 tw16604856821411668060 tw14692603667218523760 tw11787088403913675619 tw12157338760524070701 tw14078048967770783221 tw8072065282946832663 tw10610730171834733101 tw2083877091218445233 tw6560030838187493391 tw11827820024123559636 tw14054350576711305831 tw3452596875853590365 tw11580145688511119172 tw5796049626792581738 tw13417223795685606683 tw14882702928051179317 tw18067206713803774875 tw15556648838498619270 tw7944090108727921763 tw10786347608527301586 tw12262541195104659873 tw11554703585374291650 tw13494341432052495988 tw7806822657156059693 tw13339675576166307098 tw9562619981968926829 tw5717903987397460499 tw13773080157327545962 tw9495964612921924894 tw7561778446126700667 tw18203263924667496869 tw751062149615412974 tw2070941743994033682 tw13502819653202533980 tw18294225648236399750 tw7887665964747171735 tw660266396628033576 tw16819659921212340813 tw11122610303279791509 tw6510849341582291045 tw13658373892618492916 tw4600994499931356954 tw15544675833181557671 tw10706623781469850285 tw2987087652929831696 tw9161190282222409589 tw2278374059881317309 tw13723234445163992824 tw6464674520975989914 tw11815867535204180817 tw1240766969653184961 tw15875648893523199642 tw3641635319516315399 tw2392070579717745954 tw8529983289683511343 tw7815971207505158472 tw5294761095582596031 tw2571702690272824943 tw11182598211953683772 tw9713895501431391778 tw1453034802223905279 tw910316070639397141 tw11417124570662999110 tw17353830202930345310 tw12513202156804443186 tw3821103878521850439 tw5399710392251708325 tw6988959720600918896 tw5778501825609123872 tw16142893114886879442 tw8784192917896066930 tw13384610559636171151 tw11587017745565937063 tw8296985073321684776 tw3766622942901096593 tw18370590814190194632 tw7865213271973442545 tw10478676707757638595 tw16728767723036365143 tw1586587125068405766 tw867324071343092460 tw1783361107734515092 tw15197314701949175435 tw4413558099101480361 tw16331733507439849748 tw5123095823581258817 tw15312068880826716307 tw3649867261452872461 tw17822117461661954999 tw8525600584924483287 tw2214544135979674819 tw1814578863047987789 tw18259944272973500330 tw9450836696603293305 tw4125703746401640256 tw28408129449867765 tw17097259329459741434 tw2309209635453250598 tw12024004474000492403 tw13722302624896485231 tw4630348243876194707 tw14777728999326415353 tw16408874045932211924 tw7223291214463067328 tw13767297953743356304 tw101824915697632055 tw7121397734999312662 tw6762142580322663793 tw14182688835764159408 tw2386718203848575900 tw8809298432875016235 tw7709695292286179552 tw3750233389821650330 tw7640073727768500321 tw8921478207660620418 tw10455380870849093506 tw8239624188639813079 tw15295071801659919926 tw13096957250723732360 tw4877871490725798235 tw3794908588806750009 tw14570693605480821097 tw5077631026010774574 tw11725141358369221845 tw15540646598126262982 tw5123485576192173528 tw2975017462138944427 tw15646570692038448519 tw3728451415711939684 tw3677257772602508151 tw16966905184336234693 tw1316120750741634167 tw11458263699331653251 tw18270985920604014317 tw15298883197210281074 tw15373606335349299795 tw10582795405793224864 tw10168837176405482495 tw4391046655977775730 tw14875634540718208219 tw8883283313349737851 tw3767278193528260719 tw10796833641536131278 tw13598206926477547262 tw4626798834439935545 tw16329520940935941793 tw5534444776789050492 tw7179707005018335832 tw13148317859545959840 tw12115330946374613873 tw14325555211125024041 tw13203426395350539292 tw2581315423943585763 tw10095002819794095245 tw1313357428899974714 tw14468120550823432273 tw10570526764832600017 tw2593315544957988966 tw519731657829967261 tw15531071977376122394 tw1857667843935143581 tw1900045988986578716 tw3350917629028266474 tw14678564583227975831 tw4920948402297599599 tw12755357094451383882 tw5772361278554838314 tw13474506806755496677 tw7293665122515765356 tw561146932351788986 tw16886932322671566456 tw1964690640531795877 tw7560186317410070363 tw5445957999226337213 tw12755833831142413563 tw15927570443030997205 tw14191914531817803626 tw17746313880832256229 tw16722126302562105761 tw12885096208143990968 tw5736777861463746267 tw954371476528395273 tw17880167488725021983 tw2273248619779476937 tw14879847705671665767 tw16367043900124198406 tw15006737846945255312 tw7538218049848100363 tw15327745855217824227 tw17621512180355731452 tw278566028293224945 tw13844208775855981538 tw10491437782354451959 tw7441973923596477209 tw13861526760429653206 tw5092305760248786558 tw16296726524926481580 tw15529929440849930203 tw11108282809458970170 tw3578302620982110972 tw3281362940558781378 tw6000753193175534350 tw18164104366047543687 tw14431333120098327568 tw14921789332826949550 tw13541898487609286384 tw17904747757355288682 tw10433538353669595398 tw14036020852997194327 tw3610073066536954498 tw4427982836782558030 tw10529912436481433639 tw8072235003538110041 tw10073847831037274925 tw10448761517183395612 tw14923239860814317459 tw1125777453911720917 tw12661397448435589254 tw10581852802169819725 tw15022199339834846535 tw15879041911852180076 tw292222974634591143 tw14476434772399395653 tw1333196625402945030 tw9449669044994047858 tw15345570094248658640 tw10095755195938338138 tw16610131963035635399 tw5594620863828821421 tw7256647554763051342 tw6867147263772391460 tw4157062239742066105 tw11910816803689669910 tw2891515431500732809 tw13158990744349152355 tw3717461856419179338 tw5565900615141812695 tw1661252407430085895 tw11415982043334324069 tw2782269248523827623 tw444851080223097414 tw4111120710340498770 tw8943210496144702087 tw7969467013980497802 tw17730832435298043327 tw9649077154367500892 tw5484023296076133644 tw2711223727905440379 tw266946777036446545 tw11283099282960566302 tw8440611568684688914 tw6140639776382631132 tw17186303661071574762 tw16648972761917925747 tw7467144579789770295 tw11075633712616594128 tw14649301371716811761 tw15884760931100575510 tw5410112421697156163 tw332211631213455341 tw13180357650705593617 tw6106735824290604010 tw13632269843064221327 tw5164656366965199340 tw1011730047824895921 tw12175429687574125822 tw14693599527455072849 tw7355559031777887362 tw15502370876751616292 tw13527532048234678494 tw12844087438841857082 tw9045371449480723183 tw2767379543813928946 tw17271502114703487444 tw1815133134840679009 tw794033577413327421 tw1362099834105179372 tw10318140876406066688 tw7716301265069597003 tw10896461929627562088 tw549900395154328200 tw16458528405602064993 tw10745793788576265149 tw15306468676910935608
end PySem.W.Fast
open PySem PySem.W PyProof.Rows
set_option maxRecDepth 100000 in
set_option maxHeartbeats 0 in
theorem PySem.Challenge.cw_indexwise_k27_names_bound_holds : PySem.Challenge.rw_indexwise_k27_names_bound.Holds := by
 w_on;o_law;k_head;(case hw=>w_witness2)
 k_fill
 refine K27.walk (l := PySem.Challenge.rw_indexwise_k27_names_bound) rfl rfl (λw h Y => PySem.W.kIn_of Y) ?F
 case F=>
  intro w mg fa h KX G hmg
  refine' K27.all_mk KX G hmg ?d1 ?d2 ?d3 ?d4 ?d5 ?d6 ?d7 ?d8 ?d9 ?d10 ?d11 ?d12 ?d13 ?d14 ?d15 ?d16 ?d17 ?d18 ?d19 ?d20 ?d21 ?d22 ?d23 ?d24 ?d25 ?d26 ?d27 ?d28 ?d29 ?d30 ?d31 ?d32 ?d33 ?d34 ?d35 ?d36 ?d37 ?d38 ?d39 ?d40 ?d41 ?d42 ?d43 ?d44 ?d45 ?d46 ?d47 ?d48 ?z1 ?z2 ?z3 ?z4 ?z5 ?z6 ?z7 ?z8 ?z9 ?z10 ?z11 ?z12 ?z13 ?z14 ?z15 ?z16 ?z17 ?z18 ?z19 ?z20 ?zg0 ?zg1 ?zg2 ?zg3 ?zg4 ?zg5 ?zg6 ?zg7 ?zR ?lR ?zS ?sS ?lI ?cI ?lgI ?tI ?oD ?xD ?oNoBind ?xNoBind ?oNoProgram ?xNoProgram ?oTwice ?xTwice ?oNoName ?xNoName ?oUnlike ?xUnlike ?oParts ?xParts ?oTooGreat ?xTooGreat ?oTooLong ?xTooLong ?oNoValue ?xNoValue ?oNoWords ?xNoWords ?oNoLine ?xNoLine ?inNoBind ?saNoBind ?plNoBind ?gaNoBind ?ghNoBind ?clNoBind ?kpNoBind ?ndC
  all_goals try (refine' K27.df_mk ?a ?l ?c ?k;(case a=>k_is);(case l=>k_is);(case c=>k_is);(case k=>k_is))
  (case z1=>k_is);(case z2=>k_is);(case z3=>k_is);(case z4=>k_is);(case z5=>k_is);(case z6=>k_is);(case z7=>k_is);(case z8=>k_is);(case z9=>k_is);(case z10=>k_is);(case z11=>k_is);(case z12=>k_is);(case z13=>k_is);(case z14=>k_is);(case z15=>k_is);(case z16=>k_is);(case z17=>k_is);(case z18=>k_is);(case z19=>k_is);(case z20=>k_is)
  (case zg0=>k_is)
  (case zg1=>k_is)
  (case zg2=>k_is)
  (case zg3=>k_is)
  (case zg4=>k_is)
  (case zg5=>k_is)
  (case zg6=>k_is)
  (case zg7=>k_is)
  (case zR=>k_is)
  (case lR=>k_is)
  (case zS=>k_is)
  (case oD=>k_is)
  (case xD=>k_is)
  (case oNoBind=>k_is)
  (case xNoBind=>k_is)
  (case oNoProgram=>k_is)
  (case xNoProgram=>k_is)
  (case oTwice=>k_is)
  (case xTwice=>k_is)
  (case oNoName=>k_is)
  (case xNoName=>k_is)
  (case oUnlike=>k_is)
  (case xUnlike=>k_is)
  (case oParts=>k_is)
  (case xParts=>k_is)
  (case oTooGreat=>k_is)
  (case xTooGreat=>k_is)
  (case oTooLong=>k_is)
  (case xTooLong=>k_is)
  (case oNoValue=>k_is)
  (case xNoValue=>k_is)
  (case oNoWords=>k_is)
  (case xNoWords=>k_is)
  (case oNoLine=>k_is)
  (case xNoLine=>k_is)
  (case inNoBind=>k_is)
  (case lI=>k_is)
  (case cI=>k_is)
  (case lgI=>k_is)
  (case tI=>k_is)
  (case saNoBind=>k_is)
  (case plNoBind=>k_is)
  (case gaNoBind=>k_is)
  (case ghNoBind=>k_is)
  (case clNoBind=>k_is)
  (case kpNoBind=>k_is)
  (case ndC=>decide)
  case sS=>
   refine' XB.shp_mk ?xShl ?xSlo ?xShe ?xSht
   (case xShl=>k_is)
   (case xSlo=>decide)
   (case xShe=>repeat (first|exact XB.Ents.nil|refine XB.Ents.cons ?_))
   case xSht=>
    refine' (XB.TupsK.cons ?xSa1 ?xSb1 (XB.TupsK.cons ?xSa2 ?xSb2 (XB.TupsK.cons ?xSa3 ?xSb3 (XB.TupsK.cons ?xSa4 ?xSb4 (XB.TupsK.cons ?xSa5 ?xSb5 (XB.TupsK.cons ?xSa6 ?xSb6 (XB.TupsK.cons ?xSa7 ?xSb7 (XB.TupsK.cons ?xSa8 ?xSb8 (XB.TupsK.cons ?xSa9 ?xSb9 (XB.TupsK.cons ?xSa10 ?xSb10 (XB.TupsK.cons ?xSa11 ?xSb11 (XB.TupsK.cons ?xSa12 ?xSb12 (XB.TupsK.cons ?xSa13 ?xSb13 (XB.TupsK.cons ?xSa14 ?xSb14 (XB.TupsK.cons ?xSa15 ?xSb15 (XB.TupsK.cons ?xSa16 ?xSb16 (XB.TupsK.cons ?xSa17 ?xSb17 (XB.TupsK.cons ?xSa18 ?xSb18 (XB.TupsK.cons ?xSa19 ?xSb19 (XB.TupsK.cons ?xSa20 ?xSb20 (XB.TupsK.cons ?xSa21 ?xSb21 (XB.TupsK.cons ?xSa22 ?xSb22 (XB.TupsK.cons ?xSa23 ?xSb23 (XB.TupsK.cons ?xSa24 ?xSb24 (XB.TupsK.cons ?xSa25 ?xSb25 (XB.TupsK.cons ?xSa26 ?xSb26 (XB.TupsK.cons ?xSa27 ?xSb27 XB.TupsK.nil)))))))))))))))))))))))))))
    (case xSa1=>k_is);(case xSb1=>repeat (first|exact XB.AreS.nil|refine XB.AreS.cons ?_))
    (case xSa2=>k_is);(case xSb2=>repeat (first|exact XB.AreS.nil|refine XB.AreS.cons ?_))
    (case xSa3=>k_is);(case xSb3=>repeat (first|exact XB.AreS.nil|refine XB.AreS.cons ?_))
    (case xSa4=>k_is);(case xSb4=>repeat (first|exact XB.AreS.nil|refine XB.AreS.cons ?_))
    (case xSa5=>k_is);(case xSb5=>repeat (first|exact XB.AreS.nil|refine XB.AreS.cons ?_))
    (case xSa6=>k_is);(case xSb6=>repeat (first|exact XB.AreS.nil|refine XB.AreS.cons ?_))
    (case xSa7=>k_is);(case xSb7=>repeat (first|exact XB.AreS.nil|refine XB.AreS.cons ?_))
    (case xSa8=>k_is);(case xSb8=>repeat (first|exact XB.AreS.nil|refine XB.AreS.cons ?_))
    (case xSa9=>k_is);(case xSb9=>repeat (first|exact XB.AreS.nil|refine XB.AreS.cons ?_))
    (case xSa10=>k_is);(case xSb10=>repeat (first|exact XB.AreS.nil|refine XB.AreS.cons ?_))
    (case xSa11=>k_is);(case xSb11=>repeat (first|exact XB.AreS.nil|refine XB.AreS.cons ?_))
    (case xSa12=>k_is);(case xSb12=>repeat (first|exact XB.AreS.nil|refine XB.AreS.cons ?_))
    (case xSa13=>k_is);(case xSb13=>repeat (first|exact XB.AreS.nil|refine XB.AreS.cons ?_))
    (case xSa14=>k_is);(case xSb14=>repeat (first|exact XB.AreS.nil|refine XB.AreS.cons ?_))
    (case xSa15=>k_is);(case xSb15=>repeat (first|exact XB.AreS.nil|refine XB.AreS.cons ?_))
    (case xSa16=>k_is);(case xSb16=>repeat (first|exact XB.AreS.nil|refine XB.AreS.cons ?_))
    (case xSa17=>k_is);(case xSb17=>repeat (first|exact XB.AreS.nil|refine XB.AreS.cons ?_))
    (case xSa18=>k_is);(case xSb18=>repeat (first|exact XB.AreS.nil|refine XB.AreS.cons ?_))
    (case xSa19=>k_is);(case xSb19=>repeat (first|exact XB.AreS.nil|refine XB.AreS.cons ?_))
    (case xSa20=>k_is);(case xSb20=>repeat (first|exact XB.AreS.nil|refine XB.AreS.cons ?_))
    (case xSa21=>k_is);(case xSb21=>repeat (first|exact XB.AreS.nil|refine XB.AreS.cons ?_))
    (case xSa22=>k_is);(case xSb22=>repeat (first|exact XB.AreS.nil|refine XB.AreS.cons ?_))
    (case xSa23=>k_is);(case xSb23=>repeat (first|exact XB.AreS.nil|refine XB.AreS.cons ?_))
    (case xSa24=>k_is);(case xSb24=>repeat (first|exact XB.AreS.nil|refine XB.AreS.cons ?_))
    (case xSa25=>k_is);(case xSb25=>repeat (first|exact XB.AreS.nil|refine XB.AreS.cons ?_))
    (case xSa26=>k_is);(case xSb26=>repeat (first|exact XB.AreS.nil|refine XB.AreS.cons ?_))
    (case xSa27=>k_is);(case xSb27=>repeat (first|exact XB.AreS.nil|refine XB.AreS.cons ?_))
