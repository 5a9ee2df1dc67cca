import PyProof.Rows.All
import Wide.All
import OpenK.AllK
import Wide.FinOn
import Lean
import PyProof.EqAt
import PyProof.EqKinds
import PyProof.TupleCall
import PySem.Challenge.RW_indexwise_k65_programs_refused_at_their
set_option Elab.async false
set_option linter.all false
set_option compiler.extract_closed false
set_option maxRecDepth 100000
set_option maxHeartbeats 3200000
local macro_rules | `(tactic| trivial) => `(tactic| first | exact .inl rfl | exact .inr (.inl rfl) | exact .inr (.inr rfl) | exact .inr rfl | assumption | exact True.intro | exact ⟨rfl,rfl,rfl,by decide +kernel,rfl,by decide +kernel,by decide +kernel⟩)
local macro_rules|`(())=>`(by first|omega|decide +kernel|trivial|(intro _;rfl)|simp)
open Array renaming length_toList→Θ,getElem?_eq_some_iff→m8,getD_eq_getD_getElem?→D_,perm_iff_toList_perm→L_,toList_extract→M1,getElem?_eq_getElem→SZ,ext'→TX
open Bool renaming false→J,true→O,and_eq_true→χ,false_ne_true→Χ,true_and→ϵ,false_and→k_,eq_false_iff→C3,eq_iff_iff→C5,and_true→J9,or_eq_true→N_,and_false→SH,false_eq_true→SI,not_eq_true'→S_,false_or→Ta,or_false→Tb
open Decidable renaming byContradiction→SY
open False renaming elim→ϴ
open ForInStep renaming yield→J6
open Int renaming toNat_natCast→P2
open List renaming length_map→ε,mem_cons→ξ,mem_singleton→ο,mem_cons_self→π,mem_cons_of_mem→ρ,append_assoc→Γ,length_cons→Δ,length_append→Ε,getElem?_eq_getElem→Ζ,map_append→Κ,mem_append→Ν,size_toArray→Ο,mem_map→Ρ,getElem?_eq_some_iff→Υ,length_take→Φ,map_cons→ϊ,mem_of_getElem?→ό,getElem?_map→ϑ,append_nil→ϔ,map_map→Ϙ,mem_append_right→ϛ,replicate→Ϡ,take_add_one→Ϥ,count_append→ϥ,take_length→ϧ,length_drop→Ϯ,lookup_cons→ϱ,range→ϳ,all_eq_true→Ϸ,length_singleton→ϻ,lookup→d_,getElem?_append_left→e_,cons_append→h_,getElem?_append_right→i6,count_eq_zero_of_not_mem→i7,nil_append→i_,mem_map_of_mem→j_,getElem_mem→l_,mem_of_mem_take→m9,any_eq_true→n_,mem_append_left→r6,map_nil→u9,take_of_length_le→v_,length→y6,getElem?_eq_none→y7,take_append_drop→y8,sum_cons→A0,not_mem_nil→A1,zipWith→A9,replicate_succ→A_,nodup_cons→B0,find?_cons→B5,length_nil→B6,filterMap_cons→C6,map_congr_left→C7,drop_zero→E9,length_replicate→F0,drop_eq_getElem_cons→F3,extract_eq_drop_take→F4,mem_of_mem_drop→F9,mem_range→G7,foldlM_cons→I_,find?_eq_none→J2,all_map→J3,mem_filter→J4,take_left'→J7,eq_nil_or_concat→K1,flatten_cons→K2,getElem?_set_ne→K8,mem_of_find?_eq_some→M6,any_cons→M_,sum_append→O0,drop_left'→O1,mem_filterMap→O2,getElem?_drop→O5,getElem?_set_self→O7,any_eq_false→O8,concat_eq_append→Q1,getElem_inj→Q3,getElem?_of_mem→RV,dropLast_concat→RX,eq_nil_of_length_eq_zero→RY,of_mem_zip→RZ,dropLast_concat_getLast→Sd,getElem_of_mem→Sh,length_zipWith→Sj,contains_cons→SN,filter_append→SV,pairwise_iff_getElem→SX,ext_getElem?→S5,all_cons→Tc,drop_length→Ti,length_set→Tu,forIn_cons→Tw,find?_some→Tz,count_cons→TD,getD→TQ,foldl→TW
open List.cons renaming injEq→TC
open Nat renaming le_refl→Α,zero_le→ϋ,lt_of_lt_of_le→Ϝ,ne_of_lt→ϩ,le_trans→Ϫ,le_of_ble_eq_true→p0,le_of_lt→C9,ne_of_gt→D0,le_add_right→E3,le_succ→F7,mul_le_mul_right→F_,lt_irrefl→G0,lt_succ_of_lt→P4,lt_succ_self→Q4,min_eq_left→Sc,sub_self→Sq,not_lt→SJ,eq_or_lt_of_le→SW,sub_zero→Tr
open Ne renaming symm→ϝ
open Option renaming some→Z,none→Β,map_eq_some_iff→ϫ,isSome_map→P0
open Option.some renaming inj→ϡ
open Or renaming inl→z_
open PyProof.Rows renaming slot_tuple_getitem→j9,callWith_type1→A2,envOfC→C8,slice_from_eq→M0,toString_length_le→P_,partition_whole→Se,AllBare→Sk,call_isinstance_of→SQ,slice_closesL→SU
open PyProof.Rows.IsTup renaming new→TN
open PySem renaming wpAny_bind→ζ,sizeLine_eq→ι,Value→ν,strLen_append→ς,Addr→υ,Shared→ψ,wpAny_pure→Η,Program→Ι,sizeLine→Λ,mainGlobals→Ω,wpAny→ύ,World→ώ,model→ϓ,wpAny_loadPart_at→ϕ,starEach→ϗ,Heap→ϙ,Around→Ϛ,FuncData→ϣ,excClassObj→ϯ,wpAny_field→ϲ,Stmt→ϸ,Expr→Ϲ,wpAny_newObj_type→Ϻ,wpAny_isSubtype_exc→i9,compareOp→j8,wpAny_mono→m_,wpAny_truthy_bool→p_,wpAny_callSpecial?_slot→q_,wpAny_Call_Name_kw→r_,wpAny_call_entry→u_,checkBuiltinCall→B9,cLine→C2,backTo→C_,wpAny_holding→E1,sysModules→E4,wpAny_seqItems→E7,wpAny_setField_rec→E8,Builtin→E_,wpAny_passesOwn→F5,codeAny_call_builtin→F8,call_meets→G2,wpAny_comprehension_free→G4,mem_of_lookup→G6,binaryOp→G8,wpAny_getItem_str_slice→G9,wpAny_setField→G_,codeAny_mono→J1,wpAny_execs_nil→J5,IsPair→K0,GenState→K3,NameKind→K_,bootBuiltins→M2,rawInt→M7,Scope→M8,attributeBase→M9,codeAny→N7,wpAny_pyIter_tuple→O3,typeIs_str→O4,plainObj_wpAny_Assign_Attribute→P9,wpAny_call→Q5,wpAny_rule→Q8,wpAny_standAt→Q9,wpAny_onRaise→Q_,wpAny_updateSeq_pair→RW,post_val_or_str→R_,ExcBaseFacts→Sr,wpAny_loadPart→Sz,wpAny_newFunctionEnv_cells→SA,wpAny_FormattedValue_plain→SK,wpAny_pyIter_list→S1,keywordEach→S4,ExcAttrBase→S9,wpAny_execs_cons→Td,noFill_tuple_add→Tg,Within→Tl,BindsTo→Tn,wpAny_typeOf→To,OsState→Tq,IsRangeIter→TH,ZipApart→TL,DictEntry→TM,pyNext→TR,typeLookup→TU,IsPart→TV,Drawn→TY,Operator→TZ,SetTable→T0,IsZip→T3
open PySem.AutoSeq1 renaming wpAny_loadPart'→B_
open PySem.Builtin.List renaming listTooLong→y9
open PySem.Builtin.Slice renaming slicePlaces→F1,sliceAdjust→M5,sliceApplied→SD
open PySem.Builtin.SmallTypes renaming nextOf→x_,ownedTupleIsFree→y_
open PySem.Builtin.Str renaming occurrences→H_
open PySem.Builtin.Tuple renaming tupleItemsOf→SE
open PySem.Calls renaming callWith_builtin→P3,Name_function_global→Sx
open PySem.Code renaming quiet_builtin→SO
open PySem.Data renaming cell→Tf,fields→TJ
open PySem.F renaming plainAttrs_str→Μ,plainAttrs_list→ϖ,slot_list_append→Ϟ,type_list_append→ϟ,slot_str_join→a_,type_str_join→b_,slot_str_partition→s_,type_str_partition→t_,slot_str_split→w_,type_str_split→x9,slot_str_startswith→A3,type_str_startswith→A5,slot_tuple_iterator_next→E6,args_tuple_add_2→N4,slot_list_extend→N5,type_list_extend→N6,entry_tuple_add→O6,slot_tuple_add→P1,slot_str_count→P7,type_str_count→P8,args_tuple_iterator_next_1→Sa,slot_zip_next→Sb,slot_enumerate_iter→Sl,entry_tuple_iterator_next→Sn,args_str_split_2→SM,slot_range_iterator_next→SR,entry_str_split→S8,slot_str_split→Th
open PySem.Heap renaming get?_push_of_some→ω,lt_size→Ξ,get?_push_size→Ψ,get?_update_other→Ϧ,get?_none_of_le→g_,get?_update_self→o_,size_push→r9,SameBut→F6,get?_push_ne→P5,size_update→Q7,ExtBut→S7
open PySem.NameKind renaming free→Ϣ,cell→A6
open PySem.NumText renaming digitsVal→j7
open PySem.Obj renaming data_mapFields→B8,mapFields→J8,isFreed_of_fields→J_,mapSeq→Q6
open PySem.PassesOwn renaming never→c_
open PySem.SeqAt renaming EqAt→Ϭ,RcNeAt→Tp,RcAt→T4
open PySem.SeqAt.EqAt renaming same→N8,int_str→Su,str_int→Sv,int_int→SF,str_str→SG
open PySem.SeqAt.RcAt renaming tuples→S6
open PySem.Str renaming ofString→Y,join→Τ,empty_append→j6,empty→u6,append_assoc→A8
open PySem.StrLaws renaming subAt_eq→I0,join_split→SS
open PySem.Value renaming ref→ϐ,builtin→E2,none→J0,str→Ss,bool→Sw,type→Tk
open PySem.Value.type renaming inj→P6
open PySem.W renaming Frag→η,mg_of→Ϗ,nsIn→ϒ,findIn→Ϩ,mg_none_of→ϭ,keepIn→ϰ,fnOf→j4,kia_one→u5,emptyDict→y4,codeIn→A7,callWith_K→B7,instObj→C4,kitOne→K9,plainGet→M3,isFn→M4,hasDictIn→O9,cellsFrom_some→O_,methodCall_KW→Q0,plainGet_of→Sf,lookIn→Sy,methodObj→S0,plainOver→S2,takerIn→Ts,makesIn→Tt,OpenLaw→Tv,Looks→Tx
open PySem.W.KT renaming app_list→Si
open PySem.W.KasT renaming kasWp_bind→N9
open Sum renaming inr→f_,inl→Tj
open True renaming intro→E5
theorem Z9{p:Prop}[i:Decidable p](h:p):decide p=true:=decide_eq_true h
theorem Z8{p:Prop}[i:Decidable p](h:¬p):decide p=false:=decide_eq_false h
theorem Z7{p:Prop}[i:Decidable p](h:decide p=true):p:=of_decide_eq_true h
theorem Z6{c:Prop}{h:Decidable c}(k:¬c){α:Sort u}{t e:α}:ite c t e=e:=if_neg k
theorem Z5{c:Prop}{h:Decidable c}(k:c){α:Sort u}{t e:α}:ite c t e=t:=if_pos k
local macro_rules|`(tactic|omega)=>`(tactic|first|lia|omega(splitNatSub:=true))
local macro_rules|`(command|$d:definition)=>return(<-`(command|noncomputable $d:definition)).raw.rewriteBottomUp (·.setInfo .none)
local macro_rules|`(command|$d:abbrev)=>return(<-`(command|noncomputable $d:abbrev)).raw.rewriteBottomUp (·.setInfo .none)
set_option bootstrap.genMatcherCode false
set_option tactic.hygienic false
local macro_rules|`(tactic|show $e)=>`(tactic|refine $e)
local macro_rules|`(tactic|let $c:letConfig $d:letDecl)=>`(tactic|have $c:letConfig $d:letDecl)
local macro_rules|`(tactic|ext($p:rcasesPat:$e))=>`(tactic|obtain $p:rcasesPat:=$e)|`(tactic|ext $p*)=>`(tactic|rintro $p*)
local macro_rules|`(↑$e)=>`(by simpa using $e)
theorem U{α:Sort u}{a:α}:a=a:=.refl a
local macro_rules|`({$x:term,*})=>do
 let mut a:=#[]
 for y in x.getElems do
  match y.raw.isNatLit? with
  |some _=>for c in (y.raw.getArg 0).getAtomVal.toList do a:=a.push (<-match c with|'0'=>`(_)|'1'=>`(rfl)|'2'=>`(?_)|_=>`(()))
  |_=>a:=a.push y
 `(⟨$a,*⟩)
namespace L2
open PySem PySem.Spec PyProof.Rows
def yR(h:1=1:=by rfl):True:=trivial
def yD(h:1=1:=by decide):True:=trivial
def yI(h:1=1:=by intro _;rfl):True:=trivial
def yU(h:1=1:=by with_unfolding_all rfl):True:=trivial
def yF(h:1=1:=by first|show .inl rfl|show .inr rfl|show .inr (.inl rfl)|show .inr (.inr rfl)|assumption):True:=trivial
abbrev en:=Sum Int Str
def qw:en->ν->Bool
 |.inl k,v=>ν.isInt k v
 |.inr x,v=>ν.isStrOf x v
def Qr(w:ώ):en->Int
 |.inl k=>hashInt k
 |.inr x=>hashStr w x
def bH:∀{k:en}{v:ν},qw k v=O->(∃i t,k=Tj i/\v=ν.int i t)\/(∃x t,k=f_ x/\v=Ss x t)
 |.inl i,v,h=>by ext(⟨t,e⟩:ν.isInt_shape (k:=i) (v:=v) h);show .inl {i,t,1,e}
 |.inr x,v,h=>by ext(⟨t,e⟩:ν.isStrOf_shape (x:=x) (v:=v) h);show .inr {x,t,1,e}
def AO(i:Int)(t:Tok):qw (.inl i) (.int i t)=O:=by simp[qw,ν.isInt]
def AW(x:Str)(t:Tok):qw (.inr x) (.str x t)=O:=by simp[qw,ν.isStrOf]
def Kt(a b:Int):decide ((Tj a:en)=Tj b)=(a==b):=by
 by_cases e:a=b
 .subst e;simp
 .let h:¬ (Tj a:en)=Tj b:=λq=>e (Tj.inj q);rw[Z8 h];show(beq_eq_false_iff_ne.mpr e).symm
def Lx(a b:Str):decide ((f_ a:en)=f_ b)=decide (a=b):=by
 by_cases e:a=b
 .subst e;simp
 .let h:¬ (f_ a:en)=f_ b:=λq=>e (f_.inj q);rw[Z8 h,Z8 e]
def Lv(a:Int)(b:Str):decide ((Tj a:en)=f_ b)=J:=Z8 (λq=>nomatch q)
def Kr(a:Str)(b:Int):decide ((f_ a:en)=Tj b)=J:=Z8 (λq=>nomatch q)
def bj(prog:Ι)(w:ώ):PySem.KeyKind prog w en where
 is:=qw
 hash:=Qr w
 inj:=λv a b ha hb=>by
  rcases bH ha with ⟨i,t,rfl,rfl⟩|⟨x,t,rfl,rfl⟩
  .rcases bH hb with ⟨j,u,rfl,e⟩|⟨y,u,rfl,e⟩
   .injection e with e1 _;rw[e1]
   .show nomatch e
  .rcases bH hb with ⟨j,u,rfl,e⟩|⟨y,u,rfl,e⟩
   .show nomatch e
   .injection e with e1 _;rw[e1]
 byValue:=λk v h=>by rcases bH h with ⟨i,t,rfl,rfl⟩|⟨x,t,rfl,rfl⟩<;>rfl
 pyHash:=λhv h=>by
  rcases bH hv with ⟨i,t,rfl,rfl⟩|⟨x,t,rfl,rfl⟩
  .show wpAny_pyHash_int h
  .show wpAny_pyHash_str h
 eqBool:=λhu hv h=>by
  rcases bH hu with ⟨i,t,rfl,rfl⟩|⟨x,t,rfl,rfl⟩
  .rcases bH hv with ⟨j,u,rfl,rfl⟩|⟨y,u,rfl,rfl⟩
   .rw[Kt]at h;show wpAny_eqBool_int h
   .rw[Lv]at h;show Su i t y u _ _ _ _ h
  .rcases bH hv with ⟨j,u,rfl,rfl⟩|⟨y,u,rfl,rfl⟩
   .rw[Kr]at h;show Sv x t j u _ _ _ _ h
   .rw[Lx]at h;show wpAny_eqBool_str h
 «strs»:=λk x t v h=>by
  rcases bH h with ⟨i,u,rfl,e⟩|⟨y,u,rfl,e⟩
  .show nomatch e
  .injection e with e1 _;subst e1;cases v<;>rfl
def uV(prog:Ι)(w:ώ)(i:Int)(t:Tok):(bj prog w).is (.inl i) (.int i t)=O:=AO i t
def ia(prog:Ι)(w:ώ)(x:Str)(t:Tok):(bj prog w).is (.inr x) (.str x t)=O:=AW x t
inductive V where
 |non|bl (b:Bool)|int (i:Int)|str (x:Str)|byt (b:Array UInt8)|flt (b:UInt64)|ref (a:υ)|ty (n:String)
 deriving DecidableEq
def aU:V->ν->Prop
 |.non,u=>u=J0
 |.bl b,u=>u=Sw b
 |.int i,u=>∃t,u=ν.int i t
 |.str x,u=>∃t,u=Ss x t
 |.byt b,u=>∃t,u=ν.bytes b t
 |.flt b,u=>∃t,u=ν.float b t
 |.ref a,u=>u=ϐ a
 |.ty n,u=>u=Tk n
abbrev aI:List V->List ν->Prop:=Paired aU
def aI.length(r:aI xs us):xs.length=us.length:=Paired.length r
def aI.get:∀{xs:List V}{us:List ν}{i:Nat}{x:V},aI xs us->xs[i]?=Z x->∃u,us[i]?=Z u/\aU x u
 |_,_,_,_,.nil,e=>by simp at e
 |_,_,0,_,.cons r _,e=>by simp at e;subst e;show{01,r}
 |_,_,i+1,x,.cons _ t,e=>by obtain⟨u,h1,h2⟩:=aI.get (i:=i) (x:=x) t (↑e);show{u,↑h1,h2}
def aI.set(r:aU x u):∀{xs:List V}{us:List ν}(i:Nat),aI xs us->aI (xs.set i x) (us.set i u)
 |_,_,_,.nil=>.nil
 |_,_,0,.cons _ t=>.cons r t
 |_,_,i+1,.cons q t=>.cons q (aI.set r i t)
def aI.append:∀{xs ys:List V}{us ws:List ν},aI xs us->aI ys ws->aI (xs++ys) (us++ws)
 |_,_,_,_,.nil,s=>s
 |_,_,_,_,.cons r t,s=>.cons r (aI.append t s)
def aI.take:∀{xs:List V}{us:List ν}(n:Nat),aI xs us->aI (xs.take n) (us.take n)
 |_,_,0,_=>.nil
 |_,_,_+1,.nil=>.nil
 |_,_,n+1,.cons r t=>.cons r (aI.take n t)
def aI.drop:∀{xs:List V}{us:List ν}(n:Nat),aI xs us->aI (xs.drop n) (us.drop n)
 |_,_,0,r=>r
 |_,_,_+1,.nil=>.nil
 |_,_,n+1,.cons _ t=>aI.drop n t
def kP:Option V->Option ν->Prop
 |some v,Z u=>aU v u
 |none,Β=>True
 |_,_=>False
def KV:List (κ×V)->List (κ×ν)->Prop:=Paired λ(p:κ×V) (q:κ×ν)=>p.1=q.1/\aU p.2 q.2
def kV:en->V
 |.inl i=>.int i
 |.inr x=>.str x
inductive HO where
 |lst (xs:List V)
 |tup (xs:List V)
 |dK (kvs:List (en×V))|dT (kvs:List (List en×V))
 |set (S:Int->Bool) (n:Nat)
 |ins (C dx:υ) (fs:List (Str×V))
 |own (x:υ)
 |xd (fs:List (Str×V))
 |met (f x:υ)
 |rng (lo hi:Int)
 |frz (o:Obj) (u:HO)
 |tbl (ps:Array ν)
 |ext (φ:ϙ->Prop)
abbrev Hp:=υ->Option HO
def upd(H:Hp)(a:υ)(o:HO):Hp:=λb=>if b=a then Z o else H b
def aa:upd H a o a=Z o:=by unfold upd;rw[Z5 U]
def ai(h:b≠a):upd H a o b=H b:=by unfold upd;rw[Z6 h]
def Nz{H:Hp}{a b:υ}{o u:HO}(h:H a=Z o)(h':H b=Z u)(d:o≠u):a≠b:=by intro e;subst e;rw[h]at h';show d (ϡ h')
def ah{H:Hp}{a b:υ}{o:HO}(h:H a=Z o)(h':H b=Β):a≠b:=by intro e;subst e;rw[h]at h';cases h'
def Hu(h:ϙ)(a:υ):Prop:=∃o,h.get? a=Z o/\o.dict=Β
def Hu.new(h:ϙ)(e:o.dict=Β)(f:autoParam (o.isFreed=J) yR._auto_1):Hu (h.push o) h.objs.size:={0,Ψ _ f,e}
section
variable(P:Ι)(w:ώ)
def ck(H:Hp)(h:ϙ)(a:υ):HO->Prop
 |.lst xs=>xs.length<=Λ/\∃(its:List ν) (n:Nat),aI xs its/\h.get? a=Z {cls:=.type "list",data:=.seq its.toArray n}
 |.tup xs=>xs.length<=Λ/\∃its:List ν,aI xs its/\IsTup h a its.toArray/\Hu h a
 |.dK kvs=>kvs.length<=Λ/\(a==E4)=J/\∃vs,KV kvs vs/\h.DictOf (bj P w) a vs
 |.dT kvs=>kvs.length<=Λ/\(a==E4)=J/\∃xs:List (List en×υ×ν),
   Paired (λ(p:List en×V) (q:List en×υ×ν)=>p.1=q.1/\H q.2.1=Z (.tup (p.1.map kV))/\aU p.2 q.2.2) kvs xs /\
   ∃o es ep,h.get? a=Z o/\o.ExactDict/\o.data=.dict es ep/\es.toList=xs.map (entryOfKey (tupleKind (bj P w)))/\(xs.map (·.1)).Nodup
 |.set S n=>h.SetOf (intKind P w) a S n
 |.ins C dx fs=>H dx=Z (.own a)/\fs.length<=1000/\dx≠a/\h.get? a=Z (C4 C dx) /\
   ∃mA,h.Ns1 dx mA/\(∀f,kP (fs.lookup f) (mA f))/\Tl mA (fs.map (·.1))
 |.own _=>∃o,h.get? a=Z o
 |.xd fs=>∃mA,h.Ns1 a mA/\∀f,kP (fs.lookup f) (mA f)
 |.rng lo hi=>∃t u v,h.get? a=Z {cls:=.type "range",data:=.fields #[.int lo t,.int hi u,.int 1 v]}
 |.frz o u=>h.get? a=Z o/\ck H h a u
 |.tbl ps=>h.get? a=Z {cls:=.none,data:=.fields ps}
 |.met f x=>h.get? a=Z (S0 (.ref f) (.ref x))
 |.ext j=>j h/\(∃o,h.get? a=Z o)/\∀h1 h2:ϙ,j h1->(∀o,h1.get? a=Z o->h2.get? a=Z o)->j h2
def gZ(H:Hp)(h:ϙ):Prop:=∀a o,H a=Z o->ck P w H h a o
end
section
variable{P:Ι}{w:ώ}{H H':Hp}{h h':ϙ}{a:υ}{o:HO}
def ck.lt(x:ck P w H h a o):a<h.objs.size:=by
 cases o with
 |lst xs=>ext(⟨_,_,_,_,e⟩:x);show Ξ e
 |tup xs=>ext(⟨_,_,_,p⟩:x);show p.1.lt
 |dK kvs=>ext(⟨_,_,_,_,o,_,_,e,_⟩:x);show Ξ e
 |dT kvs=>ext(⟨_,_,_,_,o,_,_,e,_⟩:x);show Ξ e
 |set S n=>ext(⟨o,_,_,_,e,_⟩:x);show Ξ e
 |ins C dx fs=>ext(⟨_,_,_,e,_⟩:x);show Ξ e
 |own y=>ext(⟨_,e⟩:x);show Ξ e
 |xd fs=>ext(⟨_,⟨_,_,_,e,_⟩,_⟩:x);show Ξ e
 |rng lo hi=>ext(⟨_,_,_,e⟩:x);show Ξ e
 |frz ob u=>ext(⟨e,_⟩:x);show Ξ e
 |tbl ps=>show Ξ (x)
 |met f y=>show Ξ (x)
 |ext φ=>ext(⟨_,⟨_,e⟩,_⟩:x);show Ξ e
def Paired.mapP:∀{n:List α}{j:List β},Paired F n j->(∀a b,F a b->G a b)->Paired G n j
 |_,_,.nil,_=>.nil
 |_,_,.cons r t,f=>.cons (f _ _ r) (Paired.mapP t f)
def ck.stay(x:ck P w H h a o)(k:∀b u,(b=a\/H b=Z (.own a))->h.get? b=Z u->h'.get? b=Z u)
  (ho:∀b,H b=Z (.own a)->H' b=Z (.own a)) (ht:∀b xs,H b=Z (.tup xs)->H' b=Z (.tup xs)):ck P w H' h' a o:=by
 induction o with
 |lst xs=>ext(⟨z,its,n,r,e⟩:x);show{z,its,n,r,k _ _ (.inl U) e}
 |tup xs=>ext(⟨z,its,r,⟨ob,e,c⟩,od,e2,c2⟩:x);show{z,its,r,{ob,k _ _ (.inl U) e,c},od,k _ _ (.inl U) e2,c2}
 |dK kvs=>ext(⟨z,y,vs,r,ob,es,ep,e,c⟩:x);show{z,y,vs,r,ob,es,ep,k _ _ (.inl U) e,c}
 |dT kvs=>ext(⟨z,y,xs,r,ob,es,ep,e,c⟩:x);show{z,y,xs,Paired.mapP r λp q z=>{z.1,ht _ _ z.2.1,z.2.2},ob,es,ep,k _ _ (.inl U) e,c}
 |set S n=>ext(⟨ob,es,ep,t,e,c⟩:x);show{ob,es,ep,t,k _ _ (.inl U) e,c}
 |ins C dx fs=>ext(⟨d,z,ne,e,mA,⟨od,es,ep,e2,c⟩,r⟩:x);show{ho _ d,z,ne,k _ _ (.inl U) e,mA,{od,es,ep,k _ _ (.inr d) e2,c},r}
 |own y=>ext(⟨ob,e⟩:x);show{ob,k _ _ (.inl U) e}
 |xd fs=>ext(⟨mA,⟨od,es,ep,e,c⟩,r⟩:x);show{mA,{od,es,ep,k _ _ (.inl U) e,c},r}
 |rng lo hi=>ext(⟨t,u,v,e⟩:x);show{t,u,v,k _ _ (.inl U) e}
 |frz ob u ih=>ext(⟨e,q⟩:x);show{k _ _ (.inl U) e,ih q}
 |tbl ps=>have e:h.get? a=Z {cls:=.none,data:=.fields ps}:=x;change h'.get? a=Z {cls:=.none,data:=.fields ps};show k a _ (.inl U) e
 |met f y=>have e:h.get? a=Z (S0 (.ref f) (.ref y)):=x;change h'.get? a=Z (S0 (.ref f) (.ref y));show k a _ (.inl U) e
 |ext φ=>ext(⟨p,⟨o,e⟩,st⟩:x);show{st _ _ p λo q=>k _ _ (.inl U) q,{o,k _ _ (.inl U) e},st}
def gZ.lt(x:gZ P w H h)(e:H a=Z o):a<h.objs.size:=(x a o e).lt
def gZ.fresh(x:gZ P w H h)(e:h.objs.size<=a):H a=Β:=by
 cases q:H a with
 |none=>rfl
 |some u=>show absurd (Ϝ (x.lt q) e) (G0 _)
def gZ.kept(x:gZ P w H h)(k:∀b u,h.get? b=Z u->h'.get? b=Z u):gZ P w H h':=λa o e=>
 (x a o e).stay (λb u _ q=>k b u q) (λ_ q=>q) λ_ _ q=>q
def gZ.laid(x:gZ P w H h)(k:∀b u,h.get? b=Z u->h'.get? b=Z u)(B:h.objs.size<=a)(z:ck P w (upd H a o) h' a o):gZ P w (upd H a o) h':=λb u e=>by
 let n:=x.fresh B;by_cases j:b=a
 .subst j;rw[aa]at e;cases e;show z
 .rw[ai j]at e;show(x b u e).stay (λc v _ q=>k c v q) (λc q=>by rw[ai (ah q n)];show q) λc xs q=>by rw[ai (ah q n)];show q
end
def Rd(H:Hp)(a:υ)(u:HO):Prop:=H a=Z u\/∃o,H a=Z (.frz o u)
def Rd.ok{P:Ι}{w:ώ}{H:Hp}{h:ϙ}{a:υ}{u:HO}(r:Rd H a u)(x:gZ P w H h):ck P w H h a u:=by
 rcases r with r|⟨o,r⟩
 .show x a u r
 .ext(⟨_,q⟩:x a _ r);show q
def Md:Option HO->Prop
 |some (.lst _)=>True
 |some (.dK _)=>True
 |some (.dT _)=>True
 |some (.set _ _)=>True
 |some (.ins _ _ _)=>True
 |some (.ext _)=>True
 |_=>False
section
variable{P:Ι}{w:ώ}{H:Hp}{h h':ϙ}{x e:υ}{o':HO}
def gZ.write(ok:gZ P w H h)(mu:Md (H x))(he:e=x\/H e=Z (.own x))(k:∀b u,b≠e->h.get? b=Z u->h'.get? b=Z u)(heo:∃u,h'.get? e=Z u)
  (new:ck P w (upd H x o') h' x o'):gZ P w (upd H x o') h':=λb u q=>by
 let nown:∀c y,H c=Z (.own y)->c≠x:=λc y r z=>by subst z;rw[r]at mu;show mu
 let ntup:∀c xs,H c=Z (.tup xs)->c≠x:=λc xs r z=>by subst z;rw[r]at mu;show mu
 by_cases hb:b=x
 .subst hb;rw[aa]at q;cases q;show new
 .rw[ai hb]at q;by_cases hbe:b=e
  .let q':H b=Z (.own x):=by
    rcases he with z|z
    .show absurd (hbe.trans z) hb
    .rw[hbe];show z
   rw[q]at q';cases q';ext(⟨v,hv⟩:heo);show{v,by rw[hbe];show hv}
  .show(ok b u q).stay (λc v hc r=>k c v ?_ r) (λc r=>by rw[ai (nown c b r)];show r) λc xs r=>by rw[ai (ntup c xs r)];show r
   rcases hc with rfl|hc
   .show hbe
   .ext rfl;rcases he with z|z
    .show nown c b hc z
    .rw[hc]at z;cases z;show hb U
end
structure Un(fs ex:List υ)(H H':Hp)(h h':ϙ):Prop where
 keep:∀b o,h.get? b=Z o->H b=Β->b∉fs->b∉ex->h'.get? b=Z o
 slot:∀b o,h.get? b=Z o->H b=Β->b∈fs->b∉ex->∃sl,h'.get? b=Z {o with slots:=sl}
 free:∀b o,h.get? b=Z o->H b=Β->b∉ex->H' b=Β
 there:∀b o,h.get? b=Z o->b∉ex->∃o',h'.get? b=Z o'
 tups:∀b xs,H b=Z (.tup xs)->H' b=Z (.tup xs)
 frzs:∀b o u,H b=Z (.frz o u)->H' b=Z (.frz o u)
 tbls:∀b ps,H b=Z (.tbl ps)->∃more,H' b=Z (.tbl (ps++more))
section
variable{fs fs' ex ex':List υ}{H H1 H2:Hp}{h h1 h2 h':ϙ}{a x e:υ}{o:HO}
def Un.any(u:Un fs ex H H1 h h1)(q:h.get? b=Z ob)(n:H b=Β)(j:b∉ex):∃B,h1.get? b=Z {ob with slots:=B}:=by
 by_cases z:b∈fs
 .show u.slot b ob q n z j
 .show{ob.slots,u.keep b ob q n z j}
def Un.kept(k:∀b u,h.get? b=Z u->h'.get? b=Z u):Un fs ex H H h h':=
 {λb ob q _ _ _=>k b ob q,λb ob q _ _ _=>{ob.slots,k b ob q},λ_ _ _ n _=>n,λb ob q _=>{ob,k b ob q},λ_ _ q=>q,λ_ _ _ q=>q,λ_ ps q=>{#[],by rw[q];simp}}
def Un.refl:Un fs ex H H h h:=Un.kept λ_ _ q=>q
def Un.laid(k:∀b u,h.get? b=Z u->h'.get? b=Z u)(z:h.objs.size<=a)(j:H a=Β):Un fs ex H (upd H a o) h h' where
 keep:=λb u q _ _ _=>k b u q
 slot:=λb u q _ _ _=>{u.slots,k b u q}
 free:=λb u q n _=>by rw[ai (ϩ (Ϝ (Ξ q) z))];show n
 there:=λb u q _=>{u,k b u q}
 tups:=λb xs q=>by rw[ai (ah q j)];show q
 frzs:=λb u xs q=>by rw[ai (ah q j)];show q
 tbls:=λb ps q=>{#[],by rw[ai (ah q j),q];simp}
def Un.write(mu:Md (H x))(he:e=x\/H e=Z (.own x))(k:∀b u,b≠e->h.get? b=Z u->h'.get? b=Z u)(heo:∃u,h'.get? e=Z u):Un fs ex H (upd H x o) h h':=by
 let hx:∀b,H b=Β->b≠x:=λb n z=>by subst z;rw[n]at mu;show mu
 let hb:∀b,H b=Β->b≠e:=λb n z=>by
  subst z;rcases he with r|r
  .show hx b n r
  .rw[n]at r;cases r
 let hm:∀b u,H b=Z u->¬ Md (Z u)->b≠x:=λb u q nm z=>by subst z;rw[q]at mu;show nm mu
 show{λb u q n _ _=>k b u (hb b n) q,λb u q n _ _=>{u.slots,k b u (hb b n) q},λb u q n _=>by rw[ai (hx b n)];show n,λb u q _=>?_,λb xs q=>by rw[ai (hm b _ q λz=>z)];show q,λb u xs q=>by rw[ai (hm b _ q λz=>z)];show q,λb ps q=>{#[],by rw[ai (hm b _ q λz=>z),q];simp}}
 by_cases hbe:b=e
 .subst hbe;show heo
 .show{u,k b u hbe q}
end
def Ov(h:ϙ)(H:Hp):List υ:=(ϳ h.objs.size).filter λa=>(H a).isSome
def tf(h:ϙ)(H:Hp):ϙ:=PySem.W.hideAll h (Ov h H)
def AV(h:ϙ)(H:Hp):(tf h H).objs.size=h.objs.size:=PySem.W.hideAll_size _ _
def Fa(e:h.get? b=Z o)(n:H b=Β):(tf h H).get? b=Z o:=
 PySem.W.hideAll_get _ e λj=>by let q:=(J4.mp j).2;rw[n]at q;simp at q
def Ge(e:(tf h H).get? b=Z o):h.get? b=Z o/\H b=Β:=by
 let j:h.get? b=Z o:=PySem.W.of_hideAll (Ov h H) e;show{j,2};cases q:H b with
 |none=>rfl
 |some x=>have n:b∈Ov h H:=J4.mpr {G7.mpr (Ξ j),by simp[q]};let z:(tf h H).get? b=Β:=PySem.W.hideAll_none (Ov h H) n;rw[z]at e;cases e
def mK(g h:ϙ)(L:υ):List (υ×Obj):=(ϳ h.objs.size).filterMap λa=>if a=L\/(g.get? a).isSome=O then Β else (h.get? a).map λo=>(a,o)
def wb(h1:a≠L)(h2:g.get? a=Β)(j:h.get? a=Z o):(a,o)∈mK g h L:=
 O2.mpr {a,G7.mpr (Ξ j),by simp[h1,h2,j]}
def px{g h:ϙ}{L:υ}{p:υ×Obj}(hp:p∈mK g h L):p.1≠L/\g.get? p.1=Β/\h.get? p.1=Z p.2:=by
 ext(⟨b,_,e⟩:O2.mp hp);split at e
 .cases e
 .rename_i hn;cases q:h.get? b with
  |none=>rw[q]at e;simp at e
  |some u=>
   rw[q]at e;simp only[Option.map_some,Option.some.injEq]at e;subst e;show{λz=>hn (.inl z),2,q};change g.get? b=Β;cases r:g.get? b with
   |none=>rfl
   |some v=>show(hn (.inr (by simp[r]))).elim
def Fv:News g L h (mK g h L):=λp j=>let ⟨a,b,c⟩:=px j;{c,a,b}
structure Mod(K:η)(mg:Str->Option ν)(base:ϙ):Prop where
 kin:K.In base
 glob:base.Ns Ω mg
 blt:∃mb,base.Ns builtinsNs mb/\∀x:Str,x≠"__name__"->mb x=M2 x
 nolimit:base.NoLimit
structure Cx where
 prog:Ι
 w:ώ
 K:η
 mg:Str->Option ν
 base:ϙ
 A:Ϛ
 N:List Str
 s₀:ψ
 H₀:Hp
 env:Env
 outer:List Env
 stack:List Env
 ex:List υ
 fn:Str->Bool
 calm:Bool
 pn:List (υ×Obj)
 xe:ν->ψ->Prop
def gW(l:List Env):List υ:=l.filterMap (·.frame)
abbrev Cx.fs(X:Cx):List υ:=gW X.outer
def Mc(sc:M8)(x:Str):Prop:=sc.names.lookup x=Z .local\/sc.names.lookup x=Z .cell\/sc.names.lookup x=Z .free
def Nr(sc:M8)(x:Str):Prop:=sc.names.lookup x=Z .local\/sc.names.lookup x=Z .cell
def MS(env:Env)(h:ϙ)(m:Str->Option ν)(x:Str)(u:ν):Prop:=
 (env.kindOf x=Z .local/\m x=Z u)\/((env.kindOf x=Z .cell\/env.kindOf x=Z .free)/\∃c,env.cells.lookup x=Z c/\h.IsCell c (Z u))
structure Cx.Ok(X:Cx):Prop where
 mod:Mod X.K X.mg X.base
 kind:X.env.scope.kind=.function
 glob:X.env.globals=Ω
 blt:X.env.builtins=builtinsNs
 above:X.s₀.heap.objs.size<=X.env.locals
 inj:∀x y c,X.env.cells.lookup x=Z c->X.env.cells.lookup y=Z c->x=y
 has:∀x,(X.env.kindOf x=Z .cell\/X.env.kindOf x=Z .free)->∃c,X.env.cells.lookup x=Z c
 cab:∀x c,X.fn x=O->X.env.cells.lookup x=Z c->X.s₀.heap.objs.size<=c
 hd:X.calm=O->X.A.handled=Β
 frames:X.A.frames=Z X.stack
 stk:X.stack=X.outer\/(X.stack=X.env::X.outer/\X.env.frame=Z X.env.locals)
 exf:∀b∈X.ex,b≠X.env.locals/\∀x c,X.env.cells.lookup x=Z c->c≠b
 bs:∀b o,X.base.get? b=Z o->X.s₀.heap.get? b=Z o/\X.H₀ b=Β
 bsz:X.base.objs.size<=X.s₀.heap.objs.size
 noex:∀b o,X.base.get? b=Z o->b∉X.ex
 exfs:∀b∈X.ex,b∉X.fs
 funs:X.s₀.heap.FunFrames X.base X.outer
 frf:∀b∈X.fs,X.H₀ b=Β
structure ax(X:Cx)(pins:List (υ×Obj))(σ:List (Option V))(H:Hp)(s:ψ):Prop where
 ok:X.Ok
 os:s.os=X.s₀.os
 bare:Sk s.gens
 base:Un X.fs X.ex X.H₀ H X.s₀.heap s.heap
 loc:∃m,s.heap.Ns X.env.locals m/\∀(i:Nat)(x:Str)(v:V),X.N[i]?=Z x->σ[i]?=Z (Z v)->Mc X.env.scope x->∃u,aU v u/\MS X.env s.heap m x u
 cell:∀x c,X.env.cells.lookup x=Z c->∃v,s.heap.IsCell c v
 free:H X.env.locals=Β
 freeC:∀x c,X.env.cells.lookup x=Z c->H c=Β
 pin:∀p∈X.pn++pins,s.heap.get? p.1=Z p.2/\H p.1=Β/\p.1≠X.env.locals/\p.1∉X.fs/\∀v,p.2.data≠.cell v
 hok:gZ X.prog X.w H s.heap
 len:σ.length=X.N.length
section
variable{X:Cx}{pins:List (υ×Obj)}{σ:List (Option V)}{H H':Hp}{s:ψ}{h':ϙ}
def Cx.Ok.nofr(ok:X.Ok){b:υ}{o:Obj}(e:X.base.get? b=Z o):b∉X.fs:=λhb=>by let:=(ok.funs.mem hb).1;rw[e]at this;cases this
def ax.bs(I:ax X pins σ H s):∀b o,X.base.get? b=Z o->s.heap.get? b=Z o/\H b=Β:=λb o e=>
 {I.base.keep b o (I.ok.bs b o e).1 (I.ok.bs b o e).2 (I.ok.nofr e) (I.ok.noex b o e),I.base.free b o (I.ok.bs b o e).1 (I.ok.bs b o e).2 (I.ok.noex b o e)}
def ax.bk(I:ax X pins σ H s):∀b o,X.base.get? b=Z o->s.heap.get? b=Z o:=λb o e=>(I.bs b o e).1
def ax.mod(I:ax X pins σ H s):Mod X.K X.mg X.base:=I.ok.mod
def ax.kIn(I:ax X pins σ H s):X.K.In s.heap:=I.ok.mod.kin.keeps I.bk
def ax.fr(I:ax X pins σ H s):∃m,Fr X.base X.env.locals s.heap m:=
 let ⟨m,j,_⟩:=I.loc
 {m,j,I.bk,Ϫ I.ok.bsz I.ok.above}
def ax.lt(I:ax X pins σ H s):X.env.locals<s.heap.objs.size:=let ⟨_,hn,_⟩:=I.loc;hn.lt
def ax.sz(I:ax X pins σ H s):X.s₀.heap.objs.size<=s.heap.objs.size:=Ϫ I.ok.above (C9 I.lt)
def ax.nofs(I:ax X pins σ H s)(h:s.heap.objs.size<=a):a∉X.fs:=λj=>by ext(⟨_,o,ho,_⟩:I.ok.funs.mem j);show absurd (Ϝ (Ξ ho) (Ϫ I.sz h)) (G0 _)
def ax.cne(I:ax X pins σ H s):∀x c,X.env.cells.lookup x=Z c->c≠X.env.locals:=λx c e z=>by ext(⟨v,o,ho,hd⟩:I.cell x c e);ext(⟨m,⟨o',es,ep,ho',hd',_⟩,_⟩:I.loc);rw[z,ho']at ho;cases ho;rw[hd']at hd;cases hd
def ax.funs(I:ax X pins σ H s):s.heap.FunFrames X.base X.outer:=by
 let all:∀(l:List Env),(∀b∈gW l,b∈X.fs)->X.s₀.heap.FunFrames X.base l->s.heap.FunFrames X.base l:=by
  intro l;induction l with
  |nil=>intro _ _;trivial
  |cons env r ih=>intro hs hl;ext(⟨hk,⟨L,o,hf,hn,ho,hd⟩,hr⟩:hl);let hL:L∈X.fs:=hs L (by unfold gW;rw[C6,hf];show π);obtain⟨sl,e⟩:=I.base.slot L o ho (I.ok.frf L hL) hL λz=>I.ok.exfs L z hL;show{hk,{L,0,hf,hn,e,hd},ih (λb hb=>hs b (by unfold gW;rw[C6,hf];show ρ _ hb)) hr}
 show all X.outer (λ_ hb=>hb) I.ok.funs
def ax.stack(I:ax X pins σ H s):s.heap.FunFrames X.base X.stack:=by
 rcases I.ok.stk with e|⟨e,j⟩
 .rw[e];show I.funs
 .rw[e];ext(⟨m,n,_⟩:I.loc);show .cons (by rw[I.ok.kind];decide) j n ?_ I.funs;show g_ (Ϫ I.ok.bsz I.ok.above)
def ax.stkSub(I:ax X pins σ H s):∀b∈gW X.stack,b∈X.env.locals::X.fs:=λb hb=>by
 rcases I.ok.stk with e|⟨e,hf⟩
 .rw[e]at hb;show ρ _ hb
 .rw[e]at hb;unfold gW at hb;rw[C6,hf]at hb;show hb
def ax.stkFree(I:ax X pins σ H s):∀b∈gW X.stack,H b=Β:=λb j=>by
 rcases ξ.mp (I.stkSub b j)with e|j
 .rw[e];show I.free
 .ext(⟨_,o,ho,_⟩:I.ok.funs.mem j);show I.base.free b o ho (I.ok.frf b j) λz=>I.ok.exfs b z j
def ax.step{g':Array K3}{t':Nat}{d':TY}{ch:List υ}(I:ax X pins σ H s)
  (hch:∀b∈ch,(b∈X.ex\/X.s₀.heap.objs.size<=b)/\b≠X.env.locals/\(∀x c,X.env.cells.lookup x=Z c->c≠b)/\∀p∈X.pn++pins,p.1≠b)
  (keep:∀b o,b≠X.env.locals->b∉X.fs->b∉ch->s.heap.get? b=Z o->H b=Β->h'.get? b=Z o)
  (slot:∀b o,b≠X.env.locals->b∈X.fs->b∉ch->s.heap.get? b=Z o->H b=Β->∃sl,h'.get? b=Z {o with slots:=sl}) (free:∀b o,b∉ch->s.heap.get? b=Z o->H b=Β->H' b=Β)
  (there:∀b o,b∉ch->s.heap.get? b=Z o->∃o',h'.get? b=Z o')
  (tups:∀b xs,H b=Z (.tup xs)->H' b=Z (.tup xs)) (frzs:∀b o u,H b=Z (.frz o u)->H' b=Z (.frz o u)) (tbls:∀b ps,H b=Z (.tbl ps)->∃more,H' b=Z (.tbl (ps++more)))
  (ns:∀m,s.heap.Ns X.env.locals m->h'.Ns X.env.locals m) (hok:gZ X.prog X.w H' h') (hg:Sk g'):
  ax X pins σ H' {s with heap:=h',gens:=g',drawn:=d',toks:=t'}:=by
 let neL:∀b o,X.s₀.heap.get? b=Z o->b≠X.env.locals:=λb o e=>ϩ (Ϝ (Ξ e) I.ok.above);let neC:∀b o,X.s₀.heap.get? b=Z o->b∉X.ex->b∉ch:=λb o e hx hb=>by
  rcases(hch b hb).1 with z|z
  .show hx z
  .show absurd (Ϝ (Ξ e) z) (G0 _)
 let cellK:∀x c,X.env.cells.lookup x=Z c->∀v,s.heap.IsCell c v->h'.IsCell c v:=λx c e v ⟨o,ho,hd⟩=>by
  let nch:c∉ch:=λz=>(hch c z).2.2.1 x c e U;by_cases hc:c∈X.fs
  .ext(⟨sl,q⟩:slot c o (I.cne x c e) hc nch ho (I.freeC x c e));show{0,q,hd}
  .show{o,keep c o (I.cne x c e) hc nch ho (I.freeC x c e),hd}
 show{I.ok,I.os,hg,{λb o e n hb hx=>?_,λb o e n hb hx=>?_,λb o e n hx=>?_,λb o e hx=>?_,λb xs e=>tups b xs (I.base.tups b xs e),λb o xs e=>frzs b o xs (I.base.frzs b o xs e),λb ps e=>?_},2,λx c e=>?_,2,λx c e=>?_,λp hp=>?_,hok,I.len}
 .show keep b o (neL b o e) hb (neC b o e hx) (I.base.keep b o e n hb hx) (I.base.free b o e n hx)
 .ext(⟨sl,e1⟩:I.base.slot b o e n hb hx);ext(⟨sl',e2⟩:slot b _ (neL b o e) hb (neC b o e hx) e1 (I.base.free b o e n hx));show{sl',e2}
 .ext(⟨o',e1⟩:I.base.there b o e hx);show free b o' (neC b o e hx) e1 (I.base.free b o e n hx)
 .ext(⟨o',e1⟩:I.base.there b o e hx);show there b o' (neC b o e hx) e1
 .ext(⟨m1,e1⟩:I.base.tbls b ps e);ext(⟨m2,e2⟩:tbls b _ e1);show{m1++m2,by rw[e2,Array.append_assoc]}
 .ext(⟨m,hn,hl⟩:I.loc);show{m,ns m hn,λi x v e1 e2 e3=>?_};ext(⟨u,r,l⟩:hl i x v e1 e2 e3);show{u,r,2};rcases l with l|⟨k,c,e,z⟩
  .show .inl l
  .show .inr {k,c,e,cellK x c e _ z}
 .ext(⟨v,z⟩:I.cell x c e);show{v,cellK x c e v z}
 .ext(⟨m,⟨o,_,_,ho,_⟩,_⟩:I.loc);show free _ o (λz=>(hch _ z).2.1 U) ho I.free
 .ext(⟨v,o,ho,hd⟩:I.cell x c e);show free c o (λz=>(hch c z).2.2.1 x c e U) ho (I.freeC x c e)
 .ext(⟨e,n,ne,nf,d⟩:I.pin p hp);let nch:p.1∉ch:=λz=>(hch p.1 z).2.2.2 p hp U;show{keep p.1 p.2 ne nf nch e n,free p.1 p.2 nch e n,ne,nf,d}
def ax.un{t':Nat}(I:ax X pins σ H s)(u:Un X.fs [] H H' s.heap h')(B:gZ X.prog X.w H' h'):ax X pins σ H' {s with heap:=h',toks:=t'}:=by ext(⟨m,⟨o,es,ep,ho,r⟩,_⟩:I.loc);ext(⟨M,a⟩:u.any ho I.free ());show I.step (g':=s.gens) (d':=s.drawn) (ch:=[]) (λ_ z=>nomatch z) (λb o _ j _ e n=>u.keep b o e n j ()) (λb o _ j _ e n=>u.slot b o e n j ()) (λb o _ e n=>u.free b o e n ()) (λb o _ e=>u.there b o e ()) u.tups u.frzs u.tbls (λL G=>by ext(⟨o',D,F,q,r'⟩:G);rw[ho]at q;cases q;show{0,D,F,a,r'}) B I.bare
def ax.call{g':Array K3}{t':Nat}{d':TY}{ch:List υ}(I:ax X pins σ H s)(u:Un (gW X.stack) ch H H' s.heap h')(F:gZ X.prog X.w H' h')(M:Sk g')
  (B:∀b∈ch,(b∈X.ex\/X.s₀.heap.objs.size<=b)/\b≠X.env.locals/\(∀x c,X.env.cells.lookup x=Z c->c≠b)/\∀p∈X.pn++pins,p.1≠b):
  ax X pins σ H' {s with heap:=h',gens:=g',drawn:=d',toks:=t'}:=by
 ext(⟨m,⟨o,es,ep,ho,r⟩,_⟩:I.loc);obtain⟨R,q⟩:=u.any ho I.free λz=>(B _ z).2.1 U;show I.step B (λb o q N j e n=>u.keep b o e n (λz=>(ξ.mp (I.stkSub b z)).elim q N) j) (λb o _ _ j e n=>u.any e n j) (λb o j e n=>u.free b o e n j) (λb o j e=>u.there b o e j) u.tups u.frzs u.tbls (λa L=>by ext(⟨o',G,d,D,r'⟩:L);rw[ho]at D;cases D;show{0,G,d,q,r'}) F M
def ax.turned{t':Nat}{it:υ}(I:ax X pins σ H s)(k:∀b o,b≠it->s.heap.get? b=Z o->h'.get? b=Z o)(hn:H it=Β)(hL:it≠X.env.locals)
  (h1:it∈X.ex\/X.s₀.heap.objs.size<=it) (h2:∀x c,X.env.cells.lookup x=Z c->c≠it) (h3:∀p∈X.pn++pins,p.1≠it):ax X pins σ H {s with heap:=h',toks:=t'}:=by
 let nit:∀b u,H b=Z u->b≠it:=λb u e z=>by rw[z,hn]at e;cases e
 show I.step (g':=s.gens) (d':=s.drawn) (ch:=[it]) (λb hb=>?_) (λb o _ _ hc e _=>k b o (λz=>hc (by simp[z])) e) (λb o _ _ hc e _=>{o.slots,k b o (λz=>hc (by simp[z])) e}) (λ_ _ _ _ n=>n)
  (λb o hc e=>{o,k b o (λz=>hc (by simp[z])) e}) (λ_ _ e=>e) (λ_ _ _ e=>e) (λb ps e=>{#[],by rw[e];simp}) (λm hm=>?_) (λb u e=>?_) I.bare
 .let e:b=it:=↑hb
  subst e;show{h1,hL,h2,h3}
 .ext(⟨o,es,ep,ho,r⟩:hm);show{o,es,ep,k _ o (ϝ hL) ho,r}
 .show(I.hok b u e).stay (λc v hc q=>k c v ?_ q) (λ_ q=>q) λ_ _ q=>q;rcases hc with z|z
  .rw[z];show nit b u e
  .show nit c _ z
def ax.tok(I:ax X pins σ H s)(t:Nat):ax X pins σ H {s with toks:=t}:=I.un (h':=s.heap) (t':=t) Un.refl I.hok
def ax.kept(I:ax X pins σ H s)(k:∀b u,s.heap.get? b=Z u->h'.get? b=Z u):ax X pins σ H {s with heap:=h',toks:=t'}:=I.un (Un.kept k) (I.hok.kept k)
def ax.laid(I:ax X pins σ H s)(k:∀b u,s.heap.get? b=Z u->h'.get? b=Z u)(j:s.heap.objs.size<=a)(n:ck X.prog X.w (upd H a o) h' a o):
  ax X pins σ (upd H a o) {s with heap:=h',toks:=t'}:=I.un (Un.laid k j (I.hok.fresh j)) (I.hok.laid k j n)
def ax.write(I:ax X pins σ H s)(n:Md (H x))(q:e=x\/H e=Z (.own x))(k:∀b u,b≠e->s.heap.get? b=Z u->h'.get? b=Z u)(j:∃u,h'.get? e=Z u)
  (z:ck X.prog X.w (upd H x o) h' x o):ax X pins σ (upd H x o) {s with heap:=h',toks:=t'}:=I.un (Un.write n q k j) (I.hok.write n q k j z)
def ax.weak(I:ax X pins σ H s)(n:σ'.length=σ.length)(w:∀(i:Nat) v,σ'[i]?=Z (Z v)->σ[i]?=Z (Z v)):ax X pins σ' H s:=
 {I.ok,I.os,I.bare,I.base,let ⟨m,q,j⟩:=I.loc;{m,q,λi x v z D B=>j i x v z (w i v D) B},I.cell,I.free,I.freeC,I.pin,I.hok,n.trans I.len}
def ax.pins_of(I:ax X pins σ H s)(h:∀p∈pins',s.heap.get? p.1=Z p.2/\H p.1=Β/\p.1≠X.env.locals/\p.1∉X.fs/\∀v,p.2.data≠.cell v):ax X pins' σ H s:=
 {I.ok,I.os,I.bare,I.base,I.loc,I.cell,I.free,I.freeC,λp j=>(Ν.mp j).elim (λz=>I.pin p (r6 _ z)) (h p),I.hok,I.len}
def og{N:List Str}(n:N.Nodup){i j:Nat}{x:Str}(a:N[i]?=Z x)(b:N[j]?=Z x):i=j:=by ext(⟨h1,q⟩:Υ.mp a);ext(⟨h2,z⟩:Υ.mp b);show(Q3 n).mp (q.trans z.symm)
def qA{M:Model}{A:Ϛ}{E:ν->ψ->Prop}{i:Nat}{x:Str}{v:V}{u:ν}{Q:Unit->ψ->Prop}(I:ax X pins σ H s)(hN:X.N.Nodup)(hi:X.N[i]?=Z x)(hx:Nr X.env.scope x)(r:aU v u)
  (h:∀s',ax X pins (σ.set i (Z v)) H s'->(∃a,F6 a s.heap s'.heap/\(a=X.env.locals\/X.env.cells.lookup x=Z a))->Q Unit.unit s') (hf:autoParam (X.fn x=O\/X.env.scope.names.lookup x=Z .local) yF._auto_1):ύ M A (storeName X.env x u) Q E s:=by
 ext(⟨m,hn,hl⟩:id I.loc);let hcls:(X.env.scope.kind==.class||(X.env.scope.kind==.module&&X.env.locals != X.env.globals))=J:=by rw[I.ok.kind];rfl
 let hiσ:i<σ.length:=by rw[I.len];show(Υ.mp hi).1
 let cne:=I.cne;let tracked:∀{a:υ}{h':ϙ},(∃o,s.heap.get? a=Z o/\H a=Β)->F6 a s.heap h'->gZ X.prog X.w H h':=λ{a h'} ha hs b ob e=>by
  ext(⟨_,_,hfree⟩:ha);show(I.hok b ob e).stay (λc w' hc q=>(hs.2 c ?_).trans q) (λ_ q=>q) λ_ _ q=>q;ext rfl;rcases hc with rfl|hc
  .rw[hfree]at e;cases e
  .rw[hfree]at hc;cases hc
 rcases hx with hk|hk
 .show wpAny_storeName_local hk hn (λh' hn' hs=>?_) hcls;ext(⟨oL,_,_,hoL,_⟩:id hn);show h _ {I.ok,I.os,I.bare,{λb o e n hb hx=>?_,λb o e n hb hx=>?_,I.base.free,λb o e hx=>?_,I.base.tups,I.base.frzs,I.base.tbls},{0,hn',λj y v' e1 e2 e3=>?_},λy c e=>?_,I.free,I.freeC,λp hp=>?_,tracked {oL,hoL,I.free} hs,↑I.len} {0,hs,.inl U}
  .show(hs.2 b (ϩ (Ϝ (Ξ e) I.ok.above))).trans (I.base.keep b o e n hb hx)
  .ext(⟨sl,e1⟩:I.base.slot b o e n hb hx);show{sl,(hs.2 b (ϩ (Ϝ (Ξ e) I.ok.above))).trans e1}
  .ext(⟨o',e1⟩:I.base.there b o e hx);show{o',(hs.2 b (ϩ (Ϝ (Ξ e) I.ok.above))).trans e1}
  .by_cases hj:j=i
   .subst hj;rw[hi]at e1;cases e1;rw[O7 hiσ]at e2;cases e2;show{u,r,.inl {hk,3}}
   .rw[K8 (ϝ hj)]at e2;ext(⟨u',r',q⟩:hl j y v' e1 e2 e3);show{u',r',2};rcases q with ⟨k,e⟩|⟨k,c,e,z⟩
    .show .inl {k,2};let:y≠x:=λe=>hj (og hN e1 (e▸hi));simp[this,e]
    .show .inr {k,c,e,z.sameBut hs (cne y c e)}
  .ext(⟨w',z⟩:I.cell y c e);show{w',z.sameBut hs (cne y c e)}
  .ext(⟨e,n,ne,nf,d⟩:I.pin p hp);show{(hs.2 p.1 ne).trans e,n,ne,nf,d}
 .let hfn:X.fn x=O:=by
   rcases hf with z|z
   .show z
   .rw[z]at hk;cases hk
  ext(⟨c,hc⟩:I.ok.has x (.inl hk));ext(⟨w',z⟩:I.cell x c hc);show wpAny_storeName_cell I.ok.kind hk hc z (λh' hc' hs=>?_);ext(⟨oc,hoc,hocd⟩:id z);show h {s with heap:=h'} {I.ok,I.os,I.bare,{λb o e n hb hx=>?_,λb o e n hb hx=>?_,I.base.free,λb o e hx=>?_,I.base.tups,I.base.frzs,I.base.tbls},{m,hn.sameBut hs (ϝ (cne x c hc)),λj y v' e1 e2 e3=>?_},λy c' e=>?_,I.free,I.freeC,λp hp=>?_,tracked {oc,hoc,I.freeC x c hc} hs,↑I.len} {c,hs,.inr hc}
  .show(hs.2 b (ϩ (Ϝ (Ξ e) (I.ok.cab x c hfn hc)))).trans (I.base.keep b o e n hb hx)
  .ext(⟨sl,e1⟩:I.base.slot b o e n hb hx);show{sl,(hs.2 b (ϩ (Ϝ (Ξ e) (I.ok.cab x c hfn hc)))).trans e1}
  .ext(⟨o',e1⟩:I.base.there b o e hx);show{o',(hs.2 b (ϩ (Ϝ (Ξ e) (I.ok.cab x c hfn hc)))).trans e1}
  .by_cases hj:j=i
   .subst hj;rw[hi]at e1;cases e1;rw[O7 hiσ]at e2;cases e2;show{u,r,.inr {.inl hk,c,hc,hc'}}
   .rw[K8 (ϝ hj)]at e2;ext(⟨u',r',q⟩:hl j y v' e1 e2 e3);show{u',r',2};rcases q with q|⟨k,c',e,z'⟩
    .show .inl q
    .show .inr {k,c',e,z'.sameBut hs ?_};ext rfl;show hj (og hN e1 (I.ok.inj _ _ _ e hc▸hi))
  .by_cases hcc:c'=c
   .subst hcc;show{0,hc'}
   .ext(⟨w2,z2⟩:I.cell y c' e);show{w2,z2.sameBut hs hcc}
  .ext(⟨e,n,ne,nf,d⟩:I.pin p hp);show{(hs.2 p.1 ?_).trans e,n,ne,nf,d};intro q;rw[q,hoc]at e;let q':oc=p.2:=ϡ e;show d w' (by rw[<-q'];show hocd)
def jB(I:ax X pins σ H s)(z:X.N.Nodup)(hi:X.N[i]?=Z x)(j:Nr X.env.scope x)(r:aU v u)
  (h:∀s',ax X pins (σ.set i (Z v)) H s'->Q Unit.unit s') (n:autoParam (X.fn x=O\/X.env.scope.names.lookup x=Z .local) yF._auto_1):ύ M A (storeName X.env x u) Q E s:=
 qA I z hi j r (λs' q _=>h s' q) n
def ax.call'(I:ax X pins σ H s)(ho:s'.os=s.os)(u:Un (gW X.stack) ch H H' s.heap s'.heap)(j:gZ X.prog X.w H' s'.heap)(q:Sk s'.gens)
  (n:∀b∈ch,(b∈X.ex\/X.s₀.heap.objs.size<=b)/\b≠X.env.locals/\(∀x c,X.env.cells.lookup x=Z c->c≠b)/\∀p∈X.pn++pins,p.1≠b):ax X pins σ H' s':=by
 ext(⟨h',g',d',t',o'⟩:s');subst ho;show I.call (g':=g') (t':=t') (d':=d') u j q n
end
abbrev XK:=ν->Option υ->Hp->Prop
abbrev St:=List (Option V)
abbrev VK:=V->Hp->Prop
abbrev TE:=St->Hp->VK->Prop
abbrev TT:=St->Hp->(Bool->Hp->Prop)->Prop
abbrev TA:=St->Hp->(List V->Hp->Prop)->Prop
structure eh where
 nx:St->Hp->Prop
 rt:VK
 bk:St->Hp->Prop:=λ_ _=>False
 ct:St->Hp->Prop:=λ_ _=>False
abbrev TS:=eh->St->Hp->Prop
def EP(X:Cx)(pins:List (υ×Obj))(σ:St)(Q:VK)(u:ν)(s':ψ):Prop:=∃v H',ax X pins σ H' s'/\aU v u/\Q v H'
def TP(X:Cx)(pins:List (υ×Obj))(σ:St)(Q:Bool->Hp->Prop)(b:Bool)(s':ψ):Prop:=∃H',ax X pins σ H' s'/\Q b H'
def AP(X:Cx)(pins:List (υ×Obj))(σ:St)(Q:List V->Hp->Prop)(us:List ν)(s':ψ):Prop:=∃vs H',ax X pins σ H' s'/\aI vs us/\Q vs H'
def SP(X:Cx)(pins:List (υ×Obj))(D:eh)(f:Flow)(s':ψ):Prop:=
 match f with
 |.next=>∃j H',ax X pins j H' s'/\D.nx j H'
 |.brk=>∃j H',ax X pins j H' s'/\D.bk j H'
 |.cont=>∃j H',ax X pins j H' s'/\D.ct j H'
 |.ret u=>∃v j H',ax X pins j H' s'/\aU v u/\D.rt v H'
def PE(X:Cx)(e:Ϲ)(t:TE):Prop:=
 ∀(pins:List (υ×Obj))(s:ψ)(σ:St)(H:Hp)(Q:VK),ax X pins σ H s->t σ H Q->ύ (ϓ X.prog X.w) X.A (eval e X.env) (EP X pins σ Q) X.xe s
def PT(X:Cx)(e:Ϲ)(t:TT):Prop:=
 ∀(pins:List (υ×Obj))(s:ψ)(σ:St)(H:Hp)(Q:Bool->Hp->Prop),ax X pins σ H s->t σ H Q->ύ (ϓ X.prog X.w) X.A (isTrue e X.env (eval e X.env)) (TP X pins σ Q) X.xe s
def PW(X:Cx)(e:Ϲ)(t:TT):Prop:=
 ∀(j:Sem ν)(pins:List (υ×Obj))(s:ψ)(σ:St)(H:Hp)(Q:Bool->Hp->Prop),ax X pins σ H s->t σ H Q->ύ (ϓ X.prog X.w) X.A (isTrue e X.env j) (TP X pins σ Q) X.xe s
def PW.pt(h:PW X e t):PT X e t:=h _
def PA(X:Cx)(es:List Ϲ)(t:TA):Prop:=
 ∀(pos:Pos)(pins:List (υ×Obj))(s:ψ)(σ:St)(H:Hp)(Q:List V->Hp->Prop),ax X pins σ H s->t σ H Q->ύ (ϓ X.prog X.w) X.A (spliced (C_ pos (ϗ es X.env))) (AP X pins σ Q) X.xe s
def PS(X:Cx)(st:ϸ)(t:TS):Prop:=
 ∀(pins:List (υ×Obj))(s:ψ)(σ:St)(H:Hp)(D:eh),ax X pins σ H s->t D σ H->ύ (ϓ X.prog X.w) X.A (exec st X.env) (SP X pins D) X.xe s
def lG(X:Cx)(st:List ϸ)(t:TS):Prop:=
 ∀(pins:List (υ×Obj))(s:ψ)(σ:St)(H:Hp)(D:eh),ax X pins σ H s->t D σ H->ύ (ϓ X.prog X.w) X.A (execs st X.env) (SP X pins D) X.xe s
def bw(h:ύ M A t Q E s)(j:∀a s,Q a s->Q' a s):ύ M A t Q' E s:=m_ h j λ_ _ x=>x
section
variable{X:Cx}
inductive jq (i:Nat) (σ:St) (H:Hp) (Q:VK):Prop|mk v (_:σ[i]?=Z (Z v)) (_:Q v H)
def tC(v:V):TE:=λ_ H Q=>Q v H
def CH(F:X.N[i]?=Z x)(L:Mc X.env.scope x)(q:autoParam ((x==("__debug__" : Str))=J) yD._auto_1)(D:autoParam ((x==("__classdict__" : Str))=J) yD._auto_1):PE X (.Name x pos) (jq i):=by
 intro pins s σ H Q I h;ext(⟨v,e,h⟩:h);ext(⟨m,M,a⟩:I.loc);ext(⟨u,r,l⟩:a i x v F e L);let n:EP X pins σ Q u s:={v,H,I,r,h};rcases l with ⟨j,G⟩|⟨j,c,B,z⟩
 .show wpAny_Name (wpAny_loadName_local I.ok.kind j M G n) q
 .rcases j with j|j
  .show wpAny_Name (wpAny_loadName_cell I.ok.kind j B z n) q
  .show wpAny_Name (wpAny_loadName_free I.ok.kind j B z n D) q
def pe_int{i j pos}:PE X (.Constant (.int i) j pos) (tC (.int i)):=λ_ _ _ H _ I h=>wpAny_Constant_int {.int i,H,I.tok _,{01},h}
def pe_bl{b j pos}:PE X (.Constant (.bool b) j pos) (tC (.bl b)):=λ_ _ _ H _ I h=>Constant_bool {.bl b,H,I,1,h}
def pe_non{j pos}:PE X (.Constant .none j pos) (tC .non):=λ_ _ _ H _ I h=>Constant_none {.non,H,I,1,h}
def pe_str{x j pos}:PE X (.Constant (.str x) j pos) (tC (.str x)):=λ_ _ _ H _ I h=>Calls.Constant_str {.str x,H,I.tok _,{01},h}
def Gl(X:Cx)(x:Str):Prop:=X.env.kindOf x=Z .globalImplicit
def fG(I:ax X pins σ H s)(j:Gl X x)(n:X.mg x=Z u)(h:Q u s)
  (q:autoParam ((x==("__debug__" : Str))=J) yD._auto_1):ύ (ϓ X.prog X.w) X.A (eval (.Name x pos) X.env) Q E s:=
 Sx I.ok.kind j (Calls.loadGlobal_global (by rw[I.ok.glob];show I.mod.glob.keeps I.bk) n h) q
def iu(I:ax X pins σ H s)(q:Gl X x)(z:X.mg x=Β)(j:M2 x=Z u)(h:Q u s)
  (n:autoParam (x≠"__name__") yD._auto_1) (B:autoParam ((x==("__debug__" : Str))=J) yD._auto_1):ύ (ϓ X.prog X.w) X.A (eval (.Name x pos) X.env) Q E s:=by
 ext(⟨D,h1,h2⟩:I.mod.blt);show Sx I.ok.kind q (Calls.loadGlobal_builtin (by rw[I.ok.glob];show I.mod.glob.keeps I.bk) z (by rw[I.ok.blt];show h1.keeps I.bk) ((h2 x n).trans j) h) B
def pe_glob(j:Gl X x)(n:X.mg x=Z u)(r:aU v u)(q:autoParam ((x==("__debug__" : Str))=J) yD._auto_1):PE X (.Name x pos) (tC v):=
 λ_ _ _ H _ I h=>fG I j n {v,H,I,r,h} q
def pe_bltn(q:Gl X x)(z:X.mg x=Β)(j:M2 x=Z u)(r:aU v u)(n:autoParam (x≠"__name__") yD._auto_1)(B:autoParam ((x==("__debug__" : Str))=J) yD._auto_1):PE X (.Name x pos) (tC v):=
 λ_ _ _ H _ I h=>iu I q z j {v,H,I,r,h} n B
variable{a b:Ϲ}{ta tb:TE}{pos:Pos}
inductive Qp  (Q:Bool->Hp->Prop) (x:V) (H1:Hp):Prop|mk c (_:x=.bl c) (_:Q c H1)
def tB(t:TE):TT:=λσ H Q=>t σ H (Qp Q)
def pt_val{e:Ϲ}{t:TE}(h:PE X e t)(he:autoParam (∀whole,isTrue e X.env whole=(do let v <-whole;standAt e.pos;holding [v] (truthy v))) yI._auto_1):PT X e (tB t):=by intro pins s σ H Q I hw;show isTrue_plain (bw (h pins s σ H _ I hw) λv s1 ⟨x,H1,I1,r1,q1⟩=>?_) (he _);ext(⟨d,rfl,q⟩:q1);cases r1;show p_ {H1,I1,q}
variable{tA tB':TT}{rest:List Ϲ}
def Kk(t u:TT):TT:=λσ H Q=>t σ H λc H1=>if c=O then u σ H1 Q else Q J H1
def PK(t u:TT):TT:=λσ H Q=>t σ H λc H1=>if c=O then Q O H1 else u σ H1 Q
def Pf(t:TT):TT:=λσ H Q=>t σ H λc H1=>Q (!c) H1
def pw_and1(j:PT X a tA):PW X (.BoolOp .And [a] pos) tA:=by
 intro n pins s σ H Q I h;show isTrue_and (bw (j pins s σ H Q I h) λc q e=>?_);cases c with
 |true=>show isTrue_and_nil e
 |false=>show e
def pw_or1(j:PT X a tA):PW X (.BoolOp .Or [a] pos) tA:=by
 intro n pins s σ H Q I h;show isTrue_or (bw (j pins s σ H Q I h) λc q e=>?_);cases c with
 |false=>show isTrue_or_nil e
 |true=>show e
def pw_and(B:PT X a tA)(D:PW X (.BoolOp .And (b::rest) pos) tB'):PW X (.BoolOp .And (a::b::rest) pos) (Kk tA tB'):=by
 intro z pins s σ H Q I h;show isTrue_and (bw (B pins s σ H _ I h) λc q ⟨H1,n,j⟩=>?_);cases c with
 |true=>show D z pins q σ H1 Q n j
 |false=>show{H1,n,j}
def pw_or(B:PT X a tA)(D:PW X (.BoolOp .Or (b::rest) pos) tB'):PW X (.BoolOp .Or (a::b::rest) pos) (PK tA tB'):=by
 intro z pins s σ H Q I h;show isTrue_or (bw (B pins s σ H _ I h) λc q ⟨H1,n,j⟩=>?_);cases c with
 |true=>show{H1,n,j}
 |false=>show D z pins q σ H1 Q n j
def pt_not(ha:PT X a tA):PT X (.UnaryOp .Not a pos) (Pf tA):=by intro pins s σ H Q I h;show isTrue_not (ha pins s σ H (λc H1=>Q (!c) H1) I h)
inductive Gb (ta tb:TE) (σ:St) (Q:VK) (x:V) (H1:Hp):Prop|mk c (_:x=.bl c) (_:if c=O then tb σ H1 Q else Q (.bl J) H1)
def Os(ta tb:TE):TE:=λσ H Q=>ta σ H (Gb ta tb σ Q)
inductive Ko (ta tb:TE) (σ:St) (Q:VK) (x:V) (H1:Hp):Prop|mk c (_:x=.bl c) (_:if c=O then Q (.bl O) H1 else tb σ H1 Q)
def Nh(ta tb:TE):TE:=λσ H Q=>ta σ H (Ko ta tb σ Q)
inductive Gh  (Q:VK) (x:V) (H1:Hp):Prop|mk c (_:x=.bl c) (_:Q (.bl (!c)) H1)
def Mm(ta:TE):TE:=λσ H Q=>ta σ H (Gh Q)
def pe_one{op}(h:PE X a t):PE X (.BoolOp op [a] pos) t:=λpins s σ H Q I j=>BoolOp_one (h pins s σ H Q I j)
def pe_and(z:PE X a ta)(D:PE X (.BoolOp .And (b::rest) pos) tb):PE X (.BoolOp .And (a::b::rest) pos) (Os ta tb):=by
 intro pins s σ H Q I h;show BoolOp_and (bw (z pins s σ H _ I h) λv q ⟨x,H1,n,B,j⟩=>?_);ext(⟨c,rfl,j⟩:j);cases B;show p_ ?_;cases c with
 |true=>show D pins q σ H1 Q n j
 |false=>show{.bl J,H1,n,1,j}
def pe_or(z:PE X a ta)(D:PE X (.BoolOp .Or (b::rest) pos) tb):PE X (.BoolOp .Or (a::b::rest) pos) (Nh ta tb):=by
 intro pins s σ H Q I h;show BoolOp_or (bw (z pins s σ H _ I h) λv q ⟨x,H1,n,B,j⟩=>?_);ext(⟨c,rfl,j⟩:j);cases B;show p_ ?_;cases c with
 |false=>show D pins q σ H1 Q n j
 |true=>show{.bl O,H1,n,1,j}
def pe_not(z:PE X a ta):PE X (.UnaryOp .Not a pos) (Mm ta):=by intro pins s σ H Q I h;show UnaryOp_ (bw (z pins s σ H _ I h) λv B ⟨x,H1,n,q,j⟩=>?_);ext(⟨c,rfl,j⟩:j);cases q;show not_of (p_ {.bl (!c),H1,n,1,j})
def RO(t:TT)(ta tb:TE):TE:=λσ H Q=>t σ H λc H1=>if c=O then ta σ H1 Q else tb σ H1 Q
def pe_ifExp(z:PT X c tA)(D:PE X a ta)(B:PE X b tb):PE X (.IfExp c a b pos) (RO tA ta tb):=by
 intro pins s σ H Q I h;show wpAny_IfExp (bw (z pins s σ H _ I h) λd q ⟨H1,j,n⟩=>?_);cases d with
 |true=>show D pins q σ H1 Q j n
 |false=>show B pins q σ H1 Q j n
end
def aD(K:η)(H:Hp)(a:υ)(xs:List V):Prop:=
 Rd H a (.lst xs) \/
  ∃(o:Obj) (its:Array ν) (n:Nat),K.lookup a=Z o/\o.cls=.type "list"/\o.dict=Β/\o.data=.seq its n/\its.size<=Λ/\aI xs its.toList
def aw(K:η)(H:Hp)(a:υ)(xs:List V):Prop:=
 Rd H a (.tup xs) \/
  ∃(o:Obj) (its:Array ν) (n:Nat),K.lookup a=Z o/\o.cls=.type "tuple"/\o.data=.seq its n/\its.size<=Λ/\aI xs its.toList
def Qm:ν->Option V
 |.none=>Z .non
 |.bool b=>Z (.bl b)
 |.int i _=>Z (.int i)
 |.str x _=>Z (.str x)
 |.bytes b _=>Z (.byt b)
 |.float b _=>Z (.flt b)
 |.ref a=>Z (.ref a)
 |.type n=>Z (.ty n)
 |_=>Β
def aU.abs(r:aU x u):Qm u=Z x:=by
 cases x with
 |non=>cases r;rfl
 |bl _=>cases r;rfl
 |int _=>ext(⟨t,rfl⟩:r);rfl
 |str _=>ext(⟨t,rfl⟩:r);rfl
 |byt _=>ext(⟨t,rfl⟩:r);rfl
 |flt _=>ext(⟨t,rfl⟩:r);rfl
 |ref _=>cases r;rfl
 |ty _=>cases r;rfl
def aU.inj(r:aU x u)(q:aU y u):x=y:=ϡ (r.abs.symm.trans q.abs)
def aI.inj{xs ys:List V}{us:List ν}(h:aI xs us)(k:aI ys us):xs=ys:=by
 induction h generalizing ys with
 |nil=>cases k;rfl
 |cons r t b=>cases k with|cons p q=>rw[r.inj p,b q]
section
variable{X:Cx}{pins:List (υ×Obj)}{σ:St}{H:Hp}{s:ψ}{a:υ}{xs ys:List V}
def aD.of{K:η}(h:H a=Z (.lst xs)):aD K H a xs:=.inl (.inl h)
def aw.of{K:η}(h:H a=Z (.tup xs)):aw K H a xs:=.inl (.inl h)
def ax.list(I:ax X pins σ H s)(h:aD X.K H a xs):∃its:List ν,aI xs its/\PlainL s.heap a its.toArray/\xs.length<=Λ:=by
 rcases h with h|⟨o,its,n,hk,hc,hd,hs,hz,r⟩
 .ext(⟨z,its,n,r,e⟩:h.ok I.hok);show{its,r,{0,n,e,111},z}
 .show{its.toList,r,{o,n,I.kIn a o hk,hc,hd,↑hs},2};let e:=r.length;simp only[Θ]at e;omega
def ax.tuple(I:ax X pins σ H s)(h:aw X.K H a xs):∃its:List ν,aI xs its/\IsTup s.heap a its.toArray/\xs.length<=Λ:=by
 rcases h with h|⟨o,its,n,hk,hc,hs,hz,r⟩
 .ext(⟨z,its,r,p⟩:h.ok I.hok);show{its,r,p.1,z}
 .show{its.toList,r,{o,I.kIn a o hk,hc,n,↑hs},2};let e:=r.length;simp only[Θ]at e;omega
def ax.list_inj(I:ax X pins σ H s)(h:aD X.K H a xs)(h':aD X.K H a ys):xs=ys:=by
 ext(⟨its,r,⟨o,n,e,_,_,d⟩,_⟩:I.list h);ext(⟨its',r',⟨o',z,j,_,_,d'⟩,_⟩:I.list h');rw[e]at j;cases j;rw[d]at d';injection d' with q _;let:its=its':=↑(congrArg Array.toList q)
 subst this;show r.inj r'
def ax.tuple_inj(I:ax X pins σ H s)(h:aw X.K H a xs)(h':aw X.K H a ys):xs=ys:=by
 ext(⟨its,r,⟨o,e,_,n,d⟩,_⟩:I.tuple h);ext(⟨its',r',⟨o',j,_,z,d'⟩,_⟩:I.tuple h');rw[e]at j;cases j;rw[d]at d';injection d' with q _;let:its=its':=↑(congrArg Array.toList q)
 subst this;show r.inj r'
end
abbrev Cx.wish(X:Cx)(E:ν->ψ->Prop):Cx:={X with xe:=E}
abbrev Cx.nox(X:Cx):Cx:=X.wish λ_ _=>False
def Cx.Ok.wish{X:Cx}(j:X.Ok)(E:ν->ψ->Prop):(X.wish E).Ok:=
 {j.mod,j.kind,j.glob,j.blt,j.above,j.inj,j.has,j.cab,j.hd,j.frames,j.stk,j.exf,j.bs,j.bsz,j.noex,j.exfs,j.funs,j.frf}
def Cx.Ok.unwish{X:Cx}{E:ν->ψ->Prop}(j:(X.wish E).Ok):X.Ok:=
 {j.mod,j.kind,j.glob,j.blt,j.above,j.inj,j.has,j.cab,j.hd,j.frames,j.stk,j.exf,j.bs,j.bsz,j.noex,j.exfs,j.funs,j.frf}
section
variable{X:Cx}{pins:List (υ×Obj)}{σ:St}{H:Hp}{s:ψ}{E:ν->ψ->Prop}
def ax.wish(I:ax X pins σ H s)(E:ν->ψ->Prop):ax (X.wish E) pins σ H s:={I.ok.wish E,I.os,I.bare,I.base,I.loc,I.cell,I.free,I.freeC,I.pin,I.hok,I.len}
def ax.unwish(I:ax (X.wish E) pins σ H s):ax X pins σ H s:={I.ok.unwish,I.os,I.bare,I.base,I.loc,I.cell,I.free,I.freeC,I.pin,I.hok,I.len}
def SP.unwish(h:SP (X.wish E) pins D f s'):SP X pins D f s':=by
 cases f with
 |next=>ext(⟨σ',H',I,q⟩:h);show{σ',H',I.unwish,q}
 |brk=>ext(⟨σ',H',I,q⟩:h);show{σ',H',I.unwish,q}
 |cont=>ext(⟨σ',H',I,q⟩:h);show{σ',H',I.unwish,q}
 |ret u=>ext(⟨v,σ',H',I,r,q⟩:h);show{v,σ',H',I.unwish,r,q}
def PE.nox{e:Ϲ}{t:TE}(h:PE X.nox e t):PE X e t:=λpins s σ H Q I hw=>
 m_ (h pins s σ H Q (I.wish _) hw) (λ_ _ ⟨v,H',I',r,q⟩=>{v,H',I'.unwish,r,q}) λ_ _ z=>ϴ z
def lG.nox{st:List ϸ}{t:TS}(h:lG X.nox st t):lG X st t:=λpins s σ H D I hw=>
 m_ (h pins s σ H D (I.wish _) hw) (λ_ _ q=>q.unwish) λ_ _ z=>ϴ z
end
section
variable{X:Cx}{st:ϸ}{rest:List ϸ}{t u:TS}{e:Ϲ}{te:TE}{pos:Pos}
def zE:TS:=λD σ H=>D.nx σ H
def jK(t u:TS):TS:=λD σ H=>t {D with nx:=u D} σ H
def pss_nil:lG X [] zE:=λ_ _ σ H _ I h=>J5 {σ,H,I,h}
def pss_cons(h1:PS X st t)(h2:lG X rest u):lG X (st::rest) (jK t u):=by
 intro pins s σ H D I h;show Td (bw (h1 pins s σ H {D with nx:=u D} I h) λf s1 q=>?_);cases f with
 |next=>ext(⟨σ',H',I',q⟩:q);show h2 pins s1 σ' H' D I' q
 |ret v=>show q
 |brk=>show q
 |cont=>show q
def pss_one(h1:PS X st t):lG X [st] t:=by
 intro pins s σ H D I h;show Td (bw (h1 pins s σ H D I h) λf s1 q=>?_);cases f with
 |next=>show J5 q
 |ret v=>show q
 |brk=>show q
 |cont=>show q
def ax.quiet(I:ax X pins σ H s):interactive X.env=J:=by simp[interactive,I.ok.kind]
def Ms(te:TE):TS:=λD σ H=>te σ H λ_ H1=>D.nx σ H1
def ps_expr(z:PE X e te)(j:autoParam (swapsWith e Β pos.line X.env=pure J) yR._auto_1):PS X (.Expr e pos) (Ms te):=by intro pins s σ H D I h;show wpAny_Expr_any (bw (z pins s σ H _ I h) λv F ⟨x,H1,n,B,q⟩=>{σ,H1,n,q}) I.quiet j
def EN(te:TE):TS:=λD σ H=>te σ H D.rt
def ps_ret(z:PE X e te):PS X (.Return (Z e) pos) (EN te):=by intro pins s σ H D I h;show wpAny_Return_some (bw (z pins s σ H _ I h) λv B ⟨x,H1,j,n,q⟩=>{x,σ,H1,j,n,q})
def FX(c:TT)(t u:TS):TS:=λD σ H=>c σ H λb H1=>if b=O then t D σ H1 else u D σ H1
def ps_if(z:PT X c tc)(F:lG X a t)(B:lG X b u):PS X (.If c a b pos) (FX tc t u):=by
 intro pins s σ H D I h;show wpAny_If (bw (z pins s σ H _ I h) λd q ⟨H1,j,n⟩=>?_);cases d with
 |true=>show F pins q σ H1 D j n
 |false=>show B pins q σ H1 D j n
end
abbrev TG:=V->St->Hp->(St->Hp->Prop)->Prop
abbrev LY:=List V->St->Hp->(St->Hp->Prop)->Prop
def PG(X:Cx)(n:Ϲ)(t:TG):Prop:=
 ∀(pins:List (υ×Obj))(s:ψ)(σ:St)(H:Hp)(v:V)(u:ν)(Q:St->Hp->Prop),ax X pins σ H s->aU v u->t v σ H Q ->
  ύ (ϓ X.prog X.w) X.A (assign n X.env u) (λ_ s'=>∃j H',ax X pins j H' s'/\Q j H') X.xe s
def Oz(X:Cx)(n:List Ϲ)(t:LY):Prop:=
 ∀(pins:List (υ×Obj))(s:ψ)(σ:St)(H:Hp)(vs:List V)(us:List ν)(Q:St->Hp->Prop),ax X pins σ H s->aI vs us->t vs σ H Q ->
  ύ (ϓ X.prog X.w) X.A (assignInOrder ((assignEach n X.env).map (·.2)) us) (λ_ s'=>∃j H',ax X pins j H' s'/\Q j H') X.xe s
abbrev Nk:=V->V->V->Hp->(Hp->Prop)->Prop
def NH(X:Cx)(t:Nk):Prop:=
 ∀(pins:List (υ×Obj))(s:ψ)(σ:St)(H:Hp)(o i v:V)(j n u:ν)(Q:Hp->Prop),ax X pins σ H s->aU o j->aU i n->aU v u->t o i v H Q ->
  ύ (ϓ X.prog X.w) X.A (setItem j n u) (λ_ s'=>∃H',ax X pins σ H' s'/\Q H') X.xe s
abbrev PL:=V->V->Hp->VK->Prop
def QK(X:Cx)(op:TZ)(t:PL):Prop:=
 ∀(pins:List (υ×Obj))(s:ψ)(σ:St)(H:Hp)(x y:V)(v u:ν)(Q:VK),ax X pins σ H s->aU x v->aU y u->t x y H Q ->
  ύ (ϓ X.prog X.w) X.A (inplaceOp op v u) (EP X pins σ Q) X.xe s
section
variable{X:Cx}{pos:Pos}
def ez(i:Nat):TG:=λv σ H Q=>Q (σ.set i (Z v)) H
def pg_name(z:X.N.Nodup)(hi:X.N[i]?=Z x)(j:Nr X.env.scope x)(n:autoParam (X.fn x=O\/X.env.scope.names.lookup x=Z .local) yF._auto_1):PG X (.Name x pos) (ez i):=by intro pins s σ H v u Q I r h;show wpAny_assign_Name (jB I z hi j r (λs' q=>{0,H,q,h}) n)
def Bm:LY:=λvs σ H Q=>vs=[]/\Q σ H
inductive lg (t:TG) (u:LY) (vs:List V) (σ:St) (H:Hp) (Q:St->Hp->Prop):Prop|mk v r (_:vs=v::r) (_:t v σ H λσ' H'=>u r σ' H' Q)
def pgs_nil:Oz X [] Bm:=by intro pins s σ H vs us Q I r h;ext(⟨e,h⟩:h);subst e;cases r;show assignInOrder_nil {σ,H,I,h}
def pgs_cons(h1:PG X e t)(h2:Oz X es u)
  (B:autoParam ((assignEach (e::es) X.env).map (·.2)=assign e X.env::(assignEach es X.env).map (·.2)) yR._auto_1):Oz X (e::es) (lg t u):=by
 intro pins s σ H vs us Q I r h;ext(⟨v,G,q,h⟩:h);subst q;cases r with
 |cons r n=>rw[B];show assignInOrder_cons (bw (h1 pins s σ H _ _ _ I r h) λ_ z ⟨j,H1,F,D⟩=>h2 pins z j H1 _ _ Q F n D)
inductive FQ (K:η) (n:Nat) (t:LY) (v:V) (σ:St) (H:Hp) (Q:St->Hp->Prop):Prop|mk a xs (_:v=.ref a) (_:aw K H a xs) (_:xs.length=n) (_:t xs σ H Q)
def pg_tup(F:X.calm=O)(h:Oz X es t)
  (M:autoParam ((assignEach es X.env).length=n) yR._auto_1) (z:autoParam ((assignEach es X.env).findIdx? (·.1)=Β) yR._auto_1):PG X (.Tuple es k pos) (FQ X.K n t):=by
 intro pins s σ H v u Q I r j;ext(⟨a,xs,B,L,G,j⟩:j);subst B;cases r;ext(⟨its,q,D,hz⟩:I.tuple L);show assign_Tuple_tuple (I.ok.hd F) D (by simp[M,<-G,q.length]) z λh' c=>?_;show h pins _ σ H xs _ Q (I.kept (t':=s.toks) λb o e=>c b o (ϩ (Ξ e)) e) (↑q) j
def OZ(to n:TE)(t:Nk):TG:=λv σ H Q=>to σ H λo H1=>n σ H1 λi H2=>t o i v H2 λj=>Q σ j
def pg_sub(ho:PE X o to)(hi:PE X i ti)(c:NH X t)
  (D:autoParam (∀v,assign (.Subscript o i pos) X.env v=(do
   let j <-holding [v] (eval o X.env)
   let n <-holding [v,j] (eval i X.env)
   standAt pos
   holding [v,j,n] (setItem j n v)
   release [v,j,n] [])) yI._auto_1):PG X (.Subscript o i pos) (OZ to ti t):=by
 intro pins s σ H v u Q I r h;rw[D];show ζ (E1 (bw (ho pins s σ H _ I h) λj z ⟨x,H1,b,N,M⟩=>ζ (E1 (bw (hi pins z σ H1 _ b M) λn B ⟨y,H2,F,G,S⟩=>?_))));show ζ (Q9 (ζ (E1 (bw (c pins B σ H2 x y v j n u _ F N G r S) λ_ a ⟨R,q,L⟩=>wpAny_release {σ,R,q,L}))))
def JU(te:TE)(g:TG):TS:=λD σ H=>te σ H λx H1=>g x σ H1 D.nx
def ps_asg(G:PE X e te)(n:PG X tg g)(z:autoParam (swapsWithSole [tg] e pos.line X.env=pure J) yR._auto_1)(L:autoParam (swappedStores [tg] e X.env=pure Β) yR._auto_1)
  (h1:autoParam ((assignEach [tg] X.env).map (·.2)=[assign tg X.env]) yR._auto_1):PS X (.Assign [tg] e pos) (JU te g):=by
 intro pins s σ H D I h;show wpAny_Assign_stores (bw (G pins s σ H _ I h) λv j ⟨x,H1,a,F,B⟩=>?_) z L;rw[h1];show bw (n pins j σ H1 x v _ a F B) λ_ M q=>q
def ps_set(n:X.N.Nodup)(hi:X.N[i]?=Z x)(z:Nr X.env.scope x)(L:PE X e te)(B:autoParam (swapsWith e (Z (.Name x pos')) pos.line X.env=pure J) yR._auto_1)(j:autoParam (X.fn x=O\/X.env.scope.names.lookup x=Z .local) yF._auto_1):
  PS X (.Assign [.Name x pos'] e pos) (JU te (ez i)):=by
 intro pins s σ H D I h;show wpAny_Assign_Name (bw (L pins s σ H _ I h) λv M ⟨y,H1,a,G,F⟩=>?_) B;show jB a n hi z G (λN q=>{0,H1,q,F}) j
inductive Po (i:Nat) (te:TE) (ti:PL) (D:eh) (σ:St) (H:Hp):Prop|mk x (_:σ[i]?=Z (Z x)) (_:te σ H λy H1=>ti x y H1 λz H2=>D.nx (σ.set i (Z z)) H2)
def ps_aug{i:Nat}{x:Str}{e:Ϲ}{te:TE}{op:TZ}{ti:PL}{pos':Pos}(hN:X.N.Nodup)(hi:X.N[i]?=Z x)(hx:Nr X.env.scope x)(he:PE X e te)(ho:QK X op ti)(hf:autoParam (X.fn x=O\/X.env.scope.names.lookup x=Z .local) yF._auto_1):
  PS X (.AugAssign (.Name x pos') op e pos) (Po i te ti):=by
 intro pins s σ H D I h;ext(⟨v,e1,h⟩:h);ext(⟨m,hn,hl⟩:I.loc);let vis:Mc X.env.scope x:=by rcases hx with k|k;show .inl k;show .inr (.inl k)
 ext(⟨u,r,l⟩:hl i x v hi e1 vis);show wpAny_AugAssign_Name ?_;let go:ύ (ϓ X.prog X.w) X.A (eval e X.env) (λw s₂=>ύ (ϓ X.prog X.w) X.A (inplaceOp op u w) (λr s₃=>ύ (ϓ X.prog X.w) X.A (storeName X.env x r) (λ_=>SP X pins D .next) X.xe s₃) X.xe s₂) X.xe s:=by show bw (he pins s σ H _ I h) λw s1 ⟨y,H1,I1,r1,q1⟩=>?_;show bw (ho pins s1 σ H1 v y u w _ I1 r r1 q1) λz s2 ⟨zv,H2,I2,r2,q2⟩=>?_;show jB I2 hN hi hx r2 (λs3 I3=>{0,H2,I3,q2}) hf
 rcases l with ⟨hk,hm⟩|⟨hk,c,hc,hcell⟩
 .show wpAny_loadName_local I.ok.kind hk hn hm go
 .rcases hk with hk|hk
  .show wpAny_loadName_cell I.ok.kind hk hc hcell go
  .rcases hx with k|k
   .let:X.env.scope.names.lookup x=Z .free:=hk;rw[k]at this;cases this
   .let:X.env.scope.names.lookup x=Z .free:=hk;rw[k]at this;cases this
inductive Rr (f:Int->Int->Int) (x:V) (y:V) (H:Hp) (Q:VK):Prop|mk i j (_:x=.int i) (_:y=.int j) (_:Q (.int (f i j)) H)
def CD:QK X .Add (Rr λi j=>i+j):=by ext pins s σ H x y v u Q I D z ⟨i,j,n,B,q⟩;subst n;subst B;ext(⟨t,rfl⟩:D);ext(⟨t',rfl⟩:z);show iadd_int {.int _,H,I.tok _,{01},q}
def yr(c:TT)(tb:TS):TS:=λD σ H=>∃W:Nat->St->Hp->Prop,(∃m,W m σ H)/\∀m σ H,W m σ H ->
 c σ H λb H1=>if b=O then ∃N:St->Hp->Prop,(∀j H',N j H'->∃n,n<m/\W n j H')/\tb {D with nx:=N,ct:=N,bk:=D.nx} σ H1 else D.nx σ H1
def ps_while{c:Ϲ}{body:List ϸ}{tc:TT}{tb:TS}(hp:PassesOwn (ϓ X.prog X.w) X.A X.env X.xe)(hc:PT X c tc)(hb:lG X body tb):PS X (.While c body [] pos) (yr tc tb):=by
 intro pins s σ H D I h;ext(⟨W,⟨m0,w0⟩,turn⟩:h);show wpAny_While (codeAny_whileLoop (λn s'=>∃σ' H',ax X pins σ' H' s'/\W n σ' H') ?_ m0 {σ,H,I,w0});ext n s1 ⟨σ1,H1,I1,w1⟩;show F5 hp (bw (hc pins s1 σ1 H1 _ I1 (turn n σ1 H1 w1)) λb s2 ⟨H2,I2,q2⟩=>?_);cases b with
 |true=>
  ext(⟨N,hN,q2⟩:q2);rw[Z5 U];show F5 hp (bw (hb pins s2 σ1 H2 _ I2 q2) λf s3 q3=>?_);cases f with
  |next=>ext(⟨σ3,H3,I3,n3⟩:q3);ext(⟨m',hm,w3⟩:hN σ3 H3 n3);show{m',hm,σ3,H3,I3,w3}
  |cont=>ext(⟨σ3,H3,I3,n3⟩:q3);ext(⟨m',hm,w3⟩:hN σ3 H3 n3);show{m',hm,σ3,H3,I3,w3}
  |brk=>show q3
  |ret v=>show q3
 |false=>rw[Z6 Χ];show J5 {σ1,H2,I2,q2}
end
structure It where
 go:Nat->Hp->Prop
 yld:Nat->Hp->V->Hp->Prop
 stop:Nat->Hp->Prop
def kl(X:Cx)(pins:List (υ×Obj))(H:Hp)(b:υ):Prop:=
 H b=Β/\b≠X.env.locals/\b∉X.fs/\(b∈X.ex\/X.s₀.heap.objs.size<=b)/\(∀x c,X.env.cells.lookup x=Z c->c≠b)/\∀p∈X.pn++pins,p.1≠b
def ax.fpOk(I:ax X pins σ H s)(j:s.heap.objs.size<=b)(B:H' b=Β):kl X pins H' b:=by
 show{B,D0 (Ϝ I.lt j),I.nofs j,.inr (Ϫ I.sz j),λx c e z=>?_,λp n z=>?_}
 .ext(⟨v,q⟩:I.cell x c e);show absurd (Ϝ q.lt (by rw[z];show j)) (G0 _)
 .show absurd (Ϝ (Ξ (I.pin p n).1) (by rw[z];show j)) (G0 _)
structure CC(C:Cx->Prop)(P:Ι)(w:ώ)(K:η)(tg:Ϲ)(a:It)(fp:List υ)(it:υ)(tn:Nat->ϙ->Prop):Prop where
 mem:it∈fp
 obj:∀i h,tn i h->∀b∈fp,∃o,h.get? b=Z o/\∀v,o.data≠.cell v
 keep:∀i h h',tn i h->(∀b∈fp,∀o,h.get? b=Z o->h'.get? b=Z o)->tn i h'
 item:∀(X:Cx),X.prog=P->X.w=w->X.K=K->C X->∀(i:Nat)(pins:List (υ×Obj))(s:ψ)(σ:St)(H:Hp)(E:ν->ψ->Prop),ax X pins σ H s->(∀b∈fp,kl X pins H b)->tn i s.heap->a.go i H ->
  ύ (ϓ P w) X.A (TR (.ref it)) (λr s1=>∃u,r=Z u /\
   ύ (ϓ P w) X.A (letOwnedTupleGo tg (.ref it) u) (λ_ s2=>∃x H',ax X pins σ H' s2/\aU x u/\a.yld i H x H'/\tn (i+1) s2.heap/\∀b∈fp,H' b=Β) E s1) E s
 done:∀(X:Cx),X.prog=P->X.w=w->X.K=K->C X->∀(i:Nat)(pins:List (υ×Obj))(s:ψ)(σ:St)(H:Hp)(E:ν->ψ->Prop),ax X pins σ H s->(∀b∈fp,kl X pins H b)->tn i s.heap->a.stop i H ->
  ύ (ϓ P w) X.A (TR (.ref it)) (λr s1=>r=Β/\ax X pins σ H s1) E s
 self:∀(A:Ϛ)(i:Nat)(s:ψ)(Q:ν->ψ->Prop)(E:ν->ψ->Prop),tn i s.heap->Q (.ref it) s->ύ (ϓ P w) A (pyIter (.ref it)) Q E s
abbrev tX:=CC λX=>X.calm=O
abbrev TI:=St->Hp->(It->Hp->Prop)->Prop
def QN(X:Cx)(pins:List (υ×Obj))(σ:St)(tg:Ϲ)(R:It->Hp->Prop)(z:ν)(q:ψ):Prop:=
 ∃(it:υ) (n:List υ) (j:Nat->ϙ->Prop) (a:It) (H':Hp),z=.ref it/\ax X pins σ H' q/\tX X.prog X.w X.K tg a n it j/\j 0 q.heap/\(∀b∈n,kl X pins H' b)/\R a H'
def PI(X:Cx)(tg j:Ϲ)(n:TI):Prop:=
 ∀(pins:List (υ×Obj))(s:ψ)(σ:St)(H:Hp)(R:It->Hp->Prop),ax X pins σ H s->n σ H R ->
  ύ (ϓ X.prog X.w) X.A (eval j X.env) (λv q=>ύ (ϓ X.prog X.w) X.A (pyIter v) (QN X pins σ tg R) X.xe q) X.xe s
def uN{M:Model}{A:Ϛ}{E:ν->ψ->Prop}{s:ψ}{tg:Ϲ}{it:υ}{u:ν}{o:Obj}{n:String}{vs:Array ν}{Q:Unit->ψ->Prop}(ho:s.heap.get? it=Z o)(hc:o.cls=.type n)(hd:o.data=.fields vs)
  (hn:["enumerate","zip","dict_itemiterator","dict_reverseitemiterator","odict_iterator","itertools.zip_longest","itertools.pairwise"].contains n=J) (hQ:Q Unit.unit s):ύ M A (letOwnedTupleGo tg (.ref it) u) Q E s:=by
 unfold letOwnedTupleGo;cases tg<;>first
  |show Η hQ
  |(cases u<;>first
    |show Η hQ
    | (show ζ (wpAny_load ho ?_)
       rw[hc,hd];change ύ M A (if (["enumerate","zip","dict_itemiterator","dict_reverseitemiterator","odict_iterator","itertools.zip_longest","itertools.pairwise"].contains n&&vs[0]?==Z (M7 _))=O then _ else _) Q E s;rw[Z6 (by intro h;rw[hn,k_]at h;cases h)];show Η hQ))
def Jo(K:η)(a:υ):It:=
 {λi H=>∃xs x,aD K H a xs/\xs[i]?=Z x,λi H x H'=>H'=H/\∀xs,aD K H a xs->xs[i]?=Z x,λi H=>∃xs,aD K H a xs/\xs.length<=i}
def Mh(K:η)(a:υ):It:=
 {λi H=>∃xs x,aw K H a xs/\xs[i]?=Z x,λi H x H'=>H'=H/\∀xs,aw K H a xs->xs[i]?=Z x,λi H=>∃xs,aw K H a xs/\xs.length<=i}
def JT(lo:Int)(n:Nat):It:={λi _=>i<n,λi H x H'=>H'=H/\x=.int (lo+i),λi _=>n<=i}
def Bp{P:Ι}{w:ώ}{K:η}{tg:Ϲ}(a it:υ):tX P w K tg (Jo K a) [it] it (λi h=>h.IsListIter it a i) where
 mem:=()
 obj:=λi h st b hb=>by
  let e:b=it:=↑hb
  subst e;ext(⟨o,e,c,d⟩:st);show{o,e,λv z=>by rw[d]at z;cases z}
 keep:=λi h h' st k=>st.at λo e=>k it () o e
 item:=by intro X hP hw hK hc i pins s σ H E I hf st hg;subst hP hw hK;ext(⟨xs,x,hq,hx⟩:hg);ext(⟨its,rv,p,hz⟩:I.list hq);ext(⟨u,hu,ru⟩:rv.get hx);ext(⟨f0,f1,f2,f3,f4,f5⟩:hf it ());show wpAny_pyNext_list_item st p.isList (x:=u) (↑hu) λh' st' sb=>?_;let I1:ax X pins σ H {s with heap:=h'}:=I.turned (t':=s.toks) (λb o hb e=>(sb.2 b hb).trans e) f0 f1 f3 f4 f5;ext(⟨o,e,c,d⟩:id st');show{u,1,uN (s:={s with heap:=h'}) e c d () {x,H,I1,ru,{1,λys hy=>by rw[I.list_inj hy hq];show hx},st',λb hb=>(hf b hb).1}}
 done:=by intro X hP hw hK hc i pins s σ H E I hf st hg;subst hP hw hK;ext(⟨xs,hq,hx⟩:hg);ext(⟨its,rv,p,hz⟩:I.list hq);ext(⟨f0,f1,f2,f3,f4,f5⟩:hf it ());let hl:=rv.length;show wpAny_pyNext_list_end (I.ok.hd hc) st p.isList (by simp;omega) λh' eb=>{1,I.turned (t':=s.toks) (λb o hb e=>eb b o hb e) f0 f1 f3 f4 f5}
 self:=λ_ _ _ _ _ st h=>wpAny_pyIter_listiter st h
def wX{P:Ι}{w:ώ}{K:η}{tg:Ϲ}(a it:υ):tX P w K tg (Mh K a) [it] it (λi h=>h.IsTupleIter it a i) where
 mem:=()
 obj:=λi h st b hb=>by
  let e:b=it:=↑hb
  subst e;ext(⟨o,e,c,d⟩:st);show{o,e,λv z=>by rw[d]at z;cases z}
 keep:=λi h h' st k=>st.at λo e=>k it () o e
 item:=by intro X hP hw hK hc i pins s σ H E I hf st hg;subst hP hw hK;ext(⟨xs,x,hq,hx⟩:hg);ext(⟨its,rv,p,hz⟩:I.tuple hq);ext(⟨u,hu,ru⟩:rv.get hx);ext(⟨f0,f1,f2,f3,f4,f5⟩:hf it ());show wpAny_pyNext_tuple_item st (show s.heap.IsTuple a its.toArray from p) (x:=u) (↑hu) λh' st' sb=>?_;let I1:ax X pins σ H {s with heap:=h'}:=I.turned (t':=s.toks) (λb o hb e=>(sb.2 b hb).trans e) f0 f1 f3 f4 f5;ext(⟨o,e,c,d⟩:id st');show{u,1,uN (s:={s with heap:=h'}) e c d () {x,H,I1,ru,{1,λys hy=>by rw[I.tuple_inj hy hq];show hx},st',λb hb=>(hf b hb).1}}
 done:=by intro X hP hw hK hc i pins s σ H E I hf st hg;subst hP hw hK;ext(⟨xs,hq,hx⟩:hg);ext(⟨its,rv,p,hz⟩:I.tuple hq);ext(⟨f0,f1,f2,f3,f4,f5⟩:hf it ());let hl:=rv.length;show wpAny_pyNext_tuple_end (I.ok.hd hc) st (show s.heap.IsTuple a its.toArray from p) (by simp;omega) λh' eb=>{1,I.turned (t':=s.toks) (λb o hb e=>eb b o hb e) f0 f1 f3 f4 f5}
 self:=λ_ _ _ _ _ st h=>wpAny_pyIter_tupleiter st h
def xH{P:Ι}{w:ώ}{K:η}{tg:Ϲ}(it:υ)(lo:Int)(n:Nat):tX P w K tg (JT lo n) [it] it (λi h=>TH h it (lo+(i:Nat)*1) ((n:Int)-(i:Nat)) 1) where
 mem:=()
 obj:=λi h st b hb=>by
  let e:b=it:=↑hb
  subst e;show{0,st,λv z=>by let z':TJ _=Tf v:=z;cases z'}
 keep:=λi h h' st k=>k it () _ st
 item:=by intro X hP hw hK hc i pins s σ H E I hf st hg;subst hP hw hK;ext(⟨f0,f1,f2,f3,f4,f5⟩:hf it ());let W:=Walks.range (prog:=X.prog) (w:=X.w) (I.ok.hd hc) it lo 1 n;show W.item i s _ _ hg st λv h' tk hv st' kk=>?_;ext(⟨t,rfl⟩:hv);let I1:ax X pins σ H {s with heap:=h',toks:=tk}:=I.turned (λb o hb e=>kk b o (↑hb) e) f0 f1 f3 f4 f5;show{01,uN (s:={s with heap:=h',toks:=tk}) (n:="range_iterator") st' U U () {.int (lo+i),H,I1,{t,2},{11},st',λb hb=>(hf b hb).1}};rw[Int.mul_one]
 done:=by intro X hP hw hK hc i pins s σ H E I hf st hg;subst hP hw hK;ext(⟨f0,f1,f2,f3,f4,f5⟩:hf it ());show wpAny_pyNext_range_end (I.ok.hd hc) st (by let:n<=i:=hg;omega) λh' eb=>{1,I.turned (t':=s.toks) (λb o hb e=>eb b o hb e) f0 f1 f3 f4 f5}
 self:=λ_ _ _ _ _ st h=>wpAny_pyIter_rangeiter st h
section
variable{X:Cx}{tg:Ϲ}
inductive Id (K:η) (R:It->Hp->Prop) (x:V) (H1:Hp):Prop|mk a (_:x=.ref a) (_:(∃xs,aD K H1 a xs)) (_:R (Jo K a) H1)
def Nf(K:η)(tl:TE):TI:=λσ H R=>tl σ H (Id K R)
inductive JV (K:η) (R:It->Hp->Prop) (x:V) (H1:Hp):Prop|mk a (_:x=.ref a) (_:(∃xs,aw K H1 a xs)) (_:R (Mh K a) H1)
def PC(K:η)(tl:TE):TI:=λσ H R=>tl σ H (JV K R)
def pi_list{l:Ϲ}{tl:TE}(hl:PE X l tl):PI X tg l (Nf X.K tl):=by
 intro pins s σ H R I h;show bw (hl pins s σ H _ I h) λv s1 ⟨x,H1,I1,r1,q1⟩=>?_;ext(⟨a,e,⟨xs,hq⟩,q⟩:q1);subst e;cases r1;ext(⟨its,rv,p,hz⟩:I1.list hq);show S1 p.isList ?_;show{s1.heap.objs.size,[s1.heap.objs.size],00,H1,1,I1.kept (t':=s1.toks) λb o e=>ω _ e,Bp a _,{0,Ψ _ U,11},λb hb=>?_,q};let e:b=s1.heap.objs.size:=↑hb
 subst e;show I1.fpOk (Α _) (I1.hok.fresh (Α _))
def pi_tup{l:Ϲ}{tl:TE}(hl:PE X l tl):PI X tg l (PC X.K tl):=by
 intro pins s σ H R I h;show bw (hl pins s σ H _ I h) λv s1 ⟨x,H1,I1,r1,q1⟩=>?_;ext(⟨a,e,⟨xs,hq⟩,q⟩:q1);subst e;cases r1;ext(⟨its,rv,p,hz⟩:I1.tuple hq);show O3 (show s1.heap.IsTuple a its.toArray from p) ?_;show{s1.heap.objs.size,[s1.heap.objs.size],00,H1,1,I1.kept (t':=s1.toks) λb o e=>ω _ e,wX a _,{0,Ψ _ U,11},λb hb=>?_,q};let e:b=s1.heap.objs.size:=↑hb
 subst e;show I1.fpOk (Α _) (I1.hok.fresh (Α _))
def DM{pins:List (υ×Obj)}{σ:St}{H:Hp}{s:ψ}{R:It->Hp->Prop}{E:ν->ψ->Prop}{lo hi:Int}{t u v:Tok}{tk:Nat}(I:ax X pins σ H s)(h1:-(2^62)<=lo)(h2:lo<2^62)(n:-(2^62)<=hi)(B:hi<2^62)
  (q:R (JT lo (hi-lo).toNat) H):ύ (ϓ X.prog X.w) X.A (pyIter (.ref s.heap.objs.size)) (QN X pins σ tg R) E {s with heap:=s.heap.push {cls:=.type "range",data:=.fields #[.int lo t,.int hi u,.int 1 v]},toks:=tk}:=by
 show wpAny_pyIter_range (IsRange.new ..) (small_one h1 h2 n B) ?_;let j:ax X pins σ H {s with heap:=s.heap.push {cls:=.type "range",data:=.fields #[.int lo t,.int hi u,.int 1 v]},toks:=tk}:=I.kept λb o e=>ω _ e;show{(s.heap.push {cls:=.type "range",data:=.fields #[.int lo t,.int hi u,.int 1 v]}).objs.size,[(s.heap.push {cls:=.type "range",data:=.fields #[.int lo t,.int hi u,.int 1 v]}).objs.size],00,H,1,j.kept (t':=tk) λb o e=>ω _ e,xH _ lo (hi-lo).toNat,2,λb F=>?_,q}
 .let z:lo+((0:Nat):Int)*1=lo:=();let D:(((hi-lo).toNat:Nat):Int)-((0:Nat):Int)=E_.Range.rangeSize lo hi 1:=by rw[rangeSize_one];split<;>omega
  rw[z,D];show Ψ _ U
 .let e:b=(s.heap.push {cls:=.type "range",data:=.fields #[.int lo t,.int hi u,.int 1 v]}).objs.size:=↑F
  subst e;show j.fpOk (Α _) (j.hok.fresh (Α _))
inductive FT  (R:It->Hp->Prop) (vs:List V) (H1:Hp):Prop|mk (j:Int) (_:vs=[.int j]) (_:-(2^62)<=j) (_:j<2^62) (_:R (JT 0 j.toNat) H1)
def Ny(ta:TA):TI:=λσ H R=>ta σ H (FT R)
def pi_range1{a:Ϲ}{ta:TA}{p pos:Pos}(hg:Gl X "range")(hm:X.mg "range"=Β)(ha:PA X [a] ta)(hs:autoParam (ϗ [a] X.env=[(J,eval a X.env)]) yR._auto_1):PI X tg (.Call (.Name "range" p) [a] [] pos) (Ny ta):=by
 intro pins s σ H R I h;show Call_ (iu I hg hm boot_range (A2 (bw (ha pos pins s σ H _ I h) λus s1 ⟨vs,H1,I1,r1,q1⟩=>?_) hs U));ext(⟨j,e,q1,q2,q⟩:q1);subst e;cases r1 with
 |cons r rr=>cases rr;ext(⟨t,rfl⟩:r);show call_range_1 (DM I1 () () q1 q2 (↑q))
def PQ(z:TI)(g:TG)(tb:TS):TS:=λD σ H=>z σ H λa H1=>∃W:Nat->Nat->St->Hp->Prop,(∃m,W 0 m σ H1)/\∀i m σ H,W i m σ H ->
 (a.stop i H/\D.nx σ H)\/(a.go i H/\∃N:St->Hp->Prop,(∀j H',N j H'->∃n,n<m/\W (i+1) n j H')/\∀x H',a.yld i H x H'->g x σ H' λq H2=>tb {D with nx:=N,ct:=N,bk:=D.nx} q H2)
def mX(fp:List υ)(h:ϙ):List (υ×Obj):=fp.filterMap λb=>(h.get? b).map λo=>(b,o)
def gE(j:b∈fp)(e:h.get? b=Z o):(b,o)∈mX fp h:=O2.mpr {b,j,by rw[e];rfl}
def AZ{fp:List υ}{h:ϙ}{p:υ×Obj}(hp:p∈mX fp h):p.1∈fp/\h.get? p.1=Z p.2:=by
 ext(⟨b,hb,e⟩:O2.mp hp);cases q:h.get? b with
 |none=>rw[q]at e;cases e
 |some o=>rw[q]at e;let e':(b,o)=p:=ϡ e;subst e';show{hb,q}
def ax.pinned{pins:List (υ×Obj)}{σ:St}{H:Hp}{s:ψ}{fp:List υ}(I:ax X pins σ H s)(hf:∀b∈fp,kl X pins H b)(ho:∀b∈fp,∃o,s.heap.get? b=Z o/\∀v,o.data≠.cell v):ax X (pins++mX fp s.heap) σ H s:=
 I.pins_of λp hp=>(Ν.mp hp).elim (λz=>I.pin p (ϛ _ z)) λz=>by ext(⟨hb,e⟩:AZ z);ext(⟨f0,f1,f2,_⟩:hf p.1 hb);ext(⟨o,e',d⟩:ho p.1 hb);rw[e]at e';cases e';show{e,f0,f1,f2,d}
def ax.unpinned(I:ax X (pins++pl) σ H s):ax X pins σ H s:=I.pins_of λp j=>I.pin p (ϛ _ (r6 _ j))
def ps_for(hp:PassesOwn (ϓ X.prog X.w) X.A X.env X.xe)(hc:X.calm=O)(hi:PI X tg iter wi)(hg:PG X tg g)(hb:lG X body tb)
  (hs:autoParam (∀x,foldedSetIterable iter X.env x=pure x) yI._auto_1):PS X (.For tg iter body [] pos) (PQ wi g tb):=by
 intro pins s σ H D I h;show wpAny_For (bw (hi pins s σ H _ I h) λv s1 h1=>bw h1 λitv s2 h2=>?_) hs;ext(⟨it,fp,tn,a,H2,e,I2,T,st2,f2,W,⟨m0,w0⟩,turn⟩:h2);subst e;let stat:∀{H':Hp},(∀b∈fp,H' b=Β)->∀b∈fp,kl X pins H' b:=λhn b hb=>{hn b hb,(f2 b hb).2};show codeAny_forLoop_any (λn s'=>∃i σ' H',ax X pins σ' H' s'/\tn i s'.heap/\(∀b∈fp,H' b=Β)/\W i n σ' H') ?_ m0 {(0),σ,H2,I2,st2,λb hb=>(f2 b hb).1,w0};ext n s3 ⟨i,σ3,H3,I3,st3,fr3,w3⟩;rcases turn i n σ3 H3 w3 with ⟨stop,qn⟩|⟨go,N,hN,step⟩
 .show F5 hp (bw (T.done X U U U hc i pins s3 σ3 H3 X.xe I3 (stat fr3) st3 stop) λr s4 ⟨hr,I4⟩=>?_);subst hr;show J5 {σ3,H3,I4,qn}
 .show F5 hp (bw (T.item X U U U hc i pins s3 σ3 H3 X.xe I3 (stat fr3) st3 go) λr s4 ⟨u,hr,h4⟩=>?_);subst hr;show F5 hp (bw h4 λ_ s5 ⟨x,H5,I5,r5,y5,st5,fr5⟩=>?_);show F5 hp (bw (hg _ s5 σ3 H5 x u _ (I5.pinned (stat fr5) (T.obj _ _ st5)) r5 (step x H5 y5)) λ_ s6 ⟨σ6,H6,I6,q6⟩=>?_);show F5 hp (bw (hb _ s6 σ6 H6 _ I6 q6) λf s7 q7=>?_);let again:∀{σ7:St}{H7:Hp},ax X (pins++mX fp s5.heap) σ7 H7 s7->N σ7 H7->∃m,m<n/\∃i σ' H',ax X pins σ' H' s7/\tn i s7.heap/\(∀b∈fp,H' b=Β)/\W i m σ' H':=λ{σ7 H7} I7 n7=>by ext(⟨m',hm,w7⟩:hN σ7 H7 n7);show{m',hm,i+1,σ7,H7,I7.unpinned,T.keep _ _ _ st5 λb hb o e=>(I7.pin (b,o) (ϛ _ (ϛ _ (gE hb e)))).1,λb hb=>?_,w7};ext(⟨o,e,d⟩:T.obj _ _ st5 b hb);show(I7.pin (b,o) (ϛ _ (ϛ _ (gE hb e)))).2.1
  cases f with
  |next=>ext(⟨σ7,H7,I7,n7⟩:q7);show again I7 n7
  |cont=>ext(⟨σ7,H7,I7,n7⟩:q7);show again I7 n7
  |brk=>ext(⟨σ7,H7,I7,q7⟩:q7);show{σ7,H7,I7.unpinned,q7}
  |ret v=>ext(⟨x7,σ7,H7,I7,r7,q7⟩:q7);show{x7,σ7,H7,I7.unpinned,r7,q7}
end
def wB{K:η}{a:υ}{xs:List V}{g:TG}{tb:TS}{D:eh}{σ:St}{H:Hp}(Pv:Nat->St->Hp->Prop)(h0:Pv 0 σ H)(hl:∀i σ H,i<=xs.length->Pv i σ H->aD K H a xs)
  (hs:∀i x σ H,xs[i]?=Z x->Pv i σ H->g x σ H λσ2 H2=>tb {D with nx:=Pv (i+1),ct:=Pv (i+1),bk:=D.nx} σ2 H2) (hd:∀σ H,Pv xs.length σ H->D.nx σ H):
  ∃W:Nat->Nat->St->Hp->Prop,(∃m,W 0 m σ H)/\∀i m σ H,W i m σ H ->
   ((Jo K a).stop i H/\D.nx σ H)\/((Jo K a).go i H/\∃N:St->Hp->Prop,(∀σ' H',N σ' H'->∃m',m'<m/\W (i+1) m' σ' H')/\∀x H',(Jo K a).yld i H x H'->g x σ H' λσ2 H2=>tb {D with nx:=N,ct:=N,bk:=D.nx} σ2 H2):=by
 show{λi m σ H=>m=xs.length-i/\i<=xs.length/\Pv i σ H,{xs.length,3,ϋ _,h0},2};ext i m σ H ⟨rfl,hi,p⟩;let q:=hl i σ H hi p;by_cases hlt:i<xs.length
 .show .inr {{xs,xs[i],q,by simp[hlt]},Pv (i+1),λσ' H' p'=>{xs.length-(i+1),31,hlt,p'},λx H' y=>?_};ext(⟨e,y⟩:y);subst e;show hs i x σ _ (y xs q) p
 .let e:i=xs.length:=();subst e;show .inl {{xs,q,Α _},hd σ H p}
def Al{K:η}{a:υ}{xs:List V}{g:TG}{tb:TS}{D:eh}{σ:St}{H:Hp}(Pv:Nat->St->Hp->Prop)(h0:Pv 0 σ H)(hl:∀i σ H,i<=xs.length->Pv i σ H->aw K H a xs)
  (hs:∀i x σ H,xs[i]?=Z x->Pv i σ H->g x σ H λσ2 H2=>tb {D with nx:=Pv (i+1),ct:=Pv (i+1),bk:=D.nx} σ2 H2) (hd:∀σ H,Pv xs.length σ H->D.nx σ H):
  ∃W:Nat->Nat->St->Hp->Prop,(∃m,W 0 m σ H)/\∀i m σ H,W i m σ H ->
   ((Mh K a).stop i H/\D.nx σ H)\/((Mh K a).go i H/\∃N:St->Hp->Prop,(∀σ' H',N σ' H'->∃m',m'<m/\W (i+1) m' σ' H')/\∀x H',(Mh K a).yld i H x H'->g x σ H' λσ2 H2=>tb {D with nx:=N,ct:=N,bk:=D.nx} σ2 H2):=by
 show{λi m σ H=>m=xs.length-i/\i<=xs.length/\Pv i σ H,{xs.length,3,ϋ _,h0},2};ext i m σ H ⟨rfl,hi,p⟩;let q:=hl i σ H hi p;by_cases hlt:i<xs.length
 .show .inr {{xs,xs[i],q,by simp[hlt]},Pv (i+1),λσ' H' p'=>{xs.length-(i+1),31,hlt,p'},λx H' y=>?_};ext(⟨e,y⟩:y);subst e;show hs i x σ _ (y xs q) p
 .let e:i=xs.length:=();subst e;show .inl {{xs,q,Α _},hd σ H p}
def qy{lo:Int}{n:Nat}{g:TG}{tb:TS}{D:eh}{σ:St}{H:Hp}(Pv:Nat->St->Hp->Prop)(h0:Pv 0 σ H)
  (hs:∀i σ H,i<n->Pv i σ H->g (.int (lo+i)) σ H λσ2 H2=>tb {D with nx:=Pv (i+1),ct:=Pv (i+1),bk:=D.nx} σ2 H2) (hd:∀σ H,Pv n σ H->D.nx σ H):
  ∃W:Nat->Nat->St->Hp->Prop,(∃m,W 0 m σ H)/\∀i m σ H,W i m σ H ->
   ((JT lo n).stop i H/\D.nx σ H)\/((JT lo n).go i H/\∃N:St->Hp->Prop,(∀σ' H',N σ' H'->∃m',m'<m/\W (i+1) m' σ' H')/\∀x H',(JT lo n).yld i H x H'->g x σ H' λσ2 H2=>tb {D with nx:=N,ct:=N,bk:=D.nx} σ2 H2):=by
 show{λi m σ H=>m=n-i/\i<=n/\Pv i σ H,{n,3,ϋ _,h0},2};ext i m σ H ⟨rfl,hi,p⟩;by_cases hlt:i<n
 .show .inr {hlt,Pv (i+1),λσ' H' p'=>{n-(i+1),31,hlt,p'},λx H' y=>?_};ext(⟨e,y⟩:y);subst e y;show hs i σ _ hlt p
 .let e:i=n:=();subst e;show .inl {Α _,hd σ H p}
abbrev R2:=V->V->Hp->VK->Prop
def fE(X:Cx)(f:ν->ν->Sem ν)(r:R2):Prop:=
 ∀(pins:List (υ×Obj))(s:ψ)(σ:St)(H:Hp)(x y:V)(v u:ν)(Q:VK),ax X pins σ H s->aU x v->aU y u->r x y H Q ->
  ύ (ϓ X.prog X.w) X.A (f v u) (EP X pins σ Q) X.xe s
def Pi(X:Cx)(f:ν->Sem ν)(r:V->Hp->VK->Prop):Prop:=
 ∀(pins:List (υ×Obj))(s:ψ)(σ:St)(H:Hp)(x:V)(v:ν)(Q:VK),ax X pins σ H s->aU x v->r x H Q ->
  ύ (ϓ X.prog X.w) X.A (f v) (EP X pins σ Q) X.xe s
def eQ(X:Cx)(f:ν)(r:List V->Hp->VK->Prop):Prop:=
 ∀(pins:List (υ×Obj))(s:ψ)(σ:St)(H:Hp)(xs:List V)(us:List ν)(Q:VK),ax X pins σ H s->aI xs us->r xs H Q ->
  ύ (ϓ X.prog X.w) X.A (call f us) (EP X pins σ Q) X.xe s
def PX(X:Cx)(r:V->Hp->(Bool->Hp->Prop)->Prop):Prop:=
 ∀(pins:List (υ×Obj))(s:ψ)(σ:St)(H:Hp)(x:V)(v:ν)(Q:Bool->Hp->Prop),ax X pins σ H s->aU x v->r x H Q ->
  ύ (ϓ X.prog X.w) X.A (truthy v) (TP X pins σ Q) X.xe s
def De(r:R2)(ta tb:TE):TE:=λσ H Q=>ta σ H λx H1=>tb σ H1 λy H2=>r x y H2 Q
def RM(r:V->Hp->VK->Prop)(ta:TE):TE:=λσ H Q=>ta σ H λx H1=>r x H1 Q
inductive rI (C:Int->Int->Prop) (g:Int->Int->V) (x:V) (y:V) (H:Hp) (Q:VK):Prop|mk i j (_:x=.int i) (_:y=.int j) (_:C i j) (_:Q (g i j) H)
inductive IO (g:Int->Int->V) (x:V) (y:V) (H:Hp) (Q:VK):Prop|mk i j (_:x=.int i) (_:y=.int j) (_:Q (g i j) H)
inductive rU (g:Int->V) (x:V) (H:Hp) (Q:VK):Prop|mk i (_:x=.int i) (_:Q (g i) H)
section
variable{X:Cx}{a b c:Ϲ}{ta tb tc:TE}{pos:Pos}
def KG(ha:PE X a ta)(hb:PE X b tb){pins:List (υ×Obj)}{s:ψ}{σ:St}{H:Hp}{R:V->V->Hp->Prop}(I:ax X pins σ H s)
  (h:ta σ H λx H1=>tb σ H1 λy H2=>R x y H2) {Q:ν->ψ->Prop} {f:ν->ν->Sem ν}
  (hf:∀v u s2 x y H2,ax X pins σ H2 s2->aU x v->aU y u->R x y H2->ύ (ϓ X.prog X.w) X.A (f v u) Q X.xe s2):
  ύ (ϓ X.prog X.w) X.A (eval a X.env) (λv s₁=>ύ (ϓ X.prog X.w) X.A (eval b X.env) (λu s₂=>ύ (ϓ X.prog X.w) X.A (f v u) Q X.xe s₂) X.xe s₁) X.xe s:=by
 show bw (ha pins s σ H _ I h) λv s1 ⟨x,H1,I1,r1,q1⟩=>?_;show bw (hb pins s1 σ H1 _ I1 q1) λu s2 ⟨y,H2,I2,r2,q2⟩=>?_;show hf v u s2 x y H2 I2 r1 r2 q2
def pe_op{j:TZ}{r:R2}(ho:fE X (G8 j) r)(z:PE X a ta)(G:PE X b tb):PE X (.BinOp a j b pos) (De r ta tb):=by intro pins s σ H Q I h;show wpAny_BinOp (KG z G I h λv u n x y H2 B D F q=>ho pins n σ H2 x y v u Q B D F q)
def pe_un(ho:Pi X (unaryOp op) r)(z:PE X a ta):PE X (.UnaryOp op a pos) (RM r ta):=by intro pins s σ H Q I h;show UnaryOp_ (bw (z pins s σ H _ I h) λv B ⟨x,H1,j,n,q⟩=>ho pins B σ H1 x v Q j n q)
def OD{f:ν->ν->Sem ν}{C:Int->Int->Prop}{g:Int->Int->Int}
  (n:∀(i j:Int)(t u:Tok)(s:ψ)(Q:ν->ψ->Prop)(E:ν->ψ->Prop),C i j->Q (.int (g i j) s.toks) {s with toks:=s.toks+1}->ύ (ϓ X.prog X.w) X.A (f (.int i t) (.int j u)) Q E s):
  fE X f (rI C λi j=>.int (g i j)):=by
 ext pins s σ H x y v u Q I B D ⟨i,j,rfl,rfl,z,q⟩;ext(⟨t,rfl⟩:B);ext(⟨t',rfl⟩:D);show n i j t t' s _ _ z {.int (g i j),H,I.tok _,{01},q}
def Ni{f:ν->ν->Sem ν}{g:Int->Int->Int}
  (n:∀(i j:Int)(t u:Tok)(s:ψ)(Q:ν->ψ->Prop)(E:ν->ψ->Prop),Q (.int (g i j) s.toks) {s with toks:=s.toks+1}->ύ (ϓ X.prog X.w) X.A (f (.int i t) (.int j u)) Q E s):
  fE X f (IO λi j=>.int (g i j)):=by
 ext pins s σ H x y v u Q I z B ⟨i,j,rfl,rfl,q⟩;ext(⟨t,rfl⟩:z);ext(⟨t',rfl⟩:B);show n i j t t' s _ _ {.int (g i j),H,I.tok _,{01},q}
def GT{f:ν->ν->Sem ν}{g:Int->Int->Bool}
  (n:∀(i j:Int)(t u:Tok)(s:ψ)(Q:ν->ψ->Prop)(E:ν->ψ->Prop),Q (.bool (g i j)) s->ύ (ϓ X.prog X.w) X.A (f (.int i t) (.int j u)) Q E s):
  fE X f (IO λi j=>.bl (g i j)):=by
 ext pins s σ H x y v u Q I z B ⟨i,j,rfl,rfl,q⟩;ext(⟨t,rfl⟩:z);ext(⟨t',rfl⟩:B);show n i j t t' s _ _ {.bl (g i j),H,I,1,q}
def JX(i j:Int):Prop:=0<=j/\j<=1000000/\i.natAbs<2^64
def LM(i j:Int):Prop:=(-(2^64)<i/\i<2^64)\/(-(2^64)<j/\j<2^64)
def LM.ok{i j:Int}(h:LM i j):IntMulOk i j:=by
 rcases h with ⟨h1,h2⟩|⟨h1,h2⟩
 .show .of_left (intBits_le_64 h1 h2)
 .show .of_right (intBits_le_64 h1 h2)
def cQ:fE X (G8 .Add) (IO λi j=>.int (i+j)):=Ni λ_ _ _ _ _ _ _ q=>add_int q
def cU:fE X (G8 .Sub) (IO λi j=>.int (i-j)):=Ni λ_ _ _ _ _ _ _ q=>sub_int q
def kL:fE X (G8 .Mult) (rI LM λi j=>.int (i*j)):=OD λ_ _ _ _ _ _ _ hc q=>mul_int q hc.ok
def kO:fE X (G8 .Mod) (rI (λ_ j=>0<j) λi j=>.int (i%j)):=OD λi j _ _ _ _ _ hc q=>by let h1:(0:Int)<j:=hc;show mod_int' () (by rw[Int.fmod_eq_emod_of_nonneg i ()];show q)
def wF:fE X (G8 .Pow) (rI JX λi j=>.int (i^j.toNat)):=OD λ_ _ _ _ _ _ _ n q=>pow_int_small n.1 n.2.1 n.2.2 q
def Ro{f:ν->Sem ν}{g:Int->Int}
  (j:∀(i:Int)(t:Tok)(s:ψ)(Q:ν->ψ->Prop)(E:ν->ψ->Prop),Q (.int (g i) s.toks) {s with toks:=s.toks+1}->ύ (ϓ X.prog X.w) X.A (f (.int i t)) Q E s):
  Pi X f (rU λi=>.int (g i)):=by
 ext pins s σ H x v Q I n ⟨i,rfl,q⟩;ext(⟨t,rfl⟩:n);show j i t s _ _ {.int (g i),H,I.tok _,{01},q}
def xO:Pi X (unaryOp .USub) (rU λi=>.int (-i)):=Ro λ_ _ _ _ _ q=>neg_int q
end
def Nq:V->V->Bool
 |.non,.non=>O|.non,.int _=>O|.int _,.non=>O|.non,.bl _=>O|.bl _,.non=>O|.non,.str _=>O|.str _,.non=>O
 |.int _,.int _=>O|.bl _,.bl _=>O|.str _,.str _=>O|.byt _,.byt _=>O
 |.int _,.str _=>O|.str _,.int _=>O|.bl _,.str _=>O|.str _,.bl _=>O
 |_,_=>J
def Rs:R2:=λx y H Q=>Nq x y=O/\Q (.bl (decide (x=y))) H
def PD:R2:=λx y H Q=>Nq x y=O/\Q (.bl (!decide (x=y))) H
def Aq{i j:Int}:decide (V.int i=V.int j)=(i==j):=by rw[C5];simp
def Dd{i j:Bool}:decide (V.bl i=V.bl j)=(i==j):=by rw[C5];simp
def zI{i j:Str}:decide (V.str i=V.str j)=(i==j):=by rw[C5];simp
def zc{i j:Array UInt8}:decide (V.byt i=V.byt j)=(i.toList==j.toList):=by rw[C5];cases i;cases j;simp
section
variable{X:Cx}{a b c:Ϲ}{ta tb tc:TE}{pos:Pos}
def bc(I:ax X pins σ H s)(q:Q (.bl k) H)(e:k=k'):EP X pins σ Q (.bool k') s:=by subst e;show{.bl k,H,I,1,q}
def aA:fE X (j8 .Eq) Rs:=by
 ext pins s σ H x y v u Q I rx ry ⟨hs,q⟩;cases x with
 |non=>
  cases rx;cases y with
  |non=>cases ry;show PySem.EqNone.eq_none_none (bc I q ())
  |bl j=>cases ry;show PySem.EqNone.eq_none_bool (bc I q ())
  |int j=>ext(⟨t',rfl⟩:ry);show PySem.EqNone.eq_none_int (bc I q ())
  |str j=>ext(⟨t',rfl⟩:ry);show PySem.EqNone.eq_none_str (bc I q ())
  |_=>show absurd (hs) Χ
 |bl i=>
  cases rx;cases y with
  |non=>cases ry;show PySem.EqNone.eq_bool_none (bc I q ())
  |bl j=>cases ry;show eq_bool (bc I q Dd)
  |str j=>ext(⟨t',rfl⟩:ry);show PySem.EqMixed.eq_bool_str (bc I q ())
  |_=>show absurd (hs) Χ
 |int i=>
  ext(⟨t,rfl⟩:rx);cases y with
  |non=>cases ry;show PySem.EqNone.eq_int_none (bc I q ())
  |int j=>ext(⟨t',rfl⟩:ry);show eq_int (bc I q Aq)
  |str j=>ext(⟨t',rfl⟩:ry);show PySem.EqMixed.eq_int_str (bc I q ())
  |_=>show absurd (hs) Χ
 |str i=>
  ext(⟨t,rfl⟩:rx);cases y with
  |non=>cases ry;show PySem.EqNone.eq_str_none (bc I q ())
  |bl j=>cases ry;show PySem.EqMixed.eq_str_bool (bc I q ())
  |int j=>ext(⟨t',rfl⟩:ry);show PySem.EqMixed.eq_str_int (bc I q ())
  |str j=>ext(⟨t',rfl⟩:ry);show eq_str (bc I q zI)
  |_=>show absurd (hs) Χ
 |byt i=>
  ext(⟨t,rfl⟩:rx);cases y with
  |byt j=>ext(⟨t',rfl⟩:ry);show PySem.W.eq_bytes (bc I q zc)
  |_=>show absurd (hs) Χ
 |_=>cases y<;>show absurd (hs) Χ
def jd:fE X (j8 .NotEq) PD:=by
 ext pins s σ H x y v u Q I rx ry ⟨hs,q⟩;cases x with
 |non=>
  cases rx;cases y with
  |non=>cases ry;show PySem.EqNone.ne_none_none (bc I q ())
  |bl j=>cases ry;show PySem.EqNone.ne_none_bool (bc I q ())
  |int j=>ext(⟨t',rfl⟩:ry);show PySem.EqNone.ne_none_int (bc I q ())
  |str j=>ext(⟨t',rfl⟩:ry);show PySem.EqNone.ne_none_str (bc I q ())
  |_=>show absurd (hs) Χ
 |bl i=>
  cases rx;cases y with
  |non=>cases ry;show PySem.EqNone.ne_bool_none (bc I q ())
  |bl j=>cases ry;show ne_bool (bc I q (congrArg not Dd))
  |str j=>ext(⟨t',rfl⟩:ry);show PySem.EqMixed.ne_bool_str (bc I q ())
  |_=>show absurd (hs) Χ
 |int i=>
  ext(⟨t,rfl⟩:rx);cases y with
  |non=>cases ry;show PySem.EqNone.ne_int_none (bc I q ())
  |int j=>ext(⟨t',rfl⟩:ry);show ne_int (bc I q (congrArg not Aq))
  |str j=>ext(⟨t',rfl⟩:ry);show PySem.EqMixed.ne_int_str (bc I q ())
  |_=>show absurd (hs) Χ
 |str i=>
  ext(⟨t,rfl⟩:rx);cases y with
  |non=>cases ry;show PySem.EqNone.ne_str_none (bc I q ())
  |bl j=>cases ry;show PySem.EqMixed.ne_str_bool (bc I q ())
  |int j=>ext(⟨t',rfl⟩:ry);show PySem.EqMixed.ne_str_int (bc I q ())
  |str j=>ext(⟨t',rfl⟩:ry);show ne_str (bc I q (congrArg not zI))
  |_=>show absurd (hs) Χ
 |byt i=>
  ext(⟨t,rfl⟩:rx);cases y with
  |byt j=>ext(⟨t',rfl⟩:ry);show PySem.W.ne_bytes (bc I q (congrArg not zc))
  |_=>show absurd (hs) Χ
 |_=>cases y<;>show absurd (hs) Χ
def iZ:fE X (j8 .Lt) (IO λi j=>.bl (decide (i<j))):=GT λ_ _ _ _ _ _ _ q=>lt_int q
def jJ:fE X (j8 .LtE) (IO λi j=>.bl (decide (i<=j))):=GT λ_ _ _ _ _ _ _ q=>le_int q
def gu:fE X (j8 .Gt) (IO λi j=>.bl (decide (j<i))):=GT λ_ _ _ _ _ _ _ q=>gt_int q
def IV:fE X (j8 .GtE) (IO λi j=>.bl (decide (j<=i))):=GT λ_ _ _ _ _ _ _ q=>ge_int q
def kx:fE X (j8 .Is) (λx y H Q=>y=.non/\Q (.bl (decide (x=.non))) H):=by
 ext pins s σ H x y v u Q I j n ⟨rfl,q⟩;cases n;show is_none_gen (bc I q ?_);cases x<;>first
  |(cases j;rfl)
  |(ext(⟨t,rfl⟩:j);rfl)
def fE.or{f:ν->ν->Sem ν}{r r':R2}(h:fE X f r)(h':fE X f r'):fE X f (λx y H Q=>r x y H Q\/r' x y H Q):=by
 intro pins s σ H x y v u Q I rx ry q;rcases q with q|q
 .show h pins s σ H x y v u Q I rx ry q
 .show h' pins s σ H x y v u Q I rx ry q
def xq(b:Ϲ){op:CmpOp}(h:autoParam (op≠.In) yD._auto_1)(h2:autoParam (op≠.NotIn) yD._auto_1):behindInMarks op b=J:=by
 let e1:(op==CmpOp.In)=J:=by cases op<;>first|rfl|show absurd rfl h
 let e2:(op==CmpOp.NotIn)=J:=by cases op<;>first|rfl|show absurd rfl h2
 cases b<;>simp[behindInMarks,e1,e2]
def pe_cmpR{j:CmpOp}{r:R2}(ho:fE X (j8 j) r)(B:PE X a ta)(c:PE X b tb)(n:behindInMarks j b=J):PE X (.Compare a [j] [b] pos) (De r ta tb):=by intro pins s σ H Q I h;show wpAny_Compare1 (KG B c I h λv u z x y H2 D F G q=>ho pins z σ H2 x y v u Q D F G q) n
def IL(t:TE):TT:=λσ H Q=>t σ H λx H'=>∃k,x=.bl k/\Q k H'
def pt_cmpR(ho:fE X (j8 op) r)(D:PE X a ta)(N:PE X b tb)(n:behindInMarks op b=J):PT X (.Compare a [op] [b] pos) (IL (De r ta tb)):=by
 intro pins s σ H Q I h;show wpAny_isTrue_Compare1 (bw (D pins s σ H _ I h) λv q ⟨x,H1,f,M,g⟩=>bw (N pins q σ H1 _ f g) λu B ⟨y,H2,F,G,S⟩=>
  bw (ho pins B σ H2 x y v u _ F M G S) λc W ⟨z,R,j,d,k,e,L⟩=>?_) n
 subst e;cases d;show p_ {R,j,L}
def Dj(r r':R2)(ta tb tc:TE):TE:=λσ H Q=>ta σ H λx H1=>tb σ H1 λy H2=>r x y H2 λz j=>∃k,z=.bl k /\
 (if k=O then tc σ j λq n=>r' y q n Q else Q (.bl J) j)
def pe_chain(ho:fE X (j8 op) r)(D:fE X (j8 op') r')(S:PE X a ta)(hb:PE X b tb)(N:PE X c tc)
  (m:autoParam (lastMarks [op,op'] [b,c]=J) yU._auto_1):PE X (.Compare a [op,op'] [b,c] pos) (Dj r r' ta tb tc):=by
 intro pins s σ H Q I h;show Compare_chain (bw (S pins s σ H _ I h) λv L ⟨x,H1,I1,r1,i⟩=>chain_link (bw (hb pins L σ H1 _ I1 i) λu l ⟨y,H2,f,n,q2⟩=>
  bw (ho pins l σ H2 x y v u _ f r1 n q2) λd M ⟨z,B,j,r3,k,e,q⟩=>?_)) m
 subst e;cases r3;show p_ ?_;cases k with
 |false=>show ite_ff {.bl J,B,j,1,q}
 |true=>show ite_tt (chain_last (bw (N pins M σ B _ j q) λR g ⟨W,F,I4,r4,G⟩=>D pins g σ F y W u R Q I4 n r4 G))
def pt_chain(ho:fE X (j8 op) r)(D:fE X (j8 op') r')(f:PE X a ta)(hb:PE X b tb)(l:PE X c tc)
  (L:autoParam (lastMarks [op,op'] [b,c]=J) yU._auto_1):PT X (.Compare a [op,op'] [b,c] pos) (IL (Dj r r' ta tb tc)):=by
 intro pins s σ H Q I h;show isTrue_chain (bw (f pins s σ H _ I h) λv M ⟨x,H1,I1,r1,q1⟩=>test_link (bw (hb pins M σ H1 _ I1 q1) λu R ⟨y,H2,W,n,q2⟩=>
  bw (ho pins R σ H2 x y v u _ W r1 n q2) λd N ⟨z,B,j,r3,k,e,q⟩=>?_)) L
 subst e;cases r3;show p_ ?_;cases k with
 |false=>ext(⟨k',e',G⟩:q);cases e';show ite_ff {B,j,G}
 |true=>show ite_tt (test_last (bw (l pins N σ B _ j q) λS s4 ⟨i,F,I4,r4,m⟩=>bw (D pins s4 σ F y i u S _ I4 n r4 m) λd' s5 ⟨z2,H5,I5,g,k2,e2,q5⟩=>?_));subst e2;cases g;show p_ {H5,I5,q5}
def GN(K:η)(x:V)(H:Hp)(k:Bool):Prop:=
 match x with
 |.non=>k=J
 |.bl b=>k=b
 |.int i=>k=(i != 0)
 |.str y=>y.length<=Λ/\k=((y.length:Int) != 0)
 |.byt y=>y.size<=Λ/\k=((y.size:Int) != 0)
 |.ref p=>(∃xs,aD K H p xs/\k=!xs.isEmpty)\/(∃xs,aw K H p xs/\k=!xs.isEmpty)\/∃kvs,H p=Z (.dK kvs)/\k=!kvs.isEmpty
 |_=>False
def xS(r:KV kvs vs):(!vs.isEmpty)=!kvs.isEmpty:=by cases r<;>rfl
def nX(r:aI xs its):(!its.toArray.isEmpty)=!xs.isEmpty:=by cases r<;>simp
def jj:(Λ:Nat)<2^63:=by rw[ι];decide
def JM:PX X (λx H Q=>∃k,GN X.K x H k/\Q k H):=by
 intro pins s σ H x v Q I rx h;ext(⟨k,e,q⟩:h);let hl:=jj;let hs:Λ=16777216:=ι;cases x with
 |non=>cases rx;let e':k=J:=e;subst e';show truthy_none {H,I,q}
 |bl b=>cases rx;let e':k=b:=e;subst e';show p_ {H,I,q}
 |int i=>ext(⟨t,rfl⟩:rx);let e':k=(i != 0):=e;subst e';show PySem.P.truthy_int {H,I,q}
 |str y=>ext(⟨t,rfl⟩:rx);obtain⟨hy,e'⟩:y.length<=Λ/\k=((y.length:Int) != 0):=e;subst e';show PySem.P.truthy_str () {H,I.tok _,q}
 |byt y=>ext(⟨t,rfl⟩:rx);obtain⟨hy,e'⟩:y.size<=Λ/\k=((y.size:Int) != 0):=e;subst e';show PySem.W.truthy_bytes () {H,I.tok _,q}
 |ref p=>
  cases rx;let e':(∃xs,aD X.K H p xs/\k=!xs.isEmpty)\/(∃xs,aw X.K H p xs/\k=!xs.isEmpty)\/∃kvs,H p=Z (.dK kvs)/\k=!kvs.isEmpty:=e;rcases e' with ⟨xs,hx,e'⟩|⟨xs,hx,e'⟩|⟨kvs,hx,e'⟩
  .subst e';ext(⟨its,r,pl,hz⟩:I.list hx);let hlen:=r.length;show wpAny_truthy_list pl.isList (by simp only[Ο];omega) {H,I.tok _,by rw[nX r];show q}
  .subst e';ext(⟨its,r,pl,hz⟩:I.tuple hx);let hlen:=r.length;show truthy_tuple pl (by simp only[Ο];omega) {H,I.tok _,by rw[nX r];show q}
  .subst e';obtain⟨hz,hS,vs,r,m⟩:kvs.length<=Λ/\(p==E4)=J/\∃vs,KV kvs vs/\s.heap.DictOf (bj X.prog X.w) p vs:=I.hok p _ hx;let hlen:kvs.length=vs.length:=Paired.length r;show wpAny_truthy_dict hS m () {H,I.tok _,by rw[xS r];show q}
 |_=>show(show False from e).elim
def pt_truth(q:PE X a ta)(F:∀j,isTrue a X.env j=(do let v <-j;standAt a.pos;holding [v] (truthy v))):
  PT X a (λσ H Q=>ta σ H λx H'=>∃k,GN X.K x H' k/\Q k H'):=by
 intro pins s σ H Q I h;show isTrue_plain (bw (q pins s σ H _ I h) λv n ⟨x,H1,D,B,z⟩=>JM pins n σ H1 x v Q D B z) (F _)
def ae:fE X (G8 .Add) (λx y H Q=>∃i j,x=.str i/\y=.str j/\i.length+j.length<=Λ/\Q (.str (i++j)) H):=by ext pins s σ H x y v u Q I n z ⟨i,j,rfl,rfl,hz,q⟩;ext(⟨t,rfl⟩:n);ext(⟨t',rfl⟩:z);show add_str (λt' tk=>{.str (i++j),H,I.tok _,{01},q}) hz
def fj(r:aI [x] us):∃u,us=[u]/\aU x u:=by
 cases r with
 |cons n j=>cases j;show{01,n}
def vi{x y:V}{us:List ν}(r:aI [x,y] us):∃u w',us=[u,w']/\aU x u/\aU y w':=by
 cases r with
 |cons r1 r2=>
  cases r2 with
  |cons r3 r4=>cases r4;show{001,r1,r3}
def BD(z:X.calm=O):eQ X (.builtin "max") (λxs H Q=>∃i j,xs=[.int i,.int j]/\Q (.int (if j>i then j else i)) H):=by
 ext pins s σ H xs us Q I r ⟨i,j,rfl,q⟩;ext(⟨u,B,rfl,⟨t,rfl⟩,⟨t',rfl⟩⟩:vi r);show max_two_ints (I.ok.hd z) λh' tk k=>{0,H,I.kept k,2,q};by_cases n:j>i
 .rw[Z5 n,Z5 n];show{01}
 .rw[Z6 n,Z6 n];show{01}
def AY(z:X.calm=O):eQ X (.builtin "min") (λxs H Q=>∃i j,xs=[.int i,.int j]/\Q (.int (if j<i then j else i)) H):=by
 ext pins s σ H xs us Q I r ⟨i,j,rfl,q⟩;ext(⟨u,B,rfl,⟨t,rfl⟩,⟨t',rfl⟩⟩:vi r);show min_two_ints (I.ok.hd z) λh' tk k=>{0,H,I.kept k,2,q};by_cases n:j<i
 .rw[Z5 n,Z5 n];show{01}
 .rw[Z6 n,Z6 n];show{01}
def qU:eQ X (.type "int") (λxs H Q=>(∃i,xs=[.int i]/\Q (.int i) H)\/∃k,xs=[.bl k]/\Q (.int (if k then 1 else 0)) H):=by
 intro pins s σ H xs us Q I r h;rcases h with ⟨i,rfl,q⟩|⟨k,rfl,q⟩
 .ext(⟨u,rfl,t,rfl⟩:fj r);show call_int_int {.int i,H,I,{01},q}
 .ext(⟨u,rfl,j⟩:fj r);cases j;show call_int_bool {.int (if k then 1 else 0),H,I.tok _,{01},q}
def dO:eQ X (.type "str") (λxs H Q=>∃i,xs=[.int i]/\i.natAbs.log2<1920/\Q (.str (toString i)) H):=by ext pins s σ H xs us Q I r ⟨i,rfl,hz,q⟩;ext(⟨u,rfl,t,rfl⟩:fj r);show PySem.P.str_of_int hz {.str _,H,I.tok _,{01},q}
end
structure xL(h:ϙ)(x dx C:υ)(mA:Str->Option ν):Prop where
 obj:h.get? x=Z (C4 C dx)
 ns:h.Ns1 dx mA
 ne:dx≠x
def AT{h:ϙ}{dx:υ}{mA:Str->Option ν}(n:h.Ns1 dx mA):∃od,h.get? dx=Z od/\∀name,Sy name od=Z (mA name):=by
 ext(⟨o,es,ep,ho,hd,hk,_,hm⟩:n);show{o,ho,λname=>?_};let e:=hm name;unfold nsFind findBy at e;rw[<-Array.find?_toList]at e;unfold Sy;rw[hd];dsimp only
 set_option tactic.hygienic true in split
 .rename_i y q;rw[q]at e;show congrArg Z e
 .rename_i q;rw[q]at e;let a:es.toList.any (·.refKey)=J:=by rw[O8];intro y hy;ext(⟨z,t,hkey⟩:hk y (Array.mem_toList_iff.mp hy));simp[TM.refKey,hkey]
  let a':¬ es.toList.any (·.refKey)=O:=by rw[a];show Χ
  rw[Z6 a'];show congrArg Z e
def xL.look(I:xL h x dx C mA):∃j,PySem.W.InstAt h x (C4 C dx) C (Z j)/\∀name,Sy name j=Z (mA name):=
 let ⟨j,ho,n⟩:=AT I.ns
 {j,{I.obj,11,ho},n}
section
variable{prog:Ι}{w:ώ}{A:Ϛ}{E:ν->ψ->Prop}{s:ψ}{K:η}{x dx C f:υ}{mA:Str->Option ν}{name:Str}{v:ν}
def Hq(X:K.In s.heap)(I:xL s.heap x dx C mA)(D:M3 K C name=O)(z:O9 K C=O)
  (B:Ϩ K (.ref C) name=Z Β) (n:mA name=Z v) (j:PySem.W.handedIn v=O) (h:Q v {s with toks:=s.toks+1}):
  ύ (ϓ prog w) A (getAttr (.ref x) name expr) Q E s:=by
 ext(⟨F,a,q⟩:I.look);show PySem.W.get_value X a (Sf D).1 (PySem.W.findObj_own z B U (by rw[q,n])) j h
def Ej(X:K.In s.heap)(I:xL s.heap x dx C mA)(j:M3 K C name=O)
  (q:Ϩ K (.ref C) name=Z (Z (.ref f))) (n:M4 K (.ref f)=O) (z:mA name=Β) (h:Q (.ref f,[.ref x]) s):
  ύ (ϓ prog w) A (getMethod (.ref x) name pl) Q E s:=by
 ext(⟨D,a,B⟩:I.look);show PySem.W.method_fn X a (Sf j).1 (Sf j).2 q (beq_iff_eq.mp n) (by change(Sy name D).map (·.isSome)=Z J;rw[B,z];rfl) h
def Ih{ns:List Str}{Q:Unit->ψ->Prop}(X:K.In s.heap)(I:xL s.heap x dx C mA)
  (hs:Ϩ K (.ref C) "__setattr__"=Z (Z (.builtin "object.__setattr__"))) (hp:S2 K C=O) (ht:Ts K C name=Z Β) (hh:O9 K C=O)
  (hw:Tl mA ns) (hsz:ns.length<=Λ)
  (h:∀h',xL h' x dx C (λy=>if y=name then Z v else mA y)->F6 dx s.heap h'->Q Unit.unit {s with heap:=h',toks:=s.toks+2}):
  ύ (ϓ prog w) A (setAttr (.ref x) name v) Q E s:=by
 ext(⟨od,c,hl⟩:I.look);show PySem.W.set_plain X c hs (PySem.W.osa_open (s:={s with toks:=s.toks+1}) (r:=Β) X c hp ht λb=>?_);ext(⟨cd,hc,hd'⟩:PySem.W.any_some hh);let hx:s.heap.get? x=Z {.ref C,Z dx,.plain,#[]}:=I.obj;show ζ (Η (ζ (ζ (Sz hx (ζ (PySem.W.Looks.here (s:={s with toks:=s.toks+1}) (PySem.W.looks_clsIn X hc) ?_))))));rw[hd'];show Η (a:=Z dx) (ζ (Η (ζ ?_)));show wpAny_nsSet1 (s:={s with toks:=s.toks+1}) I.ns λh' hn2 hs2=>?_;ext(⟨oD,esD,epD,hoD,hdD,hcD⟩:hn2.count (Tl.cons name v hw));show ζ (wpAny_lookBehind hoD (by rw[hdD];show pastItsLine_dict (Ϫ hcD (by rw[Δ];omega))) ?_);show Η (h _ {(hs2.2 _ (ϝ I.ne)).trans I.obj,hn2,I.ne} hs2)
def Eg(X:K.In s.heap)(q:Tt K C=O)
  (hi:Ϩ K (.ref C) "__init__"=Z (Z (.ref f))) (n:PySem.W.typeIn K (.ref f)=Z (.type "function"))
  (h:N7 (ϓ prog w) (A.under (.builtin "type.__call__" {.ref C::vs,kw})) (.call (.ref f) {.ref (s.heap.objs.size+1)::vs,kw}) (PySem.W.InitBack (s.heap.objs.size+1) R)
   {s with heap:=(s.heap.push y4).push (C4 C s.heap.objs.size)}):
  N7 (ϓ prog w) A (.call (.ref C) {vs,kw}) R s:=by
 ext(⟨z,g,d,t,B⟩:s);show PySem.W.make_core (PySem.W.makes_of X q) (PySem.W.looks_findIn X hi) (λj=>PySem.W.bind_fn X j n) (.inl U) h
end
def gq(f:Str)(v:V):List (Str×V)->List (Str×V)
 |[]=>[(f,v)]
 |(g,x)::r=>if g=f then (g,v)::r else (g,x)::gq f v r
def lP(f g:Str)(v:V):∀fs:List (Str×V),(gq f v fs).lookup g=if g=f then Z v else fs.lookup g
 |[]=>by
  change d_ g [(f,v)]=_;by_cases h:g=f
  .let hb:(g==f)=O:=beq_iff_eq.mpr h;simp only[d_,hb,Z5 h]
  .let hb:(g==f)=J:=beq_eq_false_iff_ne.mpr h;simp only[d_,hb,Z6 h]
 |(k,x)::r=>by
  let ih:=lP f g v r;rw[show gq f v ((k,x)::r)=(if k=f then (k,v)::r else (k,x)::gq f v r)from U];by_cases hk:k=f
  .rw[Z5 hk];by_cases h:g=k
   .let hb:(g==k)=O:=beq_iff_eq.mpr h;simp only[d_,hb,Z5 (h.trans hk)]
   .let hb:(g==k)=J:=beq_eq_false_iff_ne.mpr h;simp only[d_,hb,Z6 (λe:g=f=>h (e.trans hk.symm))]
  .rw[Z6 hk];by_cases h:g=k
   .let hb:(g==k)=O:=beq_iff_eq.mpr h;simp only[d_,hb,Z6 (λe:g=f=>hk (h.symm.trans e))]
   .let hb:(g==k)=J:=beq_eq_false_iff_ne.mpr h;simp only[d_,hb];show ih
def ki(f:Str)(v:V):∀fs:List (Str×V),f∈(gq f v fs).map (·.1)/\∀g,g∈fs.map (·.1)->g∈(gq f v fs).map (·.1)
 |[]=>{by simp[gq],λg h=>by simp at h}
 |(k,x)::r=>by
  ext(⟨i1,i2⟩:ki f v r);rw[show gq f v ((k,x)::r)=(if k=f then (k,v)::r else (k,x)::gq f v r)from U];by_cases hk:k=f
  .rw[Z5 hk];subst hk;show{3,λg h=>↑h}
  .rw[Z6 hk];show{2,λg h=>?_}
   .rw[ϊ];show ρ _ i1
   .rw[ϊ]at h⊢;rcases ξ.mp h with e|e
    .show ξ.mpr (.inl e)
    .show ρ _ (i2 g e)
def lS(f:Str)(v:V):∀fs:List (Str×V),(gq f v fs).length<=fs.length+1
 |[]=>by simp[gq]
 |(k,x)::r=>by
  let ih:=lS f v r;rw[show gq f v ((k,x)::r)=(if k=f then (k,v)::r else (k,x)::gq f v r)from U];by_cases hk:k=f
  .rw[Z5 hk,Δ,Δ];omega
  .rw[Z6 hk,Δ,Δ];omega
def kP.some_of(r:kP (Z v) o):∃u,o=Z u/\aU v u:=by
 cases o with
 |none=>show(r).elim
 |some u=>show{u,1,r}
def kP.none_of(r:kP Β o):o=Β:=by
 cases o with
 |none=>rfl
 |some u=>show(r).elim
def rF(r:aU v u):PySem.W.handedIn u=O:=by
 cases v with
 |non=>cases(r);rfl
 |bl b=>cases(r);rfl
 |int i=>ext(⟨t,e⟩:(r));cases e;rfl
 |str x=>ext(⟨t,e⟩:(r));cases e;rfl
 |byt b=>ext(⟨t,e⟩:(r));cases e;rfl
 |flt b=>ext(⟨t,e⟩:(r));cases e;rfl
 |ref a=>cases(r);rfl
 |ty n=>cases(r);rfl
section
variable{P:Ι}{w:ώ}{H H':Hp}{h h':ϙ}{a C dx:υ}{fs fs':List (Str×V)}
def mF(j:gZ P w H h)(e:H a=Z (.ins C dx fs)):∃mA,xL h a dx C mA/\(∀f,kP (fs.lookup f) (mA f))/\Tl mA (fs.map (·.1))/\fs.length<=1000/\H dx=Z (.own a):=by ext(⟨d,z,B,ob,mA,n,r,q⟩:(j a _ e));show{mA,{ob,n,B},r,q,z,d}
end
structure tJ(K:η)(C:υ):Prop where
 pg:M3 K C u6=O
 hd:O9 K C=O
 po:S2 K C=O
 sa:Ϩ K (.ref C) "__setattr__"=Z (Z (.builtin "object.__setattr__"))
def tJ.get{K:η}{C:υ}(c:tJ K C)(f:Str):M3 K C f=O:=c.pg
def dU(K:η)(C:υ)(f:Str):Prop:=Ϩ K (.ref C) f=Z Β
def dU.taker{K:η}{C:υ}{f:Str}(n:dU K C f):Ts K C f=Z Β:=by unfold Ts;rw[show Ϩ K (.ref C) f=Z Β from n];rfl
structure oP(K:η)(C:υ)(m:Str)(f:υ):Prop where
 at_:Ϩ K (.ref C) m=Z (Z (.ref f))
 fn:M4 K (.ref f)=O
 kp:ϰ K (.ref f)=O
section
variable{X:Cx}{pins:List (υ×Obj)}{σ:St}{H:Hp}{s:ψ}{a C dx:υ}{fs:List (Str×V)}{f:Str}{v:V}{A:Ϛ}{E:ν->ψ->Prop}
def mS(I:ax X pins σ H s)(e:H a=Z (.ins C dx fs))(c:tJ X.K C)(n:dU X.K C f)(l:fs.lookup f=Z v)
  (h:∀u s',ax X pins σ H s'->aU v u->Q u s'):ύ (ϓ X.prog X.w) A (getAttr (.ref a) f b) Q E s:=by
 ext(⟨mA,d,r,_,_,_⟩:mF I.hok e);obtain⟨u,q,j⟩:=kP.some_of (by rw[<-l];show r f);show Hq I.kIn d (c.get f) c.hd n q (rF j) (h u _ (I.tok _) j)
def pk(I:ax X pins σ H s)(e:H a=Z (.ins C dx fs))(c:tJ X.K C)(k:oP X.K C m g)(l:fs.lookup m=Β)
  (h:Q (.ref g,[.ref a]) s):ύ (ϓ X.prog X.w) A (getMethod (.ref a) m pl) Q E s:=by
 ext(⟨mA,b,r,_,_,_⟩:mF I.hok e);let j:=kP.none_of (by rw[<-l];show r m);show Ej I.kIn b (c.get m) k.at_ k.fn j h
def nV{y:V}{u:ν}{Q:Unit->ψ->Prop}(I:ax X pins σ H s)(e:H a=Z (.ins C dx fs))(c:tJ X.K C)(n:dU X.K C f)(hl:fs.length<1000)(ry:aU y u)
  (h:∀s',ax X pins σ (upd H a (.ins C dx (gq f y fs))) s'->Q Unit.unit s'):ύ (ϓ X.prog X.w) A (setAttr (.ref a) f u) Q E s:=by
 ext(⟨mA,d,r,wi,_,ho⟩:mF I.hok e);let hz:(fs.map (·.1)).length<=Λ:=by rw[ε,ι];omega
 show Ih I.kIn d c.sa c.po n.taker c.hd wi hz λh' O' sb=>h _ ?_;let hd:∃o,h'.get? dx=Z o:=let ⟨o,_,_,e',_⟩:=O'.ns;{o,e'}
 show I.write (x:=a) (e:=dx) (by rw[e];show E5) (.inr ho) (λb q hb z=>(sb.2 b hb).trans z) hd ?_;show{by rw[ai d.ne];show ho,2,d.ne,O'.obj,0,O'.ns,λg=>?_,λg hg=>?_}
 .let:=lS f y fs;omega
 .change kP ((gq f y fs).lookup g) (if g=f then Z u else mA g);rw[lP];by_cases q:g=f
  .rw[Z5 q,Z5 q];show ry
  .rw[Z6 q,Z6 q];show r g
 .by_cases q:g=f
  .rw[q];show(ki f y fs).1
  .show(ki f y fs).2 g (wi g λz=>hg ?_);change(if g=f then Z u else mA g)=Β;rw[Z6 q];show z
def ax.made(I:ax X pins σ H s):ax X pins σ (upd (upd H s.heap.objs.size (.own (s.heap.objs.size+1))) (s.heap.objs.size+1) (.ins C s.heap.objs.size []))
  {s with heap:=(s.heap.push y4).push (C4 C s.heap.objs.size)}:=by
 let e1:(s.heap.push y4).get? s.heap.objs.size=Z y4:=Ψ s.heap U;let e2:((s.heap.push y4).push (C4 C s.heap.objs.size)).get? (s.heap.objs.size+1)=Z (C4 C s.heap.objs.size):=by let:=Ψ (s.heap.push y4) (o:=C4 C s.heap.objs.size) U;rwa[r9]at this
 let e3:(s.heap.push y4).Ns s.heap.objs.size (λ_=>Β):={y4,#[],0,e1,1,(λe he=>absurd he ()),λ_=>U};let I1:=I.laid (a:=s.heap.objs.size) (o:=.own (s.heap.objs.size+1)) (h':=s.heap.push y4) (t':=s.toks) (λb u q=>ω _ q) (Α _) {0,e1};show I1.laid (a:=s.heap.objs.size+1) (o:=.ins C s.heap.objs.size []) (t':=s.toks) (λb u q=>ω _ q) (Nat.le_of_eq (r9 _ _)) ?_;let ne:s.heap.objs.size≠s.heap.objs.size+1:=ϩ (Q4 _);show{by rw[ai ne,aa],ϋ _,ne,e2,λ_=>Β,(ϙ.Ns1.of_empty e3).at λo q=>ω _ q,λ_=>E5,λy hy=>absurd U hy}
def zm(n:M9 e f env (eval e env)=eval e env)
  (h:ύ (ϓ prog w) A (eval e env) (λo j=>ύ (ϓ prog w) A (getAttr o f O) Q E j) E s):ύ (ϓ prog w) A (eval (.Attribute e f pos) env) Q E s:=
 Attribute_any_ h (by rw[arm_eval_Attribute,n])
end
inductive LD (K:η) (f:Str) (Q:VK) (x:V) (H1:Hp):Prop|mk a C dx fs v (_:x=.ref a) (_:H1 a=Z (.ins C dx fs)) (_:tJ K C) (_:dU K C f) (_:fs.lookup f=Z v) (_:Q v H1)
def Ph(K:η)(ta:TE)(f:Str):TE:=λσ H Q=>ta σ H (LD K f Q)
inductive Lk (K:η) (f:Str) (D:eh) (σ:St) (y:V) (x:V) (H2:Hp):Prop|mk a C dx fs (_:x=.ref a) (_:H2 a=Z (.ins C dx fs)) (_:tJ K C) (_:dU K C f) (_:fs.length<1000) (_:D.nx σ (upd H2 a (.ins C dx (gq f y fs))))
def OL(K:η)(ta tv:TE)(f:Str):TS:=λD σ H=>tv σ H λy H1=>ta σ H1 (Lk K f D σ y)
def NS(X:Cx)(op:TZ)(rd:V->V->Hp->VK->Prop):Prop:=
 ∀(pins:List (υ×Obj))(s:ψ)(σ:St)(H:Hp)(x y:V)(u v:ν)(Q:VK),ax X pins σ H s->aU x u->aU y v->rd x y H Q->ύ (ϓ X.prog X.w) X.A (inplaceOp op u v) (EP X pins σ Q) X.xe s
inductive Bw (K:η) (ta tv:TE) (rd:V->V->Hp->VK->Prop) (f:Str) (D:eh) (σ:St) (x:V) (H1:Hp):Prop|mk a C dx fs v (_:x=.ref a) (_:H1 a=Z (.ins C dx fs)) (_:tJ K C) (_:dU K C f) (_:fs.lookup f=Z v) (_:tv σ H1 λy H2=>rd v y H2 λz H3=>∃dx' fs',H3 a=Z (.ins C dx' fs')/\fs'.length<1000/\D.nx σ (upd H3 a (.ins C dx' (gq f z fs'))))
def GY(K:η)(ta tv:TE)(rd:V->V->Hp->VK->Prop)(f:Str):TS:=λD σ H=>ta σ H (Bw K ta tv rd f D σ)
section
variable{X:Cx}{o e value:Ϲ}{f:Str}{pos pos' tpos:Pos}{ta tv:TE}
def pe_fld(B:PE X e ta)(F:M9 e f X.env (eval e X.env)=eval e X.env):PE X (.Attribute e f pos) (Ph X.K ta f):=by intro pins s σ H Q I h;show zm F (bw (B pins s σ H _ I h) λu M ⟨x,H1,G,D,a,C,dx,fs,v,ex,b,c,n,l,q⟩=>?_);subst ex;obtain rfl:u=ϐ a:=D;show mS G b c n l λL N j z=>{v,H1,j,z,q}
def ps_fld(B:PE X o ta)(e:PE X value tv)(L:swapsWith value (Z (.Attribute o f pos')) pos.line X.env=pure J):PS X (.Assign [.Attribute o f pos'] value pos) (OL X.K ta tv f):=by intro pins s σ H D I h;show P9 (bw (e pins s σ H _ I h) λu z ⟨y,H1,d,N,q⟩=>bw (B pins z σ H1 _ d q) λG W ⟨x,H2,F,M,a,C,dx,fs,ex,R,c,n,l,S⟩=>?_) L;subst ex;obtain rfl:G=ϐ a:=M;show nV F R c n l N λb j=>{σ,0,j,S}
def ps_fldaug{op:TZ}{rd:V->V->Hp->VK->Prop}(ha:PE X o ta)(hv:PE X value tv)(hop:NS X op rd):PS X (.AugAssign (.Attribute o f tpos) op value pos) (GY X.K ta tv rd f):=by intro pins s σ H D I h;show wpAny_AugAssign_AttributeAny (bw (ha pins s σ H _ I h) ?_);ext ov s1 ⟨x,H1,I1,rx,a,C,dx,fs,v,rfl,ea,c,n,l,q⟩;obtain rfl:ov=ϐ a:=rx;show mS I1 ea c n l λu s2 I2 ru=>bw (hv pins s2 σ H1 _ I2 q) λw3 s3 ⟨y,H2,I3,ry,q3⟩=>bw (hop pins s3 σ H2 v y u w3 _ I3 ru ry q3) λw4 s4 ⟨z,H3,I4,rz,dx',fs',ea',l',q4⟩=>?_;show nV I4 ea' c n l' rz λs5 I5=>{σ,0,I5,q4}
inductive OS (x:V) (y:V) (H:Hp) (Q:VK):Prop|mk i j (_:x=.int i) (_:y=.int j) (_:Q (.int (i+j)) H)
def DG:NS X .Add OS:=by ext pins s σ H x y u v Q I rx ry ⟨i,j,rfl,rfl,q⟩;obtain⟨t,rfl⟩:=(show ∃t,u=ν.int i t from rx);obtain⟨t',rfl⟩:=(show ∃t',v=ν.int j t' from ry);show PyProof.Rows.iadd_int {.int (i+j),H,I.tok _,{01},q}
end
section
variable{X:Cx}{pins:List (υ×Obj)}{σ:St}{H:Hp}{s:ψ}{A:Ϛ}{E:ν->ψ->Prop}{Q:ν->ψ->Prop}{c:ν}{b:Bool}
inductive gX (K:η) (H:Hp):V->ν->Prop where
 |non:gX K H .non (.type "NoneType")
 |bl (x:Bool):gX K H (.bl x) (.type "bool")
 |int (i:Int):gX K H (.int i) (.type "int")
 |str (x:Str):gX K H (.str x) (.type "str")
 |flt (x:UInt64):gX K H (.flt x) (.type "float")
 |lst {a:υ} {xs:List V} (e:H a=Z (.lst xs)):gX K H (.ref a) (.type "list")
 |frz {a:υ} {o:Obj} {xs:List V} (e:H a=Z (.frz o (.lst xs))):gX K H (.ref a) (.type "list")
 |tup {a:υ} {xs:List V} (e:H a=Z (.tup xs)):gX K H (.ref a) (.type "tuple")
 |dK {a:υ} {kvs:List (en×V)} (e:H a=Z (.dK kvs)):gX K H (.ref a) (.type "dict")
 |dT {a:υ} {kvs:List (List en×V)} (e:H a=Z (.dT kvs)):gX K H (.ref a) (.type "dict")
 |ins {a C dx:υ} {fs:List (Str×V)} (e:H a=Z (.ins C dx fs)) (cl:tJ K C) (ha:Ϩ K (.ref C) "__class__"=Z (Z (.builtin "object.__class__")))
   (hn:PySem.W.specialIn K (.builtin "object.__class__") "__get__"=Z (Z (.builtin "getset_descriptor.__get__"))) (htk:PySem.W.takesIn K (.builtin "object.__class__")=Z O)
   (hm:PySem.W.mroIn K C (.type "object")=Z O):gX K H (.ref a) (.ref C)
def BL(I:ax X pins σ H s)(rx:aU x u)(ty:gX X.K H x t)(e:K9 X.K t c=Z b)(h:∀tk,Q (.bool b) {s with toks:=tk}):
  ύ (ϓ X.prog X.w) A (call (.builtin "isinstance") [u,c]) Q E s:=by
 cases ty with
 |non=>cases(rx);show u5 PySem.W.kitx_none I.kIn E5 e (λz=>nomatch z) h
 |bl y=>cases(rx);show u5 PySem.W.kitx_bool I.kIn E5 e (λz=>nomatch z) h
 |int i=>ext(⟨t,q⟩:(rx));cases q;show u5 PySem.W.kitx_int I.kIn E5 e (λz=>nomatch z) h
 |str y=>ext(⟨t,q⟩:(rx));cases q;show u5 PySem.W.kitx_str I.kIn E5 e (λz=>nomatch z) h
 |flt y=>ext(⟨t,q⟩:(rx));cases q;show u5 PySem.W.kitx_float I.kIn E5 e (λz=>nomatch z) h
 | @lst a xs ea=>cases(rx);ext(⟨_,_,n,_,h1⟩:(I.hok a _ ea));show u5 PySem.W.kitx_list I.kIn {0,h1,1} e (λz=>nomatch z) h
 | @frz a ob xs ea=>cases(rx);ext(⟨_,_,_,n,_,h1⟩:(I.hok a _ ea));show u5 PySem.W.kitx_list I.kIn {0,h1,1} e (λz=>nomatch z) h
 | @tup a xs ea=>cases(rx);ext(⟨_,_,_,p⟩:(I.hok a _ ea));ext(⟨⟨o,h1,h2,_⟩,_⟩:p);show u5 PySem.W.kitx_tuple I.kIn {o,h1,h2} e (λz=>nomatch z) h
 | @dK a kvs ea=>cases(rx);ext(⟨_,_,vs,_,⟨o,es,ep,h1,h2,_⟩⟩:(I.hok a _ ea));show u5 PySem.W.kitx_dict I.kIn {o,h1,h2.1} e (λz=>nomatch z) h
 | @dT a kvs ea=>cases(rx);ext(⟨_,_,xs,_,o,es,ep,h1,h2,_⟩:(I.hok a _ ea));show u5 PySem.W.kitx_dict I.kIn {o,h1,h2.1} e (λz=>nomatch z) h
 | @ins a C dx fs ea cl ha hn htk hm=>cases(rx);ext(⟨mA,d,_⟩:mF I.hok ea);ext(⟨od,f,_⟩:d.look);show u5 (PySem.W.kitx_own (cl.get _) cl.hd ha hn htk hm) I.kIn f e (λz=>nomatch z) h
end
structure cf(k:Nat)(A:Ϛ):Prop where
 hd:A.handled=Β
 dp:A.depth+3*k+5<recursionLimit
 un:A.units+16*k+200<C2
def cf.mono(r:cf k A)(h:j<=k):cf j A:={r.hd,by let:=r.dp;omega,by let:=r.un;omega}
def cf.deeper(r:cf (k+1) A)(env:Env):cf k (A.deeper env):=
 {r.hd,by let:=r.dp;change A.depth+1+3*k+5<_;omega,by let:=r.un;change A.units+3+16*k+200<_;omega}
def xZ{A:Ϛ}{C:υ}{us:List ν}{j:List (Str×ν)}:(A.under (.builtin "type.__call__" {.ref C::us,j})).depth=A.depth+1:=by first|rfl|simp[Ϛ.under,Code.weight,Code.isCreation,Code.isGuard,Code.isCaller,Code.frames,Code.isFrame,guardIds]
def xP{A:Ϛ}{C:υ}{us:List ν}{j:List (Str×ν)}:(A.under (.builtin "type.__call__" {.ref C::us,j})).units=A.units+1:=by first|rfl|simp[Ϛ.under,Code.cUnits,Code.frames,Code.isFrame]
def cf.make(r:cf (k+1) A)(C:υ)(us:List ν)(j:List (Str×ν)):cf k (A.under (.builtin "type.__call__" {.ref C::us,j})):=
 {r.hd,by let:=r.dp;rw[xZ];omega,by let:=r.un;rw[xP];omega}
def cf.depth{k:Nat}{A:Ϛ}(r:cf k A):A.depth<recursionLimit:=by let:=r.dp;omega
def cf.units{k:Nat}{A:Ϛ}(r:cf k A):A.units+64<C2:=by let:=r.un;omega
def mf:TA:=λ_ H Q=>Q [] H
def jG(ta:TE)(tr:TA):TA:=λσ H Q=>ta σ H λx H1=>tr σ H1 λxs H2=>Q (x::xs) H2
section
variable{X:Cx}{e:Ϲ}{es:List Ϲ}{te:TE}{t:TA}{pos:Pos}
def pa_nil:PA X [] mf:=λ_ _ _ _ H Q I h=>Calls.spliced_nil {[],H,I,.nil,h}
def pa_cons(q:PE X e te)(j:PA X es t)(D:autoParam (ϗ (e::es) X.env=(J,eval e X.env)::ϗ es X.env) yR._auto_1):PA X (e::es) (jG te t):=by intro pos pins s σ H Q I h;rw[D];show Calls.spliced_cons (bw (q pins s σ H _ I h) λu n ⟨x,H1,a,G,F⟩=>bw (j pos pins n σ H1 _ a F) λus M ⟨xs,H2,z,B,L⟩=>{x::xs,H2,z,.cons G B,L})
def Pt(t:TA):TE:=λσ H Q=>t σ H λxs H1=>xs.length<=Λ/\∀p,H1 p=Β->Q (.ref p) (upd H1 p (.tup xs))
def Oo(t:TA):TE:=λσ H Q=>t σ H λxs H1=>xs.length<=Λ/\∀p,H1 p=Β->Q (.ref p) (upd H1 p (.lst xs))
def pe_tup{x1}(h:PA X es t):PE X (.Tuple es x1 pos) (Pt t):=by intro pins s σ H Q I B;show wpAny_Tuple_spliced (bw (h pos pins s σ H _ I B) λus j ⟨xs,H1,n,r,z,q⟩=>{by rw[<-r.length];show z,2});show{.ref j.heap.objs.size,upd H1 j.heap.objs.size (.tup xs),n.laid (t':=j.toks) (λb u e=>ω _ e) (Α _) ?_,1,q _ (n.hok.fresh (Α _))};show{z,us,r,{0,Ψ _ U,101},Hu.new _ U}
def pe_lst(h:PA X es t):PE X (.List es pos) (Oo t):=by intro pins s σ H Q I B;show wpAny_List_spliced (bw (h pos pins s σ H _ I B) λus j ⟨xs,H1,n,r,z,q⟩=>{by rw[<-r.length];show z,2});show{.ref j.heap.objs.size,upd H1 j.heap.objs.size (.lst xs),n.laid (t':=j.toks) (λb u e=>ω _ e) (Α _) ?_,1,q _ (n.hok.fresh (Α _))};show{z,us,(0),r,Ψ _ U}
end
abbrev Sp:=List V->Hp->VK->XK->Prop
abbrev xJ:=List Env->Hp->ψ->XK->ν->ψ->Prop
structure sy(P:Ι)(w:ώ)(K:η)(mg:Str->Option ν)(base:ϙ)(A:Ϛ)(outer:List Env)(s:ψ)(H:Hp):Prop where
 frames:A.frames=Z outer
 mod:Mod K mg base
 bs:∀b o,base.get? b=Z o->s.heap.get? b=Z o/\H b=Β
 bsz:base.objs.size<=s.heap.objs.size
 funs:s.heap.FunFrames base outer
 frf:∀b∈gW outer,H b=Β
 hok:gZ P w H s.heap
 bare:Sk s.gens
def CE(j:List Env)(P:Ι)(w:ώ)(H:Hp)(s:ψ)(Q:VK)(u:ν)(s':ψ):Prop:=
 ∃v H',s'.os=s.os/\Sk s'.gens/\Un (gW j) [] H H' s.heap s'.heap/\gZ P w H' s'.heap/\aU v u/\Q v H'
def CR(CX:xJ)(j:List Env)(P:Ι)(w:ώ)(H:Hp)(s:ψ)(Q:VK)(E:XK)(r:Result)(s':ψ):Prop:=
 match r with
 |.ok (.ret u)=>CE j P w H s Q u s'
 |.ok _=>False
 |.error e=>CX j H s E e s'
structure au(P:Ι)(w:ώ)(K:η)(mg:Str->Option ν)(base:ϙ)(CX:xJ)(k:Nat)(f:υ)(fd:ϣ)(ps:List Str)(sp:Sp):Prop where
 len:∀vs H Q E,sp vs H Q E->vs.length=ps.length
 run:∀(A:Ϛ)(outer:List Env)(s:ψ)(H:Hp)(args:Args)(us:List ν)(vs:List V)(Q:VK)(E:XK),cf k A->sy P w K mg base A outer s H->Tn s fd args (ps.zip us)->aI vs us->sp vs H Q E ->
  N7 (ϓ P w) A (.call (.ref f) args) (CR CX outer P w H s Q E) s
def au.mono{P:Ι}{w:ώ}{K:η}{mg:Str->Option ν}{base:ϙ}{CX:xJ}{j k:Nat}{f:υ}{fd:ϣ}{ps:List Str}{sp:Sp}(F:au P w K mg base CX j f fd ps sp)(h:j<=k):
  au P w K mg base CX k f fd ps sp:={F.len,λA n s H q us vs Q E z=>F.run A n s H q us vs Q E (z.mono h)}
def au.imp{P:Ι}{w:ώ}{K:η}{mg:Str->Option ν}{base:ϙ}{CX:xJ}{k:Nat}{f:υ}{fd:ϣ}{ps:List Str}{sp j:Sp}(F:au P w K mg base CX k f fd ps sp)
  (h:∀vs H Q E,j vs H Q E->sp vs H Q E):au P w K mg base CX k f fd ps j:=
 {λvs H Q E q=>F.len vs H Q E (h _ _ _ _ q),λA n s H z us vs Q E B a I D G=>F.run A n s H z us vs Q E B a I D (h _ _ _ _ G)}
def sy.make{P:Ι}{w:ώ}{K:η}{mg:Str->Option ν}{base:ϙ}{A:Ϛ}{j:List Env}{s:ψ}{H:Hp}(e:sy P w K mg base A j s H)(C:υ)(us:List ν)(n:List (Str×ν)):
  sy P w K mg base (A.under (.builtin "type.__call__" {.ref C::us,n})) j s H:={by first|show e.frames|(simpa[Ϛ.under,Code.envs,Code.isFrame,pushEnvs]using e.frames),e.mod,e.bs,e.bsz,e.funs,e.frf,e.hok,e.bare}
section
variable{X:Cx}{pins:List (υ×Obj)}{σ:St}{H:Hp}{s s':ψ}
def ax.env0(I:ax X pins σ H s):sy X.prog X.w X.K X.mg X.base X.A X.stack s H:=
 {I.ok.frames,I.ok.mod,I.bs,Ϫ I.ok.bsz I.sz,I.stack,I.stkFree,I.hok,I.bare}
def ax.after(I:ax X pins σ H s)(h:CE X.stack X.prog X.w H s Q u s'):EP X pins σ Q u s':=by ext(⟨v,H',F,j,G,n,r,q⟩:h);ext(⟨D,g,d,t,B⟩:s');obtain rfl:B=s.os:=F;show{v,H',I.call (h':=D) (g':=g) (d':=d) (t':=t) G n j (λb z=>absurd z ()),r,q}
end
def jg(sp:Sp)(dvs:List V)(E:XK)(t:TA):TE:=λσ H Q=>t σ H λvs H1=>sp (vs++dvs) H1 Q E
inductive Gp (C:υ) (m:Str) (sp:Sp) (dvs:List V) (E:XK) (t:TA) (σ:St) (Q:VK) (x:V) (H1:Hp):Prop|mk a dx fs (_:x=.ref a) (_:H1 a=Z (.ins C dx fs)) (_:fs.lookup m=Β) (_:t σ H1 λvs H2=>sp (x::(vs++dvs)) H2 Q E)
def JE(C:υ)(m:Str)(sp:Sp)(dvs:List V)(E:XK)(ta:TE)(t:TA):TE:=λσ H Q=>ta σ H (Gp C m sp dvs E t σ Q)
def Oe(C:υ)(sp:Sp)(dvs:List V)(E:XK)(t:TA):TE:=λσ H Q=>t σ H λvs H1=>∀x dx,H1 x=Β->H1 dx=Β->dx≠x ->
 sp (.ref x::(vs++dvs)) (upd (upd H1 dx (.own x)) x (.ins C dx [])) (λv H2=>v=.non/\Q (.ref x) H2) E
def bE(K:η)(fd:ϣ)(ps:List Str)(ds:List ν):Prop:=
 ∀(s:ψ)(us:List ν),K.In s.heap->(us++ds).length=ps.length->Tn s fd {us,[]} (ps.zip (us++ds))
def bE.all{K:η}{fd:ϣ}{ps:List Str}(h:∀us:List ν,us.length=ps.length->bindArgs fd {us,[]}=pure (ps.zip us)):bE K fd ps []:=λs us _ j=>by rw[ϔ]at j⊢;show .of_eq (h us j)
def dL(CX:xJ)(X:Cx)(E:XK):Prop:=∀(pins:List (υ×Obj))(σ:St)(H:Hp)(s:ψ)(e:ν)(s':ψ),ax X pins σ H s->CX X.stack H s E e s'->X.xe e s'
section
variable{X:Cx}{CX:xJ}{k:Nat}{f C:υ}{fd:ϣ}{ps:List Str}{sp:Sp}{dvs:List V}{ds:List ν}{E:XK}{x m:Str}{p pos apos:Pos}{e o:Ϲ}{es:List Ϲ}{ta:TE}{t:TA}
def py(F:au X.prog X.w X.K X.mg X.base CX k f fd ps sp)(hr:cf k X.A)(hb:bE X.K fd ps ds)(hd:aI dvs ds)(hx:dL CX X E)
  (I:ax X pins σ H s) (r:aI vs us) (h:sp (vs++dvs) H Q E):ύ (ϓ X.prog X.w) X.A (call (.ref f) us) (EP X pins σ Q) X.xe s:=by
 let r2:=r.append hd;let hl:(us++ds).length=ps.length:=by rw[<-r2.length];show F.len _ _ _ _ h
 show Q5 (J1 (F.run X.A X.stack s H {us,[]} (us++ds) (vs++dvs) Q E hr I.env0 (hb s us I.kIn hl) r2 h) λr s' hq=>?_);cases r with
 |error e=>show hx pins σ H s e s' I hq
 |ok fl=>
  cases fl with
  |ret u=>show I.after hq
  |next=>show ϴ hq
  |brk=>show ϴ hq
  |cont=>show ϴ hq
def tL(F:au X.prog X.w X.K X.mg X.base CX k f fd ps sp)(B:cf k X.A)(b:Gl X x)(D:X.mg x=Z (.ref f))(M:ϰ X.K (.ref f)=O)(R:bE X.K fd ps ds)(N:aI dvs ds)(L:dL CX X E)
  (G:PA X (e::es) t) (z:autoParam ((x==("__debug__" : Str))=J) yD._auto_1) (a:autoParam (ϗ (e::es) X.env=(J,eval e X.env)::ϗ es X.env) yR._auto_1) (n:autoParam ((C_ pos (ϗ es X.env)).any (·.1)=J) yR._auto_1):
  PE X (.Call (.Name x p) (e::es) [] pos) (jg sp dvs E t):=by
 intro pins s σ H Q I h;show r_ (fG I b D ?_ z);show B7 I.ok.mod.kin M (bw (G pos pins s σ H _ I h) λus S ⟨vs,H1,j,r,q⟩=>{j.kIn,2}) a n;show py F B R N L j r q
def CP(F:au X.prog X.w X.K X.mg X.base CX k f fd ps sp)(hr:cf k X.A)(hg:Gl X x)(hm:X.mg x=Z (.ref f))(hk:ϰ X.K (.ref f)=O)(hb:bE X.K fd ps ds)(hd:aI dvs ds)(hx:dL CX X E)
  (hdb:autoParam ((x==("__debug__" : Str))=J) yD._auto_1):PE X (.Call (.Name x p) [] [] pos) (jg sp dvs E mf):=by
 intro pins s σ H Q I h;show r_ (fG I hg hm ?_ hdb);show PySem.W.callWith_K0 I.kIn hk (py (us:=[]) F hr hb hd hx I .nil h)
def pe_meth(R:PE X o ta)(c:tJ X.K C)(j:oP X.K C m f)(F:au X.prog X.w X.K X.mg X.base CX k f fd ps sp)(p:cf k X.A)(W:bE X.K fd ps ds)(S:aI dvs ds)(i:dL CX X E)(N:PA X (e::es) t)
  (D:autoParam (ϗ (e::es) X.env=(J,eval e X.env)::ϗ es X.env) yR._auto_1) (G:autoParam ((C_ pos (ϗ es X.env)).any (·.1)=J) yR._auto_1)
  (L:autoParam (eval (.Call (.Attribute o m apos) (e::es) [] pos) X.env=(do
   let z <-eval o X.env
   standAt apos.atName
   let (f,first) <-holding [z] (getMethod z m pl)
   callWith pos f first (C_ pos (ϗ (e::es) X.env)) (backToKw pos (S4 [] X.env)))) yR._auto_1):
  PE X (.Call (.Attribute o m apos) (e::es) [] pos) (JE C m sp dvs E ta t):=by
 intro pins s σ H Q I h;show Q0 (bw (R pins s σ H _ I h) λu M ⟨x,H1,B,b,a,dx,fs,ex,g,l,q⟩=>?_) L;subst ex;obtain rfl:u=ϐ a:=b;show pk B g c j l (B7 I.ok.mod.kin j.kp (bw (N pos pins M σ H1 _ B q) λus s2 ⟨vs,H2,n,r,d⟩=>{n.kIn,2}) D G);show py (vs:=.ref a::vs) F p W S i n (.cons U r) d
def pe_meth0(d:PE X o ta)(c:tJ X.K C)(n:oP X.K C m f)(F:au X.prog X.w X.K X.mg X.base CX k f fd ps sp)(B:cf k X.A)(N:bE X.K fd ps ds)(L:aI dvs ds)(G:dL CX X E)
  (D:autoParam (eval (.Call (.Attribute o m apos) [] [] pos) X.env=(do
   let z <-eval o X.env
   standAt apos.atName
   let (f,first) <-holding [z] (getMethod z m pl)
   callWith pos f first (C_ pos (ϗ [] X.env)) (backToKw pos (S4 [] X.env)))) yR._auto_1):
  PE X (.Call (.Attribute o m apos) [] [] pos) (JE C m sp dvs E ta mf):=by
 intro pins s σ H Q I h;show Q0 (bw (d pins s σ H _ I h) λu R ⟨x,H1,j,M,a,dx,fs,ex,b,l,q⟩=>?_) D;subst ex;obtain rfl:u=ϐ a:=M;show pk j b c n l (PySem.W.callWith_K0 j.kIn n.kp (py (vs:=[.ref a]) F B N L G j (.cons U .nil) q))
structure Mk(K:η)(C f:υ):Prop where
 makes:Tt K C=O
 init:Ϩ K (.ref C) "__init__"=Z (Z (.ref f))
 fn:M4 K (.ref f)=O
 kp:ϰ K (.ref C)=O
def Dp(M:Mk X.K C f)(F:au X.prog X.w X.K X.mg X.base CX k f fd ps sp)(hr:cf (k+1) X.A)(hb:bE X.K fd ps ds)(hd:aI dvs ds)
  (hx:dL CX X E) (I:ax X pins σ H s) (r:aI vs us)
  (h:∀x dx,H x=Β->H dx=Β->dx≠x->sp (.ref x::(vs++dvs)) (upd (upd H dx (.own x)) x (.ins C dx [])) (λv H2=>v=.non/\Q (.ref x) H2) E):
  ύ (ϓ X.prog X.w) X.A (call (.ref C) us) (EP X pins σ Q) X.xe s:=by
 let hq:=h (s.heap.objs.size+1) s.heap.objs.size (I.hok.fresh (F7 _)) (I.hok.fresh (Α _)) (ϩ (Q4 _));let I2:=ax.made (C:=C) I;let r2:aI (V.ref (s.heap.objs.size+1)::(vs++dvs)) (ϐ (s.heap.objs.size+1)::(us++ds)):=.cons U (r.append hd);let hl:(ϐ (s.heap.objs.size+1)::us++ds).length=ps.length:=by let e:=r2.length;rw[F.len _ _ _ _ hq]at e;show e.symm
 show Q5 (Eg I.kIn M.makes M.init (beq_iff_eq.mp M.fn) (J1 (F.run _ X.stack _ _ {ϐ (s.heap.objs.size+1)::us,[]} (ϐ (s.heap.objs.size+1)::(us++ds)) _ _ E (hr.make C us [])
  (I2.env0.make C us []) (hb _ (ϐ (s.heap.objs.size+1)::us) I2.kIn hl) r2 hq) λr s' hq'=>?_))
 cases r with
 |error e=>show hx pins σ _ _ e s' I2 hq'
 |ok fl=>
  cases fl with
  |ret u=>ext(⟨v,H',I3,rv,ev,q3⟩:I2.after hq');subst ev;show{rv,{V.ref (s.heap.objs.size+1),H',I3,1,q3}}
  |next=>show ϴ hq'
  |brk=>show ϴ hq'
  |cont=>show ϴ hq'
def pe_make(M:Mk X.K C f)(F:au X.prog X.w X.K X.mg X.base CX k f fd ps sp)(B:cf (k+1) X.A)(b:Gl X x)(D:X.mg x=Z (.ref C))(R:bE X.K fd ps ds)(N:aI dvs ds)(L:dL CX X E)
  (G:PA X (e::es) t) (z:autoParam ((x==("__debug__" : Str))=J) yD._auto_1) (a:autoParam (ϗ (e::es) X.env=(J,eval e X.env)::ϗ es X.env) yR._auto_1) (n:autoParam ((C_ pos (ϗ es X.env)).any (·.1)=J) yR._auto_1):
  PE X (.Call (.Name x p) (e::es) [] pos) (Oe C sp dvs E t):=by
 intro pins s σ H Q I h;show r_ (fG I b D ?_ z);show B7 I.ok.mod.kin M.kp (bw (G pos pins s σ H _ I h) λus S ⟨vs,H1,j,r,q⟩=>{j.kIn,2}) a n;show Dp M F B R N L j r q
end
section
variable{X:Cx}{CX:xJ}{k:Nat}{f C:υ}{fd:ϣ}{ps ks:List Str}{sp:Sp}{E:XK}{x m:Str}{p pos apos kpos:Pos}{e o:Ϲ}{es:List Ϲ}{kws:List Keyword}{te ta:TE}{t tk:TA}{nm:Option Str}
variable{g:List ν->List ν->List ν}{gV:List V->List V->List V}
end
structure cK(N P:List Str)(sc:M8):Prop where
 kind:sc.kind=.function
 co:sc.isCoroutine=J
 gen:sc.isGenerator=J
 nd:N.Nodup
 pre:N.take P.length=P
 par:∀x∈P,sc.names.lookup x=Z .local\/sc.names.lookup x=Z .cell
 nofree:∀y∈sc.names,y.2≠.free
def rc{kindOf:Str->Option K_}{x:Str}:∀{binds:List (Str×ν)}{m:Str->Option ν},(∀v,(x,v)∉binds)->bindL kindOf binds m x=m x
 |[],_,_=>rfl
 |(n,v)::r,m,h=>by
  unfold bindL;rw[rc λw hw=>h w (ρ _ hw)];split
  .let:x≠n:=by ext rfl;show h v π
   simp[this]
  .rfl
def qK{kindOf:Str->Option K_}{x:Str}:∀{binds:List (Str×ν)}{m:Str->Option ν},(∀v,(x,v)∉binds)->bindC kindOf binds m x=m x
 |[],_,_=>rfl
 |(n,v)::r,m,h=>by
  unfold bindC;rw[qK λw hw=>h w (ρ _ hw)];split
  .rfl
  .let:x≠n:=by ext rfl;show h v π
   simp[this]
def qj{j:Str->Option K_}{x:Str}{v:ν}:∀{P:List Str}{vs:List ν}{i:Nat}{m:Str->Option ν},P.Nodup->P[i]?=Z x->vs[i]?=Z v->j x=Z .local ->
  bindL j (P.zip vs) m x=Z v
 |[],_,_,_,_,h,_,_=>by simp at h
 |_::_,[],_,_,_,_,h,_=>by simp at h
 |p::P,w::vs,0,m,nd,h1,h2,hk=>by simp at h1 h2;subst h1;subst h2;change bindL j ((p,w)::P.zip vs) m p=_;unfold bindL;rw[rc λv n=>(B0.mp nd).1 (RZ n).1,Z5 hk];simp
 |p::P,w::vs,i+1,m,nd,h1,h2,hk=>by unfold bindL;show qj (i:=i) (B0.mp nd).2 (↑h1) (↑h2) hk
def qr{j:Str->Option K_}{x:Str}{v:ν}:∀{P:List Str}{vs:List ν}{i:Nat}{m:Str->Option ν},P.Nodup->P[i]?=Z x->vs[i]?=Z v->j x≠Z .local ->
  bindC j (P.zip vs) m x=Z v
 |[],_,_,_,_,h,_,_=>by simp at h
 |_::_,[],_,_,_,_,h,_=>by simp at h
 |p::P,w::vs,0,m,nd,h1,h2,hk=>by simp at h1 h2;subst h1;subst h2;change bindC j ((p,w)::P.zip vs) m p=_;unfold bindC;rw[qK λv n=>(B0.mp nd).1 (RZ n).1,Z6 hk];simp
 |p::P,w::vs,i+1,m,nd,h1,h2,hk=>by unfold bindC;show qr (i:=i) (B0.mp nd).2 (↑h1) (↑h2) hk
def fF(N:List Str)(vs:List V):St:=vs.map Z++Ϡ (N.length-vs.length) Β
def bP(CX:xJ)(P:Ι)(w:ώ)(K:η)(mg:Str->Option ν)(base:ϙ)(N:List Str)(n:Str)(j:M8)(f:υ)(q:ν)(A:Ϛ)(outer:List Env)(s:ψ)(H:Hp)(E:XK):Cx where
 prog:=P
 w:=w
 K:=K
 mg:=mg
 base:=base
 A:=A.deeper (envOfC n j s.heap.objs.size f q)
 N:=N
 s₀:=s
 H₀:=H
 env:=envOfC n j s.heap.objs.size f q
 outer:=outer
 stack:=envOfC n j s.heap.objs.size f q::outer
 ex:=[]
 calm:=O
 fn:=λ_=>O
 pn:=[]
 xe:=λe s'=>ύ (ϓ P w) (A.deeper (envOfC n j s.heap.objs.size f q)) (leaving (envOfC n j s.heap.objs.size f q) e) (λ_ z=>CX outer H s E e z) (λB z=>CX outer H s E B z) s'
def uG{sc:M8}{n:Nat}{x:Str}(h:sc.names.lookup x=Z .cell):∃c,(cellsFrom n sc.names []).lookup x=Z c:=by show Option.isSome_iff_exists.mp (O_ sc.names n [] (.inl h))
def qx{CX:xJ}{P:Ι}{w:ώ}{K:η}{mg:Str->Option ν}{base:ϙ}{N ps:List Str}{F:Str}{n:M8}{f:υ}{G:ν}{A:Ϛ}{I:List Env}{s M:ψ}{H:Hp}{E:XK}{us:List ν}{vs:List V}
  (S:cK N ps n) (l:A.handled=Β) (j:sy P w K mg base A I s H) (hl:vs.length=ps.length) (r:aI vs us)
  (x:InCallC s s.heap.objs.size (bindL (envOfC F n s.heap.objs.size f G).kindOf (ps.zip us) λ_=>Β) (cellsFrom (s.heap.objs.size+1) n.names []) (bindC (envOfC F n s.heap.objs.size f G).kindOf (ps.zip us) λ_=>Β) M):
  ax (bP CX P w K mg base N F n f G A I s H E) [] (fF N vs) H M:=by
 let g:ps.length<=N.length:=by let:=congrArg y6 S.pre;rw[Φ]at this;omega
 ext(⟨h1,tk,rfl,m⟩:x.done);let o:∀b:υ,b∉(bP CX P w K mg base N F n f G A I s H E).ex:=λb z=>absurd (show b∈([]:List υ)from z) ();show{{j.mod,S.kind,11,Α _,λy z c h1 h2=>?_,λy B=>?_,λy c _ h=>?_,λ_=>l,Ϛ.frames_deeper j.frames,.inr {11},λb z=>absurd z (o b),j.bs,j.bsz,λb _ _=>o b,λb z=>absurd z (o b),j.funs,j.frf},1,j.bare,Un.kept m,{0,x.toInCall.ns,λi y v h1 h2 h3=>?_},λy c h=>{0,x.cell y c h},j.hok.fresh (Α _),λy c h=>?_,λp D=>absurd (show p∈([]:List (υ×Obj))from D) (),j.hok.kept m,2}
 .show name_of_addr x.apart (G6 h1) (G6 h2)
 .let B:=B;rcases B with B|B
  .show uG B
  .show absurd U (S.nofree _ (G6 B))
 .show C9 (x.above y c (G6 h))
 .let hi:i<vs.length:=by
   unfold fF at h2;by_cases hi:i<vs.length
   .show hi
   .rw[i6 (↑hi)]at h2;rw[List.getElem?_replicate]at h2;split at h2<;>cases h2
  let d:vs[i]?=Z v:=by
   unfold fF at h2;rw[e_ (↑hi),ϑ]at h2;cases e:vs[i]? with
   |none=>rw[e]at h2;cases h2
   |some a=>rw[e]at h2;cases h2;rfl
  ext(⟨u,R,W⟩:r.get d);let D:ps[i]?=Z y:=by rw[<-S.pre,List.getElem?_take_of_lt ()];show h1
  let L:ps.Nodup:=by rw[<-S.pre];show S.nd.sublist (List.take_sublist _ _)
  show{u,W,2};rcases S.par y (ό D)with k|k
  .show .inl {k,qj L D R k}
  .ext(⟨c,e⟩:uG k);show .inr {.inl k,c,e,2};let q:=x.cell y c e;rw[qr L D R (by change n.names.lookup y≠_;rw[k];decide)]at q;show q
 .show j.hok.fresh (C9 (x.above y c (G6 h)))
 .unfold fF;change _=N.length;rw[Ε,ε,F0];omega
def Ey{CX:xJ}{P:Ι}{w:ώ}{K:η}{mg:Str->Option ν}{base:ϙ}{k:Nat}{f:υ}{name qual:Str}{params:Arguments}{body:List ϸ}{scope:M8}{dV kV doc pm cdv ct oc:ν}{an od:Option υ}
  {osl:Array (Option ν)} {N ps:List Str} {sp:Sp} (lk:K.lookup f=Z {oc,od,.func (j4 name qual params body scope dV kV doc pm an cdv ct),osl}) (hcd:A7 K cdv qual=O) (S:cK N ps scope)
  (len:∀vs H Q E,sp vs H Q E->vs.length=ps.length)
  (hbody:∀(A:Ϛ)(outer:List Env)(s:ψ)(H:Hp)(vs:List V)(Q:VK)(E:XK),cf k (A.deeper (envOfC qual scope s.heap.objs.size f cdv))->sp vs H Q E ->
   ∃t,lG (bP CX P w K mg base N qual scope f cdv A outer s H E) body t/\t {nx:=λ_ H'=>Q .non H',rt:=Q} (fF N vs) H):
  au P w K mg base CX (k+1) f (j4 name qual params body scope dV kV doc pm an cdv ct) ps sp:=by
 show{len,λA outer s H args us vs Q E hr e0 hb r hsp=>?_};let KX:=e0.mod.kin.keeps λb o e=>(e0.bs b o e).1;let hkind:∀y∈ps.zip us,scope.names.lookup y.1=Z .local\/(scope.names.lookup y.1=Z .cell/\((cellsFrom (s.heap.objs.size+1) scope.names []).lookup y.1).isSome=O):=λ⟨n,v⟩ hy=>by
  rcases S.par n (RZ hy).1 with q|q
  .show .inl q
  .show .inr {q,O_ _ _ _ (.inl q)}
 show codeAny_call_function hr.depth (KX _ _ lk) U S.co S.gen U (PySem.W.codeRec_of KX hcd) (hb _ _ _ _ (SA S.kind hkind λenv he s1 x=>?_));subst he;show{(e0.mod.nolimit.keeps λb o e=>(e0.bs b o e).1).keeps x.toInCall.keep,codeAny_func ?_};ext(⟨t,ht,hq⟩:hbody A outer s H vs Q E (hr.deeper _) hsp);let I:ax (bP CX P w K mg base N qual scope f cdv A outer s H E) [] (fF N vs) H s1:=qx S hr.hd e0 (len _ _ _ _ hsp) r x;show m_ (ht [] s1 (fF N vs) H _ I hq) (λfl s' hs=>?_) λe s' hs=>hs;let fin:∀{σ':St}{H':Hp}{v:V}{u:ν},ax (bP CX P w K mg base N qual scope f cdv A outer s H E) [] σ' H' s'->aU v u->Q v H'->CE outer P w H s Q u s':=
  λ{σ' H' v u} a rv q=>{v,H',a.os,a.bare,a.base,a.hok,rv,q}
 cases fl with
 |ret u=>ext(⟨v,σ',H',a,rv,q⟩:hs);show fin a rv q
 |next=>ext(⟨σ',H',a,q⟩:hs);show fin (v:=V.non) a U q
 |brk=>ext(⟨_,_,_,q⟩:hs);show ϴ q
 |cont=>ext(⟨_,_,_,q⟩:hs);show ϴ q
section
variable{X:Cx}{x:Str}{p pos:Pos}{e:Ϲ}{es:List Ϲ}{t:TA}{id T:String}{r:List V->Hp->VK->Prop}
def Qy(r:List V->Hp->VK->Prop)(t:TA):TE:=λσ H Q=>t σ H λvs H1=>r vs H1 Q
def pe_callB(B:eQ X (.builtin id) r)(F:Gl X x)(q:X.mg x=Β)(G:M2 x=Z (.builtin id))(D:PA X (e::es) t)(b:autoParam (x≠"__name__") yD._auto_1)(n:autoParam ((x==("__debug__" : Str))=J) yD._auto_1)
  (a:autoParam (ϗ (e::es) X.env=(J,eval e X.env)::ϗ es X.env) yR._auto_1) (j:autoParam ((C_ pos (ϗ es X.env)).any (·.1)=J) yR._auto_1):PE X (.Call (.Name x p) (e::es) [] pos) (Qy r t):=by
 intro pins s σ H Q I h;show r_ (iu I F q G ?_ b n);show PyProof.Rows.callWith_builtin1 (bw (D pos pins s σ H _ I h) λus z ⟨vs,H1,N,M,L⟩=>B pins z σ H1 vs us Q N M L) a j
def pe_callTy(B:eQ X (.type T) r)(F:Gl X x)(q:X.mg x=Β)(G:M2 x=Z (.type T))(D:PA X (e::es) t)(b:autoParam (x≠"__name__") yD._auto_1)(n:autoParam ((x==("__debug__" : Str))=J) yD._auto_1)
  (a:autoParam (ϗ (e::es) X.env=(J,eval e X.env)::ϗ es X.env) yR._auto_1) (j:autoParam ((C_ pos (ϗ es X.env)).any (·.1)=J) yR._auto_1):PE X (.Call (.Name x p) (e::es) [] pos) (Qy r t):=by
 intro pins s σ H Q I h;show r_ (iu I F q G ?_ b n);show A2 (bw (D pos pins s σ H _ I h) λus z ⟨vs,H1,N,M,L⟩=>B pins z σ H1 vs us Q N M L) a j
end
section
variable{κ:Type}[DecidableEq κ]
def wJ(kvs:List (κ×V))(k:κ):Option V:=(kvs.find? λkv=>decide (kv.1=k)).map (·.2)
def ie(kvs:List (κ×V))(k:κ)(v:V):List (κ×V):=
 if (kvs.any λj=>decide (j.1=k))=O then kvs.map (λj=>if j.1=k then (j.1,v)else j)else kvs++[(k,v)]
def uL{p:κ×V}{r:List (κ×V)}{k:κ}(e:p.1=k):wJ (p::r) k=Z p.2:=by simp[wJ,B5,e]
def vP{p:κ×V}{r:List (κ×V)}{k:κ}(e:¬ p.1=k):wJ (p::r) k=wJ r k:=by simp[wJ,B5,e]
def vH(k:κ):∀kvs:List (κ×V),(kvs.any λkv=>decide (kv.1=k))=(wJ kvs k).isSome
 |[]=>rfl
 |p::r=>by
  rw[M_];by_cases e:p.1=k
  .simp only[uL e,Z9 e,Bool.true_or,Option.isSome_some]
  .rw[vP e,Z8 e,Ta];show vH k r
def kW(kvs:List (κ×V))(k:κ)(v:V):(ie kvs k v).length<=kvs.length+1:=by
 unfold ie;split
 .rw[ε];omega
 .rw[Ε,Δ,B6];omega
def kP.isSome_eq(r:kP o u):o.isSome=u.isSome:=by
 cases o with
 |none=>cases u with
  |none=>rfl
  |some _=>show(r).elim
 |some _=>cases u with
  |none=>show(r).elim
  |some _=>rfl
def KV.any{kvs:List (κ×V)}{vs:List (κ×ν)}(r:KV kvs vs)(k:κ):(kvs.any λkv=>decide (kv.1=k))=vs.any λkv=>decide (kv.1=k):=by
 unfold KV at r;induction r with
 |nil=>rfl
 |cons h t ih=>rw[M_,M_,ih,h.1]
def KV.repl{kvs:List (κ×V)}{vs:List (κ×ν)}(r:KV kvs vs)(k:κ){y:V}{u:ν}(ry:aU y u):
  KV (kvs.map λkv=>if kv.1=k then (kv.1,y)else kv) (vs.map λkv=>if kv.1=k then (kv.1,u)else kv):=by
 unfold KV at r⊢;induction r with
 |nil=>show .nil
 | @cons p q ps qs h t ih=>
  rw[ϊ,ϊ];show .cons ?_ ih;ext(⟨h1,h2⟩:h);by_cases e:p.1=k
  .rw[Z5 e,Z5 (h1.symm.trans e)];show{h1,ry}
  .rw[Z6 e,Z6 (λz=>e (h1.trans z))];show⟨h1,h2⟩
def KV.put(r:KV kvs vs)(k:κ)(j:aU y u):KV (ie kvs k y) (stored vs k u):=by
 unfold ie stored;rw[r.any k];by_cases e:(vs.any λn=>decide (n.1=k))=O
 .rw[Z5 e,Z5 e];show r.repl k j
 .rw[Z6 e,Z6 e];show Paired.snoc r {1,j}
def KV.keys{kvs:List (κ×V)}{vs:List (κ×ν)}(r:KV kvs vs):kvs.map (·.1)=vs.map (·.1):=by
 unfold KV at r;induction r with
 |nil=>rfl
 |cons h t ih=>rw[ϊ,ϊ,ih,h.1]
def KV.length(r:KV kvs vs):kvs.length=vs.length:=Paired.length r
end
def uW(r:aU (kV k) u):(bj P w).is k u=O:=by
 cases k with
 |inl i=>ext(⟨t,e⟩:(r));subst e;show uV P w i t
 |inr x=>ext(⟨t,e⟩:(r));subst e;show ia P w x t
def qX:∀{ks:List en}{us:List ν},aI (ks.map kV) us->ItemsAre (bj P w) ks us
 |[],_,r=>by rw[u9]at r;cases r;show .nil
 |k::ks,_,r=>by
  rw[ϊ]at r;cases r with
  |cons h t=>show .cons (uW h) (qX t)
abbrev KT(H:Hp):List (List en×V)->List (List en×υ×ν)->Prop:=Paired λp q=>p.1=q.1/\H q.2.1=Z (.tup (p.1.map kV))/\aU p.2 q.2.2
def KT.val{H:Hp}{kvs:List (List en×V)}{xs:List (List en×υ×ν)}(r:KT H kvs xs)(k:List en):kP (wJ kvs k) ((atKey xs k).map (·.2)):=by
 induction r with
 |nil=>show E5
 | @cons p q ps qs h t n=>
  ext(⟨h1,_,h2⟩:h);by_cases e:p.1=k
  .let j:q.1=k:=h1.symm.trans e;let b:atKey (q::qs) k=Z q.2:=by simp[atKey,B5,j]
   rw[uL e,b];show h2
  .let j:¬ q.1=k:=λz=>e (h1.trans z);let b:atKey (q::qs) k=atKey qs k:=by simp[atKey,B5,j]
   rw[vP e,b];show n
def KT.repl{H:Hp}{kvs:List (List en×V)}{xs:List (List en×υ×ν)}(r:KT H kvs xs)(k:List en){y:V}{u:ν}(ry:aU y u):
  KT H (kvs.map λkv=>if kv.1=k then (kv.1,y)else kv) (xs.map (putAt k u)):=by
 induction r with
 |nil=>show .nil
 | @cons p q ps qs h t ih=>
  rw[ϊ,ϊ];show .cons ?_ ih;ext(⟨h1,h2,h3⟩:h);unfold putAt;by_cases e:p.1=k
  .rw[Z5 e,Z5 (h1.symm.trans e)];show{h1,h2,ry}
  .rw[Z6 e,Z6 (λz=>e (h1.trans z))];show{h1,h2,h3}
def KT.put(r:KT H kvs xs)(k:List en)(n:H b=Z (.tup (k.map kV)))(j:aU y u):
  KT H (ie kvs k y) (storedH xs k b u):=by
 let e:(kvs.any λz=>decide (z.1=k))=(atKey xs k).isSome:=by rw[vH,(r.val k).isSome_eq,P0]
 unfold ie storedH;rw[e];by_cases q:(atKey xs k).isSome=O
 .rw[Z5 q,Z5 q];show r.repl k j
 .rw[Z6 q,Z6 q];show Paired.snoc r {1,n,j}
def KT.keeps(r:KT H kvs xs)(j:∀b ys,H b=Z (.tup ys)->H' b=Z (.tup ys)):KT H' kvs xs:=
 Paired.mapP r λ_ _ z=>{z.1,j _ _ z.2.1,z.2.2}
section
variable{P:Ι}{w:ώ}{H:Hp}{h:ϙ}{a:υ}
def Jv(j:gZ P w H h)(e:Rd H a u):ck P w H h a u:=e.ok j
def MY(j:gZ P w H h)(e:Rd H a (.dK kvs)):kvs.length<=Λ/\(a==E4)=J/\∃vs,KV kvs vs/\h.DictOf (bj P w) a vs:=
 show ck P w H h a (.dK kvs)from Jv j e
def Fz(j:gZ P w H h)(e:H a=Z (.dK kvs)):kvs.length<=Λ/\(a==E4)=J/\∃vs,KV kvs vs/\h.DictOf (bj P w) a vs:=MY j (.inl e)
def CB(j:gZ P w H h)(e:H a=Z (.tup (ks.map kV))):(tupleKind (bj P w)).is h ks a:=by ext(⟨_,its,r,⟨o,h1,h2,n,q⟩,_⟩:(j a _ e));show{o,its.toArray,n,h1,h2,q,↑(qX r)}
def NV{kvs:List (List en×V)}(ok:gZ P w H h)(e:Rd H a (.dT kvs)):kvs.length<=Λ/\(a==E4)=J /\
  ∃xs,KT H kvs xs/\h.DictOfH (tupleKind (bj P w)) a xs:=by
 obtain⟨z,y,xs,r,o,es,ep,h1,h2,h3,h4,h5⟩:=(show ck P w H h a (.dT kvs)from Jv ok e);show{z,y,xs,r,o,es,ep,h1,h2,h3,h4,λx hx=>?_,h5};let all:∀{l:List (List en×V)}{m:List (List en×υ×ν)},KT H l m->∀x∈m,(tupleKind (bj P w)).is h x.1 x.2.1:=by
  intro l m q;induction q with
  |nil=>intro x hx;show nomatch hx
  | @cons p q ps qs hq t ih=>
   intro x hx;rcases ξ.mp hx with e|hx
   .subst e;show CB ok (by rw[<-hq.1];show hq.2.1)
   .show ih x hx
 show all r x hx
def My(j:gZ P w H h)(e:H a=Z (.dT kvs)):kvs.length<=Λ/\(a==E4)=J /\
  ∃xs,KT H kvs xs/\h.DictOfH (tupleKind (bj P w)) a xs:=NV j (.inl e)
end
def AQ(H:Hp)(a:υ)(y v:V)(H':Hp):Prop:=
 (∃kvs k,H a=Z (.dK kvs)/\y=kV k/\kvs.length<Λ/\H'=upd H a (.dK (ie kvs k v))) \/
 ∃kvs k b,H a=Z (.dT kvs)/\y=.ref b/\H b=Z (.tup (k.map kV))/\kvs.length<Λ/\H'=upd H a (.dT (ie kvs k v))
def AQ.k{H:Hp}{a:υ}{kvs:List (en×V)}{k:en}{v:V}(e:H a=Z (.dK kvs))(hl:kvs.length<Λ):AQ H a (kV k) v (upd H a (.dK (ie kvs k v))):=.inl {kvs,k,e,1,hl,1}
section
variable{X:Cx}{pins:List (υ×Obj)}{σ:St}{H:Hp}{s:ψ}{a:υ}{y v:V}{u r:ν}{o:Option V}{A:Ϛ}{E:ν->ψ->Prop}
def ax.big(I:ax X pins σ H s):E4<s.heap.objs.size:=by show Nat.lt_trans () ((I.mod.glob.keeps I.bk).lt)
def zC(I:ax X pins σ H s)(B:Md (H a))(n:F6 a s.heap h')(F:∃q,h'.get? a=Z q)(j:ck X.prog X.w (upd H a ob) h' a ob):
  ax X pins σ (upd H a ob) {s with heap:=h',toks:=t'}:=
 I.write B (.inl U) (λb q D z=>(n.2 b D).trans z) F j
def KL(z:kvs.length<=Λ)(q:(a==E4)=J)(j:KV kvs vs)(n:h'.DictOf (bj P w) a vs):
  ck P w H' h' a (.dK kvs):={z,q,vs,j,n}
def BA(hu:A.units+1<C2)(I:ax X pins σ H s)(g:AQ H a y v H')(S:aU y u)(R:aU v r)(h:∀s',ax X pins σ H' s'->Q Unit.unit s'):
  ύ (ϓ X.prog X.w) A (setItem (.ref a) u r) Q E s:=by
 rcases g with ⟨kvs,k,e,D,l,G⟩|⟨kvs,k,b,e,D,N,l,G⟩
 .subst D G;ext(⟨z,M,vs,j,L⟩:Fz I.hok e);let hz:vs.length<=Λ:=by rw[<-j.length];show z
  let F:(ie kvs k v).length<=Λ:=by let:=kW kvs k v;omega
  show wpAny_setItem_pairs (uW S) L λh' n o=>h _ ?_;let f:∃q,h'.get? a=Z q:=let ⟨q,_,_,B,_⟩:=n;{q,B}
  show zC I (by rw[e];show E5) o f (KL F M (j.put k R) n)
 .subst D G;cases(S);ext(⟨z,M,xs,j,L⟩:My I.hok e);let hz:xs.length<=Λ:=by rw[<-Paired.length j];show z
  let F:(ie kvs k v).length<=Λ:=by let:=kW kvs k v;omega
  show wpAny_setItem_heap (tupleKind_room_in1 hu) (CB I.hok N) L λh' n o=>h _ ?_;ext(⟨q,es,ep,B,h2,d,i,_,W⟩:n);show zC I (by rw[e];show E5) o {q,B} {F,M,0,(j.put k N R).keeps λc ys m=>?_,q,es,ep,B,h2,d,i,W};rw[ai (Nz m e (λz=>nomatch z))];show m
end
section
variable{X:Cx}{pins:List (υ×Obj)}{σ:St}{H:Hp}{s:ψ}{a:υ}{kvs:List (en×V)}{k:en}{u:ν}{A:Ϛ}{E:ν->ψ->Prop}
end
def Nw(i:Ϲ):Prop:=∀j n,subscripted i J j n=operate [j,n] (getItem j n)
def IH{prog:Ι}{w:ώ}{A:Ϛ}{E:ν->ψ->Prop}{s:ψ}{env:Env}{value j:Ϲ}{pos:Pos}{T id:String}{Q:ν->ψ->Prop}
  (I:TU (.type T) "__getitem__"=pure (Z (.builtin id))) (a:Nw j)
  (h:ύ (ϓ prog w) A (eval value env) (λo B=>ύ (ϓ prog w) A (eval j env) (λi n=>n.TypeIs o T/\ύ (ϓ prog w) A (getItem o i) Q E n) E B) E s):
  ύ (ϓ prog w) A (eval (.Subscript value j pos) env) Q E s:=by
 show Subscript_ (m_ h (λo B h₁=>m_ h₁ (λi n q=>?_) λ_ _ x=>x) λ_ _ x=>x);ext(⟨F,q⟩:q);show ζ ?_;rw[getitemInPython_of_ne F.not_modules];show ζ (wpAny_specialOf F I ?_);let z:ύ (ϓ prog w) A (subscripted j J o i) (λr D=>ύ (ϓ prog w) A (letTemporaryGo value o r>>=λ_=>pure r) Q E D) E n:=by rw[a o i];show wpAny_operating (m_ q (λr D G=>ζ (wpAny_letTemporaryGo (Η G))) λ_ _ x=>x)
 first
  |show Η (ζ z)
  |show ζ (Η (ζ z))
  |show ζ z
inductive GC  (D:eh) (σ:St) (v:V) (x:V) (y:V) (H3:Hp):Prop|mk a H4 (_:x=.ref a) (_:AQ H3 a y v H4) (_:D.nx σ H4)
def MN(td ty tv:TE):TS:=λD σ H=>tv σ H λv H1=>td σ H1 λx H2=>ty σ H2 (GC D σ v x)
section
variable{X:Cx}{o i e value:Ϲ}{pos pos' tpos:Pos}{td ty tv:TE}
def ps_dput(hu:X.A.units+1<C2)(ho:PE X o td)(hi:PE X i ty)(hv:PE X value tv)(hs:swapsWith value (Z (.Subscript o i pos')) pos.line X.env=pure J):
  PS X (.Assign [.Subscript o i pos'] value pos) (MN td ty tv):=by
 intro pins s σ H D I h;show wpAny_Assign_Subscript (bw (hv pins s σ H _ I h) λr s1 ⟨v,H1,I1,rv,q1⟩=>bw (ho pins s1 σ H1 _ I1 q1) λu s2 ⟨x,H2,I2,rx,q2⟩=>bw (hi pins s2 σ H2 _ I2 q2) λiv s3 ⟨y,H3,I3,ry,a,H4,ex,g,q3⟩=>?_) hs;subst ex;obtain rfl:u=ϐ a:=rx;show BA hu I3 g ry rv λs4 I4=>{σ,H4,I4,q3}
end
def Ff(h:ϙ)(j:E4<h.objs.size):ck P w H (h.push {cls:=.type "dict",data:=.dict #[]}) h.objs.size (.dK []):=
 {ϋ _,beq_eq_false_iff_ne.mpr (ϝ (ϩ j)),[],.nil,ϙ.DictOf.new h}
def KI:TE:=λ_ H Q=>∀p,H p=Β->Q (.ref p) (upd H p (.dK []))
section
variable{X:Cx}{pos:Pos}
def pe_dnewK:PE X (.Dict [] [] pos) KI:=λpins s σ H Q I h=>
 wpAny_Dict_empty {.ref s.heap.objs.size,0,I.laid (t':=s.toks) (λ_ _ q=>ω _ q) (Α _) (Ff s.heap I.big),1,h _ (I.hok.fresh (Α _))}
end
section
variable{X:Cx}{pins:List (υ×Obj)}{σ:St}{H:Hp}{s:ψ}{a:υ}{y d:V}{u r:ν}{o:Option V}{A:Ϛ}{E:ν->ψ->Prop}
end
section
variable{X:Cx}{o e f:Ϲ}{apos cpos:Pos}{td ty tx:TE}
end
section
variable{X:Cx}{pins:List (υ×Obj)}{σ:St}{H:Hp}{s:ψ}{a:υ}{kvs:List (en×V)}{A:Ϛ}{E:ν->ψ->Prop}
end
section
variable{X:Cx}{pins:List (υ×Obj)}{σ:St}{H:Hp}{s:ψ}{a:υ}{y:V}{u:ν}{A:Ϛ}{E:ν->ψ->Prop}
end
end L2
namespace HT
open PySem PyProof.Rows
section
open PySem.SeqAt
open PySem.AutoSeq1 (wpAny_loadPart')
open PySem.MeetsSeq PySem.MeetsSeq2 PySem.MeetsSeq3
end
section
variable{prog:Ι}{w:ώ}{A:Ϛ}{E:ν->ψ->Prop}{s:ψ}
def cat_tup{t b:υ}{vs ws:List ν}{Q:ν->ψ->Prop}(ht:IsTup s.heap t vs.toArray)(hb:IsTup s.heap b ws.toArray)(hv:vs≠[])
  (h1:ws=[]->Q (.ref t) s) (h2:ws≠[]->Q (.ref s.heap.objs.size) {s with heap:=s.heap.push {cls:=.type "tuple",data:=.seq (vs++ws).toArray} })
  (hsz:vs.length+ws.length<=Λ):ύ (ϓ prog w) A (G8 .Add (.ref t) (.ref b)) Q E s:=by
 ext(⟨⟨cls,dd,data,sl⟩,ho,hc,n,hd⟩:id ht);ext(⟨⟨cls2,dd2,data2,sl2⟩,ho2,hc2,n2,hd2⟩:id hb);simp only at hc hd hc2 hd2;subst hc hd hc2 hd2;let e:vs.toArray++ws.toArray=(vs++ws).toArray:=();by_cases hw:ws=[]
 .show concat_meets {0,ho,1} {0,ho2,1} Tg seq_tuple_add P1 O6 (N4 _ _)
   (tuple_addW1 t b vs.toArray ws.toArray n n2 dd dd2 sl sl2 (↑hv) (by simp[hw])) {ho,ho2,h1 hw}
 .show concat_meets {0,ho,1} {0,ho2,1} Tg seq_tuple_add P1 O6 (N4 _ _)
   (tuple_addW2 t b vs.toArray ws.toArray n n2 dd dd2 sl sl2 (↑hv) (↑hw) (by rw[Ο,Ο];show hsz)) {ho,ho2,2}
  rw[e];show h2 hw
def sIx(n d:Nat):Option Int->Nat
 |none=>d
 |some v=>if v<0 then (v+(n:Int)).toNat else min v.toNat n
def sIx_nat(n d k:Nat):sIx n d (Z (k:Int))=min k n:=by change(if (k:Int)<0 then ((k:Int)+(n:Int)).toNat else min (k:Int).toNat n)=min k n;rw[Z6 (),P2]
def PN(n d:Nat)(hd:d<=n)(o:Option Int):sIx n d o<=n:=by
 cases o with
 |none=>show hd
 |some v=>
  change(if v<0 then (v+(n:Int)).toNat else min v.toNat n)<=n;by_cases hv:v<0
  .rw[Z5 hv];omega
  .rw[Z6 hv];show Nat.min_le_right _ _
def Ah(v:Int)(n d:Nat):(if v<0 then max (v+(n:Int)) 0 else min v (n:Int))=((sIx n d (Z v):Nat):Int):=by
 change(if v<0 then max (v+(n:Int)) 0 else min v (n:Int))=(((if v<0 then (v+(n:Int)).toNat else min v.toNat n):Nat):Int);by_cases hv:v<0
 .simp only[Z5 hv];omega
 .simp only[Z6 hv];omega
def xw(lo hi:Option Int)(n:Nat):M5 lo hi 1 (n:Int)=(((sIx n 0 lo:Nat):Int),((sIx n n hi:Nat):Int)):=by
 let h1:¬ ((1:Int)<0):=();unfold M5;simp only[h1,if_false];show Prod.ext ?_ ?_
 .cases lo with
  |none=>rfl
  |some v=>show Ah v n 0
 .cases hi with
  |none=>rfl
  |some v=>show Ah v n n
def yg(i j:Nat):F1 (i:Int) (j:Int) 1=j-i:=by unfold F1;let h1:(1:Int)>0:=();simp only[h1,if_true,Int.ediv_one];split<;>omega
def mU(p:TV v o)(h:Q o s):ύ (ϓ prog w) A (E_.Slice.slicePartIndex v) Q E s:=by
 cases p with
 |none=>show slicePart_none h
 |int i t=>show slicePart_int h
def sliceApplied_gen{B:υ}{D z:ν}{lo hi:Option Int}{n:Nat}{Q:Int×Int×Nat->ψ->Prop}(G:s.heap.IsSliceOf B D z .none)(pl:TV D lo)(F:TV z hi)
  (h:Q (((sIx n 0 lo:Nat):Int),1,sIx n n hi-sIx n 0 lo) s):ύ (ϓ prog w) A (SD (.ref B) (pure (n:Int))) Q E s:=by
 ext(⟨a,j,I,q⟩:G);show ζ (ζ (ϲ j q U (ζ (ϲ j q U (ζ (ϲ j q U (Η (ζ (slicePart_none ?_)))))))));rw[Z6 ()];show ζ (mU pl (ζ (mU F (ζ (Η ?_)))));change ύ _ _ (match M5 lo hi 1 (n:Int)with|(lo,hi)=>pure (lo,(1:Int),F1 lo hi 1)) _ _ s;rw[xw lo hi n];change ύ _ _ (pure (((sIx n 0 lo:Nat):Int),(1:Int),F1 ((sIx n 0 lo:Nat):Int) ((sIx n n hi:Nat):Int) 1)) _ _ s;rw[yg];show Η h
def pick_gen(xs:Array ν)(i k:Nat):((ϳ k).filterMap λ(m:Nat)=>xs[((i:Int)+(m:Int)*1).toNat]?).toArray=((xs.toList.drop i).take k).toArray:=by
 let e:(λ(m:Nat)=>xs[((i:Int)+(m:Int)*1).toNat]?)=λm=>xs[i+m]?:=by funext m;let:((i:Int)+(m:Int)*1).toNat=i+m:=();rw[this]
 rw[e];let:=pick_run xs i k;rw[List.filterMap_map]at this;let e2:((λx=>xs[x]?)∘λx=>i+x)=λm=>xs[i+m]?:=U;rw[e2]at this;rw[this]
def getItem_tuple_cut{t z:υ}{items:Array ν}{F B:ν}{lo hi:Option Int}{Q:ν->ψ->Prop}(n:IsTup s.heap t items)(D:s.heap.IsSliceOf z F B .none)(pl:TV F lo)(M:TV B hi)
  (b:¬ (sIx items.size 0 lo=0/\sIx items.size items.size hi=items.size))
  (h:Q (.ref s.heap.objs.size) {s with heap:=s.heap.push {cls:=.type "tuple",data:=.seq ((items.toList.drop (sIx items.size 0 lo)).take (sIx items.size items.size hi-sIx items.size 0 lo)).toArray} })
  (hsz:items.size<=Λ):ύ (ϓ prog w) A (getItem (.ref t) (.ref z)) Q E s:=by
 let j:sizeOk (.seq ((items.toList.drop (sIx items.size 0 lo)).take (sIx items.size items.size hi-sIx items.size 0 lo)).toArray):=by change((items.toList.drop (sIx items.size 0 lo)).take (sIx items.size items.size hi-sIx items.size 0 lo)).toArray.size<=Λ;rw[Ο,Φ,Ϯ,Θ];omega
 ext(⟨N,G,I,R⟩:id D);let L:s.TypeIs (.ref z) "slice":={N,G,I};unfold getItem;try with_reducible show E1 ?_
 first|show ζ (Η ?_)|skip
 show ζ (wpAny_sequenceKey n.typeIs () ?_);show ζ (q_ (name:=Y "__getitem__") n.typeIs j9
  (u_ j9 n.typeIs entry_tuple_getitem ?_ (args_tuple_getitem _ _)))
 change ύ _ _ (SE (.ref t)>>=_) _ _ s;show ζ (tupleItemsOf_ n ?_);show ζ (To L ?_);rw[Z5 ()];show ζ (sliceApplied_gen D pl M ?_);let c:¬ ((((sIx items.size 0 lo:Nat):Int)==0&&(1:Int)==1&&(sIx items.size items.size hi-sIx items.size 0 lo)==items.size)=O):=by intro q;rw[χ,χ]at q;let S:=eq_of_beq q.1.1;let a:=eq_of_beq q.2;show b {33}
 change ύ _ _ (if (((sIx items.size 0 lo:Nat):Int)==0&&(1:Int)==1&&(sIx items.size items.size hi-sIx items.size 0 lo)==items.size)=O then _ else _) _ _ s;rw[Z6 c,pick_gen];first
  |show ζ (Ϻ (Η ⟨_,rfl,Η h⟩) j)
  |show ζ (Ϻ (ζ (Η (Η ⟨_,rfl,Η h⟩))) j)
  |show ζ (ζ (Ϻ (Η (Η ⟨_,rfl,Η h⟩)) j))
  |show ζ (ζ (Ϻ (Η ⟨_,rfl,Η h⟩) j))
end
end HT
namespace L2
open PySem PySem.Spec PyProof.Rows
abbrev TO:=St->Hp->(Option Int->Hp->Prop)->Prop
def PO(X:Cx)(e:Option Ϲ)(t:TO):Prop:=
 ∀(pins:List (υ×Obj))(s:ψ)(σ:St)(H:Hp)(Q:Option Int->Hp->Prop),ax X pins σ H s->t σ H Q ->
  ύ (ϓ X.prog X.w) X.A (evalPart e X.env) (λu s'=>∃o H',ax X pins σ H' s'/\TV u o/\Q o H') X.xe s
def dj:TO:=λ_ H Q=>Q Β H
inductive Ib  (Q:Option Int->Hp->Prop) (x:V) (H1:Hp):Prop|mk i (_:x=.int i) (_:Q (Z i) H1)
def Mt(t:TE):TO:=λσ H Q=>t σ H (Ib Q)
section
variable{X:Cx}{e:Ϲ}{te:TE}{lo hi:Option Ϲ}{tl th:TO}{pos p2:Pos}
def po_none:PO X Β dj:=by intro pins s σ H Q I h;rw[evalPart_none];show Η {Β,H,I,.none,h}
def po_some(h:PE X e te):PO X (Z e) (Mt te):=by intro pins s σ H Q I B;rw[evalPart_some];show bw (h pins s σ H _ I B) λu D ⟨x,H1,z,n,j⟩=>?_;ext(⟨i,rfl,q⟩:j);ext(⟨t,rfl⟩:n);show{Z i,H1,z,.int i t,q}
def Nt(X:Cx)(r:V->Option Int->Option Int->Hp->VK->Prop):Prop:=
 ∀(pins:List (υ×Obj))(s:ψ)(σ:St)(H:Hp)(x:V)(v j q:ν)(lo hi:Option Int)(n:υ)(Q:VK),ax X pins σ H s->aU x v->s.heap.IsSliceOf n j q .none->TV j lo->TV q hi->r x lo hi H Q ->
  ∃T id,TU (.type T) "__getitem__"=pure (Z (.builtin id))/\s.TypeIs v T/\ύ (ϓ X.prog X.w) X.A (getItem v (.ref n)) (EP X pins σ Q) X.xe s
def Rm(r:V->Option Int->Option Int->Hp->VK->Prop)(te:TE)(tl th:TO):TE:=λσ H Q=>te σ H λx H1=>tl σ H1 λl H2=>th σ H2 λu H3=>r x l u H3 Q
def pe_slice(G:Nt X r)(c:PE X e te)(M:PO X lo tl)(hu:PO X hi th):PE X (.Subscript e (.Slice lo hi Β p2) pos) (Rm r te tl th):=by intro pins s σ H Q I h;show Subscript_ (bw (c pins s σ H _ I h) λv L ⟨x,H1,I1,d,S⟩=>wpAny_Slice (bw (M pins L σ H1 _ I1 S) λz N ⟨l,H2,R,pl,q2⟩=>bw (hu pins N σ H2 _ R q2) λn j ⟨u,B,F,D,a⟩=>?_));rw[evalPart_none];show Η ?_;let W:ax X pins σ B {j with heap:=j.heap.push {cls:=.type "slice",data:=.fields #[z,n,.none]} }:=F.kept (t':=j.toks) λb ob q=>ω _ q;ext(⟨T,id,hT,g,f⟩:G pins {j with heap:=j.heap.push {cls:=.type "slice",data:=.fields #[z,n,.none]} } σ B x v z n l u j.heap.objs.size Q W d (ϙ.IsSliceOf.new ..) pl D a);show tail_any g hT f (by with_unfolding_all rfl)
def cO(xs:List V)(lo hi:Option Int):List V:=(xs.drop (HT.sIx xs.length 0 lo)).take (HT.sIx xs.length xs.length hi-HT.sIx xs.length 0 lo)
def fQ(xs:List V)(lo hi:Option Int):(cO xs lo hi).length<=xs.length:=by unfold cO;rw[Φ,Ϯ];omega
inductive Px (K:η) (x:V) (lo:Option Int) (hi:Option Int) (H:Hp) (Q:VK):Prop|mk a xs (_:x=.ref a) (_:aw K H a xs) (_:¬ (HT.sIx xs.length 0 lo=0/\HT.sIx xs.length xs.length hi=xs.length)) (_:∀p,H p=Β->Q (.ref p) (upd H p (.tup (cO xs lo hi))))
def Kb:Nt X (Px X.K):=by
 ext pins s σ H x v M c lo hi L Q I F D pl z ⟨a,xs,rfl,B,G,q⟩;cases F;ext(⟨its,r,n,hz⟩:I.tuple B);let j:its.toArray.size=xs.length:=by rw[Ο];show r.length.symm
 show{"tuple",0,j9.lookup,n.typeIs,HT.getItem_tuple_cut n D pl z (by rw[j];show G) ?_ (by rw[j];show hz)};rw[j];show{.ref s.heap.objs.size,0,I.laid (t':=s.toks) (λb ob q=>ω _ q) (Α _) ?_,1,q _ (I.hok.fresh (Α _))};show{Ϫ (fQ xs lo hi) hz,0,(r.drop (HT.sIx xs.length 0 lo)).take (HT.sIx xs.length xs.length hi-HT.sIx xs.length 0 lo),TN _ _,Hu.new _ U}
inductive NL (K:η) (x:V) (y:V) (H:Hp) (Q:VK):Prop|mk a b xs ys (_:x=.ref a) (_:y=.ref b) (_:aw K H a xs) (_:aw K H b ys) (_:xs≠[]) (_:xs.length+ys.length<=Λ) (_:(ys=[]->Q (.ref a) H)) (_:(ys≠[]->∀p,H p=Β->Q (.ref p) (upd H p (.tup (xs++ys)))))
def aI.nil_iff(r:aI xs us):us=[]↔xs=[]:=by
 cases r with
 |nil=>simp
 |cons _ _=>simp
def HV:fE X (G8 .Add) (NL X.K):=by intro pins s σ H x y v u Q I rx ry h;ext(⟨a,b,xs,ys,rfl,rfl,ha,hb,hx,hz,q1,q2⟩:h);cases rx;cases ry;ext(⟨its,r1,p1,_⟩:I.tuple ha);ext(⟨its2,r2,p2,_⟩:I.tuple hb);show HT.cat_tup p1 p2 (λz=>hx (r1.nil_iff.mp z)) (λz=>{.ref a,H,I,1,q1 (r2.nil_iff.mp z)}) (λz=>?_) (by rw[<-r1.length,<-r2.length];show hz);show{.ref s.heap.objs.size,0,I.laid (t':=s.toks) (o:=.tup (xs++ys)) (λb ob q=>ω _ q) (Α _) ?_,1,q2 (λw=>z (r2.nil_iff.mpr w)) _ (I.hok.fresh (Α _))};show{by rw[Ε];show hz,0,r1.append r2,TN _ _,Hu.new _ U}
end
def CQ(n:Nat)(i:Int):Option Nat:=if 0<=i then (if i<n then Z i.toNat else Β)else if -(n:Int)<=i then Z (i+n).toNat else Β
def kq(xs:List α)(i:Int):Option α:=(CQ xs.length i).bind λj=>xs[j]?
def zj{n:Nat}{i:Int}{j:Nat}(h:CQ n i=Z j):seqIndex? i n=Z j/\j<n/\-(n:Int)<=i/\i<n:=by
 unfold CQ at h;by_cases h0:0<=i
 .rw[Z5 h0]at h;by_cases h1:i<n
  .rw[Z5 h1]at h;let e:i.toNat=j:=ϡ h;show{by rw[seqIndex_of h0 h1,e],33,h1}
  .rw[Z6 h1]at h;cases h
 .rw[Z6 h0]at h;by_cases h1:-(n:Int)<=i
  .rw[Z5 h1]at h;let e:(i+n).toNat=j:=ϡ h;show{by rw[seqIndex_neg () h1,e],3,h1,3}
  .rw[Z6 h1]at h;cases h
def tS{α:Type}{xs:List α}{i:Int}{v:α}(h:kq xs i=Z v):∃j,seqIndex? i xs.length=Z j/\xs[j]?=Z v/\j<xs.length/\-(xs.length:Int)<=i/\i<xs.length:=by
 unfold kq at h;cases e:CQ xs.length i with
 |none=>rw[e]at h;cases h
 |some j=>rw[e]at h;ext(⟨h1,h2,h3,h4⟩:zj e);show{j,h1,h,h2,h3,h4}
def ad{α:Type}{xs:List α}{j:Nat}{v:α}(h:xs[j]?=Z v):kq xs (j:Int)=Z v:=by
 let hj:j<xs.length:=(Υ.mp h).1;let e:CQ xs.length (j:Int)=Z j:=by unfold CQ;rw[Z5 (),Z5 ()];simp
 unfold kq;rw[e];show h
def HZ(b:Ϲ):Prop:=∀o i,subscripted b J o i=operate [o,i] (getItem o i)
def Mf(X:Cx)(r:R2):Prop:=
 ∀(value j:Ϲ)(pins:List (υ×Obj))(s:ψ)(σ:St)(H:Hp)(x y:V)(v u:ν)(Q:VK),ax X pins σ H s->aU x v->aU y u->r x y H Q ->
  subscripted j J v u=operate [v,u] (getItem v u)->ύ (ϓ X.prog X.w) X.A (subscriptTail value j v u) (EP X pins σ Q) X.xe s
def FH(X:Cx)(id:String)(r:V->List V->Hp->VK->Prop):Prop:=
 ∀(pins:List (υ×Obj))(s:ψ)(σ:St)(H:Hp)(x:V)(xs:List V)(v:ν)(us:List ν)(Q:VK),ax X pins σ H s->aU x v->aI xs us->r x xs H Q ->
  ύ (ϓ X.prog X.w) X.A (call (.builtin id) (v::us)) (EP X pins σ Q) X.xe s
section
variable{X:Cx}{a b:Ϲ}{ta tb:TE}{pos:Pos}
def pe_ix(j:Mf X r)(z:PE X a ta)(c:PE X b tb)(D:HZ b):PE X (.Subscript a b pos) (De r ta tb):=by intro pins s σ H Q I h;show Subscript_ (KG z c I h λv u n x y H2 B F G q=>j a b pins n σ H2 x y v u Q B F G q (D _ _))
inductive ME (K:η) (x:V) (y:V) (H:Hp) (Q:VK):Prop|mk p xs i v (_:x=.ref p) (_:y=.int i) (_:aD K H p xs) (_:kq xs i=Z v) (_:Q v H)
inductive By (K:η) (x:V) (y:V) (H:Hp) (Q:VK):Prop|mk p xs i v (_:x=.ref p) (_:y=.int i) (_:aw K H p xs) (_:kq xs i=Z v) (_:Q v H)
inductive OP (x:V) (y:V) (H:Hp) (Q:VK):Prop|mk z i c (_:x=.str z) (_:y=.int i) (_:z.length<=Λ) (_:kq z.cps.toList i=Z c) (_:Q (.str ⟨#[c]⟩) H)
def aG:Mf X (ME X.K):=by
 ext value W pins s σ H x y v u Q I R S ⟨p,xs,i,z,rfl,rfl,N,a,q⟩ D;cases R;ext(⟨t,rfl⟩:S);ext(⟨its,r,pl,hz⟩:I.list N);ext(⟨j,h1,h2,c,d,L⟩:tS a);ext(⟨w,G,e⟩:r.get h2);let M:=r.length;let b:=jj;let B:EP X pins σ Q w s:={z,H,I,e,q};by_cases F:0<=i
 .let n:i.toNat=j:=by
   rw[seqIndex_of F L]at h1;show ϡ h1
  show item_listR pl.isList F () (by rw[n];simpa using G) B D
 .let n:(i+(its.toArray.size:Int)).toNat=j:=by
   rw[seqIndex_neg () d]at h1;rw[Ο,<-M];show ϡ h1
  show subscriptTail_builtinR pl.isList.typeIs slot_list_getitem.lookup
   (wpAny_getItem_list_neg pl.isList () (by rw[Ο]<;>omega) () (by rw[n];simpa using G) {1,B}) D
def nY:Mf X (By X.K):=by
 intro value slice pins s σ H x y v u Q I rx ry h hs;ext(⟨p,xs,i,z,rfl,rfl,hq,he,q⟩:h);cases rx;ext(⟨t,rfl⟩:ry);ext(⟨its,r,pl,hz⟩:I.tuple hq);ext(⟨j,h1,h2,h3,h4,h5⟩:tS he);ext(⟨w,ew,rw'⟩:r.get h2);let hl:=r.length;let hn:=jj;let fin:EP X pins σ Q w s:={z,H,I,rw',q};show subscriptTail_builtinR (x:=w) pl.typeIs slot_tuple_getitem.lookup
  (getItem_tuple (j:=j) (Q:=λr s'=>r=w/\EP X pins σ Q r s') pl () () (by rw[Ο,<-hl];show h1) (↑ew) {1,fin}) hs
def rK:Mf X OP:=by
 intro value slice pins s σ H x y v u Q I rx ry h hs;ext(⟨z,i,c,rfl,rfl,hz,he,q⟩:h);ext(⟨t,rfl⟩:rx);ext(⟨t',rfl⟩:ry);ext(⟨j,h1,h2,h3,h4,h5⟩:tS he);let hl:z.cps.toList.length=z.length:=by simp[Str.length]
 rw[hl]at h1 h4 h5;let hn:=jj;show tail_any (O4 s z t) slot_str_getitem.lookup (getItem_str (c:=c) (by let e1:decide (i < -(2^63:Int))=J:=Z8 ();let e2:decide (i>=2^63)=J:=Z8 ();rw[e1,e2,Tb]) (by rw[h1];simpa using h2) {.str {#[c]},H,I.tok _,{01},q}) hs
def xK(its:List ν)(n j:Nat)(u:ν):Q6 (·.setIfInBounds j u) {cls:=.type "list",data:=.seq its.toArray n}={cls:=.type "list",data:=.seq (its.set j u).toArray n}:=by simp[Q6]
def ax.lst{pins:List (υ×Obj)}{σ:St}{H:Hp}{s:ψ}{p:υ}{xs:List V}(I:ax X pins σ H s)(h:H p=Z (.lst xs)):
  ∃(its:List ν) (n:Nat),aI xs its/\s.heap.get? p=Z {cls:=.type "list",data:=.seq its.toArray n}/\xs.length<=Λ:=by
 ext(⟨z,its,n,r,e⟩:I.hok p _ h);show{its,n,r,e,z}
def ax.lstUpd{pins:List (υ×Obj)}{σ:St}{H:Hp}{s:ψ}{p:υ}{xs ys:List V}{its its':List ν}{n j:Nat}{f:Obj->Obj}(I:ax X pins σ H s)(h:H p=Z (.lst xs))
  (ho:s.heap.get? p=Z {cls:=.type "list",data:=.seq its.toArray n}) (z:f {cls:=.type "list",data:=.seq its.toArray n}={cls:=.type "list",data:=.seq its'.toArray j}) (r:aI ys its') (hz:ys.length<=Λ) (t:Nat):
  ax X pins σ (upd H p (.lst ys)) {s with heap:=s.heap.update p f,toks:=t}:=by
 let e:(s.heap.update p f).get? p=Z {cls:=.type "list",data:=.seq its'.toArray j}:=by rw[o_ f ho (by rw[z]<;>rfl),z]
 show I.write (by rw[h];trivial) (.inl U) (λb u B q=>(Ϧ _ _ (ϝ B)).trans q) {0,e} ?_;show{hz,its',j,r,e}
inductive MX (o:V) (i:V) (v:V) (H:Hp) (Q:Hp->Prop):Prop|mk p xs k j (_:o=.ref p) (_:i=.int k) (_:H p=Z (.lst xs)) (_:CQ xs.length k=Z j) (_:Q (upd H p (.lst (xs.set j v))))
def iz:NH X MX:=by
 ext pins s σ H o i v S W u Q I M R N ⟨p,xs,k,j,rfl,rfl,L,b,q⟩;cases M;ext(⟨t,rfl⟩:R);ext(⟨its,n,r,ho,hz⟩:I.lst L);ext(⟨h1,h2,F,G⟩:zj b);let z:=r.length;let a:=jj;let D:ax X pins σ (upd H p (.lst (xs.set j v))) {s with heap:=s.heap.update p (Q6 (·.setIfInBounds j u))}:=
  I.lstUpd L ho (xK its n j u) (r.set N j) (by rw[Tu];show hz) s.toks
 by_cases c:0<=k
 .let B:k.toNat=j:=by
   rw[seqIndex_of c G]at h1;show ϡ h1
  show PySem.W.ki_setAt ho c () (by rw[Ο,<-z];show G) (by rw[B];show{0,D,q})
 .let B:(k+(its.toArray.size:Int)).toNat=j:=by
   rw[seqIndex_neg () F]at h1;rw[Ο,<-z];show ϡ h1
  show PySem.W.ki_setBack ho () (by rw[Ο,<-z];show F) () (by rw[B];show{0,D,q})
def sT(lo hi:Option Int)(n:Nat):(sliceBounds lo hi Β n).1=((HT.sIx n 0 lo:Nat):Int)/\(sliceBounds lo hi Β n).2.1=((HT.sIx n n hi:Nat):Int)/\(sliceBounds lo hi Β n).2.2=1:=by
 show{221}
 .cases lo with
  |none=>simp[sliceBounds,HT.sIx]
  |some i=>
   simp only[sliceBounds,HT.sIx,Option.getD_none,show(1:Int)>0 by decide,if_true];by_cases h:i<0
   .simp only[h,if_true]<;>omega
   .simp only[h,if_false]<;>omega
 .cases hi with
  |none=>simp[sliceBounds,HT.sIx]
  |some i=>
   simp only[sliceBounds,HT.sIx,Option.getD_none,show(1:Int)>0 by decide,if_true];by_cases h:i<0
   .simp only[h,if_true]<;>omega
   .simp only[h,if_false]<;>omega
def pL(its:List ν)(lo hi:Option Int):slicePick its.toArray lo hi Β=((its.drop (HT.sIx its.length 0 lo)).take (HT.sIx its.length its.length hi-HT.sIx its.length 0 lo)).toArray:=by ext(⟨h1,h2,h3⟩:sT lo hi its.toArray.size);unfold slicePick;rw[h1,h2,h3];simp only[sliceRange_one,pick_run,Ο]<;>rfl
inductive Pk (K:η) (x:V) (lo:Option Int) (hi:Option Int) (H:Hp) (Q:VK):Prop|mk a xs (_:x=.ref a) (_:aD K H a xs) (_:∀p,H p=Β->Q (.ref p) (upd H p (.lst (cO xs lo hi))))
def dI:Nt X (Pk X.K):=by intro pins s σ H x v vl vu lo hi sl Q I rx hs pl pu h;ext(⟨a,xs,rfl,hx,q⟩:h);cases rx;ext(⟨its,r,ht,hz⟩:I.list hx);let hlen:=r.length;show{"list",0,slot_list_getitem.lookup,ht.isList.typeIs,2};show wpAny_getItem_list_slice ht.isList hs pl pu .none () ?_ (by rw[Ο]<;>omega);rw[pL,<-hlen];show{.ref s.heap.objs.size,0,I.laid (t':=s.toks) (o:=.lst (cO xs lo hi)) (λb ob q=>ω _ q) (Α _) ?_,1,q _ (I.hok.fresh (Α _))};show{Ϫ (fQ xs lo hi) hz,0,(0),(r.drop (HT.sIx xs.length 0 lo)).take (HT.sIx xs.length xs.length hi-HT.sIx xs.length 0 lo),Ψ _ U}
def lH:V->Bool
 |.non=>O
 |.bl _=>O
 |.int _=>O
 |.str _=>O
 |_=>J
def Jq:V->V->Bool
 |.non,.non=>O
 |.bl a,.bl b=>a==b
 |.bl a,.int b=>(if a then 1 else 0)==b
 |.int a,.bl b=>a==(if b then 1 else 0)
 |.int a,.int b=>a==b
 |.str a,.str b=>a==b
 |_,_=>J
def Kj(ry:aU y u)(rx:aU x v)(fy:lH y=O)(fx:lH x=O):Ϭ A s u v (Jq y x):=by
 cases y with
 |non=>
  cases ry;cases x with
  |non=>cases rx;show N8 _
  |bl b=>cases rx;show Ϭ.none_bool b
  |int b=>ext(⟨t,rfl⟩:rx);show Ϭ.none_int b t
  |str b=>ext(⟨t,rfl⟩:rx);show Ϭ.none_str b t
  |_=>show absurd (fx) Χ
 |bl a=>
  cases ry;cases x with
  |non=>cases rx;show Ϭ.bool_none a
  |bl b=>cases rx;show Ϭ.bool_bool a b
  |int b=>ext(⟨t,rfl⟩:rx);show Ϭ.bool_int a b t
  |str b=>ext(⟨t,rfl⟩:rx);show Ϭ.bool_str a b t
  |_=>show absurd (fx) Χ
 |int a=>
  ext(⟨t',rfl⟩:ry);cases x with
  |non=>cases rx;show Ϭ.int_none a t'
  |bl b=>cases rx;show Ϭ.int_bool a t' b
  |int b=>ext(⟨t,rfl⟩:rx);show SF a t' b t
  |str b=>ext(⟨t,rfl⟩:rx);show Su a t' b t
  |_=>show absurd (fx) Χ
 |str a=>
  ext(⟨t',rfl⟩:ry);cases x with
  |non=>cases rx;show Ϭ.str_none a t'
  |bl b=>cases rx;show Ϭ.str_bool a t' b
  |int b=>ext(⟨t,rfl⟩:rx);show Sv a t' b t
  |str b=>ext(⟨t,rfl⟩:rx);show SG a t' b t
  |_=>show absurd (fx) Χ
 |_=>show absurd (fy) Χ
def xx(x:V)(u:ν):Bool:=match u with
 |.none=>Jq .non x
 |.bool b=>Jq (.bl b) x
 |.int i _=>Jq (.int i) x
 |.str z _=>Jq (.str z) x
 |_=>J
def Dz(r:aU y u)(f:lH y=O):xx x u=Jq y x:=by
 cases y with
 |non=>cases r;rfl
 |bl b=>cases r;rfl
 |int i=>ext(⟨t,rfl⟩:r);rfl
 |str z=>ext(⟨t,rfl⟩:r);rfl
 |_=>show absurd (f) Χ
def jP:∀{xs:List V}{us:List ν},aI xs us->xs.all lH=O->us.any (xx x)=xs.any λy=>Jq y x
 |_,_,.nil,_=>rfl
 |y::xs,u::us,.cons r t,f=>by rw[Tc,χ]at f;rw[M_,M_,Dz r f.1,jP t f.2]
def hD(n:aU x v)(q:lH x=O):∀{xs:List V}{us:List ν},aI xs us->xs.all lH=O->∀u∈us,Ϭ A s u v (xx x u)
 |_,_,.nil,_=>λu j=>by cases j
 |y::xs,u::us,.cons r t,f=>λz j=>by
  rw[Tc,χ]at f;rcases ξ.mp j with rfl|j
  .rw[Dz r f.1];show Kj r n f.1 q
  .show hD n q t f.2 z j
def Ox(x:V)(xs:List V):Bool:=xs.any λy=>Jq y x
inductive QC (K:η) (neg:Bool) (x:V) (y:V) (H:Hp) (Q:VK):Prop|mk p xs (_:y=.ref p) (_:(aD K H p xs\/aw K H p xs)) (_:lH x=O) (_:xs.all lH=O) (_:Q (.bl (if neg then !Ox x xs else Ox x xs)) H)
def qG:fE X (j8 .In) (QC X.K J):=by
 ext pins s σ H x y v u Q I B D ⟨p,xs,rfl,j,z,fs,q⟩;cases D;rcases j with j|j
 .ext(⟨its,r,pl,hz⟩:I.list j);show SeqAt.in_listAt (xx x) pl.isList (λw n=>hD B z r fs w (↑n)) {.bl _,H,I,12};rw[show its.toArray.any (xx x)=its.any (xx x) by simp,jP r fs];show q
 .ext(⟨its,r,pl,hz⟩:I.tuple j);show SeqAt.in_tupleAt (xx x) pl (λw n=>hD B z r fs w (↑n)) {.bl _,H,I,12};rw[show its.toArray.any (xx x)=its.any (xx x) by simp,jP r fs];show q
def jI:fE X (j8 .NotIn) (QC X.K O):=by
 ext pins s σ H x y v u Q I B D ⟨p,xs,rfl,j,z,fs,q⟩;cases D;rcases j with j|j
 .ext(⟨its,r,pl,hz⟩:I.list j);show SeqAt.notIn_listAt (xx x) pl.isList (λw n=>hD B z r fs w (↑n)) {.bl _,H,I,12};rw[show its.toArray.any (xx x)=its.any (xx x) by simp,jP r fs];show q
 .ext(⟨its,r,pl,hz⟩:I.tuple j);show SeqAt.notIn_tupleAt (xx x) pl (λw n=>hD B z r fs w (↑n)) {.bl _,H,I,12};rw[show its.toArray.any (xx x)=its.any (xx x) by simp,jP r fs];show q
def aq:eQ X (.builtin "len") (λxs H Q=>∃p ys,xs=[.ref p]/\(aD X.K H p ys\/aw X.K H p ys)/\Q (.int ys.length) H):=by
 intro pins s σ H xs us Q I r h;ext(⟨p,ys,rfl,hq,q⟩:h);ext(⟨u,rfl,rx⟩:fj r);cases rx;let hn:=jj;rcases hq with hq|hq
 .ext(⟨its,r',pl,hz⟩:I.list hq);let hlen:=r'.length;show Calls.call_len_list pl.isList (by simp only[Ο]<;>omega) {.int ys.length,H,I.tok _,{s.toks+1,by rw[Ο,hlen]},q}
 .ext(⟨its,r',pl,hz⟩:I.tuple hq);let hlen:=r'.length;show len_tuple pl (by simp only[Ο]<;>omega) {.int ys.length,H,I.tok _,{s.toks+1,by rw[Ο,hlen]},q}
def bV:eQ X (.builtin "len") (λxs H Q=>∃z,xs=[.str z]/\z.length<=Λ/\Q (.int z.length) H):=by ext pins s σ H xs us Q I r ⟨z,rfl,hz,q⟩;ext(⟨u,rfl,t,rfl⟩:fj r);let j:=jj;show len_str () {.int z.length,H,I.tok _,{01},q}
def jV:eQ X (.type "list") (λxs H Q=>∃p ys,xs=[.ref p]/\(aD X.K H p ys\/aw X.K H p ys)/\∀l,H l=Β->Q (.ref l) (upd H l (.lst ys))):=by
 intro pins s σ H xs us Q I r h;ext(⟨p,ys,rfl,hq,q⟩:h);ext(⟨u,rfl,rx⟩:fj r);cases rx;let fin:∀(its:List ν),aI ys its->ys.length<=Λ->∀(h':ϙ)(c':Nat),(∀b o',s.heap.get? b=Z o'->h'.get? b=Z o') ->
   h'.get? s.heap.objs.size=Z {cls:=.type "list",dict:=Β,data:=.seq its.toArray c',slots:=#[]}->EP X pins σ Q (.ref s.heap.objs.size) {s with heap:=h'}:=λits r' hz h' c' kp e=>
  {.ref s.heap.objs.size,0,I.laid (t':=s.toks) kp (Α _) (show ck X.prog X.w _ h' _ (.lst ys)from{hz,its,c',r',e}),1,q _ (I.hok.fresh (Α _))}
 rcases hq with hq|hq
 .ext(⟨its,r',pl,hz⟩:I.list hq);let hlen:=r'.length;ext(⟨o,ho,hc,n,hd⟩:pl.isList);show call_list_seq p (.inl U) ho hc hd (λh' c' kp e=>fin its r' hz h' c' kp e) (by simp only[Ο]<;>omega)
 .ext(⟨its,r',pl,hz⟩:I.tuple hq);let hlen:=r'.length;ext(⟨o,ho,hc,n,hd⟩:pl);show call_list_seq p (.inr U) ho hc hd (λh' c' kp e=>fin its r' hz h' c' kp e) (by simp only[Ο]<;>omega)
def aF:eQ X (.type "tuple") (λxs H Q=>∃p ys,xs=[.ref p]/\((aD X.K H p ys/\∀l,H l=Β->Q (.ref l) (upd H l (.tup ys)))\/(aw X.K H p ys/\Q (.ref p) H))):=by
 intro pins s σ H xs us Q I r h;ext(⟨p,ys,rfl,h⟩:h);ext(⟨u,rfl,rx⟩:fj r);cases rx;rcases h with ⟨hq,q⟩|⟨hq,q⟩
 .ext(⟨its,r',pl,hz⟩:I.list hq)
  let hlen:=r'.length;show call_tuple_list pl.isList (λh' kp=>?_) (by simp only[Ο]<;>omega);let I1:ax X pins σ H {s with heap:=h'}:=I.kept (t':=s.toks) kp;let I2:ax X pins σ (upd H h'.objs.size (.tup ys)) {s with heap:=h'.push {cls:=.type "tuple",data:=.seq its.toArray} }:=
   I1.laid (t':=s.toks) (λb o e=>ω _ e) (Α _) (show ck X.prog X.w _ _ _ (.tup ys)from{hz,its,r',TN _ _,Hu.new _ U})
  show{.ref h'.objs.size,0,I2,1,q _ (I1.hok.fresh (Α _))}
 .ext(⟨its,r',pl,hz⟩:I.tuple hq);show call_tuple_same pl {.ref p,H,I,1,q}
def Qj(K:η)(T:String)(x:V)(H:Hp):Prop:=match x with
 |.str _=>T="str"
 |.int _=>T="int"
 |.ref p=>(T="list"/\∃xs,aD K H p xs)\/(T="tuple"/\∃o,K.lookup p=Z o/\o.cls=.type "tuple"/\o.dict=Β) \/
   (T="dict"/\((∃kvs,H p=Z (.dK kvs))\/∃kvs,H p=Z (.dT kvs)))\/(T="set"/\∃S n,H p=Z (.set S n))
 |_=>False
def CJ(I:ax X pins σ H s)(r:aU x v)(ty:Qj X.K T x H):
  s.TypeIs v T/\∀a,v=.ref a->∃ob,s.heap.get? a=Z ob/\ob.dict=Β:=by
 cases x with
 |str z=>ext(⟨t,rfl⟩:r);cases(ty);show{O4 s z t,λ_ e=>nomatch e}
 |int i=>ext(⟨t,rfl⟩:r);cases(ty);show{typeIs_int s i t,λ_ e=>nomatch e}
 |ref p=>
  cases r;rcases ty with ⟨rfl,xs,hq⟩|⟨rfl,o,hk,hc,hd⟩|⟨rfl,hk⟩|⟨rfl,S,n,hk⟩
  .ext(⟨its,_,pl,_⟩:I.list hq);show{pl.isList.typeIs,λa e=>?_};cases e;ext(⟨o,n,e,c,hd,_⟩:pl);show{o,e,hd}
  .show{{o,I.kIn p o hk,hc},λa e=>?_};cases e;show{o,I.kIn _ o hk,hd}
  .let z:∃o,s.heap.get? p=Z o/\o.ExactDict:=by
    rcases hk with ⟨kvs,hk⟩|⟨kvs,hk⟩
    .ext(⟨_,_,_,_,o,_,_,e,ex,_⟩:I.hok p _ hk);show{o,e,ex}
    .ext(⟨_,_,_,_,o,_,_,e,ex,_⟩:I.hok p _ hk);show{o,e,ex}
   ext(⟨o,e,ex⟩:z);show{{o,e,ex.1},λa e2=>?_};cases e2;show{o,e,ex.2.1}
  .ext(⟨o,_,_,_,e,ex,_⟩:I.hok p _ hk);show{{o,e,ex.1},λa e2=>?_};cases e2;show{o,e,ex.2.1}
 |_=>show ϴ ty
def Qd(K:η)(T:String)(r:V->List V->Hp->VK->Prop)(to:TE):TE:=λσ H Q=>to σ H λx H1=>Qj K T x H1/\r x [] H1 Q
def QF(K:η)(T:String)(r:V->List V->Hp->VK->Prop)(to:TE)(t:TA):TE:=λσ H Q=>to σ H λx H1=>Qj K T x H1/\t σ H1 λxs H2=>r x xs H2 Q
variable{o e:Ϲ}{es:List Ϲ}{to:TE}{t:TA}{name:Str}{apos cpos:Pos}{T id:String}{r:V->List V->Hp->VK->Prop}
def pe_bm0(D:PlainAttrs T)(slot:Slot T name id)(B:typeOf (.builtin id)=pure (.type "method_descriptor"))(F:FH X id r)(ho:PE X o to)
  (z:autoParam (M9 o name X.env (eval o X.env)=eval o X.env) yR._auto_1) (q:autoParam ((apos.endLine==cpos.line)=O) yR._auto_1):PE X (.Call (.Attribute o name apos) [] [] cpos) (Qd X.K T r to):=by
 intro pins s σ H Q I h;show wpAny_Call_method0_late z q (bw (ho pins s σ H _ I h) λv G ⟨x,H1,n,j,ty,a⟩=>?_);ext(⟨h1,h2⟩:CJ n j ty);show{T,id,D,slot,B,h1,h2,P3 U (PySem.evalArgs_none (F pins G σ H1 x [] v [] Q n j .nil a))}
def pe_bm(pa:PlainAttrs T)(slot:Slot T name id)(hty:typeOf (.builtin id)=pure (.type "method_descriptor"))(hm:FH X id r)(ho:PE X o to)(ha:PA X (e::es) t)
  (hbase:autoParam (M9 o name X.env (eval o X.env)=eval o X.env) yR._auto_1)
  (hfew:autoParam (((C_ cpos (ϗ (e::es) X.env)).all (λx=>!x.1)&&(backToKw cpos (S4 [] X.env)).all (λx=>x.1.isSome)
   && decide ((e::es).length+([]:List Keyword).length+(if ([]:List Keyword).isEmpty then 0 else 1)<30))=O) yR._auto_1)
  (hline:autoParam ((apos.endLine==cpos.line)=O) yR._auto_1) (hs:autoParam (ϗ (e::es) X.env=(J,eval e X.env)::ϗ es X.env) yR._auto_1) (hplain:autoParam ((C_ cpos (ϗ es X.env)).any (·.1)=J) yR._auto_1):
  PE X (.Call (.Attribute o name apos) (e::es) [] cpos) (QF X.K T r to t):=by
 intro pins s σ H Q I h;show wpAny_Call_method_late hbase hfew hline U (bw (ho pins s σ H _ I h) λv s1 ⟨x,H1,I1,r1,ty,q1⟩=>?_);ext(⟨h1,h2⟩:CJ I1 r1 ty);show{T,id,pa,slot,hty,h1,h2,2};let hA:=ha cpos pins s1 σ H1 _ I1 q1;rw[hs]at hA⊢;show P3 (by change(J||(C_ cpos (ϗ es X.env)).any (·.1))=J;rw[hplain]<;>rfl) (Calls.evalArgs_plain ?_);show bw hA λus s2 ⟨vs,H2,I2,r2,q2⟩=>hm pins s2 σ H2 x vs v us Q I2 r1 r2 q2
end
def OC(X:Cx)(id:String)(r:V->List V->Hp->VK->Prop):Prop:=
 ∀(pins:List (υ×Obj))(s:ψ)(σ:St)(H:Hp)(x:V)(xs:List V)(v:ν)(us:List ν)(Q:VK),ax X pins σ H s->aU x v->aI xs us->r x xs H Q ->
  ύ (ϓ X.prog X.w) X.A (call (.builtin id) (v::us)) (EP X pins σ Q) X.xe s
def aI.one(h:aI [x] us):∃u,us=[u]/\aU x u:=by
 cases h with
 |cons r t=>cases t;show{01,r}
def aI.zero:∀{us:List ν},aI [] us->us=[]
 |_,.nil=>rfl
def aI.dropLast(h:aI xs us):aI xs.dropLast us.dropLast:=by
 induction h with
 |nil=>show .nil
 |cons r t j=>
  cases t with
  |nil=>show .nil
  |cons q t'=>show .cons r j
def aI.rep{xs:List V}{us:List ν}(h:aI xs us):∀k:Nat,aI (Ϡ k xs).flatten (Ϡ k us).flatten
 |0=>.nil
 |k+1=>by rw[A_,A_,K2,K2];show aI.append h (aI.rep h k)
def xa{α:Type}(l:List α):l.eraseIdx (l.length-1)=l.dropLast:=by
 induction l with
 |nil=>rfl
 |cons a r ih=>
  cases r with
  |nil=>rfl
  |cons b r=>
   let e:(a::b::r).length-1=((b::r).length-1)+1:=by let h1:(a::b::r).length=r.length+2:=U;let h2:(b::r).length=r.length+1:=U;omega
   rw[e,List.eraseIdx_cons_succ,ih];all_goals rfl
def qZ(its:List ν):∀(k:Nat)(acc:List ν),
  TW (λx1 x2=>x1++x2) acc.toArray (Ϡ k its.toArray)=(acc++(Ϡ k its).flatten).toArray
 |0,acc=>by simp
 |k+1,acc=>by
  let e:acc.toArray++its.toArray=(acc++its).toArray:=();let e2:(acc++its)++(Ϡ k its).flatten=acc++(Ϡ (k+1) its).flatten:=by rw[A_,K2,Γ]
  rw[<-e2,<-qZ its k (acc++its),<-e,A_,List.foldl_cons]
section
variable{X:Cx}{pins:List (υ×Obj)}{σ:St}{H:Hp}{s:ψ}{l b:υ}{xs ys zs:List V}
def ax.lset{its its':List ν}{n:Nat}{f:Array ν->Array ν}{t':Nat}(I:ax X pins σ H s)(z:H l=Z (.lst xs))
  (e:s.heap.get? l=Z {cls:=.type "list",data:=.seq its.toArray n}) (j:f its.toArray=its'.toArray) (B:aI ys its') (hz:ys.length<=Λ):
  ax X pins σ (upd H l (.lst ys)) {s with heap:=s.heap.update l (Q6 f),toks:=t'}:=by
 let q:=PySem.IsL.update e f;rw[j]at q;show I.write (by rw[z];show trivial) (.inl U) (λG u D F=>(Ϧ s.heap (Q6 f) (ϝ D)).trans F) {0,q} ?_;show{hz,its',0,B,q}
def ax.lnew(I:ax X pins σ H s)(j:aI ys its)(hz:ys.length<=Λ):
  ax X pins σ (upd H s.heap.objs.size (.lst ys)) {s with heap:=s.heap.push {cls:=.type "list",data:=.seq its.toArray},toks:=t'}:=
 I.laid (λ_ _ q=>ω _ q) (Α _) {hz,its,(0),j,Ψ _ U}
def ax.fresh(I:ax X pins σ H s):H s.heap.objs.size=Β:=I.hok.fresh (Α _)
def ax.lstM(I:ax X pins σ H s)(j:H l=Z (.lst xs)):xs.length<=Λ/\∃(its:List ν) (n:Nat),aI xs its/\xs.length=its.length/\s.heap.get? l=Z {cls:=.type "list",data:=.seq its.toArray n}:=by ext(⟨z,its,n,r,e⟩:I.hok l _ j);show{z,its,n,r,r.length,e}
def nK{n:Nat}(h:n<=Λ):y9 n=J:=by unfold y9;show Z8 ()
end
section
variable{X:Cx}
inductive rX (x:V) (vs:List V) (H:Hp) (Q:VK):Prop|mk l xs y (_:x=.ref l) (_:vs=[y]) (_:H l=Z (.lst xs)) (_:xs.length<Λ) (_:Q .non (upd H l (.lst (xs++[y]))))
def bu:OC X "list.append" rX:=by intro pins s σ H x vs v us Q I rx rv h;ext(⟨l,xs,y,rfl,rfl,hH,hz,q⟩:h);cases rx;ext(⟨u,rfl,ru⟩:rv.one);ext(⟨z,its,n,r,hl,e⟩:I.lstM hH);show G2 F.slot_list_append {0,e,1} F.entry_list_append (F.args_list_append_2 _ _) (PySem.list_append l its.toArray n u (by rw[Ο];omega)) {e,2};show{.non,0,I.lset (its':=its++[u]) hH e () (r.append (.cons ru .nil)) ?_,1,q};rw[Ε,ϻ];omega
inductive Gy (x:V) (vs:List V) (H:Hp) (Q:VK):Prop|mk l b xs zs (_:x=.ref l) (_:vs=[.ref b]) (_:H l=Z (.lst xs)) (_:H b=Z (.lst zs)) (_:xs.length+zs.length<=Λ) (_:Q .non (upd H l (.lst (xs++zs))))
def qu:OC X "list.extend" Gy:=by
 ext pins s σ H x vs v us Q I c L ⟨l,b,xs,zs,rfl,rfl,B,R,hz,q⟩;cases c;ext(⟨u,rfl,N⟩:L.one);cases N;ext(⟨z,its,n,r,a,e⟩:I.lstM B);ext(⟨W,j,G,d,S,M⟩:I.lstM R);let hsz:its.toArray.size+j.toArray.size<=Λ:=by rw[Ο,Ο];omega
 let D:¬ (!its.toArray.isEmpty&&y9 (its.toArray.size+j.toArray.size))=O:=by rw[nK hsz,SH];show Χ
 show G2 F.slot_list_extend {0,e,1} F.entry_list_extend (F.args_list_extend_2 _ _)
  (AutoSeq1.list_extend_list_list_0 l its.toArray n b j.toArray G D (by rw[Ο];omega) ()) {e,M,2}
 show{.non,0,I.lset (its':=its++j) B e () (r.append d) ?_,1,q};rw[Ε];omega
inductive PB (x:V) (vs:List V) (H:Hp) (Q:VK):Prop|mk l xs y (_:x=.ref l) (_:vs=[]) (_:H l=Z (.lst xs)) (_:xs[xs.length-1]?=Z y) (_:Q y (upd H l (.lst xs.dropLast)))
def Ds:OC X "list.pop" PB:=by
 ext pins s σ H x vs v us Q I N L ⟨l,xs,y,rfl,rfl,j,G,q⟩;cases N;let B:=L.zero;subst B;ext(⟨z,its,n,r,b,e⟩:I.lstM j);ext(⟨u,a,M⟩:r.get G);let D:its.toArray[its.toArray.size-1]?=Z u:=by change its.toArray[its.length-1]?=Z u;rw[<-Array.getElem?_toList,<-b];show a
 show G2 F.slot_list_pop {0,e,1} F.entry_list_pop (F.args_list_pop_1 _) (MeetsSeq.list_pop_last l its.toArray n u D (by rw[Ο];omega)) {e,2};show{y,0,I.lset (its':=its.dropLast) j e ?_ r.dropLast ?_,M,q}
 .change its.toArray.eraseIdxIfInBounds (its.toArray.size-1)=its.dropLast.toArray;rw[Ο,List.eraseIdxIfInBounds_toArray,xa]
 .rw[List.length_dropLast];omega
inductive Pc (x:V) (y:V) (H:Hp) (Q:VK):Prop|mk l b xs zs (_:x=.ref l) (_:y=.ref b) (_:H l=Z (.lst xs)) (_:H b=Z (.lst zs)) (_:xs.length+zs.length<=Λ) (_:∀p,H p=Β->Q (.ref p) (upd H p (.lst (xs++zs))))
def bF:fE X (G8 .Add) Pc:=by intro pins s σ H x y v u Q I rx ry h;ext(⟨l,b,xs,zs,rfl,rfl,hH,hB,hz,q⟩:h);cases rx;cases ry;ext(⟨z,its,n,r,hl,e⟩:I.lstM hH);ext(⟨z2,its2,n2,r2,hl2,e2⟩:I.lstM hB);show PySem.P.add_list e e2 ?_ (by rw[Ο,Ο];omega);let ea:its.toArray++its2.toArray=(its++its2).toArray:=();rw[ea];show{.ref _,0,I.lnew (t':=s.toks) (r.append r2) (by rw[Ε];omega),1,q _ I.fresh}
inductive OT (x:V) (y:V) (H:Hp) (Q:VK):Prop|mk l k xs (_:x=.ref l) (_:y=.int k) (_:H l=Z (.lst xs)) (_:-(2^63)<=k) (_:k<2^63) (_:xs.length*k.toNat<=Λ) (_:∀p,H p=Β->Q (.ref p) (upd H p (.lst (Ϡ k.toNat xs).flatten)))
def len_rep{α:Type}(xs:List α)(k:Nat):(Ϡ k xs).flatten.length=k*xs.length:=by
 induction k with
 |zero=>simp
 |succ k ih=>rw[A_,K2,Ε,ih,Nat.succ_mul,Nat.add_comm]
def KC:fE X (G8 .Mult) OT:=by
 intro pins s σ H x y v u Q I rx ry h;ext(⟨l,k,xs,rfl,rfl,hH,h1,h2,hz,q⟩:h);cases rx;ext(⟨t,rfl⟩:ry);ext(⟨z,its,n,r,hl,e⟩:I.lstM hH);let hlen:its.toArray.size*k.toNat<=Λ:=by rw[Ο,<-hl];show hz
 let hcap:¬ its.toArray.size*k.toNat>(2^63-1)/8:=by let:(Λ:Nat)<=(2^63-1)/8:=();omega
 let hfit:¬ (!Builtin.List.listFitsIndex k)=O:=by rw[fitsIndex_both h1 h2];show Χ
 let hlong:¬ y9 (its.toArray.size*k.toNat)=O:=by rw[nK hlen];show Χ
 let hnew:TW (λx1 x2=>x1++x2) #[] (Ϡ (if its.toArray.isEmpty=O then 0 else k.toNat) its.toArray)=(Ϡ k.toNat its).flatten.toArray:=by
  let f0:∀m:Nat,TW (λx1 x2=>x1++x2) #[] (Ϡ m its.toArray)=(Ϡ m its).flatten.toArray:=λm=>by let:=qZ its m [];rw[i_]at this;show this
  rw[f0];cases its with
  |nil=>simp
  |cons a r'=>rw[Z6 ()]
 show wpAny_binaryOp_repeat_ref (T:="list") (U:="int") () {0,e,1} (λs'=>typeIs_int s' k t) noFill_list_mul F.fills_int_mul F.slot_int_rmul repeat_list F.slot_int_index.lookup
  (G2 F.slot_int_rmul (typeIs_int s k t) F.entry_int_rmul (F.args_int_rmul_2 _ _) (int___rmul___int_list k t l its.toArray n)
   {e,1,{0,e,1},G2 F.slot_list_mul {0,e,1} F.entry_list_mul (F.args_list_mul_2 _ _) (AutoListH.list___mul___list_int_3 l its.toArray n k t hfit hcap hlong) {e,2}})
 rw[hnew];show{.ref _,0,I.lnew (t':=s.toks) (r.rep k.toNat) (by rw[len_rep,Nat.mul_comm];show hz),1,q _ I.fresh}
end
section
variable{prog:Ι}{w:ώ}{A:Ϛ}{E:ν->ψ->Prop}{s:ψ}
end
section
variable{X:Cx}
end
end L2
namespace Att
open PySem PySem.W PySem.Calls PyProof.Rows
def mi:∀(j:List Int)(vs:List ν),WellAll P h vs (j.map WData.int)->IntsAre vs j:=by
 intro j;induction j with
 |nil=>intro vs w;rw[u9]at w;cases w;show .nil
 |cons n j q=>
  intro vs w;rw[ϊ]at w;cases w with
  |cons a b=>cases a;show .cons _ _ (q _ b)
def Bq{l:OpenLaw}{n:Nat}(hn:l.most=Z n){P:Params}{h:ϙ}{args:List WData}{vals:List ν}
  (hpre:l.row.toRowW.claim.pre args=O) (hwl:WellAll P h vals args):
  ∃a vs ns,vals=[ϐ a]/\args=[WData.list (ns.map WData.int)]/\h.get? a=Z {cls:=.type "list",data:=.seq vs.toArray}/\IntsAre vs ns/\ns.length<=n:=by
 let hc:l.pre.holds [] {args:=args}=O:=(pre_splitW hpre).2;ext(⟨d,r,rfl,h1,h2⟩:hasAllW_cons ((pre_splitW hpre).1));ext(rfl:hasAllW_nil h2);ext(⟨xs,rfl,h3⟩:hasW_list h1);ext(⟨ns,rfl⟩:items_int h3);let hlen:ns.length<=n:=by
  let h4:(WTm.not (.lt (.lit (.int (n:Int))) (.len (.arg 0)))).holds [] {args:=[.list (ns.map .int)]}=O:=by let h4:=(holds_andW hc).1;rw[hn]at h4;show h4
  let h5:=condW_of h4 (w_not (w_lt w_lit (w_len_list (w_arg U))));rw[ε]at h5;show Nat.le_of_not_lt λq=>?_;first
   |(rw[Z9 ()]at h5;show absurd h5 ())
   |(simp at h5;omega)
 cases hwl with
 |cons w1 w2=>
  cases w2;cases w1 with
  |list ho hall=>show{00,ns,11,ho,mi ns _ hall,hlen}
def BX(l:OpenLaw)(j:List WData):l.row.toRowW.claim.post j (.bool O) j=O:=
 postW_of
  (show WShape.has [] (.bool O) .bool=O by first|rfl|decide|simp[WShape.has,WShape.arms,WShape.armsAll])
  (w_eq_bool (w_res U) w_lit) U
def attach_call{l:OpenLaw}{n:Nat}{q:Ι}{L:List Str}{M:(Str->Option ν)->ϙ->Prop}{N:ώ->ϙ->Prop}{d:DefRec}
  (hn:l.most=Z n) (a2:d.params.defaults=[])
  (c:∀(w:ώ)(D j:ψ)(mg h:Str->Option ν)(fa:υ)(o:Obj)(I z F:ν)(a:υ)(vs:List ν)(B:List Int),
   Ground q L [] M w D mg h j.heap->N w j.heap ->
   j.heap.get? fa=Z o->o.data=.func (docDef d.name d.params d.body d.scope I z F)->j.heap.CodeRec z d.name->mg d.name=Z (.ref fa) ->
   j.heap.get? a=Z {cls:=.type "list",data:=.seq vs.toArray}->IntsAre vs B->B.length<=n->j.gens=#[] ->
   N7 (ϓ l.prog w) callerA (.call (.ref fa) {[.ref a],[]}) (λr s'=>r=.ok (.ret (.bool O))/\OldK j.heap s'.heap/\s'.os=j.os/\Sk s'.gens) j):
  WalkO q L M N l.row.toRowW d [] (λf vs=>PySem.call f vs):=by
 intro w D j mg h G e fa o I z F dV kV ho hd a0 g a3 hg b5 b4 as S b3 b7 a1 b6;obtain rfl:dV=.none:=Dflts.none g a2;obtain rfl:kV=.none:=Dflts.noKw g;ext(⟨a,vs,B,rfl,rfl,W,R,b⟩:Bq hn S a1);show enter_call (J1 (c w D j mg h fa o I z F a vs B G e ho (fd_plain hd) a0 a3 W R b hg) λr s' hq=>?_);ext(⟨rfl,h2,h3,h4⟩:hq);show{.inl {.bool O,.bool O,[],1,λ_=>U,.bool O,BX l _,λ_=>{List.Pairwise.nil,λ_ hm=>(nomatch hm)}},h2,h3,h4}
section
variable{prog:Ι}{w:ώ}{A:Ϛ}{E:ν->ψ->Prop}{s:ψ}{K:Frag}
def noObjs(h:ϙ):ϙ:={h with objs:=#[]}
def noObjs_get(h:ϙ)(b:υ):(noObjs h).get? b=Β:=by
 cases e:(noObjs h).get? b with
 |none=>rfl
 |some o=>show absurd (Ξ e) (Nat.not_lt_zero _)
def fr_all(n:h.Ns L m):Fr (noObjs h) L h m:=
 {n,λb o e=>(by rw[noObjs_get]at e;cases e),ϋ _}
end
end Att
namespace L2
open PySem PySem.Spec PyProof.Rows
def qR:∀{vs:List ν}{j:List Int},IntsAre vs j->aI (j.map V.int) vs
 |_,_,.nil=>.nil
 |_,_,.cons n t h=>.cons {t,1} (qR h)
def Ke(H:Hp):Prop:=∀b,H b=Β\/∃o xs,H b=Z (.frz o (.lst xs))
def Cl{P:Ι}{w:ώ}{K:η}{mg mb:Str->Option ν}{CX:xJ}{k:Nat}{fa a:υ}{fd:ϣ}{x:Str}{sp:Sp}{s₁:ψ}{vs:List ν}{ns:List Int}
  (KX:K.In s₁.heap) (hns:s₁.heap.Ns Ω mg) (hb:s₁.heap.Ns builtinsNs mb) (hbb:∀x:Str,x≠"__name__"->mb x=M2 x) (hlim:s₁.heap.NoLimit) (hg:s₁.gens=#[])
  (ha:s₁.heap.get? a=Z {cls:=.type "list",data:=.seq vs.toArray}) (hi:IntsAre vs ns) (hl:ns.length<=Λ) (hr:cf k callerA)
  (F:∀base:ϙ,K.In base->base.Ns Ω mg->au P w K mg base CX k fa fd [x] sp) (hbind:∀(s:ψ)(u:ν),Tn s fd {[u],[]} [(x,u)])
  (hsp:∀H:Hp,Ke H->aD K H a (ns.map V.int)->sp [.ref a] H (λv _=>v=.bl O) λ_ _ _=>False)
  (hCX:∀H e s',CX [] H s₁ (λ_ _ _=>False) e s'->False):
  N7 (ϓ P w) callerA (.call (.ref fa) {[.ref a],[]}) (λr s'=>r=.ok (.ret (.bool O))/\OldK s₁.heap s'.heap/\s'.os=s₁.os/\Sk s'.gens) s₁:=by
 let rv:=qR hi;let lenV:=hi.length;let core:∀H:Hp,Ke H->aD K H a (ns.map V.int)->gZ P w H s₁.heap->(∀b,H b≠Β->b=a)->(H a≠Β->K.lookup a=Β) ->
   N7 (ϓ P w) callerA (.call (.ref fa) {[.ref a],[]}) (λr s'=>r=.ok (.ret (.bool O))/\OldK s₁.heap s'.heap/\s'.os=s₁.os/\Sk s'.gens) s₁:=by
  intro H hO hS hok hA hK;let base_of:∀{b:υ}{o:Obj},s₁.heap.get? b=Z o->H b=Β->(tf s₁.heap H).get? b=Z o:=λe n=>Fa e n;let noA:∀{b:υ}{o:Obj}{es:Array TM}{ep:Nat},s₁.heap.get? b=Z o->o.data=.dict es ep->H b=Β:=λ{b o es ep} e d=>by
   cases q:H b with
   |none=>rfl
   |some u=>have e':b=a:=hA b (by rw[q];simp);subst e';rw[ha]at e;cases e;let d':Data.seq vs.toArray _=Data.dict es ep:=d;cases d'
  let nsK:∀{b:υ}{m:Str->Option ν},s₁.heap.Ns b m->(tf s₁.heap H).Ns b m:=λ{b m} ⟨o,es,ep,e,d,r⟩=>{o,es,ep,base_of e (noA e d),d,r};let hKb:K.In (tf s₁.heap H):=λb o e=>base_of (KX b o e) (by
   cases q:H b with
   |none=>rfl
   |some u=>have e':b=a:=hA b (by rw[q];simp);subst e';rw[hK (by rw[q];simp)]at e;cases e)
  let hM:Mod K mg (tf s₁.heap H):={hKb,nsK hns,{mb,nsK hb,hbb},let ⟨mc,h1,h2⟩:=hlim;{mc,nsK h1,h2}};let e0:sy P w K mg (tf s₁.heap H) callerA [] s₁ H:={1,hM,λb o e=>Ge e,Nat.le_of_eq (AV _ _),trivial,λb hb=>absurd (show b∈([]:List υ)from hb) (),hok,.of_eq hg};show J1 ((F _ hKb (nsK hns)).run callerA [] s₁ H {[.ref a],[]} [.ref a] [.ref a] _ _ hr e0 (hbind s₁ (.ref a)) (.cons U .nil) (hsp H hO hS)) λr s' h=>?_;cases r with
  |error e=>show(hCX H e s' h).elim
  |ok fl=>
   cases fl with
   |next=>show ϴ h
   |brk=>show ϴ h
   |cont=>show ϴ h
   |ret u=>
    ext(⟨v,H',os,bare,un,hok',r',q⟩:h);let q':v=.bl O:=q;subst q';obtain rfl:u=Sw O:=r';show{1,OldK.of_keep λb o e=>?_,os,bare};cases q:H b with
    |none=>show un.keep b o e q (by intro z;show absurd (show b∈([]:List υ)from z) ()) ()
    |some u=>
     rcases hO b with z|⟨ob,xs,z⟩
     .rw[q]at z;cases z
     .let z2:=un.frzs b ob _ z;ext(⟨e1,_⟩:hok b _ z);ext(⟨e2,_⟩:hok' b _ z2);rw[e]at e1;cases e1;show e2
 cases hk:K.lookup a with
 |some o=>have e:=KX a o hk;rw[ha]at e;cases e;show core (λ_=>Β) (λ_=>.inl U) (.inr {0,vs.toArray,0,hk,111,by rw[Ο,lenV];show hl,↑rv}) (λb u z=>by let z':(Β:Option HO)=Z u:=z;cases z') (λb z=>absurd U z) λz=>absurd U z
 |none=>
  show core (λb=>if b=a then Z (.frz {cls:=.type "list",data:=.seq vs.toArray} (.lst (ns.map V.int)))else Β) (λb=>?_) (.inl (.inr {{cls:=.type "list",data:=.seq vs.toArray},Z5 U})) (λb u z=>?_) (λb z=>?_) λ_=>hk
  .by_cases hb:b=a
   .show .inr {00,Z5 hb}
   .show .inl (Z6 hb)
  .by_cases hb:b=a
   .let z':=(Z5 hb).symm.trans z;cases z';subst hb;show{ha,by rw[ε];show hl,vs,0,rv,ha}
   .let z':=(Z6 hb).symm.trans z;cases z'
  .by_cases hb:b=a
   .show hb
   .show absurd (Z6 hb) z
def walk_of{l:Tv}{n k:Nat}{q:Ι}{I:List Str}{XP:(Str->Option ν)->ϙ->Prop}{B:ώ->ϙ->Prop}{d:DefRec}{K:Params->η}{CX:ώ->xJ}{sp:ώ->Sp}{x:Str}
  (hn:l.most=Z n) (N:n<=Λ) (S:d.params.defaults=[]) (hr:cf k callerA)
  (i:∀(w:ώ)(h:ϙ),B w h->(K w.params).In h)
  (F:∀(w:ώ)(mg:Str->Option ν)(fa:υ)(h:ϙ),(K w.params).In h->h.Ns Ω mg->mg d.name=Z (.ref fa) ->
   ∃fd:ϣ,(∀(s:ψ)(u:ν),Tn s fd {[u],[]} [(x,u)]) /\
    ∀base:ϙ,(K w.params).In base->base.Ns Ω mg->au l.prog w (K w.params) mg base (CX w) k fa fd [x] (sp w))
  (p:∀(w:ώ)(H:Hp)(a:υ)(j:List Int),j.length<=n->Ke H->aD (K w.params) H a (j.map V.int)->sp w [.ref a] H (λv _=>v=.bl O) λ_ _ _=>False)
  (R:∀(w:ώ)(H:Hp)(s:ψ)(e:ν)(s':ψ),CX w [] H s (λ_ _ _=>False) e s'->False):
  PySem.W.WalkO q I XP B l.row.toRowW d [] (λf vs=>PySem.call f vs):=by
 show Att.attach_call hn S λw a7 M mg mb fa o pm cd a9 a vs j G m ho hd a8 c L r z hg=>?_;let D:=i w _ m;ext(⟨fd,hb,W⟩:F w mg fa _ D G.T.g c);show Cl D G.T.g G.T.b G.T.builtins G.T.nolimit hg L r (Ϫ z N) hr W hb (λH hO hS=>p w H a j z hO hS) λH e s'=>R w H M e s'
def ca(s:ϸ):Arguments:=match s with
 |.FunctionDef _ a _ _ _ _ _ _ _ _=>a
 |_=>{posonlyargs:=[],args:=[],vararg:=Β,kwonlyargs:=[],kw_defaults:=[],kwarg:=Β,defaults:=[]}
def bD(s:ϸ):List ϸ:=match s with
 |.FunctionDef _ _ b _ _ _ _ _ _ _=>b
 |_=>[]
def av(s:ϸ):M8:=match s with
 |.FunctionDef _ _ _ _ _ _ sc _ _ _=>sc
 |_=>{kind:=.function,names:=[],isGenerator:=J,isCoroutine:=J}
abbrev bg:xJ:=λ_ _ _ _ _ _=>False
abbrev E0:XK:=λ_ _ _=>False
def dc{X:Cx}:dL bg X E0:=λ_ _ _ _ _ _ _ h=>h.elim
structure Fun(K:η)(x qual:Str)(st:ϸ)(f:υ)(fd:ϣ):Prop where
 ex:∃(oc:ν) (od:Option υ) (kV doc pm:ν) (an:Option υ) (cdv ct:ν) (osl:Array (Option ν)),
  fd=j4 x qual (ca st) (bD st) (av st) .none kV doc pm an cdv ct/\K.lookup f=Z ⟨oc,od,.func fd,osl⟩/\A7 K cdv qual=O
 kp:ϰ K (.ref f)=O
section
variable{P:Ι}{w:ώ}{K:η}{mg:Str->Option ν}{base:ϙ}
def Fun.ok{x qual:Str}{st:ϸ}{f:υ}{fd:ϣ}{N ps:List Str}{k:Nat}{sp:Sp}(F:Fun K x qual st f fd)(S:cK N ps (av st))(len:∀vs H Q E,sp vs H Q E->vs.length=ps.length)
  (hbody:∀(cdv:ν)(A:Ϛ)(outer:List Env)(s:ψ)(H:Hp)(vs:List V)(Q:VK)(E:XK),cf k (A.deeper (envOfC qual (av st) s.heap.objs.size f cdv))->sp vs H Q E ->
   ∃t,lG (bP bg P w K mg base N qual (av st) f cdv A outer s H E).nox (bD st) t/\t {nx:=λ_ H'=>Q .non H',rt:=Q} (fF N vs) H):au P w K mg base bg (k+1) f fd ps sp:=by
 ext(⟨oc,od,kV,doc,pm,an,cdv,ct,osl,rfl,lk,hcd⟩:F.ex);show Ey lk hcd S len λA outer s H vs Q E hr hsp=>?_;ext(⟨t,h,q⟩:hbody cdv A outer s H vs Q E hr hsp);show{t,h.nox,q}
def Fun.binds{x G:Str}{st:ϸ}{f:υ}{fd:ϣ}{ps:List Str}(F:Fun K x G st f fd)
  (h:∀(D j z:ν)(B:Option υ)(n q:ν)(us:List ν),us.length=ps.length->bindArgs (j4 x G (ca st) (bD st) (av st) .none D j z B n q) {us,[]}=pure (ps.zip us)):bE K fd ps []:=by
 ext(⟨M,L,D,j,z,B,n,q,a,rfl,N,I⟩:F.ex);show .all (h D j z B n q)
def nW{x j:Str}{st:ϸ}{f:υ}{I:ν}{a z:Option υ}{G:Array (Option ν)}{B q F n D:ν}(l:K.lookup f=Z {I,a,.func (j4 x j (ca st) (bD st) (av st) .none B q F z n D),G})
  (c:A7 K n j=O) (k:ϰ K (.ref f)=O):Fun K x j st f (j4 x j (ca st) (bD st) (av st) .none B q F z n D):={{I,a,B,q,F,z,n,D,G,1,l,c},k}
end
def Nx{A:Ϛ}{k:Nat}(hr:cf k A):A.units+1<C2:=Nat.lt_of_le_of_lt (Nat.add_le_add_left (by decide:1<=64) _) hr.units
section
variable{X:Cx}
def pv(i:Nat){x:Str}{pos:Pos}(q:autoParam (X.N[i]?=Z x) yR._auto_1)(n:autoParam (Mc X.env.scope x) yF._auto_1)(z:autoParam ((x==("__debug__" : Str))=J) yD._auto_1)
  (j:autoParam ((x==("__classdict__" : Str))=J) yD._auto_1):PE X (.Name x pos) (jq i):=CH q n z j
end
def aK{A B:Prop}(h:B):if J=O then A else B:=by rw[Z6 Χ];show h
def aH{A B:Prop}(h:A):if O=O then A else B:=by rw[Z5 U];show h
def ao{c A B:Prop}[Decidable c](h1:c->A)(h2:¬ c->B):if c then A else B:=by
 by_cases h:c
 .rw[Z5 h];show h1 h
 .rw[Z6 h];show h2 h
def IT{c A B:Prop}[Decidable c](hc:c)(h:B):if (!decide c)=O then A else B:=by rw[Z9 hc];show aK h
def af(H H':Hp):Prop:=∀b o,H b=Z o->H' b=Z o
def af.refl(H:Hp):af H H:=λ_ _ h=>h
def af.trans{H H1 H2:Hp}(a:af H H1)(b:af H1 H2):af H H2:=λc o h=>b c o (a c o h)
def af.free{H H':Hp}(e:af H H'){l:υ}(h:H' l=Option.none):H l=Option.none:=by
 cases q:H l with
 |none=>rfl
 |some o=>rw[e l o q]at h;cases h
def af.seq{K:η}{H H':Hp}{a:υ}{xs:List V}(e:af H H')(h:aD K H a xs):aD K H' a xs:=by
 rcases h with (h|⟨o,h⟩)|h
 .show .inl (.inl (e _ _ h))
 .show .inl (.inr {o,e _ _ h})
 .show .inr h
section
variable{κ:Type}[DecidableEq κ]
end
def IA(I:Nat->ψ->Prop)
  (t:∀n s,I n s->ύ (ϓ prog w) A (TR it) (λr d=>match r with
   |none=>R (.ok .next) d
   |some v=>ύ (ϓ prog w) A (letOwnedTupleGo target it v) (λ_ g=>ύ (ϓ prog w) A (assign target env v) (λ_ i=>
     ύ (ϓ prog w) A (forIn ifs O λc r=>if r=O then do let b <-isTrue c env (eval c env);pure (J6 b)else pure (J6 r)) (λb f=>
      if b=O then ύ (ϓ prog w) A (eval elt env) (λx l=>
       ύ (ϓ prog w) A (call (.builtin "list.append") [acc,x]) (λ_ j=>∃m,m<n/\I m j) (λ_ _=>False) l) (notedBy (ϓ prog w) A env λe B=>R (.error e) B) f
      else ∃m,m<n/\I m f) (λ_ _=>False) i) (λ_ _=>False) g) (λ_ _=>False) d) (λ_ _=>False) s)
  (n:Nat) (h:I n s):
  N7 (ϓ prog w) A (.compLoop (.ListComp elt [{target,iter,ifs,(0)}] scope pos) 0 it acc env) R s:=by
 show codeAny_loop U I (λn s y=>?_) n h;change ύ _ A ((compTurn (.ListComp elt [{target,iter,ifs,(0)}] scope pos) 0 it acc env).onRaise (λx=>do noteFrame x env;theTreesLotGoes x)) _ _ s;show wpAny_noted ?_;rw[compTurn_list];let a:∀{E:ν->ψ->Prop}(x:ν)(s:ψ),False->E x s:=λ_ _ z=>z.elim;show ζ (Q9 (ζ (m_ (t n s y) (λr d h₁=>?_) a)));cases r with
 |none=>show Η h₁
 |some v=>
  show ζ (m_ h₁ (λ_ g o=>?_) a);show ζ (m_ o (λ_ i q=>ζ (m_ q (λb f k=>?_) a)) a);cases b with
  |false=>show Η {1,k}
  |true=>show ζ (ζ (m_ k (λx l u=>ζ (m_ u (λ_ j p=>Η (Η {1,p})) a)) λ_ _ z=>z))
def bp(env:Env):List (Str×K_)->List (Str×υ)->List (Str×υ)
 |[],a=>a
 |(n,k)::r,a=>if k=.free then bp env r (match env.cells.lookup n with|some c=>(n,c)::a|none=>a)else bp env r a
def uP(h:∀x∈d.names,x.2=.free->∃c,env.cells.lookup x.1=Z c):closureFor d env=pure (bp env d.names []):=by
 let p:∀(l:List (Str×K_))(b:List (Str×υ)),(∀x∈l,x.2=Ϣ->∃c,env.cells.lookup x.1=Z c) ->
   (forIn l b λx j=>(do
    if x.2==Ϣ then
     let a <-cellOf env x.1
     pure (J6 ((x.1,a)::j))
    else pure (J6 j):Sem _))=pure (bp env l b):=by
  intro l;induction l with
  |nil=>intro b _;rfl
  |cons x r g=>
   intro b m;ext(⟨n,k⟩:x);let o:=λy s=>m y (ρ _ s);rw[Tw];by_cases f:k=.free
   .subst f;ext(⟨c,i⟩:m (n,.free) π U);simp only[beq_self_eq_true,if_true,bp];let e:cellOf env n=pure c:=by unfold cellOf;rw[show env.cells.lookup n=Z c from i]
    rw[e];simp only[pure_bind];rw[g _ o,show env.cells.lookup n=Z c from i]
   .let q:(k==Ϣ)=J:=↑f
    simp only[q,SI,if_false,bp,Z6 f,pure_bind];show g _ o
 show(congrArg (λt:Sem (List (Str×υ))=>t>>=pure) (p d.names [] h)).trans ()
def cq:∀(l:List (Str×K_))(b:List (Str×υ)),(∀n c,b.lookup n=Z c->env.cells.lookup n=Z c)->∀n c,(bp env l b).lookup n=Z c->env.cells.lookup n=Z c
 |[],b,h,n,c,e=>h n c e
 |(m,k)::r,b,h,n,c,e=>by
  unfold bp at e;split at e
  .show cq r _ ?_ n c e;intro d f a;split at a
   .rename_i j g;rw[ϱ]at a;split at a
    .rename_i i;let:d=m:=↑i
     subst this;cases a;show g
    .show h d f a
   .show h d f a
  .show cq r _ h n c e
def gC:∀(l:List (Str×K_))(a:List (Str×υ)),(∃c,a.lookup n=Z c)->∃c,(bp env l a).lookup n=Z c
 |[],a,h=>h
 |(m,k)::r,a,h=>by
  unfold bp;split
  .show gC r _ ?_;ext(⟨c,b⟩:h);split
   .rw[ϱ];split
    .show{01}
    .show{c,b}
   .show{c,b}
  .show gC r _ h
def eR(a:∃c,env.cells.lookup n=Z c):∀(l:List (Str×K_))(b:List (Str×υ)),(n,Ϣ)∈l->∃c,(bp env l b).lookup n=Z c
 |[],_,h=>by cases h
 |(m,k)::r,b,h=>by
  ext(⟨c,a⟩:a);unfold bp;rcases ξ.mp h with e|h
  .cases e;rw[Z5 U,a];show gC r _ {c,3}
  .split
   .show eR {c,a} r _ h
   .show eR {c,a} r _ h
def Cx.comp(X:Cx)(N:List Str)(a:M8)(b:List υ)(s:ψ)(H:Hp):Cx where
 prog:=X.prog
 w:=X.w
 K:=X.K
 mg:=X.mg
 base:=X.base
 A:=X.A
 N:=N
 s₀:=s
 H₀:=H
 env:=compEnvC a (bp X.env a.names []) (s.heap.objs.size+1) X.env
 outer:=X.stack
 stack:=X.stack
 ex:=b
 calm:=X.calm
 fn:=λ_=>J
 pn:=[]
 xe:=λ_ _=>False
def gv(k:Nat)(ix:List Nat)(σ:St):St:=Ϡ k Β++ix.map λj=>(σ[j]?).join
structure dF(N:List Str)(sc:M8)(scope:M8)(own:List Str)(ix:List Nat):Prop where
 kind:scope.kind=.function
 nocell:∀y∈scope.names,y.2≠.cell
 names:∀y∈scope.names,y.2=.local->scope.names.lookup y.1=Z .local
 free:∀y∈scope.names,y.2=.free->sc.names.lookup y.1=Z .cell\/sc.names.lookup y.1=Z .free
 cap:∀j∈ix,∀x,N[j]?=Z x->(x,Ϣ)∈scope.names/\(scope.names.lookup x=Z .free)
 inN:∀j∈ix,j<N.length
abbrev iU(N own:List Str)(ix:List Nat):List Str:=own++ix.filterMap λj=>N[j]?
def Hn(h:∀j∈ix,j<N.length):(iU N own ix).length=own.length+ix.length:=by
 rw[Ε];congr 1;induction ix with
 |nil=>rfl
 |cons j r a=>rw[C6,Ζ (h j π)];change _+1=_+1;rw[a λi b=>h i (ρ _ b)]
def jf{N:List Str}:∀{ix:List Nat},(∀j∈ix,j<N.length)->∀{i:Nat}{x:Str},(ix.filterMap λj=>N[j]?)[i]?=Z x->∃j,ix[i]?=Z j/\N[j]?=Z x
 |[],_,i,x,e=>by simp at e
 |j::r,h,i,x,e=>by
  let a:j<N.length:=h j π;rw[C6,Ζ a]at e;cases i with
  |zero=>show{j,12};rw[Ζ a];show e
  |succ i=>obtain⟨b,f,d⟩:=jf (λi c=>h i (ρ _ c)) (↑e);show{b,↑f,d}
def rE(h:(gv k ix σ)[i]?=Z (Z v)):∃b j,i=k+b/\ix[b]?=Z j/\σ[j]?=Z (Z v):=by
 unfold gv at h;by_cases a:i<k
 .rw[e_ (↑a),List.getElem?_replicate,Z5 a]at h;cases h
 .rw[i6 (↑a),F0,ϑ]at h;show{i-k,2};cases e:ix[i-k]? with
  |none=>rw[e]at h;cases h
  |some j=>
   rw[e]at h;show{j,312};let h':(σ[j]?).join=Z v:=↑h
   cases q:σ[j]? with
   |none=>rw[q]at h';cases h'
   |some o=>rw[q]at h';show congrArg Z h'
def eP{env:Env}{x:Str}:∀{names:List (Str×K_)},names.lookup x=Z .free ->
  (names.map λ(n,k)=>if (k==Ϣ&&env.scope.kind==.function&&env.kindOf n==Z .cell)then (n,A6)else (n,k)).lookup x=Z .cell \/
  (names.map λ(n,k)=>if (k==Ϣ&&env.scope.kind==.function&&env.kindOf n==Z .cell)then (n,A6)else (n,k)).lookup x=Z .free
 |[],h=>by simp at h
 |(n,k)::r,h=>by
  let c:=@eP env x r;rw[ϊ];change d_ x ((if (k==Ϣ&&env.scope.kind==.function&&env.kindOf n==Z .cell)=O then (n,A6)else (n,k))::_)=_\/d_ x ((if (k==Ϣ&&env.scope.kind==.function&&env.kindOf n==Z .cell)=O then (n,A6)else (n,k))::_)=_;cases a:x==n with
  |true=>
   simp only[ϱ,a]at h;cases h;by_cases b:(Ϣ==Ϣ&&env.scope.kind==.function&&env.kindOf n==Z .cell)=O
   .rw[Z5 b];left;simp only[ϱ,a]
   .rw[Z6 b];right;simp only[ϱ,a]
  |false=>
   simp only[ϱ,a]at h;by_cases b:(k==Ϣ&&env.scope.kind==.function&&env.kindOf n==Z .cell)=O
   .rw[Z5 b];simp only[ϱ,a];show c h
   .rw[Z6 b];simp only[ϱ,a];show c h
def eO{env:Env}{x:Str}{b:K_}:∀{names:List (Str×K_)},
  (names.map λ(n,k)=>if (k==Ϣ&&env.scope.kind==.function&&env.kindOf n==Z .cell)then (n,A6)else (n,k)).lookup x=Z b->(b=.cell\/b=.free)->(∀y∈names,y.2≠.cell) ->
  (x,Ϣ)∈names
 |[],h,_,_=>by simp at h
 |(n,k)::r,h,hk,hc=>by
  let g:=@eO env x b r;rw[ϊ]at h;let f:=λy j=>hc y (ρ _ j);by_cases d:k=.free
  .subst d;cases c:x==n with
   |true=>
    let:x=n:=↑c
    subst this;show π
   |false=>
    show ρ _ (g ?_ hk f);by_cases e:(Ϣ==Ϣ&&env.scope.kind==.function&&env.kindOf n==Z .cell)=O
    .let a:d_ x ((if (Ϣ==Ϣ&&env.scope.kind==.function&&env.kindOf n==Z .cell)=O then (n,A6)else (n,Ϣ))::r.map λ(n,k)=>if (k==Ϣ&&env.scope.kind==.function&&env.kindOf n==Z .cell)then (n,A6)else (n,k))=Z b:=h;rw[Z5 e,ϱ,c]at a;show a
    .let a:d_ x ((if (Ϣ==Ϣ&&env.scope.kind==.function&&env.kindOf n==Z .cell)=O then (n,A6)else (n,Ϣ))::r.map λ(n,k)=>if (k==Ϣ&&env.scope.kind==.function&&env.kindOf n==Z .cell)then (n,A6)else (n,k))=Z b:=h;rw[Z6 e,ϱ,c]at a;show a
  .let i:(k==Ϣ)=J:=↑d
   let a:d_ x ((if (k==Ϣ&&env.scope.kind==.function&&env.kindOf n==Z .cell)=O then (n,A6)else (n,k))::r.map λ(n,k)=>if (k==Ϣ&&env.scope.kind==.function&&env.kindOf n==Z .cell)then (n,A6)else (n,k))=Z b:=h;rw[i,k_,k_,Z6 Χ,ϱ]at a;cases c:x==n with
   |true=>
    rw[c]at a;cases a;rcases hk with z|z
    .show absurd z (hc (n,_) π)
    .show absurd z d
   |false=>rw[c]at a;show ρ _ (g a hk f)
def Cc{a b:Nat}(h:a<b):a≠b:=ϩ h
def Pe{a b:Nat}(h:a<b):b≠a:=D0 h
def yd(h:a<b):a≠b+1:=ϩ (P4 h)
def Pb(h:a<b):b+1≠a:=D0 (P4 h)
def PP(a:Nat):a≠a+1:=ϩ (Q4 a)
def NY(a:Nat):a+1≠a:=D0 (Q4 a)
section
variable{X:Cx}{pins:List (υ×Obj)}{σ:St}{H:Hp}{s:ψ}{scope:M8}{own:List Str}{ix:List Nat}{fp:List υ}
def ax.compOk(I:ax X pins σ H s)(L:dF X.N X.env.scope scope own ix)(f:∀b∈fp,kl X pins H b)(i:∀b∈fp,b<s.heap.objs.size):(X.comp N scope fp s H).Ok where
 mod:=I.ok.mod
 kind:=L.kind
 glob:=I.ok.glob
 blt:=I.ok.blt
 above:=F7 _
 inj:=λx y c k j=>I.ok.inj x y c (cq _ _ (λ_ _ z=>by simp at z) x c k) (cq _ _ (λ_ _ z=>by simp at z) y c j)
 has:=λx d=>by
  let g:(x,Ϣ)∈scope.names:=by
   rcases d with d|d
   .show eO d (.inl U) L.nocell
   .show eO d (.inr U) L.nocell
  show eR (I.ok.has x (L.free _ g U)) _ _ g
 cab:=λx c h=>by cases h
 hd:=I.ok.hd
 frames:=I.ok.frames
 stk:=.inl U
 exf:=λb a=>{yd (i b a),λx c e=>(f b a).2.2.2.2.1 x c (cq _ _ (λ_ _ z=>by simp at z) x c e)}
 bs:=I.bs
 bsz:=Ϫ I.ok.bsz I.sz
 noex:=λb o e a=>by
  rcases(f b a).2.2.2.1 with z|z
  .show I.ok.noex b o e z
  .show absurd (Ϝ (Ξ e) (Ϫ I.ok.bsz z)) (G0 _)
 exfs:=λb a z=>by
  rcases ξ.mp (I.stkSub b z)with e|e
  .show(f b a).2.1 e
  .show(f b a).2.2.1 e
 funs:=I.stack
 frf:=I.stkFree
def ax.compStart(I:ax X pins σ H s)(L:dF X.N X.env.scope scope own ix)(S:∀b∈fp,kl X pins H b)(K:∀b∈fp,b<s.heap.objs.size)
  (k:∀b o,s.heap.get? b=Z o->B.get? b=Z o) (T:B.Ns (s.heap.objs.size+1) m):
  ax (X.comp (iU X.N own ix) scope fp s H) [] (gv own.length ix σ) H {s with heap:=B,toks:=tk}:=by
 let a:=λx c=>cq (env:=X.env) scope.names [] (λ_ _ z=>by simp at z) x c;show{I.compOk L S K,1,I.bare,Un.kept k,{m,T,λi x v u2 M V=>?_},λx c e=>?_,I.hok.fresh (F7 _),λx c e=>I.freeC x c (a x c e),λp P=>absurd (show p∈([]:List (υ×Obj))from P) (),I.hok.kept k,2}
 .ext(⟨N,j,rfl,E,Q⟩:rE M);let A:(iU X.N own ix)[own.length+N]?=Z x:=u2;rw[i6 (E3 _ _),Nat.add_sub_cancel_left]at A;ext(⟨u1,w,C⟩:jf L.inN A);rw[E]at w;cases w;ext(⟨n,u3⟩:L.cap j (ό E) x C);let h:=L.free _ n U;ext(⟨W,u0,G⟩:I.loc);obtain⟨u,r,l⟩:=G j x v C Q (by rcases h with z|z;show .inr (.inl z);show .inr (.inr z));show{u,r,.inr {22}}
  .show eP u3
  .rcases l with ⟨R,_⟩|⟨_,c,D,F⟩
   .let t:X.env.scope.names.lookup x=Z .local:=R;rcases h with z|z
    .rw[t]at z;cases z
    .rw[t]at z;cases z
   .ext(⟨f,y⟩:eR {c,D} scope.names [] n);let:f=c:=by let q:=a x f y;rw[D]at q;show(ϡ q).symm
    subst this;ext(⟨o,g,d⟩:F);show{f,y,o,k _ _ g,d}
 .ext(⟨v,o,g,d⟩:I.cell x c (a x c e));show{v,o,k _ _ g,d}
 .change(gv own.length ix σ).length=(iU X.N own ix).length;rw[Hn L.inN];unfold gv;rw[Ε,F0,ε]
def GW(k:Nat)(g:TG):Prop:=∀x (σ:St) H (Q:St->Hp->Prop),g x σ H Q->g x σ H λa b=>Q a b/\a.length=σ.length/\∀j,k<=j->a[j]?=σ[j]?
def bz(h:i<k):GW k (ez i):=λx σ H Q q=>{q,3,λj a=>by rw[K8 ()]}
def Oy(k:Nat)(g:LY):Prop:=∀x (σ:St) H (Q:St->Hp->Prop),g x σ H Q->g x σ H λa b=>Q a b/\a.length=σ.length/\∀j,k<=j->a[j]?=σ[j]?
def GM(g:TG):Prop:=∀x (σ:St) H (Q a:St->Hp->Prop),(∀s h,Q s h->a s h)->g x σ H Q->g x σ H a
def tq:GM (ez i):=λ_ _ _ _ _ h q=>h _ _ q
def GL:Oy k Bm:=λx σ H Q q=>{q.1,q.2,1,λ_ _=>U}
def uS(n:GW k t)(m:Oy k u)(o:GM t)(l:∀x (σ:St) H (Q a:St->Hp->Prop),(∀s h,Q s h->a s h)->u x σ H Q->u x σ H a):Oy k (lg t u):=λx σ H Q q=>by ext(⟨v,r,e,q⟩:q);show{v,r,e,o _ _ _ _ _ ?_ (n _ _ _ _ q)};ext y A ⟨d,f,c⟩;show l _ _ _ _ _ ?_ (m _ _ _ _ d);ext w z ⟨i,p,g⟩;show{i,p.trans f,λj b=>(g j b).trans (c j b)}
def zG:∀x (σ:St) H (Q a:St->Hp->Prop),(∀s h,Q s h->a s h)->Bm x σ H Q->Bm x σ H a:=λ_ _ _ _ _ h q=>{q.1,h _ _ q.2}
def Fq(c:GM t)(d:∀x (σ:St) H (Q a:St->Hp->Prop),(∀s h,Q s h->a s h)->u x σ H Q->u x σ H a):∀x (σ:St) H (Q a:St->Hp->Prop),(∀s h,Q s h->a s h)->lg t u x σ H Q->lg t u x σ H a:=
 λ_ _ _ _ _ h ⟨v,r,e,q⟩=>{v,r,e,c _ _ _ _ _ (λ_ _ b=>d _ _ _ _ _ h b) q}
def Ls{k:Nat}{K:η}{n:Nat}{t:LY}(c:Oy k t):GW k (FQ K n t):=λx σ H Q q=>by ext(⟨a,xs,e,b,d,q⟩:q);show{a,xs,e,b,d,c _ _ _ _ q}
def kK{K:η}{i j k:Nat}(b:i<k)(a:j<k):GW k (FQ K 2 (lg (ez i) (lg (ez j) Bm))):=
 Ls (uS (bz b) (uS (bz a) GL tq zG) tq (Fq tq zG))
def Jg(X:Cx)(a:List Ϲ)(t:TT):Prop:=
 ∀(pins:List (υ×Obj))(s:ψ)(σ:St)(H:Hp)(Q:Bool->Hp->Prop),ax X pins σ H s->t σ H Q ->
  ύ (ϓ X.prog X.w) X.A (forIn a O λc r=>if r=O then do let b <-isTrue c X.env (eval c X.env);pure (J6 b)else pure (J6 r)) (TP X pins σ Q) X.xe s
def Ft:TT:=λ_ H Q=>Q O H
def pif_nil:Jg X [] Ft:=λ_ _ _ H _ I h=>wpAny_tests_nil {H,I,h}
def HM(h:PT X c t):Jg X [c] t:=λpins s σ H Q I q=>wpAny_tests_one (h pins s σ H Q I q)
def FG(o:It)(k:Nat)(ix:List Nat)(g:TG)(l:TT)(f:TE)(σ:St)(n:Hp)(Q:List V->Hp->Prop):Prop:=
 ∃W:Nat->Nat->List V->Hp->Prop,(∃m,W 0 m [] n)/\∀i m ys H,W i m ys H ->
  (o.stop i H/\Q ys H) \/
  (o.go i H/\∃N:List V->Hp->Prop,(∀a H',N a H'->∃e,e<m/\W (i+1) e a H')/\∀x H',o.yld i H x H'->g x (gv k ix σ) H' λb j=>l b j λc d=>
   if c=O then f b d λy h=>ys.length<Λ/\N (ys++[y]) h
   else N ys d)
def jY{C:Cx->Prop}{u3 K a2:Ϲ}{M:List Ϲ}{pos:Pos}{it:υ}{u2:Nat->ϙ->Prop}{u4:It}{g:TG}{tt:TT}{te:TE}{E:ν->ψ->Prop}{Qf:List V->Hp->Prop}{RR:ν->υ->Result->ψ->Prop}
  (L:dF X.N X.env.scope scope own ix) (hc:C (X.comp (iU X.N own ix) scope fp s H)) (hg:∀fp s H,PG (X.comp (iU X.N own ix) scope fp s H) K g) (gw:GW own.length g)
  (ht:∀fp s H,Jg (X.comp (iU X.N own ix) scope fp s H) M tt) (he:PE ((X.comp (iU X.N own ix) scope fp s H).wish (notedBy (ϓ X.prog X.w) X.A (X.comp (iU X.N own ix) scope fp s H).env λe h=>RR (.ref s.heap.objs.size) (s.heap.objs.size+1) (.error e) h)) u3 te)
  (I:ax X pins σ H s) (T:CC C X.prog X.w X.K K u4 fp it u2) (st:u2 0 s.heap) (hf:∀b∈fp,kl X pins H b)
  (hw:FG u4 own.length ix g tt te σ H Qf)
  (f0:∀(D C:υ)(h:ψ)(ys:List V)(H':Hp)(m:Str->Option ν),h.heap.Ns C m->C≠X.env.locals->(∀x c,X.env.cells.lookup x=Z c->c≠C)->X.s₀.heap.objs.size<=C->(∀p∈X.pn++pins,p.1≠C)->upd H' D (.lst ys) C=Β->H' D=Β ->
   ax X pins σ (upd H' D (.lst ys)) h->Qf ys H'->RR (.ref D) C (.ok .next) h):
  ύ (ϓ X.prog X.w) X.A (newList []) (λc3 e0=>ύ (ϓ X.prog X.w) X.A (newFunctionEnv scope X.env.globals (bp X.env scope.names []) [] X.env.qual Β .none (Z X.env)) (λc0 e5=>
   N7 (ϓ X.prog X.w) X.A (.compStart (.ListComp u3 [{K,a2,M,(0)}] scope pos) 0 (.ref it) c3 {c0 with scope:=relabel scope X.env}) (RR c3 c0.locals) e5) E e0) E s:=by
 ext(⟨W,⟨m0,w0⟩,e2⟩:hw);let P:∀b∈fp,b<s.heap.objs.size:=λb a=>by ext(⟨o,e,_⟩:T.obj 0 s.heap st b a);show Ξ e
 show Ϻ (wpAny_newFunctionEnv L.nocell (by intro y hy;simp at hy) (λh₁ a0 a1=>?_) L.kind);generalize a7:s.heap.push {cls:=.type "list",dict:=Β,data:=.seq ([]:List ν).toArray}=h2 at a0 a1⊢;let G:h2.objs.size=s.heap.objs.size+1:=by rw[<-a7,r9]
 let a6:=λb o e=>by show a1.extBut b o (by rw[G];show yd (Ξ e)) (ω _ (a7▸ω _ e))
 let e3:h₁.PlainList s.heap.objs.size #[]:={0,a1.extBut _ _ (by rw[G];show PP _) (ω _ (a7▸Ψ _ U))};rw[G]at a0;let e7:=λx c=>cq (env:=X.env) scope.names [] (λ_ _ z=>by simp at z) x c;let b8:∀x c,X.env.cells.lookup x=Z c->c<s.heap.objs.size:=λx c e=>by ext(⟨v,q⟩:I.cell x c e);show q.lt
 let d9:∀b∈gW X.stack,b<s.heap.objs.size:=λb a=>by ext(⟨_,o,ho,_⟩:I.stack.mem a);show Ξ ho
 let d8:({newEnv scope h2.objs.size X.env.globals (bp X.env scope.names []) X.env.qual Β .none (Z X.env) builtinsNs with scope:=relabel scope X.env}:Env)=(X.comp (iU X.N own ix) scope fp s H).env:=by change compEnvC scope (bp X.env scope.names []) h2.objs.size X.env=compEnvC scope (bp X.env scope.names []) (s.heap.objs.size+1) X.env;rw[G]
 let c1:N7 (ϓ X.prog X.w) X.A (.compLoop (.ListComp u3 [{K,a2,M,(0)}] scope pos) 0 (.ref it) (.ref s.heap.objs.size) (X.comp (iU X.N own ix) scope fp s H).env) (RR (.ref s.heap.objs.size) (s.heap.objs.size+1))
   {s with heap:=h₁,toks:=s.toks+([]:List (Str×ν)).length}:=by
  show IA (λn h=>∃i ys H',ax (X.comp (iU X.N own ix) scope fp s H) [] (gv own.length ix σ) H' h/\u2 i h.heap/\(∀b∈fp,H' b=Β)/\H' s.heap.objs.size=Β /\
   (∃its:List ν,aI ys its/\h.heap.PlainList s.heap.objs.size its.toArray)/\ys.length<=Λ/\W i n ys H') ?_ m0
   {(0),[],H,(I.compStart (tk:=s.toks+([]:List (Str×ν)).length) L hf P a6 a0),T.keep _ _ _ st (λb _ o e=>a6 b o e),λb a=>(hf b a).1,(I.hok.fresh (Α _)),{[],.nil,e3},ϋ _,w0}
  ext n s3 ⟨i,ys,B,I3,c4,c2,d3,⟨its,u0,f,e8⟩,hz,w3⟩;let Ip:=I3.pins_of (pins':=[(s.heap.objs.size,{cls:=.type "list",data:=.seq its.toArray f})]) (λp k=>by
   let e:p=(s.heap.objs.size,{cls:=.type "list",data:=.seq its.toArray f}):=↑k
   subst e;show{e8,d3,PP _,λz=>absurd (d9 _ z) (G0 _),λv z=>by cases z})
  let a3:∀{H':Hp},(∀b∈fp,H' b=Β)->∀b∈fp,kl (X.comp (iU X.N own ix) scope fp s H) [(s.heap.objs.size,{cls:=.type "list",data:=.seq its.toArray f})] H' b:=λhn b a=>
   {hn b a,yd (P b a),I3.ok.exfs b a,.inl a,λx c e=>(I3.ok.exf b a).2 x c e,λp k=>by
    let e:p=(s.heap.objs.size,{cls:=.type "list",data:=.seq its.toArray f}):=by simpa using(show p∈([]:List (υ×Obj))++[(s.heap.objs.size,{cls:=.type "list",data:=.seq its.toArray f})]from k)
    subst e;show Pe (P b a)}
  rcases e2 i n ys B w3 with ⟨e1,qf⟩|⟨go,N,hN,e4⟩
  .show bw (T.done (X.comp (iU X.N own ix) scope fp s H) U U U hc i _ s3 _ B _ Ip (a3 c2) c4 e1) λr u1 ⟨hr,w⟩=>?_
   subst hr;ext(⟨e4,F,_⟩:w.pin (s.heap.objs.size,{cls:=.type "list",data:=.seq its.toArray f}) (ϛ _ π));ext(⟨mC,f4,_⟩:w.loc);let e9:gZ X.prog X.w (upd B s.heap.objs.size (.lst ys)) u1.heap:=λb u e=>by
    by_cases a:b=s.heap.objs.size
    .subst a;rw[aa]at e;cases e;show{hz,its,f,u0,e4}
    .rw[ai a]at e;show(w.hok b u e).stay (λc v _ q=>q) (λc q=>by rw[ai (ah q F)];show q) λc xs q=>by rw[ai (ah q F)];show q
   let l:=w.base;let un:Un (gW X.stack) fp H (upd B s.heap.objs.size (.lst ys)) s.heap u1.heap:=
    {l.keep,l.slot,λb o e n hx=>by rw[ai (ϩ (Ξ e))];show l.free b o e n hx,l.there,λb xs e=>by rw[ai (ah (l.tups b xs e) F)];show l.tups b xs e,λb o u e=>by rw[ai (ah (l.frzs b o u e) F)];show l.frzs b o u e,λb ps e=>by ext(⟨e6,q⟩:l.tbls b ps e);show{e6,by rw[ai (ah q F)];show q}}
   let I5:=I.call' w.os un e9 w.bare λb a=>by ext(⟨f0,f1,f2,f3,f4,f5⟩:hf b a);show{f3,f1,f4,f5}
   show f0 _ _ u1 ys B mC f4 ?_ ?_ ?_ ?_ ?_ F I5 qf
   .show Pb I.lt
   .intro x c e;show yd (b8 x c e)
   .show Ϫ I.sz (F7 _)
   .intro p k;show yd (Ξ (I.pin p k).1)
   .rw[ai (NY _)];show w.free
  .show bw (T.item (X.comp (iU X.N own ix) scope fp s H) U U U hc i _ s3 _ B _ Ip (a3 c2) c4 go) λr u1 ⟨u,hr,h4⟩=>?_
   subst hr;show bw h4 λ_ s5 ⟨x,H5,I5,r5,y5,a4,f1⟩=>?_;show bw (hg fp s H _ s5 _ H5 x u _ (I5.pinned (a3 f1) (T.obj _ _ a4)) r5 (gw _ _ _ _ (e4 x H5 y5))) λ_ s6 ⟨a5,H6,I6,q6,l6,k6⟩=>?_;show bw (ht fp s H _ s6 a5 H6 _ I6 q6) λc s7 ⟨H7,I7,S⟩=>?_;let b9:∀{A:ψ}{t:Hp},ax (X.comp (iU X.N own ix) scope fp s H) ([(s.heap.objs.size,{cls:=.type "list",data:=.seq its.toArray f})]++mX fp s5.heap) a5 t A ->
     ax (X.comp (iU X.N own ix) scope fp s H) [] (gv own.length ix σ) t A/\u2 (i+1) A.heap/\(∀b∈fp,t b=Β)/\t s.heap.objs.size=Β/\A.heap.get? s.heap.objs.size=Z {cls:=.type "list",data:=.seq its.toArray f}:=λ{A t} R=>by
    ext(⟨e8,d8,_⟩:R.pin (s.heap.objs.size,{cls:=.type "list",data:=.seq its.toArray f}) (ϛ _ (r6 _ π)));show{(R.pins_of (pins':=[]) λp k=>by cases k).weak l6.symm λj v e=>?_,T.keep _ _ _ a4 λb a o e=>(R.pin (b,o) (ϛ _ (ϛ _ (gE a e)))).1,λb a=>?_,d8,e8}
    .ext(⟨i',j',rfl,_,_⟩:rE e);rw[k6 _ (E3 _ _)];show e
    .ext(⟨o,e,d⟩:T.obj _ _ a4 b a);show(R.pin (b,o) (ϛ _ (ϛ _ (gE a e)))).2.1
   cases c with
   |false=>rw[Z6 Χ]at S⊢;ext(⟨m',hm,w7⟩:hN _ _ S);ext(⟨a1,a2,a3,Q,a5⟩:b9 I7);show{m',hm,i+1,ys,H7,a1,a2,a3,Q,{its,u0,f,a5},hz,w7}
   |true=>
    rw[Z5 U]at S⊢;show bw (he _ s7 a5 H7 _ (I7.wish _) S) λv A ⟨y,t,f2,r8,j5,q8⟩=>?_;ext(⟨m',hm,w8⟩:hN _ _ q8);ext(⟨a1,a2,a3,Q,a5⟩:b9 f2.unwish);show wpAny_list_append_plain {f,a5} (λh9 f3 c5=>?_) (by let:=u0.length;simp;omega);let I9:=a1.turned (t':=A.toks) (λb o a e=>c5.extBut b o a e) Q (PP _)
     (.inr (Α _)) (λx c e=>Cc (b8 x c (e7 x c e))) (λp k=>absurd (show p∈([]:List (υ×Obj))from k) ())
    show{m',hm,i+1,ys++[y],t,I9,T.keep _ _ _ a2 (λb a o e=>c5.extBut b o (Cc (P b a)) e),a3,Q,{its++[v],aI.append u0 (.cons r8 .nil),2},2,w8}
    .let e:(its++[v]).toArray=its.toArray.push v:=();rw[e];show f3
    .rw[Ε];change _+1<=_;omega
 rw[G];let e2:=d8;rw[G]at e2;show Eq.mpr (congrArg (λe=>N7 (ϓ X.prog X.w) X.A (.compStart (.ListComp u3 [{K,a2,M,(0)}] scope pos) 0 (.ref it) (.ref s.heap.objs.size) e) (RR (.ref s.heap.objs.size) (s.heap.objs.size+1)) {s with heap:=h₁,toks:=s.toks+([]:List (Str×ν)).length}) e2) (codeAny_compStart_list c1 (T.self X.A 0 _ _ _ (T.keep _ _ _ st λb _ o e=>a6 b o e) c1))
end
section
variable{X:Cx}{scope:M8}{own:List Str}{ix:List Nat}
def MQ(b:TI)(k:Nat)(ix:List Nat)(g:TG)(tt:TT)(te:TE):TE:=λσ H Q=>b σ H λc H1=>FG c k ix g tt te σ H1 λys H'=>∀a,H' a=Β->Q (.ref a) (upd H' a (.lst ys))
def ax.clos(I:ax X pins σ H s)(L:dF X.N X.env.scope scope own ix):closureFor scope X.env=pure (bp X.env scope.names []):=
 uP λx b a=>I.ok.has x.1 (L.free x b a)
def pe_lc{j f c:Ϲ}{i:List Ϲ}{pos:Pos}{l:TI}{g:TG}{tt:TT}{te:TE}(y:PI X f c l)(L:dF X.N X.env.scope scope own ix)(B:X.calm=O)
  (k:∀a s H,PG (X.comp (iU X.N own ix) scope a s H) f g) (P:GW own.length g) (G:∀a s H,Jg (X.comp (iU X.N own ix) scope a s H) i tt) (N:∀a s H,PE (X.comp (iU X.N own ix) scope a s H) j te)
  (F:autoParam (∀x,foldedSetIterable c X.env x=pure x) yI._auto_1):PE X (.ListComp j [{f,c,i,(0)}] scope pos) (MQ l own.length ix g tt te):=by
 intro n s σ H Q I h;rw[eval_ListComp];show G4 U F (I.clos L) L.kind L.names (bw (y n s σ H _ I h) λv s1 A=>bw A ?_);ext u1 s2 ⟨it,a,tn,u3,u0,rfl,t,T,p,u2,W⟩;show jY L B k P G (N _ _ _).nox t T p u2 W ?_;intro D C K ys H' m V M R S z w d E q;show{m,V,λh' r=>{.ref D,0,E.turned (t':=K.toks) (λb o u e=>r.extBut b o u e) w M (.inr S) R z,1,q D d}}
def ps_lc{n j f:Ϲ}{l:List Ϲ}{pos t A:Pos}{z:TI}{g:TG}{tt:TT}{te:TE}{i:Nat}{y:Str}(hN:X.N.Nodup)(R:X.N[i]?=Z y)(B:X.env.scope.names.lookup y=Z .local)(hi:PI X j f z)(L:dF X.N X.env.scope scope own ix)(hc:X.calm=O)
  (hg:∀c s H,PG (X.comp (iU X.N own ix) scope c s H) j g) (u0:GW own.length g) (ht:∀c s H,Jg (X.comp (iU X.N own ix) scope c s H) l tt) (he:∀c s H,PE (X.comp (iU X.N own ix) scope c s H) n te)
  (N:autoParam (swapsWith (.ListComp n [{j,f,l,(0)}] scope pos) (Z (.Name y A)) t.line X.env=pure O) yR._auto_1)
  (k:autoParam (∀x,foldedSetIterable f X.env x=pure x) yI._auto_1):PS X (.Assign [.Name y A] (.ListComp n [{j,f,l,(0)}] scope pos) t) (JU (MQ z own.length ix g tt te) (ez i)):=by
 intro F s σ H Dn I h;rw[exec_Assign_Name_used _ _ _ _ N];show ζ (Q9 (ζ ?_));show ζ (bw (G4 U k (I.clos L) L.kind L.names
  (bw (hi F s σ H _ I h) λv s1 h1=>bw h1 λb3 E h2=>?_)) λ_ V hq=>Η (Η hq))
 ext(⟨it,c,tn,u2,H2,e,p,T,M,W,hw⟩:h2);subst e;show jY L hc hg u0 ht (he _ _ _).nox p T M W hw ?_;intro D C V ys H' m Q u w c3 P u1 d S q;show wpAny_assign_Name (qA S hN R (.inl B) (v:=.ref D) U (λE p ⟨a,G,r⟩=>?_) (.inr B));let aC:a≠C:=by
  rcases r with rfl|r
  .show ϝ u
  .show w y a r
 show{m,Q.sameBut G (ϝ aC),λh' K=>{00,p.turned (t':=E.toks) (λb o hb e=>K.extBut b o hb e) u1 u (.inr c3) w P,q D d}}
end
section
variable{k:Nat}{ix:List Nat}{g:TG}{tt:TT}{te:TE}{σ:St}{H1:Hp}{Q:List V->Hp->Prop}
def gf(k:Nat)(ix:List Nat)(g:TG)(tt:TT)(te:TE)(σ:St)(x:V)(ys:List V)(H:Hp)(N:List V->Hp->Prop):Prop:=
 g x (gv k ix σ) H λa d=>tt a d λc b=>if c=O then te a b λy e=>ys.length<Λ/\N (ys++[y]) e else N ys b
def rg(a:Nat->List V->Hp->Prop)(h:a 0 [] H1)(d:∀i ys H,i<n->a i ys H->r.go i H)(c:∀ys H,a n ys H->r.stop n H)
  (j:∀i ys H x H',i<n->a i ys H->r.yld i H x H'->gf k ix g tt te σ x ys H' (a (i+1))) (f:∀ys H,a n ys H->Q ys H):FG r k ix g tt te σ H1 Q:=by
 show{λi m ys H=>m=n-i/\i<=n/\a i ys H,{n,3,ϋ _,h},2};ext i m ys H ⟨rfl,o,p⟩;by_cases b:i<n
 .show .inr {d i ys H b p,a (i+1),λl H' q=>{n-(i+1),31,b,q},λx H' y=>j i ys H x H' b p y}
 .let e:i=n:=();subst e;show .inl {c ys H p,f ys H p}
def vd{lo:Int}{n:Nat}(a:Nat->List V->Hp->Prop)(c:a 0 [] H1)(d:∀i ys H,i<n->a i ys H->gf k ix g tt te σ (.int (lo+i)) ys H (a (i+1)))
  (b:∀ys H,a n ys H->Q ys H):FG (JT lo n) k ix g tt te σ H1 Q:=
 rg a c (λi _ _ h _=>h) (λ_ _ _=>Α _) (λi ys H x H' h p y=>by ext(⟨e,y⟩:y);subst e y;show d i ys _ h p) b
def fK{K:η}{a:υ}{xs:List V}(b:Nat->List V->Hp->Prop)(f:b 0 [] H1)(c:∀i ys H,i<=xs.length->b i ys H->aD K H a xs)
  (j:∀i ys H x,xs[i]?=Z x->b i ys H->gf k ix g tt te σ x ys H (b (i+1))) (d:∀ys H,b xs.length ys H->Q ys H):FG (Jo K a) k ix g tt te σ H1 Q:=
 rg b f (λi ys H h p=>{xs,xs[i],c i ys H (C9 h) p,by simp[h]}) (λys H p=>{xs,c _ ys H (Α _) p,Α _}) (λi ys H x H' h p y=>by ext(⟨e,y⟩:y);subst e;show j i ys _ x (y xs (c i ys _ (C9 h) p)) p) d
def ku{K:η}{a:υ}{xs:List V}(b:Nat->List V->Hp->Prop)(f:b 0 [] H1)(c:∀i ys H,i<=xs.length->b i ys H->aw K H a xs)
  (j:∀i ys H x,xs[i]?=Z x->b i ys H->gf k ix g tt te σ x ys H (b (i+1))) (d:∀ys H,b xs.length ys H->Q ys H):FG (Mh K a) k ix g tt te σ H1 Q:=
 rg b f (λi ys H h p=>{xs,xs[i],c i ys H (C9 h) p,by simp[h]}) (λys H p=>{xs,c _ ys H (Α _) p,Α _}) (λi ys H x H' h p y=>by ext(⟨e,y⟩:y);subst e;show j i ys _ x (y xs (c i ys _ (C9 h) p)) p) d
end
def Ma(f:Nat->V)(n:Nat):It:={λi _=>i<n,λi H x H'=>H'=H/\x=f i,λi _=>i=n}
def oZ{P:Ι}{w:ώ}{K:η}{tg:Ϲ}{it:υ}{n:Nat}{M:Nat->ν->Prop}{l:Nat->ϙ->Prop}{f:Nat->V}
  (W:∀A:Ϛ,A.handled=Β->Walks P w A it [it] [it] n M l) (L:∀i h,l i h->∃o m vs,h.get? it=Z o/\o.cls=.type m/\o.data=.fields vs/\["enumerate","zip","dict_itemiterator","dict_reverseitemiterator","odict_iterator","itertools.zip_longest","itertools.pairwise"].contains m=J)
  (u1:∀i v,M i v->aU (f i) v) (N:∀(A:Ϛ)(i:Nat)(s:ψ)(Q:ν->ψ->Prop)(E:ν->ψ->Prop),l i s.heap->Q (.ref it) s->ύ (ϓ P w) A (pyIter (.ref it)) Q E s):tX P w K tg (Ma f n) [it] it l where
 mem:=()
 obj:=λi h st b a=>by
  let e:b=it:=↑a
  subst e;ext(⟨o,m,vs,e,_,d,_⟩:L i h st);show{o,e,λv z=>by rw[d]at z;cases z}
 keep:=λi h h' st k=>by
  by_cases g:∃A:Ϛ,A.handled=Β
  .ext(⟨A,g⟩:g);show(W A g).frame i h h' st k
  .show absurd {callerA,1} g
 item:=by intro X C F u t i G s σ H E I j st B;subst C F u;ext(⟨q,D,T,r,y,x⟩:j it ());show(W X.A (I.ok.hd t)).item i s _ _ B st λv h' tk S u2 p=>?_;let R:ax X G σ H {s with heap:=h',toks:=tk}:=I.turned (λb o a e=>p b o (↑a) e) q D r y x;ext(⟨o,m,vs,e,c,d,u0⟩:L _ _ u2);show{v,1,uN e c d u0 {f i,H,R,u1 i v S,{11},u2,λb a=>(j b a).1}}
 done:=by intro X C F u t i G s σ H E I j st B;subst C F u;ext(⟨q,D,T,r,y,x⟩:j it ());let e:=B;subst e;show(W X.A (I.ok.hd t)).done s _ _ st λh' tk p=>{1,I.turned (λb o a e=>p b o (↑a) e) q D r y x}
 self:=N
section
variable{X:Cx}{tg:Ϲ}
def ax.fp1(I:ax X pins σ H s):∀b∈[s.heap.objs.size],kl X pins H b:=λb a=>by
 let e:b=s.heap.objs.size:=↑a
 subst e;show I.fpOk (Α _) (I.hok.fresh (Α _))
def AC(x:Str)(i:Nat):V:=.str {#[x.cps.getD i 0]}
inductive Kc  (R:It->Hp->Prop) (x:V) (H1:Hp):Prop|mk z (_:x=.str z) (_:R (Ma (AC z) z.cps.size) H1)
def Qi(ts:TE):TI:=λσ H R=>ts σ H (Kc R)
def pi_str{e:Ϲ}{ts:TE}(B:PE X e ts):PI X tg e (Qi ts):=by
 intro r s σ H R I h;show bw (B r s σ H _ I h) λv f ⟨x,p,g,y,⟨z,e,q⟩⟩=>?_;subst e;ext(⟨t,rfl⟩:y);let m:∀i v,SignAt z i v->aU (AC z i) v:=λi v ⟨c,u,w,C⟩=>by
  subst C;show{u,2};let e:z.cps.getD i 0=c:=by rw[D_,w];rfl
  rw[e]
 cases n:z.cps.all (· < 128)with
 |false=>
  show wpAny_pyIter_wide n ?_;show{f.heap.objs.size,[f.heap.objs.size],00,p,1,g.kept (t':=f.toks) λb o e=>ω _ e,oZ (λA k=>Walks.strWide k _ z t) (λi h ⟨o,e,c,d⟩=>{o,"str_iterator",0,e,c,d,3}) m (λA i s Q E st l=>wpAny_pyIter_striter_wide st l),{0,Ψ _ U,11},λb j=>g.fp1 b j,q}
 |true=>
  show wpAny_pyIter_ascii n ?_;show{f.heap.objs.size,[f.heap.objs.size],00,p,1,g.kept (t':=f.toks) λb o e=>ω _ e,oZ (λA k=>Walks.strAscii k _ z t) (λi h ⟨o,e,c,d⟩=>{o,"str_ascii_iterator",0,e,c,d,3}) m (λA i s Q E st l=>wpAny_pyIter_striter_ascii st l),{0,Ψ _ U,11},λb j=>g.fp1 b j,q}
def KV.at{kvs:List (en×V)}{vs:List (en×ν)}(r:KV kvs vs){i:Nat}{k:en}{v:ν}(e:vs[i]?=Z (k,v)):∃x,kvs[i]?=Z (k,x)/\aU x v:=by
 induction r generalizing i with
 |nil=>simp at e
 | @cons p q ps l h t b=>
  cases i with
  |zero=>
   let f:q=(k,v):=↑e
   ext(⟨j,g⟩:p);subst f;ext(⟨d,c⟩:h);let a:j=k:=d;subst a;show{g,1,c}
  |succ i=>show b (↑e)
def Mj(h:(bj P w).is k u=O):aU (kV k) u:=by
 rcases bH h with ⟨i,t,rfl,rfl⟩|⟨x,t,rfl,rfl⟩
 .show{t,1}
 .show{t,1}
def OI(K:η)(a:υ):It:=
 {λi H=>∃xs x,aD K H a xs/\xs[i]?=Z x,λi H x H'=>∃p y,H p=Β/\H'=upd H p (.tup [.int i,y])/\x=.ref p/\∀xs,aD K H a xs->xs[i]?=Z y,λi H=>∃xs,aD K H a xs/\xs.length<=i}
def BU{P:Ι}{w:ώ}{K:η}{a9:List Ϲ}{x1}{tp:Pos}(a e it:υ)(a2:e≠it):tX P w K (.Tuple a9 x1 tp) (OI K a) [e,it] e (λi h=>(∃t,IsEnum h e it i t)/\h.IsListIter it a i) where
 mem:=()
 obj:=λi h st b f=>by
  ext(⟨⟨t,j⟩,⟨o,e2,c,d⟩⟩:st);rcases ξ.mp f with rfl|f
  .show{_,j,λv z=>by let z':TJ _=Tf v:=z;cases z'}
  .let B:b=it:=↑f
   subst B;show{o,e2,λv z=>by rw[d]at z;cases z}
 keep:=λi h h' st k=>{let ⟨t,j⟩:=st.1;{t,k e () _ j},st.2.at λo q=>k it () o q}
 item:=by
  intro X u0 T V hc i a0 s σ H E I C st u1;subst u0 T V;ext(⟨xs,x,u4,W⟩:u1);ext(⟨its,N,p,hz⟩:I.list u4);ext(⟨u,hu,ru⟩:N.get W);ext(⟨f0,f1,f2,f3,f4,f5⟩:C e ());ext(⟨u2,G,g2,u3,R,M⟩:C it ());ext(⟨⟨t,j⟩,D⟩:st);let he:=Ξ j;let b2:it<s.heap.objs.size:=by ext(⟨o,q,_⟩:D);show Ξ q
  show wpAny_pyNext_enum_item j D p.isList (↑hu) a2 λh1 b6 a8 b5 d5 b3=>{01,wpAny_letOwnedTupleGo_enum b6 λh2 b0 L=>?_};let y:=I.hok.fresh (Α _);let keep:=λb o a3 b4 q=>(L.2 b a3).trans (b3 b o a3 b4 q);let a1:=(L.2 _ (Pe he)).trans b5;let I2:ax X a0 σ (upd H s.heap.objs.size (.tup [.int i,x])) {s with heap:=h2,toks:=s.toks+1}:=by
   let F:∀b v,H b=Z v->b≠e/\b≠it:=λb v q=>{(λz=>by rw[z,f0]at q;cases q),(λz=>by rw[z,u2]at q;cases q)};show I.step (g':=s.gens) (d':=s.drawn) (ch:=[e,it]) (λb f=>?_) (λb o _ _ g q _=>keep b o (λz=>g (by simp[z])) (λz=>g (by simp[z])) q) (λb o _ _ g q _=>{o.slots,keep b o (λz=>g (by simp[z])) (λz=>g (by simp[z])) q})
    (λb o _ q n=>by rw[ai (Cc (Ξ q))];show n) (λb o g q=>{o,keep b o (λz=>g (by simp[z])) (λz=>g (by simp[z])) q})
    (λb xs q=>by rw[ai (ah q y)];show q) (λb o v q=>by rw[ai (ah q y)];show q) (λb ps q=>{#[],by rw[ai (ah q y),q];simp}) (λm hm=>?_) (λb v q=>?_) I.bare
   .rcases ξ.mp f with rfl|f
    .show{f3,f1,f4,f5}
    .let B:b=it:=↑f
     subst B;show{u3,G,R,M}
   .ext(⟨o,es,ep,ho,r⟩:hm);show{o,es,ep,keep _ o (ϝ f1) (ϝ G) ho,r}
   .by_cases f:b=s.heap.objs.size
    .subst f;rw[aa]at q;cases q;show{(show 2<=Λ by rw[ι];decide),[.int i s.toks,u],.cons {01} (.cons ru .nil),{0,a1,1,(0),1},0,a1,1}
    .rw[ai f]at q;show(I.hok b v q).stay (λc w' g l=>?_) (λc l=>by rw[ai (ah l y)];show l) λc xs l=>by rw[ai (ah l y)];show l
     rcases g with z|z
     .subst z;show keep c w' (F c v q).1 (F c v q).2 l
     .show keep c w' (F c _ z).1 (F c _ z).2 l
  show{.ref s.heap.objs.size,0,I2,1,{0,x,y,11,λys hy=>by rw[I.list_inj hy u4];show W},{{u,2},2},λb f=>?_}
  .let e1:((i+1:Nat):Int)=(i:Int)+1:=();rw[e1];show b0
  .show a8.at λo q=>(L.2 _ (ϝ a2)).trans q
  .let b1:b<s.heap.objs.size:=by
    rcases ξ.mp f with rfl|f
    .show he
    .let B:b=it:=↑f
     subst B;show b2
   rw[ai (Cc b1)];show(C b f).1
 done:=by intro X u0 T V hc i a0 s σ H E I C st u1;subst u0 T V;ext(⟨xs,u4,W⟩:u1);ext(⟨its,N,p,hz⟩:I.list u4);ext(⟨u2,G,g2,u3,R,M⟩:C it ());ext(⟨⟨t,j⟩,D⟩:st);let hl:=N.length;show wpAny_pyNext_enum_end (I.ok.hd hc) j D p.isList (by simp;omega) λh' eb=>{1,I.turned (t':=s.toks) (λb o f q=>eb b o f q) u2 G u3 R M}
 self:=λA i s Q E st h=>by ext(⟨⟨t,j⟩,D⟩:st);let S:s.TypeIs (.ref e) "enumerate":={0,j,1};show wpAny_pyIter_slot S Sl (u_ Sl S PySem.F.entry_enumerate_iter ?_ (PySem.F.args_enumerate_iter_1 _));show Η {01,"enumerate",0,S,PySem.F.slot_enumerate_next.lookup,h}
inductive HP (K:η) (R:It->Hp->Prop) (vs:List V) (H1:Hp):Prop|mk a (_:vs=[.ref a]) (_:(∃xs,aD K H1 a xs)) (_:R (OI K a) H1)
def MB(K:η)(a:TA):TI:=λσ H R=>a σ H (HP K R)
def pi_enum{a:Ϲ}{o:TA}{p pos:Pos}{g:List Ϲ}{x1}{m:Pos}(F:Gl X "enumerate")(K:X.mg "enumerate"=Β)(x:PA X [a] o)(B:autoParam (ϗ [a] X.env=[(J,eval a X.env)]) yR._auto_1):PI X (.Tuple g x1 m) (.Call (.Name "enumerate" p) [a] [] pos) (MB X.K o):=by
 intro t s σ H R I h;show Call_ (iu I F K (u:=.type "enumerate") () (A2 (bw (x pos t s σ H _ I h) λus c ⟨vs,D,d,A,w⟩=>?_) B U));ext(⟨l,e,⟨xs,G⟩,q⟩:w);subst e;cases A with
 |cons r C=>
  cases C;cases r;ext(⟨its,L,p,hz⟩:d.list G);show call_enumerate_list p.isList λh' n k hsz z=>?_;let T:tX X.prog X.w X.K (.Tuple g x1 m) (OI X.K l) [c.heap.objs.size+1,c.heap.objs.size] (c.heap.objs.size+1) (λi h=>(∃v,IsEnum h (c.heap.objs.size+1) c.heap.objs.size i v)/\h.IsListIter c.heap.objs.size l i):=BU l _ _ (NY _);show T.self X.A 0 {c with heap:=h'} _ _ {{0,n},k} ?_;show{c.heap.objs.size+1,000,D,1,(d.kept (t':=c.toks) z),T,{{0,n},k},λb f=>?_,q};let j:c.heap.objs.size<=b:=by
   rcases ξ.mp f with rfl|f
   .show F7 _
   .let E:b=c.heap.objs.size:=↑f
    subst E;show Α _
  ext(⟨y,M⟩:d.fpOk j (d.hok.fresh j));show{y,M}
end
section
variable{X:Cx}
def gg:fE X (j8 .LtE) (λx y H Q=>∃i j,x=.str i/\y=.str j/\Q (.bl (!decide (j.cps.toList<i.cps.toList))) H):=by ext c s σ H x y v u Q I b a ⟨i,j,rfl,rfl,q⟩;ext(⟨t,rfl⟩:b);ext(⟨t',rfl⟩:a);show PySem.P.le_str (bc I q U)
def wH:fE X (G8 .Mult) (λx y H Q=>∃i n,x=.str i/\y=.int n/\i.length<=1000/\0<=n/\n<=1000/\Q (.str (Txt.mul i n)) H):=by ext d s σ H x y v u Q I c b ⟨i,n,rfl,rfl,a,e,f,q⟩;ext(⟨t,rfl⟩:c);ext(⟨t',rfl⟩:b);show SB.mul (PyProof.Rows.mulOk_of 1000 1000 a () () () ()) λt' k=>{.str _,H,I.tok _,{01},q}
def sZ{s:ψ}{h':ϙ}{o:Obj}(a:∀b x,b∉[s.heap.objs.size]->(s.heap.push o).get? b=Z x->h'.get? b=Z x)(b:υ)(x:Obj)(e:s.heap.get? b=Z x):h'.get? b=Z x:=
 a b x (λz=>by rw[ο.mp z]at e;show G0 _ (Ξ e)) (ω _ e)
def uY:∀{bs:List Bool}{us:List ν},aI (bs.map V.bl) us->∀(i:Nat)(v:ν),us[i]?=Z v->∃b,bs[i]?=Z b/\v=.bool b
 |[],_,.nil,i,v,e=>by simp at e
 |b::bs,u::us,.cons r t,0,v,e=>by
  let a:u=v:=↑e
  subst a;show{b,1,r}
 |b::bs,u::us,.cons r t,i+1,v,e=>uY t i v (↑e)
def gn(m:X.calm=O):eQ X (.builtin "all") (λxs H Q=>∃(a:υ) (bs:List Bool),xs=[.ref a]/\aD X.K H a (bs.map V.bl)/\Q (.bl (bs.all id)) H):=by
 ext x s σ H xs us Q I r ⟨a,bs,rfl,o,q⟩;ext(⟨u,rfl,n⟩:fj r);cases n;ext(⟨its,g,p,hz⟩:I.list o);let d:=p.isList;let k:a<s.heap.objs.size:=by ext(⟨_,e,_⟩:d);show Ξ e
 show call_all_walk (S1 d ?_);show{s.heap.objs.size,[s.heap.objs.size,a],[s.heap.objs.size],its.toArray.size,00,λi=>(bs[i]?).getD O,1,Walks.list (A:=X.A.in1) (I.ok.hd m) _ a (ϩ k) its.toArray,{{0,Ψ _ U,11},d.push _},λi v B C y w h=>?_,λh' tk t=>?_}
 .obtain⟨b,e,rfl⟩:=uY g i v (↑w);simp only[e,Option.getD_some]at h;show p_ h
 .let j:=g.length
  let e:((ϳ its.toArray.size).all λi=>(bs[i]?).getD O)=bs.all id:=by
   rw[Ο,<-j,ε,C5,Ϸ,Ϸ];constructor
   .intro z b l;ext(⟨i,c,rfl⟩:Sh l);let:=z i (G7.mpr c);simpa[c]using this
   .intro z i c;let f:=G7.mp c;rw[Ζ f];show z _ (l_ f)
  rw[e];show{.bl _,H,I.kept (sZ t),1,q}
def cg:eQ X (.builtin "isinstance") (λxs H Q=>∃x t n b,xs=[x,.ty n]/\gX X.K H x t/\K9 X.K t (.type n)=Z b/\Q (.bl b) H):=by ext f s σ H xs us Q I r ⟨x,t,n,b,rfl,c,e,q⟩;ext(⟨u,g,rfl,d,a⟩:vi r);cases a;show BL I d c e λtk=>{.bl b,H,I.tok tk,1,q}
def mI:∀{ys:List Str}{us:List ν},aI (ys.map V.str) us->StrsAre us ys
 |[],_,.nil=>.nil
 |y::ys,u::us,.cons r t=>by ext(⟨k,rfl⟩:r);show .cons y k (mI t)
def dH:FH X "str.join" (λx xs H Q=>∃(z:Str) (a:υ) (ys:List Str),x=.str z/\xs=[.ref a]/\aD X.K H a (ys.map V.str)/\(ys.map (·.length)).sum+ys.length*z.length<=16777216/\Q (.str (Txt.join z ys)) H):=by ext f s σ H x xs v us Q I e r ⟨z,a,ys,rfl,rfl,d,hz,q⟩;ext(⟨t,rfl⟩:e);ext(⟨u,rfl,c⟩:fj r);cases c;ext(⟨its,b,p,_⟩:I.list d);show join_list p.isList (↑(mI b)) hz λt' k=>{.str _,H,I.tok _,{01},q}
def gy:Nt X (λx lo hi H Q=>∃z,x=.str z/\z.length<=Λ/\Q (.str (Txt.slice z lo hi)) H):=by
 ext pins s σ H x v vl vu lo hi sl Q I rx hs pl pu ⟨z,rfl,hz,q⟩;ext(⟨t,rfl⟩:rx);show{"str",0,slot_str_getitem.lookup,O4 _ _ _,2};let fin:(Txt.slice z lo hi).length<=Λ/\∀t' k,EP X pins σ Q (.str (Txt.slice z lo hi) t') {s with toks:=k}:={Ϫ (Txt.slice_le z _ _) hz,λt' k=>{.str _,H,I.tok _,{01},q}};cases pl with
 |none=>
  cases pu with
  |none=>show G9 (l:=Β) (u:=Β) (st:=Β) hs U (R_ fin)
  |int j uj=>show G9 (l:=Β) (u:=Z (j,uj)) (st:=Β) hs U (R_ fin)
 |int i ui=>
  cases pu with
  |none=>show G9 (l:=Z (i,ui)) (u:=Β) (st:=Β) hs U (R_ fin)
  |int j uj=>show G9 (l:=Z (i,ui)) (u:=Z (j,uj)) (st:=Β) hs U (R_ fin)
end
open PySem PySem.Spec PyProof.Rows PySem.W
section
variable{cmp:Nat->Nat->(Bool->ψ->Prop)->ψ->Prop}{lt:Nat->Nat->Bool}{n:Nat}{s:ψ}
structure GB(cmp:Nat->Nat->(Bool->ψ->Prop)->ψ->Prop)(lt:Nat->Nat->Bool)(n:Nat)(s:ψ):Prop where
 ask:∀i j C,i<n->j<n->i≠j->C (lt i j) s->cmp i j C s
 tr:∀i j k,lt i j=O->lt j k=O->lt i k=O
 tot:∀i j,i<n->j<n->i≠j->lt i j=J->lt j i=O
 asym:∀i j,lt i j=O->lt j i=J
structure Re(n:Nat)(p:Array Nat):Prop where
 size:p.size=n
 lt:∀i,i<n->p.getD i 0<n
 inj:∀i j,i<n->j<n->i≠j->p.getD i 0≠p.getD j 0
 perm:p.Perm (List.toArray (ϳ n))
def Re.of_perm(h:p.Perm (List.toArray (ϳ n))):Re n p:=by
 let c:p.size=n:=by let:=h.size_eq;simpa using this
 let d:p.toList.Perm (ϳ n):=↑(L_.mp h)
 let b:∀i,(a:i<n)->p.getD i 0=p.toList[i]'(by simpa[c]using a):=λi a=>by simp[Array.getD,c,a]
 show{c,λi a=>?_,λi j a g f e=>?_,h}
 .let k:p.getD i 0∈p.toList:=by rw[b i a];show l_ _
  show G7.mp ((List.Perm.mem_iff d).mp k)
 .rw[b i a,b j g]at e;show f ((Q3 ((List.Perm.nodup_iff d).mpr List.nodup_range)).mp e)
def Up(lt:Nat->Nat->Bool)(p:Array Nat)(m:Nat):Prop:=∀i j,i<j->j<m->lt (p.getD i 0) (p.getD j 0)=O
def Dn(lt:Nat->Nat->Bool)(p:Array Nat)(m:Nat):Prop:=∀i j,i<j->j<m->lt (p.getD j 0) (p.getD i 0)=O
def Up.next(g:GB cmp lt n s)(h:Up lt p m)(f:1<=m)(a:lt (p.getD (m-1) 0) (p.getD m 0)=O):Up lt p (m+1):=λi j b d=>by
 by_cases e:j=m
 .subst e;by_cases c:i=j-1
  .subst c;show a
  .show g.tr _ _ _ (h i (j-1) () ()) a
 .show h i j b ()
def Dn.next(g:GB cmp lt n s)(h:Dn lt p m)(f:1<=m)(a:lt (p.getD m 0) (p.getD (m-1) 0)=O):Dn lt p (m+1):=λi j b d=>by
 by_cases e:j=m
 .subst e;by_cases c:i=j-1
  .subst c;show a
  .show g.tr _ _ _ a (h i (j-1) () ())
 .show h i j b ()
def xI(i:GB cmp lt n s)(r:Re n p):∀(f m:Nat),1<=m->m+f<=n->Up lt p m->(∀e,m<=e->e<=m+f->Up lt p e->(e=m+f\/lt (p.getD e 0) (p.getD (e-1) 0)=O)->Q e s)->(kas_asc p f m).kasWp cmp Q s
 |0,m,g,h,u,q=>q m (Α _) (Α _) u (.inl U)
 |f+1,m,g,h,u,q=>by
  show i.ask _ _ _ (r.lt m ()) (r.lt (m-1) ()) (r.inj _ _ () () ()) ?_;cases c:lt (p.getD m 0) (p.getD (m-1) 0)with
  |true=>show q m (Α _) () u (.inr c)
  |false=>
   show xI i r f (m+1) () () (u.next i g (i.tot _ _ (r.lt m ()) (r.lt (m-1) ()) (r.inj _ _ () () ()) c)) λe a b c d=>q e () () c ?_;rcases d with d|d
   .show .inl ()
   .show .inr d
def Aa(h:GB cmp lt n s)(r:Re n p):∀(f m:Nat),1<=m->m+f<=n->Dn lt p m->(∀d,m<=d->d<=m+f->Dn lt p d->Q (p,d,0) s)->(kas_desc f p m 0).kasWp cmp Q s
 |0,m,e,g,u,q=>q m (Α _) (Α _) u
 |f+1,m,e,g,u,q=>by
  show h.ask _ _ _ (r.lt m ()) (r.lt (m-1) ()) (r.inj _ _ () () ()) ?_;cases c:lt (p.getD m 0) (p.getD (m-1) 0)with
  |true=>show Aa h r f (m+1) () () (u.next h e c) λd a b c=>q d () () c
  |false=>show h.ask _ _ _ (r.lt (m-1) ()) (r.lt m ()) (r.inj _ _ () () ()) ?_;rw[h.tot _ _ (r.lt m ()) (r.lt (m-1) ()) (r.inj _ _ () () ()) c];show q m (Α _) () u
def zD(d:m<=p.size):(kas_rev p 0 m).getD k 0=if k<m then p.getD (m-1-k) 0 else p.getD k 0:=by
 let b:∀(a:Array Nat)(i:Nat),a.getD i 0=(a[i]?).getD 0:=λa i=>by rw[D_]
 rw[b];unfold kas_rev;rw[(getElem?_mirror_all (i:=0) d k)];by_cases c:k<m
 .rw[Z5 c];simp only[b];rw[Z5 ()];congr 2;omega
 .rw[Z6 c];simp only[b];rw[Z6 ()]
def Fy(r:Re n p):Re n (kas_rev p 0 m):=Re.of_perm ((mirror_perm p 0 m _).trans r.perm)
def DJ(D:GB cmp lt n s)(r:Re n p)(g:2<=n)(q:∀m f,Re n f->1<=m->m<=n->Up lt f m->Q (m,f) s):(kas_count n p).kasWp cmp Q s:=by
 unfold kas_count;rw[N9];show xI D r (n-1) 1 (Α _) () (λi j d g=>by omega) λm a b u e=>?_;by_cases h:(m==n)=O
 .rw[Z5 h];show q m p r a () u
 .rw[Z6 h];by_cases d:m>1
  .rw[Z5 d];show D.ask _ _ _ (r.lt 0 ()) (r.lt (m-1) ()) (r.inj _ _ () () ()) ?_;rw[u 0 (m-1) () ()];show q m p r a () u
  .rw[Z6 d]
   let t:m=1:=();subst t;let l:lt (p.getD 1 0) (p.getD 0 0)=O:=by
    rcases e with e|e
    .omega
    .show e
   unfold kas_descPart;rw[N9];show Aa D r (n-(1+1)) (1+1) () () (λi j d g=>?_) λc y B w=>?_
   .let:i=0:=();let:j=1:=()
    subst_vars
    show l
   .change(if (0:Nat)>0 then _ else kas_tail3 c n p).kasWp cmp Q s;rw[Z6 ()];unfold kas_tail3;rw[N9];let v:Up lt (kas_rev p 0 c) c:=λi j x C=>by rw[zD (by rw[r.size];omega),zD (by rw[r.size];omega),Z5 (),Z5 ()];show w _ _ () ()
    show xI D (Fy r) (n-c) c () () v λo A z k _=>q o _ (Fy r) () () k
def oV(x:GB cmp lt n s)(r:Re n p)(d:k<n)(u:Up lt p k)(q:∀l,l<=k->(∀i,i<l->lt (p.getD i 0) (p.getD k 0)=O)->(∀i,l<=i->i<k->lt (p.getD k 0) (p.getD i 0)=O)->Q l s):
  ∀(f l e:Nat),l<=e->e<=k->e-l<=f->(∀i,i<l->lt (p.getD i 0) (p.getD k 0)=O)->(∀i,e<=i->i<k->lt (p.getD k 0) (p.getD i 0)=O)->(kas_place p k f l e).kasWp cmp Q s
 |0,l,e,w,t,v,a,b=>q l () a λi j g=>b i () g
 |f+1,l,e,w,t,v,a,b=>by
  change(if l>=e then KasT.ret l else _).kasWp cmp Q s;by_cases h:l>=e
  .rw[Z5 h];show q l () a λi j g=>b i () g
  .rw[Z6 h];show x.ask _ _ _ (r.lt k d) (r.lt _ ()) (r.inj _ _ d () ()) ?_;cases c:lt (p.getD k 0) (p.getD ((l+e)/2) 0)with
   |true=>
    show oV x r d u q f l _ () () () a λi j g=>?_;by_cases m:i=(l+e)/2
    .subst m;show c
    .show x.tr _ _ _ c (u _ i () g)
   |false=>
    let o:=x.tot _ _ (r.lt k d) (r.lt _ ()) (r.inj _ _ d () ()) c;show oV x r d u q f _ e () t () (λi j=>?_) b;by_cases m:i=(l+e)/2
    .subst m;show o
    .show x.tr _ _ _ (u i _ () ()) o
def yx(f:k<p.size)(e:d<=k):(bubble p k d).getD j 0=if j<k-d\/k<j then p.getD j 0 else if j=k-d then p.getD k 0 else p.getD (j-1) 0:=by
 let c:∀(a:Array Nat)(i:Nat),a.getD i 0=(a[i]?).getD 0:=λa i=>by rw[D_]
 rw[c,(getElem?_bubble f d e j)];by_cases a:j=k-d
 .rw[Z5 a,Z6 (),Z5 a,c]
 .rw[Z6 a];by_cases b:k-d<j/\j<=k
  .rw[Z5 b,Z6 (),Z6 a,c]
  .rw[Z6 b,Z5 (),c]
def EJ(z:GB cmp lt n s)(q:∀p,Re n p->Up lt p n->Q p s):∀(f k:Nat)(p:Array Nat),Re n p->1<=k->k+f=n->Up lt p k->(kas_bin f p k).kasWp cmp Q s
 |0,k,p,r,h,m,u=>q p r (by rw[<-m];show u)
 |f+1,k,p,r,h,m,u=>by
  change((kas_place p k k 0 k).bind λl=>kas_bin f (bubble p k (k-l)) (k+1)).kasWp cmp Q s;rw[N9];show oV z r () u (λl x a b=>?_) k 0 k (ϋ _) (Α _) () (λi c=>by omega) (λi h w=>by omega);let d:k<p.size:=by rw[r.size];omega
  show EJ z q f (k+1) _ (Re.of_perm ((bubble_perm p k _).trans r.perm)) () () λi j t y=>?_;rw[yx d (),yx d ()];let v:k-(k-l)=l:=();rw[v];by_cases c:i<l
  .rw[Z5 (.inl c)];by_cases o:j<l
   .rw[Z5 (.inl o)];show u i j t ()
   .rw[Z6 ()];by_cases e:j=l
    .rw[Z5 e];show a i c
    .rw[Z6 e];show u i (j-1) () ()
  .rw[Z6 ()];by_cases g:i=l
   .rw[Z5 g,Z6 (),Z6 ()];show b (j-1) () ()
   .rw[Z6 g,Z6 (),Z6 ()];show u (i-1) (j-1) () ()
def GV(e:GB cmp lt n s)(b:2<=n)(q:∀p,Re n p->Up lt p n->Q p s):(kas_sort n).kasWp cmp Q s:=by
 unfold kas_sort;rw[N9];show DJ e (Re.of_perm (Array.Perm.refl _)) b λm p r a d u=>?_;let c:max m 1=m:=();rw[c];by_cases h:m<n
 .rw[Z5 h];show EJ e q (n-m) m p r a () u
 .rw[Z6 h];let:m=n:=();subst this;show q p r u
end
def pP{prog:Ι}{w:ώ}{A:Ϛ}{E:ν->ψ->Prop}{st:ψ}{l:υ}{us:List ν}{ep:Nat}{R:PySem.Fin->ψ->Prop}(a:st.heap.get? l=Z (seqObj "list" us.toArray ep))(i:us.length<2)
  (n:∀f p,(∀b o,b≠l->st.heap.get? b=Z o->f.get? b=Z o)->f.get? l=Z (seqObj "list" us.toArray p)->R (.done (.ret .none)) {st with heap:=f}):
  ύ (ϓ prog w) A (E_.«list.sort» {[.ref l],[]}) R E st:=by
 let c:us.toArray.size=us.length:=();let h:=Ξ a;let g:us.length<=Λ:=by rw[ι];omega
 rw[list_sort_plain];show ζ (listItems_at a U (ζ (listUpdate_at a U ?_ (by rw[c];show g) (ϋ _))));let k:=get?_update_seq a (λ_=>(#[]:Array ν));show ζ (seqEpoch_at k U (ζ (wpAny_newTuple ?_ (by show g))));show ζ (wpAny_newList ?_ (ϋ _));show E1 ?_;rw[Z5 (by rw[c];show i),Z5 (by rw[c];show i)];let d:(((st.heap.update l (Q6 λ_=>(#[]:Array ν))).push (seqObj "tuple" us.toArray 0)).push (seqObj "list" #[] 0)).get? l=Z (seqObj "list" #[] (if ((#[]:Array ν).size==us.toArray.size)=O then ep else ep+1)):=by rw[P5 _ _ _ (by rw[size_push',Q7];show yd h),P5 _ _ _ (by rw[Q7];show Cc h)];show k
 let j:(arrOf (SortSt.mk' general' (us.toArray.zip us.toArray) #[] 7 Β)).map (·.2)=us.toArray:=by apply TX;simp[List.map_snd_zip]
 show ζ (Η ?_);dsimp only;rw[StateT.run_pure];show ζ (Η ?_);dsimp only;show ζ (seqEpoch_at d U (ζ (listUpdate_at d U ?_ (ϋ _) (by rw[j,c];omega))));simp only[bne_self_eq_false,SI,if_false];rw[j];show Η (n _ _ (λb o m e=>?_) (get?_update_seq d (λ_=>us.toArray)));rw[ϙ.get?_update_ne _ _ _ _ m,P5 _ _ _ (by rw[size_push',Q7];show yd (Ξ e)),P5 _ _ _ (by rw[Q7];show Cc (Ξ e)),ϙ.get?_update_ne _ _ _ _ m];show e
def Kf{h:ϙ}{a:υ}{m b:Str->Option ν}(x:h.Ns a m)(y:h.Ns a b):m=b:=by ext(⟨o,l,ep,e,d,_,f⟩:x);ext(⟨k,j,i,c,d',_,g⟩:y);rw[e]at c;cases c;rw[d]at d';cases d';funext z;rw[<-f z,g z]
def Ii{a b:List Nat}(h:¬ a<b)(d:a≠b):b<a:=by
 by_cases c:b<a
 .show c
 .show absurd (List.le_antisymm (List.not_lt.mp c) (List.not_lt.mp h)) d
def HR{a b:Str}(h:a.cps.toList=b.cps.toList):a=b:=by cases a;cases b;congr 1;show TX h
section
variable{X:Cx}{pins:List (υ×Obj)}{σ:St}{H:Hp}{s:ψ}
abbrev TK:=υ×Str×List V
def GX(p q:TK):Prop:=p.2.1.cps.toList<q.2.1.cps.toList
def Hv(ps:List TK):∀(us:List ν),aI (ps.map λp=>V.ref p.1) us->us=ps.map λp=>ϐ p.1:=by
 induction ps with
 |nil=>intro us r;cases r;rfl
 |cons p ps b=>
  intro us r;rw[ϊ]at r⊢;cases r with
  |cons r t=>rw[b _ t,show _=ϐ p.1 from r]
def kQ(ps:List TK):aI (ps.map λp=>V.ref p.1) (ps.map λp=>ϐ p.1):=by
 induction ps with
 |nil=>show .nil
 |cons p ps b=>show .cons U b
def Fn(I:ax X pins σ H s)(h:H a=Z (.tup (.str x::r))):∃(o:Obj) (us:List ν) (n:Nat) (t:Tok),s.heap.get? a=Z o/\o.cls=.type "tuple"/\o.data=.seq (Ss x t::us).toArray n:=by
 ext(⟨_,its,b,⟨o,e,c,n,d⟩,_⟩:(I.hok a _ h));cases b with
 |cons f g=>ext(⟨t,rfl⟩:f);show{o,0,n,t,e,c,d}
def AI{n:Nat}{p:Array Nat}{α:Type}{d:α}{ps:List α}(f:ps.length=n)(r:Re n p):(p.toList.map λi=>ps.getD i d).Perm ps:=by
 let c:p.toList.Perm (ϳ n):=↑(L_.mp r.perm)
 show(c.map _).trans ?_;let e:(ϳ n).map (λi=>ps.getD i d)=ps:=by
  apply S5;intro i;rw[ϑ];by_cases b:i<n
  .rw[List.getElem?_range b];simp[TQ,show i<ps.length by omega]
  .rw[y7 (↑b),y7 ()];rfl
 rw[e]
def qa{n:Nat}{p:Array Nat}{α:Type}{d:α}{ps:List α}{R:α->α->Prop}{f:Nat->Nat->Bool}(m:∀i j,i<n->j<n->f i j=O->R (ps.getD i d) (ps.getD j d))(r:Re n p)(u:Up f p n):(p.toList.map λi=>ps.getD i d).Pairwise R:=by
 rw[SX];intro i j c b l;rw[ε,Θ,r.size]at c b;let e:∀k (g:k<n) h,(p.toList.map λi=>ps.getD i d)[k]'h=ps.getD (p.getD k 0) d:=λk g h=>by rw[List.getElem_map];congr 1;simp[Array.getD,r.size,g]
 rw[e i c,e j b];show m _ _ (r.lt i c) (r.lt j b) (u i j l b)
end
open PySem PySem.Spec PyProof.Rows
def Nm(N:List Str)(b a:M8)(ix:List Nat):Bool:=
 decide (a.kind=.function)&&a.names.all (λy=>decide (y.2≠.cell))&&a.names.all (λy=>decide (y.2=.local->a.names.lookup y.1=Z .local)) &&
 a.names.all (λy=>decide (y.2=.free->b.names.lookup y.1=Z .cell\/b.names.lookup y.1=Z .free)) &&
 ix.all (λj=>decide (j<N.length)&&match N[j]? with|some x=>a.names.any (λy=>decide (y.1=x)&&decide (y.2=.free))&&decide (a.names.lookup x=Z .free)|none=>J)
def dF.of(h:Nm N sc scope ix=O):dF N sc scope own ix:=by unfold Nm at h;simp only[χ,decide_eq_true_eq,Ϸ]at h;ext(⟨⟨⟨⟨q,f⟩,p⟩,m⟩,b⟩:h);show{q,f,p,m,λj a x i=>?_,λj a=>(b j a).1};let:=(b j a).2;rw[i]at this;simp only[χ,decide_eq_true_eq,n_]at this;ext(⟨⟨⟨n,k⟩,e,o,l⟩,g⟩:this);let c:n=x:=o;let d:k=.free:=l;subst c d;show{e,g}
def bK{l N:List Str}(h:l.Nodup)(e:N=l):N.Nodup:=by rw[e];show h
structure bf(P:Ι)(w:ώ)(K:η)(mg:Str->Option ν)(base:ϙ)(k:Nat)(x:Str)(ps:List Str)(sp:Sp):Prop where
 ex:∃f fd,au P w K mg base bg k f fd ps sp/\bE K fd ps []/\ϰ K (.ref f)=O/\mg x=Z (.ref f)
def bf.up{P:Ι}{w:ώ}{K:η}{a:Str->Option ν}{base:ϙ}{j k:Nat}{x:Str}{ps:List Str}{sp:Sp}(d:bf P w K a base j x ps sp)(h:j<=k):bf P w K a base k x ps sp:=
 let ⟨f,e,F,b,c,m⟩:=d.ex
 {f,e,F.mono h,b,c,m}
def pe_def{X:Cx}{k:Nat}{x:Str}{ps:List Str}{sp:Sp}{p pos:Pos}{e:Ϲ}{a:List Ϲ}{t:TA}(d:bf X.prog X.w X.K X.mg X.base k x ps sp)(j:cf k X.A)(n:Gl X x)(h:PA X (e::a) t)(g:autoParam ((x==("__debug__" : Str))=J) yD._auto_1)
  (l:autoParam (ϗ (e::a) X.env=(J,eval e X.env)::ϗ a X.env) yR._auto_1) (c:autoParam ((C_ pos (ϗ a X.env)).any (·.1)=J) yR._auto_1):PE X (.Call (.Name x p) (e::a) [] pos) (jg sp [] E0 t):=by
 ext(⟨f,o,F,b,i,m⟩:d.ex);show tL F j n m i b .nil dc h g l c
inductive Dv where
 |non|bl (b:Bool)|int (i:Int)|str (x:Str)|tup (xs:List Dv)|lst (xs:List Dv)|dct
mutual
noncomputable def aj(H:Hp):Dv->V->Prop
 |.non,v=>v=.non
 |.bl b,v=>v=.bl b
 |.int i,v=>v=.int i
 |.str x,v=>v=.str x
 |.tup ds,v=>∃a vs,v=.ref a/\H a=Z (.tup vs)/\Reps H ds vs
 |.lst ds,v=>∃a vs,v=.ref a/\H a=Z (.lst vs)/\Reps H ds vs
 |.dct,v=>∃a,v=.ref a/\H a=Z (.dK [])
noncomputable def Reps(H:Hp):List Dv->List V->Prop
 |[],vs=>vs=[]
 |d::ds,vs=>∃v r,vs=v::r/\aj H d v/\Reps H ds r
end
mutual
theorem aj.mono(s:af H H'):∀{d:Dv}{v:V},aj H d v->aj H' d v
 |.non,_,h=>by simpa only[aj]using h
 |.bl b,_,h=>by simpa only[aj]using h
 |.int i,_,h=>by simpa only[aj]using h
 |.str x,_,h=>by simpa only[aj]using h
 |.tup ds,_,h=>by simp only[aj]at h⊢;ext(⟨a,vs,e,c,f⟩:h);show{a,vs,e,s _ _ c,Reps.mono s f}
 |.lst ds,_,h=>by simp only[aj]at h⊢;ext(⟨a,vs,e,c,f⟩:h);show{a,vs,e,s _ _ c,Reps.mono s f}
 |.dct,_,h=>by simp only[aj]at h⊢;ext(⟨a,e,c⟩:h);show{a,e,s _ _ c}
theorem Reps.mono(s:af H H'):∀{ds:List Dv}{vs:List V},Reps H ds vs->Reps H' ds vs
 |[],_,h=>by simpa only[Reps]using h
 |d::ds,_,h=>by ext(⟨v,r,e,b,a⟩:h);show{v,r,e,aj.mono s b,Reps.mono s a}
end
def Reps.length:∀{ds:List Dv}{vs:List V},Reps H ds vs->vs.length=ds.length
 |[],_,h=>by simp only[Reps]at h;subst h;rfl
 |d::ds,_,h=>by ext(⟨v,r,e,b,a⟩:h);subst e;rw[Δ,Δ,Reps.length a]
def Reps.get:∀{ds:List Dv}{vs:List V},Reps H ds vs->∀{i:Nat}{v:V},vs[i]?=Z v->∃d,ds[i]?=Z d/\aj H d v
 |[],_,h,i,v,e=>by simp only[Reps]at h;subst h;simp at e
 |d::ds,_,h,i,v,e=>by
  ext(⟨b,r,g,j,f⟩:h);subst g;cases i with
  | zero => show{d, U, by let : b = v := (↑e);subst this;show j}
  |succ i=>obtain⟨d',c,a⟩:=Reps.get f (↑e);show{d',↑c,a}
def Dv.tn:Dv->String
 |.non=>"NoneType" |.bl _=>"bool" |.int _=>"int" |.str _=>"str" |.tup _=>"tuple" |.lst _=>"list" |.dct=>"dict"
def aj.ty{K:η}{H:Hp}{d:Dv}{v:V}(h:aj H d v):gX K H v (.type d.tn):=by
 cases d with
 |non=>simp only[aj]at h;subst h;show .non
 |bl b=>simp only[aj]at h;subst h;show .bl b
 |int i=>simp only[aj]at h;subst h;show .int i
 |str x=>simp only[aj]at h;subst h;show .str x
 |tup ds=>simp only[aj]at h;ext(⟨a,vs,rfl,h1,_⟩:h);show .tup h1
 |lst ds=>simp only[aj]at h;ext(⟨a,vs,rfl,h1,_⟩:h);show .lst h1
 |dct=>simp only[aj]at h;ext(⟨a,rfl,h1⟩:h);show .dK h1
def IU(d:Dv)(n:String):Bool:=d.tn==n||(d.tn=="bool" && n=="int")
def IF(K:η)(d:Dv):K9 K (.type d.tn) (.type "int")=Z (IU d "int"):=by cases d<;>kernel_rfl
def vv(K:η)(d:Dv):K9 K (.type d.tn) (.type "bool")=Z (IU d "bool"):=by cases d<;>kernel_rfl
def eU(K:η)(d:Dv):K9 K (.type d.tn) (.type "str")=Z (IU d "str"):=by cases d<;>kernel_rfl
def fb(K:η)(d:Dv):K9 K (.type d.tn) (.type "tuple")=Z (IU d "tuple"):=by cases d<;>kernel_rfl
section
variable{k:Nat}{ix:List Nat}{g:TG}{tt:TT}{te:TE}{σ:St}{H1:Hp}{Q:List V->Hp->Prop}
def oB(d:∀i ys,i<n->ys.length=i->gf k ix g tt te σ (f i) ys H1 λa H'=>a=ys++[F i]/\H'=H1)(c:Q ((ϳ n).map F) H1):FG (Ma f n) k ix g tt te σ H1 Q:=by
 show{λi m ys H=>m=n-i/\i<=n/\H=H1/\ys=(ϳ i).map F,{n,3,ϋ _,11},2};ext i m ys H ⟨rfl,l,rfl,rfl⟩;by_cases b:i<n
 .show .inr {b,λa H'=>a=(ϳ i).map F++[F i]/\H'=H,λa H' ⟨j,h⟩=>{n-(i+1),31,b,h,by rw[j,List.range_succ,Κ];rfl},λx H' y=>?_};ext(⟨e,y⟩:y);subst e y;show d i _ b ()
 .let e:i=n:=();subst e;show .inl {1,c}
def bt(h:te ((gv k ix σ).set i (Z x)) H λy a=>ys.length<Λ/\N (ys++[y]) a):gf k ix (ez i) Ft te σ x ys H N:=by show aH (B:=N ys H) h
def fk{i j:Nat}{K:η}{a:υ}{x y:V}{ys:List V}{H:Hp}{N:List V->Hp->Prop}(c:H a=Z (.tup [x,y]))(h:te (((gv k ix σ).set i (Z x)).set j (Z y)) H λy b=>ys.length<Λ/\N (ys++[y]) b):
  gf k ix (FQ K 2 (lg (ez i) (lg (ez j) Bm))) Ft te σ (.ref a) ys H N:=by
 show{a,01,aw.of c,10010011,aH (B:=N ys H) h}
def IC{f:Nat->V}{n:Nat}{g:TG}{tb:TS}{D:eh}{σ:St}{H:Hp}(a:Nat->St->Hp->Prop)(l:a 0 σ H)
  (o:∀i σ H,i<n->a i σ H->g (f i) σ H λb d=>tb {D with nx:=a (i+1),ct:=a (i+1),bk:=D.nx} b d) (j:∀σ H,a n σ H->D.nx σ H):
  ∃W:Nat->Nat->St->Hp->Prop,(∃m,W 0 m σ H)/\∀i m σ H,W i m σ H ->
   ((Ma f n).stop i H/\D.nx σ H)\/((Ma f n).go i H/\∃N:St->Hp->Prop,(∀σ' H',N σ' H'->∃h,h<m/\W (i+1) h σ' H')/\∀x H',(Ma f n).yld i H x H'->g x σ H' λb d=>tb {D with nx:=N,ct:=N,bk:=D.nx} b d):=by
 show{λi m σ H=>m=n-i/\i<=n/\a i σ H,{n,3,ϋ _,l},2};ext i m σ H ⟨rfl,r,p⟩;by_cases c:i<n
 .show .inr {c,a (i+1),λσ' H' q=>{n-(i+1),31,c,q},λx H' y=>?_};ext(⟨e,y⟩:y);subst e y;show o i σ _ c p
 .let e:i=n:=();subst e;show .inl {1,j σ H p}
end
mutual
noncomputable def Dv.small:Dv->Bool
 |.str x=>decide (x.cps.size<=5000)
 |.tup xs=>smalls xs&&decide (xs.length<=5000)
 |.lst xs=>smalls xs&&decide (xs.length<=5000)
 |_=>O
noncomputable def smalls:List Dv->Bool
 |[]=>O
 |d::ds=>d.small&&smalls ds
end
def fq:∀{ds:List Dv},smalls ds=O->∀{i:Nat}{d:Dv},ds[i]?=Z d->d.small=O
 |[],_,i,d,e=>by simp at e
 |x::ds,h,i,d,e=>by
  simp only[smalls,χ]at h;cases i with
  |zero=>
   let a:x=d:=↑e
   subst a;show h.1
  |succ i=>show fq h.2 (↑e)
def BV(h:n<=5000):n<Λ:=Nat.lt_of_le_of_lt h ()
def zn{x:Str}(h:x.cps.size<=5000):x.length<=Λ:=C9 (BV h)
def ac(h:H p=Β)(o:HO):af H (upd H p o):=λb u q=>by rw[ai (ah q h)];show q
section
variable{X:Cx}
def vS(K:η)(h:X.K=K):Mf X (ME K):=by subst h;show aG
def GA(K:η)(h:X.K=K):Mf X (By K):=by subst h;show nY
inductive Jm (K:η) (x:V) (y:V) (H:Hp) (Q:VK):Prop|mk a b xs ys (_:x=.ref a) (_:y=.ref b) (_:aw K H a xs) (_:aw K H b ys) (_:xs.length+ys.length<=Λ) (_:(xs=[]->Q (.ref b) H)) (_:(ys=[]->Q (.ref a) H)) (_:(∀p,H p=Β->Q (.ref p) (upd H p (.tup (xs++ys)))))
def iD:fE X (G8 .Add) (Jm X.K):=by
 ext o s σ H x y v u Q I m k ⟨a,b,xs,ys,rfl,rfl,g,f,hz,G,A,B⟩;by_cases h:xs=[]
 .cases m;cases k;ext(⟨its,F,M,_⟩:I.tuple g);ext(⟨P,S,e,_⟩:I.tuple f);subst h;cases F;ext(⟨⟨cls,C,d,K⟩,j,E,n,z⟩:M);ext(⟨⟨R,q,N,r⟩,c,w,L,p⟩:e);subst E z w p;show concat_meets {0,j,1} {0,c,1} Tg seq_tuple_add P1 O6 (N4 _ _) (tuple_addW0 a b _ _ n L C q K r U) {j,c,{.ref b,H,I,1,G U}}
 .show HV o s σ H (.ref a) (.ref b) v u Q I m k {a,b,xs,ys,11,g,f,h,hz,A,λ_=>B}
end
section
variable{σ:St}{H:Hp}{d e:Dv}{ds es:List Dv}{ta tb:TE}{t:TA}
def Reps.append:∀{ds es:List Dv}{vs a:List V},Reps H ds vs->Reps H es a->Reps H (ds++es) (vs++a)
 |[],_,_,_,h,g=>by simp only[Reps]at h;subst h;show g
 |d::ds,es,vs,a,h,g=>by ext(⟨v,r,rfl,b,c⟩:h);show{v,r++a,1,b,Reps.append c g}
end
def bY(H:Hp)(l:υ):Hp:=λb=>if b=l then Β else H b
def cX:af (bY H l) H:=λb o h=>by
 unfold bY at h;by_cases e:b=l
 .rw[Z5 e]at h;cases h
 .rw[Z6 e]at h;show h
def cT(s:af H H'):af (bY H l) (bY H' l):=λb o h=>by
 unfold bY at h⊢;by_cases e:b=l
 .rw[Z5 e]at h;cases h
 .rw[Z6 e]at h⊢;show s b o h
def jv(s:af H H')(a:H l=Β):af H (bY H' l):=λb o h=>by unfold bY;rw[Z6 (ah h a)];show s b o h
def Bz(b:H l≠Β)(a:H p=Β):bY (upd H p o) l p=Z o/\af (bY H l) (bY (upd H p o) l):=by let c:p≠l:=λe=>b (e▸a);show{2,cT (ac a o)};unfold bY;rw[Z6 c,aa]
section
variable{σ:St}{H:Hp}{d e:Dv}{ds es:List Dv}{ta tb:TE}{t:TA}{l:υ}
variable{i:Nat}{u:TS}{D:eh}
end
section
variable{X:Cx}
def LK(n:X.A.units<C2):fE X (j8 .NotEq) (λx y H Q=>∃(l b:υ) (xs:List Str),x=.ref l/\y=.ref b/\aD X.K H l (xs.map V.str)/\aD X.K H b (xs.map V.str)/\Q (.bl J) H):=by
 intro D s σ H x y v u Q I C w h;ext(⟨l,b,xs,rfl,rfl,p,g,q⟩:h);cases C;cases w;ext(⟨its,f,B,_⟩:I.list p);ext(⟨E,d,z,_⟩:I.list g);let F:=f.length;let G:=d.length;let c:∀{xs:List Str}{us:List ν},StrsAre us xs->∀j (a:j<us.length),∃t,us[j]=Ss (xs.getD j default) t:=by
  intro xs us h;induction h with
  |nil=>intro j a;simp at a
  |cons x t _ i=>
   intro j a;cases j with
   |zero=>show{t,1}
   |succ j=>obtain⟨t',e⟩:=i j (↑a);show{t',↑e}
 show Tp.lists (e:=λ_=>O) B.isList z.isList (by simp;omega) n (λj o m=>?_) X.prog X.w X.xe _ ?_
 .obtain⟨t,r⟩:=c (mI f) j (↑o);obtain⟨t',k⟩:=c (mI d) j (↑m);let e:=SG (A:=X.A.in1) (s:=s) (xs.getD j default) t (xs.getD j default) t';rw[beq_self_eq_true]at e;simpa[r,k]using e
 .let e:(!((ϳ its.toArray.size).all λ_=>O))=J:=();rw[e];show{.bl J,H,I,1,q}
end
section
variable{prog:Ι}{w:ώ}{K:Type}[DecidableEq K]{knd:PySem.KeyKind prog w K}{A:Ϛ}{R:Result->ψ->Prop}{I d:υ}{fp wr:List υ}{n:Nat}{P:Nat->ν->Prop}{St:Nat->ϙ->Prop}
end
section
variable{prog:Ι}{w:ώ}{K:Type}[DecidableEq K]{knd:PySem.KeyKind prog w K}{A:Ϛ}{E:ν->ψ->Prop}{s:ψ}
end
section
variable{X:Cx}
end
open PySem PySem.Spec PyProof.Rows PySem.W
section
variable{X:Cx}{pins:List (υ×Obj)}{σ:St}{H:Hp}{s:ψ}
def ax.setList(I:ax X pins σ H s)(x:s.heap.Ns X.env.locals m)(j:H D=Z (.lst ys0))(t:aI ys its)(hz:ys.length<=Λ)
  (F:h'.Ns X.env.locals m) (k:∀b o,b≠X.env.locals->b≠D->s.heap.get? b=Z o->h'.get? b=Z o) (e:h'.get? D=Z {cls:=.type "list",data:=.seq its.toArray c}):ax X pins σ (upd H D (.lst ys)) {s with heap:=h'}:=by
 let l:∀b v,H b=Z v->b≠X.env.locals:=λb v q z=>by rw[z,I.free]at q;cases q
 let g:∀b,H b=Β->b≠D:=λb q z=>by rw[z,j]at q;cases q
 let f:∀b v,H b=Z v->v≠.lst ys0->b≠D:=λb v q n z=>by rw[z,j]at q;cases q;show n U
 show I.step (g':=s.gens) (d':=s.drawn) (t':=s.toks) (ch:=[]) (λb d=>by cases d) (λb o h _ _ q n=>k b o h (g b n) q) (λb o h _ _ q n=>{o.slots,k b o h (g b n) q}) (λb o _ q n=>by rw[ai (g b n)];show n) (λb o _ q=>?_)
  (λb xs q=>by rw[ai (f b _ q nofun)];show q) (λb o v q=>by rw[ai (f b _ q nofun)];show q) (λb ps q=>{#[],by rw[ai (f b _ q nofun),q];simp}) (λy r=>by rw[Kf r x];show F) (λb v q=>?_) I.bare
 .by_cases d:b=X.env.locals
  .subst d;ext(⟨w,_,_,a,_⟩:F);show{w,a}
  .by_cases i:b=D
   .subst i;show{0,e}
   .show{o,k b o d i q}
 .by_cases d:b=D
  .subst d;rw[aa]at q;cases q;show{hz,its,c,t,e}
  .rw[ai d]at q;show(I.hok b v q).stay (λc p u a=>?_) (λc a=>by rw[ai (f c _ a nofun)];show a) λc xs a=>by rw[ai (f c _ a nofun)];show a
   rcases u with z|z
   .subst z;show k c p (l c v q) d a
   .show k c p (l c _ z) (f c _ z nofun) a
def Eo(I:ax X pins σ H s)(y:H l=Z (.lst (ps.map λp=>V.ref p.1)))(L:∀p∈ps,H p.1=Z (.tup (.str p.2.1::p.2.2)))
  (nd:(ps.map (·.2.1)).Nodup) (b9:ps.length<64) (q:∀(r:List TK)(h':ϙ),r.Perm ps->r.Pairwise GX->ax X pins σ (upd H l (.lst (r.map λp=>V.ref p.1))) {s with heap:=h'}->Q .none {s with heap:=h'}):
  ύ (ϓ X.prog X.w) A (call (.builtin "list.sort") [.ref l]) Q E s:=by
 ext(⟨hz,its,n,rv,G⟩:(I.hok l _ y));let ei:=Hv ps its rv;subst ei;ext(⟨m,M,_⟩:I.loc);let nL:l≠X.env.locals:=λz=>by rw[z,I.free]at y;cases y
 let u4:∀p∈ps,p.1≠l/\p.1≠X.env.locals:=λp a=>by
  show{λz=>?_,λz=>?_}
  .let t:=L p a;rw[z,y]at t;cases t
  .let t:=L p a;rw[z,I.free]at t;cases t
 by_cases a9:ps.length<2
 .show u_ slot_list_sort {0,G,1} entry_list_sort (pP G (↑a9) λa ep k2 u0=>{012}) (args_list_sort _);show q ps a (List.Perm.refl _) ?_ (I.setList M y (kQ ps) hz (M.at' λo e=>k2 _ o (ϝ nL) e) (λb o _ hb z=>k2 b o hb z) u0);rcases ps with _|⟨p,_|⟨r,t⟩⟩
  .show .nil
  .show List.pairwise_singleton _ _
  .show absurd a9 (by change ¬ t.length+1+1<2;omega)
 .let P:(ps.map λp=>ϐ p.1).length=ps.length:=ε _;generalize hN:(mK (Att.noObjs s.heap) s.heap X.env.locals).filter (λp=>decide (p.1≠l))=W;let N0:News (Att.noObjs s.heap) X.env.locals s.heap W:=λp a=>by rw[<-hN]at a;show Fv p (J4.mp a).1
  let a8:∀p∈W,p.1≠l:=λp a=>by rw[<-hN]at a;show Z7 (J4.mp a).2
  show u_ slot_list_sort {0,G,1} entry_list_sort (kat_list_sort (Att.fr_all M) N0 G nL (Att.noObjs_get _ _) a8 (by rw[P];omega) (by rw[P];show b9) λe1 h' F' N'=>?_) (args_list_sort _);let a6:∀(g:ϙ)(x:Obj),News (Att.noObjs s.heap) X.env.locals g ((l,x)::W)->∀b o,b≠X.env.locals->b≠l->s.heap.get? b=Z o->g.get? b=Z o:=λg x N b o hb hl e=>
   (N (b,o) (ρ _ (by rw[<-hN];show J4.mpr {wb hb (Att.noObjs_get _ _) e,Z9 hl}))).1
  let kp:=a6 h' _ N';let R:∀i,i<ps.length->(ps.map λp=>ϐ p.1).getD i .none=ϐ (ps.getD i (0,default,[])).1:=λi f=>by simp[TQ,f]
  let a7:∀i,i<ps.length->∃(o:Obj) (us:List ν) (n:Nat) (t:Tok),h'.get? (ps.getD i (0,default,[])).1=Z o/\o.cls=.type "tuple"/\o.data=.seq (Ss (ps.getD i (0,default,[])).2.1 t::us).toArray n:=λi f=>by
   let S:ps.getD i (0,default,[])∈ps:=by
    let e:ps.getD i (0,default,[])=ps[i]:=by simp[TQ,f]
    rw[e];show l_ f
   ext(⟨o,us,n,t,e,c,d⟩:Fn I (L _ S));show{o,us,n,t,kp _ o (u4 _ S).2 (u4 _ S).1 e,c,d}
  let b7:∀(r:List TK),(∀p∈r,p∈ps)->∃w:List ν,KatTups h' (r.map λp=>ϐ p.1) w/\w.length=r.length/\∀v∈w,∃x t,v=Ss x t:=by
   intro r;induction r with
   |nil=>intro _;show{[],KatTups.nil,13}
   |cons p r ih=>
    intro hs;obtain⟨w,u1,u2,t3⟩:=ih λx hx=>hs x (ρ _ hx);let a:=hs p π;ext(⟨o,us,n,t,e,c,d⟩:Fn I (L _ a));show{Ss p.2.1 t::w,KatTups.cons (kp _ o (u4 _ a).2 (u4 _ a).1 e) c d () u1,by simp[u2],λv F=>?_};rcases ξ.mp F with rfl|F
    .show{001}
    .show t3 v F
  obtain⟨w,u1,u2,t3⟩:=b7 ps λp a=>a;show kat_kind (T:=.type "str") u1 (by rw[u2];omega) (λv F=>?_) () ?_
  .ext(⟨x,t,rfl⟩:t3 v F);show Tx.of_pure U
  rw[P];let u3:GB (kas_ask X.prog X.w A.in1 (tuples' (Tk "str" != Tk "tuple")) (ps.map λp=>ϐ p.1)) (λi j=>decide ((ps.getD i (0,default,[])).2.1.cps.toList<(ps.getD j (0,default,[])).2.1.cps.toList)) ps.length {s with heap:=h'}:=by
   let a5:∀i j,i<ps.length->j<ps.length->i≠j->(ps.getD i (0,default,[])).2.1≠(ps.getD j (0,default,[])).2.1:=λi j f u B e=>by
    let ei:ps.getD i (0,default,[])=ps[i]:=by simp[TQ,f]
    let ej:ps.getD j (0,default,[])=ps[j]:=by simp[TQ,u]
    rw[ei,ej]at e;show B ((Q3 (h₀:=↑f) (h₁:=↑u) nd).mp (↑e))
   show{λi j C f u B hC=>?_,λi j k D K=>?_,λi j f u B D=>?_,λi j D=>?_}
   .change ύ _ _ (keyLt' _ _ _) C _ _;rw[R i f,R j u];ext(⟨o,us,n,t,e,c,d⟩:a7 i f);ext(⟨o2,d3,n2,d4,u0,c2,d2⟩:a7 j u);show kat_lt e d u0 d2 (kat_cons (wpAny_eqBool_str ?_));rw[Z8 (a5 i j f u B)];show kat_no (oneLt_str hC)
   .show Z9 (List.lt_trans (Z7 D) (Z7 K))
   .show Z9 (Ii (of_decide_eq_false D) λe=>a5 i j f u B (HR e))
   .show Z8 (List.lt_asymm (Z7 D))
  show GV u3 () λp re up=>?_;let b8:(p.toList.map λi=>(ps.map λp=>ϐ p.1).getD i .none)=(p.toList.map λi=>ps.getD i (0,default,[])).map λp=>ϐ p.1:=by rw[Ϙ];show C7 λi f=>?_;show R i (G7.mp ((List.Perm.mem_iff (↑(L_.mp re.perm))).mp f))
  rw[b8];show KasFin.intro F' N' (.head a8) λK c F2 N2=>?_;let pq:=AI (d:=(0,default,[])) U re;let I2:=I.setList M y (kQ _) (by rw[ε,pq.length_eq];simpa using hz) F2.ns (a6 K _ N2) (N2 (l,_) π).1;show{01,q _ K pq (qa (λi j _ _ h=>(Z7 h:(ps.getD i (0,default,[])).2.1.cps.toList<(ps.getD j (0,default,[])).2.1.cps.toList)) re up) I2}
def uZ(v d:υ):HO:=.ext λh=>h.IsItemsView v d
def EE:FH X "dict.items" (λx xs H Q=>∃d kvs,x=.ref d/\xs=[]/\H d=Z (.dK kvs)/\∀v,H v=Β->Q (.ref v) (upd H v (uZ v d))):=by ext pins s σ H x xs u us Q I h f ⟨d,kvs,rfl,rfl,g,q⟩;cases h;cases f;ext(⟨z,c,vs,i,a⟩:Fz I.hok g);show call_meetsIn PySem.F.slot_dict_items a.typeIs PySem.F.entry_dict_items (PySem.F.args_dict_items_1 _) (meets_dict_items (bj X.prog X.w) d c) {{vs,a},{.ref s.heap.objs.size,0,I.laid (t':=s.toks) (λb u q=>ω _ q) (Α _) ?_,1,q _ I.fresh}};show{{0,Ψ _ U,11},{0,Ψ _ U},λl j ⟨o,e,r⟩ k=>{o,k o e,r}}
def lays(H:Hp)(a:List TK):Hp:=λb=>match a.find? (λr=>decide (r.1=b))with|some r=>Z (.tup (.str r.2.1::r.2.2))|none=>H b
def oM(h:∀r∈a,r.1≠b):lays H a b=H b:=by unfold lays;rw[J2.mpr (λr c e=>h r c (Z7 e))]
def zV(d:(rs.map (·.1)).Nodup)(a:r∈rs):lays H rs r.1=Z (.tup (.str r.2.1::r.2.2)):=by
 unfold lays;cases e:rs.find? (λx=>decide (x.1=r.1))with
 |none=>show absurd (Z9 U) (J2.mp e r a)
 |some x=>have f:=Z7 (Tz (p:=λx:TK=>decide (x.1=r.1)) e);ext(⟨i,c,rfl⟩:Sh (M6 e));ext(⟨j,b,rfl⟩:Sh a);let:i=j:=(Q3 (h₀:=↑c) (h₁:=↑b) d).mp (↑f);subst this;rfl
def ax.lays(I:ax X pins σ H s)(k:∀b u,s.heap.get? b=Z u->h'.get? b=Z u)(i:(d.map (·.1)).Nodup)(j:∀r∈d,s.heap.objs.size<=r.1)
  (h:∀r∈d,ck X.prog X.w (L2.lays H d) h' r.1 (.tup (.str r.2.1::r.2.2))):ax X pins σ (L2.lays H d) {s with heap:=h',toks:=tk}:=by
 let a:∀b,b<s.heap.objs.size->L2.lays H d b=H b:=λb g=>oM λr f e=>absurd g (SJ.mpr (e▸j r f));show I.un (t':=tk) {λb u q _ _ _=>k b u q,λb u q _ _ _=>{u.slots,k b u q},λb u q n _=>by rw[a b (Ξ q)];show n,λb u q _=>{u,k b u q},λb xs q=>by rw[a b (I.hok.lt q)];show q,λb u xs q=>by rw[a b (I.hok.lt q)];show q,λb ps q=>{#[],by rw[a b (I.hok.lt q),q];simp}} λb u e=>?_
 by_cases g:∃r∈d,r.1=b
 .ext(⟨r,f,rfl⟩:g);rw[zV i f]at e;cases e;show h r f
 .rw[oM λr f z=>g {r,f,z}]at e;show(I.hok b u e).stay (λc v _ q=>k c v q) (λc q=>by rw[a c (I.hok.lt q)];show q) λc xs q=>by rw[a c (I.hok.lt q)];show q
def sU(hc:X.calm=O):eQ X (.builtin "sorted") (λxs H Q=>∃(v d:υ) (m:List (Str×V)),xs=[.ref v]/\H v=Z (uZ v d)/\H d=Z (.dK (m.map λp=>((f_ p.1:en),p.2)))/\m.length<64 /\
  ∀(H':Hp)(l:υ)(t:List TK),af H H'->H l=Β->(∀r∈t,H' r.1=Z (.tup (.str r.2.1::r.2.2))/\H r.1=Β)->H' l=Z (.lst (t.map λr=>V.ref r.1))->(t.map (·.2)).Perm (m.map λp=>(p.1,[p.2]))->t.Pairwise GX->Q (.ref l) H'):=by
 intro pins s σ H xs us Q I r h;ext(⟨v,d,m,rfl,hv,hd,d5,q⟩:h);ext(⟨u,rfl,ru⟩:fj r);cases ru;ext(⟨vw,_,_⟩:(I.hok v _ hv));ext(⟨z,d7,vs,A,dd⟩:Fz I.hok hd);let d6:vs.length=m.length:=by let:=A.length;rw[ε]at this;show this.symm
 ext(⟨ep,W⟩:dd.dictAt);let D:(vs.map (·.1)).Nodup:=by ext(⟨_,_,_,_,_,_,_,nd⟩:W);show nd
 show Calls.call_function_entry kind_sorted plain_sorted entry_sorted (args_sorted1 _) ?_;show ζ (Η (ζ (kdx_collect (I.ok.hd hc) vw W (by rw[<-A.length];show z) λh' tk i hk hl E=>?_)));let a0:i.length=m.length:=();let w:((i.zip m).map λp=>((p.1,p.2.1,[p.2.2]):TK)).map (·.1)=i:=by rw[Ϙ];let:((λx:TK=>x.1)∘λp:υ×Str×V=>((p.1,p.2.1,[p.2.2]):TK))=Prod.fst:=U;rw[this,List.map_fst_zip ()]
 let F:((i.zip m).map λp=>((p.1,p.2.1,[p.2.2]):TK)).map (·.2)=m.map λp=>(p.1,[p.2]):=by rw[Ϙ];let:((λx:TK=>x.2)∘λp:υ×Str×V=>((p.1,p.2.1,[p.2.2]):TK))=(λp:Str×V=>(p.1,[p.2]))∘Prod.snd:=U;rw[this,<-Ϙ,List.map_snd_zip ()]
 let e3:((i.zip m).map λp=>((p.1,p.2.1,[p.2.2]):TK)).map (λr=>V.ref r.1)=i.map V.ref:=by let:(λr:TK=>V.ref r.1)=V.ref∘(λr:TK=>r.1):=U;rw[this,<-Ϙ,w]
 let N:∀r∈(i.zip m).map λp=>((p.1,p.2.1,[p.2.2]):TK),∃(x:Str) (y:V) (u n:ν),r.2=(x,[y])/\aU (.str x) u/\aU y n/\h'.get? r.1=Z {cls:=.type "tuple",data:=.seq #[u,n]}:=λr f=>by ext(⟨⟨a,x,y⟩,hp,rfl⟩:Ρ.mp f);ext(⟨j,hj⟩:RV hp);ext(⟨ha,B⟩:List.getElem?_zip_eq_some.mp hj);ext(⟨a3,k,n,g1,g2,g3⟩:E.pairs j a ha);ext(⟨y',P,ry⟩:A.at g1);rw[ϑ,B]at P;let a5:((f_ x:en),y)=(k,y'):=ϡ P;injection a5 with k1 k2;subst k1 k2;show{x,y,a3,n,1,Mj g2,ry,g3}
 generalize u1:(i.zip m).map (λp=>((p.1,p.2.1,[p.2.2]):TK))=c at w F e3 N;let a2:c.length=m.length:=by rw[<-u1,ε,List.length_zip];omega
 let u3:(c.map (·.1)).Nodup:=by rw[w];show E.rise.imp λh=>ϩ h
 let C:∀r∈c,s.heap.objs.size<=r.1:=λr f=>C9 (E.above r.1 (by rw[<-w];show j_ f));let a1:∀(T:Hp)(r:TK),r∈c->ck X.prog X.w T h' r.1 (.tup (.str r.2.1::r.2.2)):=λT r f=>by ext(⟨x,y,u,n,er,r1,r2,g⟩:N r f);rw[er];show{by change 2<=Λ;rw[ι];decide,[u,n],.cons r1 (.cons r2 .nil),{0,g,1,(0),1},{0,g,1}}
 let S:ax X pins σ (lays H c) {s with heap:=h',toks:=tk}:=I.lays hk u3 C λr f=>a1 _ r f;let u0:af H (lays H c):=λb o e=>by
  let ho:∀r∈c,r.1≠b:=λr f G=>by let R:=C r f;rw[G]at R;show absurd (I.hok.lt e) (SJ.mpr R)
  rw[oM ho];show e
 show ζ (wpAny_newList ?_ (by rw[ε,a0,ι];omega));let u2:aI (c.map λr=>V.ref r.1) (i.map ϐ):=by
  let:=kQ c;let e4:c.map (λp=>ϐ p.1)=i.map ϐ:=by rw[<-w,Ϙ];rfl
  rwa[e4]at this
 let I2:=S.lnew (t':=tk) u2 (by rw[ε,a2,ι];omega);let u4:=S.fresh;let K:af (lays H c) (upd (lays H c) h'.objs.size (.lst (c.map λr=>V.ref r.1))):=ac u4 _;let inr:∀r∈c,lays H c r.1=Z (.tup (.str r.2.1::r.2.2)):=λr f=>zV u3 f;let M:H h'.objs.size=Β:=by
  cases e:H h'.objs.size with
  |none=>rfl
  |some o=>have:=u0 _ _ e;rw[u4]at this;cases this
 let a4:(c.map (·.2.1)).Nodup:=by
  let e5:c.map (·.2.1)=m.map (·.1):=by let:=congrArg (List.map Prod.fst) F;simpa[Ϙ,Function.comp_def]using this
  let e6:(m.map (·.1)).map (f_:Str->en)=vs.map (·.1):=by rw[<-A.keys,Ϙ,Ϙ];rfl
  rw[e5];rw[<-e6]at D;rw[List.Nodup,List.pairwise_map]at D;show D.imp λh e=>h (by rw[e])
 show ζ (E1 (Eo I2 aa (λr f=>K _ _ (inr r f)) a4 () λt h2 L pw I3=>Η {01,.ref h'.objs.size,0,I3,1,q _ _ t (λb o e=>?_) M (λr f=>{2,I.hok.fresh (C r (L.mem_iff.mp f))}) aa (by rw[<-F];show L.map _) pw}))
 .let:=K _ _ (u0 _ _ e);rw[ai (λG=>by rw[G,M]at e;cases e)];show this
 .let B:=L.mem_iff.mp f;rw[ai (ah (inr r B) u4)];show K _ _ (inr r B)
end
open PySem PySem.Spec PyProof.Rows
def LO(c:s.heap.IsTuple l items)(a:s.heap.IsTuple b items2)(hsz:items.size=items2.size)(f:A.units<C2)
  (d:∀j (i:j<items.size) (g:j<items2.size),Ϭ A.in1 s items[j] items2[j] O):Ϭ A s (.ref l) (.ref b) O:=by
 by_cases h:l=b
 .subst h;show N8 _
 .let r:=S6 c a f d;let e:((ϳ (min items.size items2.size)).all (λ_=>O)&&items.size==items2.size)=O:=by simp[hsz]
  rw[e]at r;show Ϭ.of_refs h r
def mv(n:Nat)(d:Dv):Prop:=∀(X:Cx)(pins:List (υ×Obj))(σ:St)(H:Hp)(s:ψ),ax X pins σ H s->∀(A:Ϛ)(v w:V)(a b:ν),A.units+n<C2->aj H d v->aj H d w->aU v a->aU w b->Ϭ A s a b O
def mv.mono(h:mv m d)(l:m<=n):mv n d:=λX pins σ H s I A v w a b c=>h X pins σ H s I A v w a b ()
def uz:mv 0 (.int i):=λX pins σ H s I A v w a b h g f c d=>by subst g f;ext(⟨t,rfl⟩:(c));ext(⟨t',rfl⟩:(d));let e:=SF (A:=A) (s:=s) i t i t';rwa[beq_self_eq_true]at e
section
variable{X:Cx}{pins:List (υ×Obj)}{σ:St}{H:Hp}{s:ψ}
def gG(I:ax X pins σ H s)(h:∀d∈ds,mv n d)(v:A.units+n<C2)(c:Reps H ds vs)(f:Reps H ds ws)(g:aI vs its)(e:aI ws its2):
  its.toArray.size=its2.toArray.size/\∀j (m:j<its.toArray.size) (l:j<its2.toArray.size),Ϭ A s its.toArray[j] its2.toArray[j] O:=by
 let D:=c.length;let F:=f.length;let E:=g.length;let C:=e.length;show{by simp;omega,λj m l=>?_};let o:j<its2.length:=↑l
 ext(⟨u,a,B⟩:aI.get (x:=vs[j]'()) g (Ζ _));ext(⟨r,i,q⟩:aI.get (x:=ws[j]'()) e (Ζ _));ext(⟨d,k,y⟩:c.get (Ζ _));ext(⟨d2,b,p⟩:f.get (Ζ _));rw[k]at b;cases b;let z:its.toArray[j]=u:=by rw[Ζ (↑m)]at a;simpa using ϡ a
 let t:its2.toArray[j]=r:=by rw[Ζ o]at i;simpa using ϡ i
 rw[z,t];show h d (ό k) X pins σ H s I A _ _ _ _ v y p B q
end
def Cq(h:∀d∈ds,mv n d):mv (n+1) (.tup ds):=λX pins σ H s I A v w a b y r p j k=>by
 ext(⟨l,vs,rfl,o,c⟩:r);ext(⟨C,B,rfl,m,f⟩:p);cases j;cases k;ext(⟨its,i,u,_⟩:I.tuple (aw.of o));ext(⟨x,e,t,_⟩:I.tuple (aw.of m));let g:A.in1.units+n<C2:=by change A.units+1+n<C2;omega
 ext(⟨z,q⟩:gG I h g c f i e);show LO u t z () q
section
variable{X:Cx}
def Lo(A:X.A.units+8<C2):fE X (j8 .NotEq) (λx y H Q=>∃ds:List Dv,aj H (.tup ds) x/\aj H (.tup ds) y/\(∀d∈ds,mv 6 d)/\Q (.bl J) H):=by
 ext pins s σ H x y v u Q I t o ⟨ds,n,m,i,q⟩;ext(⟨l,vs,rfl,k,b⟩:n);ext(⟨C,B,rfl,j,f⟩:m);cases t;cases o;ext(⟨its,h,r,_⟩:I.tuple (aw.of k));ext(⟨a,c,p,_⟩:I.tuple (aw.of j));let g:X.A.in1.units+6<C2:=by change X.A.units+1+6<C2;omega
 ext(⟨z,w⟩:gG I i g b f h c);show Tp.tuples r p () w X.prog X.w X.xe _ ?_;let e:(!((ϳ (min its.toArray.size a.toArray.size)).all (λ_=>O)&&its.toArray.size==a.toArray.size))=J:=by simp[z]
 rw[e];show{.bl J,H,I,1,q}
def Kh(A:X.A.units+8<C2):fE X (j8 .Eq) (λx y H Q=>∃ds:List Dv,aj H (.tup ds) x/\aj H (.tup ds) y/\(∀d∈ds,mv 6 d)/\Q (.bl O) H):=by
 ext pins s σ H x y v u Q I t o ⟨ds,n,m,i,q⟩;ext(⟨l,vs,rfl,k,b⟩:n);ext(⟨C,B,rfl,j,f⟩:m);cases t;cases o;ext(⟨its,h,r,_⟩:I.tuple (aw.of k));ext(⟨a,c,p,_⟩:I.tuple (aw.of j));let g:X.A.in1.units+6<C2:=by change X.A.units+1+6<C2;omega
 ext(⟨z,w⟩:gG I i g b f h c);show S6 r p () w X.prog X.w X.xe _ ?_;let e:((ϳ (min its.toArray.size a.toArray.size)).all (λ_=>O)&&its.toArray.size==a.toArray.size)=O:=by simp[z]
 rw[e];show{.bl O,H,I,1,q}
end
def JO(b:cf k A):A.units+8<C2:=by let:=b.un;omega
structure Bk(K:η)(x qual:Str)(st:ϸ)(f:υ)(fd:ϣ)(dV:ν):Prop where
 ex:∃(oc:ν) (od:Option υ) (kV doc pm:ν) (an:Option υ) (cdv ct:ν) (osl:Array (Option ν)),
  fd=j4 x qual (ca st) (bD st) (av st) dV kV doc pm an cdv ct/\K.lookup f=Z ⟨oc,od,.func fd,osl⟩/\A7 K cdv qual=O
section
variable{P:Ι}{w:ώ}{K:η}{mg:Str->Option ν}{base:ϙ}
def Bk.ok{x qual:Str}{st:ϸ}{f:υ}{b:ϣ}{l:ν}{N ps:List Str}{k:Nat}{sp:Sp}(F:Bk K x qual st f b l)(S:cK N ps (av st))(e:∀vs H Q E,sp vs H Q E->vs.length=ps.length)
  (c:∀(a:ν)(A:Ϛ)(outer:List Env)(s:ψ)(H:Hp)(vs:List V)(Q:VK)(E:XK),cf k (A.deeper (C8 qual (av st) s.heap.objs.size f a))->sp vs H Q E ->
   ∃t,lG (bP bg P w K mg base N qual (av st) f a A outer s H E).nox (bD st) t/\t {nx:=λ_ H'=>Q .non H',rt:=Q} (fF N vs) H):au P w K mg base bg (k+1) f b ps sp:=by
 ext(⟨y,v,o,n,u,p,a,r,m,rfl,i,d⟩:F.ex);show Ey i d S e λA outer s H vs Q E j g=>?_;ext(⟨t,h,q⟩:c a A outer s H vs Q E j g);show{t,h.nox,q}
def Bk.binds{x qual:Str}{st:ϸ}{f T:υ}{k:ϣ}{ps:List Str}{ds:List ν}{e:Obj}{its:Array ν}{n:Nat}(F:Bk K x qual st f k (.ref T))(p:K.lookup T=Z e)(r:e.data=.seq its n)
  (h:∀(c b j:ν)(g:Option υ)(a i:ν)(us:List ν),(us++ds).length=ps.length->∃d:Option (Array ν)->Sem (List (Str×ν)),bindArgs (j4 x qual (ca st) (bD st) (av st) (.ref T) c b j g a i) {us,[]}=seqItems? (.ref T)>>=d/\d (Z its)=pure (ps.zip (us++ds))):bE K k ps ds:=by
 ext(⟨z,y,c,b,j,g,a,i,u,rfl,v,t⟩:F.ex);intro s us l q;ext(⟨d,o,m⟩:h c b j g a i us q);show Tn.of_defaults U (l T e p) r o m
end
open PySem PySem.Spec PyProof.Rows PySem.W
section
variable{X:Cx}{e st:Ϲ}{te:TE}{ts:TO}{p2 pos:Pos}
end
section
variable{X:Cx}
end
section
variable{P:Ι}{w:ώ}{A:Ϛ}{E:ν->ψ->Prop}{s:ψ}
end
section
variable{P:Ι}{w:ώ}{A:Ϛ}{R:Result->ψ->Prop}{I:υ}{fp wr:List υ}{G:Array K3->Array K3->Prop}{n:Nat}{Pv:Nat->ν->Prop}{St:Nat->ψ->Prop}
end
section
variable{P:Ι}{w:ώ}{A:Ϛ}{E:ν->ψ->Prop}{s:ψ}
end
section
variable{P:Ι}{w:ώ}{A:Ϛ}{E:ν->ψ->Prop}
variable{s:ψ}{it S:υ}{o:Obj}{es:Array (Int×ν)}{ep n i:Nat}{t:T0}
end
section
variable{P:Ι}{w:ώ}{A:Ϛ}{E:ν->ψ->Prop}{s:ψ}{it S:υ}{o:Obj}{es:Array (Int×ν)}{ep n i:Nat}{t:T0}
end
section
variable{P:Ι}{w:ώ}{A:Ϛ}{E:ν->ψ->Prop}{s:ψ}{it S tp:υ}{o ot:Obj}{es:Array (Int×ν)}{ep n i m:Nat}{t:T0}{pl:Array ν}
end
section
variable{P:Ι}{w:ώ}{A:Ϛ}{E:ν->ψ->Prop}{s:ψ}{S:υ}{o:Obj}{es:Array (Int×ν)}{ep:Nat}{t:T0}
end
section
variable{P:Ι}{w:ώ}{it S tp:υ}{o ot:Obj}{es:Array (Int×ν)}{ep m:Nat}{t:T0}
end
section
variable{P:Ι}{w:ώ}{A:Ϛ}{E:ν->ψ->Prop}{s:ψ}{S:υ}{xs:List Str}
variable{R:Result->ψ->Prop}{it L:υ}{fp:List υ}{vs:List ν}{St:Nat->ϙ->Prop}
end
section
variable{P:Ι}{w:ώ}{A:Ϛ}{E:ν->ψ->Prop}{s:ψ}{S:υ}{xs:List Str}
end
section
variable{X:Cx}{pins:List (υ×Obj)}{σ:St}{H:Hp}{s:ψ}
end
section
variable{X:Cx}
def IB{j:Int}(b:0<j)(c:j<10^60):j.natAbs.log2<9000:=by let a:j.natAbs<2^200:=();let:=(Nat.log2_lt ()).mpr a;omega
def MF(i j:Int):Prop:=0<j/\j<10^60
def vx:fE X (G8 .FloorDiv) (rI MF λi j=>.int (i/j)):=OD λi j _ _ _ _ _ a q=>by let b:=a.1;show floordiv_int () (by rw[Int.fdiv_eq_ediv_of_nonneg i ()];show q) (.inl (PyProof.noPylong_of_log2 (IB a.1 a.2)))
end
open PySem PySem.Spec PyProof.Rows
section
variable{prog:Ι}{w:ώ}{A:Ϛ}{E:ν->ψ->Prop}{s:ψ}
def eJ(c:s.heap.IsTupleIter it t i)(j:s.heap.IsTuple t its)(g:its[i]?=Z x)
  (h:∀h',h'.IsTupleIter it t (i+1)->F6 it s.heap h'->Q x {s with heap:=h'}):ύ (ϓ prog w) A (x_ (.ref it)) Q E s:=by
 ext(⟨o,b,f,a⟩:id c);ext(⟨l,e,_,k,d⟩:j);show ζ (q_ c.typeIs E6 (u_ E6 c.typeIs Sn ?_ (Sa _)));change ύ _ _ (field (.ref it) 0>>=_) _ _ s;show ζ (ϲ b a (x:=.ref t) U ?_);rw[Z6 (show ¬ ((ϐ t==J0)=O)from Χ)];show ζ (ϲ b a U ?_);show ζ (E7 e d ?_);simp only[P2,g];show ζ (G_ b a () (Η {x,1,Η (h _ {0,o_ _ b (J_ (B8 a _)),(Obj.cls_mapFields ..).trans f,by rw[B8 a];simp[M7]} (F6.update ..))}))
def iq(d:A.handled=Β)(a:s.heap.IsTupleIter it t i)(k:s.heap.IsTuple t its)(j:its[i]?=Β)
  (h:∀h' e,S7 it s.heap h'->(∃o,h'.get? e=Z o/\o.cls=.type "StopIteration")->E (.ref e) {s with heap:=h'}):ύ (ϓ prog w) A (x_ (.ref it)) Q E s:=by
 ext(⟨o,c,l,b⟩:id a);ext(⟨n,g,_,m,f⟩:k);show ζ (q_ a.typeIs E6 (u_ E6 a.typeIs Sn ?_ (Sa _)));change ύ _ _ (field (.ref it) 0>>=_) _ _ s;show ζ (ϲ c b (x:=.ref t) U ?_);rw[Z6 (show ¬ ((ϐ t==J0)=O)from Χ)];show ζ (ϲ c b U ?_);show ζ (E7 g f ?_);simp only[P2,j];show ζ (Q8 (ζ (G_ c b () ?_)));change ύ _ _ (newExc (.type "StopIteration") []>>=_) _ _ _;show ζ ?_;simp only[newExc,newTuple];show ζ (Ϻ ?_ (by size_fits));show ζ (wpAny_of_eq (by first|rfl|(simp only[firstArgMember];rfl)) (Ϻ ?_ (by size_fits)));simp only[raiseNew];show ζ (wpAny_handled ?_);first|rw[show A.in1.handled=Β from d]|rw[d]
 show ζ (Η (wpAny_throw (h _ _ (((F6.update ..).extBut.push _).push _) {0,Ψ _ U,1})))
end
section
variable{X:Cx}
end
open PySem PySem.Spec PyProof.Rows PySem.W
section
variable{X:Cx}
variable{tg:Ϲ}
end
noncomputable def mh(p:Prop):Bool:=@decide p (Classical.propDecidable p)
def ij:mh p=O↔p:=by unfold mh;show @decide_eq_true_iff p (Classical.propDecidable p)
def gx{p:Prop}{b:Bool}(h:b=O↔p):b=mh p:=by rw[C5,ij];show h
def eG{p:Prop}(h:¬ p):J=mh p:=gx {λz=>(nomatch z),λz=>absurd z h}
mutual
theorem aj.inj{H:Hp}:∀(d e:Dv)(v:V),aj H d v->aj H e v->d=e
 |.tup ds,e,v,h1,h2=>by
  simp only[aj]at h1;ext(⟨a,vs,rfl,ha,rs⟩:h1);cases e with
  |tup es=>simp only[aj]at h2;ext(⟨b,ws,eb,hb,rs2⟩:h2);cases eb;rw[ha]at hb;cases hb;rw[Reps.inj ds es vs rs rs2]
  |lst es=>simp only[aj]at h2;ext(⟨b,ws,eb,hb,rs2⟩:h2);cases eb;rw[ha]at hb;cases hb
  |dct=>simp only[aj]at h2;ext(⟨b,eb,hb⟩:h2);cases eb;rw[ha]at hb;cases hb
  |_=>simp only[aj]at h2;cases h2
 |.lst ds,e,v,h1,h2=>by
  simp only[aj]at h1;ext(⟨a,vs,rfl,ha,rs⟩:h1);cases e with
  |lst es=>simp only[aj]at h2;ext(⟨b,ws,eb,hb,rs2⟩:h2);cases eb;rw[ha]at hb;cases hb;rw[Reps.inj ds es vs rs rs2]
  |tup es=>simp only[aj]at h2;ext(⟨b,ws,eb,hb,rs2⟩:h2);cases eb;rw[ha]at hb;cases hb
  |dct=>simp only[aj]at h2;ext(⟨b,eb,hb⟩:h2);cases eb;rw[ha]at hb;cases hb
  |_=>simp only[aj]at h2;cases h2
 |.dct,e,v,h1,h2=>by
  simp only[aj]at h1;ext(⟨a,rfl,ha⟩:h1);cases e with
  |dct=>rfl
  |tup es=>simp only[aj]at h2;ext(⟨b,ws,eb,hb,rs2⟩:h2);cases eb;rw[ha]at hb;cases hb
  |lst es=>simp only[aj]at h2;ext(⟨b,ws,eb,hb,rs2⟩:h2);cases eb;rw[ha]at hb;cases hb
  |_=>simp only[aj]at h2;cases h2
 |.non,e,v,h1,h2=>by
  simp only[aj]at h1;subst h1;cases e with
  |non=>rfl
  |tup es=>simp only[aj]at h2;ext(⟨b,ws,eb,_⟩:h2);cases eb
  |lst es=>simp only[aj]at h2;ext(⟨b,ws,eb,_⟩:h2);cases eb
  |dct=>simp only[aj]at h2;ext(⟨b,eb,_⟩:h2);cases eb
  |_=>simp only[aj]at h2;cases h2
 |.bl _,e,v,h1,h2=>by
  simp only[aj]at h1;subst h1;cases e with
  |bl b=>simp only[aj]at h2;cases h2;rfl
  |tup es=>simp only[aj]at h2;ext(⟨b,ws,eb,_⟩:h2);cases eb
  |lst es=>simp only[aj]at h2;ext(⟨b,ws,eb,_⟩:h2);cases eb
  |dct=>simp only[aj]at h2;ext(⟨b,eb,_⟩:h2);cases eb
  |_=>simp only[aj]at h2;cases h2
 |.int _,e,v,h1,h2=>by
  simp only[aj]at h1;subst h1;cases e with
  |int b=>simp only[aj]at h2;cases h2;rfl
  |tup es=>simp only[aj]at h2;ext(⟨b,ws,eb,_⟩:h2);cases eb
  |lst es=>simp only[aj]at h2;ext(⟨b,ws,eb,_⟩:h2);cases eb
  |dct=>simp only[aj]at h2;ext(⟨b,eb,_⟩:h2);cases eb
  |_=>simp only[aj]at h2;cases h2
 |.str _,e,v,h1,h2=>by
  simp only[aj]at h1;subst h1;cases e with
  |str b=>simp only[aj]at h2;cases h2;rfl
  |tup es=>simp only[aj]at h2;ext(⟨b,ws,eb,_⟩:h2);cases eb
  |lst es=>simp only[aj]at h2;ext(⟨b,ws,eb,_⟩:h2);cases eb
  |dct=>simp only[aj]at h2;ext(⟨b,eb,_⟩:h2);cases eb
  |_=>simp only[aj]at h2;cases h2
theorem Reps.inj{H:Hp}:∀(ds a:List Dv)(vs:List V),Reps H ds vs->Reps H a vs->ds=a
 |[],a,vs,c,b=>by
  simp only[Reps]at c;subst c;cases a with
  |nil=>rfl
  |cons e a=>simp only[Reps]at b;ext(⟨v,r,f,_⟩:b);cases f
 |d::ds,a,vs,c,b=>by
  ext(⟨v,r,rfl,i,g⟩:c);cases a with
  |nil=>simp only[Reps]at b;cases b
  |cons e a=>ext(⟨k,l,f,j,h⟩:b);cases f;rw[aj.inj d e v i j,Reps.inj ds a r g h]
end
inductive Pl:Nat->Dv->Prop
 |int {n:Nat} {i:Int}:Pl n (.int i)
 |str {n:Nat} {x:Str}:Pl n (.str x)
 |non {n:Nat}:Pl n .non
 |tup {n:Nat} {ds:List Dv}:(∀d∈ds,Pl n d)->Pl (n+1) (.tup ds)
def Pl.up(h:Pl m d):m<=n->Pl n d:=by
 induction h generalizing n with
 |int=>intro _;show .int
 |str=>intro _;show .str
 |non=>intro _;show .non
 |tup _ ih=>intro l;obtain⟨k,rfl⟩:∃k,n=k+1:={n-1,3};show .tup λd hd=>ih d hd ()
def xj{ds a:List Dv}:((ϳ (min ds.length a.length)).all (λj=>mh (ds[j]?=a[j]?))&&ds.length==a.length)=mh (Dv.tup ds=.tup a):=by
 show gx ?_;rw[χ,Ϸ,beq_iff_eq];constructor
 .ext⟨h,c⟩;congr 1;show S5 λj=>?_;by_cases b:j<ds.length
  .show ij.mp (h j (G7.mpr ()))
  .rw[y7 (),y7 ()]
 .intro h;cases h;show{λj _=>ij.mpr U,1}
section
variable{X:Cx}{pins:List (υ×Obj)}{σ:St}{H:Hp}{s:ψ}
def pG(I:ax X pins σ H s){A:Ϛ}{n:Nat}{ds f:List Dv}{vs g:List V}{its c:List ν}
  (h:∀d∈ds,∀e∈f,∀(v w:V)(a b:ν),aj H d v->aj H e w->aU v a->aU w b->Ϭ A s a b (mh (d=e))) (l:Reps H ds vs) (o:Reps H f g) (p:aI vs its) (m:aI g c):
  its.toArray.size=ds.length/\c.toArray.size=f.length/\∀j (y:j<its.toArray.size) (t:j<c.toArray.size),Ϭ A s its.toArray[j] c.toArray[j] (mh (ds[j]?=f[j]?)):=by
 let R:=l.length;let Q:=o.length;let P:=p.length;let N:=m.length;show{by simp;omega,by simp;omega,λj y t=>?_};let M:j<its.length:=↑y
 let B:j<c.length:=↑t
 ext(⟨u,i,L⟩:aI.get (x:=vs[j]'()) p (Ζ _));ext(⟨E,q,D⟩:aI.get (x:=g[j]'()) m (Ζ _));ext(⟨d,r,G⟩:l.get (Ζ _));ext(⟨d2,k,C⟩:o.get (Ζ _));let K:its.toArray[j]=u:=by rw[Ζ M]at i;simpa using ϡ i
 let F:c.toArray[j]=E:=by rw[Ζ B]at q;simpa using ϡ q
 rw[K,F,r,k];let T:mh (Z d=Z d2)=mh (d=d2):=gx (by rw[ij];show{ϡ,λz=>by rw[z]});rw[T];show h d (ό r) d2 (ό k) _ _ _ _ G C L D
def Gd(I:ax X pins σ H s){n:Nat}{d:Dv}(h:Pl n d):∀{e:Dv},Pl n e->∀{A:Ϛ}{v w:V}{a b:ν},A.units+n<C2->aj H d v->aj H e w->aU v a->aU w b->Ϭ A s a b (mh (d=e)):=by
 induction h with
 | @int n i=>
  intro e he A v w a b hu r1 r2 q1 q2;simp only[aj]at r1;subst r1;ext(⟨t,rfl⟩:(q1));cases he with
  | @int _ j=>simp only[aj]at r2;subst r2;ext(⟨u,rfl⟩:(q2));rw[<-gx (b:=(i==j)) (by rw[beq_iff_eq];show{λz=>by rw[z],λz=>Dv.int.inj z})];show SF i t j u
  | @str _ x=>simp only[aj]at r2;subst r2;ext(⟨u,rfl⟩:(q2));rw[<-eG nofun];show Su i t x u
  |non=>simp only[aj]at r2;subst r2;cases q2;rw[<-eG nofun];show Ϭ.int_none i t
  | @tup n es _=>simp only[aj]at r2;ext(⟨l,ws,rfl,hl,_⟩:r2);cases q2;ext(⟨its,_,p,_⟩:I.tuple (aw.of hl));rw[<-eG nofun];show Ϭ.int_tuple i t p ()
 | @str n x=>
  intro e he A v w a b hu r1 r2 q1 q2;simp only[aj]at r1;subst r1;ext(⟨t,rfl⟩:(q1));cases he with
  | @int _ j=>simp only[aj]at r2;subst r2;ext(⟨u,rfl⟩:(q2));rw[<-eG nofun];show Sv x t j u
  | @str _ y=>simp only[aj]at r2;subst r2;ext(⟨u,rfl⟩:(q2));rw[<-gx (b:=(x==y)) (by rw[beq_iff_eq];show{λz=>by rw[z],λz=>Dv.str.inj z})];show SG x t y u
  |non=>simp only[aj]at r2;subst r2;cases q2;rw[<-eG nofun];show Ϭ.str_none x t
  | @tup n es _=>simp only[aj]at r2;ext(⟨l,ws,rfl,hl,_⟩:r2);cases q2;ext(⟨its,_,p,_⟩:I.tuple (aw.of hl));rw[<-eG nofun];show Ϭ.str_tuple x t p ()
 | @non n=>
  intro e he A v w a b hu r1 r2 q1 q2;simp only[aj]at r1;subst r1;cases q1;cases he with
  | @int _ j=>simp only[aj]at r2;subst r2;ext(⟨u,rfl⟩:(q2));rw[<-eG nofun];show Ϭ.none_int j u
  | @str _ y=>simp only[aj]at r2;subst r2;ext(⟨u,rfl⟩:(q2));rw[<-eG nofun];show Ϭ.none_str y u
  |non=>simp only[aj]at r2;subst r2;cases q2;rw[<-gx {λ_=>U,λ_=>U}];show N8 _
  | @tup n es _=>simp only[aj]at r2;ext(⟨l,ws,rfl,hl,_⟩:r2);cases q2;ext(⟨its,_,p,_⟩:I.tuple (aw.of hl));rw[<-eG nofun];show Ϭ.none_tuple p ()
 | @tup n ds hds ih=>
  intro e he A v w a b hu r1 r2 q1 q2;let r1':=r1;simp only[aj]at r1;ext(⟨l,vs,rfl,h1,rs1⟩:r1);cases q1;ext(⟨its,rv1,p1,_⟩:I.tuple (aw.of h1));cases he with
  | @int _ j=>simp only[aj]at r2;subst r2;ext(⟨u,rfl⟩:(q2));rw[<-eG nofun];show Ϭ.tuple_int j u p1 ()
  | @str _ y=>simp only[aj]at r2;subst r2;ext(⟨u,rfl⟩:(q2));rw[<-eG nofun];show Ϭ.tuple_str y u p1 ()
  |non=>simp only[aj]at r2;subst r2;cases q2;rw[<-eG nofun];show Ϭ.tuple_none p1 ()
  | @tup _ es hes=>
   let r2':=r2;ext(⟨b',ws,rfl,h2,rs2⟩:r2);cases q2;ext(⟨its2,rv2,p2,_⟩:I.tuple (aw.of h2));let hu':A.in1.units+n<C2:=by change A.units+1+n<C2;omega
   obtain⟨z1,z2,q⟩:=pG I (n:=n) (λd hd e he v w a b r1 r2 q1 q2=>ih d hd (hes e he) hu' r1 r2 q1 q2) rs1 rs2 rv1 rv2;by_cases hlb:l=b'
   .subst hlb;rw[<-gx {λ_=>aj.inj _ _ _ r1' r2',λ_=>U}];show N8 _
   .let r:=S6 p1 p2 () q;rw[z1,z2,xj]at r;show Ϭ.of_refs hlb r
end
section
variable{X:Cx}
end
def oR(a:cf k A):A.units+150<C2:=by let:=a.un;omega
section
variable{X:Cx}{k:Nat}{f:υ}{fd:ϣ}{ps:List Str}{sp:Sp}{x:Str}{p pos:Pos}{e:Ϲ}{es:List Ϲ}{t:TA}
def Kl(f:υ)(i:Nat)(sp:Sp)(t:TA):TE:=λσ H Q=>σ[i]?=Z (Z (.ref f))/\t σ H λvs a=>sp (vs++[]) a Q E0
def pe_callV(i:Nat)(F:au X.prog X.w X.K X.mg X.base bg k f fd ps sp)(D:cf k X.A)(L:ϰ X.K (.ref f)=O)(h:bE X.K fd ps [])(m:PA X (e::es) t)(z:autoParam (X.N[i]?=Z x) yR._auto_1)
  (G:autoParam (Mc X.env.scope x) yF._auto_1) (j:autoParam ((x==("__debug__" : Str))=J) yD._auto_1) (d:autoParam ((x==("__classdict__" : Str))=J) yD._auto_1)
  (E:autoParam (ϗ (e::es) X.env=(J,eval e X.env)::ϗ es X.env) yR._auto_1) (g:autoParam ((C_ pos (ϗ es X.env)).any (·.1)=J) yR._auto_1):PE X (.Call (.Name x p) (e::es) [] pos) (Kl f i sp t):=by
 ext a s σ H Q I ⟨y,o⟩;show r_ (bw (CH z G j d a s σ H (λv H'=>v=.ref f/\H'=H) I {0,y,11}) λu K ⟨v,l,c,B,C,n⟩=>?_);subst C n;cases B;show B7 c.ok.mod.kin L (bw (m pos a K σ _ _ c o) λus N ⟨vs,M,b,r,q⟩=>{b.kIn,py F D h .nil dc b r q}) E g
end
section
variable{prog:Ι}{w:ώ}{A:Ϛ}{E:ν->ψ->Prop}{s:ψ}{r l S:υ}{items:Array ν}
end
section
variable{X:Cx}{e:Ϲ}{te:TE}{p p1 pos pos1:Pos}
end
def eM{h:ϙ}{a b:υ}{o u:Obj}(h1:h.get? a=Z o)(h2:h.get? b=Z u)(n:o.cls≠u.cls):a≠b:=λz=>by subst z;rw[h1]at h2;cases h2;show n U
section
variable{X:Cx}
end
section
variable{X:Cx}{pins:List (υ×Obj)}{s:ψ}{σ:St}{H:Hp}
end
section
variable{X:Cx}
end
section
end
section
variable{prog:Ι}{w:ώ}{A:Ϛ}{E:ν->ψ->Prop}{s:ψ}
end
section
variable{X:Cx}{tg e:Ϲ}{ta:TA}{p pos:Pos}
end
section
variable{X:Cx}
end
open PySem PySem.Spec PyProof.Rows
def pe_def0{X:Cx}{k:Nat}{x:Str}{ps:List Str}{sp:Sp}{p pos:Pos}(d:bf X.prog X.w X.K X.mg X.base k x ps sp)(h:cf k X.A)(g:Gl X x)(a:autoParam ((x==("__debug__" : Str))=J) yD._auto_1):PE X (.Call (.Name x p) [] [] pos) (jg sp [] E0 mf):=by ext(⟨f,j,F,b,c,m⟩:d.ex);show CP F h g m c b .nil dc a
section
variable{σ:St}{H:Hp}{d e:Dv}{ds es:List Dv}{ta tb:TE}{t:TA}{l:υ}
variable{i:Nat}{u:TS}{D:eh}
end
open PySem PySem.Spec PyProof.Rows PySem.W
abbrev TF:=St->Hp->Str->(Str->Hp->Prop)->Prop
section
variable{X:Cx}
def PF(X:Cx)(e:List Ϲ)(t:TF):Prop:=∀(a:List (υ×Obj))(s:ψ)(σ:St)(H:Hp)(b:Str)(Q:Str->Hp->Prop),ax X a σ H s->t σ H b Q->Joins (ϓ X.prog X.w) X.A X.xe (evalEach e X.env) b (λc d=>∃H',ax X a σ H' d/\Q c H') s
def NT:TF:=λ_ H a Q=>Q a H
inductive EO (t:TF) (σ:St) (acc:Str) (Q:Str->Hp->Prop) (x:V) (H1:Hp):Prop|mk y (_:x=.str y) (_:(acc++y).length<=Λ) (_:t σ H1 (acc++y) Q)
def Lc(b:TE)(t:TF):TF:=λσ H a Q=>b σ H (EO t σ a Q)
inductive NC  (Q:VK) (x:V) (H1:Hp):Prop|mk y (_:x=.str y) (_:y.length<=Λ) (_:Q (.str y) H1)
def RK(a:TE):TE:=λσ H Q=>a σ H (NC Q)
def RD(t:TF):TE:=λσ H Q=>t σ H u6 λa H'=>a.length<=Λ/\Q (.str a) H'
def pf_nil:PF X [] NT:=λa s σ H b Q I h=>{H,I,h}
def pf_cons{e:Ϲ}{c:List Ϲ}{b:TE}{t:TF}(m:PE X e b)(j:PF X c t):PF X (e::c) (Lc b t):=λa s σ H d Q I h=>
 bw (m a s σ H _ I h) λv o ⟨x,l,f,i,y,n,g,q⟩=>by subst n;ext(⟨k,rfl⟩:i);show{y,k,1,g,j a o σ l (d++y) Q f q}
def pe_fv{e:Ϲ}{a:TE}{pos:Pos}(i:PE X e a):PE X (.FormattedValue e (-1) Β pos) (RK a):=λd s σ H Q I h=>
 SK (bw (i d s σ H _ I h) λv l ⟨x,c,b,g,y,j,f,q⟩=>by subst j;ext(⟨k,rfl⟩:g);show wpAny_formatField_str {.str y,c,b,{k,1},q} {.str y,c,b.tok _,{01},q} f)
def qz:∀{c:List (Sem ν)}{a:Str}{Q b:Str->ψ->Prop}{s:ψ},(∀o d,Q o d->b o d)->Joins M A E c a Q s->Joins M A E c a b s
 |[],_,_,_,_,h,j=>h _ _ j
 |x::c,a,Q,b,s,h,j=>m_ j (λv i ⟨y,k,e,f,g⟩=>{y,k,e,f,qz h g}) λ_ _ e=>e
def pe_fstr{a b:Ϲ}{c:List Ϲ}{t:TF}{pos:Pos}(h:PF X (a::b::c) t):PE X (.JoinedStr (a::b::c) pos) (RD t):=λd s σ H Q I q=>
 wpAny_JoinedStr (qz (λo i ⟨H',e,f,g⟩=>{f,.str o,H',e.tok _,{01},g}) (h d s σ H _ _ I q))
end
section
variable{prog:Ι}{w:ώ}{A:Ϛ}{E:ν->ψ->Prop}{s:ψ}
def wY{t d:υ}{items:Array ν}{lo st:Int}{n:Nat}{Q:ν->ψ->Prop}(a:IsTup s.heap t items)(f:s.TypeIs (.ref d) "slice")
  (g:∀{i:Ϛ}{h:ν->ψ->Prop}{e:Int×Int×Nat->ψ->Prop},e (lo,st,n) s->ύ (ϓ prog w) i (SD (.ref d) (pure (items.size:Int))) e h s)
  (j:(lo==0&&st==1&&n==items.size)=O->Q (.ref t) s)
  (b:Q (.ref s.heap.objs.size) {s with heap:=s.heap.push {cls:=.type "tuple",data:=.seq ((ϳ n).filterMap λ(k:Nat)=>items[(lo+(k:Int)*st).toNat]?).toArray} })
  (hsz:((ϳ n).filterMap λ(k:Nat)=>items[(lo+(k:Int)*st).toNat]?).toArray.size<=Λ):ύ (ϓ prog w) A (getItem (.ref t) (.ref d)) Q E s:=by
 unfold getItem;try with_reducible show E1 ?_
 (first|show ζ (Η ?_)|skip);show ζ (wpAny_sequenceKey a.typeIs () ?_)
 show ζ (q_ a.typeIs j9 (u_ j9 a.typeIs entry_tuple_getitem ?_ (args_tuple_getitem _ _)));change ύ _ _ (SE (.ref t)>>=_) _ _ s;show ζ (tupleItemsOf_ a ?_);show ζ (To f ?_);rw[Z5 ()];show ζ (g ?_);change ύ _ _ (if (lo==0&&st==1&&n==items.size)=O then _ else _) _ _ s;by_cases c:(lo==0&&st==1&&n==items.size)=O
 .rw[Z5 c];show ζ ?_;show ζ (To a.typeIs (Η ?_));rw[Z5 ()];show ζ (Q8 (ζ (Η (Η {01,Η (j c)}))))
 .rw[Z6 c];first
   |show ζ (Ϻ (Η ⟨_,rfl,Η b⟩) hsz)
   |show ζ (Ϻ (ζ (Η (Η ⟨_,rfl,Η b⟩))) hsz)
   |show ζ (ζ (Ϻ (Η (Η ⟨_,rfl,Η b⟩)) hsz))
   |show ζ (ζ (Ϻ (Η ⟨_,rfl,Η b⟩) hsz))
end
section
variable{X:Cx}
inductive MV (K:η) (x:V) (lo:Option Int) (hi:Option Int) (H:Hp) (Q:VK):Prop|mk a xs (_:x=.ref a) (_:aw K H a xs) (_:(cO xs lo hi=xs->Q (.ref a) H)) (_:∀p,H p=Β->Q (.ref p) (upd H p (.tup (cO xs lo hi))))
def iF:Nt X (MV X.K):=by
 ext j s σ H x v n m lo d t Q I u e pl g ⟨a,xs,rfl,h,z,q⟩;cases u;by_cases c:HT.sIx xs.length 0 lo=0/\HT.sIx xs.length xs.length d=xs.length
 .ext(⟨its,r,i,hz⟩:I.tuple h);let f:its.toArray.size=xs.length:=by rw[Ο];show r.length.symm
  let p:cO xs lo d=xs:=by unfold cO;rw[c.1,c.2];simp
  ext(⟨o,l,k,B⟩:id e);show{"tuple",0,j9.lookup,i.typeIs,wY i {o,l,k} (λy=>HT.sliceApplied_gen e pl g y) (λ_=>{.ref a,H,I,1,z p}) ?_ ?_}
  .rw[HT.pick_gen,f];show{.ref s.heap.objs.size,0,I.laid (t':=s.toks) (λb C q=>ω _ q) (Α _) ?_,1,q _ (I.hok.fresh (Α _))};show{Ϫ (fQ xs lo d) hz,0,(r.drop (HT.sIx xs.length 0 lo)).take (HT.sIx xs.length xs.length d-HT.sIx xs.length 0 lo),TN _ _,Hu.new _ U}
  .rw[HT.pick_gen,Ο,Φ,Ϯ];let:its.toArray.toList.length=xs.length:=↑f
   omega
 .show Kb j s σ H (.ref a) (.ref a) n m lo d t Q I U e pl g {a,xs,1,h,c,q}
end
section
variable{prog:Ι}{w:ώ}{A:Ϛ}{E:ν->ψ->Prop}{s:ψ}
end
section
variable{X:Cx}
end
def look(kvs:List (Str×υ))(k:Str):Option υ:=(kvs.find? λp=>decide (p.1=k)).map (·.2)
structure FD(P:Ι)(w:ώ)(K:η)(a:υ)(kvs:List (Str×υ)):Prop where
 nd:(kvs.map (·.1)).Nodup
 lo:(a==E4)=J
 ex:∃o es ep,K.lookup a=Z o/\o.ExactDict/\o.data=.dict es ep/\KeysOf (bj P w) es/\Pairs (bj P w) es.toList (kvs.map λp=>((f_ p.1:en),ϐ p.2))
def oi(kvs:List (Str×υ))(k:Str):valueAt (kvs.map λp=>((f_ p.1:en),ϐ p.2)) (f_ k)=(look kvs k).map ϐ:=by
 unfold valueAt look;induction kvs with
 |nil=>rfl
 |cons p kvs b=>
  rw[ϊ,B5,B5];by_cases h:p.1=k
  .rw[Z9 h,show decide ((f_ p.1:en)=f_ k)=O from Z9 (by rw[h])];rfl
  .rw[Z8 h,show decide ((f_ p.1:en)=f_ k)=J from Z8 (λz=>h (by injection z))];show b
section
variable{X:Cx}{pins:List (υ×Obj)}{s:ψ}{σ:St}{H:Hp}{a:υ}{kvs:List (Str×υ)}
def FD.of(f:FD X.prog X.w X.K a kvs)(I:ax X pins σ H s):s.heap.DictOf (bj X.prog X.w) a (kvs.map λp=>((f_ p.1:en),ϐ p.2)):=by
 ext(⟨o,g,ep,d,k,c,j,i⟩:f.ex);show{o,g,ep,I.kIn a o d,k,c,j,i,2};let e:(kvs.map λp=>((f_ p.1:en),ϐ p.2)).map (·.1)=(kvs.map (·.1)).map f_:=by rw[Ϙ,Ϙ];rfl
 rw[e];show List.Pairwise.map f_ (λa b h z=>h (by injection z)) f.nd
inductive Nn (a:υ) (kvs:List (Str×υ)) (neg:Bool) (x:V) (y:V) (H:Hp) (Q:VK):Prop|mk k (_:x=.str k) (_:y=.ref a) (_:Q (.bl (xor neg (look kvs k).isSome)) H)
def LA(f:FD X.prog X.w X.K a kvs):fE X (j8 .In) (Nn a kvs J):=by ext pins s σ H x y v u Q I c b ⟨k,rfl,rfl,q⟩;cases b;show wpAny_in_of (uW (k:=f_ k) c) f.lo (f.of I).mapOf ?_;rw[oi,P0];show{.bl (look kvs k).isSome,H,I.tok _,1,↑q}
def qB(f:FD X.prog X.w X.K a kvs):fE X (j8 .NotIn) (Nn a kvs O):=by ext pins s σ H x y v u Q I c b ⟨k,rfl,rfl,q⟩;cases b;show wpAny_notIn_of (uW (k:=f_ k) c) f.lo (f.of I).mapOf ?_;rw[oi,P0];show{.bl (!(look kvs k).isSome),H,I.tok _,1,↑q}
inductive GG (a:υ) (kvs:List (Str×υ)) (Q:VK) (x:V) (y:V) (H2:Hp):Prop|mk k b (_:x=.ref a) (_:y=.str k) (_:look kvs k=Z b) (_:Q (.ref b) H2)
def NO(a:υ)(kvs:List (Str×υ))(b d:TE):TE:=λσ H Q=>b σ H λx c=>d σ c (GG a kvs Q x)
def pe_getF{o i:Ϲ}{d e:TE}{pos:Pos}(f:FD X.prog X.w X.K a kvs)(r:PE X o d)(m:PE X i e)(p:Nw i):PE X (.Subscript o i pos) (NO a kvs d e):=by intro pins s σ H Q I h;show IH PySem.F.slot_dict_getitem.lookup p (bw (r pins s σ H _ I h) λu A ⟨x,v,g,B,j⟩=>bw (m pins A σ v _ g j) λD C ⟨y,n,c,w,k,b,z,t,q,l⟩=>?_);subst z t;obtain rfl:u=ϐ a:=B;show{(f.of c).typeIs,wpAny_getItem_of (uW (k:=f_ k) w) (f.of c).mapOf (by rw[oi,q];rfl) {.ref b,n,c.tok _,1,l}}
end
def sN(c:Bool):String:=cond c "list" "tuple"
def iN(c:Bool):String:=cond c "list_iterator" "tuple_iterator"
def Bd(c:Bool)(h:ϙ)(a:υ)(items:Array ν):Prop:=∃o,h.get? a=Z o/\o.cls=.type (sN c)/\∃n,o.data=.seq items n
def eo(c:Bool)(h:ϙ)(a l:υ)(i:Nat):Prop:=∃o,h.get? a=Z o/\o.cls=.type (iN c)/\o.data=.fields #[.ref l,.int (i:Nat) 0]
def GI(c:Bool)(K:η)(H:Hp)(a:υ)(xs:List V):Prop:=match c with|true=>aD K H a xs|false=>aw K H a xs
def eo.at:eo c h a l i->(∀o,h.get? a=Z o->h'.get? a=Z o)->eo c h' a l i:=λ⟨o,e,r⟩ k=>{o,k _ e,r}
def eo.extBut(x:eo c h a l i)(e:S7 b h h')(n:a≠b):eo c h' a l i:=x.at λo q=>e _ o n q
def Bd.extBut:Bd c h a its->S7 b h h'->a≠b->Bd c h' a its:=λ⟨o,x,r⟩ e n=>{o,e _ o n x,r}
def kT(h:a≠b):Tk a≠.type b:=λz=>h (P6 z)
def lU(c:Bool):sN c≠"zip"/\sN c≠"tuple_iterator"/\∀d,sN c≠iN d:=by cases c<;>decide
abbrev rY(h:ϙ)(a:υ):ϙ:=h.push {cls:=.type "tuple_iterator",data:=.fields #[.ref a,.int 0 0]}
abbrev tw(c:Bool)(h:ϙ)(a b:υ):ϙ:=(rY h a).push {cls:=.type (iN c),data:=.fields #[.ref b,.int 0 0]}
abbrev tP(c:Bool)(h:ϙ)(a b:υ):ϙ:=(tw c h a b).push {cls:=.type "tuple",data:=.seq #[.ref h.objs.size,.ref (rY h a).objs.size]}
abbrev sM(c:Bool)(h:ϙ)(a b:υ):ϙ:=(tP c h a b).push {cls:=.type "tuple",data:=.seq #[.none,.none]}
abbrev ke(c:Bool)(h:ϙ)(a b:υ):ϙ:=(sM c h a b).push {cls:=.type "zip",data:=.fields #[.none,.bool J,.bool J,.ref (tw c h a b).objs.size,.ref (tP c h a b).objs.size]}
section
variable{prog:Ι}{w:ώ}{A:Ϛ}{E:ν->ψ->Prop}{s:ψ}
def wP(a:eo c s.heap it t i)(e:Bd c s.heap t its)(d:its[i]?=Z x)(b:∀h',eo c h' it t (i+1)->F6 it s.heap h'->Q x {s with heap:=h'}):ύ (ϓ prog w) A (x_ (.ref it)) Q E s:=by
 cases c
 .show eJ a e d b
 .show wpAny_nextOf_list_item a e d b
def BP(d:A.handled=Β)(a:eo c s.heap it t i)(g:Bd c s.heap t its)(f:its[i]?=Β)(b:∀h' e,S7 it s.heap h'->(∃o,h'.get? e=Z o/\o.cls=.type "StopIteration")->E (.ref e) {s with heap:=h'}):ύ (ϓ prog w) A (x_ (.ref it)) Q E s:=by
 cases c
 .show iq d a g f b
 .show wpAny_nextOf_list_end d a g f b
def xn{c:Bool}{z j d f g m u:υ}{t C:Nat}{xs ys:Array ν}{x y a b:ν}{Q:ν->ψ->Prop}(D:TL z j d f g m u)(hz:T3 s.heap z j d .none)(W:K0 s.heap j (.ref f) (.ref g))(R:K0 s.heap d a b)
  (h1:s.heap.IsTupleIter f m t) (h2:eo c s.heap g u C) (T:s.heap.IsTuple m xs) (u1:Bd c s.heap u ys) (hx:xs[t]?=Z x) (hy:ys[C]?=Z y)
  (hQ:∀h',T3 h' z j d (M7 s.heap.objs.size)->K0 h' d x y->h'.IsTupleIter f m (t+1)->eo c h' g u (C+1)->K0 h' s.heap.objs.size x y->(∀c o,c≠z->c≠d->c≠f->c≠g->s.heap.get? c=Z o->h'.get? c=Z o)->Q (.ref s.heap.objs.size) {s with heap:=h'}):
  ύ (ϓ prog w) A (E_.«zip.__next__» {[.ref z],[]}) (λX s'=>∃v,X=.done (.ret v)/\Q v s') E s:=by
 change ύ _ _ (field (.ref z) 2>>=_) _ _ _;show ζ (ϲ hz U (x:=.bool J) U ?_);change ύ _ _ (field (.ref z) 3>>=_) _ _ _;show ζ (ϲ hz U (x:=.ref j) U ?_);show ζ (E7 W U ?_);change ύ _ _ (y_ (.ref z)>>=_) _ _ _;show ζ ?_;unfold y_;show ζ (ϲ hz U (x:=.none) U (Η ?_));simp only[if_true];show ζ (Q8 ?_);show ζ (ϲ hz U (x:=.ref d) U ?_);show ζ (E8 hz () λg1 z1 i=>?_);show ζ ?_;simp only[List.zipIdx_cons,List.zipIdx_nil,Tw,List.forIn_nil];show ζ (ζ (Q_ ?_));change ύ _ _ (x_ (.ref f)>>=_) _ _ _;show ζ (eJ (h1.extBut i.extBut D.i1z) (T.extBut i.extBut D.l1z) hx λg2 S k=>Η ?_);let H:K0 g2 d a b:=k.extBut _ _ D.TOi1 (i.extBut _ _ D.TOz R);show ζ (E7 H U ?_);show ζ (RW H λg3 t3 l=>?_);show ζ (wpAny_letGo (Η ?_));show ζ (ζ (Q_ ?_));change ύ _ _ (x_ (.ref g)>>=_) _ _ _;show ζ (wP (((h2.extBut i.extBut D.i2z).extBut k.extBut D.i12.symm).extBut l.extBut D.TOi2.symm) (((u1.extBut i.extBut D.l2z).extBut k.extBut D.l2i1).extBut l.extBut D.l2TO) hy λg4 V p=>Η ?_);let I:K0 g4 d x b:=p.extBut _ _ D.TOi2 t3;show ζ (E7 I U ?_);show ζ (RW I λh r n=>?_);replace r:K0 h d x y:=r;show ζ (wpAny_letGo (Η (Η ?_)));show ζ (E7 r U ?_);show ζ (wpAny_newTuple ?_);let u2:h.objs.size=s.heap.objs.size:=by rw[n.1,p.1,l.1,k.1,i.1]
 let K:T3 h z j d .ellipsis:=n.extBut _ _ D.TOz.symm (p.extBut _ _ D.i2z.symm (l.extBut _ _ D.TOz.symm (k.extBut _ _ D.i1z.symm z1)));let k5:∀c o,c≠z->c≠d->c≠f->c≠g->s.heap.get? c=Z o->h.get? c=Z o:=λc o d1 d2 B F e=>n.extBut _ _ d2 (p.extBut _ _ F (l.extBut _ _ d2 (k.extBut _ _ B (i.extBut _ _ d1 e))));let u0:h.IsTupleIter f m (t+1):=((S.extBut l.extBut D.TOi1.symm).extBut p.extBut D.i12).extBut n.extBut D.TOi1.symm;let j2:=V.extBut n.extBut D.TOi2.symm;let G:=Ξ K;show ζ ?_;unfold E_.SmallTypes.ownedTupleHandOut;let z6:T3 (h.push {cls:=.type "tuple",data:=.seq #[x,y]}) z j d .ellipsis:=ω _ K;show ζ (E8 z6 () λg7 z7 P=>?_);show E8 z7 () λL u3 M=>?_;let q:∀c o,c≠z->h.get? c=Z o->L.get? c=Z o:=λc o d1 e=>M.extBut _ _ d1 (P.extBut _ _ d1 (ω _ e));let N:=M.extBut _ _ (D0 G) (P.extBut _ _ (D0 G) (Ψ _ U));rw[u2]at u3 N;show Η {012};rw[u2];show hQ L u3 (q _ _ D.TOz r) (u0.at λo e=>q _ o D.i1z e) (j2.at λo e=>q _ o D.i2z e) N λc o d1 d2 B F e=>q c o d1 (k5 c o d1 d2 B F e)
def AF{c:Bool}{z m j l k n y:υ}{v u2:Nat}{xs ys:Array ν}{a b:ν}{Q:Fin->ψ->Prop}(F:A.handled=Β)(D:TL z m j l k n y)(hz:T3 s.heap z m j .none)(S:K0 s.heap m (.ref l) (.ref k))(R:K0 s.heap j a b)
  (K:s.heap.IsTupleIter l n v) (X:eo c s.heap k y u2) (B:s.heap.IsTuple n xs) (T:Bd c s.heap y ys) (P:xs[v]?=Β\/ys[u2]?=Β)
  (L:∀h' e,(∀c o,c≠z->c≠j->c≠l->c≠k->s.heap.get? c=Z o->h'.get? c=Z o)->(∃o,h'.get? e=Z o/\o.cls=.type "StopIteration")->E (.ref e) {s with heap:=h'}):ύ (ϓ prog w) A (E_.«zip.__next__» {[.ref z],[]}) Q E s:=by
 change ύ _ _ (field (.ref z) 2>>=_) _ _ _;show ζ (ϲ hz U (x:=.bool J) U ?_);change ύ _ _ (field (.ref z) 3>>=_) _ _ _;show ζ (ϲ hz U (x:=.ref m) U ?_);show ζ (E7 S U ?_);change ύ _ _ (y_ (.ref z)>>=_) _ _ _;show ζ ?_;unfold y_;show ζ (ϲ hz U (x:=.none) U (Η ?_));simp only[if_true];show ζ (Q8 ?_);show ζ (ϲ hz U (x:=.ref j) U ?_);show ζ (E8 hz () λg1 N d=>?_);show ζ ?_;simp only[List.zipIdx_cons,List.zipIdx_nil,Tw,List.forIn_nil];show ζ (ζ (Q_ ?_));cases r:xs[v]? with
 |none=>
  show ζ (iq F (K.extBut d.extBut D.i1z) (B.extBut d.extBut D.l1z) r λu0 e f ⟨t,g,i⟩=>?_);let u3:=f _ _ D.i1z.symm N;let u:e≠z:=λq=>by subst q;rw[u3]at g;cases g;simp at i
  show E8 u3 () λM _ h=>L M e (λc o d1 _ p _ q=>h.extBut _ _ d1 (f _ _ p (d.extBut _ _ d1 q))) {t,h.extBut _ _ u g,i}
 |some x=>
  let V:=P.resolve_left (by rw[r];show nofun);show ζ (eJ (K.extBut d.extBut D.i1z) (B.extBut d.extBut D.l1z) r λu0 a0 f=>Η ?_);let C:=f.extBut _ _ D.TOi1 (d.extBut _ _ D.TOz R);show ζ (E7 C U ?_);show ζ (RW C λM t3 h=>?_);show ζ (wpAny_letGo (Η ?_));show ζ (ζ (Q_ ?_));show ζ (BP F (((X.extBut d.extBut D.i2z).extBut f.extBut D.i12.symm).extBut h.extBut D.TOi2.symm) (((T.extBut d.extBut D.l2z).extBut f.extBut D.l2i1).extBut h.extBut D.l2TO) V λg4 e I ⟨t,g,i⟩=>?_);let H:=I _ _ D.i2z.symm (h.extBut _ _ D.TOz.symm (f.extBut _ _ D.i1z.symm N));let u:e≠z:=λq=>by subst q;rw[H]at g;cases g;simp at i
  show E8 H () λW _ G=>L W e (λc o d1 d2 p u1 q=>G.extBut _ _ d1 (I _ _ u1 (h.extBut _ _ d2 (f.extBut _ _ p (d.extBut _ _ d1 q))))) {t,G.extBut _ _ u g,i}
def uA{c:Bool}{z h d f e g i:υ}{k j:Nat}{xs ys:Array ν}{x y a b:ν}{Q:Option ν->ψ->Prop}(D:TL z h d f e g i)(hz:T3 s.heap z h d .none)(p:K0 s.heap h (.ref f) (.ref e))(m:K0 s.heap d a b)
  (v:s.heap.IsTupleIter f g k) (u:eo c s.heap e i j) (n:s.heap.IsTuple g xs) (q:Bd c s.heap i ys) (G:xs[k]?=Z x) (B:ys[j]?=Z y)
  (C:∀h',T3 h' z h d (M7 s.heap.objs.size)->K0 h' d x y->h'.IsTupleIter f g (k+1)->eo c h' e i (j+1)->K0 h' s.heap.objs.size x y->(∀c o,c≠z->c≠d->c≠f->c≠e->s.heap.get? c=Z o->h'.get? c=Z o)->Q (Z (.ref s.heap.objs.size)) {s with heap:=h'}):
  ύ (ϓ prog w) A (TR (.ref z)) Q E s:=by
 let l:s.TypeIs (.ref z) "zip":={0,hz,1};unfold TR;show ζ (wpAny_attempt (q_ l Sb (u_ Sb l F.entry_zip_next (xn D hz p m v u n q G B λh' M H r t K I=>Η (C h' M H r t K I)) (F.args_zip_next_1 _))))
def ym{c:Bool}{z i f g d h j:υ}{m k:Nat}{xs ys:Array ν}{a b:ν}{Q:Option ν->ψ->Prop}(u:A.handled=Β)(D:TL z i f g d h j)(hz:T3 s.heap z i f .none)(r:K0 s.heap i (.ref g) (.ref d))(p:K0 s.heap f a b)
  (x:s.heap.IsTupleIter g h m) (v:eo c s.heap d j k) (q:s.heap.IsTuple h xs) (t:Bd c s.heap j ys) (n:xs[m]?=Β\/ys[k]?=Β)
  (B:∀h',(∀c o,c≠z->c≠f->c≠g->c≠d->s.heap.get? c=Z o->h'.get? c=Z o)->Q Β {s with heap:=h'}):ύ (ϓ prog w) A (TR (.ref z)) Q E s:=by
 let l:s.TypeIs (.ref z) "zip":={0,hz,1};unfold TR;show ζ (wpAny_attempt (q_ l Sb (u_ Sb l F.entry_zip_next (AF u D hz r p x v q t n λh' e G ⟨o,C,y⟩=>?_) (F.args_zip_next_1 _))));show ζ (wpAny_isInstance {o,C,y} isSubtype_stop (Η (B _ G)))
def vQ(c:Bool)(a b:υ)(xs ys:Array ν)(p:Nat)(q:Option υ)(t:Array (Option ν)):
  Meets (E_.«zip.__new__» {[.type "zip",.ref a,.ref b],[]}) (λ_ R s=>s.heap.get? a=Z {cls:=.type "tuple",dict:=q,data:=.seq xs p,slots:=t}/\Bd c s.heap b ys /\
   R (.ok (.ret (.ref (sM c s.heap a b).objs.size))) {s with heap:=ke c s.heap a b}):=
 .of_wp λprog w A R s h=>by
  ext(⟨f,g,d,tk,k⟩:s);ext(⟨i,e,h⟩:h);let B:=sub_zip;let m:ϙ.IsTuple (ψ.heap {f,g,d,tk,k}) a xs:={0,i,1,p,1};cases c with
  |true=>
   let j:ϙ.IsList (ψ.heap {f.push {cls:=.type "tuple_iterator",data:=.fields #[.ref a,.int 0 0]},g,d,tk,k}) b ys:=let ⟨o,z,r⟩:=e;{o,ω _ z,r}
   wp_walk using O3 m,S1 j,B_ i;show{01,h}
  |false=>ext(⟨⟨c,v,C,u⟩,e,y,n,x⟩:e);subst y x;let l:(f.push {cls:=.type "tuple_iterator",data:=.fields #[.ref a,.int 0 0]}).get? b=Z {cls:=.type "tuple",dict:=v,data:=.seq ys n,slots:=u}:=ω _ e;let j:ϙ.IsTuple (ψ.heap {f.push {cls:=.type "tuple_iterator",data:=.fields #[.ref a,.int 0 0]},g,d,tk,k}) b ys:={0,l,1,n,1};wp_walk using O3 m,O3 j,B_ i,B_ l;show{01,h}
def yt(t:s.heap.IsTuple l1 xs)(v:Bd c s.heap l2 ys)
  (h:∀h',T3 h' (s.heap.objs.size+4) (s.heap.objs.size+2) (s.heap.objs.size+3) .none->K0 h' (s.heap.objs.size+2) (.ref s.heap.objs.size) (.ref (s.heap.objs.size+1))->K0 h' (s.heap.objs.size+3) .none .none->h'.IsTupleIter s.heap.objs.size l1 0->eo c h' (s.heap.objs.size+1) l2 0 ->
   (∀c o,s.heap.get? c=Z o->h'.get? c=Z o)->Q (.ref (s.heap.objs.size+4)) {s with heap:=h'}):ύ (ϓ prog w) A (call (.type "zip") [.ref l1,.ref l2]) Q E s:=by
 ext(⟨⟨C,l,B,u⟩,m,n,z,x⟩:t);subst n x;show callType_new F.called_zip () (F.typeCall_zip_2 _ _) (F.newCall_zip_2 _ _) (λr=>F.args_object_init_3 r _ _) F.entry_zip_new (vQ c l1 l2 xs ys z l u) {m,v,2};let b:(rY s.heap l1).objs.size=s.heap.objs.size+1:=r9 ..;let f:(tw c s.heap l1 l2).objs.size=s.heap.objs.size+2:=by rw[r9,b]
 let d:(tP c s.heap l1 l2).objs.size=s.heap.objs.size+3:=by rw[r9,f]
 let j:(sM c s.heap l1 l2).objs.size=s.heap.objs.size+4:=by rw[r9,d]
 let a:∀{h:ϙ}{o:Obj}{c:υ}{p:Obj},h.get? c=Z p->(h.push o).get? c=Z p:=λq=>ω _ q;let e:(ke c s.heap l1 l2).get? (sM c s.heap l1 l2).objs.size=Z _:=Ψ _ U;let i:(ke c s.heap l1 l2).get? (tP c s.heap l1 l2).objs.size=Z _:=a (Ψ _ U);let k:(ke c s.heap l1 l2).get? (tw c s.heap l1 l2).objs.size=Z _:=a (a (Ψ _ U));let g:(ke c s.heap l1 l2).get? (rY s.heap l1).objs.size=Z _:=a (a (a (Ψ _ U)));let y:(ke c s.heap l1 l2).get? s.heap.objs.size=Z _:=a (a (a (a (Ψ _ U))));rw[f,d,j]at e;rw[b,f]at k;rw[d]at i;rw[b]at g;rw[j];show{{0,e,1},h _ e k i {0,y,11} {0,g,11} λc o q=>a (a (a (a (a q))))}
end
def ax.sqB(I:ax X pins σ H s)(h:GI c X.K H a xs):∃its,aI xs its/\Bd c s.heap a its.toArray:=by
 cases c
 .ext(⟨its,b,p,_⟩:I.tuple h);show{its,b,p}
 .ext(⟨its,b,p,_⟩:I.list h);show{its,b,p.isList}
def ax.sqB_inj(I:ax X pins σ H s)(h:GI c X.K H a xs)(g:GI c X.K H a ys):xs=ys:=by
 cases c
 .show I.tuple_inj h g
 .show I.list_inj h g
def yl(c:Bool)(K:η)(a b:υ):It:=
 {λi H=>∃xs ys x y,aw K H a xs/\GI c K H b ys/\xs[i]?=Z x/\ys[i]?=Z y,λi H z H'=>∃p x y,H p=Β/\H'=upd H p (.tup [x,y])/\z=.ref p/\(∀xs,aw K H a xs->xs[i]?=Z x)/\∀ys,GI c K H b ys->ys[i]?=Z y,λi H=>∃xs ys,aw K H a xs/\GI c K H b ys/\(xs.length<=i\/ys.length<=i)}
def yh{c:Bool}{P:Ι}{w:ώ}{K:η}{elts:List Ϲ}{x1}{tp:Pos}(a b z TI TO i1 i2:υ)(D1:TI≠z/\TO≠z/\i1≠z/\i2≠z/\TI≠TO/\TI≠i1/\TI≠i2/\TO≠i1/\TO≠i2/\i1≠i2)(D2:a≠TO/\b≠TO):
  tX P w K (.Tuple elts x1 tp) (yl c K a b) [z,TI,TO,i1,i2] z (λi h=>T3 h z TI TO .none/\K0 h TI (.ref i1) (.ref i2)/\(∃u v,K0 h TO u v)/\h.IsTupleIter i1 a i/\eo c h i2 b i) where
 mem:=()
 obj:=λi h st c hc=>by
  ext(⟨hz,hTI,⟨u,v,hTO⟩,⟨o1,e1,c1,d1⟩,⟨o2,e2,c2,d2⟩⟩:st);simp only[ξ,A1,or_false]at hc;rcases hc with rfl|rfl|rfl|rfl|rfl
  .show{_,hz,λv z=>by let z':TJ _=Tf v:=z;cases z'}
  .show{_,hTI,λv z=>by let z':Data.seq _ _=Tf v:=z;cases z'}
  .show{_,hTO,λv z=>by let z':Data.seq _ _=Tf v:=z;cases z'}
  .show{o1,e1,λv z=>by rw[d1]at z;cases z}
  .show{o2,e2,λv z=>by rw[d2]at z;cases z}
 keep:=λi h h' st k=>by ext(⟨hz,hTI,⟨u,v,hTO⟩,h1,h2⟩:st);show{k z () _ hz,k TI () _ hTI,{u,v,k TO () _ hTO},h1.at λo e=>k i1 () o e,h2.at λo e=>k i2 () o e}
 item:=by
  intro X hP hw hK hc i pins s σ H E I hf st hg;subst hP hw hK;ext(⟨xs,ys,x,y,hq1,hq2,hx,hy⟩:hg);ext(⟨its1,rv1,p1,_⟩:I.tuple hq1);ext(⟨its2,rv2,L2⟩:I.sqB hq2);ext(⟨u1,hu1,ru1⟩:rv1.get hx);ext(⟨u2,hu2,ru2⟩:rv2.get hy);ext(⟨hz,hTI,⟨u,v,hTO⟩,h1,h2⟩:st);ext(⟨d1,d2,d3,d4,d5,d6,d7,d8,d9,d10⟩:D1);let L1:s.heap.IsTuple a its1.toArray:=p1;let D:TL z TI TO i1 i2 a b:=by
   ext(⟨o1,e1,c1,_⟩:id L1);ext(⟨o2,e2,c2,_⟩:id L2);ext(⟨o3,e3,c3,_⟩:id h1);ext(⟨o4,e4,c4,_⟩:id h2);show{d1,d2,d3,d4,d5,d6,d7,d8,d9,d10,eM e1 hz (by rw[c1];exactλz=>absurd (P6 z) ()),D2.1,eM e1 e3 (by rw[c1,c3];exactλz=>absurd (P6 z) ()),eM e1 e4 (by rw[c1,c4];show kT ((lU J).2.2 c)),eM e2 hz (by rw[c2];show kT (lU c).1),D2.2,eM e2 e3 (by rw[c2,c3];show kT (lU c).2.1),eM e2 e4 (by rw[c2,c4];show kT ((lU c).2.2 c))}
  show uA D hz hTI hTO h1 h2 L1 L2 (x:=u1) (y:=u2) (↑hu1) (↑hu2) λh3 a1 a2 a3 a4 a5 hk=>{01,wpAny_letOwnedTupleGo_zip a1 λh4 hz4 hs4=>?_};let hzl:z<s.heap.objs.size:=Ξ hz;let hn:H s.heap.objs.size=Β:=I.hok.fresh (Α _);let keep:∀c o,c≠z->c≠TO->c≠i1->c≠i2->s.heap.get? c=Z o->h4.get? c=Z o:=λc o c1 c2 c3 c4 q=>(hs4.2 c c1).trans (hk c o c1 c2 c3 c4 q);let tup:h4.get? s.heap.objs.size=Z {cls:=.type "tuple",data:=.seq #[u1,u2]}:=(hs4.2 _ (Pe hzl)).trans a5;let fpn:∀c∈[z,TI,TO,i1,i2],H c=Β:=λc hc=>(hf c hc).1;let nit:∀c v,H c=Z v->c≠z/\c≠TO/\c≠i1/\c≠i2:=λc v q=>{(λe=>by rw[e,fpn z ()]at q;cases q),(λe=>by rw[e,fpn TO ()]at q;cases q),(λe=>by rw[e,fpn i1 ()]at q;cases q),(λe=>by rw[e,fpn i2 ()]at q;cases q)};let kch:∀c o,c∉[z,TO,i1,i2]->s.heap.get? c=Z o->h4.get? c=Z o:=λc o hc q=>keep c o (λe=>hc (by simp[e])) (λe=>hc (by simp[e])) (λe=>hc (by simp[e])) (λe=>hc (by simp[e])) q;let I2:ax X pins σ (upd H s.heap.objs.size (.tup [x,y])) {s with heap:=h4,toks:=s.toks}:=by
   show I.step (g':=s.gens) (d':=s.drawn) (ch:=[z,TO,i1,i2]) (λc hc=>?_) (λc o _ _ hc' q _=>kch c o hc' q) (λc o _ _ hc' q _=>{o.slots,kch c o hc' q}) (λc o _ q n=>by rw[ai (Cc (Ξ q))];show n) (λc o hc' q=>{o,kch c o hc' q})
    (λc xs q=>by rw[ai (ah q hn)];show q) (λc o v q=>by rw[ai (ah q hn)];show q) (λc ps q=>{#[],by rw[ai (ah q hn),q];simp}) (λm hm=>?_) (λc v q=>?_) I.bare
   .let hc':c∈[z,TI,TO,i1,i2]:=by
     simp only[ξ,A1,or_false]at hc⊢;rcases hc with e|e|e|e<;>simp[e]
    ext(⟨f0,f1,f2,f3,f4,f5⟩:hf c hc');show{f3,f1,f4,f5}
   .ext(⟨o,es,ep,ho,r⟩:hm);show{o,es,ep,keep _ o (ϝ (hf z ()).2.1) (ϝ (hf TO ()).2.1) (ϝ (hf i1 ()).2.1) (ϝ (hf i2 ()).2.1) ho,r}
   .by_cases hb:c=s.heap.objs.size
    .subst hb;rw[aa]at q;cases q;show{(show 2<=Λ by rw[ι];decide),[u1,u2],.cons ru1 (.cons ru2 .nil),{0,tup,1,(0),1},0,tup,1}
    .rw[ai hb]at q;show(I.hok c v q).stay (λc' w' hc' q'=>?_) (λc' q'=>by rw[ai (ah q' hn)];show q') λc' xs q'=>by rw[ai (ah q' hn)];show q'
     rcases hc' with e|e
     .subst e;ext(⟨n1,n2,n3,n4⟩:nit c' v q);show keep c' w' n1 n2 n3 n4 q'
     .ext(⟨n1,n2,n3,n4⟩:nit c' _ e);show keep c' w' n1 n2 n3 n4 q'
  show{.ref s.heap.objs.size,0,I2,1,{0,x,y,hn,11,λxs' h'=>by rw[I.tuple_inj h' hq1];show hx,λys' h'=>by rw[I.sqB_inj h' hq2];show hy},2,λc hc=>?_}
  .show{hz4,hs4.extBut _ _ d1 (hk TI _ d1 d5 d6 d7 hTI),{00,hs4.extBut _ _ d2 a2},a3.at λo e=>hs4.extBut _ _ d3 e,a4.at λo e=>hs4.extBut _ _ d4 e}
  .let hb':c<s.heap.objs.size:=by
    simp only[ξ,A1,or_false]at hc;ext(⟨o3,e3,_⟩:h1);ext(⟨o4,e4,_⟩:h2);rcases hc with e|e|e|e|e
    .rw[e];show hzl
    .rw[e];show Ξ hTI
    .rw[e];show Ξ hTO
    .rw[e];show Ξ e3
    .rw[e];show Ξ e4
   rw[ai (Cc hb')];show fpn c hc
 done:=by
  intro X hP hw hK hc i pins s σ H E I hf st hg;subst hP hw hK;ext(⟨xs,ys,hq1,hq2,hend⟩:hg);ext(⟨its1,rv1,p1,_⟩:I.tuple hq1);ext(⟨its2,rv2,L2⟩:I.sqB hq2);ext(⟨hz,hTI,⟨u,v,hTO⟩,h1,h2⟩:st);ext(⟨d1,d2,d3,d4,d5,d6,d7,d8,d9,d10⟩:D1);let L1:s.heap.IsTuple a its1.toArray:=p1;let D:TL z TI TO i1 i2 a b:=by
   ext(⟨o1,e1,c1,_⟩:id L1);ext(⟨o2,e2,c2,_⟩:L2);ext(⟨o3,e3,c3,_⟩:h1);ext(⟨o4,e4,c4,_⟩:h2);show{d1,d2,d3,d4,d5,d6,d7,d8,d9,d10,eM e1 hz (by rw[c1];exactλz=>absurd (P6 z) ()),D2.1,eM e1 e3 (by rw[c1,c3];exactλz=>absurd (P6 z) ()),eM e1 e4 (by rw[c1,c4];show kT ((lU J).2.2 c)),eM e2 hz (by rw[c2];show kT (lU c).1),D2.2,eM e2 e3 (by rw[c2,c3];show kT (lU c).2.1),eM e2 e4 (by rw[c2,c4];show kT ((lU c).2.2 c))}
  let l1:=rv1.length;let l2:=rv2.length;let fpn:=λc hc=>(hf c hc).1;show ym (I.ok.hd hc) D hz hTI hTO h1 h2 L1 L2 (hend.imp (λh=>by simp;omega) λh=>by simp;omega) λh4 hk=>{12};let nit:∀c v,H c=Z v->c≠z/\c≠TO/\c≠i1/\c≠i2:=λc v q=>{(λe=>by rw[e,fpn z ()]at q;cases q),(λe=>by rw[e,fpn TO ()]at q;cases q),(λe=>by rw[e,fpn i1 ()]at q;cases q),(λe=>by rw[e,fpn i2 ()]at q;cases q)};let kch:∀c o,c∉[z,TO,i1,i2]->s.heap.get? c=Z o->h4.get? c=Z o:=λc o hc q=>hk c o (λe=>hc (by simp[e])) (λe=>hc (by simp[e])) (λe=>hc (by simp[e])) (λe=>hc (by simp[e])) q;show I.step (t':=s.toks) (g':=s.gens) (d':=s.drawn) (λc hc=>?_) (λc o _ _ hc' q _=>kch c o hc' q) (λc o _ _ hc' q _=>{o.slots,kch c o hc' q}) (λc o _ q n=>n) (λc o hc' q=>{o,kch c o hc' q})
   (λc xs q=>q) (λc o v q=>q) (λc ps q=>{#[],by rw[q];simp}) (λm hm=>?_) (λc v q=>?_) I.bare
  .let hc':c∈[z,TI,TO,i1,i2]:=by
    simp only[ξ,A1,or_false]at hc⊢;rcases hc with e|e|e|e<;>simp[e]
   ext(⟨f0,f1,f2,f3,f4,f5⟩:hf c hc');show{f3,f1,f4,f5}
  .ext(⟨o,es,ep,ho,r⟩:hm);show{o,es,ep,hk _ o (ϝ (hf z ()).2.1) (ϝ (hf TO ()).2.1) (ϝ (hf i1 ()).2.1) (ϝ (hf i2 ()).2.1) ho,r}
  .show(I.hok c v q).stay (λc' w' hc' q'=>?_) (λc' q'=>q') λc' xs q'=>q';rcases hc' with e|e
   .subst e;ext(⟨n1,n2,n3,n4⟩:nit c' v q);show hk c' w' n1 n2 n3 n4 q'
   .ext(⟨n1,n2,n3,n4⟩:nit c' _ e);show hk c' w' n1 n2 n3 n4 q'
 self:=λA i s Q E st h=>wpAny_pyIter_zip st.1 h
def CV(p:Bd c h a its):a<h.objs.size:=by ext(⟨o,e,_⟩:p);show Ξ e
section
variable{X:Cx}
inductive Ga (c:Bool) (K:η) (R:It->Hp->Prop) (vs:List V) (H1:Hp):Prop|mk a b (_:vs=[.ref a,.ref b]) (_:(∃xs,aw K H1 a xs)) (_:(∃ys,GI c K H1 b ys)) (_:R (yl c K a b) H1)
def Oc(c:Bool)(K:η)(a:TA):TI:=λσ H R=>a σ H (Ga c K R)
def pi_zip2{c:Bool}{a b:Ϲ}{F:TA}{p pos:Pos}{k:List Ϲ}{x1}{B:Pos}(u1:Gl X "zip")(hm:X.mg "zip"=Β)(u2:PA X [a,b] F)(E:autoParam (ϗ [a,b] X.env=(J,eval a X.env)::ϗ [b] X.env) yR._auto_1)(K:autoParam ((C_ pos (ϗ [b] X.env)).any (·.1)=J) yR._auto_1):
  PI X (.Tuple k x1 B) (.Call (.Name "zip" p) [a,b] [] pos) (Oc c X.K F):=by
 intro G s σ H R I h;show Call_ (iu I u1 hm (u:=.type "zip") () (A2 (bw (u2 pos G s σ H _ I h) λus d ⟨vs,V,g,S,N⟩=>?_) E K));ext(⟨l,m,e,⟨xs,M⟩,⟨ys,L⟩,q⟩:N);subst e;ext(⟨u,w',rfl,W,u3⟩:vi S);cases W;cases u3;ext(⟨a2,a4,D,_⟩:g.tuple M);ext(⟨a1,a3,C⟩:g.sqB L);show yt D C λh' hz v o t x Q=>?_;let f:∀(n i j:Nat),i≠j->n+i≠n+j:=λn i j h z=>h (Nat.add_left_cancel z);let T:tX X.prog X.w X.K (.Tuple k x1 B) (yl c X.K l m) [d.heap.objs.size+4,d.heap.objs.size+2,d.heap.objs.size+3,d.heap.objs.size,d.heap.objs.size+1] (d.heap.objs.size+4) _:=
  yh l m (d.heap.objs.size+4) (d.heap.objs.size+2) (d.heap.objs.size+3) d.heap.objs.size (d.heap.objs.size+1)
   {f _ 2 4 (),f _ 3 4 (),f _ 0 4 (),f _ 1 4 (),f _ 2 3 (),f _ 2 0 (),f _ 2 1 (),f _ 3 0 (),f _ 3 1 (),f _ 0 1 ()} {ϩ (Nat.lt_add_right 3 (CV (c:=J) D)),ϩ (Nat.lt_add_right 3 (CV C))}
 show T.self X.A 0 {d with heap:=h'} _ _ {hz,v,{00,o},t,x} ?_;show{d.heap.objs.size+4,000,V,1,(g.kept (t':=d.toks) Q),T,{hz,v,{00,o},t,x},λb y=>?_,q};let r:d.heap.objs.size<=b:=by
  simp only[ξ,A1,or_false]at y;rcases y with e|e|e|e|e
  .rw[e];show E3 _ _
  .rw[e];show E3 _ _
  .rw[e];show E3 _ _
  .rw[e];show Α _
  .rw[e];show E3 _ _
 ext(⟨P,u0⟩:g.fpOk r (g.hok.fresh r));show{P,u0}
def yO{c:Bool}{k:Nat}{ix:List Nat}{g:TG}{n:TT}{m:TE}{σ:St}{o:Hp}{Q:List V->Hp->Prop}{K:η}{a b:υ}{xs ys:List V}(e:Nat->List V->Hp->Prop)(z:e 0 [] o)(l:∀i d H,e i d H->aw K H a xs/\GI c K H b ys)
  (C:∀i d H x y p,xs[i]?=Z x->ys[i]?=Z y->e i d H->H p=Β->gf k ix g n m σ (.ref p) d (upd H p (.tup [x,y])) (e (i+1))) (t:∀d H,e (min xs.length ys.length) d H->Q d H):FG (yl c K a b) k ix g n m σ o Q:=by
 show rg e z (λi d H h p=>?_) (λd H p=>?_) (λi d H x H' h p y=>?_) t
 .ext(⟨f,j⟩:l i d H p);show{xs,ys,xs[i]'(),ys[i]'(),f,j,33}
 .ext(⟨f,j⟩:l _ d H p);show{xs,ys,f,j,3}
 .ext(⟨f,j⟩:l i d H p);ext(⟨c,q,B,r,F,u,D,v⟩:y);subst F u;show C i d H q B c (D xs f) (v ys j) p r
def DL{c:Bool}{K:η}{a b:υ}{xs ys:List V}{g:TG}{tb:TS}{D:eh}{σ:St}{H:Hp}(d:Nat->St->Hp->Prop)(v:d 0 σ H)(F:∀i σ H,d i σ H->aw K H a xs/\GI c K H b ys)
  (B:∀i x y σ H p,xs[i]?=Z x->ys[i]?=Z y->d i σ H->H p=Β->g (.ref p) σ (upd H p (.tup [x,y])) λf k=>tb {D with nx:=d (i+1),ct:=d (i+1),bk:=D.nx} f k) (o:∀σ H,d (min xs.length ys.length) σ H->D.nx σ H):
  ∃W:Nat->Nat->St->Hp->Prop,(∃m,W 0 m σ H)/\∀i m σ H,W i m σ H ->
   ((yl c K a b).stop i H/\D.nx σ H)\/((yl c K a b).go i H/\∃N:St->Hp->Prop,(∀σ' H',N σ' H'->∃l,l<m/\W (i+1) l σ' H')/\∀x H',(yl c K a b).yld i H x H'->g x σ H' λf k=>tb {D with nx:=N,ct:=N,bk:=D.nx} f k):=by
 show{λi m σ H=>m=min xs.length ys.length-i/\i<=min xs.length ys.length/\d i σ H,{min xs.length ys.length,3,ϋ _,v},2};ext i m σ H ⟨rfl,s,p⟩;ext(⟨h,j⟩:F i σ H p);by_cases n:i<min xs.length ys.length
 .let t:i<xs.length:=();show .inr {{xs,ys,xs[i],ys[i],h,j,by simp[t],by simp[()]},d (i+1),λσ' H' I=>{min xs.length ys.length-(i+1),31,n,I},λz H' y=>?_};ext(⟨c,x,y,q,G,r,C,u⟩:y);subst G r;show B i x y σ H c (C xs h) (u ys j) p q
 .let e:i=min xs.length ys.length:=();subst e;show .inl {{xs,ys,h,j,3},o σ H p}
end
def wm(l:υ)(items:Array ν)(n:Nat)(b:υ)(a:Array ν)(m:Nat)(i:Option υ)(e:Array (Option ν))(p:¬(!items.isEmpty&&y9 (items.size+a.size))=O)(o:items.size<=Λ)(f:items.size+a.size<=Λ+1):
  Meets (E_.«list.extend» {[.ref l,.ref b],[]}) (λ_ R s=>s.heap.get? l=Z {cls:=.type "list",data:=.seq items n}/\s.heap.get? b=Z {cls:=.type "tuple",dict:=i,data:=.seq a m,slots:=e}/\R (.ok (.ret J0)) {s with heap:=s.heap.update l (Q6 λx=>x++a),toks:=s.toks}):=
 .of_wp λprog w A R s h=>by
  ext(⟨q,g,d,tk,r⟩:s);ext(⟨c,k,h⟩:h);let j:(items++a).size<=Λ+1:=by rw[Array.size_append];show f
  wp_walk using(wpAny_updateSeq c U (_hz':=j)),B_ c,B_ k;show{01,h}
section
variable{X:Cx}
inductive NI (K:η) (x:V) (vs:List V) (H:Hp) (Q:VK):Prop|mk l b xs zs (_:x=.ref l) (_:vs=[.ref b]) (_:H l=Z (.lst xs)) (_:aw K H b zs) (_:xs.length+zs.length<=Λ) (_:Q .non (upd H l (.lst (xs++zs))))
def Ia:OC X "list.extend" (NI X.K):=by
 ext A s σ H x vs v us Q I y g ⟨l,b,xs,D,rfl,rfl,d,m,hz,q⟩;cases y;ext(⟨u,rfl,o⟩:g.one);cases o;ext(⟨z,its,n,r,E,e⟩:I.lstM d);ext(⟨a,c,⟨⟨cls,j,B,p⟩,i,k,w,h⟩,_⟩:I.tuple m);subst k h;let C:=c.length;let hsz:its.toArray.size+a.toArray.size<=Λ:=by rw[Ο,Ο];omega
 let f:¬ (!its.toArray.isEmpty&&y9 (its.toArray.size+a.toArray.size))=O:=by rw[nK hsz,SH];show Χ
 show G2 F.slot_list_extend {0,e,1} F.entry_list_extend (F.args_list_extend_2 _ _)
  (wm l its.toArray n b a.toArray w j p f (by rw[Ο];omega) ()) {e,i,2}
 show{.non,0,I.lset (its':=its++a) d e () (r.append c) ?_,1,q};rw[Ε];omega
def Cv(c:X.A.units<C2):fE X (j8 .Eq) (λx y H Q=>∃(l b:υ) (xs:List V),x=.ref l/\y=.ref b/\aD X.K H l xs/\aD X.K H b []/\Q (.bl xs.isEmpty) H):=by
 ext r s σ H x y v u Q I o n ⟨l,b,xs,rfl,rfl,m,g,q⟩;cases o;cases n;ext(⟨its,k,f,_⟩:I.list m);ext(⟨w,i,d,_⟩:I.list g);let a:=k.length;let p:=i.length;cases xs with
 |nil=>
  show T4.lists (e:=λ_=>O) f.isList d.isList (by simp;omega) c (λj h z=>?_) X.prog X.w X.xe _ ?_
  .let:j<its.length:=↑h
   simp at a;omega
  .let e:((ϳ its.toArray.size).all λ_=>O)=O:=();rw[e];show{.bl O,H,I,1,q}
 |cons x xs=>show T4.lists_lengths f.isList d.isList ?_ c X.prog X.w X.xe _ {.bl J,H,I,1,q};rw[Δ]at a;rw[B6]at p;rw[Ο,Ο,bne_iff_ne];omega
inductive NW (x:V) (y:V) (H:Hp) (Q:VK):Prop|mk (n:Nat) (ds:List Dv) (_:(∀d∈ds,Pl n d)) (_:n<=140) (_:aj H (.lst ds) x) (_:aj H (.lst ds) y) (_:Q (.bl J) H)
def Hj(M:X.A.units+150<C2):fE X (j8 .NotEq) NW:=by
 ext T s σ H x y v u Q I G C ⟨n,ds,g,R,f,c,q⟩;ext(⟨l,vs,rfl,B,h⟩:f);ext(⟨P,N,rfl,A,m⟩:c);cases G;cases C;ext(⟨its,p,F,_⟩:I.list (aD.of B));ext(⟨K,k,E,_⟩:I.list (aD.of A));let o:X.A.in1.units+n<C2:=by change X.A.units+1+n<C2;omega
 obtain⟨t,L,w⟩:=pG I (n:=n) (λd i e D v w a b f c r z=>Gd I (g d i) (g e D) o f c r z) h m p k;show Tp.lists F.isList E.isList () () w X.prog X.w X.xe _ ?_;let e:(!((ϳ its.toArray.size).all λj=>mh (ds[j]?=ds[j]?)))=J:=by
  rw[Bool.not_eq_false',Ϸ]
  exactλj _=>ij.mpr U
 rw[e];show{.bl J,H,I,1,q}
end
section
variable{prog:Ι}{w:ώ}{A:Ϛ}{E:ν->ψ->Prop}{s:ψ}
end
section
variable{X:Cx}
end
section
variable{prog:Ι}{w:ώ}{A:Ϛ}{E:ν->ψ->Prop}
end
section
variable{X:Cx}{pos:Pos}
end
end L2
namespace KB
open PySem L2
abbrev Pr:=Str×Int
def Mw(p q:Pr):Prop:=p.1.cps.toList<q.1.cps.toList
structure vJ(ps:List Pr):Prop where
 pw:ps.Pairwise Mw
 ge:∀p∈ps,1<=p.2
def wC{a b:Str}(h:a.cps.toList=b.cps.toList):a=b:=by cases a;cases b;congr 1;show TX h
def gY(kvs:List Pr)(x:Str)(n:Int):List Pr:=if (kvs.any λp=>decide (p.1=x))=O then kvs.map (λp=>if p.1=x then (p.1,n)else p)else kvs++[(x,n)]
def bT(x:Str):Bool:=decide (1<=x.cps.size)&&decide (x.cps.size<=8)&&x.cps.toList.all λc=>decide (97<=c)&&decide (c<=122)
def Cb(c:Nat):Bool:=decide (97<=c)&&decide (c<=122)
def aj.tup_inv(h:aj H (.tup ds) v):∃a vs,v=.ref a/\H a=Z (.tup vs)/\Reps H ds vs:=by simpa only[aj]using h
def Reps.two(h:Reps H [d,e] vs):∃x y,vs=[x,y]/\aj H d x/\aj H e y:=by ext(⟨x,r,rfl,b,y,c,rfl,a,rfl⟩:h);show{x,y,1,b,a}
def dk(kvs:List (Str×Int)):List (en×V):=kvs.map λp=>(f_ p.1,V.int p.2)
def db(c:Int)(ps:List (Str×Int)):Dv:=.tup [.int c,.tup (ps.map λp=>.tup [.str p.1,.int p.2])]
def CT(r:TK):Str×Int:=(r.2.1,match r.2.2 with| [.int n]=>n|_=>0)
def qL:∀{a:List TK},(∀r∈a,H r.1=Z (.tup [.str (CT r).1,.int (CT r).2]))->Reps H ((a.map CT).map λp=>Dv.tup [.str p.1,.int p.2]) (a.map λr=>V.ref r.1)
 |[],_=>by simp[Reps]
 |r::a,h=>by show{0012,qL λx b=>h x (ρ _ b)};show{r.1,01,h r π,001100111}
def yM:((f_ a:en)=f_ b)↔a=b:={λh=>by injection h,λh=>by rw[h]}
def LI(kvs:List (Str×Int))(x:Str)(n:Int):dk (gY kvs x n)=ie (dk kvs) (f_ x) (.int n):=by
 unfold gY ie dk;let e:((kvs.map λp=>((f_ p.1:en),V.int p.2)).any λa=>decide (a.1=f_ x))=kvs.any λp=>decide (p.1=x):=by rw[List.any_map];congr 1;funext p;simp[Function.comp]
 rw[e];split
 .rw[Ϙ,Ϙ];show C7 λp _=>?_;simp only[Function.comp];by_cases h:p.1=x
  .rw[Z5 h,Z5 (yM.mpr h)]
  .rw[Z6 h,Z6 (λz=>h (yM.mp z))]
 .rw[Κ];rfl
def BB(c:(kvs.map (·.1)).Nodup):((gY kvs x n).map (·.1)).Nodup:=by
 unfold gY;split
 .let e:(kvs.map (λp=>if p.1=x then (p.1,n)else p)).map (·.1)=kvs.map (·.1):=by
   rw[Ϙ];show C7 λp _=>?_;simp only[Function.comp];split<;>rfl
  rw[e];show c
 .rename_i h;rw[Κ,List.nodup_append];show{c,3,λa i b g=>?_};let d:b=x:=↑g
  subst d;intro e;subst e;ext(⟨p,f,e⟩:Ρ.mp i);show h (n_.mpr {p,f,Z9 e})
def Eb(kvs:List (Str×Int))(x:Str)(n:Int):(gY kvs x n).length<=kvs.length+1:=by
 unfold gY;split
 .rw[ε];omega
 .rw[Ε];simp
def DF{R:Str×Int->Prop}{kvs:List (Str×Int)}{x:Str}{n:Int}(h:∀p∈kvs,R p)(b:R (x,n)):∀p∈gY kvs x n,R p:=by
 intro p a;unfold gY at a;split at a
 .ext(⟨q,c,e⟩:Ρ.mp a);by_cases z:q.1=x
  .rw[Z5 z]at e;rw[<-e,z];show b
  .rw[Z6 z]at e;rw[<-e];show h q c
 .rcases Ν.mp a with a|a
  .show h p a
  .rw[ο.mp a];show b
abbrev bi(ps:List Pr):List Dv:=ps.map λp=>.tup [.str p.1,.int p.2]
def zB{H:Hp}{ps:List Pr}{us:List V}(k:Reps H (bi ps) us){i:Nat}{x:V}(j:us[i]?=Z x):∃p b,ps[i]?=Z p/\x=.ref b/\H b=Z (.tup [.str p.1,.int p.2]):=by
 ext(⟨d,a,h⟩:k.get j);rw[ϑ]at a;cases e:ps[i]? with
 |none=>rw[e]at a;cases a
 |some p=>rw[e]at a;obtain rfl:Dv.tup [.str p.1,.int p.2]=d:=ϡ a;ext(⟨b,m,rfl,c,f⟩:aj.tup_inv h);ext(⟨y,z,rfl,l,g⟩:Reps.two f);subst l g;show{p,b,11,c}
def zy(R:aj H (db c ps) v):∃a b us,v=.ref a/\H a=Z (.tup [.int c,.ref b])/\H b=Z (.tup us)/\Reps H (bi ps) us/\us.length=ps.length:=by ext(⟨a,j,rfl,i,h⟩:aj.tup_inv R);ext(⟨x,y,rfl,e,f⟩:Reps.two h);subst e;ext(⟨b,us,rfl,g,d⟩:aj.tup_inv f);let:=d.length;rw[ε]at this;show{a,b,us,1,i,g,d,this}
def len_rep(d:H a=Z (.tup [.int c,.ref b]))(e:H b=Z (.tup us))(f:Reps H (bi ps) us):aj H (db c ps) (.ref a):=by show{a,01,d,0011001,{b,us,1,e,f},1}
def RL(h:decide (V.int i=V.int j)=O):i=j:=by let:=Z7 h;injection this
def z2:2<=Λ:=by rw[ι];decide
def z1:1<=Λ:=by rw[ι];decide
def z3:3<=Λ:=by rw[ι];decide
def FF(h:x∉kvs.map (·.1)):gY kvs x n=kvs++[(x,n)]:=by unfold gY;rw[Z6];intro e;rw[n_]at e;ext(⟨p,a,e⟩:e);show h (Ρ.mpr {p,a,Z7 e})
def qO(h:x∈kvs.map (·.1)):(gY kvs x n).map (·.1)=kvs.map (·.1):=by unfold gY;ext(⟨p,a,rfl⟩:Ρ.mp h);rw[Z5 (n_.mpr {p,a,Z9 U}),Ϙ];show C7 λr _=>?_;change(if r.1=p.1 then (r.1,n)else r).1=r.1;split<;>rfl
section
variable{K:η}
end
def fc(h:D.nx σ H):zE D σ H:=h
def HK{a:List Int}{k:Int}(c:0<=k)(h:k<(a.length:Int)):∃v:Int,kq (a.map V.int) k=Z (.int v):=by let q:kq (a.map V.int) ((k.toNat:Nat):Int)=Z (.int a[k.toNat]):=ad (by rw[ϑ,Ζ ()]<;>rfl);let b:k=((k.toNat:Nat):Int):=();rw[<-b]at q;show{0,q}
def mW(n:Int)(h:0<n):0<=a%n/\a%n<n:={Int.emod_nonneg _ (),Int.emod_lt_of_pos _ h}
def ap(a:υ)(H H':Hp):Prop:=∀g o,g≠a->H g=Z o->H' g=Z o
def ap.refl(a:υ)(H:Hp):ap a H H:=λ_ _ _ e=>e
def ap.trans(s:ap a H H1)(t:ap a H1 H2):ap a H H2:=λg o b e=>t g o b (s g o b e)
def af.b(a:υ)(s:af H H'):ap a H H':=λg o _ e=>s g o e
def ap.upd(H:Hp)(a:υ)(o:HO):ap a H (upd H a o):=λg u b e=>by rw[ai b];show e
def ap.same(h:H a=Β)(s:af H H1)(t:ap a H1 H2):af H H2:=λg o e=>t g o (ah e h) (s g o e)
def pR(H H':Hp):Prop:=∀b a,H b=Z (.tup a)->H' b=Z (.tup a)
def ap.tups(s:ap a H H')(h:H a=Z (.lst xs)):pR H H':=λb c e=>s b _ (λz=>by rw[z,h]at e;cases e) e
def ce:∀{ds:List Dv}{vs:List V},(∀d∈ds,∀v,aj H d v->aj H' d v)->Reps H ds vs->Reps H' ds vs
 |[],vs,_,h=>by simpa only[Reps]using h
 |d::ds,vs,f,h=>by ext(⟨v,r,rfl,c,b⟩:h);show{v,r,1,f d π v c,ce (λe a=>f e (ρ _ a)) b}
def bq(t:pR H H')(h:L2.Pl n d):∀{v:V},aj H d v->aj H' d v:=by
 induction h with
 |int=>intro v r;simpa only[aj]using r
 |str=>intro v r;simpa only[aj]using r
 |non=>intro v r;simpa only[aj]using r
 |tup _ ih=>intro v r;ext(⟨a,vs,rfl,ha,rs⟩:r);show{a,vs,1,t _ _ ha,ce (λd hd v r=>ih d hd r) rs}
def rJ(c:Int)(ps:List Pr):L2.Pl 3 (db c ps):=.tup λd b=>by
 rcases ξ.mp b with rfl|b
 .show .int
 .rw[ο.mp b];show .tup λe h=>?_;ext(⟨p,_,rfl⟩:Ρ.mp h);show .tup λg f=>?_;rcases ξ.mp f with rfl|f
  .show .str
  .rw[ο.mp f];show .int
def Im(d:Nat->St->Hp->Prop)(m:Nat)(h:d m σ H)
  (i:∀m σ H,d m σ H->c σ H λb a=>if b=O then tb {D with nx:=λσ' H'=>∃e,e<m/\d e σ' H',ct:=λσ' H'=>∃e,e<m/\d e σ' H',bk:=D.nx} σ a else D.nx σ a)
  (g:∀σ H Q f,(∀b a,Q b a->f b a)->c σ H Q->c σ H f):yr c tb D σ H:=by
 show{d,{m,h},λm σ H p=>g σ H _ _ (λb a q=>?_) (i m σ H p)};cases b with
 |true=>show{0,λσ' H' j=>j,q}
 |false=>show q
def oX:∀σ H (Q a:Bool->Hp->Prop),(∀b c,Q b c->a b c)->(λ(σ:St) (H:Hp) (Q:Bool->Hp->Prop)=>jq i σ H λx H'=>∃k,GN K x H' k/\Q k H') σ H Q->(λ(σ:St) (H:Hp) (Q:Bool->Hp->Prop)=>jq i σ H λx H'=>∃k,GN K x H' k/\Q k H') σ H a:=by ext σ H Q a h ⟨v,e,k,t,q⟩;show{v,e,k,t,h _ _ q}
inductive Kd where
 |whole
 |place (c:Int) (ps:List Pr)
 |row (c:Int) (ps:List Pr) (k:Kd)
 |pair (k j:Kd)
def Kd.dv:Kd->Dv
 |.whole=>.tup [.str "whole"]
 |.place c ps=>.tup [.str "place",db c ps]
 |.row c ps k=>.tup [.str "row",db c ps,k.dv]
 |.pair k j=>.tup [.str "pair",k.dv,j.dv]
def Kd.size:Kd->Nat
 |.whole=>1
 |.place _ _=>1
 |.row _ _ k=>k.size+1
 |.pair k j=>k.size+j.size+1
def Kd.size_pos:∀k:Kd,1<=k.size
 |.whole=>Α _
 |.place _ _=>Α _
 |.row _ _ k=>by change 1<=k.size+1;omega
 |.pair k j=>by change 1<=k.size+j.size+1;omega
def Kd.pl:∀k:Kd,L2.Pl (k.size+3) k.dv
 |.whole=>.tup λd a=>by rw[ο.mp a];show .str
 |.place c ps=>.tup λd a=>by
  rcases ξ.mp a with rfl|a
  .show .str
  .rw[ο.mp a];show rJ c ps
 |.row c ps k=>.tup λd a=>by
  rcases ξ.mp a with rfl|a
  .show .str
  rcases ξ.mp a with rfl|a
  .show(rJ c ps).up (by change 3<=k.size+3;omega)
  .rw[ο.mp a];show k.pl
 |.pair k j=>.tup λd a=>by
  rcases ξ.mp a with rfl|a
  .show .str
  rcases ξ.mp a with rfl|a
  .show k.pl.up (by change k.size+3<=k.size+j.size+3;omega)
  .rw[ο.mp a];show j.pl.up (by change j.size+3<=k.size+j.size+3;omega)
def Kd.word:Kd->Str
 |.whole=>"whole"
 |.place _ _=>"place"
 |.row _ _ _=>"row"
 |.pair _ _=>"pair"
def Kd.All(P:Int->List Pr->Prop):Kd->Prop
 |.whole=>True
 |.place c ps=>P c ps
 |.row c ps k=>P c ps/\k.All P
 |.pair k j=>k.All P/\j.All P
def Kd.tupS{H H':Hp}(t:pR H H'){k:Kd}{v:V}(r:aj H k.dv v):aj H' k.dv v:=bq t k.pl r
def Kd.inv{H:Hp}{k:Kd}{v:V}(r:aj H k.dv v):∃a vs,v=.ref a/\H a=Z (.tup (.str k.word::vs)) /\
  (match k with
   |.whole=>vs=[]
   |.place c ps=>∃l,vs=[l]/\aj H (db c ps) l
   |.row c ps j=>∃l u,vs=[l,u]/\aj H (db c ps) l/\aj H j.dv u
   |.pair i j=>∃u w,vs=[u,w]/\aj H i.dv u/\aj H j.dv w):=by
 cases k with
 |whole=>ext(⟨a,vs,rfl,ha,x,r1,rfl,rfl,rfl⟩:r);show{a,[],1,ha,1}
 |place c ps=>rw[Kd.dv,aj]at r;ext(⟨a,vs,rfl,ha,rs⟩:r);simp only[Reps]at rs;ext(⟨x,r1,rfl,hx,y,r2,rfl,hy,rfl⟩:rs);simp only[aj]at hx;subst hx;show{a,01,ha,y,1,hy}
 |row c ps j=>rw[Kd.dv,aj]at r;ext(⟨a,vs,rfl,ha,rs⟩:r);simp only[Reps]at rs;ext(⟨x,r1,rfl,hx,y,r2,rfl,hy,z,r3,rfl,hz,rfl⟩:rs);simp only[aj]at hx;subst hx;show{a,01,ha,y,z,1,hy,hz}
 |pair i j=>rw[Kd.dv,aj]at r;ext(⟨a,vs,rfl,ha,rs⟩:r);simp only[Reps]at rs;ext(⟨x,r1,rfl,hx,y,r2,rfl,hy,z,r3,rfl,hz,rfl⟩:rs);simp only[aj]at hx;subst hx;show{a,01,ha,y,z,1,hy,hz}
def BY(h:H a=Z (.tup [.str "whole"])):aj H Kd.whole.dv (.ref a):=by show{a,01,h,00111}
def BT(h:H a=Z (.tup [.str "place",l]))(r:aj H (db c ps) l):aj H (Kd.place c ps).dv (.ref a):=by rw[Kd.dv,aj];show{a,01,h,2};show{001,by simp only[aj],001,r,1}
def Gk(h:H a=Z (.tup [.str "row",l,u]))(r:aj H (db c ps) l)(b:aj H k.dv u):aj H (Kd.row c ps k).dv (.ref a):=by rw[Kd.dv,aj];show{a,01,h,2};show{001,by simp only[aj],001,r,001,b,1}
def Ev(h:H a=Z (.tup [.str "pair",l,u]))(r:aj H j.dv l)(b:aj H k.dv u):aj H (Kd.pair j k).dv (.ref a):=by rw[Kd.dv,aj];show{a,01,h,2};show{001,by simp only[aj],001,r,001,b,1}
def ww{G c:Hp}{kvs:List Pr}{a:List TK}(q:∀r∈a,c r.1=Z (.tup (.str r.2.1::r.2.2))/\G r.1=Β)(g:(a.map (·.2)).Perm ((kvs.map λp=>(p.1,V.int p.2)).map λp=>(p.1,[p.2])))(l:a.Pairwise GX)(j:∀p∈kvs,1<=p.2):
  (a.map CT).Perm kvs/\vJ (a.map CT)/\∀t,c t=Β->aj (upd c t (.tup (a.map λr=>V.ref r.1))) (.tup (bi (a.map CT))) (.ref t):=by
 let i:∀r∈a,∃p∈kvs,r.2=(p.1,[V.int p.2]):=λr b=>by let:=g.mem_iff.mp (j_ b);rw[Ϙ]at this;ext(⟨p,d,e⟩:Ρ.mp this);show{p,d,e.symm}
 let tk:∀r∈a,r.2.1=(CT r).1/\r.2.2=[V.int (CT r).2]:=λr b=>by ext(⟨p,_,e⟩:i r b);unfold CT;rw[e];show{11}
 let f:(a.map CT).Perm kvs:=by
  let o:a.map CT=(a.map (·.2)).map λz=>(z.1,match z.2 with| [.int n]=>n|_=>0):=by rw[Ϙ];rfl
  let k:kvs=((kvs.map λp=>(p.1,V.int p.2)).map λp=>(p.1,[p.2])).map λz=>(z.1,match z.2 with| [.int n]=>n|_=>0):=by rw[Ϙ,Ϙ];show(List.map_id kvs).symm
  rw[o];rw[k];show g.map _
 show{f,{List.pairwise_map.mpr (l.imp λ{x y} h=>h),λp d=>j p (f.mem_iff.mp d)},λt m=>?_};show{t,01,aa,qL λr b=>?_};let:=(q r b).1;rw[(tk r b).1,(tk r b).2]at this;show ac m _ _ _ this
def EK(a:H p=Z (.tup [.int c,w]))(R:aj H (.tup (bi ps)) w):aj H (db c ps) (.ref p):=by ext(⟨b,us,rfl,d,e⟩:aj.tup_inv R);show len_rep a d e
def km:∀{ds:List Dv}{d:Dv}{vs:List V},Reps H (ds++[d]) vs->∃a v,vs=a++[v]/\Reps H ds a/\aj H d v
 |[],d,vs,h=>by ext(⟨v,r,rfl,b,rfl⟩:h);show{[],v,1,by simp only[Reps],b}
 |e::ds,d,vs,h=>by ext(⟨v,r,rfl,b,f⟩:h);ext(⟨a,u,rfl,g,c⟩:km f);show{v::a,u,U,by simp only[Reps];show{v,a,1,b,g},c}
def be(h:aj H d v):Reps H [d] [v]:=by simp only[Reps];show{v,[],1,h,1}
def vp(vs:List V)(v:V):(vs++[v])[(vs++[v]).length-1]?=Z v:=()
def yN(C:Prop)(b:C->Q O H)(a:Q J H)(f:(C->Q O H)->Q J H->Kk t1 t2 σ H Q):Kk t1 t2 σ H Q:=f b a
def Ar:∀{l:List α},l≠[]->∃a x,l=a++[x]:=λ{l} h=>by
 rcases K1 l with e|⟨a,x,e⟩
 .show absurd e h
 .show{a,x,by rw[e];simp}
def dQ(h:N (σ.set i (Z x)) H):ez i x σ H N:=h
def QE{A B:Prop}(h:if O=O then A else B):A:=by rwa[Z5 U]at h
def QI{A B:Prop}(h:if J=O then A else B):B:=by rwa[Z6 Χ]at h
def NR:¬ (Y "whole"=Y "place"):=()
def NG:¬ (Y "whole"=Y "row"):=()
def MP:¬ (Y "whole"=Y "pair"):=()
def NJ:¬ (Y "place"=Y "row"):=()
def Ob:¬ (Y "place"=Y "pair"):=()
def Ml:¬ (Y "row"=Y "pair"):=()
def Ca(h:¬ x=y):¬ V.str x=V.str y:=λe=>h (V.str.inj e)
end KB
namespace L2
open PySem PySem.Spec PyProof.Rows PySem.W
section
variable{X:Cx}
end
end L2
namespace KB
open PySem L2
def gA{H:Hp}{α:Type}{f:α->Dv}{xs:List α}{us:List V}{i:Nat}{u:V}(R:Reps H (xs.map f) us)(h:us[i]?=Z u):∃x,xs[i]?=Z x/\aj H (f x) u:=by ext(⟨d,hd,Rd⟩:R.get h);rw[ϑ]at hd;ext(⟨x,hx,rfl⟩:ϫ.mp hd);show{x,hx,Rd}
end KB
namespace L2
open PySem PySem.Spec PyProof.Rows PySem.W
section
variable{P:Ι}{w:ώ}{A:Ϛ}{E:ν->ψ->Prop}{s:ψ}
end
section
variable{X:Cx}
end
section
variable{prog:Ι}{w:ώ}{A:Ϛ}{E:ν->ψ->Prop}{s:ψ}{r l:υ}{items:Array ν}
end
section
variable{X:Cx}{e:Ϲ}{te:TE}{p p1 pos pos1:Pos}
end
section
variable{X:Cx}
inductive Ly  (Q:VK) (x:V) (H1:Hp):Prop|mk (i:Int) (_:x=.int i) (_:i.natAbs.log2<1920) (_:Q (.str (toString i)) H1)
def PJ(a:TE):TE:=λσ H Q=>a σ H (Ly Q)
def JW(g:PE X e te):PE X (.FormattedValue e (-1) Β pos) (PJ te):=λa s σ H Q I h=>
 SK (bw (g a s σ H _ I h) λv l ⟨x,f,c,d,i,j,b,q⟩=>by subst j;ext(⟨k,rfl⟩:d);show wpAny_formatField_int b {.str (toString i),f,c.tok _,{01},q})
def xG:FH X "str.startswith" (λx xs H Q=>∃(a b:Str) (i:Int),x=.str a/\xs=[.str b,.int i]/\Q (.bl (Txt.startswith3 a b i)) H):=by
 ext g s σ H x xs v us Q I f r ⟨a,b,i,rfl,rfl,q⟩;ext(⟨t,rfl⟩:f);cases r with
 |cons e c=>
  cases c with
  |cons d c=>cases c;ext(⟨j,rfl⟩:e);ext(⟨h,rfl⟩:d);show SC.startswith3 {.bl _,H,I,1,q}
def pS:eQ X (.type "int") (λxs H Q=>∃(a:Str) (n:Int),xs=[.str a]/\PySem.intText? a=Z n/\a.length<=640/\Q (.int n) H):=by ext d s σ H xs us Q I r ⟨a,n,rfl,b,c,q⟩;ext(⟨u,rfl,t,rfl⟩:fj r);show KIN.call_text b c {.int n,H,I.tok _,{01},q}
def nO:∀l:List (Str×Tok),aI ((l.map (·.1)).map V.str) (strValues l)
 |[]=>.nil
 |(x,t)::l=>.cons {t,1} (nO l)
def fz:FH X "str.split" (λx xs H Q=>∃a b:Str,x=.str a/\xs=[.str b]/\(b.length==0)=J/\a.length<=Λ/\(Txt.split a b).length<=Λ/\∀p,H p=Β->Q (.ref p) (upd H p (.lst ((Txt.split a b).map V.str)))):=by
 ext j s σ H x xs v us Q I m r ⟨a,b,rfl,rfl,h,k,hz,q⟩;ext(⟨t,rfl⟩:m);ext(⟨u,rfl,g,rfl⟩:fj r);let f:∀(l:List (Str×Tok))(tk:Nat),l.map (·.1)=Txt.split a b->EP X j σ Q (.ref s.heap.objs.size) {s with heap:=s.heap.push {cls:=.type "list",data:=.seq (strValues l).toArray},toks:=tk}:=λl tk e=>by show{.ref _,0,I.laid (t':=tk) (λb o q=>ω _ q) (Α _) ?_,1,q _ (I.hok.fresh (Α _))};show{by rw[ε];show hz,strValues l,(0),2,Ψ _ U};rw[<-e];show nO l
 cases c:(decide (a.length<b.length)||decide (E_.Str.strKind a<E_.Str.strKind b))
 .cases d:(H_ a b 0 a.length (a.length+1)).isEmpty
  .let i:Txt.split a b=E_.Str.partsBetween a (H_ a b 0 a.length (a.length+1)) b.length:=(Z6 (ne_true_of_eq_false c)).trans (Z6 (ne_true_of_eq_false d));show G2 Th (O4 _ _ _) S8 (SM _ _) (meets_str_split_sep a b t g c h d k (by rw[<-i];show hz)) ?_;rw[strsFrom_eq];show f (numbered s.toks _) _ ((numbered_texts _ _).trans i.symm)
  .show G2 Th (O4 _ _ _) S8 (SM _ _) (meets_str_split_not_found a b t g c h d) (f [(a,t)] s.toks ((Z6 (ne_true_of_eq_false c)).trans (Z5 d)).symm)
 .show G2 Th (O4 _ _ _) S8 (SM _ _) (meets_str_split_cannot_occur a b t g c) (f [(a,t)] s.toks (Z5 c).symm)
def BK(K:η)(h:X.K=K):eQ X (.type "tuple") (λxs H Q=>∃p ys,xs=[.ref p]/\((aD K H p ys/\∀l,H l=Β->Q (.ref l) (upd H l (.tup ys)))\/(aw K H p ys/\Q (.ref p) H))):=by subst h;show aF
def Kz{o e:Ϲ}{a:List Ϲ}{d:TE}{t:TA}{name:Str}{c b:Pos}{T id:String}{r:V->List V->Hp->VK->Prop}(K:η)(h:X.K=K)(m:PlainAttrs T)(j:Slot T name id)(l:typeOf (.builtin id)=pure (.type "method_descriptor"))(s:FH X id r)(q:PE X o d)(n:PA X (e::a) t)
  (i:autoParam (M9 o name X.env (eval o X.env)=eval o X.env) yR._auto_1)
  (k:autoParam (((C_ b (ϗ (e::a) X.env)).all (λx=>!x.1)&&(backToKw b (S4 [] X.env)).all (λx=>x.1.isSome)
   && decide ((e::a).length+([]:List Keyword).length+(if ([]:List Keyword).isEmpty then 0 else 1)<30))=O) yR._auto_1)
  (g:autoParam ((c.endLine==b.line)=O) yR._auto_1) (p:autoParam (ϗ (e::a) X.env=(J,eval e X.env)::ϗ a X.env) yR._auto_1) (f:autoParam ((C_ b (ϗ a X.env)).any (·.1)=J) yR._auto_1):
  PE X (.Call (.Attribute o name c) (e::a) [] b) (QF K T r d t):=by
 subst h;show pe_bm m j l s q n i k g p f
def mt(x y:Str)(t u:Tok):Meets (E_.«str.count» {[.str x t,.str y u],[]}) (λ_ R s=>(Made.int (Txt.count x y)).post (λv a=>R (.ok (.ret v)) a) s):=
 λprog w A R s h=>gives_str_count x y t u prog w A R s h
def kJ:FH X "str.count" (λx xs H Q=>∃a b:Str,x=.str a/\xs=[.str b]/\Q (.int (Txt.count a b)) H):=by ext e s σ H x xs v us Q I d r ⟨a,b,rfl,rfl,q⟩;ext(⟨t,rfl⟩:d);ext(⟨u,rfl,c,rfl⟩:fj r);show G2 F.slot_str_count (O4 _ _ _) F.entry_str_count (F.args_str_count_2 _ _) (mt a b t c) ?_;rw[Made.post];show{.int _,H,I.tok _,{01},q}
def da:FH X "str.partition" (λx xs H Q=>∃a b:Str,x=.str a/\xs=[.str b]/\(b.length==0)=J/\a.length<=Λ/\∀p,H p=Β->Q (.ref p) (upd H p (.tup [.str (Txt.partition a b).1,.str (Txt.partition a b).2.1,.str (Txt.partition a b).2.2]))):=by
 intro g s σ H x xs v us Q I m r h;ext(⟨a,b,rfl,rfl,j,k,q⟩:h);ext(⟨t,rfl⟩:m);ext(⟨u,rfl,c,rfl⟩:fj r);let d:∀(c e f:Tok)(tk:Nat),EP X g σ Q (.ref s.heap.objs.size) {s with heap:=s.heap.push {cls:=.type "tuple",data:=.seq #[.str (Txt.partition a b).1 c,.str (Txt.partition a b).2.1 e,.str (Txt.partition a b).2.2 f]},toks:=tk}:=λc e f tk=>by show{.ref _,0,I.laid (t':=tk) (λb n q=>ω _ q) (Α _) ?_,1,q _ (I.hok.fresh (Α _))};show{by rw[ι];change 3<=16777216;decide,0,.cons {c,1} (.cons {e,1} (.cons {f,1} .nil)),TN _ _,Hu.new _ U}
 show G2 F.slot_str_partition (O4 _ _ _) F.entry_str_partition (F.args_str_partition_2 _ _) (meets_str_partition a b t c j k) ?_;unfold Txt.partition at d;cases h:H_ a b 0 a.length 1 with
 |nil=>rw[h]at d;show d t s.toks s.toks _
 |cons i l=>rw[h]at d;show d _ c _ _
def iI:FH X "str.startswith" (λx xs H Q=>∃a b:Str,x=.str a/\xs=[.str b]/\Q (.bl (Txt.startswith a b)) H):=by ext d s σ H x xs v us Q I c r ⟨a,b,rfl,rfl,q⟩;ext(⟨t,rfl⟩:c);ext(⟨u,rfl,e,rfl⟩:fj r);show SC.startswith {.bl _,H,I,1,q}
end
end L2
namespace XB
open PySem L2 KB
inductive So|n|x|l|k|w|f|y|e|a|r
deriving DecidableEq
def gj:So->Str
 |.n=>"number"
 |.x=>"name"
 |.l=>"length"
 |.k=>"kind"
 |.w=>"reckon"
 |.f=>"def"
 |.y=>"name"
 |.e=>"part"
 |.a=>"args"
 |.r=>"things"
abbrev Wd:=Str×Str×List So
def WT:List Wd:=[("number","n",[.n]),("name","x",[.x]),("length","l",[.l]),("none","k",[.k]),("place","ll",[.l,.l]),("reckon","wee",[.w,.e,.e]),
 ("if","eee",[.e,.e,.e]),("let","xee",[.x,.e,.e]),("call","fa",[.f,.a]),("pair","ee",[.e,.e]),("first","e",[.e]),("second","e",[.e]),
 ("row","r",[.r]),("join","ee",[.e,.e]),("take","le",[.l,.e]),("drop","le",[.l,.e]),("zip","ee",[.e,.e]),("turn","e",[.e]),
 ("get","ee",[.e,.e]),("value","e",[.e]),("up","le",[.l,.e]),("wide","le",[.l,.e]),("mirror","e",[.e]),("fork","lexee",[.l,.e,.x,.e,.e]),
 ("when","elxee",[.e,.l,.x,.e,.e]),("loop","xle",[.x,.l,.e]),("fold","xlyee",[.x,.l,.y,.e,.e])]
def ST:List Wd:=[("number","n",[.n]),("name","x",[.x]),("length","l",[.l]),("reckon","wee",[.w,.e,.e]),("if","eee",[.e,.e,.e]),("let","xee",[.x,.e,.e]),
 ("call","fa",[.f,.a]),("pair","ee",[.e,.e]),("first","e",[.e]),("second","e",[.e]),("row","r",[.r]),("none","k",[.k]),
 ("join","ee",[.e,.e]),("take","le",[.l,.e]),("drop","le",[.l,.e]),("zip","ee",[.e,.e]),("turn","e",[.e]),("get","ee",[.e,.e]),
 ("place","ll",[.l,.l]),("value","e",[.e]),("up","le",[.l,.e]),("wide","le",[.l,.e]),("mirror","e",[.e]),("fork","lexee",[.l,.e,.x,.e,.e]),
 ("when","elxee",[.e,.l,.x,.e,.e]),("loop","xle",[.x,.l,.e]),("fold","xlyee",[.x,.l,.y,.e,.e])]
instance:DecidableEq Wd:=inferInstance
def JD:∀p∈WT,p∈ST:=()
def Jn:(ST.map (·.1)).Nodup:=()
def Jr:(WT.map (·.1)).Nodup:=()
def KU:∀p∈ST,p.2.2.length<=5:=()
def eS:∀p∈WT,p.2.2.length<=5:=()
def kZ(ss:List So):Nat:=(ss.map λ| .e=>1|.a=>4|.r=>4|_=>0).sum
def Hg:∀p∈WT,kZ p.2.2<=4:=()
def zX:∀s:So,V.str (gj s)=V.str "part"↔s=.e:=by intro s;cases s<;>simp only[V.str.injEq,gj]<;>decide +kernel
def vc:∀s:So,V.str (gj s)=V.str "args"↔s=.a:=by intro s;cases s<;>simp only[V.str.injEq,gj]<;>decide +kernel
def vT:∀s:So,V.str (gj s)=V.str "things"↔s=.r:=by intro s;cases s<;>simp only[V.str.injEq,gj]<;>decide +kernel
def IK:∀s:So,V.str (gj s)=V.str "number"↔s=.n:=by intro s;cases s<;>simp only[V.str.injEq,gj]<;>decide +kernel
def qV:∀s:So,V.str (gj s)=V.str "length"↔s=.l:=by intro s;cases s<;>simp only[V.str.injEq,gj]<;>decide +kernel
def rq:∀s:So,V.str (gj s)=V.str "kind"↔s=.k:=by intro s;cases s<;>simp only[V.str.injEq,gj]<;>decide +kernel
def IY:∀s:So,V.str (gj s)=V.str "reckon"↔s=.w:=by intro s;cases s<;>simp only[V.str.injEq,gj]<;>decide +kernel
def Jb:∀s:So,V.str (gj s)=V.str "def"↔s=.f:=by intro s;cases s<;>simp only[V.str.injEq,gj]<;>decide +kernel
def vZ:∀s:So,V.str (gj s)=V.str "name"↔(s=.x\/s=.y):=by intro s;cases s<;>simp only[V.str.injEq,gj]<;>decide +kernel
def AD{α:Type}{l:List α}{f:α->Str}(b:(l.map f).Nodup){p:α}(a:p∈l):l.find? (λq=>decide (f q=f p))=Z p:=by
 induction l with
 |nil=>cases a
 |cons q l c=>
  rw[ϊ,B0]at b;rw[B5];rcases ξ.mp a with rfl|a
  .simp
  .rw[show decide (f q=f p)=J from Z8 λe=>b.1 (by rw[e];show j_ a)];show c b.2 a
structure Shp(P:Ι)(w:ώ)(K:η)(g:υ):Prop where
 ex:∃kvs,FD P w K g kvs/\(∀p∈WT,∃b,look kvs p.1=Z b/\∀H,aw K H b (p.2.2.map λs=>V.str (gj s)))/\∀x,(look kvs x).isSome=WT.any λp=>decide (p.1=x)
def Ka:TM->Str×υ
 |⟨_,.str x _,.ref b⟩=>(x,b)
 |_=>("",0)
inductive Ents (w:ώ):List TM->Prop
 |nil:Ents w []
 |cons {x:Str} {t:Tok} {b:υ} {es:List TM}:Ents w es->Ents w (⟨PyData.keyHash w.params x,.str x t,.ref b⟩::es)
inductive AreS:List ν->List Str->Prop
 |nil:AreS [] []
 |cons {x:Str} {t:Tok} {us:List ν} {xs:List Str}:AreS us xs->AreS (.str x t::us) (x::xs)
def AreS.vals(h:AreS us xs):aI (xs.map V.str) us:=by
 induction h with
 |nil=>show .nil
 | @cons x t us xs _ a=>show .cons {t,1} a
inductive TupsK (K:η):List (Str×υ)->List Wd->Prop
 |nil:TupsK K [] []
 |cons {x z:Str} {b:υ} {kvs:List (Str×υ)} {ss:List So} {ps:List Wd} {od:Option υ} {its:List ν} {n:Nat} {sl:Array (Option ν)} :
  K.lookup b=Z ⟨.type "tuple",od,.seq its.toArray n,sl⟩->AreS its (ss.map gj)->TupsK K kvs ps->TupsK K ((x,b)::kvs) ((x,z,ss)::ps)
def TupsK.keys(h:TupsK K kvs ps):kvs.map (·.1)=ps.map (·.1):=by
 induction h with
 |nil=>rfl
 |cons _ _ _ a=>rw[ϊ,ϊ,a]
def TupsK.look(h:TupsK K kvs ps)(g:∀p∈ps,p.2.2.length<=5):(ps.map (·.1)).Nodup->∀p∈ps,∃b,L2.look kvs p.1=Z b/\∀H,aw K H b (p.2.2.map λs=>V.str (gj s)):=by
 induction h with
 |nil=>intro _ p a;cases a
 | @cons x z b kvs ss ps o its n m j f _ i=>
  intro c p a;rw[ϊ,B0]at c;unfold L2.look;rw[B5];rcases ξ.mp a with rfl|d
  .rw[Z9 U];show{b,1,λH=>.inr {000,j,1122}}
   .let l:ss.length<=5:=g _ π;let:=f.vals.length;rw[ε,ε]at this;rw[Ο,ι];omega
   .let:=f.vals;rw[Ϙ]at this;show this
  .rw[Z8 (λe:x=p.1=>c.1 (by rw[show(x,z,ss).1=p.1 from e];show j_ d))];show i (λq k=>g q (ρ _ k)) c.2 p d
def Ents.pairs(h:Ents w a):Pairs (bj P w) a ((a.map Ka).map λp=>((f_ p.1:en),ϐ p.2)):=by
 induction h with
 |nil=>show .nil
 | @cons x t b a _ c=>show .cons (ia P w x t) U c
def Ents.keys(h:Ents w c):∀e∈c,∃k,(bj P w).is k e.key=O/\e.hash=(bj P w).hash k:=by
 induction h with
 |nil=>intro e a;cases a
 | @cons x t b c _ d=>
  intro e a;rcases ξ.mp a with rfl|a
  .show{f_ x,ia P w x t,1}
  .show d e a
def Bg(kvs:List (Str×υ))(x:Str):(L2.look kvs x).isSome=(kvs.map (·.1)).any λy=>decide (y=x):=by
 unfold L2.look;rw[P0];induction kvs with
 |nil=>rfl
 |cons p kvs a=>
  rw[B5,ϊ,M_];by_cases h:p.1=x
  .rw[Z9 h];rfl
  .rw[Z8 h,Ta];show a
def NZ:∀p∈ST,p∈WT:=()
def JN(x:Str):(ST.map (·.1)).any (λy=>decide (y=x))=WT.any λp=>decide (p.1=x):=by
 rw[C5,n_,n_];constructor
 .ext⟨y,hy,h⟩;ext(⟨p,hp,rfl⟩:Ρ.mp hy);show{p,NZ p hp,h}
 .ext⟨p,hp,h⟩;show{p.1,j_ (JD p hp),h}
def shp_mk(hl:K.lookup g=Z {.type "dict",Β,.dict es.toArray ep,#[]})(lo:(g==E4)=J)(he:Ents w es)(ht:TupsK K (es.map Ka) ST):Shp P w K g:=by show{es.map Ka,{by rw[ht.keys];show Jn,lo,000,hl,{111},1,λe hm=>he.keys e (↑hm),↑he.pairs},λp hp=>ht.look KU Jn p (JD p hp),λx=>by rw[Bg,ht.keys,JN]}
inductive F2 (R:So->Dv->Prop):List So->List Dv->Prop
 |nil:F2 R [] []
 |cons {s:So} {d:Dv} {ss:List So} {ds:List Dv}:R s d->F2 R ss ds->F2 R (s::ss) (d::ds)
def F2.length(h:F2 R ss ds):ds.length=ss.length:=by
 induction h with
 |nil=>rfl
 |cons _ _ a=>rw[Δ,Δ,a]
def F2.get{R:So->Dv->Prop}{ss:List So}{ds:List Dv}(h:F2 R ss ds){i:Nat}{s:So}(a:ss[i]?=Z s):∃d,ds[i]?=Z d/\R s d:=by
 induction h generalizing i with
 |nil=>cases a
 |cons h _ b=>
  cases i with
  |zero=>cases a;show{01,h}
  |succ i=>show b a
def Pw(E:Dv->Prop)(L:So->Dv->Prop):So->Dv->Prop
 |.e,d=>E d
 |.a,d=>∃a,d=.tup a/\a.length<=4/\∀e∈a,E e
 |.r,d=>∃a,d=.tup a/\1<=a.length/\a.length<=4/\∀e∈a,E e
 |s,d=>L s d
def Ep:Dv->List Dv
 |.tup ds=>ds
 |_=>[]
def mT:So->Dv->List Dv
 |.e,d=>[d]
 |.a,d=>Ep d
 |.r,d=>Ep d
 |_,_=>[]
def bL:List So->List Dv->List Dv
 |s::ss,d::ds=>mT s d++bL ss ds
 |_,_=>[]
def Gg(w:Str):List So:=match WT.find? (λq=>decide (q.1=w))with
 |some p=>p.2.2
 |none=>[]
def GJ{p:Wd}(a:p∈WT):Gg p.1=p.2.2:=by unfold Gg;rw[AD Jr a]
def eF:Dv->List Dv
 |.tup (.str w::ds)=>bL (Gg w) ds
 |_=>[]
def parts_of(a:p∈WT)(ds:List Dv):eF (.tup (.str p.1::ds))=bL p.2.2 ds:=by change bL (Gg p.1) ds=_;rw[GJ a]
def Hc(h:F2 (Pw E L) ss ds):(∀e∈bL ss ds,E e)/\(bL ss ds).length<=kZ ss:=by
 induction h with
 |nil=>show{λe b=>by simp[bL]at b,by simp[bL]}
 | @cons s d ss ds h _ i=>
  ext(⟨k,m⟩:i);let j:kZ (s::ss)=kZ [s]+kZ ss:=by simp[kZ]
  rw[j];let g:(∀e∈mT s d,E e)/\(mT s d).length<=kZ [s]:=by
   cases s with
   |e=>show{λe b=>by rw[ο.mp b];show h,Α _}
   |a=>ext(⟨l,rfl,f,c⟩:h);show{c,f}
   |r=>ext(⟨l,rfl,n,f,c⟩:h);show{c,f}
   |_=>show{λe b=>by simp[mT]at b,by simp[mT,kZ]}
  change(∀e∈mT s d++bL ss ds,E e)/\(mT s d++bL ss ds).length<=_;show{λe b=>?_,by rw[Ε];omega};rcases Ν.mp b with b|b
  .show g.1 e b
  .show k e b
def rB(ss:List So)(ds:List Dv)(i:Nat)(b:ss[i]?=Z s)(a:ds[i]?=Z d):bL (ss.take (i+1)) (ds.take (i+1))=bL (ss.take i) (ds.take i)++mT s d:=by
 induction i generalizing ss ds with
 |zero=>
  cases ss with
  |nil=>cases b
  |cons c ss=>
   cases ds with
   |nil=>cases a
   |cons d' ds=>cases b;cases a;simp[bL]
 |succ i e=>
  cases ss with
  |nil=>cases b
  |cons c ss=>
   cases ds with
   |nil=>cases a
   |cons d' ds=>simp only[List.take_succ_cons,bL];rw[e ss ds b a,Γ]
def cZ(xs:List V)(n:Nat):cO xs (Z (n:Int)) Β=xs.drop n:=by
 unfold cO;let b:HT.sIx xs.length 0 (Z (n:Int))=min n xs.length:=HT.sIx_nat _ _ _;let a:HT.sIx xs.length xs.length Β=xs.length:=U;rw[b,a];rcases Nat.le_total n xs.length with h|h
 .rw[Sc h,v_ (by rw[Ϯ];show Α _)]
 .rw[Nat.min_eq_right h,Sq,List.take_zero,List.drop_of_length_le h]
def Lz(q:Q O H)(f:Q O H->PK t1 t2 σ H Q):PK t1 t2 σ H Q:=f q
def iJ(a:H g=Z (.tup us))(k:∀H' p,af H H'->H' p=Z (.tup (cO us lo hi))->Q (.ref p) H'):MV K (.ref g) lo hi H Q:=
 {g,us,1,aw.of a,λe=>k H g (af.refl _) (by rw[e];show a),λp b=>k _ p (ac b _) aa}
def Kw(d:Dv):Prop:=∃(p:Wd) (ds:List Dv),p∈WT/\d=.tup (.str p.1::ds)/\F2 (Pw (λ_=>True) (λ_ _=>True)) p.2.2 ds
def BC{H:Hp}{ds:List Dv}{vs:List V}(h:Reps H ds vs){i:Nat}{d:Dv}(a:ds[i]?=Z d):∃v,vs[i]?=Z v/\aj H d v:=by
 let b:i<vs.length:=by rw[h.length];show(Υ.mp a).1
 ext(⟨e,c,r⟩:h.get (Ζ b));rw[a]at c;cases c;show{0,Ζ b,r}
def cz(h:Reps H (d::ds) vs):∃v a,vs=v::a/\aj H d v/\Reps H ds a:=by simpa only[Reps]using h
def zh(M:St->Hp->Prop)(a:∀σ' H',M σ' H'->t2 D σ' H')(f:∀N:St->Hp->Prop,(∀σ' H',M σ' H'->N σ' H')->t1 {D with nx:=N} σ H):jK t1 t2 D σ H:=f (t2 D) a
def aJ(f:∀N:St->Hp->Prop,(∀σ' H',t2 D σ' H'->N σ' H')->t1 {D with nx:=N} σ H):jK t1 t2 D σ H:=f (t2 D) λ_ _ h=>h
def AJ{f:Nat->V}{n:Nat}{g:TG}{tb:TS}{D:eh}{σ:St}{H:Hp}(a:Nat->St->Hp->Prop)(k:a 0 σ H)
  (l:∀i σ H (b:eh),(∀σ' H',a (i+1) σ' H'->b.nx σ' H')->i<n->a i σ H->g (f i) σ H λc j=>tb b c j) (d:∀σ H,a n σ H->D.nx σ H):=IC (f:=f) (n:=n) (g:=g) (tb:=tb) (D:=D) (σ:=σ) (H:=H) a k (λi σ H e p=>l i σ H _ (λ_ _ h=>h) e p) d
def il{lo:Int}{n:Nat}{g:TG}{tb:TS}{D:eh}{σ:St}{H:Hp}(a:Nat->St->Hp->Prop)(j:a 0 σ H)
  (k:∀i σ H (b:eh),(∀σ' H',a (i+1) σ' H'->b.nx σ' H')->i<n->a i σ H->g (.int (lo+i)) σ H λc f=>tb b c f) (d:∀σ H,a n σ H->D.nx σ H):=qy (lo:=lo) (n:=n) (g:=g) (tb:=tb) (D:=D) (σ:=σ) (H:=H) a j (λi σ H e p=>k i σ H _ (λ_ _ h=>h) e p) d
def lq{K:η}{a b:υ}{xs ys:List V}{g:TG}{tb:TS}{D:eh}{σ:St}{H:Hp}(d:Nat->St->Hp->Prop)(m:d 0 σ H)(r:∀i σ H,d i σ H->aw K H a xs/\aw K H b ys)
  (n:∀i x y σ H p (e:eh),(∀v H,D.rt v H->e.rt v H)->(∀σ' H',d (i+1) σ' H'->e.nx σ' H')->xs[i]?=Z x->ys[i]?=Z y->d i σ H->H p=Β->g (.ref p) σ (upd H p (.tup [x,y])) λf k=>tb e f k) (j:∀σ H,d (min xs.length ys.length) σ H->D.nx σ H):=
 DL (c:=J) (K:=K) (a:=a) (b:=b) (xs:=xs) (ys:=ys) (g:=g) (tb:=tb) (D:=D) (σ:=σ) (H:=H) d m r (λi x y σ H p o l q s=>n i x y σ H p _ (λ_ _ h=>h) (λ_ _ h=>h) o l q s) j
def yk{K:η}{a:υ}{xs:List V}{g:TG}{tb:TS}{D:eh}{σ:St}{H:Hp}(b:Nat->St->Hp->Prop)(j:b 0 σ H)(m:∀i σ H,i<=xs.length->b i σ H->aD K H a xs)
  (k:∀i x σ H (c:eh),(∀σ' H',b (i+1) σ' H'->c.nx σ' H')->xs[i]?=Z x->b i σ H->g x σ H λd f=>tb c d f) (e:∀σ H,b xs.length σ H->D.nx σ H):=
 wB (K:=K) (a:=a) (xs:=xs) (g:=g) (tb:=tb) (D:=D) (σ:=σ) (H:=H) b j m (λi x σ H l q=>k i x σ H _ (λ_ _ h=>h) l q) e
def vg(d:Nat->St->Hp->Prop)(m:Nat)(j:d m σ H)
  (k:∀m σ H (f:eh),(∀v H,D.rt v H->f.rt v H)->(∀e σ' H',e<m->d e σ' H'->f.nx σ' H')->d m σ H->c σ H λb a=>if b=O then tb f σ a else D.nx σ a)
  (i:∀σ H Q g,(∀b a,Q b a->g b a)->c σ H Q->c σ H g):yr c tb D σ H:=
 Im d m j (λm σ H p=>k m σ H _ (λ_ _ h=>h) (λe _ _ l q=>{e,l,q}) p) i
end XB
namespace L2.EX
open PySem PySem.Spec PyProof.Rows PySem.W
section
variable{P:Ι}{w:ώ}{A:Ϛ}{R:Result->ψ->Prop}{E:ν->ψ->Prop}{h:ϙ}{g:Array K3}{d:TY}{t:Nat}{os:Tq}
variable{nm q:Str}{C N:υ}{bs bm:List ν}{hdct:Bool}{sn:List Str}{sub:List ν}{ab:Bool}{col:Option Bool}{dd:Option υ}{k0 k1 k2 k3 k5:Option ν}{B newId inN:String}{bmN:List ν}
structure cp(B:String)(bm:List ν):Prop where
 is:bm.contains (.type B)=O
 attr:bm.contains (.type "AttributeError")=J
 name:bm.contains (.type "NameError")=J
def cp.up(e:bm.contains (.type X)=b):(ϐ a::bm).contains (.type X)=b:=by rw[SN,e];cases b<;>rfl
def jX(C:υ)(t:υ):Obj:={cls:=.ref C,data:=.fields #[.ref t,.none,.none,.none,.bool J,.none]}
def qv(vs:List ν):Obj:={cls:=.type "tuple",data:=.seq vs.toArray}
def Lq(F:Sr B newId inN bmN)(j:cp B bm)(b:h.get? C=Z (ϯ nm q C N bs bm hdct sn sub ab col dd k0 k1 k2 k3 k5 newId))(f:vs.length<=Λ)
  (c:R (.ok (.ret (.ref (h.objs.size+1)))) {(h.push (qv vs)).push (jX C h.objs.size),g,d,t,os}):
  N7 (ϓ P w) A (.builtin newId {.ref C::vs,[]}) R {h,g,d,t,os}:=by
 let i:=F.ends;show codeAny_builtinAt F.entry ?_;show PySem.wpAt_bind (PySem.wpAt_bind (PySem.wpAt_stack λp e=>PySem.wpAt_of_wpAny ?_));wp_walk;show PySem.wpAt_of_wpAny ?_;rw[F.owner];repeat (first
  |with_reducible show wpAny_madeHere_exc F.canon b ?_
  |with_reducible show ϕ b ?_
  |(with_reducible show i9 b ?_;first|rw[(cp.up (a:=C) j.is)]|rw[(cp.up (a:=C) j.attr)]|rw[(cp.up (a:=C) j.name)])
  |wp_step)
 rw[r9];show c
def tV(F:Sr B newId inN bmN)(f:cp B bm)(b:h.get? C=Z (ϯ nm q C N bs bm hdct sn sub ab col dd k0 k1 k2 k3 k5 newId))(c:Q Unit.unit {h,g,d,t,os}):
  ύ (ϓ P w) A (B9 newId {.ref C::vs,[]}) Q E {h,g,d,t,os}:=by
 let e:=F.noStar;simp only[B9,F.newKind,F.newSplit,F.newRow];repeat (first
  |show ϕ b ?_
  |(show i9 b ?_;rw[(cp.up (a:=C) f.is)])
  |show wpAny_staticBase_exc b ?_
  |show wpAny_madeBy_exc b ?_
  |simp only[bne_self_eq_false,SI,if_false]
  |wp_step)
 show c
end
section
variable{P:Ι}{w:ώ}{A:Ϛ}{E:ν->ψ->Prop}{h:ϙ}{g:Array K3}{d:TY}{t:Nat}{os:Tq}
variable{nm q:Str}{C N fI:υ}{bs bm:List ν}{hdct:Bool}{sn:List Str}{sub:List ν}{ab:Bool}{col:Option Bool}{dd:Option υ}{k0 k1 k2 k3 k5:Option ν}{B newId inN:String}{bmN:List ν}
def Gn(F:Sr B newId inN bmN)(D:cp B bm)(a:h.get? C=Z (ϯ nm q C N bs bm hdct sn sub ab col dd k0 k1 k2 k3 k5 newId))(u:vs.length<=Λ)(k:h.get? fI=Z oI)(m:oI.cls=.type "function")
  (j:∀{A:Ϛ}{E:ν->ψ->Prop}{Q:Option ν->ψ->Prop}{s:ψ},(∀b o,h.get? b=Z o->s.heap.get? b=Z o)->Q (Z (.ref fI)) s->ύ (ϓ P w) A (TU (.ref C) "__init__") Q E s)
  (v:ύ (ϓ P w) (A.under (.builtin "type.__call__" {.ref C::vs,[]})) (call (.ref fI) (.ref (h.objs.size+1)::vs)) (λr f=>r=.none/\Q (.ref (h.objs.size+1)) f) E {(h.push (qv vs)).push (jX C h.objs.size),g,d,t,os}):
  ύ (ϓ P w) A (call (.ref C) vs) Q E {h,g,d,t,os}:=by
 let z:=tc_lookup;let y:=tc_bind (.ref C);let c:∀b o,h.get? b=Z o->((h.push (qv vs)).push (jX C h.objs.size)).get? b=Z o:=λb o e=>ω _ (ω _ e);let i:((h.push (qv vs)).push (jX C h.objs.size)).get? (h.objs.size+1)=Z (jX C h.objs.size):=ϙ.get?_push_at (by simp only[r9]) U;let l:(ϐ C::bm).contains (.ref C)=O:=();show Q5 (codeAny_of_tree ?_);repeat (any_goals (first|assumption|with_reducible show ϕ a ?_|wp_step))
 show{1,codeAny_call_builtin_at (SO _ ()) entry_typeCall (wpAny_check_type_call_sub a ?_)};repeat (first|with_reducible show ϕ a ?_|with_reducible show wpAny_madeBy_exc a ?_|wp_step)
 show codeAny_call_builtin_code (SO _ F.quiet) (tV F D a (Lq F D a u ?_));repeat (first|with_reducible show ϕ i ?_|wp_step)
 show i9 (c _ _ a) ?_;rw[l];repeat (first|with_reducible show ϕ i ?_|wp_step)
 show j c (E1 (ζ ?_));show ζ (To {0,(c _ _ k),m} ?_);rw[Z5 ()];show Η (ζ (m_ v (λr f p=>?_) λ_ _ x=>x));ext(⟨rfl,n⟩:p);wp_walk;show n
end
open PySem PySem.Spec PyProof.Rows PySem.W
section
variable{P:Ι}{w:ώ}{A:Ϛ}{E:ν->ψ->Prop}{h:ϙ}{g:Array K3}{d:TY}{t:Nat}{os:Tq}
variable{nm q:Str}{C N fI:υ}{bs bm:List ν}{hdct:Bool}{sn:List Str}{sub:List ν}{ab:Bool}{col:Option Bool}{dd:Option υ}{k0 k1 k2 k3 k5:Option ν}{B newId nid initId:String}{bmB:List ν}
def pX(F:Sr B nid initId bmB)(l:cp B bm)(c:h.get? C=Z (ϯ nm q C N bs bm hdct sn sub ab col dd k0 k1 k2 k3 k5 newId))(j:h.get? e=Z oe)(f:oe.cls=.ref C)(i:Q Unit.unit {h,g,d,t,os}):
  ύ (ϓ P w) A (B9 initId {.ref e::vs,[]}) Q E {h,g,d,t,os}:=by
 let k:=F.noStar;simp only[B9,F.initKind,F.initSplit,F.initRow];repeat (first
  |(with_reducible show ϕ j ?_;rw[f])
  |with_reducible show ϕ c ?_
  |(with_reducible show i9 c ?_;rw[(cp.up (a:=C) l.is)])
  |wp_step)
 show Q_ ?_;let z:∀(a b:String)(n:Nat),Bind.check {.positional,"*",B,.self,[{"args",.varPos,J}]} a b n (List.map (λx=>x.fst) ({pos:=ϐ e::vs}:Args).kw)=pure Unit.unit:=λa b n=>check_star_args _ _ _ _ _ _;rw[z];show Η i
def Of(a:υ):Data:=.fields #[.ref a,.none,.none,.none,.bool J,.none]
def FP(F:Sr B nid initId bmB)(s:cp B bm)(j:h.get? C=Z (ϯ nm q C N bs bm hdct sn sub ab col dd k0 k1 k2 k3 k5 newId))(a:h.get? e=Z oe)(i:oe.cls=.ref C)(c:oe.data=Of a0)(n:vs.length<=Λ)
  (k:∀h',(∀b o,b≠e->h.get? b=Z o->h'.get? b=Z o)->h'.get? e=Z {oe with data:=Of h.objs.size}->h'.get? h.objs.size=Z (qv vs)->Q .none {h',g,d,t,os}):
  ύ (ϓ P w) A (call (.builtin initId) (.ref e::vs)) Q E {h,g,d,t,os}:=by
 ext(⟨r,p,l,m⟩:oe);subst i;subst c;show Q5 (F8 F.init.plain F.initEntry (pX F s j a U ?_));wp_walk;show k _ (λb o f z=>?_) ?_ ?_
 .rw[Ϧ _ _ (ϝ f)];show ω _ z
 .rw[o_ _ (ω _ a) U];rfl
 .rw[Ϧ _ _ (ϩ (Ξ a))];show Ψ _ U
end
open PySem PySem.Spec PyProof.Rows PySem.W
def Pa[Decidable c](b:c->ύ M A x Q E s)(a:¬ c->ύ M A y Q E s):ύ M A (if c then x else y) Q E s:=by
 split
 .next h=>show b h
 .next h=>show a h
section
variable{P:Ι}{w:ώ}{A:Ϛ}{E:ν->ψ->Prop}{h:ϙ}{g:Array K3}{d:TY}{t:Nat}{os:Tq}
variable{nm q:Str}{C D N x:υ}{bs bmB:List ν}{sn:List Str}{sub:List ν}{ab:Bool}{col:Option Bool}{dd:Option υ}{k0 k1 k2 k3 k5:Option ν}{B newId sa owner:String}{name:Str}{v:ν}{tk:Tok}
def dS(P:Ι)(w:ώ)(h:ϙ)(C:υ)(name:Str)(y:Option ν):Prop:=
 ∀{A:Ϛ}{E:ν->ψ->Prop}{Q:Option ν->ψ->Prop}{s:ψ},(∀b o,h.get? b=Z o->s.heap.get? b=Z o)->Q y s->ύ (ϓ P w) A (TU (.ref C) name) Q E s
def uI(u0:StoreFacts B bmB sa owner)(u2:h.get? C=Z (ϯ nm q C N bs (.ref D::bmB) O sn sub ab col dd k0 k1 k2 k3 k5 newId))(V:dS P w h C name Β)(a:h.get? x=Z o)(L:o.cls=.ref C)(F:o.data=Of a0)(u:o.dict=Β)
  (u1:∀h' p,(∀b o,b≠x->h.get? b=Z o->h'.get? b=Z o)->h'.get? x=Z {o with dict:=Z h.objs.size}->h'.Ns1 h.objs.size (λy=>if y=name then Z v else Β)->Q (.done (.ret .none)) {h',g,d,p,os}):
  ύ (ϓ P w) A (E_.«object.__setattr__» {[.ref x,.str name tk,v],[]}) Q E {h,g,d,t,os}:=by
 ext(⟨oc,od,a3,I⟩:o);subst L;repeat (first
  |rw[refuse_eq]
  |(rw[refuseLoop_ref,refuseLoop_ref,(u0.passes (.ref x))])
  |with_reducible show ϕ a ?_
  |with_reducible show wpAny_mroOf_exc u2 ?_
  |wp_step)
 show V (λ_ _ z=>z) ?_;repeat (first|with_reducible show ϕ a ?_|wp_step)
 subst F;subst u;let j:=ϩ (Ξ a);let i:=ω {cls:=.type "dict",data:=.dict #[]} a;show Pa (λz=>absurd z (by simp[typeHasDict])) λ_=>ζ (wpAny_alloc' (ζ (wpAny_update' i (Η ?_))));let l:((h.push {cls:=.type "dict",data:=.dict #[]}).update x λo=>{cls:=o.cls,dict:=Z h.objs.size,data:=o.data,slots:=o.slots}).get? h.objs.size=Z {cls:=.type "dict",data:=.dict #[]}:=by rw[Ϧ _ _ j];show Ψ _ U
 let k:((h.push {cls:=.type "dict",data:=.dict #[]}).update x λo=>{cls:=o.cls,dict:=Z h.objs.size,data:=o.data,slots:=o.slots}).get? x=Z {cls:=.ref C,dict:=Z h.objs.size,data:=Of a0,slots:=I}:=o_ _ i U;let n:∀b o,b≠x->h.get? b=Z o->((h.push {cls:=.type "dict",data:=.dict #[]}).update x λo=>{cls:=o.cls,dict:=Z h.objs.size,data:=o.data,slots:=o.slots}).get? b=Z o:=λb o c z=>by rw[Ϧ _ _ (ϝ c)];show ω _ z
 generalize ((h.push {cls:=.type "dict",data:=.dict #[]}).update x λo=>{cls:=o.cls,dict:=Z h.objs.size,data:=o.data,slots:=o.slots})=K at l k n⊢;let H:K.Ns h.objs.size (λ_=>Β):={0,#[],0,l,1,λe X=>absurd X (),λ_=>U};show ζ (Η (ζ (wpAny_nsSet1 (ϙ.Ns1.of_empty H) λh' f m=>?_)));ext(⟨oD,a1,a2,G,r,s⟩:f.count (Within.cons name v Within.nil));show ζ (wpAny_lookBehind G (by rw[r];show pastItsLine_dict (Ϫ s (by rw[ι];change 1<=_;omega))) ?_);wp_walk;show u1 h' _ (λb o c z=>?_) ((m.2 x j).trans k) ?_
 .show(m.2 b (ϩ (Ξ z))).trans (n b o c z)
 .ext(⟨R,W,ep,T,u4,u3,M,S⟩:f);show{R,W,ep,T,u4,u3,M,λy=>by rw[S y]}
end
open PySem PySem.Spec PyProof.Rows PySem.W
section
variable{P:Ι}{w:ώ}{A:Ϛ}{E:ν->ψ->Prop}{h:ϙ}{g:Array K3}{d:TY}{t:Nat}{os:Tq}
variable{nm q:Str}{C D N x:υ}{bs bmB:List ν}{sn:List Str}{sub:List ν}{ab:Bool}{col:Option Bool}{dd:Option υ}{k0 k1 k2 k3 k5:Option ν}{B newId sa owner:String}{name:Str}{v:ν}
def tE(b:StoreFacts B bmB sa owner)(j:h.get? C=Z (ϯ nm q C N bs (.ref D::bmB) O sn sub ab col dd k0 k1 k2 k3 k5 newId))(l:h.get? x=Z o)(k:o.cls=.ref C)(c:Q Unit.unit {h,g,d,t,os}):
  ύ (ϓ P w) A (B9 sa {[.ref x,u,v],[]}) Q E {h,g,d,t,os}:=by
 let e:=b.args (.ref x) u v;simp only[B9,b.kind,b.split];show ζ ?_;repeat (first
  |(with_reducible show ϕ l ?_;rw[k])
  |(with_reducible show i9 j ?_;rw[(cp.up (a:=C) (cp.up (a:=D) b.hasOwner))])
  |wp_step)
 cases f:Manifest.signature? sa with
 |none=>show Η c
 |some i=>simp only[argsOk,f]at e;change ύ (ϓ P w) A (Bind.checkArgs sa i {[.ref x,u,v],[]}) Q E _;rw[e];show Η c
def AK(a:StoreFacts B bmB sa owner)(i:h.get? C=Z (ϯ nm q C N bs (.ref D::bmB) O sn sub ab col dd k0 k1 k2 k3 k5 newId))(l:dS P w h C "__setattr__" (Z (.builtin sa)))(m:dS P w h C name Β)(f:h.get? x=Z o)(e:o.cls=.ref C)(k:o.data=Of a0)(j:o.dict=Β)
  (n:∀h' c,(∀b o,b≠x->h.get? b=Z o->h'.get? b=Z o)->h'.get? x=Z {o with dict:=Z h.objs.size}->h'.Ns1 h.objs.size (λy=>if y=name then Z v else Β)->Q Unit.unit {h',g,d,c,os}):
  ύ (ϓ P w) A (setAttr (.ref x) name v) Q E {h,g,d,t,os}:=by
 let p:=a.slot.bind (.ref x);repeat (any_goals (first|assumption|(with_reducible show ϕ f ?_;rw[e])|wp_step))
 show l (λ_ _ z=>z) ?_;repeat (any_goals (first|assumption|wp_step))
 show F8 a.slot.plain a.entry (tE a i f e (uI a i m f e k j λh' c k1 k2 k3=>?_));repeat (any_goals (first|assumption|wp_step))
 show n h' c k1 k2 k3
end
open PySem PySem.Spec PyProof.Rows PySem.W
section
variable{P:Ι}{w:ώ}{A:Ϛ}{E:ν->ψ->Prop}{h:ϙ}{g:Array K3}{d:TY}{t:Nat}{os:Tq}
variable{nm q:Str}{C D N x dx a0:υ}{bs bmB:List ν}{sn:List Str}{sub:List ν}{ab:Bool}{col:Option Bool}{dd:Option υ}{k0 k1 k2 k3 k5:Option ν}{B newId:String}{name:Str}{v:ν}{tk:Tok}{mA:Str->Option ν}{sl:Array (Option ν)}{ws:Array ν}
def jU(l:S9 B bmB)(b:h.get? C=Z (ϯ nm q C N bs (.ref D::bmB) O sn sub ab col dd k0 k1 k2 k3 k5 newId))(j:h.get? x=Z o)(c:o.cls=.ref C)(f:Q Unit.unit {h,g,d,t,os}):
  ύ (ϓ P w) A (B9 "BaseException.__getattribute__" {[.ref x,u],[]}) Q E {h,g,d,t,os}:=by
 let k:builtinKind "BaseException.__getattribute__"=Z .slot:=();let i:splitId "BaseException.__getattribute__"=Z ("BaseException","__getattribute__"):=();let e:=cp.up (a:=C) (cp.up (a:=D) l.hasBase);let m:=F.args_bexc_ga (.ref x) u;simp only[B9,k,i];show ζ ?_;unfold isInstance;repeat (first
  |(with_reducible show ϕ j ?_;rw[c])
  |(with_reducible show i9 b ?_;rw[e])
  |wp_step)
 show f
def BF(b:h.get? C=Z (ϯ nm q C N bs (.ref D::bmB) O sn sub ab col dd k0 k1 k2 k3 k5 newId))(i:dS P w h C name Β)(a:h.get? x=Z {cls:=.ref C,dict:=Z dx,data:=.fields ws,slots:=sl})(c:h.Ns1 dx mA)(e:mA name=Z v)(f:Q (.done (.ret v)) {h,g,d,t,os}):
  ύ (ϓ P w) A (E_.«object.__getattribute__» {[.ref x,.str name tk],[]}) Q E {h,g,d,t,os}:=by
 unfold E_.«object.__getattribute__»;repeat (first|with_reducible show ϕ a ?_|wp_step)
 show i (λ_ _ z=>z) ?_;repeat (first|(with_reducible show wpAny_nsGet c.ns ?_;rw[e])|with_reducible show ϕ a ?_|with_reducible show ϕ b ?_|wp_step)
 show f
def KQ(b:S9 B bmB)(c:h.get? C=Z (ϯ nm q C N bs (.ref D::bmB) O sn sub ab col dd k0 k1 k2 k3 k5 newId))(i:dS P w h C "__getattribute__" (Z (.builtin "BaseException.__getattribute__")))(j:dS P w h C "__getattr__" Β)(n:dS P w h C name Β)
  (a:h.get? x=Z {cls:=.ref C,dict:=Z dx,data:=.fields ws,slots:=sl}) (k:h.Ns1 dx mA) (l:mA name=Z v) (m:handedOut v=pure v) (r:Q v {h,g,d,t+1,os}):
  ύ (ϓ P w) A (getAttr (.ref x) name expr) Q E {h,g,d,t,os}:=by
 let o:=b.ga.bind (.ref x);let p:(expr&&onTheHeap (E2 "BaseException.__getattribute__"))=J:=by cases expr<;>rfl
 let f:(E2 "BaseException.__getattribute__" == E2 "object.__getattribute__")=J:=();let e:(onTheHeap (ϐ C)&&E2 "BaseException.__getattribute__" == E2 "object.__getattribute__")=J:=by rw[f];rfl
 unfold getAttr getAttrBy;repeat (any_goals (first|assumption|with_reducible show ϕ a ?_|wp_step))
 show i (λ_ _ z=>z) ?_;dsimp only;rw[e];repeat (any_goals (first|assumption|with_reducible show ϕ a ?_|wp_step))
 show j (λ_ _ z=>z) ?_;repeat (any_goals (first|assumption|wp_step))
 show F8 b.ga.plain F.entry_bexc_ga (jU b c a U (BF c n a k l ?_));repeat (any_goals (first|assumption|(rw[m])|wp_step))
end
open PySem PySem.Spec PyProof.Rows PySem.W
structure Mv(fs ex:List υ)(h h':ϙ):Prop where
 keep:∀b o,b∉fs->b∉ex->h.get? b=Z o->h'.get? b=Z o
 slot:∀b o,b∉ex->h.get? b=Z o->∃sl,h'.get? b=Z {o with slots:=sl}
def Mv.trans(a:Mv fs ex h h1)(b:Mv fs ex h1 h2):Mv fs ex h h2:=
 {λc o f d e=>b.keep c o f d (a.keep c o f d e),λc o n e=>by ext(⟨k,j⟩:a.slot c o n e);ext(⟨g,i⟩:b.slot c _ n j);show{g,i}}
def Mv.mono(a:Mv i f h h')(g:∀b∈i,b∈fs')(d:∀b∈f,b∈ex'):Mv fs' ex' h h':=
 {λc o k j e=>a.keep c o (λz=>k (g c z)) (λz=>j (d c z)) e,λc o n e=>a.slot c o (λz=>n (d c z)) e}
def Mv.hok(m:Mv g d h h')(x:gZ P w H h)(f:∀b∈g,H b=Β)(i:∀b∈d,H b=Β):gZ P w H h':=λa o e=>
 (x a o e).stay (λb u c q=>m.keep b u (λz=>by
   let:=f b z;rcases c with rfl|c
   .rw[e]at this;cases this
   .rw[c]at this;cases this) (λz=>by
   let:=i b z;rcases c with rfl|c
   .rw[e]at this;cases this
   .rw[c]at this;cases this) q) (λ_ q=>q) λ_ _ q=>q
def Mv.un{g j p i:List υ}{H H':Hp}{h l k:ϙ}(m:Mv j i l k)(u:Un g p H H' h l)(v:∀b∈j,b∈g\/h.get? b=Β)(f:∀b∈i,h.get? b=Β):Un g p H H' h k where
 keep:=λb o q n a c=>m.keep b o (λz=>(v b z).elim a λy=>by rw[q]at y;cases y) (λz=>by let y:=f b z;rw[q]at y;cases y) (u.keep b o q n a c)
 slot:=λb o q n a c=>by ext(⟨w,e⟩:u.slot b o q n a c);obtain⟨r,d⟩:=m.slot b _ (λz=>by let y:=f b z;rw[q]at y;cases y) e;show{r,d}
 free:=u.free
 there:=λb o q n=>by ext(⟨t,e⟩:u.there b o q n);obtain⟨w,d⟩:=m.slot b t (λz=>by let y:=f b z;rw[q]at y;cases y) e;show{0,d}
 tups:=u.tups
 frzs:=u.frzs
 tbls:=u.tbls
structure qN(h:ϙ)(e T:υ)(cls:ν)(dx:Option υ)(fl:ν):Prop where
 obj:∃oe vs,h.get? e=Z oe/\oe.cls=cls/\oe.dict=dx/\oe.data=.fields vs/\vs[1]?=Z (.ref T)/\vs[2]?=Z .none
 tb:∃oT ts,h.get? T=Z oT/\oT.data=.fields ts/\ts[3]?=Z fl
 ne:T≠e
def QS(h:ϙ)(e:υ)(cls:ν)(dx:Option υ):Prop:=∃a vs,h.get? e=Z a/\a.cls=cls/\a.dict=dx/\a.data=.fields vs/\vs[1]?=Z .none/\vs[2]?=Z .none
section
variable{M:Model}{A:Ϛ}{E:ν->ψ->Prop}{s:ψ}{base:ϙ}{env:Env}{outer:List Env}{L e T:υ}{cls:ν}{dx:Option υ}
def pD(t:A.frames=Z (env::outer))(l:s.heap.FunFrames base (env::outer))(C:env.frame=Z L)
  (p:s.heap.get? e=Z oe) (x:oe.cls=cls) (v:oe.dict=dx) (f:oe.data=.fields vs) (hsz:1<vs.size) (w:vs[2]?=Z .none)
  (h:∀h' T,s.heap.objs.size<=T->Mv (gW (env::outer)) [e] s.heap h'->qN h' e T cls dx (M7 L)->Q Unit.unit {s with heap:=h'}):
  ύ M A (do let a <-frameOf env;let pl <-entryPlaceOf L hadNext;let b <-EntryCells.newEntry head a .none (M7 L) .none pl;setField (.ref e) 1 b) Q E s:=by
 let r:e∉gW (env::outer):=λG=>by ext(⟨_,o,c,u⟩:l.mem G);rw[p]at c;cases c;show u vs f
 show ζ (wpAny_frameOf_fun t l C λh₁ d=>ζ (wpAny_entryPlaceOf λpl g=>?_));show ζ (Ϻ ?_ (g.sizeOk5 _ _ _ _ _));let m:=(d.2.1 e r).trans p;generalize c:({cls:=.type "traceback",dict:=Β,data:=.fields ([head,.ref L,.none,M7 L,.none]++(if pl.isEmpty then Ϡ 6 J0 else pl)).toArray}:Obj)=oT;let j:=ω oT m;let i:=D0 (Ξ m);let k:=B8 f (·.setIfInBounds 1 (ϐ h₁.objs.size));show G_ j f hsz (h _ h₁.objs.size (by rw[d.1];show Α _) {λb o y F z=>?_,λb o n z=>?_} {{00,o_ _ j (J_ k),by rw[Obj.cls_mapFields];show x,2,k,by simp[hsz],by rw[Array.getElem?_setIfInBounds_ne ()];show w},{oT,02,by rw[<-c],2},i})
 .rw[Ϧ _ _ (λq=>F (by rw[<-q];simp))];show ω _ ((d.2.1 b y).trans z)
 .ext(⟨D,q⟩:d.2.2 b o z);show{D,2};rw[Ϧ _ _ (λq=>n (by rw[<-q];simp))];show ω _ q
 .rw[<-v];ext(⟨I,K,B,H⟩:oe);cases B<;>rfl
 .rw[Ϧ _ _ (ϝ i)];show Ψ _ (by rw[<-c];rfl)
 .first|(simp;done)|(rcases g with rfl|⟨_,_,_,_,_,_,_,rfl⟩<;>simp)
def wK(g:A.frames=Z (env::outer))(j:s.heap.FunFrames base (env::outer))(b:env.frame=Z L)(x:QS s.heap e cls dx)
  (h:∀h' T,s.heap.objs.size<=T->Mv (gW (env::outer)) [e] s.heap h'->qN h' e T cls dx (M7 L)->Q Unit.unit {s with heap:=h'}):ύ M A (noteFrame (.ref e) env) Q E s:=by
 ext(⟨l,vs,c,i,f,a,d,k⟩:x);unfold noteFrame;simp only[b];show ζ (ϲ c a d ?_);rw[Z6 ()];show pD g j b c i f a (m8.mp d).1 k h
def rD(t:A.frames=Z (env::outer))(B:s.heap.FunFrames base (env::outer))(r:env.frame=Z L)(x:qN s.heap e T cls dx .none)
  (h:∀h' c,s.heap.objs.size<=c->Mv (gW (env::outer)) [e,T] s.heap h'->qN h' e c cls dx (M7 L)->Q Unit.unit {s with heap:=h'}):ύ M A (noteFrame (.ref e) env) Q E s:=by
 ext(⟨⟨G,vs,p,y,v,i,k,w⟩,⟨F,ts,g,f,j⟩,D⟩:x);unfold noteFrame;simp only[r];show ζ (ϲ p i k ?_);rw[Z5 ()];show ζ (ϲ g f j ?_);rw[Z6 (by simp[M7])];show ζ (G_ g f (m8.mp j).1 ?_);let d:∀b,b≠T->(s.heap.update T (J8 (·.setIfInBounds 3 J0))).get? b=s.heap.get? b:=λb a=>Ϧ _ _ (ϝ a);let C:Mv (gW (env::outer)) [e,T] s.heap (s.heap.update T (J8 (·.setIfInBounds 3 J0))):={λb o _ n z=>(d b λq=>n (by rw[q];simp)).trans z,λb o n z=>{o.slots,(d b λq=>n (by rw[q];simp)).trans z}};show pD t (B.of_keeps λb o a u=>{o,(d b λq=>?_).trans a,1}) r ((d e (ϝ D)).trans p) y v i (m8.mp k).1 w λh' c l m x=>h h' c (by let e:=l;simpa using e) (C.trans (m.mono (λ_ z=>z) λb z=>ξ.mpr (.inl (ο.mp z)))) x;rw[q,g]at a;cases a;show u ts f
def xB(d:env.frame=Z L)(x:qN s.heap e T cls dx (M7 L))(h:Q Unit.unit s):ύ M A (noteFrame (.ref e) env) Q E s:=by ext(⟨⟨l,vs,f,m,j,b,i,o⟩,⟨k,ts,c,a,g⟩,n⟩:x);show wpAny_noteFrame_inFlight d f b i c a g h
def eZ(x:qN s.heap e T cls dx fl)(h:∀h',Mv [] [T] s.heap h'->qN h' e T cls dx .none->Q Unit.unit {s with heap:=h'}):ύ M A (setFlight (.ref e) Β) Q E s:=by ext(⟨⟨u,vs,j,t,l,d,f,p⟩,⟨v,ts,i,a,r⟩,k⟩:x);let g:=(m8.mp r).1;let c:∀b,b≠T->(s.heap.update T (J8 (·.setIfInBounds 3 J0))).get? b=s.heap.get? b:=λb m=>Ϧ _ _ (ϝ m);show wpAny_setFlight_none j d f i a g (h _ {λb o _ n z=>(c b λq=>n (by rw[q];simp)).trans z,λb o n z=>{o.slots,(c b λq=>n (by rw[q];simp)).trans z}} {{u,vs,(c e (ϝ k)).trans j,t,l,d,f,p},{00,o_ _ i (J_ (B8 a _)),B8 a _,by simp[g]},k})
def uD(a:A.frames=Z (env::outer))(g:s.heap.FunFrames base (env::outer))(j:env.frame=Z L)(x:QS s.heap e cls dx)
  (h:∀h' T,s.heap.objs.size<=T->Mv (gW (env::outer)) [e,T] s.heap h'->qN h' e T cls dx .none->Q Unit.unit {s with heap:=h'}):ύ M A (leaving env (.ref e)) Q E s:=by
 show ζ (wK a g j x λm T l i d=>eZ d λc f k=>h c T l ((i.mono (λ_ z=>z) λb z=>ξ.mpr (.inl (ο.mp z))).trans (f.mono (λ_ z=>absurd z ()) λb z=>ρ _ z)) k)
def yi(c:A.frames=Z (env::outer))(i:s.heap.FunFrames base (env::outer))(k:env.frame=Z L)(x:qN s.heap e T cls dx .none)
  (h:∀h' a,s.heap.objs.size<=a->Mv (gW (env::outer)) [e,T,a] s.heap h'->qN h' e a cls dx .none->Q Unit.unit {s with heap:=h'}):ύ M A (leaving env (.ref e)) Q E s:=by
 show ζ (rD c i k x λn a l j f=>eZ f λd g m=>h d a l ((j.mono (λ_ z=>z) λb z=>?_).trans (g.mono (λ_ z=>absurd z ()) λb z=>?_)) m)
 .rcases ξ.mp z with z|z
  .show ξ.mpr (.inl z)
  .show ρ _ (ξ.mpr (.inl (ο.mp z)))
 .show ρ _ (ρ _ z)
end
open PySem PySem.Spec PyProof.Rows PySem.W
section
variable{P:Ι}{w:ώ}{A:Ϛ}{E:ν->ψ->Prop}{h:ϙ}{g:Array K3}{d:TY}{t:Nat}{os:Tq}
variable{nm q:Str}{C D N e:υ}{bs bmB:List ν}{sn:List Str}{sub:List ν}{ab:Bool}{col:Option Bool}{dd:Option υ}{k0 k1 k2 k3 k5:Option ν}{B newId:String}{oe:Obj}
def Ic:(".".intercalate ("object.__class__".cutAt '.').dropLast)="object":=()
def Ll(f:h.get? C=Z (ϯ nm q C N bs (.ref D::bmB) O sn sub ab col dd k0 k1 k2 k3 k5 newId))(c:h.get? e=Z oe)(b:oe.cls=.ref C)(i:bmB.contains (.type "object")=O)(j:R (.ok (.ret (.ref C))) {h,g,d,t,os}):
  N7 (ϓ P w) A (.call (.builtin "getset_descriptor.__get__") {[.builtin "object.__class__",.ref e,.ref C],[]}) R {h,g,d,t,os}:=by
 show F8 F.slot_gs_get.plain F.entry_gs_get (F.slot_gs_get.check _ _ _ _ _ _ _ _ F.typeOf_object_class (F.args_gs_get _ _ _) ?_);repeat (any_goals (first|assumption|(with_reducible show ϕ c ?_;rw[b])|(rw[Ic];with_reducible show i9 f ?_;rw[(cp.up (a:=C) (cp.up (a:=D) i))])|wp_step))
 show{SO _ (),codeAny_builtin F.entry_object_class ?_};repeat (any_goals (first|assumption|(with_reducible show ϕ c ?_;rw[b])|wp_step))
variable{tk:Tok}
def EV(c:h.get? C=Z (ϯ nm q C N bs (.ref D::bmB) O sn sub ab col dd k0 k1 k2 k3 k5 newId))(b:h.get? e=Z oe)(a:oe.cls=.ref C)(f:bmB.contains (.type "object")=O)(i:dS P w h C "__class__" (Z (.builtin "object.__class__")))(k:Q (.done (.ret (.ref C))) {h,g,d,t,os}):
  ύ (ϓ P w) A (E_.«object.__getattribute__» {[.ref e,.str "__class__" tk],[]}) Q E {h,g,d,t,os}:=by
 let l:=F.typeOf_object_class;let m:=F.slot_gs_get.lookup;let j:=F.slot_gs_set.lookup;repeat (first|(with_reducible show ϕ b ?_;rw[a])|wp_step)
 show i (λ_ _ z=>z) ?_;repeat (any_goals (first|assumption|(with_reducible show ϕ b ?_;rw[a])|wp_step))
 show Ll c b a f ?_;repeat (any_goals (first|assumption|wp_step))
def MG(c:S9 B bmB)(f:h.get? C=Z (ϯ nm q C N bs (.ref D::bmB) O sn sub ab col dd k0 k1 k2 k3 k5 newId))(b:h.get? e=Z oe)(a:oe.cls=.ref C)(m:bmB.contains (.type "object")=O)(n:dS P w h C "__class__" (Z (.builtin "object.__class__")))
  (k:dS P w h C "__getattribute__" (Z (.builtin "BaseException.__getattribute__"))) (l:dS P w h C "__getattr__" Β) (p:Q (.ref C) {h,g,d,t,os}):
  ύ (ϓ P w) A (getAttrBy (.ref e) (.str "__class__" tk) J) Q E {h,g,d,t,os}:=by
 let o:=c.ga.bind (.ref e);let j:(E2 "BaseException.__getattribute__" == E2 "object.__getattribute__")=J:=();let i:(onTheHeap (ϐ C)&&E2 "BaseException.__getattribute__" == E2 "object.__getattribute__")=J:=by rw[j];rfl
 repeat (any_goals (first|assumption|(with_reducible show ϕ b ?_;rw[a])|wp_step))
 show k (λ_ _ z=>z) ?_;dsimp only;rw[i];repeat (any_goals (first|assumption|(with_reducible show ϕ b ?_;rw[a])|wp_step))
 show l (λ_ _ z=>z) ?_;repeat (any_goals (first|assumption|wp_step))
 show F8 c.ga.plain F.entry_bexc_ga (jU c f b a (EV f b a m n ?_));repeat (any_goals (first|assumption|wp_step))
def Ir(l:S9 B bmB)(a:h.get? C=Z (ϯ nm q C N bs (.ref D::bmB) O sn sub ab col dd k0 k1 k2 k3 k5 newId))(k:h.get? e=Z oe)(f:oe.cls=.ref C)(i:bmB.contains (.type "object")=O)(j:dS P w h C "__class__" (Z (.builtin "object.__class__")))
  (b:dS P w h C "__getattribute__" (Z (.builtin "BaseException.__getattribute__"))) (c:dS P w h C "__getattr__" Β) (m:Q (Z (.ref C)) {h,g,d,t+1,os}):
  ύ (ϓ P w) A (getAttr? (.ref e) "__class__") Q E {h,g,d,t,os}:=by
 repeat (any_goals (first|assumption|with_reducible apply MG l a k f i j b c|wp_step))
def xN(b:h.get? e=Z oe)(a:oe.cls=.ref C):Tx M h (typeOf (.ref e)) (.ref C):=λA Q E s k q=>by show ζ (Sz (k _ _ b) (Η (by rw[a];show q)))
def IR(a:h.get? C=Z (ϯ nm q C N bs (.ref D::bmB) O sn sub ab col dd k0 k1 k2 k3 k5 newId))(f:(ϐ C::.ref D::bmB).contains c=b):Tx M h (isSubtype (.ref C) c) b:=λA Q E s k q=>by ext(⟨h',g',d',t',i⟩:s);show i9 (k _ _ a) (by rw[f];show q)
def Jk(a:h.get? C=Z (ϯ nm q C N bs (.ref D::bmB) O sn sub ab col dd k0 k1 k2 k3 k5 newId)):Tx M h (isType (.ref C)) O:=λA Q E s k q=>by show ζ (Sz (k _ _ a) (Η q))
def Ix(x:S9 B bmB)(a:h.get? C=Z (ϯ nm q C N bs (.ref D::bmB) O sn sub ab col dd k0 k1 k2 k3 k5 newId))(k:h.get? e=Z oe)(j:oe.cls=.ref C)(u:bmB.contains (.type "object")=O)(v:dS P w h C "__class__" (Z (.builtin "object.__class__")))
  (o:dS P w h C "__getattribute__" (Z (.builtin "BaseException.__getattribute__"))) (r:dS P w h C "__getattr__" Β) (m:(ϐ C==c)=J) (s:(ϐ C::.ref D::bmB).contains c=J) (n:Tx (ϓ P w) h (typeOf c) (.type "type")) (l:Tx (ϓ P w) h (isType c) O)
  (b:Q (.bool J) {h,g,d,t+1,os}):ύ (ϓ P w) A (call (.builtin "isinstance") [.ref e,c]) Q E {h,g,d,t,os}:=by
 let f:=xN (M:=ϓ P w) k j;let i:=IR (M:=ϓ P w) a s;let p:Tx (ϓ P w) h (isInstance (.ref e) c) J:=f.andThen i;show SQ ?_ (by intro z;cases z);show ζ (f.at ?_);rw[Z6 (λz=>by rw[m]at z;cases z)];show ζ (n.at ?_);rw[Z5 (beq_self_eq_true _)]
 k_delta "plainIsInstance"
 show ζ (ζ (l.at ?_));rw[Z6 ()];show ζ (p.at ?_);rw[Z6 ()];show ζ (Ir x a k j u v o r (ζ ((Jk a).at ?_)));rw[Z6 ()];show ζ (Q8 (i.at ?_));first|show Η b|show Η (Η b)|show ζ (Η (Η b))
def Ed(c:h.get? e=Z oe)(a:oe.cls=.ref C)(b:Q (.bool O) {h,g,d,t,os}):ύ (ϓ P w) A (call (.builtin "isinstance") [.ref e,.ref C]) Q E {h,g,d,t,os}:=by
 show SQ ?_ (by intro z;cases z);show ζ ((xN c a).at ?_);rw[Z5 (beq_self_eq_true _)];repeat (first|show Η ?_|show Q8 ?_|show ζ ?_)
 show b
def Bu(k:h.get? C=Z (ϯ nm q C N bs (.ref D::bmB) O sn sub ab col dd k0 k1 k2 k3 k5 newId))(o:h.get? e=Z oe)(m:oe.cls=.ref C)(i:(ϐ C==c)=J)(n:(ϐ C::.ref D::bmB).contains c=O)(j:Tx (ϓ P w) h (typeOf c) (.type "type"))(f:Tx (ϓ P w) h (isType c) O)
  (a:Q (.bool O) {h,g,d,t,os}):ύ (ϓ P w) A (call (.builtin "isinstance") [.ref e,c]) Q E {h,g,d,t,os}:=by
 let b:=xN (M:=ϓ P w) o m;let l:Tx (ϓ P w) h (isInstance (.ref e) c) O:=b.andThen (IR k n);show SQ ?_ (by intro z;cases z);show ζ (b.at ?_);rw[Z6 (λz=>by rw[i]at z;cases z)];show ζ (j.at ?_);rw[Z5 (beq_self_eq_true _)]
 k_delta "plainIsInstance"
 show ζ (ζ (f.at ?_));rw[Z6 ()];show ζ (l.at ?_);rw[Z5 U];first|show Η a|show Η (Η a)|show ζ (Η (Η a))
end
open PySem PySem.Spec PyProof.Rows PySem.W
abbrev AE:List ν:=[.type "ValueError",.type "Exception",.type "BaseException",.type "object"]
structure jN(K:Frag)(D fI C:υ):Prop where
 obj:∃nm q N bs sn sub ab col dd k0 k1 k2 k3 k5,K.lookup C=Z (ϯ nm q C N bs (.ref D::AE) O sn sub ab col dd k0 k1 k2 k3 k5 "ValueError.__new__")
 init:findIn K (.ref C) "__init__"=Z (Z (.ref fI))
 fn:typeIn K (.ref fI)=Z (.type "function")
 sa:findIn K (.ref C) "__setattr__"=Z (Z (.builtin "object.__setattr__"))
 pl:findIn K (.ref C) "place"=Z Β
 ga:findIn K (.ref C) "__getattribute__"=Z (Z (.builtin "BaseException.__getattribute__"))
 gh:findIn K (.ref C) "__getattr__"=Z Β
 cl:findIn K (.ref C) "__class__"=Z (Z (.builtin "object.__class__"))
 kp:keepIn K (.ref C)=O
 ne:C≠D
structure Nu(K:Frag)(D:υ):Prop where
 obj:∃nm q N bs sn sub ab col dd k0 k1 k2 k3 k5,K.lookup D=Z (ϯ nm q D N bs AE O sn sub ab col dd k0 k1 k2 k3 k5 "ValueError.__new__")
def Dw(D:υ):cp "ValueError" (.ref D::AE):={cp.up (),cp.up (),cp.up ()}
def Xr(C t a:υ):HO:=.ext λh=>h.get? a=Z (jX C t)
def Xo(C t dx a:υ):HO:=.ext λh=>h.get? a=Z {jX C t with dict:=Z dx}
section
variable{X:Cx}{pins:List (υ×Obj)}{σ:St}{H:Hp}{s:ψ}{C D fI t dx a:υ}
def jw{K:Frag}{P:Ι}{w:ώ}{h:ϙ}{x:Str}{y:Option ν}(k:K.In h)(e:findIn K (.ref C) x=Z y):dS P w h C x y:=λ{A E Q s} b q=>looks_findIn k e A Q E s b q
def Xr.at_(I:ax X pins σ H s)(e:H a=Z (Xr C t a)):s.heap.get? a=Z (jX C t):=(I.hok a _ e).1
def Xo.at_(I:ax X pins σ H s)(e:H a=Z (Xo C t dx a)):s.heap.get? a=Z {jX C t with dict:=Z dx}:=(I.hok a _ e).1
def Jy(e:h.get? a=Z (jX C t)):ck P w H h a (Xr C t a):={e,{0,e},λ_ _ p k=>k _ p}
def NA(e:h.get? a=Z {jX C t with dict:=Z dx}):ck P w H h a (Xo C t dx a):={e,{0,e},λ_ _ p k=>k _ p}
def Gs(I:ax X pins σ H s):ax X pins σ (upd H (s.heap.objs.size+1) (Xr C s.heap.objs.size (s.heap.objs.size+1))) {s with heap:=(s.heap.push (qv us)).push (jX C s.heap.objs.size)}:=
 I.laid (t':=s.toks) (λb u q=>ω _ (ω _ q)) (F7 _) (Jy (ϙ.get?_push_at (by simp only[r9]) U))
variable{k:Nat}{fd:ϣ}{ps:List Str}{sp:Sp}{Q:VK}{us:List ν}{vs:List V}
def HX{R:υ->Hp->Prop}{QQ:ν->ψ->Prop}(c:jN X.K D fI C)(FI:au X.prog X.w X.K X.mg X.base bg k fI fd ps sp)(hr:cf (k+1) X.A)(hb:bE X.K fd ps [])(I:ax X pins σ H s)(r:aI vs us)(hz:vs.length<=Λ)
  (h:∀e t,H e=Β->sp (.ref e::vs) (upd H e (Xr C t e)) (λv H2=>v=.non/\R e H2) E0) (hq:∀e s' H2,X.s₀.heap.objs.size<=e->H e=Β->ax X pins σ H2 s'->R e H2->QQ (.ref e) s'):
  ύ (ϓ X.prog X.w) X.A (call (.ref C) us) QQ X.xe s:=by
 ext(⟨nm,q,N,bs,sn,sub,ab,col,dd,k0,k1,k2,k3,k5,lk⟩:c.obj);ext(⟨oI,lI,cI⟩:ϫ.mp (c.fn));let KX:=I.kIn;let I2:=Gs (C:=C) (us:=us) I;let fr:=I.hok.fresh (F7 _);let hs:=h (s.heap.objs.size+1) s.heap.objs.size fr;let r2:aI (V.ref (s.heap.objs.size+1)::vs) (ϐ (s.heap.objs.size+1)::us):=.cons U r;let hl:(ϐ (s.heap.objs.size+1)::us++[]).length=ps.length:=by rw[ϔ,<-r2.length];show FI.len _ _ _ _ hs
 ext(⟨hh,g,d,tk,os⟩:s);show Gn F.excBase_ValueError (Dw D) (KX _ _ lk) (by rw[<-r.length];show hz) (KX _ _ lI) cI (jw KX c.init) (Q5 (J1 (FI.run _ X.stack _ _ {ϐ (hh.objs.size+1)::us,[]} (ϐ (hh.objs.size+1)::us++[]) _ _ E0 (hr.make C us []) (I2.env0.make C us []) (hb _ (ϐ (hh.objs.size+1)::us) I2.kIn hl) (by rw[ϔ];show r2) hs) λz s' hq'=>?_));cases z with
 |error e=>show ϴ hq'
 |ok fl=>
  cases fl with
  |ret u=>ext(⟨v,H',I3,rv,ev,q3⟩:I2.after hq');subst ev;show{rv,hq _ s' H' (Ϫ I.sz (F7 _)) fr I3 q3}
  |next=>show ϴ hq'
  |brk=>show ϴ hq'
  |cont=>show ϴ hq'
end
open PySem PySem.Spec PyProof.Rows PySem.W
def eE(P:Ι)(w:ώ):xJ:=λouter H s E b a=>∃e T C dx H',b=.ref e/\a.os=s.os/\Sk a.gens/\Un (gW outer) [] H H' s.heap a.heap/\gZ P w H' a.heap /\
 qN a.heap e T (.ref C) (Z dx) .none/\s.heap.get? e=Β/\s.heap.get? T=Β/\H' e=Β/\H' T=Β/\E (.ref C) (Z dx) H'
def Db(X:Cx)(E:XK):Prop:=∀(a:List (υ×Obj))(σ:St)(H:Hp)(s:ψ)(e C t dx:υ),ax X a σ H s->H e=Z (Xo C t dx e)->X.s₀.heap.objs.size<=e->E (.ref C) (Z dx) (λb=>if b=e then Β else H b)->X.xe (.ref e) s
def Hi(u:Un fs ex H0 H h0 h)(a:H e=Z (.ext φ))(c:h0.get? e=Β):Un fs ex H0 (λb=>if b=e then Β else H b) h0 h where
 keep:=u.keep
 slot:=u.slot
 free:=λb o q n x=>by
  split
  .rfl
  .show u.free b o q n x
 there:=u.there
 tups:=λb xs q=>by let z:=u.tups b xs q;rw[Z6 (λy=>by rw[y,a]at z;cases z)];show z
 frzs:=λb o v q=>by let z:=u.frzs b o v q;rw[Z6 (λy=>by rw[y,a]at z;cases z)];show z
 tbls:=λb ps q=>by ext(⟨m,z⟩:u.tbls b ps q);show{m,2};rw[Z6 (λy=>by rw[y,a]at z;cases z)];show z
def Cr(x:gZ P w H h)(c:H e=Z (.ext φ)):gZ P w (λb=>if b=e then Β else H b) h:=λa o q=>by
 let d:H a=Z o:=by
  by_cases z:a=e
  .simp only[z,if_true]at q;cases q
  .simpa only[z,if_false]using q
 show(x a o d).stay (λ_ _ _ z=>z) (λb z=>?_) λb xs z=>?_
 .change(if b=e then Β else H b)=_;rw[Z6 (λy=>by rw[y,c]at z;cases z)];show z
 .change(if b=e then Β else H b)=_;rw[Z6 (λy=>by rw[y,c]at z;cases z)];show z
section
variable{P:Ι}{w:ώ}{K:Frag}{mg:Str->Option ν}{base:ϙ}{N:List Str}{qual:Str}{scope:M8}{f:υ}{cd:ν}{A:Ϛ}{outer:List Env}{s0:ψ}{H0:Hp}{E:XK}
def kr:Db (bP (eE P w) P w K mg base N qual scope f cd A outer s0 H0 E) E:=by
 intro l σ H s e C t dx I g hz i;let h:=g_ hz;show uD I.ok.frames I.stack U {00,(Xo.at_ I g),11111} λh' T d m x=>?_;let j:=λb a=>by change (if b=e then Β else H b)=Β;rw[I.stkFree b a];split<;>rfl
 let c:=λb a=>by
  change(if b=e then Β else H b)=Β;split
  .rfl
  .rcases ξ.mp a with z|z
   .contradiction
   .rw[ο.mp z];show I.hok.fresh d
 show{e,T,C,dx,01,I.os,I.bare,m.un (Hi I.base g h) (λb a=>?_) (λb a=>?_),m.hok (Cr I.hok g) j c,x,h,2,c e (),c T (),i}
 .rcases ξ.mp (I.stkSub b a)with z|z
  .show .inr (by rw[z];show g_ (Α _))
  .show .inl z
 .rcases ξ.mp a with z|z
  .rw[z];show h
  .rw[ο.mp z];show g_ (Ϫ I.sz d)
 .show g_ (Ϫ I.sz d)
def Iz:dL (eE P w) (bP (eE P w) P w K mg base N qual scope f cd A outer s0 H0 E) E:=by
 intro u σ H s k G I g;ext(⟨e,T,C,dx,H',rfl,t,j,F,h,B,M,v,p,L,q⟩:g);let c:ax (bP (eE P w) P w K mg base N qual scope f cd A outer s0 H0 E) u σ H' G:=I.call' t F h j λb z=>absurd z ();let l:∀b:υ,s.heap.get? b=Β->s0.heap.get? b=Β:=λb a=>by
  cases z:s0.heap.get? b with
  |none=>rfl
  |some o=>obtain⟨Q,r⟩:=I.base.there b o z (λy=>absurd (show b∈([]:List υ)from y) ());rw[a]at r;cases r
 show yi c.ok.frames c.stack U B λh' d n m x=>?_;let g:∀b∈[e,T,d],H' b=Β:=λb a=>by
  rcases ξ.mp a with z|a
  .rw[z];show p
  .rcases ξ.mp a with z|z
   .rw[z];show L
   .rw[ο.mp z];show h.fresh n
 let i:∀b∈[e,T,d],s0.heap.get? b=Β:=λb a=>by
  rcases ξ.mp a with z|a
  .rw[z];show l e M
  .rcases ξ.mp a with z|z
   .rw[z];show l T v
   .rw[ο.mp z];show g_ (Ϫ c.sz n)
 show{e,d,C,dx,H',1,c.os,j,m.un c.base (λb a=>?_) i,m.hok h c.stkFree g,x,i e (),i d (),p,g d (),q};rcases ξ.mp (c.stkSub b a)with z|z
 .show .inr (by rw[z];show g_ (Α _))
 .show .inl z
end
inductive Fh (C:υ) (E:XK)  (vs:List V) (H1:Hp):Prop|mk v (_:vs=[v]) (_:∀dx,H1 dx=Β->E (.ref C) (Z dx) (upd H1 dx (.xd [("place",v)])))
def LQ(C:υ)(E:XK)(a:TA):TS:=λ_ σ H=>a σ H (Fh C E)
def nt(K:Frag)(D fI:υ):Sp:=λvs H Q _=>∃e C t v,vs=[.ref e,v]/\H e=Z (Xr C t e)/\jN K D fI C/\∀dx t',H dx=Β->dx≠e->Q .non (upd (upd H dx (.xd [("place",v)])) e (Xo C t' dx e))
def KR(B:A.handled=Β)
  (h:ύ M A x (λv a=>∃e C D y q N bs z b r c m k0 u n l j i t dx,v=.ref e/\a.heap.get? C=Z (ϯ y q C N bs (.ref D::AE) O z b r c m k0 u n l j i)/\a.heap.get? e=Z {jX C t with dict:=Z dx}/\E (.ref e) a) E s):
  ύ M A (raiseStmt env (Z x) Β) Q E s:=by
 show ζ (m_ h (λv a h₁=>?_) λ_ _ x=>x);ext(⟨e,C,D,y,q,N,bs,z,b,r,c,m,k0,u,n,l,j,i,t,dx,rfl,p,o,F⟩:h₁);ext(⟨H,g,d,tk,I⟩:a);let G:(ϐ C::.ref D::AE).contains (.type "BaseException")=O:=cp.up (cp.up ());unfold jX at o;repeat (first|with_reducible show ϕ o ?_|with_reducible show ϕ p ?_|(with_reducible show i9 p ?_;rw[G])|wp_step)
 show wpAny_raiseNew_none B F
section
variable{X:Cx}{D fI C:υ}{x:Str}{np cpos pos:Pos}{e:Ϲ}{es:List Ϲ}{t:TA}{E:XK}{k:Nat}{fd:ϣ}{ps:List Str}
def ps_raise(c:jN X.K D fI C)(FI:au X.prog X.w X.K X.mg X.base bg k fI fd ps (nt X.K D fI))(u:cf (k+1) X.A)(d:bE X.K fd ps [])(hg:Gl X x)(hm:X.mg x=Z (.ref C))(hR:Db X E)(f:PA X (e::es) t)
  (u1:autoParam ((x==("__debug__" : Str))=J) yD._auto_1) (he:autoParam (ϗ (e::es) X.env=(J,eval e X.env)::ϗ es X.env) yR._auto_1) (u2:autoParam ((C_ cpos (ϗ es X.env)).any (·.1)=J) yR._auto_1):
  PS X (.Raise (Z (.Call (.Name x np) (e::es) [] cpos)) Β pos) (LQ C E t):=by
 intro m s σ H Dn I h;ext(⟨nm,q,N,bs,S,L,ab,M,u0,k0,k1,k2,W,T,V⟩:c.obj);rw[arm_exec_Raise];show ζ (Q9 (KR u.hd (ζ (m_ (Q:=λv B=>∃e a dx t',v=.ref e/\ax X m σ a B/\a e=Z (Xo C t' dx e)/\X.s₀.heap.objs.size<=e/\E (.ref C) (Z dx) (λb=>if b=e then Β else a b)) (r_ (fG I hg hm ?_ u1)) (λv F G=>ζ (Q9 (Η ?_))) λ_ _ x=>x))))
 .show B7 I.ok.mod.kin c.kp (bw (f cpos m s σ H _ I h) λus s1 ⟨vs,l,p,r,v,ev,q⟩=>{p.kIn,2}) he u2;subst ev;show HX (R:=λe a=>∃dx t t',l dx=Β/\dx≠e/\a=upd (upd (upd l e (Xr C t e)) dx (.xd [("place",v)])) e (Xo C t' dx e)) c FI u d p r (by rw[ι];change 1<=_;omega) (λe t z=>{e,C,t,v,1,aa,c,λdx t' j i=>{1,dx,t,t',2,i,1}}) λe s' a n z g ⟨dx,t,t',j,i,eH⟩=>?_
  .rw[ai i]at j;show j
  .subst eH
   show{e,0,dx,t',1,g,aa,n,2};let y:(λb=>if b=e then Β else upd (upd (upd l e (Xr C t e)) dx (.xd [("place",v)])) e (Xo C t' dx e) b)=upd l dx (.xd [("place",v)]):=by
    funext b;by_cases d:b=e
    .rw[Z5 d,d,ai (ϝ i),z]
    .rw[Z6 d,ai d];unfold upd;split
     .rfl
     .first|rfl|rw[Z6 d]
   rw[y];show(q dx j)
 .ext(⟨e,a,dx,t',rfl,g,o,n,P⟩:G);show{e,C,D,nm,q,N,bs,S,L,ab,M,u0,k0,k1,k2,W,T,0,t',dx,1,g.kIn _ _ V,Xo.at_ g o,hR m σ a F e C t' dx g o n P}
end
open PySem PySem.Spec PyProof.Rows PySem.W
inductive NQ (K:Frag) (D fI:υ) (Q:VK) (vs:List V) (H1:Hp):Prop|mk e C t0 v (_:vs=[.ref e,v]) (_:H1 e=Z (Xr C t0 e)) (_:jN K D fI C) (_:∀t',Q .non (upd H1 e (Xr C t' e)))
def RQ(K:Frag)(D fI:υ)(t:TA):TE:=λσ H Q=>t σ H (NQ K D fI Q)
def FW{K:Frag}:findCls K (.type "ValueError") (.type "type") "__init__"=Z (.val (.builtin "ValueError.__init__")):=by kernel_rfl
def yH:typeOf (.type "ValueError")=pure (.type "type"):=by kernel_rfl
def Iw:handedIn (.builtin "ValueError.__init__")=O:=by kernel_rfl
def GU:Manifest.isStub "ValueError"=J:=()
section
variable{X:Cx}{D fI C:υ}{x:Str}{np apos cpos pos pos':Pos}{e o value:Ϲ}{es:List Ϲ}{t:TA}{ta tv:TE}{pl:Sem Bool}
def pe_vinit(hg:Gl X "ValueError")(hm:X.mg "ValueError"=Β)(hv:M2 "ValueError"=Z (.type "ValueError"))(ha:PA X (e::es) t)
  (ht:autoParam (eval (.Call (.Attribute (.Name "ValueError" np) "__init__" apos) (e::es) [] pos) X.env=(do
   let ov <-eval (.Name "ValueError" np) X.env
   standAt apos.atName
   let (f,first) <-holding [ov] (getMethod ov "__init__" pl)
   callWith pos f first (C_ pos (ϗ (e::es) X.env)) (backToKw pos (S4 [] X.env)))) yR._auto_1)
  (hs:autoParam (ϗ (e::es) X.env=(J,eval e X.env)::ϗ es X.env) yR._auto_1) (hpl:autoParam ((C_ pos (ϗ es X.env)).any (·.1)=J) yR._auto_1):
  PE X (.Call (.Attribute (.Name "ValueError" np) "__init__" apos) (e::es) [] pos) (RQ X.K D fI t):=by
 intro pins s σ H Q I h;show Q0 (iu I hg hm hv ?_ () ()) ht;ext(⟨m,Fr0⟩:I.fr);show method_type Fr0 I.ok.mod.kin yH GU (FW) Iw ?_;let hA:=ha pos pins _ σ H _ (I.tok (s.toks+1)) h;rw[hs]at hA⊢;show P3 (by change(J||(C_ pos (ϗ es X.env)).any (·.1))=J;rw[hpl]<;>rfl) (Calls.evalArgs_plain (bw hA λus s2 ⟨vs,H2,I2,r2,e,C,t0,v,ev,he,c,q⟩=>?_));subst ev;obtain⟨u0,u1,rfl,ru0,ru1⟩:∃u0 u1,us=[u0,u1]/\aU (.ref e) u0/\aU v u1:=by
  cases r2 with
  |cons a r=>
   cases r with
   |cons b r=>cases r with|nil=>show{001,a,b}
 obtain rfl:u0=ϐ e:=ru0;ext(⟨nm,q',N,bs,sn,sub,ab,col,dd,k0,k1,k2,k3,k5,lk⟩:c.obj);let mu:Md (H2 e):=by rw[he];show E5
 ext(⟨hh,g,d,tk,os⟩:s2);show FP F.excBase_ValueError (Dw D) (I2.kIn _ _ lk) (Xr.at_ I2 he) U U (by rw[ι];change 1<=_;omega) λh' k1 k2 _=>?_;show{.non,0,I2.write (t':=tk) mu (.inl U) k1 {0,k2} (Jy k2),1,q _}
inductive Nl (K:Frag) (D fI:υ) (Dn:eh) (σ:St) (y:V) (x:V) (H2:Hp):Prop|mk e C t (_:x=.ref e) (_:H2 e=Z (Xr C t e)) (_:jN K D fI C) (_:∀dx,H2 dx=Β->dx≠e->Dn.nx σ (upd (upd H2 dx (.xd [("place",y)])) e (Xo C t dx e)))
def Rp(K:Frag)(D fI:υ)(ta tv:TE):TS:=λa σ H=>tv σ H λy b=>ta σ b (Nl K D fI a σ y)
def ps_xset(P:PE X o ta)(W:PE X value tv)(S:autoParam (swapsWith value (Z (.Attribute o "place" pos')) pos.line X.env=pure J) yR._auto_1):PS X (.Assign [.Attribute o "place" pos'] value pos) (Rp X.K D fI ta tv):=by
 intro E s σ H Dn I h;show P9 (bw (W E s σ H _ I h) λu u1 ⟨y,u0,M,V,q⟩=>bw (P E u1 σ u0 _ M q) λov T ⟨x,R,l,rx,e,C,t,u2,i,c,u3⟩=>?_) S;subst u2;obtain rfl:ov=ϐ e:=rx;ext(⟨nm,q',N,bs,sn,a2,ab,a3,dd,k0,m,r,G,k5,Q⟩:c.obj);let B:=l.kIn;ext(⟨k,g,d,tk,os⟩:T);show AK F.store_ValueError (B _ _ Q) (jw B c.sa) (jw B c.pl) (Xr.at_ l i) U U U λh' u4 m r G=>?_;let j:=l.hok.fresh (Α _);let L:k.objs.size≠e:=λz=>by rw[z,i]at j;cases j
 let K:∀b o,k.get? b=Z o->b≠k.objs.size:=λb o z=>ϩ (Ξ z);show{σ,0,l.un (t':=u4) (H':=upd (upd R k.objs.size (.xd [("place",y)])) e (Xo C t k.objs.size e)) {λb o z n _ _=>m b o (λw=>by rw[w,i]at n;cases n) z,λb o z n _ _=>{o.slots,m b o (λw=>by rw[w,i]at n;cases n) z},λb o z n _=>?_,λb o z _=>?_,λb xs z=>?_,λb o v z=>?_,λb ps z=>{#[],2}} (λb v z=>?_),u3 _ j L}
 .rw[ai (λw=>by rw[w,i]at n;cases n),ai (K b o z)];show n
 .by_cases w:b=e
  .rw[w];show{0,r}
  .show{o,m b o w z}
 .rw[ai (λw=>by rw[w,i]at z;cases z),ai (λw=>by rw[w,j]at z;cases z)];show z
 .rw[ai (λw=>by rw[w,i]at z;cases z),ai (λw=>by rw[w,j]at z;cases z)];show z
 .rw[ai (λw=>by rw[w,i]at z;cases z),ai (λw=>by rw[w,j]at z;cases z),z];simp
 .by_cases w:b=e
  .rw[w,aa]at z;cases z;rw[w];show NA r
  .rw[ai w]at z;by_cases p:b=k.objs.size
   .rw[p,aa]at z;cases z;rw[p];show{0,G,λf=>?_};by_cases A:f="place"
    .rw[A];show V
    .rw[Z6 A,ϱ,beq_false_of_ne A];show E5
   .rw[ai p]at z;show(l.hok b v z).stay (λc o a y=>m c o (λw=>?_) y) (λc a=>?_) λc xs a=>?_
    .rcases a with a|a
     .show absurd (a.symm.trans w) (by assumption)
     .rw[w,i]at a;cases a
    .rw[ai (λw=>by rw[w,i]at a;cases a),ai (λw=>by rw[w,j]at a;cases a)];show a
    .rw[ai (λw=>by rw[w,i]at a;cases a),ai (λw=>by rw[w,j]at a;cases a)];show a
end
open PySem PySem.Spec PyProof.Rows PySem.W
abbrev xA(X:Cx)(e:υ):Cx:={X with A:=X.A.mark (Z (.ref e)),calm:=J,xe:=λ_ _=>False}
section
variable{X:Cx}{pins:List (υ×Obj)}{σ:St}{H:Hp}{s:ψ}{h':ϙ}{e:υ}
def Gu(a:X.Ok)(e:υ):(xA X e).Ok:=
 {a.mod,a.kind,a.glob,a.blt,a.above,a.inj,a.has,a.cab,λz=>(Χ z).elim,a.frames,a.stk,a.exf,a.bs,a.bsz,a.noex,a.exfs,a.funs,a.frf}
def vf(I:ax X pins σ H s)(e:υ):ax (xA X e) pins σ H s:={Gu I.ok e,I.os,I.bare,I.base,I.loc,I.cell,I.free,I.freeC,I.pin,I.hok,I.len}
def wE(a:X.Ok)(I:ax (xA X e) pins σ H s):ax X pins σ H s:={a,I.os,I.bare,I.base,I.loc,I.cell,I.free,I.freeC,I.pin,I.hok,I.len}
def DQ(I:ax X pins σ H s)(m:Mv (gW X.stack) g s.heap h')(L:∀b∈g,X.s₀.heap.get? b=Β)(K:∀b∈g,H b=Β)(G:∀b∈g,b≠X.env.locals)(f:∀b∈g,∀x c,X.env.cells.lookup x=Z c->c≠b)(e:∀b∈g,∀p∈X.pn++pins,p.1≠b):
  ax X pins σ H {s with heap:=h'}:=by
 let B:∀x c,X.env.cells.lookup x=Z c->∀v,s.heap.IsCell c v->h'.IsCell c v:=λx c q v ⟨o,h,E⟩=>by obtain⟨Q,z⟩:=m.slot c o (λy=>f c y x c q U) h;show{0,z,E}
 ext(⟨R,⟨o,es,ep,h,r⟩,M⟩:I.loc);obtain⟨Q,N⟩:=m.slot _ o (λy=>G _ y U) h;show{I.ok,I.os,I.bare,m.un I.base (λb F=>?_) L,{R,{0,es,ep,N,r},λi x v a b c=>?_},λx c q=>?_,I.free,I.freeC,λp A=>?_,m.hok I.hok I.stkFree K,I.len}
 .rcases ξ.mp (I.stkSub b F)with z|z
  .show .inr (by rw[z];show g_ I.ok.above)
  .show .inl z
 .ext(⟨u,P,l⟩:M i x v a b c);show{u,P,2};rcases l with l|⟨k,j,q,z⟩
  .show .inl l
  .show .inr {k,j,q,B x j q _ z}
 .ext(⟨v,z⟩:I.cell x c q);show{v,B x c q v z}
 .ext(⟨q,n,C,w,d⟩:I.pin p A);show{m.keep _ _ (λy=>(ξ.mp (I.stkSub _ y)).elim C w) (λy=>e _ y p A U) q,n,C,w,d}
def El(I:ax X pins σ H s)(G:X.N.Nodup)(F:X.N[i]?=Z n)(h:F6 X.env.locals s.heap h')(N:h'.Ns X.env.locals (λx=>if x=n then v else m x))
  (e:∀(j:Nat)(x:Str)(w:V),X.N[j]?=Z x->σ[j]?=Z (Z w)->Mc X.env.scope x->∃u,aU w u/\MS X.env s.heap m x u):ax X pins (σ.set i Β) H {s with heap:=h',toks:=t'}:=by
 let C:Mv [] [X.env.locals] s.heap h':={λb o _ q z=>(h.2 b λy=>q (by rw[y];simp)).trans z,λb o q z=>{o.slots,(h.2 b λy=>q (by rw[y];simp)).trans z}};show{I.ok,I.os,I.bare,C.un I.base (λb g=>absurd g ()) (λb g=>by rw[ο.mp g];show g_ I.ok.above),{0,N,λj x w a b c=>?_},λx c q=>?_,I.free,I.freeC,λp L=>?_,C.hok I.hok (λb g=>absurd g ()) (λb g=>by rw[ο.mp g];show I.free),↑I.len}
 .by_cases r:j=i
  .subst r;let:j<σ.length:=by rw[I.len];show(Υ.mp a).1
   rw[O7 this]at b;cases b
  .rw[K8 (ϝ r)]at b;ext(⟨u,M,l⟩:e j x w a b c);show{u,M,2};rcases l with ⟨k,q⟩|⟨k,A,q,z⟩
   .let E:x≠n:=λq=>r (og G a (q▸F));show .inl {k,(Z6 E).trans q}
   .show .inr {k,A,q,z.sameBut h (I.cne x A q)}
 .ext(⟨w,z⟩:I.cell x c q);show{w,z.sameBut h (I.cne x c q)}
 .ext(⟨q,n,B,K,d⟩:I.pin p L);show{(h.2 p.1 B).trans q,n,B,K,d}
end
def Bl(I:ax X pins σ H s)(E:H a=Β)(w:X.s₀.heap.get? a=Β)(m:a≠X.env.locals)(r:∀x c,X.env.cells.lookup x=Z c->c≠a)(B:∀p∈X.pn++pins,p.1≠a)(l:ck X.prog X.w (upd H a o) s.heap a o):
  ax X pins σ (upd H a o) s:=by
 let st:∀b u,H b=Z u->upd H a o b=Z u:=λb u q=>by rw[ai (λz=>by rw[z,E]at q;cases q)];show q
 show{I.ok,I.os,I.bare,{I.base.keep,I.base.slot,λb g q n x=>?_,I.base.there,λb xs q=>st _ _ (I.base.tups b xs q),λb g v q=>st _ _ (I.base.frzs b g v q),λb ps q=>?_},I.loc,I.cell,(ai (ϝ m)).trans I.free,λx c q=>(ai (r x c q)).trans (I.freeC x c q),λp h=>?_,λb u q=>?_,I.len}
 .rw[ai (λz=>by rw[z,w]at q;cases q)];show I.base.free b g q n x
 .ext(⟨j,z⟩:I.base.tbls b ps q);show{j,st _ _ z}
 .ext(⟨q,n,C,A,d⟩:I.pin p h);show{q,(ai (B p h)).trans n,C,A,d}
 .by_cases z:b=a
  .rw[z,aa]at q;cases q;rw[z];show l
  .rw[ai z]at q;show(I.hok b u q).stay (λ_ _ _ y=>y) (λc y=>st _ _ y) λc xs y=>st _ _ y
def Xh(C dx a:υ):HO:=.ext λh=>∃b c,h.get? a=Z {cls:=.ref C,dict:=Z dx,data:=.fields b,slots:=c}/\b[2]?=Z .none
def MT(x:qN h a T (.ref C) (Z dx) fl):ck P w H h a (Xh C dx a):=by ext(⟨⟨⟨o,r,u,q⟩,vs,b,j,d,c,_,g⟩,_⟩:x);subst j;subst d;subst c;show{{00,b,g},{0,b},λ_ _ ⟨m,l,p,z⟩ k=>{m,l,k _ p,z}}
def Fp{M:Model}{A:Ϛ}{E:ν->ψ->Prop}{h:ϙ}{g:Array K3}{d:TY}{t:Nat}{c:Tq}{C D e N T:υ}{b:Obj}{nm q w q':Str}{bs v p j:List ν}{G u:List Str}{n o:Bool}{y l:Option Bool}{s r:Option υ}{k0 k i L I S F x K j5:Option ν}{z m:String}{Q:Bool->ψ->Prop}
  (W:h.get? C=Z (ϯ nm q C N bs (.ref D::AE) O G v n y s k0 k i L I z)) (a:h.get? D=Z (ϯ w q' D T p AE O u j o l r S F x K j5 m)) (V:h.get? e=Z b) (R:b.cls=.ref C) (hq:Q O {h,g,d,t,c}):
  ύ M A (excMatches (.ref e) (.ref D)) Q E {h,g,d,t,c}:=by
 let P:(ϐ D::AE).contains (.type "BaseException")=O:=cp.up ();let B:(ϐ C::.ref D::AE).contains (.ref D)=O:=();let f:=tc_notTuple;repeat (first|(with_reducible show ϕ V ?_;rw[R])|with_reducible show ϕ a ?_|(with_reducible show i9 a ?_;rw[P])|(with_reducible show i9 W ?_;rw[B])|wp_step)
 show hq
def Py(K:Frag)(D fI:υ)(i:Nat)(sp:Sp)(t:TA)(ts:υ->TS):TS:=λb σ H=>t σ H λvs g=>sp vs g (λ_ a=>b.nx σ a) λd c a=>∃C dx v,d=.ref C/\c=Z dx/\jN K D fI C/\a dx=Z (.xd [("place",v)]) /\
 ∀e,a e=Β->ts e {nx:=λσ' H'=>b.nx (σ'.set i Β) H',rt:=b.rt,bk:=λσ' H'=>b.bk (σ'.set i Β) H',ct:=λσ' H'=>b.ct (σ'.set i Β) H'} (σ.set i (Z (.ref e))) (upd a e (Xh C dx e))
section
variable{X:Cx}{D fI f:υ}{x xD n:Str}{np cpos epos tp hpos pos:Pos}{e:Ϲ}{es:List Ϲ}{t:TA}{k i:Nat}{fd:ϣ}{ps:List Str}{sp:Sp}{b₀:ϸ}{suite:List ϸ}{ts:υ->TS}
def ps_try(F:au X.prog X.w X.K X.mg X.base (eE X.prog X.w) k f fd ps sp)(hr:cf k X.A)(hg:Gl X x)(hm:X.mg x=Z (.ref f))(hk:keepIn X.K (.ref f)=O)(hb:bE X.K fd ps [])(ha:PA X (e::es) t)(hx0:∀v s,X.xe v s->False)(hex:X.ex=[])
  (hT:Nu X.K D) (hgD:Gl X xD) (hmD:X.mg xD=Z (.ref D)) (hst:X.stack=X.env::X.outer) (hfr:X.env.frame=Z X.env.locals) (hN:X.N.Nodup) (hi:X.N[i]?=Z n) (hloc:X.env.scope.names.lookup n=Z .local)
  (hsu:∀e,lG (xA X e) (b₀::suite) (ts e)) (hdb:autoParam ((x==("__debug__" : Str))=J) yD._auto_1) (hdD:autoParam ((xD==("__debug__" : Str))=J) yD._auto_1)
  (he:autoParam (ϗ (e::es) X.env=(J,eval e X.env)::ϗ es X.env) yR._auto_1) (hpl:autoParam ((C_ cpos (ϗ es X.env)).any (·.1)=J) yR._auto_1) (hsw:autoParam (swapsWith (.Call (.Name x np) (e::es) [] cpos) Β epos.line X.env=pure J) yR._auto_1):
  PS X (.Try [.Expr (.Call (.Name x np) (e::es) [] cpos) epos] [.ExceptHandler (Z (.Name xD tp)) (Z n) (b₀::suite) hpos] [] [] pos) (Py X.K D fI i sp t ts):=by
 intro pins s σ H Dn I h;show wpAny_Try_except (Td (wpAny_Expr_any (r_ (fG I hg hm ?_ hdb)) I.quiet hsw));show B7 I.ok.mod.kin hk (m_ (ha cpos pins s σ H _ I h) (λus s1 ⟨vs,H1,I1,r,q⟩=>{I1.kIn,2}) λv s' z=>(hx0 v s' z).elim) he hpl;let hl:(us++[]).length=ps.length:=by rw[ϔ,<-r.length];show F.len _ _ _ _ q
 show Q5 (J1 (F.run X.A X.stack s1 H1 {us,[]} (us++[]) vs _ _ hr I1.env0 (hb s1 us I1.kIn hl) (by rw[ϔ];show r) q) λz s' hq=>?_);cases z with
 |ok fl=>
  cases fl with
  |ret u=>ext(⟨v,H2,I2,rv,q2⟩:I1.after hq);show J5 (J5 {σ,H2,I2,q2})
  |next=>show ϴ hq
  |brk=>show ϴ hq
  |cont=>show ϴ hq
 |error ev=>
  ext(⟨a,T,C0,dx0,H',rfl,os,bare,un,hok,xo,ne,nT,ue,uT,C,dx,v,ec,ed,c,hdx,q2⟩:hq);cases ec;cases ed;let I2:=I1.call' os un hok bare λb z=>absurd z ();let old:∀b:υ,s1.heap.get? b=Β->X.s₀.heap.get? b=Β:=λb hb=>by
   cases z:X.s₀.heap.get? b with
   |none=>rfl
   |some o=>obtain⟨o',z'⟩:=I1.base.there b o z (by rw[hex];simp);rw[hb]at z';cases z'
  let hfr':X.A.frames=Z (X.env::X.outer):=by rw[<-hst];show I2.ok.frames
  let flds:∀b o vs,s'.heap.get? b=Z o->o.data=.fields vs->b≠X.env.locals/\∀x c,X.env.cells.lookup x=Z c->c≠b:=λb o vs q hd=>by
   show{λz=>?_,λx c qc z=>?_}
   .ext(⟨m,⟨o',es,ep,ho',hd',_⟩,_⟩:I2.loc);rw[<-z,q]at ho';cases ho';rw[hd]at hd';cases hd'
   .ext(⟨v,o',ho',hd'⟩:I2.cell x c qc);rw[z,q]at ho';cases ho';rw[hd]at hd';cases hd'
  let pin1:∀b,s1.heap.get? b=Β->∀p∈X.pn++pins,p.1≠b:=λb hb p hp z=>by let y:=(I1.pin p hp).1;rw[z,hb]at y;cases y
  let fe:=let ⟨⟨oe,vs,he,_,_,hd,_⟩,_,_⟩:=xo;flds a oe vs he hd
  let fT:=let ⟨_,⟨oT,ts,hT,hd,_⟩,_⟩:=xo;flds T oT ts hT hd
  show rD hfr' (hst▸I2.stack) hfr xo λh1 T1 l1 m1 x1=>?_;show eZ x1 λh2 m2 x2=>?_;let mm:Mv (gW X.stack) [a,T,T1] s'.heap h2:=by
   rw[hst];show(m1.mono (λ_ z=>z) λb z=>?_).trans (m2.mono (λ_ z=>absurd z ()) λb z=>?_)
   .rcases ξ.mp z with z|z
    .show ξ.mpr (.inl z)
    .show ρ _ (ξ.mpr (.inl (ο.mp z)))
   .show ρ _ (ρ _ z)
  let all3:∀{p:υ->Prop},p a->p T->p T1->∀b∈[a,T,T1],p b:=λp1 p2 p3 b hb=>by
   rcases ξ.mp hb with z|hb
   .rw[z];show p1
   .rcases ξ.mp hb with z|z
    .rw[z];show p2
    .rw[ο.mp z];show p3
  let lt1:∀b o,s'.heap.get? b=Z o->b≠T1:=λb o q=>ϩ (Ϝ (Ξ q) l1);let g0:=all3 (p:=λb=>X.s₀.heap.get? b=Β) (old a ne) (old T nT) (g_ (Ϫ I2.sz l1));let g1:=all3 (p:=λb=>H' b=Β) ue uT (hok.fresh l1);let g2:=all3 (p:=λb=>b≠X.env.locals) fe.1 fT.1 (D0 (Ϝ I2.lt l1));let g3:=all3 (p:=λb=>∀x c,X.env.cells.lookup x=Z c->c≠b) fe.2 fT.2 λx c q=>let ⟨_,o,z,_⟩:=I2.cell x c q;lt1 c o z
  let g4:=all3 (p:=λb=>∀p∈X.pn++pins,p.1≠b) (pin1 a ne) (pin1 T nT) λp hp=>lt1 _ _ (I2.pin p hp).1;let I3:=DQ I2 mm g0 g1 g2 g3 g4;ext(⟨nm,q',N,bs,sn,sub,ab,col,dd,k0,k1,k2,k3,k5,lk⟩:c.obj);ext(⟨nm',q'',N',bs',sn',sub',ab',col',dd',j0,j1,j2,j3,j5,lkD⟩:hT.obj);show wpAny_handleBy_cons (codeAny_handlers_test (fG (vf I3 a) hgD hmD ?_ hdD)) (by intro z;cases z);ext(⟨oe,vs,he2,hc2,hd2,_⟩:x2.obj);ext(⟨hp0,g,dr,tk,os0⟩:s');show Fp (I3.kIn _ _ lk) (I3.kIn _ _ lkD) he2 hc2 (codeAny_handlers_suite_as (eZ x2 λh3 m3 x3=>?_));let I5:=Bl (DQ I3 ((m3.mono (λ_ z=>absurd z ()) λb z=>ρ _ (ρ _ z)):Mv (gW X.stack) [a,T,T1] h2 h3) g0 g1 g2 g3 g4) ue (old a ne) fe.1 fe.2 (pin1 a ne) (MT x3);show jB (X:=xA X a) (vf I5 a) hN hi (.inl hloc) (v:=.ref a) U (λs6 I6=>?_) (.inr hloc);show m_ (hsu a pins s6 _ _ _ I6 (q2 a ue)) (λfl s7 h7=>?_) λ_ _ z=>z.elim;let goes:∀(σ':St)(H7:Hp)(Q:ψ->Prop),ax (xA X a) pins σ' H7 s7->(∀s8,ax X pins (σ'.set i Β) H7 s8->Q s8)->ύ (ϓ X.prog X.w) X.A (do bindName X.env n .none;unbindBehindTheSuite X.env n hpos) (λ_ s8=>Q s8) X.xe s7:=λσ' H7 Q I7 hQ=>by let I7':=wE I.ok I7;ext(⟨m7,hn7,hl7⟩:I7'.loc);show wpAny_nameGoes_keeps hloc hn7 (by rw[I.ok.kind];rfl) λh8 v8 n8 s8=>hQ _ (El I7' hN hi s8 n8 hl7)
  cases fl with
  |next=>ext(⟨σ',H7,I7,z⟩:h7);show goes σ' H7 _ I7 λs8 I8=>{0,H7,I8,z}
  |brk=>ext(⟨σ',H7,I7,z⟩:h7);show goes σ' H7 _ I7 λs8 I8=>{0,H7,I8,z}
  |cont=>ext(⟨σ',H7,I7,z⟩:h7);show goes σ' H7 _ I7 λs8 I8=>{0,H7,I8,z}
  |ret u=>ext(⟨v,σ',H7,I7,rv,z⟩:h7);show goes σ' H7 _ I7 λs8 I8=>{v,0,H7,I8,rv,z}
end
open PySem PySem.Spec PyProof.Rows PySem.W
structure Lr(K:Frag)(D C:υ):Prop where
 obj:∃nm q N bs sn sub ab col dd k0 k1 k2 k3 k5,K.lookup C=Z (ϯ nm q C N bs (.ref D::AE) O sn sub ab col dd k0 k1 k2 k3 k5 "ValueError.__new__")
 ne:C≠D
def jN.sub{K:Frag}{D fI C:υ}(c:jN K D fI C):Lr K D C:={c.obj,c.ne}
section
variable{X:Cx}{D fI:υ}
def Oa:Tx M h (isType (.type "ValueError")) O:=λA Q E s k q=>Η q
def bQ:eQ X (.builtin "isinstance") (λxs H Q=>∃a C dx c,xs=[.ref a,c]/\H a=Z (Xh C dx a)/\jN X.K D fI C/\((∃f b,c=.ref f/\Lr X.K D f/\decide (f=C)=b/\Q (.bl b) H)\/(c=.ty "ValueError"/\Q (.bl O) H))):=by
 intro M s σ H xs us Q I r h;ext(⟨a,C,dx,c0,rfl,G,c,h⟩:h);ext(⟨u,v,rfl,K,n⟩:vi r);obtain rfl:u=ϐ a:=K;ext(⟨⟨ws,sl,j,_⟩,_⟩:I.hok a _ G);ext(⟨nm,q',N,bs,sn,W,ab,o,dd,k0,k1,k2,k3,k5,t⟩:c.obj);let i:=I.kIn;let B:=I.tok (s.toks+1);ext(⟨m,g,d,tk,os⟩:s);rcases h with ⟨f,b,rfl,p,rfl,q⟩|⟨rfl,q⟩
 .obtain rfl:v=ϐ f:=n;ext(⟨u0,S,N',T,e,u1,R,P,V,j0,j1,j2,j3,j5,y⟩:p.obj);let l:m.get? f=_:=i _ _ y;by_cases z:f=C
  .subst z;rw[Z9 U]at q;show Ed j U {.bl O,H,I,1,q}
  .rw[Z8 z]at q;let x:Tx (ϓ X.prog X.w) m (typeOf (.ref f)) (.type "type"):=λA Q E s k q=>by show ζ (Sz (k _ _ l) (Η q))
   show Ix F.attrBase_ValueError (i _ _ t) j U () (jw i c.cl) (jw i c.ga) (jw i c.gh) (by simp[ϝ z]) ?_ x (Jk l) {.bl J,H,B,1,q};rw[SN,SN];let L:(ϐ f==ϐ C)=J:=by simp[z]
   let u2:(ϐ f==ϐ D)=J:=by simp[p.ne]
   rw[L,u2];rfl
 .obtain rfl:v=Tk "ValueError":=n;show Bu (i _ _ t) j U U (cp.up (cp.up ())) (Tx.of_pure yH) Oa {.bl O,H,I,1,q}
variable{o:Ϲ}{to:TE}{pos:Pos}
inductive Om (K:Frag) (D fI:υ) (Q:VK) (x:V) (H1:Hp):Prop|mk a C dx v (_:x=.ref a) (_:H1 a=Z (Xh C dx a)) (_:jN K D fI C) (_:H1 dx=Z (.xd [("place",v)])) (_:Q v H1)
def Rj(K:Frag)(D fI:υ)(to:TE):TE:=λσ H Q=>to σ H (Om K D fI Q)
def pe_xfld(G:PE X o to)(r:autoParam (M9 o "place" X.env (eval o X.env)=eval o X.env) yR._auto_1):PE X (.Attribute o "place" pos) (Rj X.K D fI to):=by
 intro l s σ H Q I h;show zm r (bw (G l s σ H _ I h) λu k ⟨x,B,f,M,a,C,dx,v,u0,t,c,p,q⟩=>?_);subst u0;obtain rfl:u=ϐ a:=M;ext(⟨⟨V,sl,z,_⟩,_⟩:f.hok a _ t);ext(⟨L,K,m⟩:f.hok dx _ p);ext(⟨nm,q',N,bs,sn,E,w,P,e,k0,k1,W,T,S,y⟩:c.obj);let b:=m "place";let i:=f.kIn;let n:=f.tok (k.toks+1);ext(⟨R,g,d,tk,A⟩:k);cases j:L "place" with
 |none=>rw[j]at b;show b.elim
 |some u=>rw[j]at b;let b:=b;show KQ F.attrBase_ValueError (i _ _ y) (jw i c.ga) (jw i c.gh) (jw i c.pl) z K j (by rw[handedOut_of (rF b)]) {v,B,n,b,q}
end
def xb:entryFor table "proto.unchain"=Z E_.«proto.unchain»:=entryFor_of_fast (by kernel_rfl)
section
variable{prog:Ι}{w:ώ}{A:Ϛ}{E:ν->ψ->Prop}{s:ψ}{e:υ}
def xU(d:A.handled=Z (.ref e))(i:s.heap.get? e=Z oe)(b:oe.data=.fields ws)(j:ws[2]?=Z .none)(g:s.heap.get? a=Z oa)(c:oa.data=.fields vs)(hz:2<vs.size)(f:e≠a)
  (h:E (.ref a) {s with heap:=s.heap.update a (J8 (·.setIfInBounds 2 (.ref e)))}):ύ (ϓ prog w) A (raiseNew (.ref a):Sem α) Q E s:=by
 show ζ (wpAny_handled ?_);rw[d];change ύ _ _ (if (ϐ e != ϐ a)=O then _ else _) _ _ _;rw[Z5 (by simp[f])];show ζ (E1 (wpAny_runValue (codeAny_builtin xb (ζ (ϲ i b j ?_)))));rw[Z5 ()];show ζ (Η (Η ?_));show ζ (G_ g c hz (wpAny_throw h))
end
open PySem PySem.Spec PyProof.Rows PySem.W
section
variable{P:Ι}{w:ώ}{K:Frag}{mg:Str->Option ν}{base:ϙ}
def OQ{x qual:Str}{st:ϸ}{f:υ}{b:ϣ}{N ps:List Str}{k:Nat}{sp:Sp}(F:Fun K x qual st f b)(S:cK N ps (av st))(g:∀vs H Q E,sp vs H Q E->vs.length=ps.length)
  (c:∀(a:ν)(A:Ϛ)(outer:List Env)(s:ψ)(H:Hp)(vs:List V)(Q:VK)(E:XK),cf k (A.deeper (envOfC qual (av st) s.heap.objs.size f a))->sp vs H Q E ->
   ∃t,lG (bP (eE P w) P w K mg base N qual (av st) f a A outer s H E) (bD st) t/\t {nx:=λ_ H'=>Q .non H',rt:=Q} (fF N vs) H):au P w K mg base (eE P w) (k+1) f b ps sp:=by
 ext(⟨v,u,n,m,r,o,a,q,l,rfl,i,d⟩:F.ex);show Ey i d S g λA outer s H vs Q E j h=>c a A outer s H vs Q E j h
structure Bc(P:Ι)(w:ώ)(K:Frag)(mg:Str->Option ν)(base:ϙ)(k:Nat)(x:Str)(ps:List Str)(sp:Sp):Prop where
 ex:∃f fd,au P w K mg base (eE P w) k f fd ps sp/\bE K fd ps []/\keepIn K (.ref f)=O/\mg x=Z (.ref f)
variable{N:List Str}{qual:Str}{scope:M8}{f0:υ}{cd:ν}{A:Ϛ}{outer:List Env}{s0:ψ}{H0:Hp}{E:XK}{k:Nat}{x:Str}{ps:List Str}{sp:Sp}{p pos:Pos}{e:Ϲ}{es:List Ϲ}{t:TA}
def pe_defX(d:Bc P w K mg base k x ps sp)(i:cf k (A.deeper (envOfC qual scope s0.heap.objs.size f0 cd)))(h:Gl (bP (eE P w) P w K mg base N qual scope f0 cd A outer s0 H0 E) x)(j:PA (bP (eE P w) P w K mg base N qual scope f0 cd A outer s0 H0 E) (e::es) t)(a:autoParam ((x==("__debug__" : Str))=J) yD._auto_1)
  (l:autoParam (ϗ (e::es) (bP (eE P w) P w K mg base N qual scope f0 cd A outer s0 H0 E).env=(J,eval e (bP (eE P w) P w K mg base N qual scope f0 cd A outer s0 H0 E).env)::ϗ es (bP (eE P w) P w K mg base N qual scope f0 cd A outer s0 H0 E).env) yR._auto_1)
  (c:autoParam ((C_ pos (ϗ es (bP (eE P w) P w K mg base N qual scope f0 cd A outer s0 H0 E).env)).any (·.1)=J) yR._auto_1):PE (bP (eE P w) P w K mg base N qual scope f0 cd A outer s0 H0 E) (.Call (.Name x p) (e::es) [] pos) (jg sp [] E t):=by
 ext(⟨f,n,F,b,g,m⟩:d.ex);show tL F i h m g b .nil Iz j a l c
end
open PySem PySem.Spec PyProof.Rows PySem.W
section
variable{X:Cx}{D fI f:υ}{x xD n:Str}{np cpos epos tp hpos pos:Pos}{e:Ϲ}{es:List Ϲ}{t:TA}{k i:Nat}{fd:ϣ}{ps:List Str}{sp:Sp}{b₀:ϸ}{suite:List ϸ}{ts:υ->TS}{tb tu:TB}{body other:List ϸ}
end
open PySem PySem.Spec PyProof.Rows PySem.W
structure qH(e:υ)(k:Nat)(A:Ϛ):Prop where
 hd:A.handled=Z (.ref e)
 dp:A.depth+3*k+5<recursionLimit
 un:A.units+16*k+200<C2
def qH.of(r:cf k X.A):qH e k (xA X e).A:={1,r.dp,r.un}
structure Ot(P:Ι)(w:ώ)(K:Frag)(mg:Str->Option ν)(base:ϙ)(e:υ)(k:Nat)(f:υ)(fd:ϣ)(ps:List Str)(sp:Sp):Prop where
 len:∀vs H Q E,sp vs H Q E->vs.length=ps.length
 run:∀(A:Ϛ)(outer:List Env)(s:ψ)(H:Hp)(args:Args)(us:List ν)(vs:List V)(Q:VK)(E:XK),qH e k A->sy P w K mg base A outer s H->Tn s fd args (ps.zip us)->aI vs us->sp vs H Q E ->
  N7 (ϓ P w) A (.call (.ref f) args) (CR bg outer P w H s Q E) s
abbrev OO(P:Ι)(w:ώ)(K:Frag)(mg:Str->Option ν)(base:ϙ)(N:List Str)(qual:Str)(b:M8)(f:υ)(cd:ν)(A:Ϛ)(outer:List Env)(s:ψ)(H:Hp):Cx:=
 {bP bg P w K mg base N qual b f cd A outer s H E0 with calm:=J,xe:=λ_ _=>False}
def xE{P:Ι}{w:ώ}{K:Frag}{mg:Str->Option ν}{base:ϙ}{N ps:List Str}{qual:Str}{d:M8}{f:υ}{cd:ν}{A:Ϛ}{outer:List Env}{s g:ψ}{H:Hp}{us:List ν}{vs:List V}
  (S:cK N ps d) (c:sy P w K mg base A outer s H) (m:vs.length=ps.length) (r:aI vs us)
  (x:InCallC s s.heap.objs.size (bindL (envOfC qual d s.heap.objs.size f cd).kindOf (ps.zip us) λ_=>Β) (cellsFrom (s.heap.objs.size+1) d.names []) (bindC (envOfC qual d s.heap.objs.size f cd).kindOf (ps.zip us) λ_=>Β) g):
  ax (OO P w K mg base N qual d f cd A outer s H) [] (fF N vs) H g:=by
 ext(⟨b,o,j,l,u,q,n,v,y,h,i⟩:(qx (CX:=bg) (E:=E0) (A:={A with handled:=Β}) S U {c.frames,c.mod,c.bs,c.bsz,c.funs,c.frf,c.hok,c.bare} m r x));show{{b.mod,b.kind,b.glob,b.blt,b.above,b.inj,b.has,b.cab,λz=>(Χ z).elim,b.frames,b.stk,b.exf,b.bs,b.bsz,b.noex,b.exfs,b.funs,b.frf},o,j,l,u,q,n,v,y,h,i}
section
variable{P:Ι}{w:ώ}{K:Frag}{mg:Str->Option ν}{base:ϙ}{e:υ}
def IG{x qual:Str}{st:ϸ}{f:υ}{fd:ϣ}{N ps:List Str}{k:Nat}{sp:Sp}(F:Fun K x qual st f fd)(S:cK N ps (av st))(len:∀vs H Q E,sp vs H Q E->vs.length=ps.length)
  (hbody:∀(cdv:ν)(A:Ϛ)(outer:List Env)(s:ψ)(H:Hp)(vs:List V)(Q:VK)(E:XK),qH e k (A.deeper (envOfC qual (av st) s.heap.objs.size f cdv))->sp vs H Q E ->
   ∃t,lG (OO P w K mg base N qual (av st) f cdv A outer s H) (bD st) t/\t {nx:=λ_ H'=>Q .non H',rt:=Q} (fF N vs) H):Ot P w K mg base e (k+1) f fd ps sp:=by
 ext(⟨oc,od,kV,doc,pm,an,cdv,ct,osl,rfl,lk,hcd⟩:F.ex);show{len,λA outer s H args us vs Q E hr e0 hb r hsp=>?_};let KX:=e0.mod.kin.keeps λb o e=>(e0.bs b o e).1;let hkind:∀y∈ps.zip us,(av st).names.lookup y.1=Z .local\/((av st).names.lookup y.1=Z .cell/\((cellsFrom (s.heap.objs.size+1) (av st).names []).lookup y.1).isSome=O):=λ⟨n,v⟩ hy=>by
  rcases S.par n (RZ hy).1 with q|q
  .show .inl q
  .show .inr {q,O_ _ _ _ (.inl q)}
 show codeAny_call_function (by let:=hr.dp;omega) (KX _ _ lk) U S.co S.gen U (PySem.W.codeRec_of KX hcd) (hb _ _ _ _ (SA S.kind hkind λenv he s1 x=>?_));subst he;show{(e0.mod.nolimit.keeps λb o e=>(e0.bs b o e).1).keeps x.toInCall.keep,codeAny_func ?_};obtain⟨t,ht,hq⟩:=hbody cdv A outer s H vs Q E {hr.hd,by let:=hr.dp;change A.depth+1+3*k+5<_;omega,by let:=hr.un;change A.units+3+16*k+200<_;omega} hsp;let I:=xE S e0 (len _ _ _ _ hsp) r x;show m_ (ht [] s1 (fF N vs) H _ I hq) (λfl s' hs=>?_) λe s' hs=>hs.elim;let fin:∀{σ':St}{H':Hp}{v:V}{u:ν},ax (OO P w K mg base N qual (av st) f cdv A outer s H) [] σ' H' s'->aU v u->Q v H'->CE outer P w H s Q u s':=
  λ{σ' H' v u} a rv q=>{v,H',a.os,a.bare,a.base,a.hok,rv,q}
 cases fl with
 |ret u=>ext(⟨v,σ',H',a,rv,q⟩:hs);show fin a rv q
 |next=>ext(⟨σ',H',a,q⟩:hs);show fin (v:=V.non) a U q
 |brk=>ext(⟨_,_,_,q⟩:hs);show ϴ q
 |cont=>ext(⟨_,_,_,q⟩:hs);show ϴ q
end
section
variable{X:Cx}{k:Nat}{f a:υ}{fd:ϣ}{ps:List Str}{sp:Sp}{x:Str}{p pos:Pos}{e:Ϲ}{es:List Ϲ}{t:TA}
def Ck(F:Ot X.prog X.w X.K X.mg X.base a k f fd ps sp)(hr:qH a k X.A)(hg:Gl X x)(hm:X.mg x=Z (.ref f))(hk:keepIn X.K (.ref f)=O)(hb:bE X.K fd ps [])
  (ha:PA X (e::es) t) (hdb:autoParam ((x==("__debug__" : Str))=J) yD._auto_1) (he:autoParam (ϗ (e::es) X.env=(J,eval e X.env)::ϗ es X.env) yR._auto_1) (hpl:autoParam ((C_ pos (ϗ es X.env)).any (·.1)=J) yR._auto_1):
  PE X (.Call (.Name x p) (e::es) [] pos) (jg sp [] E0 t):=by
 intro pins s σ H Q I h;show r_ (fG I hg hm ?_ hdb);show B7 I.ok.mod.kin hk (bw (ha pos pins s σ H _ I h) λus s1 ⟨vs,H1,I1,r,q⟩=>{I1.kIn,2}) he hpl;let q:sp vs H1 Q E0:=by let q:sp (vs++[]) H1 Q E0:=q;rw[ϔ]at q;show q
 let hl:(us++[]).length=ps.length:=by rw[ϔ,<-r.length];show F.len _ _ _ _ q
 show Q5 (J1 (F.run X.A X.stack s1 H1 {us,[]} (us++[]) vs Q E0 hr I1.env0 (hb s1 us I1.kIn hl) (by rw[ϔ];show r) q) λz s' hq=>?_);cases z with
 |error e=>show hq.elim
 |ok fl=>
  cases fl with
  |ret u=>show I1.after hq
  |next=>show ϴ hq
  |brk=>show ϴ hq
  |cont=>show ϴ hq
end
open PySem PySem.Spec PyProof.Rows PySem.W
section
variable{prog:Ι}{w:ώ}{A:Ϛ}{E:ν->ψ->Prop}{s:ψ}{e:υ}
def wO{it:υ}{x left i:Int}{f:Obj}{c:Array ν}{Q:Option ν->ψ->Prop}(k:A.handled=Z (.ref e))(g:s.heap.get? e=Z f)(j:f.data=.fields c)(l:c[2]?=Z .none)(a:TH s.heap it x left i)(h:left<=0)
  (m:∀h',S7 it s.heap h'->Q Β {s with heap:=h'}):ύ (ϓ prog w) A (TR (.ref it)) Q E s:=by
 let d:s.TypeIs (.ref it) "range_iterator":={0,a,1};show ζ (wpAny_attempt (q_ d SR
  (u_ SR d F.entry_range_iterator_next ?_ (F.args_range_iterator_next_1 _))))
 change ύ _ _ (field (.ref it) 0>>=_) _ _ s;show ζ (ϲ a U U (ζ (ϲ a U U ?_)));show ζ (ϲ a U U ?_);change ύ _ _ (if left<=0 then _ else _) _ _ s;rw[Z5 h];show ζ (Q8 (ζ ?_));show ζ ?_;show ζ (Ϻ ?_ (by size_fits));show ζ (wpAny_of_eq (by first|rfl|(simp only[firstArgMember];rfl)) (Ϻ ?_ (by size_fits)));show xU k (ω _ (ω _ g)) j l (Ψ _ U) U (by rw[Array.size_append];show Ϝ (by decide:2<6) (E3 6 _)) ?_ ?_
 .show ϩ ?_;simp only[r9];show P4 (Ξ g)
 .show ζ (wpAny_isInstance {0,o_ _ (Ψ _ U) U,1} isSubtype_stop (Η (m _ λb o n y=>?_)));rw[Ϧ _ _ (D0 (by simp only[r9];show P4 (Ξ y)))];show ω _ (ω _ y)
end
abbrev Ji(P:Ι)(w:ώ)(K:Frag)(e:υ):=CC (λX=>X.A.handled=Z (.ref e)) P w K
def PU(X:Cx)(e:υ)(pins:List (υ×Obj))(σ:St)(tg:Ϲ)(R:It->Hp->Prop)(d:ν)(c:ψ):Prop:=
 ∃(it:υ) (fp:List υ) (a:Nat->ϙ->Prop) (f:It) (H':Hp),d=.ref it/\ax X pins σ H' c/\Ji X.prog X.w X.K e tg f fp it a/\a 0 c.heap/\(∀b∈fp,kl X pins H' b)/\R f H'
def QP(X:Cx)(e:υ)(tg iter:Ϲ)(b:TI):Prop:=
 ∀(pins:List (υ×Obj))(s:ψ)(σ:St)(H:Hp)(R:It->Hp->Prop),ax X pins σ H s->b σ H R ->
  ύ (ϓ X.prog X.w) X.A (eval iter X.env) (λv a=>ύ (ϓ X.prog X.w) X.A (pyIter v) (PU X e pins σ tg R) X.xe a) X.xe s
def Oq(e C dx:υ)(n:Nat):It:={λi H=>i<n/\H e=Z (Xh C dx e),λi H x H'=>H'=H/\x=.int i,λi H=>n<=i/\H e=Z (Xh C dx e)}
def uB{P:Ι}{w:ώ}{K:Frag}{tg:Ϲ}(e C dx it:υ)(n:Nat):Ji P w K e tg (Oq e C dx n) [it] it (λi h=>TH h it (0+(i:Nat)*1) ((n:Int)-(i:Nat)) 1) where
 mem:=()
 obj:=λi h st b a=>by
  let e:b=it:=↑a
  subst e;show{_,st,λv z=>by let M:TJ _=Tf v:=z;cases M}
 keep:=λi h h' st k=>k it () _ st
 item:=by
  intro X p r j u i pins s σ H E I d st c;subst p r j;ext(⟨f,q,L,g,m,l⟩:d it ());let c:=c.1;show wpAny_pyNext_range_item st () λh' x y=>?_;let B:ax X pins σ H {s with heap:=h',toks:=s.toks+1}:=I.turned (λb o a e=>y.extBut b o a e) f q g m l;let t:TH h' it (0+((i+1:Nat):Int)*1) ((n:Int)-((i+1:Nat):Int)) 1:=by
   let G:(0:Int)+((i+1:Nat):Int)*1=0+(i:Int)*1+1:=by push_cast;omega
   let D:(n:Int)-((i+1:Nat):Int)=(n:Int)-(i:Int)-1:=by push_cast;omega
   rw[G,D];show x
  show{01,uN t U U () {.int i,H,B,{s.toks,2},{11},t,λb a=>(d b a).1}};rw[Int.mul_one,Int.zero_add]
 done:=by intro X p r j u i pins s σ H E I d st c;subst p r j;ext(⟨f,q,L,g,m,l⟩:d it ());ext(⟨⟨A,Q,R,F⟩,_⟩:I.hok e _ c.2);show wO u R U F st (by let:n<=i:=c.1;omega) λh' N=>{1,I.turned (t':=s.toks) (λb o a e=>N b o a e) f q g m l}
 self:=λ_ _ _ _ _ st h=>wpAny_pyIter_rangeiter st h
inductive Go (e:υ) (R:It->Hp->Prop) (vs:List V) (H1:Hp):Prop|mk (j:Int) (C dx:υ) (_:vs=[.int j]) (_:0<=j) (_:j<2^62) (_:R (Oq e C dx j.toNat) H1)
def MA(e:υ)(a:TA):TI:=λσ H R=>a σ H (Go e R)
section
variable{X:Cx}{tg:Ϲ}{e:υ}
def Bt(D:Gl X "range")(n:X.mg "range"=Β)(v:PA X [a] ta)(y:autoParam (ϗ [a] X.env=[(J,eval a X.env)]) yR._auto_1):QP X e tg (.Call (.Name "range" p) [a] [] pos) (MA e ta):=by
 intro pins s σ H R I h;show Call_ (iu I D n boot_range (A2 (bw (v pos pins s σ H _ I h) λus d ⟨vs,i,m,x,g⟩=>?_) y U));ext(⟨j,C,dx,F,g,G,q⟩:g);subst F;cases x with
 |cons r z=>
  cases z;ext(⟨t,rfl⟩:r);show call_range_1 (wpAny_pyIter_range (IsRange.new ..) (small_one () () () ()) ?_);generalize l:d.heap.push _=c;let f:ax X pins σ i {d with heap:=c,toks:=d.toks+2}:=m.kept λb o e=>by rw[<-l];show ω _ e
  show{c.objs.size,[c.objs.size],00,i,1,f.kept (t':=d.toks+2) λb o e=>ω _ e,uB e C dx _ j.toNat,2,λb k=>?_,q}
  .let B:(0:Int)+((0:Nat):Int)*1=0:=();let u:((j.toNat:Nat):Int)-((0:Nat):Int)=E_.Range.rangeSize 0 j 1:=by rw[rangeSize_one];split<;>omega
   rw[B,u];show Ψ _ U
  .let e:b=c.objs.size:=↑k
   subst e;show f.fpOk (Α _) (f.hok.fresh (Α _))
end
section
variable{X:Cx}{pins:List (υ×Obj)}{σ:St}{H:Hp}{s:ψ}{scope:M8}{own:List Str}{ix:List Nat}{fp:List υ}
def La(l:QP X a tg iter wi)(L:dF X.N X.env.scope scope own ix)(r:X.A.handled=Z (.ref a))
  (u0:∀fp s H,PG (X.comp (iU X.N own ix) scope fp s H) tg g) (K:GW own.length g) (y:∀fp s H,Jg (X.comp (iU X.N own ix) scope fp s H) ifs tt) (F:∀fp s H,PE (X.comp (iU X.N own ix) scope fp s H) elt te)
  (u:autoParam (∀x,foldedSetIterable iter X.env x=pure x) yI._auto_1):PE X (.ListComp elt [{tg,iter,ifs,(0)}] scope pos) (MQ wi own.length ix g tt te):=by
 intro pins s σ H Q I h;rw[eval_ListComp];show G4 U u (I.clos L) L.kind L.names (bw (l pins s σ H _ I h) λv W p=>bw p ?_);ext S V ⟨it,fp,E,u1,w,rfl,i,T,c,G,R⟩;show jY L r u0 K y (F _ _ _).nox i T c G R ?_;intro D C z ys H' m P B M N n k d t q;show{m,P,λh' f=>{.ref D,0,t.turned (t':=z.toks) (λb o j e=>f.extBut b o j e) k B (.inr N) M n,1,q D d}}
end
open PySem PySem.Spec PyProof.Rows PySem.W
def zO:mv 0 (.bl x):=λX g σ H s I A v w a b h e d c f=>by subst e d;obtain rfl:a=Sw x:=c;obtain rfl:b=Sw x:=f;show N8 _
section
variable{X:Cx}
def Gv(A:X.A.units+8<C2):fE X (j8 .Eq) (λx y H Q=>∃ds:List Dv,aj H (.lst ds) x/\aj H (.lst ds) y/\(∀d∈ds,mv 6 d)/\Q (.bl O) H):=by
 ext r s σ H x y v u Q I p m ⟨ds,k,j,g,q⟩;ext(⟨l,vs,rfl,i,a⟩:k);ext(⟨C,B,rfl,h,c⟩:j);cases p;cases m;ext(⟨its,f,o,_⟩:I.list (aD.of i));ext(⟨t,b,n,_⟩:I.list (aD.of h));let e:X.A.in1.units+6<C2:=by change X.A.units+1+6<C2;omega
 ext(⟨z,w⟩:gG I g e a c f b);show T4.lists o.isList n.isList z () w X.prog X.w X.xe _ {.bl O,H,I,2,q};change Sw _=Sw O;simp[z]
end
def Hh{P:Ι}{w:ώ}{K:Frag}{mg:Str->Option ν}{base:ϙ}{k:Nat}{f:υ}{fd:ϣ}{ps:List Str}{sp sp':Sp}(F:au P w K mg base (eE P w) k f fd ps sp)(h:∀vs H Q E,sp' vs H Q E->sp vs H Q E0):au P w K mg base bg k f fd ps sp':=
 {λvs H Q E q=>F.len vs H Q E0 (h _ _ _ _ q),λA outer s H args us vs Q E hr he hb hv hs=>J1 (F.run A outer s H args us vs Q E0 hr he hb hv (h _ _ _ _ hs)) λr s' hq=>by
  cases r with
  |ok fl=>cases fl with
   |ret u=>show hq
   |next=>show ϴ hq
   |brk=>show ϴ hq
   |cont=>show ϴ hq
  |error e=>ext(⟨_,_,_,_,_,_,_,_,_,_,_,_,_,_,_,z⟩:hq);show z.elim}
end L2.EX
namespace L2
open PySem PySem.Spec PyProof.Rows
end L2
namespace L2.EX
open PySem PySem.Spec PyProof.Rows PySem.W
section
variable{M:Model}{A:Ϛ}{E:ν->ψ->Prop}{s:ψ}{base:ϙ}{env:Env}{outer:List Env}{L e T:υ}{cls fl:ν}{dx:Option υ}
def wZ(x:qN s.heap e T cls dx fl)(h:∀h',Mv [] [T] s.heap h'->qN h' e T cls dx (fr.elim .none λf=>M7 f)->Q Unit.unit {s with heap:=h'}):ύ M A (setFlight (.ref e) fr) Q E s:=by ext(⟨⟨y,vs,l,v,p,d,i,t⟩,⟨B,ts,k,a,u⟩,m⟩:x);let j:=(m8.mp u).1;let c:∀b,b≠T->(s.heap.update T (J8 (·.setIfInBounds 3 (fr.elim .none λf=>M7 f)))).get? b=s.heap.get? b:=λb r=>Ϧ _ _ (ϝ r);show ζ (ϲ l d i ?_);rw[Z5 ()];show G_ k a j (h _ {λb o _ n z=>(c b λq=>n (by rw[q];simp)).trans z,λb o n z=>{o.slots,(c b λq=>n (by rw[q];simp)).trans z}} {{y,vs,(c e (ϝ m)).trans l,v,p,d,i,t},{00,o_ _ k (J_ (B8 a _)),B8 a _,by simp[j]},m})
def mR(v:A.frames=Z (env::outer))(F:s.heap.FunFrames base (env::outer))(u:env.frame=Z L)(x:qN s.heap e T cls dx fl)(g:fl≠M7 L)
  (h:∀h' c,s.heap.objs.size<=c->Mv (gW (env::outer)) [e,T] s.heap h'->qN h' e c cls dx (M7 L)->Q Unit.unit {s with heap:=h'}):ύ M A (noteFrame (.ref e) env) Q E s:=by
 ext(⟨⟨R,vs,t,D,B,k,r,C⟩,⟨f,ts,j,i,p⟩,I⟩:x);unfold noteFrame;simp only[u];show ζ (ϲ t k r ?_);rw[Z5 ()];show ζ (ϲ j i p ?_);rw[Z6 (↑g)];show ζ (G_ j i (m8.mp p).1 ?_);let d:∀b,b≠T->(s.heap.update T (J8 (·.setIfInBounds 3 J0))).get? b=s.heap.get? b:=λb a=>Ϧ _ _ (ϝ a);let G:Mv (gW (env::outer)) [e,T] s.heap (s.heap.update T (J8 (·.setIfInBounds 3 J0))):={λb o _ n z=>(d b λq=>n (by rw[q];simp)).trans z,λb o n z=>{o.slots,(d b λq=>n (by rw[q];simp)).trans z}};show pD v (F.of_keeps λb o a y=>{o,(d b λq=>?_).trans a,1}) u ((d e (ϝ I)).trans t) D B k (m8.mp r).1 C λh' c l m x=>h h' c (by let e:=l;simpa using e) (G.trans (m.mono (λ_ z=>z) λb z=>ξ.mpr (.inl (ο.mp z)))) x;rw[q,j]at a;cases a;show y ts i
def BE(k:A.frames=Z (env::outer))(p:s.heap.FunFrames base (env::outer))(i:env.frame=Z L)(x:qN s.heap e T cls dx fl)
  (h:∀h' a,a=T\/s.heap.objs.size<=a->Mv (gW (env::outer)) [e,T,a] s.heap h'->qN h' e a cls dx .none->Q Unit.unit {s with heap:=h'}):ύ M A (leaving env (.ref e)) Q E s:=by
 by_cases j:fl=M7 L
 .subst j;show ζ (xB i x (eZ x λd m c=>h d T (.inl U) (m.mono (λ_ z=>absurd z ()) λb z=>by rw[ο.mp z];simp) c))
 .show ζ (mR k p i x j λd a l q c=>eZ c λn o r=>h n a (.inr l) ((q.mono (λ_ z=>z) λb z=>?_).trans (o.mono (λ_ z=>absurd z ()) λb z=>?_)) r)
  .rcases ξ.mp z with z|z
   .show ξ.mpr (.inl z)
   .show ρ _ (ξ.mpr (.inl (ο.mp z)))
  .rw[ο.mp z];simp
end
def Dk(x:qN h e T cls dx fl)(k:∀b o,b=e\/b=T->h.get? b=Z o->h'.get? b=Z o):qN h' e T cls dx fl:=by ext(⟨⟨c,vs,l,r⟩,⟨a,ts,d,i⟩,j⟩:x);show{{c,vs,k e c (.inl U) l,r},{a,ts,k T a (.inr U) d,i},j}
section
variable{P:Ι}{w:ώ}{K:Frag}{mg:Str->Option ν}{base:ϙ}{N:List Str}{qual:Str}{sc scope:M8}{f:υ}{cd:ν}{A:Ϛ}{outer:List Env}{s0:ψ}{H0:Hp}{E:XK}{N':List Str}{fp:List υ}{pins:List (υ×Obj)}{σ:St}{H:Hp}{s:ψ}{Q:ν->ψ->Prop}{acc:ν}
def BZ(I:ax (bP (eE P w) P w K mg base N qual sc f cd A outer s0 H0 E) pins σ H s)(G:∀b∈fp,kl (bP (eE P w) P w K mg base N qual sc f cd A outer s0 H0 E) pins H b):
  dL (eE P w) (((bP (eE P w) P w K mg base N qual sc f cd A outer s0 H0 E).comp N' scope fp s H).wish (notedBy (ϓ P w) (bP (eE P w) P w K mg base N qual sc f cd A outer s0 H0 E).A ((bP (eE P w) P w K mg base N qual sc f cd A outer s0 H0 E).comp N' scope fp s H).env
   λe s'=>compPost (ϓ P w) (bP (eE P w) P w K mg base N qual sc f cd A outer s0 H0 E).A (bP (eE P w) P w K mg base N qual sc f cd A outer s0 H0 E).xe Β Q acc (s.heap.objs.size+1) (.error e) s')) E:=by
 intro pins' σ' H1 s1 ev X I1 j;ext(⟨e,T,C,dx,D,rfl,os,M,un,u1,xo,ne,nT,ue,uT,q⟩:j);let V:=I1.unwish.call' os un u1 M λb z=>absurd z ();let d:=I.call' V.os V.base u1 M λb a=>by ext(⟨f0,f1,f2,x,f4,f5⟩:G b a);grind
 let b7:∀(b:υ),s0.heap.get? b≠Β->∃o,s.heap.get? b=Z o/\b∉fp:=λb a=>by
  cases z:s0.heap.get? b with
  |none=>show absurd z a
  |some o=>
   obtain⟨F,k⟩:=I.base.there b o z (λy=>absurd (show b∈([]:List υ)from y) ());show{F,k,λj=>?_};ext(⟨_,_,_,x,_⟩:G b j);rcases x with x|x
   .show absurd (show b∈([]:List υ)from x) ()
   .show absurd (Ξ z) (SJ.mpr x)
 let R:∀b:υ,s1.heap.get? b=Β->s0.heap.get? b=Β:=λb a=>SY λz=>by ext(⟨F,k,nf⟩:b7 b z);ext(⟨o2,z2⟩:I1.unwish.base.there b F k nf);rw[a]at z2;cases z2
 let b6:∀(b:υ)(h:ϙ),Un (gW outer) [] H0 D s0.heap h->h.objs.size<=b->s0.heap.get? b=Β:=λb h u l=>by
  cases z:s0.heap.get? b with
  |none=>rfl
  |some o=>ext(⟨F,k⟩:u.there b o z ());show absurd (Ξ k) (SJ.mpr l)
 let nC:=SY λz=>by ext(⟨F,k,_⟩:b7 _ z);show absurd (Ξ k) (SJ.mpr (F7 _))
 let fr:∀b∈gW (bP (eE P w) P w K mg base N qual sc f cd A outer s0 H0 E).stack,b<s.heap.objs.size/\b<X.heap.objs.size/\b≠e/\b≠T:=λb a=>by
  ext(⟨_,o,i,p⟩:d.stack.mem a);ext(⟨_,o',d0,_⟩:I.stack.mem a);ext(⟨⟨oe,vs,B,_,_,de,_⟩,⟨oT,ts,g,dT,_⟩,_⟩:xo);show{Ξ d0,Ξ i,λz=>?_,λz=>?_}
  .rw[z,B]at i;cases i;show p _ de
  .rw[z,g]at i;cases i;show p _ dT
 let b8:∀b∈gW (bP (eE P w) P w K mg base N qual sc f cd A outer s0 H0 E).stack,b∈gW outer\/s0.heap.get? b=Β:=λb a=>by
  rcases ξ.mp (d.stkSub b a)with z|z
  .show .inr (by rw[z];show g_ (Α _))
  .show .inl z
 let ff:∀{h h':ϙ}{fs u2:List υ}{l:List Env},h.FunFrames base l->Mv fs u2 h h'->(∀b∈gW l,b∉u2)->h'.FunFrames base l:=λ{h h' fs u2 l} hl m j=>by
  induction l with
  |nil=>trivial
  |cons env b3 ih=>
   ext(⟨hk,⟨L,o,G,t,i,p⟩,hr⟩:hl);let u2:gW (env::b3)=L::gW b3:=by unfold gW;rw[C6,G]
   rw[u2]at j;ext(⟨sl,e'⟩:m.slot L o (j L π) i);show{hk,{L,0,G,t,e',p},ih hr λb a=>j b (ρ _ a)}
 ext(⟨mm,a3,_⟩:V.loc);let eC:e≠s.heap.objs.size+1/\T≠s.heap.objs.size+1:=by
  ext(⟨W,es,ep,t,u0,_⟩:a3);ext(⟨⟨oe,vs,B,_,_,de,_⟩,⟨oT,ts,g,dT,_⟩,_⟩:xo);show{λz=>?_,λz=>?_}
  .rw[z]at B;let:Z oe=Z W:=B.symm.trans t;cases this;rw[de]at u0;cases u0
  .rw[z]at g;let:Z oT=Z W:=g.symm.trans t;cases this;rw[dT]at u0;cases u0
 change ύ _ _ (noteFrame (.ref e) (bP (eE P w) P w K mg base N qual sc f cd A outer s0 H0 E).env) _ _ X;show mR d.ok.frames d.stack U xo (by simp[M7]) λh3 c l3 m3 x3=>?_;let d2:s.heap.objs.size+1<c:=Ϝ a3.lt l3;show{mm,2,λh4 s4 f8 _=>?_}
 .ext(⟨W,es,ep,t,r⟩:a3);show{W,es,ep,m3.keep _ _ (λz=>absurd (fr _ z).1 (SJ.mpr (F7 _))) (λz=>by
   rcases ξ.mp z with z|z
   .show eC.1 z.symm
   .show eC.2 (ο.mp z).symm) t,r}
 let m4:Mv [] [s.heap.objs.size+1] h3 h4:={λb o _ n z=>s4.extBut b o (λq=>n (by rw[q];simp)) z,λb o n z=>{o.slots,s4.extBut b o (λq=>n (by rw[q];simp)) z}};let x4:=Dk x3 λb o a z=>s4.extBut b o (a.elim (λa=>a▸eC.1) λa=>a▸D0 d2) z;ext(⟨oe,vs,B,hc,f9,p,h1,h2⟩:x4.obj);show ζ (ϲ B p h1 ?_);rw[Z6 ()];show ζ (wZ x4 λh5 m5 x5=>wpAny_throw ?_);let a0:Mv (gW (bP (eE P w) P w K mg base N qual sc f cd A outer s0 H0 E).stack) [e,T,s.heap.objs.size+1,c] X.heap h5:=
  (m3.mono (λ_ z=>z) λb z=>by grind).trans ((m4.mono (λ_ z=>absurd z ()) λb z=>by grind).trans (m5.mono (λ_ z=>absurd z ()) λb z=>by grind))
 let a2:∀b∈[e,T,s.heap.objs.size+1,c],D b=Β:=λb a=>by
  rcases ξ.mp a with z|a
  .rw[z];show ue
  rcases ξ.mp a with z|a
  .rw[z];show uT
  rcases ξ.mp a with z|a
  .rw[z];show V.free
  .rw[ο.mp a];show u1.fresh l3
 let a1:∀b∈[e,T,s.heap.objs.size+1,c],s0.heap.get? b=Β:=λb a=>by
  rcases ξ.mp a with z|a
  .rw[z];show R e ne
  rcases ξ.mp a with z|a
  .rw[z];show R T nT
  rcases ξ.mp a with z|a
  .rw[z];show nC
  .rw[ο.mp a];show b6 c X.heap d.base l3
 let b5:=a0.un d.base b8 a1;let b4:=a0.hok u1 d.stkFree a2;let d3:∀b∈gW (bP (eE P w) P w K mg base N qual sc f cd A outer s0 H0 E).stack,b∉[e,T,s.heap.objs.size+1,c]:=λb a z=>by ext(⟨a1,a2,a3,a4⟩:fr b a);grind
 show BE d.ok.frames (ff d.stack a0 d3) U x5 λh6 v l6 m6 x6=>?_;let S:D v=Β/\s0.heap.get? v=Β:=by
  rcases l6 with z|z
  .rw[z];show{a2 c (),a1 c ()}
  .show{b4.fresh z,b6 v h5 b5 z}
 let c9:∀b∈[e,c,v],D b=Β:=λb a=>by
  rcases ξ.mp a with z|a
  .rw[z];show ue
  rcases ξ.mp a with z|a
  .rw[z];show a2 c ()
  .rw[ο.mp a];show S.1
 let d1:∀b∈[e,c,v],s0.heap.get? b=Β:=λb a=>by
  rcases ξ.mp a with z|a
  .rw[z];show R e ne
  rcases ξ.mp a with z|a
  .rw[z];show a1 c ()
  .rw[ο.mp a];show S.2
 show{e,v,C,dx,D,1,d.os,M,m6.un b5 b8 d1,m6.hok b4 d.stkFree c9,x6,R e ne,S.2,ue,S.1,q}
variable{own:List Str}{ix:List Nat}{elt tg iter:Ϲ}{ifs:List Ϲ}{pos:Pos}{wi:TI}{g:TG}{tt:TT}{te:TE}
def Kv(p:PI (bP (eE P w) P w K mg base N qual sc f cd A outer s0 H0 E) tg iter wi)(L:dF N sc scope own ix)
  (M:∀fp s H,PG ((bP (eE P w) P w K mg base N qual sc f cd A outer s0 H0 E).comp (iU N own ix) scope fp s H) tg g) (u2:GW own.length g)
  (z:∀fp s H,Jg ((bP (eE P w) P w K mg base N qual sc f cd A outer s0 H0 E).comp (iU N own ix) scope fp s H) ifs tt)
  (G:∀fp s H i,dL (eE P w) (((bP (eE P w) P w K mg base N qual sc f cd A outer s0 H0 E).comp (iU N own ix) scope fp s H).wish i) E->PE (((bP (eE P w) P w K mg base N qual sc f cd A outer s0 H0 E).comp (iU N own ix) scope fp s H).wish i) elt te)
  (y:autoParam (∀x,foldedSetIterable iter (bP (eE P w) P w K mg base N qual sc f cd A outer s0 H0 E).env x=pure x) yI._auto_1):PE (bP (eE P w) P w K mg base N qual sc f cd A outer s0 H0 E) (.ListComp elt [{tg,iter,ifs,(0)}] scope pos) (MQ wi own.length ix g tt te):=by
 intro pins s σ H Q I h;rw[eval_ListComp];show G4 U y (I.clos L) L.kind L.names (bw (p pins s σ H _ I h) λv s1 t=>bw t ?_);ext u1 s2 ⟨it,fp,tn,u3,u0,rfl,a,T,j,c,W⟩;show jY (C:=λX=>X.calm=O) L U M u2 z (G _ _ _ _ (BZ a c)) a T j c W ?_;intro D C B ys H' m V F R S r n d u q;show{m,V,λh' k=>{.ref D,0,u.turned (t':=B.toks) (λb o l e=>k.extBut b o l e) n F (.inr S) R r,1,q D d}}
def Iy(d:Bc X.prog X.w X.K X.mg X.base k x ps sp)(j:cf k X.A)(i:Gl X x)(l:dL (eE X.prog X.w) X E)(n:PA X (e::es) t)(a:autoParam ((x==("__debug__" : Str))=J) yD._auto_1)
  (o:autoParam (ϗ (e::es) X.env=(J,eval e X.env)::ϗ es X.env) yR._auto_1) (c:autoParam ((C_ pos (ϗ es X.env)).any (·.1)=J) yR._auto_1):PE X (.Call (.Name x p) (e::es) [] pos) (jg sp [] E t):=by
 ext(⟨f,q,F,b,h,m⟩:d.ex);show tL F j i m h b .nil l n a o c
end
end L2.EX
namespace WR
open PySem L2 L2.EX
structure Bx(p:Prop):Prop where
 h:p
def zK(h:1=1:=by decide +kernel):True:=trivial
def zJ(h:1=1:=by intro _ _;rfl):True:=trivial
def zA(h:1=1:=by assumption):True:=trivial
def zN(h:1=1:=by first|show xq _|with_unfolding_all rfl):True:=trivial
def OE(N:List Str)(sc:M8)(i:Nat)(x:Str):Bool:=decide (N[i]?=Z x)&&((sc.names.lookup x==Z .local||sc.names.lookup x==Z .cell||sc.names.lookup x==Z .free)&&(x==("__debug__" : Str)||x==("__classdict__" : Str))==J)
def wv{X:Cx}(i:Nat){x:Str}{pos:Pos}(h:OE X.N X.env.scope i x=O:=by rfl):Bx (PE X (.Name x pos) (jq i)):=by simp only[OE,χ,N_,decide_eq_true_eq,beq_iff_eq]at h;ext(⟨a,b,c⟩:h);let c1:=Bool.or_eq_false_iff.mp c;show{pv i a (by rcases b with (b|b)|b;show .inl b;show .inr (.inl b);show .inr (.inr b)) c1.1 c1.2}
def lW:=λ{v0 v1 v2} (v3:Bx _)=>Bx.mk (@L2.PW.pt v0 v1 v2 v3.h)
def OH:=λ{v0 v1 v2 v3 v4 v5 v6 v7} (v8:Bx _) (v9:Bx _) (v10:Bx _)=>Bx.mk (@L2.pe_ifExp v0 v1 v2 v3 v4 v5 v6 v7 v8.h v9.h v10.h)
def ar:=λ{v0 v1 v2 v3 v4} (v5:Bx _) (v6:Bx _) (v7:autoParam _ yR._auto_1)=>Bx.mk (@L2.pa_cons v0 v1 v2 v3 v4 v5.h v6.h v7)
def uk:=λ{v0}=>Bx.mk (@L2.pa_nil v0)
def mD:=λ{v0 v1 v2 v3 v4 v5 v6} (v7:Bx _) (v8:Bx _)=>Bx.mk (@L2.pe_and v0 v1 v2 v3 v4 v5 v6 v7.h v8.h)
def kb:=λ{v0 v1 v2 v3}=>Bx.mk (@L2.pe_bl v0 v1 v2 v3)
def zt:=λ{v0 v1 v3 v4} v2 v6 v8 (v5:autoParam _ yR._auto_1) (v7:autoParam _ zK._auto_1) (v9:autoParam _ yD._auto_1) (v10:autoParam _ yD._auto_1)=>Bx.mk (@L2.pe_bltn v0 v1 v3 v2 v4 v5 v6 v7 v8 v9 v10)
def eX:=λ{v0 v1 v2 v3 v4 v5 v6 v7 v8 v9 v10 v11} v12 v13 v14 v15 (v16:Bx _) (v17:Bx _) (v18:autoParam _ yR._auto_1) (v19:autoParam _ yR._auto_1) (v20:autoParam _ yR._auto_1) (v21:autoParam _ yR._auto_1) (v22:autoParam _ yR._auto_1)=>Bx.mk (@L2.pe_bm v0 v1 v2 v3 v4 v5 v6 v7 v8 v9 v10 v11 v12 v13 v14 v15 v16.h v17.h v18 v19 v20 v21 v22)
def Qs:=λ{v0 v1 v2 v3 v4 v5 v6 v7 v8} v9 v10 v11 v12 (v13:Bx _) (v14:autoParam _ yR._auto_1) (v15:autoParam _ yR._auto_1)=>Bx.mk (@L2.pe_bm0 v0 v1 v2 v3 v4 v5 v6 v7 v8 v9 v10 v11 v12 v13.h v14 v15)
def cV:=λ{v0 v1 v2 v3 v4 v5 v6 v7 v8} v9 v11 (v13:Bx _) (v10:autoParam _ yR._auto_1) (v12:autoParam _ zK._auto_1) (v14:autoParam _ yD._auto_1) (v15:autoParam _ yD._auto_1) (v16:autoParam _ yR._auto_1) (v17:autoParam _ yR._auto_1)=>Bx.mk (@L2.pe_callB v0 v1 v2 v3 v4 v5 v6 v7 v8 v9 v10 v11 v12 v13.h v14 v15 v16 v17)
def ka:=λ{v0 v1 v2 v3 v4 v5 v6 v7 v8} v9 v11 (v13:Bx _) (v10:autoParam _ yR._auto_1) (v12:autoParam _ zK._auto_1) (v14:autoParam _ yD._auto_1) (v15:autoParam _ yD._auto_1) (v16:autoParam _ yR._auto_1) (v17:autoParam _ yR._auto_1)=>Bx.mk (@L2.pe_callTy v0 v1 v2 v3 v4 v5 v6 v7 v8 v9 v10 v11 v12 v13.h v14 v15 v16 v17)
def Qc:=λ{v0 v1 v2 v3 v4 v5 v6 v7 v8 v9 v10 v11} v12 v13 v14 v15 v16 (v17:Bx _) (v18:autoParam _ yR._auto_1) (v19:autoParam _ yF._auto_1) (v20:autoParam _ yD._auto_1) (v21:autoParam _ yD._auto_1) (v22:autoParam _ yR._auto_1) (v23:autoParam _ yR._auto_1)=>Bx.mk (@L2.pe_callV v0 v1 v2 v3 v4 v5 v6 v7 v8 v9 v10 v11 v12 v13 v14 v15 v16 v17.h v18 v19 v20 v21 v22 v23)
def OF:=λ{v0 v1 v2 v3 v4 v5 v6 v7 v8 v9 v10 v11} v12 v13 (v14:Bx _) (v15:Bx _) (v16:Bx _) (v17:autoParam _ yU._auto_1)=>Bx.mk (@L2.pe_chain v0 v1 v2 v3 v4 v5 v6 v7 v8 v10 v9 v11 v12 v13 v14.h v15.h v16.h v17)
def qM:=λ{v0 v1 v2 v3 v4 v5 v6 v7} v8 (v9:Bx _) (v10:Bx _) (v11:autoParam _ zN._auto_1)=>Bx.mk (@L2.pe_cmpR v0 v1 v2 v3 v4 v5 v6 v7 v8 v9.h v10.h v11)
def aQ:=λ{v0 v1 v2 v3 v4 v5 v6 v7 v8 v9} v10 (v13:Bx _) (v11:autoParam _ zA._auto_1) (v12:autoParam _ yR._auto_1) (v14:autoParam _ yD._auto_1) (v15:autoParam _ yR._auto_1) (v16:autoParam _ yR._auto_1)=>Bx.mk (@L2.pe_def v0 v1 v2 v3 v4 v5 v6 v7 v8 v9 v10 v11 v12 v13.h v14 v15 v16)
def RU:=λ{v0 v1 v2 v3 v4 v5 v6} v7 (v8:autoParam _ zA._auto_1) (v9:autoParam _ yR._auto_1) (v10:autoParam _ yD._auto_1)=>Bx.mk (@L2.pe_def0 v0 v1 v2 v3 v4 v5 v6 v7 v8 v9 v10)
def NF:=λ{v0 v1 v2 v3 v4 v5} (v6:Bx _)=>Bx.mk (@L2.pe_fstr v0 v1 v2 v3 v4 v5 v6.h)
def IE:=λ{v0 v1 v2 v3} (v4:Bx _)=>Bx.mk (@L2.pe_fv v0 v1 v2 v3 v4.h)
def vD:=λ{v0 v1 v2 v3 v4} (v5:Bx _) (v6:Bx _)=>Bx.mk (@L2.pf_cons v0 v1 v2 v3 v4 v5.h v6.h)
def NE:=λ{v0}=>Bx.mk (@L2.pf_nil v0)
def QB:=λ{v0 v1}=>Bx.mk (@L2.pe_dnewK v0 v1)
def nU:=λ{v0 v1 v3 v4} v2 v6 (v5:autoParam _ yR._auto_1) (v7:autoParam _ yR._auto_1) (v8:autoParam _ yD._auto_1)=>Bx.mk (@L2.pe_glob v0 v1 v3 v2 v4 v5 v6 v7 v8)
def aE:=λ{v0 v1 v2 v3}=>Bx.mk (@L2.pe_int v0 v1 v2 v3)
def eT:=λ{v0 v1 v2 v3 v4 v5 v6} v7 (v8:Bx _) (v9:Bx _) (v10:autoParam _ zJ._auto_1)=>Bx.mk (@L2.pe_ix v0 v1 v2 v3 v4 v5 v6 v7 v8.h v9.h v10)
def pY:=λ{v0 v1 v4 v5 v6 v7 v8 v9 v10 v11 v12} v2 v3 (v13:Bx _) v14 v15 (v16:∀x0 x1 x2,Bx _) v17 (v18:∀x0 x1 x2,Bx _) (v19:∀x0 x1 x2,Bx _) (v20:autoParam _ yI._auto_1)=>Bx.mk (@L2.pe_lc v0 v1 v2 v3 v4 v5 v6 v7 v8 v9 v10 v11 v12 v13.h v14 v15 (λx0 x1 x2=>(v16 x0 x1 x2).h) v17 (λx0 x1 x2=>(v18 x0 x1 x2).h) (λx0 x1 x2=>(v19 x0 x1 x2).h) v20)
def HN:=λ{v0 v1 v2 v3 v4} (v5:Bx _) (v6:autoParam _ yR._auto_1)=>Bx.mk (@L2.pe_fld v0 v1 v2 v3 v4 v5.h v6)
def QH:=λ{v0 v1 v2 v3 v4 v5 v6 v7} (v8:Bx _) (v9:Bx _) v10=>Bx.mk (@L2.ps_fld v0 v1 v2 v3 v4 v5 v6 v7 v8.h v9.h v10)
def QD:=λ{v0 v1 v2 v3 v4 v5 v6 v7 v8 v9} (v10:Bx _) (v11:Bx _) v12=>Bx.mk (@L2.ps_fldaug v0 v1 v2 v3 v4 v5 v6 v7 v8 v9 v10.h v11.h v12)
def Aj:=λ{v0 v1 v2 v3 v4 v5 v6 v7 v8 v9 v10 v11 v12 v13 v14 v15 v16 v17 v18 v19} (v20:Bx _) v21 v22 v23 v24 v25 v26 v27 (v28:Bx _) (v29:autoParam _ yR._auto_1) (v30:autoParam _ yR._auto_1) (v31:autoParam _ yR._auto_1)=>Bx.mk (@L2.pe_meth v0 v1 v2 v3 v4 v5 v6 v7 v8 v9 v10 v11 v12 v13 v14 v15 v16 v17 v18 v19 v20.h v21 v22 v23 v24 v25 v26 v27 v28.h v29 v30 v31)
def QO:=λ{v0 v1 v2 v3 v4 v5 v6 v7 v8 v9 v10 v11 v12 v13 v14 v15 v16} v17 v18 v19 v20 v21 v22 v23 v24 (v25:Bx _) (v26:autoParam _ yD._auto_1) (v27:autoParam _ yR._auto_1) (v28:autoParam _ yR._auto_1)=>Bx.mk (@L2.pe_make v0 v1 v2 v3 v4 v5 v6 v7 v8 v9 v10 v11 v12 v13 v14 v15 v16 v17 v18 v19 v20 v21 v22 v23 v24 v25.h v26 v27 v28)
def Qz:=λ{v0 v1 v2 v3 v4 v5 v6 v7 v8 v9 v10 v11 v12 v13 v14 v15 v16} (v17:Bx _) v18 v19 v20 v21 v22 v23 v24 (v25:autoParam _ yR._auto_1)=>Bx.mk (@L2.pe_meth0 v0 v1 v2 v3 v4 v5 v6 v7 v8 v9 v10 v11 v12 v13 v14 v15 v16 v17.h v18 v19 v20 v21 v22 v23 v24 v25)
def dw:=λ{v0 v1 v2 v3} (v4:Bx _)=>Bx.mk (@L2.pe_lst v0 v1 v2 v3 v4.h)
def vj:=λ{v0 v1 v2}=>Bx.mk (@L2.pe_non v0 v1 v2)
def Ri:=λ{v0 v1 v2 v3} (v4:Bx _)=>Bx.mk (@L2.pe_not v0 v1 v2 v3 v4.h)
def uv:=λ{v0 v1 v2 v3 v4} (v5:Bx _)=>Bx.mk (@L2.pe_one v0 v1 v2 v4 v3 v5.h)
def aP:=λ{v0 v1 v2 v3 v4 v5 v6 v7} v8 (v9:Bx _) (v10:Bx _)=>Bx.mk (@L2.pe_op v0 v1 v2 v3 v4 v5 v6 v7 v8 v9.h v10.h)
def RF:=λ{v0 v1 v2 v3 v4 v5 v6} (v7:Bx _) (v8:Bx _)=>Bx.mk (@L2.pe_or v0 v1 v2 v3 v4 v5 v6 v7.h v8.h)
def lJ:=λ{v0 v1 v2 v3 v4 v5 v6 v7 v8 v9} v10 (v11:Bx _) (v12:Bx _) (v13:Bx _)=>Bx.mk (@L2.pe_slice v0 v1 v2 v3 v4 v5 v6 v7 v8 v9 v10 v11.h v12.h v13.h)
def az:=λ{v0 v1 v2 v3}=>Bx.mk (@L2.pe_str v0 v1 v2 v3)
def dh:=λ{v0 v1 v2 v3 v4} (v5:Bx _)=>Bx.mk (@L2.pe_tup v0 v1 v2 v3 v4 v5.h)
def Qn:=λ{v0 v1 v2 v3 v4 v5} v6 (v7:Bx _)=>Bx.mk (@L2.pe_un v0 v1 v2 v3 v4 v5 v6 v7.h)
def js:=λ{v0 v1 v3} v2 (v4:autoParam _ zA._auto_1) (v5:autoParam _ yR._auto_1) (v6:autoParam _ yF._auto_1) (v7:autoParam _ yF._auto_1)=>Bx.mk (@L2.pg_name v0 v1 v2 v3 v4 v5 v6 v7)
def MJ:=λ{v0 v1 v2 v3 v4 v5 v6} (v7:Bx _) (v8:Bx _) v9 (v10:autoParam _ yI._auto_1)=>Bx.mk (@L2.pg_sub v0 v1 v2 v4 v3 v5 v6 v7.h v8.h v9 v10)
def FK:=λ{v0 v1 v2 v3 v4 v5} (v7:Bx _) (v6:autoParam _ yR._auto_1) (v8:autoParam _ yR._auto_1) (v9:autoParam _ yR._auto_1)=>Bx.mk (@L2.pg_tup v0 v1 v2 v4 v5 v3 v6 v7.h v8 v9)
def pH:=λ{v0 v1 v2 v3 v4} (v5:Bx _) (v6:Bx _) (v7:autoParam _ yR._auto_1)=>Bx.mk (@L2.pgs_cons v0 v1 v3 v2 v4 v5.h v6.h v7)
def FO:=λ{v0}=>Bx.mk (@L2.pgs_nil v0)
def RT:=λ{v0 v1 v2 v3 v4 v5 v6 v7} v8 v9 (v10:Bx _) (v11:autoParam _ yR._auto_1)=>Bx.mk (@L2.pi_enum v0 v1 v2 v3 v4 v5 v6 v7 v8 v9 v10.h v11)
def AR:=λ{v0 v1 v2 v3} (v4:Bx _)=>Bx.mk (@L2.pi_list v0 v1 v2 v3 v4.h)
def Me:=λ{v0 v1 v2 v3 v4 v5} v7 (v8:Bx _) (v6:autoParam _ yR._auto_1) (v9:autoParam _ yR._auto_1)=>Bx.mk (@L2.pi_range1 v0 v1 v2 v3 v4 v5 v6 v7 v8.h v9)
def Qo:=λ{v0 v1 v2 v3} (v4:Bx _)=>Bx.mk (@L2.pi_str v0 v1 v2 v3 v4.h)
def Jc:=λ{v0 v1 v2 v3} (v4:Bx _)=>Bx.mk (@L2.pi_tup v0 v1 v2 v3 v4.h)
def OW:=λ{v0 v1 v2 v3 v4 v5 v6 v7 v8} v9 v10 (v11:Bx _) (v12:autoParam _ yR._auto_1) (v13:autoParam _ yR._auto_1)=>Bx.mk (@L2.pi_zip2 v0 J v1 v2 v3 v4 v5 v6 v7 v8 v9 v10 v11.h v12 v13)
def Qb:=λ{v0 v1 v2 v3 v4 v5 v6 v7} v8 (v9:Bx _) (v10:Bx _) (v11:autoParam _ zJ._auto_1)=>Bx.mk (@L2.pe_getF v0 v1 v2 v3 v4 v5 v6 v7 v8 v9.h v10.h v11)
def oW:=λ{v0}=>Bx.mk (@L2.pif_nil v0)
def mr:=λ{v0}=>Bx.mk (@L2.po_none v0)
def kh:=λ{v0 v1 v2} (v3:Bx _)=>Bx.mk (@L2.po_some v0 v1 v2 v3.h)
def Cd:=λ{v0 v1 v2 v3 v4 v5} (v6:Bx _) (v7:Bx _) (v8:autoParam _ yR._auto_1) (v9:autoParam _ yR._auto_1) (v10:autoParam _ yR._auto_1)=>Bx.mk (@L2.ps_asg v0 v1 v3 v4 v2 v5 v6.h v7.h v8 v9 v10)
def QZ:=λ{v0 v1 v3 v4 v5 v6 v7 v8} v2 v9 v10 v11 (v12:Bx _) v13 (v14:autoParam _ yF._auto_1)=>Bx.mk (@L2.ps_aug v0 v1 v2 v3 v4 v5 v6 v7 v8 v9 v10 v11 v12.h v13 v14)
def QU:=λ{v0 v1 v2 v3 v4 v5 v6 v7 v8} v9 (v10:Bx _) (v11:Bx _) (v12:Bx _) v13=>Bx.mk (@L2.ps_dput v0 v1 v2 v3 v4 v5 v6 v7 v8 v9 v10.h v11.h v12.h v13)
def pM:=λ{v0 v1 v2 v3} (v4:Bx _) (v5:autoParam _ yR._auto_1)=>Bx.mk (@L2.ps_expr v0 v1 v2 v3 v4.h v5)
def Dr:=λ{v0 v1 v2 v3 v4 v5 v6 v7} v8 v9 (v10:Bx _) (v11:Bx _) (v12:Bx _) (v13:autoParam _ yI._auto_1)=>Bx.mk (@L2.ps_for v0 v1 v2 v4 v5 v3 v6 v7 v8 v9 v10.h v11.h v12.h v13)
def Hd:=λ{v0 v1 v2 v3 v4 v5 v6 v7} (v8:Bx _) (v9:Bx _) (v10:Bx _)=>Bx.mk (@L2.ps_if v0 v1 v2 v3 v4 v7 v5 v6 v8.h v9.h v10.h)
def QV:=λ{v0 v1 v4 v5 v6 v7 v8 v9 v10 v11 v12 v13 v14 v16} v2 v3 v15 v17 v18 v19 (v20:Bx _) v21 v22 (v23:∀x0 x1 x2,Bx _) v24 (v25:∀x0 x1 x2,Bx _) (v26:∀x0 x1 x2,Bx _) (v27:autoParam _ yR._auto_1) (v28:autoParam _ yI._auto_1)=>Bx.mk (@L2.ps_lc v0 v1 v2 v3 v4 v5 v6 v7 v8 v9 v10 v11 v12 v13 v14 v15 v16 v17 v18 v19 v20.h v21 v22 (λx0 x1 x2=>(v23 x0 x1 x2).h) v24 (λx0 x1 x2=>(v25 x0 x1 x2).h) (λx0 x1 x2=>(v26 x0 x1 x2).h) v27 v28)
def RS:=λ{v0 v1 v2 v3} (v4:Bx _)=>Bx.mk (@L2.ps_ret v0 v1 v2 v3 v4.h)
def aY:=λ{v0 v1 v3 v4 v5 v6} v2 (v10:Bx _) (v7:autoParam _ zA._auto_1) (v8:autoParam _ yR._auto_1) (v9:autoParam _ yF._auto_1) (v11:autoParam _ yR._auto_1) (v12:autoParam _ yF._auto_1)=>Bx.mk (@L2.ps_set v0 v1 v2 v3 v4 v5 v6 v7 v8 v9 v10.h v11 v12)
def Ng:=λ{v0 v1 v2 v3 v4 v5} v6 (v7:Bx _) (v8:Bx _)=>Bx.mk (@L2.ps_while v0 v1 v2 v3 v4 v5 v6 v7.h v8.h)
def aS:=λ{v0 v1 v2 v3 v4} (v5:Bx _) (v6:Bx _)=>Bx.mk (@L2.pss_cons v0 v1 v2 v3 v4 v5.h v6.h)
def JB:=λ{v0}=>Bx.mk (@L2.pss_nil v0)
def fD:=λ{v0 v1 v2} (v3:Bx _)=>Bx.mk (@L2.pss_one v0 v1 v2 v3.h)
def QT:=λ{v0 v1 v2 v3 v4 v5 v6 v7 v8 v9 v10 v11} v12 v13 (v14:Bx _) (v15:Bx _) (v16:Bx _) (v17:autoParam _ yU._auto_1)=>Bx.mk (@L2.pt_chain v0 v1 v2 v3 v4 v5 v6 v7 v8 v10 v9 v11 v12 v13 v14.h v15.h v16.h v17)
def bA:=λ{v0 v1 v2 v3 v4 v5 v6 v7} v8 (v9:Bx _) (v10:Bx _) (v11:autoParam _ zN._auto_1)=>Bx.mk (@L2.pt_cmpR v0 v1 v2 v3 v4 v5 v6 v7 v8 v9.h v10.h v11)
def pV:=λ{v0 v1 v2 v3} (v4:Bx _)=>Bx.mk (@L2.pt_not v0 v1 v2 v3 v4.h)
def QA:=λ{v0 v1 v2} (v3:Bx _) v4=>Bx.mk (@L2.pt_truth v0 v1 v2 v3.h v4)
def jZ:=λ{v0 v1 v2} (v3:Bx _) (v4:autoParam _ yI._auto_1)=>Bx.mk (@L2.pt_val v0 v1 v2 v3.h v4)
def EB:=λ{v0 v1 v2 v3 v4 v5 v6} (v7:Bx _) (v8:Bx _)=>Bx.mk (@L2.pw_and v0 v1 v2 v3 v4 v5 v6 v7.h v8.h)
def EL:=λ{v0 v1 v2 v3} (v4:Bx _)=>Bx.mk (@L2.pw_and1 v0 v1 v2 v3 v4.h)
def wD:=λ{v0 v1 v2 v3 v4 v5 v6} (v7:Bx _) (v8:Bx _)=>Bx.mk (@L2.pw_or v0 v1 v2 v3 v4 v5 v6 v7.h v8.h)
def yb:=λ{v0 v1 v2 v3} (v4:Bx _)=>Bx.mk (@L2.pw_or1 v0 v1 v2 v3 v4.h)
def Pq:=λ{v0 v1 v2 v3 v4 v5 v6 v7 v8 v9 v10 v11 v12 v13 v14} v15 v16 v17 v18 v19 v20 v21 (v22:Bx _) (v23:autoParam _ yD._auto_1) (v24:autoParam _ yR._auto_1) (v25:autoParam _ yR._auto_1)=>Bx.mk (@L2.EX.ps_raise v0 v1 v2 v3 v4 v5 v6 v7 v8 v9 v10 v11 v12 v13 v14 v15 v16 v17 v18 v19 v20 v21 v22.h v23 v24 v25)
def RJ:=λ{v0 v1 v2 v3 v4 v5 v6 v7 v8 v9 v10 v11 v12 v13 v14 v15 v16 v17 v18 v19 v20 v21 v22 v23} v24 v25 v26 (v27:Bx _) (v28:autoParam _ yD._auto_1) (v29:autoParam _ yR._auto_1) (v30:autoParam _ yR._auto_1)=>Bx.mk (@L2.EX.pe_defX v0 v1 v2 v3 v4 v5 v6 v7 v8 v9 v10 v11 v12 v13 v14 v15 v16 v17 v18 v19 v20 v21 v22 v23 v24 v25 v26 v27.h v28 v29 v30)
def Rq:=λ{v0 v3 v4 v5 v6 v7 v8 v9 v10 v11 v12 v13 v14 v15 v16 v18 v19 v20 v21 v22 v23} v1 v2 v17 v24 v25 v26 v27 v28 v29 (v30:Bx _) v31 v32 v33 v34 v35 v36 v37 v38 v39 v40 (v41:∀x0,Bx _) (v42:autoParam _ yD._auto_1) (v43:autoParam _ yD._auto_1) (v44:autoParam _ yR._auto_1) (v45:autoParam _ yR._auto_1) (v46:autoParam _ yR._auto_1)=>Bx.mk (@L2.EX.ps_try v0 v1 v2 v3 v4 v5 v6 v7 v8 v9 v10 v11 v12 v13 v14 v15 v16 v17 v18 v19 v20 v21 v22 v23 v24 v25 v26 v27 v28 v29 v30.h v31 v32 v33 v34 v35 v36 v37 v38 v39 v40 (λx0=>(v41 x0).h) v42 v43 v44 v45 v46)
def Rf:=λ{v0 v3 v4 v5 v6 v7 v8 v9} v1 v2 v10 v11 v12 (v13:Bx _) (v14:autoParam _ yR._auto_1) (v15:autoParam _ yR._auto_1) (v16:autoParam _ yR._auto_1)=>Bx.mk (@L2.EX.pe_vinit v0 v1 v2 v3 v4 v5 v6 v7 v8 v9 v10 v11 v12 v13.h v14 v15 v16)
def RH:=λ{v0 v3 v4 v5 v6 v7 v8} v1 v2 (v9:Bx _) (v10:Bx _) (v11:autoParam _ yR._auto_1)=>Bx.mk (@L2.EX.ps_xset v0 v1 v2 v3 v4 v5 v6 v7 v8 v9.h v10.h v11)
def RE:=λ{v0 v3 v4 v5} v1 v2 (v6:Bx _) (v7:autoParam _ yR._auto_1)=>Bx.mk (@L2.EX.pe_xfld v0 v1 v2 v3 v4 v5 v6.h v7)
def un{X:Cx}{b:List ϸ}{t:TS}(h:Bx (lG X b t)):lG X b t:=h.h
def zS(h:1=1:=by show{1113133}):True:=trivial
def zL(h:1=1:=by intro _ _ _ _ h;first|(cases h;subst_vars;rfl)|(set_option tactic.hygienic true in cases h<;>(rename_i h;cases h;subst_vars;rfl))):True:=trivial
def _root_.L2.Fun.okA{P:Ι}{w:ώ}{K:η}{mg:Str->Option ν}{base:ϙ}{x qual:Str}{st:ϸ}{f:υ}{fd:ϣ}{N ps:List Str}{k:Nat}{sp:Sp}(F:Fun K x qual st f fd)
  (hbody:∀(cdv:ν)(A:Ϛ)(outer:List Env)(s:ψ)(H:Hp)(vs:List V)(Q:VK)(E:XK),cf k (A.deeper (C8 qual (av st) s.heap.objs.size f cdv))->N.Nodup->sp vs H Q E ->
   ∃t,Bx (lG (bP bg P w K mg base N qual (av st) f cdv A outer s H E).nox (bD st) t)/\t {nx:=λ_ H'=>Q .non H',rt:=Q} (fF N vs) H)
  (S:autoParam (cK N ps (av st)) zS._auto_1) (len:autoParam (∀vs H Q E,sp vs H Q E->vs.length=ps.length) zL._auto_1):au P w K mg base bg (k+1) f fd ps sp:=
 F.ok S len λcdv A outer s H vs Q E hr h=>let ⟨t,b,q⟩:=hbody cdv A outer s H vs Q E hr S.nd h;{t,b.h,q}
def bC{X:Cx}(i:Nat){x:Str}{p q r:Pos}{n:Int}{t:Nat}(h:OE X.N X.env.scope i x=O:=by rfl):Bx (PE X (.Subscript (.Name x p) (.Constant (.int n) t q) r) (De (By X.K) (jq i) (tC (.int n)))):=eT nY (wv i h) aE
def am{X:Cx}{e:Ϲ}{t:TE}(a:Bx (PE X e t))(h:ϗ [e] X.env=(J,eval e X.env)::ϗ [] X.env:=by rfl):Bx (PA X [e] (jG t mf)):=ar a uk h
def aW{X:Cx}(i:Nat){x:Str}{p:Pos}(h:OE X.N X.env.scope i x=O:=by rfl)(g:ϗ [.Name x p] X.env=(J,eval (.Name x p) X.env)::ϗ [] X.env:=by rfl):Bx (PA X [.Name x p] (jG (jq i) mf)):=ar (wv i h) uk g
def bZ{X:Cx}{e:Ϲ}{t:TE}{p:Pos}(a:Bx (PE X e t)):Bx (lG X [.Return (Z e) p] (EN t)):=fD (RS a)
def kY{X:Cx}{c:Ϲ}{tc:TT}{p:Pos}{bs ss:List ϸ}{tb ts:TS}(a:Bx (PT X c tc))(b:Bx (lG X bs tb))(k:Bx (lG X ss ts)):Bx (lG X (.If c bs [] p::ss) (jK (FX tc tb zE) ts)):=aS (Hd a b JB) k
def cP{X:Cx}{c e:Ϲ}{tc:TT}{t:TE}{p q:Pos}{ss:List ϸ}{ts:TS}(a:Bx (PT X c tc))(b:Bx (PE X e t))(k:Bx (lG X ss ts)):Bx (lG X (.If c [.Return (Z e) p] [] q::ss) (jK (FX tc (EN t) zE) ts)):=kY a (bZ b) k
end WR
namespace L2
open PySem PySem.Spec PyProof.Rows PySem.W
section
variable{X:Cx}
def KN(hu:X.A.units+150<C2):fE X (j8 .NotEq) (λx y H Q=>∃(a:υ) (vs:List V),x=.non/\y=.ref a/\H a=Z (.tup vs)/\Q (.bl O) H):=by intro pins s σ H x y v u Q I rx ry h;ext(⟨a,vs,rfl,rfl,h2,q⟩:h);cases rx;cases ry;ext(⟨its,rv,p,_⟩:I.tuple (aw.of h2));show Tp.none_tuple p () X.prog X.w X.xe _ {.bl _,H,I,1,q}
end
end L2
namespace K65
open PySem L2 KB XB WR
local macro_rules|`(())=>`(by first|omega|(rw[ι];omega)|decide +kernel|trivial|(simp only[aj];done)|(simp only[Reps];done)|(intro _;rfl)|simp)
def Ab(h:∃a b xs ys,x=.ref a/\y=.ref b/\aw K H a xs/\aw K H b ys/\xs.length+ys.length<=Λ/\(xs=[]->Q (.ref b) H)/\(ys=[]->Q (.ref a) H)/\(∀p,H p=Β->Q (.ref p) (upd H p (.tup (xs++ys))))):Jm K x y H Q:=by ext(⟨a,b,xs,ys,i,g,f,c,d,k,j,e⟩:h);show{a,b,xs,ys,i,g,f,c,d,k,j,e}
def kj{α:Type}{l:List α}(h:l.length=2):∃a b,l=[a,b]:=by ext(⟨a,r,rfl⟩:List.exists_cons_of_length_eq_add_one h);ext(⟨b,rfl⟩:List.length_eq_one_iff.mp (Nat.succ.inj h));show{a,b,1}
def top (i : Nat) : ϸ := PySem.Challenge.pw_indexwise_k65_programs_refused_at_their.main.body.getD i (.Pass {(0),(0),(0),(0)})
def sY:List Str:=["plus","minus","times","less","same"]
structure Txt(K:η)(mg:Str->Option ν):Prop where
 len:mg "len"=Β
 isinstance:mg "isinstance"=Β
 int:mg "int"=Β
 bool:mg "bool"=Β
 str:mg "str"=Β
 tuple:mg "tuple"=Β
 all:mg "all"=Β
 zip:mg "zip"=Β
 range:mg "range"=Β
 max:mg "max"=Β
 min:mg "min"=Β
 dict:mg "dict"=Β
 sorted:mg "sorted"=Β
 list:mg "list"=Β
 enumerate:mg "enumerate"=Β
 ValueError:mg "ValueError"=Β
 lLONGEST_NAME:∃t,mg "LONGEST_NAME"=Z (.int 8 t)
 lGREATEST_SIZE:∃t,mg "GREATEST_SIZE"=Z (.int 12 t)
 lGREATEST_NUMBER:∃t,mg "GREATEST_NUMBER"=Z (.int 99 t)
 lWHOLE_BOUND:∃t,mg "WHOLE_BOUND"=Z (.int 1000000000000 t)
 lMOST_NODES:∃t,mg "MOST_NODES"=Z (.int 40 t)
 lMOST_ABOVE:∃t,mg "MOST_ABOVE"=Z (.int 7 t)
 lMOST_THINGS:∃t,mg "MOST_THINGS"=Z (.int 4 t)
 lMOST_FIGURES:∃t,mg "MOST_FIGURES"=Z (.int 60 t)
 lMOST_BRACKETS:∃t,mg "MOST_BRACKETS"=Z (.int 20 t)
 lMOST_ROWS:∃t,mg "MOST_ROWS"=Z (.int 12 t)
def Txt.g_MOST_ROWS(T:Txt X.K X.mg)(a:Gl X "MOST_ROWS"):PE X (.Name "MOST_ROWS" pos) (tC (.int 12)):=by ext(⟨t,e⟩:T.lMOST_ROWS);show pe_glob a e {t,1}
def Txt.g_LONGEST_NAME(T:Txt X.K X.mg)(a:Gl X "LONGEST_NAME"):PE X (.Name "LONGEST_NAME" pos) (tC (.int 8)):=by ext(⟨t,e⟩:T.lLONGEST_NAME);show pe_glob a e {t,1}
def Txt.g_GREATEST_SIZE(T:Txt X.K X.mg)(a:Gl X "GREATEST_SIZE"):PE X (.Name "GREATEST_SIZE" pos) (tC (.int 12)):=by ext(⟨t,e⟩:T.lGREATEST_SIZE);show pe_glob a e {t,1}
def Txt.g_GREATEST_NUMBER(T:Txt X.K X.mg)(a:Gl X "GREATEST_NUMBER"):PE X (.Name "GREATEST_NUMBER" pos) (tC (.int 99)):=by ext(⟨t,e⟩:T.lGREATEST_NUMBER);show pe_glob a e {t,1}
def Txt.g_WHOLE_BOUND(T:Txt X.K X.mg)(a:Gl X "WHOLE_BOUND"):PE X (.Name "WHOLE_BOUND" pos) (tC (.int 1000000000000)):=by ext(⟨t,e⟩:T.lWHOLE_BOUND);show pe_glob a e {t,1}
def Txt.g_MOST_NODES(T:Txt X.K X.mg)(a:Gl X "MOST_NODES"):PE X (.Name "MOST_NODES" pos) (tC (.int 40)):=by ext(⟨t,e⟩:T.lMOST_NODES);show pe_glob a e {t,1}
def Txt.g_MOST_ABOVE(T:Txt X.K X.mg)(a:Gl X "MOST_ABOVE"):PE X (.Name "MOST_ABOVE" pos) (tC (.int 7)):=by ext(⟨t,e⟩:T.lMOST_ABOVE);show pe_glob a e {t,1}
def Txt.g_MOST_THINGS(T:Txt X.K X.mg)(a:Gl X "MOST_THINGS"):PE X (.Name "MOST_THINGS" pos) (tC (.int 4)):=by ext(⟨t,e⟩:T.lMOST_THINGS);show pe_glob a e {t,1}
def Txt.g_MOST_FIGURES(T:Txt X.K X.mg)(a:Gl X "MOST_FIGURES"):PE X (.Name "MOST_FIGURES" pos) (tC (.int 60)):=by ext(⟨t,e⟩:T.lMOST_FIGURES);show pe_glob a e {t,1}
def Txt.g_MOST_BRACKETS(T:Txt X.K X.mg)(a:Gl X "MOST_BRACKETS"):PE X (.Name "MOST_BRACKETS" pos) (tC (.int 20)):=by ext(⟨t,e⟩:T.lMOST_BRACKETS);show pe_glob a e {t,1}
abbrev ph:ϸ:=top 15
abbrev ri:ϸ:=top 16
abbrev qP:ϸ:=top 17
abbrev lC:ϸ:=top 18
abbrev kR:ϸ:=top 19
def dy:Dv->Bool
 |.int _=>O
 |_=>J
def bR:Dv->Bool
 |.str x=>bT x
 |_=>J
def KW(k:Int):Dv->Bool
 |.int i=>decide (k<=i)
 |_=>J
def im:Dv->Bool
 |.tup [a,b]=>bR a&&(dy b&&KW 1 b)
 |_=>J
def headD:Dv->Str
 |.tup (.str x::_)=>x
 |_=>""
def qE(a:Str):List Dv->Bool
 |[]=>O
 |p::r=>im p&&(decide (a.cps.toList<(headD p).cps.toList)&&qE (headD p) r)
def mV:Dv->Bool
 |.tup xs=>qE "" xs
 |_=>J
def pO:Dv->Bool
 |.tup [a,b]=>dy a&&(KW 0 a&&mV b)
 |_=>J
inductive IQ (f:Dv->Bool) (vs:List V) (H:Hp) (Q:VK) (u3_:XK):Prop|mk v d (_:vs=[v]) (_:aj H d v) (_:∀H',af H H'->Q (.bl (f d)) H')
section
variable{P:Ι}{w:ώ}{K:η}{mg:Str->Option ν}{base:ϙ}
def uu(F:Fun K "is_whole" "is_whole" ph f fd)(T:Txt K mg):au P w K mg base bg 1 f fd ["thing"] (IQ dy):=by
 show F.okA (N:=["thing"]) λcdv A outer s H vs Q E hr nd h=>?_;ext(⟨v,d,rfl,R,q⟩:h);show{0,bZ (mD (cV cg T.isinstance (ar (wv 0) (am (zt (.ty "int") T.int U)))) (uv (Ri (cV cg T.isinstance (ar (wv 0) (am (zt (.ty "bool") T.bool U))))))),{01,v,0001,R.ty,IF K d,012}};cases d with
 |int i=>show aH {01,v,0001,R.ty,vv K _,01,q H (af.refl H)}
 |bl b=>show aH {01,v,0001,R.ty,vv K _,01,q H (af.refl H)}
 |_=>show aK (q H (af.refl H))
end
inductive jb (f:Dv->Bool) (vs:List V) (H:Hp) (Q:VK) (u3_:XK):Prop|mk v d (_:vs=[v]) (_:aj H d v) (_:d.small=O) (_:∀H',af H H'->Q (.bl (f d)) H')
section
variable{P:Ι}{w:ώ}{K:η}{mg:Str->Option ν}{base:ϙ}
def sO(a b:Nat):decide (([a]:List Nat)<[b])=decide (a<b):=by
 by_cases h:a<b
 .rw[Z9 h];show Z9 (List.cons_lt_cons_iff.mpr (.inl h))
 .rw[Z8 h];show Z8 λz=>by
   rcases List.cons_lt_cons_iff.mp z with z|⟨_,z⟩
   .show h z
   .show List.not_lt_nil _ z
def Lf(x:Str):((ϳ x.cps.size).map λi=>Cb (x.cps.getD i 0)).all id=x.cps.toList.all Cb:=by
 let e:(ϳ x.cps.size).map (λi=>Cb (x.cps.getD i 0))=x.cps.toList.map Cb:=by
  apply S5;intro i;rw[ϑ,ϑ];by_cases a:i<x.cps.size
  .rw[List.getElem?_range a];simp[a]
  .rw[y7 (↑a),y7 (↑a)];rfl
 rw[e,J3];rfl
def wV(F:Fun K "is_name" "is_name" ri f fd)(T:Txt K mg):au P w K mg base bg 1 f fd ["thing"] (jb bR):=by
 show F.okA (N:=["thing"]) λcdv A outer s H vs Q E hr nd h=>?_;ext(⟨v,d,rfl,R,hsm,q⟩:h);show{0,cP (lW (wD (pV (jZ (cV cg T.isinstance (ar (wv 0) (am (zt (.ty "str") T.str U)))))) (yb (pV (QT jJ jJ aE (cV bV T.len (aW 0)) {T.g_LONGEST_NAME U}))))) kb (bZ (cV (gn U) T.all (am (pY ["sign"] [] (Qo (wv 0)) (.of U) U (λ_ _ _=>{pg_name (i:=0) (bK (l:=["sign"]) (()) U) U (z_ U)}) (bz ()) (λ_ _ _=>oW) (λ_ _ _=>(OF gg gg az (wv 0) az)))))),{01,v,0001,R.ty,eU K d,012}};cases d with
 |str x=>
  obtain rfl:v=.str x:=R;show aK {01,x,1,zn (by simpa[Dv.small]using hsm),0011012};let no:bT x=J->Q (.bl J) H:=λe=>by let:=q H (af.refl H);rwa[show bR (.str x)=J from e]at this
  show ao (λh1=>?_) (λh1=>?_)
  .show{0011012};let h1':1<=x.cps.size:=by let:=Z7 h1;let e:x.length=x.cps.size:=U;omega
   by_cases h8:x.cps.size<=8
   .rw[show decide (((x.length:Nat):Int)<=8)=O from Z9 (by let e:x.length=x.cps.size:=U;omega)];show aK {01,x,1,oB (F:=λi=>V.bl (Cb (x.cps.getD i 0))) (λi ys hi hl=>?_) λa ha=>{a,(ϳ x.cps.size).map λi=>Cb (x.cps.getD i 0),1,aD.of ?_,2}}
    .show bt {010011012};let e1:decide (({#[x.cps.getD i 0]}:Str).cps.toList<(Y "a").cps.toList)=decide (x.cps.getD i 0<97):=sO _ _;let e2:decide ((Y "z").cps.toList<({#[x.cps.getD i 0]}:Str).cps.toList)=decide (122<x.cps.getD i 0):=sO _ _;rw[e1];by_cases c1:x.cps.getD i 0<97
     .rw[Z9 c1];show aK {by rw[hl,ι];omega,21};unfold Cb;rw[Z8 ()];rfl
     .rw[Z8 c1];show aH {0011,{by rw[hl,ι];omega,21}};rw[e2];unfold Cb;rw[Z9 (show 97<=x.cps.getD i 0 by omega)];by_cases c2:122<x.cps.getD i 0
      .rw[Z9 c2,Z8 ()];rfl
      .rw[Z8 c2,Z9 ()];rfl
    .rw[aa,Ϙ];rfl
    .rw[Lf];let:=q _ (ac ha (.lst ((ϳ x.cps.size).map λi=>V.bl (Cb (x.cps.getD i 0)))));rwa[show bR (.str x)=x.cps.toList.all Cb by change bT x=_;unfold bT;rw[Z9 h1',Z9 h8];rfl]at this
   .rw[show decide (((x.length:Nat):Int)<=8)=J from Z8 (by let e:x.length=x.cps.size:=U;omega)];show aH (no ?_);unfold bT;rw[Z8 h8,SH,k_]
  .show{01,aH (no ?_)};let h1':¬ 1<=x.cps.size:=by let:=of_decide_eq_false (C3.mpr h1);let e:x.length=x.cps.size:=U;omega
   unfold bT;rw[Z8 h1',k_,k_]
 |_=>show aH (aH (q H (af.refl H)))
def yo(ds:List Dv):(∃a b,ds=[a,b])\/(∀a b,ds≠[a,b]):=by
 match ds with
 |[]=>show .inr λa b e=>nomatch e
 |[_]=>show .inr λa b e=>nomatch e
 |[a,b]=>show .inl {a,b,1}
 |_::_::_::_=>show .inr λa b e=>nomatch e
def rO(h:∀a b,ds≠[a,b]):ds.length≠2:=λe=>by
 match ds,e with
 |[a,b],_=>show h a b U
def Dh(h:∀a b,ds≠[a,b]):im (.tup ds)=J:=by
 match ds with
 |[]=>rfl
 |[_]=>rfl
 |[a,b]=>show absurd U (h a b)
 |_::_::_::_=>rfl
def He(h:∀a b,ds≠[a,b]):pO (.tup ds)=J:=by
 match ds with
 |[]=>rfl
 |[_]=>rfl
 |[a,b]=>show absurd U (h a b)
 |_::_::_::_=>rfl
def yQ(h:dy d=O):∃i,d=.int i/\KW k d=decide (k<=i):=by
 cases d with
 |int i=>show{i,11}
 |_=>cases h
def uf(h:(Dv.tup [a,b]).small=O):a.small=O/\b.small=O:=by simp only[Dv.small,smalls,χ]at h;show{h.1.1,h.1.2.1}
def xX(F:Fun K "is_part" "is_part" qP f fd)(T:Txt K mg)(Dis_whole:bf P w K mg base k "is_whole" ["thing"] (IQ dy))(Dis_name:bf P w K mg base k "is_name" ["thing"] (jb bR)):
  au P w K mg base bg (k+1) f fd ["thing"] (jb im):=by
 show F.okA (N:=["thing"]) λcdv A outer s H vs Q E hr nd h=>?_;ext(⟨v,d,rfl,R,hsm,q⟩:h);show{0,cP (lW (wD (pV (jZ (cV cg T.isinstance (ar (wv 0) (am (zt (.ty "tuple") T.tuple U)))))) (yb (bA jd (cV aq T.len (aW 0)) aE)))) kb (bZ (mD (aQ Dis_name (am (bC 0))) (mD (aQ Dis_whole (am (bC 0))) (uv (qM IV (bC 0) aE))))),{01,v,0001,R.ty,fb K d,012}};cases d with
 |tup ds=>
  ext(⟨a,vs,rfl,ha,rs⟩:aj.tup_inv R);let hl:=rs.length;show aK {01,a,vs,1,.inr (aw.of ha),1012};rcases yo ds with ⟨d0,d1,rfl⟩|no
  .ext(⟨x,y,rfl,R0,R1⟩:Reps.two rs);ext(⟨z0,z1⟩:uf hsm);show IT U ?_;let qe:∀c H',af H H'->im (.tup [d0,d1])=c->Q (.bl c) H':=λc H' s1 e=>e▸q H' s1;show{01,a,0,(0),x,11,aw.of ha,ad U,x,d0,1,R0,z0,λH1 s1=>{012}};cases c0:bR d0 with
   |false=>show aK (qe _ H1 s1 (by change(bR d0&&_)=J;rw[c0];rfl))
   |true=>
    show aH {01,a,0,(1),y,11,aw.of (s1 _ _ ha),ad U,y,d1,1,R1.mono s1,λH2 s2=>{012}};cases c1:dy d1 with
    |false=>show aK (qe _ H2 (s1.trans s2) (by change(bR d0&&(dy d1&&_))=J;rw[c0,c1];rfl))
    |true=>ext(⟨i,rfl,e⟩:yQ c1);obtain rfl:y=.int i:=R1;show aH {01,a,0,(1),.int i,11,aw.of (s2 _ _ (s1 _ _ ha)),ad U,0011,qe _ H2 (s1.trans s2) ?_};change(bR d0&&(dy (.int i)&&KW 1 (.int i)))=_;rw[c0,c1,e];rfl
  .let hn:¬ (V.int ((vs.length:Nat):Int)=V.int 2):=λe=>rO no (by injection e with e;omega);rw[Z8 hn];show aH ?_;let:=q H (af.refl H);rwa[Dh no]at this
 |_=>show aH (aH (q H (af.refl H)))
def tW(F:Fun K "is_length" "is_length" kR f fd)(T:Txt K mg)(Dis_whole:bf P w K mg base k "is_whole" ["thing"] (IQ dy))(Dare_parts:bf P w K mg base k "are_parts" ["thing"] (jb mV)):
  au P w K mg base bg (k+1) f fd ["thing"] (jb pO):=by
 show F.okA (N:=["thing"]) λcdv A outer s H vs Q E hr nd h=>?_;ext(⟨v,d,rfl,R,hsm,q⟩:h);show{0,cP (lW (wD (pV (jZ (cV cg T.isinstance (ar (wv 0) (am (zt (.ty "tuple") T.tuple U)))))) (yb (bA jd (cV aq T.len (aW 0)) aE)))) kb (bZ (mD (aQ Dis_whole (am (bC 0))) (mD (qM IV (bC 0) aE) (uv (aQ Dare_parts (am (bC 0))))))),{01,v,0001,R.ty,fb K d,012}};cases d with
 |tup ds=>
  ext(⟨a,vs,rfl,ha,rs⟩:aj.tup_inv R);let hl:=rs.length;show aK {01,a,vs,1,.inr (aw.of ha),1012};rcases yo ds with ⟨d0,d1,rfl⟩|no
  .ext(⟨x,y,rfl,R0,R1⟩:Reps.two rs);ext(⟨z0,z1⟩:uf hsm);show IT U ?_;let qe:∀c H',af H H'->pO (.tup [d0,d1])=c->Q (.bl c) H':=λc H' s1 e=>e▸q H' s1;show{01,a,0,(0),x,11,aw.of ha,ad U,x,d0,1,R0,λH1 s1=>{012}};cases c0:dy d0 with
   |false=>show aK (qe _ H1 s1 (by change(dy d0&&_)=J;rw[c0];rfl))
   |true=>
    ext(⟨i,rfl,e⟩:yQ c0);obtain rfl:x=.int i:=R0;show aH {01,a,0,(0),.int i,11,aw.of (s1 _ _ ha),ad U,0011012};by_cases c1:0<=i
    .rw[Z9 c1];show aH {01,a,0,(1),y,11,aw.of (s1 _ _ ha),ad U,y,d1,1,R1.mono s1,z1,λH2 s2=>qe _ H2 (s1.trans s2) ?_};change(dy (.int i)&&(KW 0 (.int i)&&mV d1))=_;rw[c0,e,Z9 c1];rfl
    .rw[Z8 c1];show aK (qe _ H1 s1 ?_);change(dy (.int i)&&(KW 0 (.int i)&&mV d1))=_;rw[c0,e,Z8 c1];rfl
  .let hn:¬ (V.int ((vs.length:Nat):Int)=V.int 2):=λe=>rO no (by injection e with e;omega);rw[Z8 hn];show aH ?_;let:=q H (af.refl H);rwa[He no]at this
 |_=>show aH (aH (q H (af.refl H)))
def oU(h:im d=O):∃nm b,d=.tup [.str nm,.int b]/\headD d=nm/\bT nm=O/\1<=b:=by
 match d,h with
 |.tup [a,b],h=>
  simp only[im,χ]at h;ext(⟨h1,h2,h3⟩:h);cases a with
  |str x=>
   cases b with
   |int i=>show{x,i,11,h1,Z7 h3}
   |_=>cases h2
  |_=>cases h1
def sP(F:Fun K "are_parts" "are_parts" lC f fd)(T:Txt K mg)(Dis_part:bf P w K mg base k "is_part" ["thing"] (jb im)):
  au P w K mg base bg (k+1) f fd ["thing"] (jb mV):=by
 show F.okA (N:=["thing","last","part"]) λcdv A outer s H vs Q E hr nd h=>?_;ext(⟨v,d,rfl,R,hsm,q⟩:h);show{0,cP (pV (jZ (cV cg T.isinstance (ar (wv 0) (am (zt (.ty "tuple") T.tuple U)))))) kb (aS (aY 1 az) (aS (Dr c_ U (Jc (wv 0)) (js 2) (cP (lW (wD (pV (jZ (aQ Dis_part (aW 2)))) (yb (bA gg (bC 2) (wv 1))))) kb (fD (aY 1 (bC 2))))) (bZ kb))),{01,v,0001,R.ty,fb K d,012}};cases d with
 |tup ds=>
  ext(⟨a,vs,rfl,ha,rs⟩:aj.tup_inv R);let hds:smalls ds=O:=by simp only[Dv.small,χ]at hsm;show hsm.1
  show aK ?_;show{01,a,1,{vs,aw.of ha},Al (λi σ H'=>∃(last:Str) (pv:Option V),σ=[Z (.ref a),Z (.str last),pv]/\af H H'/\qE last (ds.drop i)=qE "" ds)
   {"",Β,1,af.refl H,1} (λi σ H' _ ⟨_,_,_,s1,_⟩=>aw.of (s1 _ _ ha)) ?_ ?_}
  .ext i x σ H1 hi ⟨last,pv,rfl,s1,hg⟩;ext(⟨d,hd,Rd⟩:rs.get hi);let hdi:ds.drop i=d::ds.drop (i+1):=by ext(⟨h1,h2⟩:Υ.mp hd);rw[F3 h1,h2]
   rw[hdi]at hg;show{01,x,d,1,Rd.mono s1,(fq hds hd),λH2 s2=>{012}};let no:qE last (d::ds.drop (i+1))=J->∀H',af H H'->Q (.bl J) H':=λe H' s'=>by let:=q H' s';rwa[show mV (.tup ds)=J by change qE "" ds=J;rw[<-hg,e]]at this
   cases c:im d with
   |false=>show aH (aH (no ?_ H2 (s1.trans s2)));simp only[qE,c,k_]
   |true=>
    ext(⟨nm,b,rfl,hh,_⟩:oU c);ext(⟨p,us,rfl,hp,ru⟩:aj.tup_inv Rd);ext(⟨y,z,rfl,R0,R1⟩:Reps.two ru);obtain rfl:y=.str nm:=R0;let hp2:=s2 _ _ (s1 _ _ hp);show aK {01,p,0,(0),.str nm,11,aw.of hp2,ad U,010011012};by_cases lt:last.cps.toList<nm.cps.toList
    .rw[Z9 lt];show aK {01,p,0,(0),.str nm,11,aw.of hp2,ad U,nm,01,s1.trans s2,2};rw[<-hg];simp only[qE,c,hh,ϵ];rw[Z9 lt,ϵ]
    .rw[Z8 lt];show aH (no ?_ H2 (s1.trans s2));simp only[qE,c,hh,ϵ];rw[Z8 lt,k_]
  .ext σ H1 ⟨last,pv,rfl,s1,hg⟩;let:=q H1 s1;rw[show mV (.tup ds)=O by change qE "" ds=O;rw[<-hg,rs.length,Ti];rfl]at this;show this
 |_=>show aH (q H (af.refl H))
end
abbrev nQ:ϸ:=top 24
abbrev ol:ϸ:=top 25
abbrev oA:ϸ:=top 26
abbrev li:ϸ:=top 27
def gb:Dv->Int
 |.tup [_,.int n]=>n
 |_=>0
def OU:Dv->Int
 |.tup (.int c::_)=>c
 |_=>0
def FZ:Dv->List Dv
 |.tup [_,.tup ps]=>ps
 |_=>[]
def jr(d:Dv):Bool:=pO d&&(decide (OU d<=99)&&(FZ d).all λp=>decide (gb p<=99))
def ir:Dv->Bool
 |.tup (.str _::_)=>O
 |_=>J
def dz:Dv->Bool
 |.tup [.str x]=>decide (x="whole")
 |.tup [.str x,l]=>decide (x="place")&&jr l
 |.tup [.str x,a,_]=>(decide (x="row")&&jr a)||decide (x="pair")
 |_=>J
def dR(x:Str)(r:List α):List α:=if x="row" then r.drop 1 else if x="pair" then r else []
def rA(h:pO d=O):∃c ps,d=.tup [.int c,.tup ps]/\0<=c/\qE "" ps=O:=by
 match d,h with
 |.tup [a,b],h=>
  simp only[pO,χ]at h;ext(⟨h1,h2,h3⟩:h);cases a with
  |int i=>
   cases b with
   |tup ps=>show{i,ps,1,Z7 h2,h3}
   |_=>cases h3
  |_=>cases h1
def ve:∀{l:Str}{ps:List Dv},qE l ps=O->∀p∈ps,im p=O
 |_,[],_,p,a=>by cases a
 |l,x::ps,h,p,a=>by
  simp only[qE,χ]at h;rcases ξ.mp a with rfl|a
  .show h.1
  .show ve h.2.2 p a
inductive Ju (vs:List V) (H:Hp) (Q:VK) (u3_:XK):Prop|mk (a:υ) (x:Str) (us:List V) (_:vs=[.ref a]) (_:H a=Z (.tup (.str x::us))) (_:(x="row"->us.length=2)) (_:(x="pair"->us.length=2)) (_:∀(l:υ),H l=Β->Q (.ref l) (upd H l (.lst (dR x us))))
def dY(x y:Str):decide (V.str x=V.str y)=decide (x=y):=by
 by_cases h:x=y
 .rw[Z9 h,Z9 (by rw[h])]
 .rw[Z8 h,Z8 (λz=>h (by injection z))]
section
variable{P:Ι}{w:ώ}{K:η}{mg:Str->Option ν}{base:ϙ}
def vq(F:Fun K "is_small_length" "is_small_length" nQ f fd)(T:Txt K mg)(I:bf P w K mg base k "is_length" ["thing"] (jb pO)):
  au P w K mg base bg (k+1) f fd ["thing"] (jb jr):=by
 show F.okA (N:=["thing"]) λa2 A a1 s H vs Q E hr nd h=>?_;ext(⟨v,d,rfl,R,n,q⟩:h);show{0,cP (lW (wD (pV (jZ (aQ I (aW 0)))) (yb (bA gu (bC 0) {T.g_GREATEST_NUMBER U})))) kb (bZ (cV (gn U) T.all (am (pY (["name","times"]) [] (Jc (bC 0)) (.of U) U (λ_ _ _=>{pg_tup U (pgs_cons (pg_name (i:=0) (bK (l:=["name","times"]) (()) U) U (z_ U)) (pgs_cons (pg_name (i:=1) (bK (l:=["name","times"]) (()) U) U (z_ U)) pgs_nil))}) (kK () ()) (λ_ _ _=>oW) (λ_ _ _=>(qM jJ (wv 1) {T.g_GREATEST_NUMBER U})))))),2};show{01,v,d,1,R,n,λg e=>{012}};cases j:pO d with
 |false=>show aH ?_;let:=q g e;rwa[show jr d=J by unfold jr;rw[j];rfl]at this
 |true=>
  show aK ?_;ext(⟨c,ps,rfl,hc,L⟩:rA j);ext(⟨a,vs,rfl,D,u2⟩:aj.tup_inv R);ext(⟨x,y,rfl,u3,G⟩:Reps.two u2);obtain rfl:x=.int c:=u3;ext(⟨b,us,rfl,M,X⟩:aj.tup_inv G);let a3:ps.length<=5000:=by let:=(uf n).2;simp only[Dv.small,χ,decide_eq_true_eq]at this;show this.2
  let u:jr (.tup [.int c,.tup ps])=(decide (c<=99)&&ps.all λp=>decide (gb p<=99)):=by unfold jr;rw[j];rfl
  show{01,a,0,(0),.int c,11,aw.of (e _ _ D),ad U,001101,ao (λh=>?_) (λh=>?_)}
  .let h':99<c:=Z7 h;let:=q g e;rw[u,Z8 (),k_]at this;show this
  let h':c<=99:=by let:=of_decide_eq_false (C3.mpr h);omega
  let o:=e _ _ M;show{01,a,0,(1),.ref b,11,aw.of (e _ _ D),ad U,b,1,{us,aw.of o},ku (λi ys H'=>H'=g/\ys=(ps.take i).map λp=>V.bl (decide (gb p<=99))) {11} (λi ys H' _ p=>by rw[p.1];show aw.of o) ?_ ?_}
  .ext i ys H' x S ⟨rfl,rfl⟩;ext(⟨d,m,W⟩:X.get S);ext(⟨hi,ed⟩:Υ.mp m);ext(⟨nm,t,rfl,hh,_⟩:oU (ve L d (ό m)));ext(⟨p,zs,rfl,u1,B⟩:aj.tup_inv W);ext(⟨y,z,rfl,u0,u4⟩:Reps.two B);obtain rfl:y=.str nm:=u0;obtain rfl:z=.int t:=u4;show fk (e _ _ u1) {010011212}
   .rw[ε,Φ,ι];omega
   .rw[Ϥ,m,Κ];rfl
  .ext ys H' ⟨rfl,rfl⟩ r C;rw[X.length,ϧ];show{r,ps.map λp=>decide (gb p<=99),1,aD.of (by rw[aa,Ϙ];rfl),2};let:=q _ (e.trans (ac C (.lst (ps.map λp=>V.bl (decide (gb p<=99))))));rw[u,Z9 h',ϵ]at this;rw[J3];show this
def uX(F:Fun K "has_word" "has_word" ol f fd)(T:Txt K mg):au P w K mg base bg 1 f fd ["thing"] (IQ ir):=by
 show F.okA (N:=["thing"]) λcdv A outer s H vs Q E hr nd h=>?_;ext(⟨v,d,rfl,R,q⟩:h);show{0,bZ (mD (cV cg T.isinstance (ar (wv 0) (am (zt (.ty "tuple") T.tuple U)))) (mD (qM gu (cV aq T.len (aW 0)) aE) (uv (cV cg T.isinstance (ar (bC 0) (am (zt (.ty "str") T.str U))))))),2};show{01,v,0001,R.ty,fb K d,012};cases d with
 |tup ds=>
  ext(⟨a,vs,rfl,ha,rs⟩:aj.tup_inv R);show aH {01,a,vs,1,.inr (aw.of ha),0011012};cases ds with
  |nil=>simp only[Reps]at rs;subst rs;show aK (q H (af.refl H))
  |cons d0 ds=>simp only[Reps]at rs;ext(⟨x,r,rfl,R0,rr⟩:rs);rw[show decide (((0:Int))<(((x::r).length:Nat):Int))=O from Z9 (by rw[Δ];omega)];show aH {01,a,0,(0),x,11,aw.of ha,ad U,x,0001,R0.ty,eU K d0,2};let:=q H (af.refl H);cases d0<;>show this
 |_=>show aK (q H (af.refl H))
def jm(h:ir d=O):∃x r,d=.tup (.str x::r):=by
 match d,h with
 |.tup (.str x::r),_=>show{x,r,1}
def xF(h:ir d=J):dz d=J:=by
 match d,h with
 |.tup [.str x],h=>cases h
 |.tup [.str x,l],h=>cases h
 |.tup [.str x,a,b],h=>cases h
 |.tup (.str x::a::b::c::r),h=>cases h
 |.tup [],_=>rfl
 |.tup (.non::r),_=>rfl
 |.tup (.bl _::r),_=>rfl
 |.tup (.int _::r),_=>rfl
 |.tup (.tup _::r),_=>rfl
 |.tup (.lst _::r),_=>rfl
 |.tup (.dct::r),_=>rfl
 |.non,_=>rfl
 |.bl _,_=>rfl
 |.int _,_=>rfl
 |.str _,_=>rfl
 |.lst _,_=>rfl
 |.dct,_=>rfl
def w1:(Y "whole")≠(Y "place"):=()
def w2:(Y "whole")≠(Y "row"):=()
def w3:(Y "whole")≠(Y "pair"):=()
def w4:(Y "place")≠(Y "row"):=()
def w5:(Y "place")≠(Y "pair"):=()
def w6:(Y "row")≠(Y "pair"):=()
def Gx:dz (.tup (.str "whole" :: r))=decide (r.length=0):=by
 match r with
 |[]=>change decide (Y "whole"=Y "whole")=_;rw[Z9 U];rfl
 |[l]=>change(decide (Y "whole"=Y "place")&&jr l)=_;rw[Z8 w1];rfl
 |[a,b]=>change((decide (Y "whole"=Y "row")&&jr a)||decide (Y "whole"=Y "pair"))=_;rw[Z8 w2,Z8 w3];rfl
 |a::b::c::r=>rfl
def Ac:dz (.tup (.str "place" :: r))=(decide (r.length=1)&&jr (r.headD .non)):=by
 match r with
 |[]=>change decide (Y "place"=Y "whole")=_;rw[Z8 (ϝ w1)];rfl
 |[l]=>change(decide (Y "place"=Y "place")&&jr l)=_;rw[Z9 U];rfl
 |[a,b]=>change((decide (Y "place"=Y "row")&&jr a)||decide (Y "place"=Y "pair"))=_;rw[Z8 w4,Z8 w5];rfl
 |a::b::c::r=>rw[Z8 ()];rfl
def Jw:dz (.tup (.str "row" :: r))=(decide (r.length=2)&&jr (r.headD .non)):=by
 match r with
 |[]=>change decide (Y "row"=Y "whole")=_;rw[Z8 (ϝ w2)];rfl
 |[l]=>change(decide (Y "row"=Y "place")&&jr l)=_;rw[Z8 (ϝ w4)];rfl
 |[a,b]=>change((decide (Y "row"=Y "row")&&jr a)||decide (Y "row"=Y "pair"))=_;rw[Z9 U,Z8 w6,Tb];rfl
 |a::b::c::r=>rw[Z8 ()];rfl
def KP{x:Str}{r:List Dv}(d:x≠"whole")(e:x≠"place")(f:x≠"row"):dz (.tup (.str x::r))=(decide (r.length=2)&&decide (x="pair")):=by
 match r with
 |[]=>change decide (x="whole")=_;rw[Z8 d];rfl
 |[l]=>change(decide (x="place")&&jr l)=_;rw[Z8 e];rfl
 |[a,b]=>change((decide (x="row")&&jr a)||decide (x="pair"))=_;rw[Z8 f,k_,Ta];rfl
 |a::b::c::r=>rw[Z8 ()];rfl
def iT{vs:List V}{r:List Dv}{x:V}(h:vs.length=r.length)(n m:Nat)(e:m=n+1):decide (V.int (((x::vs).length:Nat):Int)=V.int (m:Int))=decide (r.length=n):=by
 by_cases z:r.length=n
 .rw[Z9 z,Z9 (by rw[Δ,h,z,e])]
 .rw[Z8 z,Z8 (λy=>z (by injection y with y;rw[Δ,h]at y;omega))]
def ux{f:υ}{G:ϣ}{k:Nat}(F:Fun K "is_point" "is_point" oA f G)(T:Txt K mg)(B:bf P w K mg base k "has_word" ["thing"] (IQ ir))(M:bf P w K mg base k "is_small_length" ["thing"] (jb jr)):
  au P w K mg base bg (k+1) f G ["thing"] (jb dz):=by
 show F.okA (N:=["thing"]) λu2 A u3 s H vs Q E hr u1 h=>?_;ext(⟨v,d,rfl,R,n,q⟩:h);show{0,cP (pV (jZ (aQ B (aW 0)))) kb (cP (bA aA (bC 0) az) (qM aA (cV aq T.len (aW 0)) aE) (cP (bA aA (bC 0) az) (mD (qM aA (cV aq T.len (aW 0)) aE) (uv (aQ M (am (bC 0))))) (cP (bA aA (bC 0) az) (mD (qM aA (cV aq T.len (aW 0)) aE) (uv (aQ M (am (bC 0))))) (bZ (mD (qM aA (cV aq T.len (aW 0)) aE) (uv (qM aA (bC 0) az))))))),2};show{01,v,d,1,R,λj c=>{012}};cases L:ir d with
 |false=>show aH ?_;let:=q j c;rwa[xF L]at this
 |true=>
  show aK ?_;ext(⟨x,r,rfl⟩:jm L);ext(⟨a,vs,rfl,b,W⟩:aj.tup_inv (R.mono c));ext(⟨y,us,rfl,S,e⟩:W);obtain rfl:y=.str x:=S;let o:=e.length;show{01,a,0,(0),.str x,11,aw.of b,ad U,1012};rw[dY];by_cases I:x="whole"
  .subst I;rw[Z9 U];show aH {01,a,01,.inr (aw.of b),12};let:=q j c;rw[Gx,<-iT o 0 1 U]at this;show this
  rw[Z8 I];show aK {01,a,0,(0),.str x,11,aw.of b,ad U,1012};rw[dY];by_cases X:x="place"
  .subst X;rw[Z9 U];show aH {01,a,01,.inr (aw.of b),1012};change if decide (V.int _=V.int ((2:Nat):Int))=O then _ else _
   rw[iT o 1 2 U];by_cases z:r.length=1
   .rw[Z9 z];match r,us,z,e with
    |[l],us,_,e=>ext(⟨u,u4,rfl,D,rfl⟩:e);show aH {01,a,0,(1),u,11,aw.of b,ad U,u,l,1,D,fq (i:=1) (by simp only[Dv.small,χ]at n;show n.1) U,λp t=>?_};let:=q p (c.trans t);rw[Ac]at this;show this
   .rw[Z8 z];show aK ?_;let:=q j c;rw[Ac,Z8 z]at this;show this
  rw[Z8 X];show aK {01,a,0,(0),.str x,11,aw.of b,ad U,1012};rw[dY];by_cases C:x="row"
  .subst C;rw[Z9 U];show aH {01,a,01,.inr (aw.of b),1012};change if decide (V.int _=V.int ((3:Nat):Int))=O then _ else _
   rw[iT o 2 3 U];by_cases z:r.length=2
   .rw[Z9 z];match r,us,z,e with
    |[l,m],us,_,e=>ext(⟨u,u',rfl,D,u0⟩:Reps.two e);show aH {01,a,0,(1),u,11,aw.of b,ad U,u,l,1,D,fq (i:=1) (by simp only[Dv.small,χ]at n;show n.1) U,λp t=>?_};let:=q p (c.trans t);rw[Jw]at this;show this
   .rw[Z8 z];show aK ?_;let:=q j c;rw[Jw,Z8 z]at this;show this
  rw[Z8 C];show aK {01,a,01,.inr (aw.of b),1012};change if decide (V.int _=V.int ((3:Nat):Int))=O then _ else _
  rw[iT o 2 3 U];let g:=q j c;rw[KP I X C]at g;by_cases z:r.length=2
  .rw[Z9 z]at g⊢;show aH {01,a,0,(0),.str x,11,aw.of b,ad U,12};rw[ϵ,<-dY]at g;show g
  .rw[Z8 z]at g⊢;show aK g
def xQ(F:Fun K "things_of" "things_of" li f fd)(T:Txt K mg):au P w K mg base bg 1 f fd ["point"] Ju:=by
 show F.okA (N:=["point"]) λm A k s H vs Q E o n h=>?_;ext(⟨a,x,us,rfl,c,j,i,q⟩:h);show{0,cP (bA aA (bC 0) az) (dw (am (bC 0))) (cP (bA aA (bC 0) az) (dw (ar (bC 0) (am (bC 0)))) (bZ (dw uk))),2};show{01,a,0,(0),.str x,11,aw.of c,ad U,1012};rw[dY];by_cases g:x="row"
 .subst g;let b:=j U;ext(⟨u,d,rfl⟩:kj b)
  .rw[Z9 U];show aH {01,a,0,(2),d,11,aw.of c,ad U,z1,λl b=>q l b}
 rw[Z8 g];show aK {01,a,0,(0),.str x,11,aw.of c,ad U,1012};rw[dY];by_cases e:x="pair"
 .subst e;let b:=i U;ext(⟨u,d,rfl⟩:kj b)
  .rw[Z9 U];show aH {01,a,0,(1),u,11,aw.of c,ad U,01,a,0,(2),d,11,aw.of c,ad U,z2,λl b=>?_};let:=q l b;rw[show dR (Y "pair") [u,d]=[u,d] by unfold dR;rw[Z6 (ϝ w6),Z5 U]]at this;show this
 rw[Z8 e];show aK {ϋ _,λl b=>?_};let:=q l b;rw[show dR x us=[] by unfold dR;rw[Z6 g,Z6 e]]at this;show this
end
abbrev qt:ϸ:=top 28
def yv:Dv->List Dv
 |.tup (.str x::r)=>dR x r
 |_=>[]
def Du(h:e∈dR x r):e∈r:=by
 unfold dR at h;split at h
 .show F9 h
 .split at h
  .show h
  .cases h
def EM(h:e∈yv d):sizeOf e<sizeOf d:=by
 unfold yv at h;split at h
 .let:=List.sizeOf_lt_of_mem (Du h);simp;omega
 .cases h
def bJ(d:Dv):Nat:=if dz d=O then 1+((yv d).attach.map λe=>bJ e.1).sum else 99
termination_by sizeOf d
decreasing_by show EM e.2
def size_eq(d:Dv):bJ d=if dz d=O then 1+((yv d).map bJ).sum else 99:=by rw[bJ];simp
def iO(h:dz d=J):bJ d=99:=by rw[size_eq,h];rfl
def lQ(h:dz d=O):∃x r,d=.tup (.str x::r)/\(x="row"->r.length=2)/\(x="pair"->r.length=2)/\bJ d=1+((dR x r).map bJ).sum:=by
 match d,h with
 |.tup [.str x],h=>have h':x="whole":=Z7 h;subst h';show{001,λz=>absurd z w2,λz=>absurd z w3,by rw[size_eq,Z5 h];rfl}
 |.tup [.str x,l],h=>have h':(decide (x="place")&&jr l)=O:=h;rw[χ]at h';let e:=Z7 h'.1;subst e;show{001,λz=>absurd z w4,λz=>absurd z w5,by rw[size_eq,Z5 h];rfl}
 |.tup [.str x,a,b],h=>show{x,01,λ_=>U,λ_=>U,by rw[size_eq,Z5 h];rfl}
def size_pos(d:Dv):1<=bJ d:=by
 cases h:dz d with
 |false=>rw[iO h];decide
 |true=>ext(⟨x,r,_,_,_,e⟩:lQ h);rw[e];omega
def AN(h:Reps H r us):Reps H (dR x r) (dR x us):=by
 unfold dR;split
 .match r,us,h with
  |[],us,h=>simp only[Reps]at h;subst h;simp only[List.drop_nil,Reps]
  |d::r,us,h=>simp only[Reps]at h;ext(⟨v,q,rfl,_,a⟩:h);show a
 .split
  .show h
  .simp only[Reps]
def wN(h:smalls r=O):smalls (dR x r)=O:=by
 unfold dR;split
 .match r,h with
  |[],_=>rfl
  |d::r,h=>simp only[smalls,χ]at h;show h.2
 .split
  .show h
  .rfl
def vG{α:Type}{x:Str}{r:List α}(a:x="row"->r.length=2)(b:x="pair"->r.length=2):(dR x r).length<=2:=by
 unfold dR;split
 .rename_i e;rw[Ϯ,a e];decide
 .split
  .rename_i e;rw[b e];show Α _
  .show ϋ _
def oG:∀{xs ys:List Dv},smalls xs=O->smalls ys=O->smalls (xs++ys)=O
 |[],_,_,h=>h
 |x::xs,ys,g,h=>by simp only[smalls,χ,h_]at g⊢;show{g.1,oG g.2 h}
def kU:∀{xs:List Dv}{y:Dv},smalls (xs++[y])=O->smalls xs=O/\y.small=O
 |[],y,h=>by simpa[smalls]using h
 |x::xs,y,h=>by simp only[smalls,χ,h_]at h⊢;let:=kU h.2;show{{h.1,this.1},this.2}
def tU:af (bY H l) (bY (upd H l o) l):=λb u h=>by
 unfold bY at h⊢;split at h
 .cases h
 .rename_i e;rw[Z6 e,ai e];show h
def nJ:Sp:=jb λd=>decide (bJ d<=12)
section
variable{P:Ι}{w:ώ}{K:η}{mg:Str->Option ν}{base:ϙ}
def yj{f:υ}{u0:ϣ}{k:Nat}(F:Fun K "is_kind" "is_kind" qt f u0)(T:Txt K mg)(b1:bf P w K mg base k "is_point" ["thing"] (jb dz))(b0:bf P w K mg base k "things_of" ["point"] Ju):
  au P w K mg base bg (k+1) f u0 ["thing"] nJ:=by
 show F.okA (N:=["thing","size","waiting","point"]) λc7 A c6 s H vs Q E hr nd h=>?_;ext(⟨v,d,rfl,R,b4,q⟩:h);show{0,aS (aY 1 aE) (aS (aY 2 (dw (aW 0))) (aS (Ng c_ (QA (wv 2) (λ_=>U)) (aS (aY 3 (Qs ϖ PySem.F.slot_list_pop PySem.F.type_list_pop Ds (wv 2))) (aS (QZ 1 nd U (z_ U) aE CD) (cP (lW (wD (bA gu (wv 1) {T.g_GREATEST_SIZE U}) (yb (pV (jZ (aQ b1 (aW 3))))))) kb (fD (pM (eX ϖ N5 N6 qu (wv 2) (am (aQ b0 (aW 3)))))))))) (bZ kb))),2};show{01,z1,λb S=>?_};let q1:=ac S (.lst [v]);show vg (λm σ H'=>∃(o3:Option V) (g:Nat) (n:List Dv) (vs:List V),σ=[Z v,Z (.int g),Z (.ref b),o3]/\af H (bY H' b)/\H' b=Z (.lst vs)/\Reps (bY H' b) n vs/\smalls n=O/\(g+(n.map bJ).sum<=12↔bJ d<=12)/\m=12-g/\g<=12/\n.length<=1+g) 12
  {0,(0),[d],[v],1,jv q1 S,aa,be (R.mono (jv q1 S)),by simp only[smalls,b4,Bool.and_self],313,Α _} ?_ oX
 ext m σ X D1 gR gD ⟨o3,g,n,vs,rfl,L,B,u2,sm,o,rfl,b2,lw⟩;show{010,.inl {vs,aD.of B,1},2};by_cases ne:n=[]
 .subst ne;let e:vs=[]:=by simpa only[Reps]using u2
  subst e;show aK ?_;let:=q X (L.trans cX);rw[Z9 (o.mp (↑b2))]at this;show this
 .ext(⟨w0,x,rfl⟩:Ar ne);ext(⟨i,u,rfl,u1,Ru⟩:km u2);let e:(!(i++[u]).isEmpty)=O:=();rw[e];show aH ?_;rw[Κ,O0,ϊ,u9,A0,List.sum_nil]at o;rw[Ε,ϻ]at lw;ext(⟨b3,C⟩:kU sm);show{01,.inl {10,aD.of B},b,0011,B,vp _ _,2};rw[RX];let t:af (bY X b) (bY (upd X b (.lst i)) b):=tU;let w2:upd X b (.lst i) b=Z (.lst i):=aa;let M:=L.trans (t.trans cX);generalize upd X b (.lst i)=H2 at t w2 M⊢;let xp:=size_pos x;show{010011,{010011012}};show ao (λh=>?_) (λh=>?_)
  .let h':(12:Int)<(g:Int)+1:=Z7 h;let:=q H2 M;rw[Z8 (λz=>by let:=o.mpr z;omega)]at this;show aH (gR _ _ this)
  let h':g+1<=12:=by let z:=of_decide_eq_false (C3.mpr h);omega
  show{01,u,x,1,Ru.mono (t.trans cX),C,λu3 D=>{012}};cases c:dz x with
  |false=>have:=q u3 (M.trans D);rw[Z8 (λz=>by let:=o.mpr z;rw[iO c]at this;omega)]at this;show aH (gR _ _ this)
  |true=>
   show aK ?_;ext(⟨j,r,rfl,G,W,es⟩:lQ c);ext(⟨a,us,rfl,ha,rs⟩:aj.tup_inv (Ru.mono (t.trans (cT D))));ext(⟨y,p,rfl,R0,ru⟩:rs);obtain rfl:y=.str j:=R0;let I:=ru.length;let w3:=D _ _ w2;let lk:=vG (λz=>by rw[I];show G z) (λz=>by rw[I];show W z);let lv:i.length<=12:=by rw[u1.length];omega
   show{01,.inl {10,aD.of w3},01,a,j,p,1,cX _ _ ha,λz=>by rw[I];show G z,λz=>by rw[I];show W z,λl b5=>?_};let q4:=ac b5 (.lst (dR j p));show{b,l,0011,q4 _ _ w3,aa,32};let t5:af (bY u3 b) (bY (upd (upd u3 l (.lst (dR j p))) b (.lst (i++dR j p))) b):=(cT q4).trans tU;let u4:=t.trans ((cT D).trans t5);show gD (12-(g+1)) _ _ () {0,g+1,w0++dR j r,i++dR j p,1,L.trans u4,aa,Reps.append (u1.mono u4) ((AN ru).mono t5),oG b3 (wN (by simp only[Dv.small,smalls,χ]at C;show C.1.2)),21,h',2}
   .rw[<-o,es,Κ,O0];constructor<;>intro z<;>omega
   .let:=vG G W;rw[Ε];omega
end
abbrev oN:ϸ:=top 29
abbrev jc:ϸ:=top 37
abbrev wq:ϸ:=top 38
abbrev DO:ϸ:=top 39
def kt(b:Int):Dv->Bool
 |.int i=>decide (0<=i)&&decide (i<b)
 |_=>J
def fA(b:Int):Dv->Bool
 |.tup ds=>decide (b<=(ds.length:Int))&&decide ((ds.length:Int)<=4)
 |_=>J
def cS(x:Str):Bool:=Ox (.str x) (sY.map V.str)
def cw(x:Str):Bool:=WT.any λp=>decide (p.1=x)
def md:Dv->Bool
 |.str x=>bT x&&(!cw x && !cS x)
 |_=>J
def CN:Dv->Bool
 |.str x=>cS x
 |_=>J
def mx:So->Dv->Bool
 |.n,d=>kt 1000000000000 d
 |.x,d=>bR d
 |.y,d=>bR d
 |.l,d=>jr d
 |.k,d=>decide (bJ d<=12)
 |.w,d=>CN d
 |.f,d=>md d
 |.a,d=>fA 0 d
 |.r,d=>fA 1 d
 |.e,_=>O
inductive ze (vs:List V) (H:Hp) (Q:VK) (u3_:XK):Prop|mk (v:V) (d:Dv) (b:Int) (_:vs=[v,.int b]) (_:aj H d v) (_:∀H',af H H'->Q (.bl (kt b d)) H')
inductive yW (vs:List V) (H:Hp) (Q:VK) (u3_:XK):Prop|mk (v:V) (d:Dv) (b:Int) (_:vs=[v,.int b]) (_:aj H d v) (_:∀H',af H H'->Q (.bl (fA b d)) H')
inductive Ez (vs:List V) (H:Hp) (Q:VK) (u3_:XK):Prop|mk (s:So) (v:V) (d:Dv) (_:vs=[.str (gj s),v]) (_:aj H d v) (_:d.small=O) (_:∀H',af H H'->Q (.bl (mx s d)) H')
section
variable{P:Ι}{w:ώ}{K:η}{mg:Str->Option ν}{base:ϙ}
def vn(F:Fun K "is_below" "is_below" oN f fd)(T:Txt K mg)(Dis_whole:bf P w K mg base k "is_whole" ["thing"] (IQ dy)):au P w K mg base bg (k+1) f fd ["thing","bound"] ze:=by
 show F.okA (N:=["thing","bound"]) λcdv A outer s H vs Q E hr nd h=>?_;ext(⟨v,d,b,rfl,R,q⟩:h);show{0,bZ (mD (aQ Dis_whole (aW 0)) (uv (OF jJ iZ aE (wv 0) (wv 1)))),{01,v,d,1,R,λH1 s1=>{012}}};let qq:=q H1 s1;cases d with
 |int i=>
  obtain rfl:v=.int i:=R;show aH {010011012};let qq':Q (.bl (decide (0<=i)&&decide (i<b))) H1:=qq;by_cases h:0<=i
  .rw[Z9 h]at qq'⊢;show aH {010011,qq'}
  .rw[Z8 h]at qq'⊢;show aK qq'
 |_=>show aK qq
def BJ(F:Fun K "is_few" "is_few" wq f fd)(T:Txt K mg):au P w K mg base bg 1 f fd ["thing","least"] yW:=by
 show F.okA (N:=["thing","least"]) λcdv A outer s H vs Q E hr nd h=>?_;ext(⟨v,d,b,rfl,R,q⟩:h);show{0,bZ (mD (cV cg T.isinstance (ar (wv 0) (am (zt (.ty "tuple") T.tuple U)))) (uv (OF jJ jJ (wv 1) (cV aq T.len (aW 0)) {T.g_MOST_THINGS U}))),2};let qq:=q H (af.refl H);show{01,v,0001,R.ty,fb K d,012};cases d with
 |tup ds=>
  ext(⟨a,vs,rfl,ha,rs⟩:aj.tup_inv R);show aH {0101,a,vs,1,.inr (aw.of ha),0011012};let qq':Q (.bl (decide (b<=(ds.length:Int))&&decide ((ds.length:Int)<=4))) H:=qq;rw[<-rs.length]at qq';by_cases h:b<=(vs.length:Int)
  .rw[Z9 h]at qq'⊢;show aH {0011,qq'}
  .rw[Z8 h]at qq'⊢;show aK qq'
 |_=>show aK qq
def ow(F:Fun K "is_def_name" "is_def_name" jc f fd)(T:Txt K mg)(S:Shp P w K gS)(GS:mg "SHAPES"=Z (.ref gS))(GR:mg "RECKONS"=Z (.ref gR))(hR:∀H,aw K H gR (sY.map V.str))(Dis_name:bf P w K mg base k "is_name" ["thing"] (jb bR)):au P w K mg base bg (k+1) f fd ["thing"] (jb md):=by
 show F.okA (N:=["thing"]) λcdv A outer s H vs Q E hr nd h=>?_;ext(⟨v,d,rfl,R,sm,q⟩:h);ext(⟨kvs,FS,_,hS⟩:S.ex);show{0,bZ (mD (aQ Dis_name (aW 0)) (mD (qM (qB FS) (wv 0) (nU (.ref gS) GS)) (uv (qM jI (wv 0) (nU (.ref gR) GR))))),{01,v,d,1,R,sm,λH1 s1=>{012}}};let qq:=q H1 s1;cases d with
 |str x=>
  obtain rfl:v=.str x:=R;let qq':Q (.bl (bT x&&(!cw x && !cS x))) H1:=qq;change if bT x=O then _ else _
  cases hn:bT x with
  |false=>rw[hn]at qq';show aK qq'
  |true=>
   rw[hn]at qq';show aH {01,x,11012};rw[hS x];change if xor O (cw x)=O then _ else _
   cases hw:cw x with
   |true=>rw[hw]at qq';show aK qq'
   |false=>rw[hw]at qq';show aH {01,gR,01,.inr (hR _),13,qq'}
 |_=>show aK qq
def Iu(F:Fun K "fits" "fits" DO f fd)(T:Txt K mg)(GR:mg "RECKONS"=Z (.ref gR))(hR:∀H,aw K H gR (sY.map V.str))(Dis_below:bf P w K mg base k "is_below" ["thing","bound"] ze)(Dis_name:bf P w K mg base k "is_name" ["thing"] (jb bR))(Dis_small_length:bf P w K mg base k "is_small_length" ["thing"] (jb jr))(Dis_kind:bf P w K mg base k "is_kind" ["thing"] nJ)(Dis_def_name:bf P w K mg base k "is_def_name" ["thing"] (jb md))(Dis_few:bf P w K mg base k "is_few" ["thing","least"] yW):au P w K mg base bg (k+1) f fd ["sort","thing"] Ez:=by
 show F.okA (N:=["sort","thing"]) λcdv A outer s H vs Q E hr nd h=>?_;ext(⟨so,v,d,rfl,R,sm,q⟩:h);show{0,cP (bA aA (wv 0) az) (aQ Dis_below (ar (wv 1) (am {T.g_WHOLE_BOUND U}))) (cP (bA aA (wv 0) az) (aQ Dis_name (aW 1)) (cP (bA aA (wv 0) az) (aQ Dis_small_length (aW 1)) (cP (bA aA (wv 0) az) (aQ Dis_kind (aW 1)) (cP (bA aA (wv 0) az) (mD (cV cg T.isinstance (ar (wv 1) (am (zt (.ty "str") T.str U)))) (uv (qM qG (wv 1) (nU (.ref gR) GR)))) (cP (bA aA (wv 0) az) (aQ Dis_def_name (aW 1)) (cP (bA aA (wv 0) az) (aQ Dis_few (ar (wv 1) (am aE))) (cP (bA aA (wv 0) az) (aQ Dis_few (ar (wv 1) (am aE))) (bZ kb)))))))),{01101,ao (λh=>?_) (λh1=>?_)}}
 .let e:=(IK so).mp (Z7 h);subst e;show{01,v,d,01,R,q}
 show{01101,ao (λh=>?_) (λh2=>?_)}
 .rcases(vZ so).mp (Z7 h)with e|e
  .subst e;show{01,v,d,1,R,sm,q}
  .subst e;show{01,v,d,1,R,sm,q}
 show{01101,ao (λh=>?_) (λh3=>?_)}
 .let e:=(qV so).mp (Z7 h);subst e;show{01,v,d,1,R,sm,q}
 show{01101,ao (λh=>?_) (λh4=>?_)}
 .let e:=(rq so).mp (Z7 h);subst e;show{01,v,d,1,R,sm,q}
 show{01101,ao (λh=>?_) (λh5=>?_)}
 .let e:=(IY so).mp (Z7 h);subst e;show{01,v,0001,R.ty,eU K d,012};let qq:=q H (af.refl H);cases d with
  |str x=>obtain rfl:v=.str x:=R;show aH {01,gR,01,.inr (hR _),13,qq}
  |_=>show aK qq
 show{01101,ao (λh=>?_) (λh6=>?_)}
 .let e:=(Jb so).mp (Z7 h);subst e;show{01,v,d,1,R,sm,q}
 show{01101,ao (λh=>?_) (λh7=>?_)}
 .let e:=(vc so).mp (Z7 h);subst e;show{01,v,d,01,R,q}
 show{01101,ao (λh=>?_) (λh8=>?_)}
 .let e:=(vT so).mp (Z7 h);subst e;show{01,v,d,01,R,q}
 let e:so=.e:=by
  cases so with
  |e=>rfl
  |n=>show absurd (Z9 ((IK .n).mpr U)) h1
  |x=>show absurd (Z9 ((vZ .x).mpr (.inl U))) h2
  |y=>show absurd (Z9 ((vZ .y).mpr (.inr U))) h2
  |l=>show absurd (Z9 ((qV .l).mpr U)) h3
  |k=>show absurd (Z9 ((rq .k).mpr U)) h4
  |w=>show absurd (Z9 ((IY .w).mpr U)) h5
  |f=>show absurd (Z9 ((Jb .f).mpr U)) h6
  |a=>show absurd (Z9 ((vc .a).mpr U)) h7
  |r=>show absurd (Z9 ((vT .r).mpr U)) h8
 subst e;show q H (af.refl H)
end
abbrev qo:ϸ:=top 40
abbrev nD:ϸ:=top 41
inductive yJ (vs:List V) (H:Hp) (Q:VK) (u3_:XK):Prop|mk (v:V) (d:Dv) (G:Hp) (_:vs=[v]) (_:af G H) (_:aj G d v) (_:Kw d) (_:∀(H':Hp)(l:υ)(us:List V),af H H'->H l=Β->H' l=Z (.lst us)->Reps G (eF d) us->Q (.ref l) H')
def pW:List So->List Dv->Bool
 |[],[]=>O
 |s::ss,d::ds=>mx s d&&pW ss ds
 |_,_=>J
def lK:List Dv->Bool
 |.str x::_::.str y::_=>decide (x≠y)
 |_=>J
def gm:Dv->Bool
 |.tup (.str w::ds)=>match WT.find? (λq=>decide (q.1=w))with
  |some p=>pW p.2.2 ds&&(decide (w≠"fold")||lK ds)
  |none=>J
 |_=>J
def AM(h:ir d=J):gm d=J:=by
 match d,h with
 |.tup (.str x::r),h=>cases h
 |.tup [],_=>rfl
 |.tup (.non::r),_=>rfl
 |.tup (.bl _::r),_=>rfl
 |.tup (.int _::r),_=>rfl
 |.tup (.tup _::r),_=>rfl
 |.tup (.lst _::r),_=>rfl
 |.tup (.dct::r),_=>rfl
 |.non,_=>rfl
 |.bl _,_=>rfl
 |.int _,_=>rfl
 |.str _,_=>rfl
 |.lst _,_=>rfl
 |.dct,_=>rfl
def yA(h:cw x=J):gm (.tup (.str x::ds))=J:=by
 let e:WT.find? (λq=>decide (q.1=x))=Β:=by rw[J2];intro p a;let:=O8.mp h p a;show this
 change(match WT.find? (λq=>decide (q.1=x))with|some b=>pW b.2.2 ds&&(decide (x≠"fold")||lK ds)|none=>J)=_;rw[e]
def su(h:cw x=O):∃p∈WT,p.1=x:=by ext(⟨p,hp,e⟩:n_.mp h);show{p,hp,Z7 e}
def cb(a:p∈WT)(ds:List Dv):gm (.tup (.str p.1::ds))=(pW p.2.2 ds&&(decide (p.1≠"fold")||lK ds)):=by change(match WT.find? (λq=>decide (q.1=p.1))with|some b=>pW b.2.2 ds&&(decide (p.1≠"fold")||lK ds)|none=>J)=_;rw[AD Jr a]
def sH:∀{ss:List So}{ds:List Dv},pW ss ds=O->ds.length=ss.length
 |[],[],_=>rfl
 |s::ss,d::ds,h=>by simp only[pW,χ]at h;rw[Δ,Δ,sH h.2]
 |[],_::_,h=>by cases h
 |_::_,[],h=>by cases h
def Ci{ss:List So}{ds:List Dv}{i:Nat}{s:So}{d:Dv}(c:ss[i]?=Z s)(e:ds[i]?=Z d):pW (ss.drop i) (ds.drop i)=(mx s d&&pW (ss.drop (i+1)) (ds.drop (i+1))):=by ext(⟨a,rfl⟩:Υ.mp c);ext(⟨b,rfl⟩:Υ.mp e);rw[F3 a,F3 b];rfl
def zW(h:fA b d=O):∃es,d=.tup es/\b<=(es.length:Int)/\es.length<=4:=by
 cases d with
 |tup es=>simp only[fA,χ,decide_eq_true_eq]at h;show{es,1,h.1,3}
 |_=>cases h
def Cj:∀{ss:List So}{ds:List Dv},pW ss ds=O->F2 (Pw (λ_=>True) (λ_ _=>True)) ss ds
 |[],[],_=>.nil
 |s::ss,d::ds,h=>by
  simp only[pW,χ]at h;show .cons ?_ (Cj h.2);cases s with
  |a=>ext(⟨b,rfl,_,c⟩:zW h.1);show{b,1,c,λ_ _=>trivial}
  |r=>ext(⟨b,rfl,f,c⟩:zW h.1);show{b,13,c,λ_ _=>trivial}
  |e=>trivial
  |_=>trivial
 |[],_::_,h=>by cases h
 |_::_,[],h=>by cases h
def BH(h:gm d=O):Kw d:=by
 match d,h with
 |.tup (.str x::ds),h=>
  cases hw:cw x with
  |false=>rw[yA hw]at h;cases h
  |true=>ext(⟨p,hp,rfl⟩:su hw);rw[cb hp,χ]at h;show{p,ds,hp,1,Cj h.1}
 |.tup [],h=>cases h
 |.tup (.non::r),h=>cases h
 |.tup (.bl _::r),h=>cases h
 |.tup (.int _::r),h=>cases h
 |.tup (.tup _::r),h=>cases h
 |.tup (.lst _::r),h=>cases h
 |.tup (.dct::r),h=>cases h
 |.non,h=>cases h
 |.bl _,h=>cases h
 |.int _,h=>cases h
 |.str _,h=>cases h
 |.lst _,h=>cases h
 |.dct,h=>cases h
def Qw(h:ds.length=5):∃a b c d e,ds=[a,b,c,d,e]:=by
 match ds,h with
 |[a,b,c,d,e],_=>show{a,b,c,d,e,1}
def zz:∀p∈WT,p.1="fold"->p.2.2=[.x,.l,.y,.e,.e]:=()
def uo(h:bR d=O):∃x,d=.str x:=by
 cases d with
 |str x=>show{x,1}
 |_=>cases h
section
variable{P:Ι}{w:ώ}{K:η}{mg:Str->Option ν}{base:ϙ}
def uy(F:Fun K "parts_of" "parts_of" nD f fd)(T:Txt K mg)(S:Shp P w K gS)(GS:mg "SHAPES"=Z (.ref gS)):au P w K mg base bg 1 f fd ["node"] yJ:=by
 show F.okA (N:=["node","parts","sort","given"]) λf3 A e8 s H vs Q E hr nd h=>?_;ext(⟨v,d,G,rfl,sG,R,⟨p,ds,hp,rfl,hf⟩,q⟩:h);ext(⟨f1,FS,hS,_⟩:S.ex);ext(⟨a,vs,rfl,c7,rs⟩:aj.tup_inv R);ext(⟨v0,I,rfl,R0,b3⟩:cz rs);let ha:=sG _ _ c7;obtain rfl:v0=.str p.1:=R0;ext(⟨b,hb,b1⟩:hS p hp);let d0:=hf.length;let e9:=b3.length;let h5:=eS p hp;show{0,aS (aY 1 (dw uk)) (aS (Dr c_ U (OW U T.zip (ar (Qb FS (nU (.ref gS) GS) (bC 0)) (am (lJ iF (wv 0) (kh aE) mr)))) (FK (pH (js 2) (pH (js 3) FO))) (kY (bA aA (wv 2) az) (fD (pM (eX ϖ Ϟ ϟ bu (wv 1) (aW 3)))) (fD (Hd (lW (wD (bA aA (wv 2) az) (yb (bA aA (wv 2) az)))) (fD (pM (eX ϖ N5 N6 Ia (wv 1) (aW 3)))) JB)))) (bZ (wv 1))),2};show{ϋ _,λl hl=>?_};let u0:=ac hl (.lst []);let l1:upd H l (.lst []) l=Z (.lst []):=aa;generalize upd H l (.lst [])=H1 at u0 l1⊢;show dQ ?_;show{01,a,0,(0),.str p.1,11,aw.of (u0 _ _ ha),ad U,p.1,b,11,hb,{01,(1),12}};show iJ (u0 _ _ ha) λH2 t s2 ht=>?_;let ec:cO (V.str p.1::I) (Z 1) Β=I:=cZ (V.str p.1::I) 1;rw[ec]at ht;let l2:=s2 _ _ l1;show{b,t,1,{0,b1 _},{0,aw.of ht},lq (D:={nx:=EN (jq 1) {nx:=λx H'=>Q V.non H',rt:=Q},rt:=Q}) (λi σ H'=>∃(z X:Option V) (us:List V),σ=[Z (.ref a),Z (.ref l),z,X]/\af H H'/\H' t=Z (.tup I)/\H' l=Z (.lst us)/\Reps G (bL (p.2.2.take i) (ds.take i)) us/\us.length<=4*i) {00,[],1,(u0.trans s2),ht,l2,by simp[bL,Reps],Α _} (λi σ H' ⟨_,_,_,_,_,h,_⟩=>{b1 _,aw.of h}) ?T1 ?_}
 case T1=>
  ext i x y σ u1 u4 D1 gR gD hx hy ⟨z,X,us,rfl,s3,b4,l3,S,lu⟩ c9;rw[ϑ]at hx;ext(⟨c,u3,rfl⟩:ϫ.mp hx);let hi:=(Υ.mp u3).1;ext(⟨d,hd,b2⟩:hf.get u3);ext(⟨y',a9,Ry⟩:BC b3 hd);rw[hy]at a9;cases a9;let q4:=ac c9 (.tup [.str (gj c),y]);let b0:upd u1 u4 (.tup [.str (gj c),y]) u4=Z (.tup [.str (gj c),y]):=aa;let u2:=s3.trans q4;let u:=q4 _ _ l3;let L:=q4 _ _ b4;generalize upd u1 u4 (.tup [.str (gj c),y])=C at b0 u2 u L⊢;show{u4,01,aw.of b0,100100112};let W:∀(k:List V),Reps G (mT c d) k->k.length<=4->(∃(z X:Option V) (n:List V),[Z (V.ref a),Z (.ref l),Z (.str (gj c)),Z y]=[Z (.ref a),Z (.ref l),z,X]/\af H (upd C l (.lst (us++k)))/\upd C l (.lst (us++k)) t=Z (.tup I)/\upd C l (.lst (us++k)) l=Z (.lst n)/\Reps G (bL (p.2.2.take (i+1)) (ds.take (i+1))) n/\n.length<=4*(i+1)):=λk Ru f0=>by
   show{00,us++k,1,λg o e=>?_,2,aa,2,by rw[Ε];omega}
   .rw[ai (ah e hl)];show u2 g o e
   .rw[ai (λe=>by rw[e,u]at L;cases L)];show L
   .rw[rB _ _ _ u3 hd];show Reps.append S Ru
  let a0:mT c d=[]->(∃(z X:Option V) (n:List V),[Z (V.ref a),Z (.ref l),Z (.str (gj c)),Z y]=[Z (.ref a),Z (.ref l),z,X]/\af H C/\C t=Z (.tup I)/\C l=Z (.lst n)/\Reps G (bL (p.2.2.take (i+1)) (ds.take (i+1))) n/\n.length<=4*(i+1)):=λe=>by show{00,us,1,u2,L,u,23};rw[rB _ _ _ u3 hd,e,ϔ];show S
  replace W:=λk B j=>gD _ _ (W k B j);replace a0:=λe=>gD _ _ (a0 e);show{01101,ao (λh=>?_) (λh=>?_)}
  .let e:=(zX c).mp (Z7 h);subst e;show{01,.inl {10,aD.of u},01,l,0011,u,32};let c8:=W [y] (be Ry) (by change 1<=4;decide);show{01101,ao (λj=>absurd ((vc .e).mp (Z7 j)) ()) (λ_=>{011012})};rw[show decide (V.str (gj .e)=V.str "things")=J from Z8 λj=>absurd ((vT .e).mp j) ()];show aK c8
  .let ne:=λe=>h (Z9 ((zX c).mpr e));by_cases M:c=.a\/c=.r
   .obtain⟨m,rfl,f2⟩:∃m,d=.tup m/\m.length<=4:=by
     rcases M with e|e
     .subst e;ext(⟨m,B,j,_⟩:b2);show{m,B,j}
     .subst e;ext(⟨m,B,_,j,_⟩:b2);show{m,B,j}
    let ek:mT c (.tup m)=m:=by rcases M with e|e<;>subst e<;>rfl
    ext(⟨b2,zs,rfl,d1,rz⟩:aj.tup_inv Ry);let lz:=rz.length;show fc ?_;dsimp only;show Lz (aH ?_) λqT=>?_
    .show{01,.inl {10,aD.of u},01,l,b2,0,zs,11,u,aw.of (u2 _ _ (sG _ _ d1)),3,W zs (by rw[ek];show rz) ()}
    .rcases M with e|e
     .show{01101,ao (λ_=>qT) (λj=>absurd (Z9 ((vc c).mpr e)) j)}
     .show{01101,ao (λ_=>qT) (λ_=>{011012})};rw[Z9 ((vT c).mpr e)];show qT
   .let na:=λe=>M (.inl e);let nr:=λe=>M (.inr e);show fc {01101,ao (λj=>absurd ((vc c).mp (Z7 j)) na) (λ_=>{011012})};rw[show decide (V.str (gj c)=V.str "things")=J from Z8 λj=>nr ((vT c).mp j)];show aK (a0 ?_);cases c with
    |e=>show absurd U ne
    |a=>show absurd U na
    |r=>show absurd U nr
    |_=>rfl
 ext σ u1 ⟨z,X,us,rfl,s3,b4,l3,S,lu⟩;show{01,q u1 l us s3 hl l3 ?_};rw[ε,Sc (),ϧ,<-d0,ϧ]at S;rw[parts_of hp];show S
def yn{f gS:υ}{fd:ϣ}{k:Nat}(F:Fun K "is_node" "is_node" qo f fd)(T:Txt K mg)(S:Shp P w K gS)(GS:mg "SHAPES"=Z (.ref gS))(Dhas_word:bf P w K mg base k "has_word" ["thing"] (IQ ir))(Dfits:bf P w K mg base k "fits" ["sort","thing"] Ez):au P w K mg base bg (k+1) f fd ["thing"] (jb gm):=by
 show F.okA (N:=["thing","shape","sort","given"]) λcdv A outer s H vs Q E hr nd h=>?_;ext(⟨v,d,rfl,R,hsm,q⟩:h);ext(⟨kvs,FS,hS,hS2⟩:S.ex);show{0,cP (lW (wD (pV (jZ (aQ Dhas_word (aW 0)))) (yb (bA (qB FS) (bC 0) (nU (.ref gS) GS))))) kb (aS (aY 1 (Qb FS (nU (.ref gS) GS) (bC 0))) (cP (bA jd (cV aq T.len (aW 0)) (aP cQ (cV aq T.len (aW 1)) aE)) kb (aS (Dr c_ U (OW U T.zip (ar (wv 1) (am (lJ iF (wv 0) (kh aE) mr)))) (FK (pH (js 2) (pH (js 3) FO))) (fD (Hd (pV (jZ (aQ Dfits (ar (wv 2) (aW 3))))) (bZ kb) JB))) (bZ (RF (qM jd (bC 0) az) (uv (qM jd (bC 0) (bC 0)))))))),2};show{01,v,d,1,R,λH1 s1=>{012}};cases c0:ir d with
 |false=>show aH (aH ?_);let:=q H1 s1;rwa[AM c0]at this
 |true=>
  show aK ?_;ext(⟨x,ds,rfl⟩:jm c0);ext(⟨a,vs,rfl,ha,rs⟩:aj.tup_inv (R.mono s1));ext(⟨y,ws,rfl,R0,ru⟩:cz rs);obtain rfl:y=.str x:=R0;let lws:=ru.length;let hds:smalls ds=O:=by simp only[Dv.small,smalls,χ]at hsm;show hsm.1.2
  show{01,a,0,(0),.str x,11,aw.of ha,ad U,x,11012};rw[hS2 x];change if xor O (cw x)=O then _ else _
  cases hw:cw x with
  |false=>show aH ?_;let:=q H1 s1;rwa[yA hw]at this
  |true=>
   show aK ?_;ext(⟨p,hp,rfl⟩:su hw);ext(⟨b,hb,hbT⟩:hS p hp);show{01,a,0,(0),.str p.1,11,aw.of ha,ad U,p.1,b,11,hb,{01,a,01,.inr (aw.of ha),01,b,01,.inr (hbT _),00111012}};by_cases hl:ds.length=p.2.2.length
   .rw[show(!decide (V.int (((V.str p.1::ws).length:Nat):Int)=V.int ((((p.2.2.map λs=>V.str (gj s)).length:Nat):Int)+1)))=J by
     rw[Δ,lws,hl,ε,show((p.2.2.length+1:Nat):Int)=(p.2.2.length:Int)+1 by omega,Z9 U];rfl]
    show aK {0101,(1),12};show iJ ha λH2 t s2 ht=>?_;let ec:cO (V.str p.1::ws) (Z 1) Β=ws:=cZ (V.str p.1::ws) 1;rw[ec]at ht;show{b,t,1,{0,hbT _},{0,aw.of ht},lq (D:={nx:=EN (Nh (De PD (De (By K) (jq 0) (tC (V.int 0))) (tC (V.str (Y "fold")))) (De PD (De (By K) (jq 0) (tC (V.int 1))) (De (By K) (jq 0) (tC (V.int 3))))) {nx:=λx H'=>Q V.non H',rt:=Q},rt:=Q}) (λi σ H'=>∃(o2 o3:Option V),σ=[Z (.ref a),Z (.ref b),o2,o3]/\af H2 H'/\pW p.2.2 ds=pW (p.2.2.drop i) (ds.drop i)) {001,af.refl _,1} (λi σ H' ⟨_,_,_,h,_⟩=>{hbT _,aw.of (h _ _ ht)}) ?T1 ?_}
    case T1=>
     ext i x y σ H3 t3 D1 gR gD hx hy ⟨o2,o3,rfl,s3,ok3⟩ hp3;rw[ϑ]at hx;ext(⟨so,hso,rfl⟩:ϫ.mp hx);ext(⟨d,hd,Ry⟩:ru.get hy);let q4:=ac hp3 (.tup [.str (gj so),y]);let ht4:upd H3 t3 (.tup [.str (gj so),y]) t3=Z (.tup [.str (gj so),y]):=aa;let s4:=s2.trans (s3.trans q4);let s24:=s3.trans q4;generalize upd H3 t3 (.tup [.str (gj so),y])=H4 at ht4 s4 s24⊢;show{t3,01,aw.of ht4,100100112};show{0101,so,y,d,1,Ry.mono s4,fq hds hd,λH5 s5=>{012}};rw[Ci hso hd]at ok3;cases hfit:mx so d with
     |false=>show aH ?_;let:=q H5 (s1.trans (s4.trans s5));rw[cb hp,ok3,hfit]at this;show gR _ _ this
     |true=>show aK (gD _ _ {001,s24.trans s5,2});rw[ok3,hfit,ϵ]
    ext σ H3 ⟨o2,o3,rfl,s3,ok3⟩;let okk:pW p.2.2 ds=O:=by rw[ok3,ε,Sc (),Ti,<-hl,Ti];rfl
    let s23:=s2.trans s3;let qq:=q H3 (s1.trans s23);rw[cb hp,okk,ϵ]at qq;show{01,a,0,(0),.str p.1,11,aw.of (s23 _ _ ha),ad U,1012};rw[dY];by_cases hf:p.1="fold"
    .rw[Z9 hf];show aK ?_;let hss:=zz p hp hf;rw[hss]at okk;let l5:ds.length=5:=by rw[hl,hss];rfl
     ext(⟨d1,d2,d3,d4,d5,rfl⟩:Qw l5)
     .simp only[pW,mx,χ]at okk
      ext(⟨x1,rfl⟩:uo okk.1);ext(⟨x3,rfl⟩:uo okk.2.2.1);ext(⟨u1,r1,rfl,R1,ru⟩:cz ru);ext(⟨u2,r2,rfl,R2,ru⟩:cz ru);ext(⟨u3,r3,rfl,R3,ru⟩:cz ru);obtain rfl:u1=.str x1:=R1;obtain rfl:u3=.str x3:=R3;show{01,a,0,(1),.str x1,11,aw.of (s23 _ _ ha),ad U,01,a,0,(3),.str x3,11,aw.of (s23 _ _ ha),ad U,12};rw[dY];rw[show decide (p.1≠"fold")=J from Z8 (λz=>z hf),Ta]at qq;let e:lK [.str x1,d2,.str x3,d4,d5]=!decide (x1=x3):=by
       change decide (x1≠x3)=_;by_cases h:x1=x3
       .rw[Z9 h,Z8 (λz=>z h)];rfl
       .rw[Z8 h,Z9 h];rfl
      rw[e]at qq;show qq
    .rw[Z8 hf];show aH ?_;rw[Z9 hf,Bool.true_or]at qq;show qq
   .rw[show(!decide (V.int (((V.str p.1::ws).length:Nat):Int)=V.int ((((p.2.2.map λs=>V.str (gj s)).length:Nat):Int)+1)))=O by
     rw[Z8 λz=>hl (by injection z with z;rw[Δ,lws,ε]at z;omega)];rfl]
    show aH ?_;let:=q H1 s1;rw[cb hp]at this;cases ho:pW p.2.2 ds with
    |true=>show absurd (sH ho) hl
    |false=>rw[ho]at this;show this
end
abbrev qJ:ϸ:=top 42
def dC:Nat->Dv->Nat
 |0,_=>99
 |n+1,d=>if gm d=O then 1+((eF d).map (dC n)).sum else 99
def uF:Sp:=jb λd=>decide (dC 8 d<=40)
def zd(n:Nat)(d:Dv):1<=dC n d:=by
 cases n with
 |zero=>change 1<=99;decide
 |succ n=>unfold dC;split<;>omega
def OG(p:Dv×Nat):Dv:=.tup [p.1,.int p.2]
def ny(a:List (Dv×Nat)):Nat:=(a.map λp=>dC (8-p.2) p.1).sum
def ul(xs ys:List (Dv×Nat)):ny (xs++ys)=ny xs+ny ys:=by unfold ny;rw[Κ,O0]
def wR(h:smalls ds=O):∀d∈ds,d.small=O:=by
 induction ds with
 |nil=>intro d a;cases a
 |cons x ds b=>
  simp only[smalls,χ]at h;intro d a;rcases ξ.mp a with rfl|a
  .show h.1
  .show b h.2 d a
def fu(h:(Dv.tup ds).small=O):∀d∈ds,d.small=O:=by simp only[Dv.small,χ]at h;show wR h.1
def lL(h:d.small=O):∀e∈Ep d,e.small=O:=by
 cases d with
 |tup ds=>show fu h
 |_=>intro e he;cases he
def qI:∀(ss:List So)(ds:List Dv),(∀d∈ds,d.small=O)->∀e∈bL ss ds,e.small=O
 |[],_,_,e,c=>by simp[bL]at c
 |_::_,[],_,e,c=>by simp[bL]at c
 |s::ss,d::ds,h,e,c=>by
  rcases Ν.mp (show e∈mT s d++bL ss ds from c)with b|b
  .cases s with
   |e=>rw[ο.mp b];show h d π
   |a=>show lL (h d π) e b
   |r=>show lL (h d π) e b
   |_=>cases b
  .show qI ss ds (λx f=>h x (ρ _ f)) e b
def uM(h:d.small=O):∀e∈eF d,e.small=O:=by
 match d,h with
 |.tup (.str w::ds),h=>show qI _ ds λx b=>fu h x (ρ _ b)
 |.tup [],_=>intro e a;cases a
 |.tup (.non::r),_=>intro e a;cases a
 |.tup (.bl _::r),_=>intro e a;cases a
 |.tup (.int _::r),_=>intro e a;cases a
 |.tup (.tup _::r),_=>intro e a;cases a
 |.tup (.lst _::r),_=>intro e a;cases a
 |.tup (.dct::r),_=>intro e a;cases a
 |.non,_=>intro e a;cases a
 |.bl _,_=>intro e a;cases a
 |.int _,_=>intro e a;cases a
 |.str _,_=>intro e a;cases a
 |.lst _,_=>intro e a;cases a
 |.dct,_=>intro e a;cases a
def vC(h:Kw d):(eF d).length<=4:=by ext(⟨p,ds,a,rfl,b⟩:h);rw[XB.parts_of a];show Ϫ (Hc b).2 (Hg p a)
section
variable{P:Ι}{w:ώ}{K:η}{mg:Str->Option ν}{base:ϙ}
def yc(F:Fun K "is_expression" "is_expression" qJ f fd)(T:Txt K mg)(c9:bf P w K mg base k "is_node" ["thing"] (jb gm))(c8:bf P w K mg base k "parts_of" ["node"] yJ):au P w K mg base bg (k+1) f fd ["thing"] uF:=by
 show F.okA (N:=["thing","count","waiting","found","node","above"]) λf9 A f7 s H vs Q E hr nd h=>?_;ext(⟨v,d,rfl,R,d7,q⟩:h);show{0,aS (aY 1 aE) (aS (aY 2 (dw (am (dh (ar (wv 0) (am aE)))))) (aS (Ng c_ (QA (wv 2) (λ_=>U)) (aS (aY 3 (Qs ϖ PySem.F.slot_list_pop PySem.F.type_list_pop Ds (wv 2))) (aS (aY 4 (bC 3)) (aS (aY 5 (bC 3)) (aS (QZ 1 nd U (z_ U) aE CD) (cP (lW (wD (bA gu (wv 1) {T.g_MOST_NODES U}) (wD (bA gu (wv 5) {T.g_MOST_ABOVE U}) (yb (pV (jZ (aQ c9 (aW 4)))))))) kb (fD (pM (eX ϖ N5 N6 qu (wv 2) (am (pY ["part"] [5] (AR (aQ c8 (aW 4))) (.of U) U (λ_ _ _=>{pg_name (i:=0) (bK (l:=["part","above"]) (()) U) U (z_ U)}) (bz ()) (λ_ _ _=>oW) (λ_ _ _=>(dh (ar (wv 0) (am (aP cQ (wv 1) aE)))))))))))))))) (bZ kb))),2};show{01,z2,λS d6=>{z1,λa hW=>?_}};let q0:=ac d6 (.tup [v,.int 0]);let q1:=ac hW (.lst [.ref S]);let r0:aj (upd H S (.tup [v,.int 0])) (OG (d,0)) (.ref S):=by unfold OG;rw[aj];show{S,01,aa,by simp only[Reps];show{001,R.mono q0,001,by simp only[aj];rfl,1}}
 show vg (λm σ H'=>∃(o3 o4 o5:Option V) (b:Nat) (X:List (Dv×Nat)) (vs:List V),σ=[Z v,Z (.int b),Z (.ref a),o3,o4,o5]/\af H (bY H' a)/\H' a=Z (.lst vs)/\Reps (bY H' a) (X.map OG) vs/\(∀p∈X,p.1.small=O/\p.2<=8)/\(b+ny X<=40↔dC 8 d<=40)/\m=40-b/\b<=40/\X.length<=1+4*b) 40
  {000,(0),[(d,0)],[.ref S],1,q0.trans (jv q1 hW),aa,be (r0.mono (jv q1 hW)),λp I=>by rw[ο.mp I];show{d7,ϋ _},by simp[ny],13,Α _} ?_ oX
 ext m σ B D1 u0 gD ⟨o3,o4,o5,b,X,vs,rfl,s1,w1,u4,sm,n,rfl,d1,lw⟩;show{010,.inl {vs,aD.of w1,1},2};by_cases ne:X=[]
 .subst ne;let e:vs=[]:=by simpa only[u9,Reps]using u4
  subst e;show aK ?_;let:=q B (s1.trans cX);rw[Z9 (n.mp (by simpa[ny]using d1))]at this;show this
 .ext(⟨w0,x,rfl⟩:Ar ne);rw[Κ]at u4;ext(⟨o,u,rfl,Ra,Ru⟩:km u4);let e:(!(o++[u]).isEmpty)=O:=();rw[e];show aH ?_;rw[ul]at n;let wx:ny [x]=dC (8-x.2) x.1:=by simp[ny]
  rw[wx]at n;rw[Ε,ϻ]at lw;ext(⟨a5,x8⟩:sm x ());show{01,.inl {10,aD.of w1},a,0011,w1,vp _ _,2};rw[RX];let L:af (bY B a) (bY (upd B a (.lst o)) a):=tU;let w2:upd B a (.lst o) a=Z (.lst o):=aa;let W:=s1.trans (L.trans cX);generalize upd B a (.lst o)=H2 at L w2 W⊢;ext(⟨t,us,rfl,ht,ru⟩:aj.tup_inv (Ru));ext(⟨y,z,rfl,Ry,Rz⟩:Reps.two ru);obtain rfl:z=.int x.2:=Rz;let a8:=cX _ _ (L _ _ ht);let xp:=zd (8-x.2) x.1;show{01,t,0,(0),y,11,aw.of a8,ad U,2};show{01,t,0,(1),.int x.2,11,aw.of a8,ad U,2};show{0100112};show{010011012};show ao (λh=>?_) (λh=>?_)
  .let h':(40:Int)<(b:Int)+1:=Z7 h;let:=q H2 W;rw[Z8 (λz=>by let:=n.mpr z;omega)]at this;show aH (u0 _ _ this)
  let h':b+1<=40:=by let z:=of_decide_eq_false (C3.mpr h);omega
  show{010011012};show ao (λu1=>?_) (λu1=>?_)
  .let d3:(7:Int)<(x.2:Int):=Z7 u1;let:=q H2 W;rw[Z8 (λz=>by let:=n.mpr z;rw[show 8-x.2=0 by omega]at this;let d4:dC 0 x.1=99:=U;omega)]at this;show aH (u0 _ _ this)
  let d3:x.2<=7:=by let z:=of_decide_eq_false (C3.mpr u1);omega
  obtain⟨j,hj⟩:∃j,8-x.2=j+1:={7-x.2,3};show{01,y,x.1,1,Ry.mono (L.trans cX),a5,λH3 u2=>{012}};let d8:=W.trans u2;cases c:gm x.1 with
  |false=>
   let:=q H3 d8;rw[Z8 (λz=>by
    let:=n.mpr z;let d4:dC (8-x.2) x.1=99:=by rw[hj];unfold dC;rw[c];rfl
    omega)]at this
   show aH (u0 _ _ this)
  |true=>
   show aK ?_;let G:=u2 _ _ w2;let t3:=L.trans (cT u2);let f8:H3 a≠Β:=by rw[G];show nofun
   let nn:=BH c;let p4:=vC nn;let d0:dC (8-x.2) x.1=1+((eF x.1).map (dC j)).sum:=by rw[hj];change(if gm x.1=O then _ else _)=_;rw[c];rfl
   show fc {01,.inl {10,aD.of G},01,y,x.1,bY H3 a,1,cX,Ry.mono t3,nn,λH4 l ks M hl h4 R4=>{l,1,{0,aD.of h4},fK (λi ys H'=>af H4 H'/\Reps (bY H' a) (((eF x.1).take i).map λe=>OG (e,x.2+1)) ys) {af.refl _,by simp[Reps]} (λi ys H' _ p=>aD.of (p.1 _ _ h4)) ?_ ?_}}
   .ext i ys C pv d5 ⟨g,D⟩;ext(⟨e,u3,Re⟩:R4.get d5);let hi:=(Υ.mp u3).1;show bt {01010011,z2,λp I=>{2,g.trans (ac I _),2}}
    .rw[D.length,ε,Φ,ι];omega
    .let a7:C a≠Β:=by rw[g _ _ (M _ _ G)];show nofun
     ext(⟨e1,e2⟩:Bz a7 I);rw[Ϥ,u3,Κ];show Reps.append (D.mono e2) ?_;show be (show aj _ (.tup [e,.int ((x.2+1:Nat):Int)]) (.ref p)from ?_);rw[aj];show{p,01,e1,2};simp only[Reps];show{001,(Re.mono (cT (M.trans g))).mono e2,001,by simp only[aj];rfl,1}
   .ext ys C ⟨g,D⟩ r d2;let q6:=ac d2 (.lst ys);let lk:=R4.length;rw[lk,ϧ]at D;let d9:=D.length;rw[ε]at d9;let w5:=q6 _ _ (g _ _ (M _ _ G));let lv:=Ra.length;rw[ε]at lv;show{a,r,0011,w5,aa,32};let a7:C a≠Β:=by rw[g _ _ (M _ _ G)];show nofun
    let t6:af (bY C a) (bY (upd (upd C r (.lst ys)) a (.lst (o++ys))) a):=(cT q6).trans tU;let a6:=t3.trans ((cT (M.trans g)).trans t6);show gD (40-(b+1)) _ _ () {000,b+1,w0++(eF x.1).map λe=>(e,x.2+1),o++ys,1,s1.trans a6,aa,2221,h',2}
    .rw[Κ];show Reps.append (Ra.mono a6) ?_;rw[Ϙ];show D.mono t6
    .intro p I;rcases Ν.mp I with h1|h1
     .show sm p (r6 _ h1)
     .ext(⟨e,u3,rfl⟩:Ρ.mp h1);show{uM a5 e u3,3}
    .rw[<-n,ul,d0];let e7:ny ((eF x.1).map λe=>(e,x.2+1))=((eF x.1).map (dC j)).sum:=by unfold ny;rw[Ϙ];congr 1;show C7 λe _=>?_;change dC (8-(x.2+1)) e=dC j e;rw[show 8-(x.2+1)=j by omega]
     rw[e7];constructor<;>intro z<;>omega
    .rw[Ε,ε];omega
end
def MI:bJ (.tup [.str x])=if x="whole" then 1 else 99:=by
 by_cases h:x="whole"
 .rw[Z5 h,size_eq,Z5 (show dz (.tup [.str x])=O from Z9 h)];change 1+((dR x []).map bJ).sum=1;rw[h];unfold dR;rw[Z6 w2,Z6 w3];rfl
 .rw[Z6 h];show iO (Z8 h)
def Op:bJ (.tup [.str x,l])=if x="place"/\jr l=O then 1 else 99:=by
 by_cases h:x="place"/\jr l=O
 .rw[Z5 h,size_eq,Z5 (show dz (.tup [.str x,l])=O by change(decide (x="place")&&jr l)=O;rw[Z9 h.1,h.2];rfl)];change 1+((dR x [l]).map bJ).sum=1;rw[h.1];unfold dR;rw[Z6 w4,Z6 w5];rfl
 .rw[Z6 h];show iO (C3.mpr λz=>h (by let z:(decide (x="place")&&jr l)=O:=z;rw[χ,decide_eq_true_eq]at z;show z))
def Io:bJ (.tup [.str x,a,b])=if x="pair" then 1+bJ a+bJ b else if x="row"/\jr a=O then 1+bJ b else 99:=by
 rw[size_eq];change(if ((decide (x="row")&&jr a)||decide (x="pair"))=O then 1+((dR x [a,b]).map bJ).sum else 99)=_;by_cases h:x="pair"
 .subst h;rw[Z5 (),Z5 U];unfold dR;rw[Z6 (ϝ w6),Z5 U];simp[Nat.add_assoc]
 rw[Z6 h,Z8 h,Tb];by_cases g:x="row"/\jr a=O
 .rw[Z5 (by rw[Z9 g.1,g.2];rfl),Z5 g];unfold dR;rw[Z5 g.1];simp
 .rw[Z6 (λz=>g (by rw[χ,decide_eq_true_eq]at z;show z)),Z6 g]
def SL(c:Int)(ps:List Pr):Prop:=jr (db c ps)=O/\(db c ps).small=O
def vE:∀{ps:List Pr}{l:Str},ps.Pairwise (λp q=>p.1.cps.toList<q.1.cps.toList)->(∀p∈ps,1<=p.2)->(∀p∈ps,bT p.1=O)->(∀p∈ps,l.cps.toList<p.1.cps.toList)->qE l (bi ps)=O
 |[],_,_,_,_,_=>rfl
 |p::ps,l,h1,h2,h3,h4=>by let e:bi (p::ps)=.tup [.str p.1,.int p.2]::bi ps:=U;rw[e,qE];let b:=List.pairwise_cons.mp h1;change(im _&&(decide (l.cps.toList<p.1.cps.toList)&&qE p.1 (bi ps)))=O;rw[vE b.2 (λq a=>h2 q (ρ _ a)) (λq a=>h3 q (ρ _ a)) (λq a=>b.1 q a)];change((bT p.1&&(O&&decide (1<=p.2)))&&(decide (l.cps.toList<p.1.cps.toList)&&O))=O;rw[h3 p π,Z9 (h2 p π),Z9 (h4 p π)];rfl
def jD:∀{ps:List Pr},(∀p∈ps,p.1.cps.size<=8)->smalls (bi ps)=O
 |[],_=>rfl
 |p::ps,h=>by simp only[bi,ϊ,smalls,Dv.small,χ,decide_eq_true_eq];show{{{by let:=h p π;omega,trivial,trivial},3},jD λq a=>h q (ρ _ a)}
def aV(h:bT x=O):1<=x.cps.size/\x.cps.size<=8:=by unfold bT at h;simp only[χ,decide_eq_true_eq]at h;show h.1
def ER(h:bT x=O):(Y "").cps.toList<x.cps.toList:=by
 let:=(aV h).1;let e:(Y "").cps.toList=[]:=();rw[e];cases a:x.cps.toList with
 |nil=>have:x.cps.toList.length=x.cps.size:=();rw[a]at this;simp at this;omega
 |cons c b=>show List.nil_lt_cons c b
def JQ(g:0<=c)(j:c<=99)(e:vJ ps)(k:ps.length<=4900)(b:∀p∈ps,bT p.1=O/\p.2<=99):SL c ps:=by
 constructor
 .change((O&&(decide (0<=c)&&qE "" (bi ps)))&&(decide (c<=99)&&(bi ps).all λp=>decide (gb p<=99)))=O;rw[vE e.1 e.2 (λp a=>(b p a).1) (λp a=>ER (b p a).1),Z9 g,Z9 j];rw[show((bi ps).all λp=>decide (gb p<=99))=O by rw[Ϸ];intro d i;ext(⟨p,a,rfl⟩:Ρ.mp i);show Z9 (b p a).2];rfl
 .let h:=λp a=>(aV (b p a).1).2;let f:(Dv.tup (bi ps)).small=O:=by simp only[Dv.small,(jD h),ϵ];show Z9 (by rw[show(bi ps).length=ps.length from ε _];omega)
  change(Dv.tup [.int c,.tup (bi ps)]).small=O;simp only[Dv.small,smalls]at f⊢;simp only[f,ϵ,J9];rfl
def bb(h:∀d∈ds,d.small=O)(c:ds.length<=5000):(Dv.tup ds).small=O:=by
 let:∀ds:List Dv,(∀d∈ds,d.small=O)->smalls ds=O:=by
  intro ds;induction ds with
  |nil=>intro _;rfl
  |cons d ds a=>intro h;simp only[smalls,χ];show{h d π,a λe b=>h e (ρ _ b)}
 simp only[Dv.small,this ds h,ϵ];show Z9 c
def hF:∀{k:Kd},k.All SL->k.dv.small=O
 |.whole,_=>by decide +kernel
 |.place c ps,h=>bb (λd a=>by
   rcases ξ.mp a with rfl|a
   .decide +kernel
   .rw[ο.mp a];show h.2) (by change 2<=5000;decide)
 |.row c ps k,h=>bb (λd a=>by
   rcases ξ.mp a with rfl|a
   .decide +kernel
   .rcases ξ.mp a with rfl|a
    .show h.1.2
    .rw[ο.mp a];show hF h.2) (by change 3<=5000;decide)
 |.pair i j,h=>bb (λd a=>by
   rcases ξ.mp a with rfl|a
   .decide +kernel
   .rcases ξ.mp a with rfl|a
    .show hF h.1
    .rw[ο.mp a];show hF h.2) (by change 3<=5000;decide)
def iG:∀{k:Kd},k.All SL->bJ k.dv=k.size
 |.whole,_=>by change bJ (.tup [.str "whole"])=1;rw[MI,Z5 U]
 |.place c ps,h=>by change bJ (.tup [.str "place",db c ps])=1;rw[Op,Z5 {1,h.1}]
 |.row c ps k,h=>by change bJ (.tup [.str "row",db c ps,k.dv])=k.size+1;rw[Io,Z6 w6,Z5 {1,h.1.1},iG h.2];omega
 |.pair i j,h=>by change bJ (.tup [.str "pair",i.dv,j.dv])=i.size+j.size+1;rw[Io,Z5 U,iG h.1,iG h.2];omega
def mJ{l:List Nat}{x:Nat}(h:x∈l):x<=l.sum:=by
 induction l with
 |nil=>cases h
 |cons y l a=>
  rw[A0];rcases ξ.mp h with rfl|h
  .omega
  .let:=a h;omega
abbrev CU:ϸ:=top 79
abbrev Ad:ϸ:=top 80
abbrev Ak:ϸ:=top 81
def gH(H:Hp)(a:υ):Prop:=∃(n:Int) (b:Bool),H a=Z (.lst [.int n,.bl b])
def gH.b{H H':Hp}{a b:υ}(h:gH H a)(s:ap b H H')(n:a≠b):gH H' a:=let ⟨i,c,e⟩:=h;{i,c,s _ _ n e}
def gH.m(h:gH H a)(s:af H H'):gH H' a:=let ⟨i,c,e⟩:=h;{i,c,s _ _ e}
def gH.tups(h:gH H a)(s:ap a H H'):pR H H':=let ⟨_,_,e⟩:=h;s.tups e
inductive dW (vs:List V) (H:Hp) (Q:VK) (u3_:XK):Prop|mk (a:υ) (m:Int) (_:vs=[.ref a,.int m]) (_:gH H a) (_:0<m) (_:m<10^40) (_:∀(H':Hp)(x:Int),ap a H H'->gH H' a->0<=x->x<m->Q (.int x) H')
inductive mL (K:η) (vs:List V) (H:Hp) (Q:VK) (u3_:XK):Prop|mk (s:υ) (ns:List Int) (k:Int) (_:vs=[.ref s,.int k]) (_:aD K H s (ns.map V.int)) (_:0<=k) (_:∀(H':Hp)(a:υ),af H H'->H a=Β->gH H' a->Q (.ref a) H')
def JK(c:Nat):Bool:=Cb c && !([97,101,105,111,117].contains c)
def Az(x:Str)(n:Nat):Prop:=x.cps.toList.length=n/\∀c∈x.cps.toList,JK c=O
def Az.len(h:Az x n):x.length=n:=by let e:x.cps.toList.length=x.length:=Θ;rw[<-e];show h.1
def xt(h:Az x n)(g:Az y m):Az (x++y) (n+m):=by
 let e:=Si x y;show{by rw[e,Ε,h.1,g.1],λc a=>?_};rw[e]at a;rcases Ν.mp a with a|a
 .show h.2 c a
 .show g.2 c a
def rZ(h:JK c=O):Az {#[c]} 1:={1,λd a=>by
 let e:d=c:=↑a
 rw[e];show h}
def DW:Az u6 0:={1,λd a=>by cases a}
def Hk{x:Str}{n:Nat}{i:Int}(h:Az x n)(f:0<=i)(d:i<=n):Az (Txt.slice x (Z i) Β) (n-i.toNat):=by
 let e:=M0 f (by rw[h.len];show d) U;rw[e];show{2,λc b=>?_}
 .change((x.cps.toList.drop i.toNat).take ((x.length:Int)-i).toNat).toArray.toList.length=_;simp only[Φ,Ϯ,h.1,h.len];omega
 .let a:c∈(x.cps.toList.drop i.toNat).take ((x.length:Int)-i).toNat:=↑b
  show h.2 c (F9 (m9 a))
def MM{x:Str}{n:Nat}{i:Int}(h:Az x n)(f:0<=i)(d:i<=n):Az (Txt.slice x Β (Z i)) i.toNat:=by
 let e:=eq_of_beq (PyProof.Rows.slice_closes_toL f (by rw[h.len];show d));rw[e];show{2,λc b=>?_}
 .change((x.cps.toList.drop (0:Int).toNat).take (i-0).toNat).toArray.toList.length=_;simp only[Φ,Ϯ,h.1];let:(0:Int).toNat=0:=U;omega
 .let a:c∈(x.cps.toList.drop (0:Int).toNat).take (i-0).toNat:=↑b
  show h.2 c (F9 (m9 a))
def MO(h:Az x n)(b:1<=n)(d:n<=8):bT x=O:=by
 unfold bT;let e:x.cps.size=n:=by let:=h.1;simpa using this
 rw[e,Z9 b,Z9 d,Bool.and_self,ϵ];show Ϸ.mpr λc a=>(χ _ _▸h.2 c a:Cb c=O/\_).1
def Cn(x:Str):Prop:=bT x=O/\∀c∈x.cps.toList,JK c=O
def HL(z:Int)(n:Nat)(a:List Str):Prop:=∀(j:Nat)(u:Str),a[j]?=Z u->∃c,kq (Y "bcdfghjklmnpqrstvwxyz").cps.toList ((z+5*(j:Int))%21)=Z c/\u.cps.toList[n]?=Z c
def HL.nil:HL z n []:=λj u h=>by simp at h
def HL.snoc(h:HL z n ws)(b:kq (Y "bcdfghjklmnpqrstvwxyz").cps.toList ((z+5*(ws.length:Int))%21)=Z c)(d:x.cps.toList.length=n):HL z n (ws++[x++{#[c]}++y]):=λj u e=>by
 by_cases f:j<ws.length
 .rw[e_ f]at e;show h j u e
 .rw[i6 ()]at e;let a:j=ws.length:=by let:=(Υ.mp e).1;rw[ϻ]at this;omega
  subst a;rw[Sq]at e;cases e;show{c,b,2};rw[Si,Si,Γ,i6 (),d,Sq];rfl
def ID:∀a:Nat,a<21->∀b:Nat,b<21->(Y "bcdfghjklmnpqrstvwxyz").cps.toList[a]?=(Y "bcdfghjklmnpqrstvwxyz").cps.toList[b]?->a=b:=()
def HL.nodup(h:HL z n ws)(s:ws.length<=21):ws.Nodup:=by
 rw[List.Nodup,SX];intro i j g m r e;ext(⟨c,p,f⟩:h i _ (Ζ g));ext(⟨d,q,l⟩:h j _ (Ζ m));rw[e,l]at f;cases f;let k:∀a:Int,0<=a->∀v,kq (Y "bcdfghjklmnpqrstvwxyz").cps.toList a=Z v->(Y "bcdfghjklmnpqrstvwxyz").cps.toList[a.toNat]?=Z v:=λa o v b=>by
  unfold kq CQ at b;rw[Z5 o]at b;split at b
  .show b
  .cases b
 let:=ID ((z+5*(i:Int))%21).toNat () ((z+5*(j:Int))%21).toNat () (by rw[(k _ () _ p),(k _ () _ q)]);omega
inductive rW (vs:List V) (H:Hp) (Q:VK) (u3_:XK):Prop|mk (a:υ) (m:Nat) (_:vs=[.ref a,.int m]) (_:gH H a) (_:m<=10) (_:∀(H':Hp)(r:υ)(xs:List Str),ap a H H'->gH H' a->H r=Β->H' r=Z (.lst (xs.map V.str))->xs.length=m->(∀x∈xs,Cn x)->xs.Nodup->Q (.ref r) H')
def Dc:∀j,j<21->∃c,(Y "bcdfghjklmnpqrstvwxyz").cps.toList[j]?=Z c/\JK c=O:=by let h:∀j,j<21->(((Y "bcdfghjklmnpqrstvwxyz").cps.toList[j]?).map JK)=Z O:=();intro j d;ext(⟨c,b,a⟩:ϫ.mp (h j d));show{c,b,a}
def zY(b:0<=i)(a:i<21):∃c,kq (Y "bcdfghjklmnpqrstvwxyz").cps.toList i=Z c/\JK c=O:=by ext(⟨c,e,h⟩:Dc i.toNat ());let q:=ad e;rw[show((i.toNat:Nat):Int)=i by omega]at q;show{c,q,h}
section
variable{P:Ι}{w:ώ}{K:η}{mg:Str->Option ν}{base:ϙ}
def Ik(F:Fun K "_law_draw" "_law_draw" CU f fd)(T:Txt K mg):au P w K mg base bg 1 f fd ["_law_state_here","_law_many"] dW:=by
 show F.okA (N:=["_law_state_here","_law_many","_law_found"]) λg A e s H vs Q E j i h=>?_;ext(⟨a,m,rfl,⟨n,b,d⟩,c,k,q⟩:h);show{0,kY (jZ (eT aG (wv 0) aE)) (aS (aY 2 (aP kO (eT aG (wv 0) aE) (wv 1))) (aS (Cd (aP vx (eT aG (wv 0) aE) (wv 1)) (MJ (wv 0) aE iz)) (bZ (wv 2)))) (aS (Cd (aP kO (aP cQ (aP kL (eT aG (wv 0) aE) aE) aE) aE) (MJ (wv 0) aE iz)) (bZ (aP kO (aP kO (aP kL (aP vx (aP kO (aP kL (eT aG (wv 0) aE) aE) aE) aE) aE) aE) (wv 1)))),2};show{01,a,0,(1),.bl b,11,aD.of d,ad U,012};cases b with
 |true=>show aH {01,a,0,(0),.int n,11,aD.of d,ad U,010011,c,2};show{01,a,0,(0),.int n,11,aD.of d,ad U,010011,{c,3},01,a,0,(0),(0),11,d,1,{01,q _ _ (ap.upd _ _ _) {00,aa} (mW m c).1 (mW m c).2}}
 |false=>show aK {01,a,0,(0),.int n,11,aD.of d,ad U,0011,.inr {33},00110011301,a,0,(0),(0),11,d,12};show{01,a,0,(0),011,aD.of aa,ad U,0011,.inr {33},001130011,{33},0011,.inr {33},00113010011,c,q _ _ (ap.upd _ _ _) {00,aa} (mW m c).1 (mW m c).2}
def Em(F:Fun K "_law_state" "_law_state" Ad f fd)(T:Txt K mg):au P w K mg base bg 1 f fd ["_law_script","_law_k"] (mL K):=by
 show F.okA (N:=["_law_script","_law_k","_law_cell"]) λn A m s H vs Q E r o h=>?_;ext(⟨a,p,k,rfl,i,k0,q⟩:h);let e:JX 10 15:={333};show{0,aS (aY 2 aE) (kY (bA iZ (wv 1) (cV aq T.len (aW 0))) (fD (aY 2 (eT aG (wv 0) (wv 1)))) (cP (bA iZ (wv 2) (aP wF aE aE)) (dw (ar (aP cQ (aP cQ (wv 2) (aP kL aE (wv 1))) aE) (am kb))) (bZ (dw (ar (wv 2) (am kb)))))),2};show{0101,a,01,.inl i,001101,ao (λc=>?_) (λc=>?_)}
 .let g:=Z7 c;rw[ε]at g;ext(⟨v,j⟩:HK k0 g);show{0101,a,00011,i,j,{010011,e,001101,ao (λd=>?_) (λd=>?_)}}
  .show{01010011,.inl {33},00110011,z2,λl b=>q _ l (ac b _) b {00,aa}}
  .show{01,z2,λl b=>q _ l (ac b _) b {00,aa}}
 .show{010011,e,001101,ao (λd=>?_) (λd=>?_)}
  .show{01010011,.inl {33},00110011,z2,λl b=>q _ l (ac b _) b {00,aa}}
  .show{01,z2,λl b=>q _ l (ac b _) b {00,aa}}
def DH{f:υ}{fd:ϣ}{k:Nat}(F:Fun K "_law_names" "_law_names" Ak f fd)(T:Txt K mg)(t:bf P w K mg base k "_law_draw" ["_law_state_here","_law_many"] dW):au P w K mg base bg (k+1) f fd ["_law_state_here","_law_many"] rW:=by
 show F.okA (N:=["_law_state_here","_law_many","_law_letters","_law_stem","_law_k","_law_at","_law_turn"]) λc0 A b9 s H vs Q E hr nd h=>?_;ext(⟨a,m,rfl,h2,c1,q⟩:h);show{0,aS (aY 2 az) (aS (aY 3 az) (aS (Dr c_ U (Me T.range (am (aQ t (ar (wv 0) (am aE))))) (js 4) (fD (aY 3 (aP ae (wv 3) (eT rK (wv 2) (aQ t (ar (wv 0) (am aE)))))))) (aS (aY 5 (aQ t (ar (wv 0) (am (aP cQ (cV bV T.len (aW 3)) aE))))) (aS (aY 6 (aQ t (ar (wv 0) (am aE)))) (bZ (pY ["_law_k"] ([2,3,5,6]) (Me T.range (aW 1)) (.of U) U (λ_ _ _=>{pg_name (i:=0) (bK (l:=["_law_k","_law_letters","_law_stem","_law_at","_law_turn"]) (()) U) U (z_ U)}) (bz ()) (λ_ _ _=>oW) (λ_ _ _=>(aP ae (aP ae (lJ gy (wv 2) mr (kh (wv 3))) (eT rK (wv 1) (aP kO (aP cQ (wv 4) (aP kL aE (wv 0))) aE))) (lJ gy (wv 2) (kh (wv 3)) mr))))))))),2};let a0:(Y "bcdfghjklmnpqrstvwxyz").length<=Λ:=by rw[ι];decide +kernel
 show{01,a,(8),1,h2,33,λH1 x s1 a8 x0 x8=>{x,133,qy (λi σ H'=>∃(d:Str) (S:Option V),σ=[Z (.ref a),Z (.int m),Z (.str "bcdfghjklmnpqrstvwxyz"),Z (.str d),S,Β,Β]/\ap a H H'/\gH H' a/\Az d i) {001,s1,a8,DW} ?T1 ?_}}
 case T1=>
  ext i σ H2 hi ⟨d,S,rfl,u3,I,g⟩;show{010101,a,(21),1,I,33,λH3 y L C X G=>?_};ext(⟨ch,u,hz⟩:zY X G);show{00,ch,11,a0,u,001122}
  .rw[g.len,(rZ hz).len,ι];omega
  .show{001,u3.trans L,C,xt g (rZ hz)}
 ext σ H2 ⟨d,S,rfl,u3,I,g⟩;let W:=g.len;let M:d.length<=Λ:=by rw[W,ι];omega
 show{010101,M,0011,a,01,I,3,by rw[W];omega,λH3 y L C X G=>{01,a,(21),1,C,33,λH4 z s4 u2 z0 z1=>?_}};let u1:y<=x.toNat:=by rw[W]at G;omega
 let zf:=Hk g X u1;let B:=MM g X u1;show{010133,vd (λi ys H'=>H'=H4/\∃c:List Str,ys=c.map V.str/\c.length=i/\(∀z∈c,Cn z)/\HL z y.toNat c) {1,[],113,HL.nil} ?_ ?_}
 .ext i ys H5 hi ⟨rfl,c,rfl,p,R,D⟩;ext(⟨b0,b1⟩:mW 21 ());ext(⟨ch,u,u4⟩:zY b0 b1);let e1:=xt B (rZ u4);let v:=xt e1 zf;show bt {01010101,M,0101010011,.inl {33},00110011300,ch,11,a0,u,0011201010101,M,0011221,c++[Txt.slice d Β (Z y)++{#[ch]}++Txt.slice d (Z y) Β],3,by simp[p],λw a7=>?_,D.snoc (by rw[p,<-Int.zero_add (i:Int)];show u) B.1}
  .rw[B.len,(rZ u4).len,ι];omega
  .rw[e1.len,zf.len,ι];omega
  .rw[ε,ι];omega
  .rcases Ν.mp a7 with h|h
   .show R w h
   .rw[ο.mp h];show{MO v () (),v.2}
 ext ys H5 ⟨rfl,c,rfl,p,R,D⟩ r j;let u0:=u3.trans (L.trans s4);let a6:r≠a:=λe=>by ext(⟨n,b,v⟩:u2);rw[e,v]at j;cases j
 let a5:H r=Β:=by
  cases e:H r with
  |none=>rfl
  |some o=>have:=u0 r o a6 e;rw[j]at this;cases this
 show q _ r c (u0.trans (af.b a (ac j _))) (u2.m (ac j _)) a5 aa (by rw[p];omega) R (D.nodup (by rw[p];omega))
end
abbrev vy:ϸ:=top 82
structure Ln(xs:List Str)(most:Int)(c:Int)(ps:List Pr):Prop where
 c0:0<=c
 cB:c<=most
 can:vJ ps
 nm:∀p∈ps,p.1∈xs/\p.2<=most
 len:ps.length<=10
inductive on (vs:List V) (H:Hp) (Q:VK) (u3_:XK):Prop|mk (a b:υ) (m:Int) (xs:List Str) (_:vs=[.ref a,.ref b,.int m]) (_:gH H a) (_:H b=Z (.lst (xs.map V.str))) (_:b≠a) (_:xs.length<=10) (_:2<=m) (_:m<10^39) (_:∀(H':Hp)(v:V)(c:Int)(ps:List Pr),ap a H H'->gH H' a->aj H' (db c ps) v->Ln xs m c ps->Q v H')
def Mz(b:0<=i)(a:i<4):∃n:Int,kq ([V.int 0,V.int 0,V.int 1,V.int 2]:List V) i=Z (.int n)/\0<=n/\n<=2:=by
 let e:i=0\/i=1\/i=2\/i=3:=();rcases e with rfl|rfl|rfl|rfl
 .show{(0),ad U,3}
 .show{(0),ad U,3}
 .show{(1),ad U,3}
 .show{(2),ad U,3}
def z4:4<=Λ:=by rw[ι];decide
section
variable{P:Ι}{w:ώ}{K:η}{mg:Str->Option ν}{base:ϙ}
def AG(F:Fun K "_law_length" "_law_length" vy f fd)(T:Txt K mg)(a8:bf P w K mg base k "_law_draw" ["_law_state_here","_law_many"] dW):au P w K mg base bg (k+1) f fd ["_law_state_here","_law_names_here","_law_most"] on:=by
 show F.okA (N:=["_law_state_here","_law_names_here","_law_most","_law_counts","_law_name","_law_way","_law_count"]) λg4 A g3 s H vs Q E hr nd h=>?_;ext(⟨a,b,m,xs,rfl,st,hb,d3,lx,m2,mB,q⟩:h);let hu:=Nx hr;show{0,aS (aY 3 QB) (aS (Dr c_ U (AR (wv 1)) (js 4) (aS (aY 5 (aQ a8 (ar (wv 0) (am aE)))) (kY (bA gu (wv 5) aE) (fD (QU hu (wv 3) (wv 4) aE U)) (fD (Hd (bA aA (wv 5) aE) (fD (QU hu (wv 3) (wv 4) (aP cQ aE (aQ a8 (ar (wv 0) (aW 2)))) U)) JB))))) (aS (aY 6 (eT aG (dw (ar aE (ar aE (ar aE (am aE))))) (aQ a8 (ar (wv 0) (am aE))))) (kY (bA aA (wv 6) aE) (fD (aY 6 (aQ a8 (ar (wv 0) (am (aP cQ (wv 2) aE)))))) (bZ (dh (ar (wv 6) (am (ka aF T.tuple (am (cV (sU U) T.sorted (am (Qs PySem.F.plainAttrs_dict PySem.F.slot_dict_items PySem.F.type_dict_items EE (wv 3))))))))))))),2};intro d hd;let s0:ap a H (upd H d (.dK [])):=af.b a (ac hd _);let u0:d≠a:=λe=>by ext(⟨n,c,e2⟩:st);rw[e,e2]at hd;cases hd
 show{01,b,1,{0,aD.of (s0 _ _ d3 hb)},wB (λi σ H'=>∃(X:List Pr) (o1 o2:Option V),σ=[Z (.ref a),Z (.ref b),Z (.int m),Z (.ref d),o1,o2,Β]/\ap a H H'/\gH H' a/\H' d=Z (.dK (dk X))/\(X.map (·.1)).Nodup/\X.length<=i/\∀p∈X,p.1∈xs/\1<=p.2/\p.2<=m)
  {[],001,s0,st.m (ac hd _),aa,333} (λi σ H' _ ⟨_,_,_,_,u4,_⟩=>aD.of (u4 _ _ d3 hb)) ?T1 ?_}
 case T1=>
  ext i x σ H1 hx ⟨X,o1,o2,rfl,u4,a9,d1,b3,lk,u3⟩;rw[ϑ]at hx;ext(⟨y,hy,rfl⟩:ϫ.mp hx);let hi:=(Υ.mp hy).1;show{01,a,(4),1,a9,33,λH2 z W u1 z0 z4=>?_};let d2:=W _ _ u0 d1;let c8:∀(j:Hp)(u:List Pr)(n:Int),(u.map (·.1)).Nodup->u.length<=i+1->(u.length<=i\/y∈u.map (·.1))->(∀p∈u,p.1∈xs/\1<=p.2/\p.2<=m)->ap a H j->gH j a->j d=Z (.dK (dk u))->1<=n->n<=m ->
    (ap a H (upd j d (.dK (ie (dk u) (f_ y) (.int n))))/\gH (upd j d (.dK (ie (dk u) (f_ y) (.int n)))) a/\upd j d (.dK (ie (dk u) (f_ y) (.int n))) d=Z (.dK (dk (gY u y n)))/\((gY u y n).map (·.1)).Nodup/\(gY u y n).length<=i+1/\y∈(gY u y n).map (·.1)/\∀p∈gY u y n,p.1∈xs/\1<=p.2/\p.2<=m):=λj u n e9 lv or B C G I n1 nm=>by
   show{λg o hg e=>?_,G.b (ap.upd _ _ _) (ϝ u0),by rw[aa,LI],BB e9,22,DF B {(ό hy),n1,nm}}
   .rw[ai (ah e hd)];show C g o hg e
   .rcases or with h|h
    .show Ϫ (Eb _ _ _) ()
    .let:=congrArg y6 (qO (n:=n) h);rw[ε,ε]at this;omega
   .by_cases h:y∈u.map (·.1)
    .rw[qO h];show h
    .rw[FF h,Κ];show Ν.mpr (.inr ())
  let d0:∀u:List Pr,u.length<=i+1->(dk u).length<Λ:=λu h=>by rw[show(dk u).length=u.length from ε _,ι];omega
  show{01001101,ao (λh1=>?_) (λh1=>?_)}
  .show{0101,d,01,AQ.k (k:=f_ y) d2 (d0 _ ()),2};ext(⟨C,G,I,b5,l3,i3,a3⟩:c8 H2 X 1 b3 () (.inl lk) u3 (u4.trans W) u1 d2 () ());generalize upd H2 d (.dK (ie (dk X) (f_ y) (.int 1)))=j at C G I⊢;generalize gY X y 1=u at I b5 l3 i3 a3;show{01101,ao (λh3=>?_) (λh3=>{u,001,C,G,I,b5,l3,a3})};show{0101,a,m,1,G,33,λD n M e5 n0 n1=>{00110101,d,01,AQ.k (k:=f_ y) (M _ _ u0 I) (d0 _ l3),2}};ext(⟨s5,f0,d5,e6,l5,i5,a5⟩:c8 D u (1+n) b5 l3 (.inr i3) a3 (C.trans M) e5 (M _ _ u0 I) () ());show{0001,s5,f0,d5,e6,l5,a5}
  .show{01101,ao (λh3=>?_) (λh3=>{X,001,u4.trans W,u1,d2,b3,3,u3})};show absurd (RL h3) (λe=>h1 (Z9 ()))
 ext σ H1 ⟨X,o1,o2,rfl,u4,a9,d1,b3,lk,u3⟩;rw[ε]at lk;show{z4,λl hl=>?_};let q1:=ac hl (.lst [V.int 0,.int 0,.int 1,.int 2]);show{01,a,(4),1,a9.m q1,33,λH2 z W u1 z0 e4=>?_};let la:l≠a:=λe=>by ext(⟨n,c,e2⟩:a9);rw[e,e2]at hl;cases hl
 ext(⟨n,hn,n0,n2⟩:Mz z0 e4);show{l,00,.int n,11,aD.of (W _ _ la aa),hn,2};let d2:=W _ _ u0 (q1 _ _ d1);let c9:=u4.trans ((af.b a q1).trans W);let e7:∀(j:Hp)(c:Int),ap a H j->gH j a->j d=Z (.dK (dk X))->0<=c->c<=m->∀(D:Hp)(w:V)(ps:List Pr),af j D->aj D (.tup (bi ps)) w->ps.Perm X->vJ ps->2<=Λ/\∀p,D p=Β->Q (.ref p) (upd D p (.tup [.int c,w])):=λj c C G _ c0 cB D w ps M R S b4=>{z2,λp hp=>by let s5:=ac hp (.tup [.int c,w]);show q _ _ c ps (C.trans (af.b a (M.trans s5))) (G.m (M.trans s5)) (EK aa (R.mono s5)) {c0,cB,b4,λx hx=>{(u3 x (S.mem_iff.mp hx)).1,(u3 x (S.mem_iff.mp hx)).2.2},by rw[S.length_eq];omega}};let c5:∀(j:Hp)(c:Int),ap a H j->gH j a->j d=Z (.dK (dk X))->0<=c->c<=m->∀v,j v=Β->∀(D:Hp)(l:υ)(L:List TK),af (upd j v (uZ v d)) D->(∀r∈L,D r.1=Z (.tup (.str r.2.1::r.2.2))/\upd j v (uZ v d) r.1=Β)->D l=Z (.lst (L.map λr=>V.ref r.1))->(L.map (·.2)).Perm ((X.map λp=>(p.1,V.int p.2)).map λp=>(p.1,[p.2]))->L.Pairwise GX ->
   ∀t,D t=Β->2<=Λ/\∀p,upd D t (.tup (L.map λr=>V.ref r.1)) p=Β->Q (.ref p) (upd (upd D t (.tup (L.map λr=>V.ref r.1))) p (.tup [.int c,.ref t])):=λj c C G I c0 cB v B D l L M hq hl S pw t u2=>by
  obtain⟨e3,b4,e8⟩:=ww hq S pw λp hp=>(u3 p hp).2.1;show e7 j c C G I c0 cB _ _ _ ((ac B _).trans (M.trans (ac u2 _))) (e8 t u2) e3 b4
 let c6:∀(j:Hp)(v:υ),j d=Z (.dK (dk X))->j v=Β->upd j v (uZ v d) d=Z (.dK ((X.map λp=>(p.1,V.int p.2)).map λp=>((f_ p.1:en),p.2))):=λj v I B=>by rw[ai (ah I B),I,Ϙ];rfl
 let c7:(X.map λp=>(p.1,V.int p.2)).length<64:=by rw[ε];omega
 show{01101,ao (λh2=>?_) (λh2=>?_)}
 .show{01010011,a,01,u1,33,λj x C G x0 x1=>?_};let I:=C _ _ u0 d2;show{0101,.inr (.inr (.inl {1,.inl {0,I}})),d,011,I,λv B=>{v,d,X.map λp=>(p.1,V.int p.2),1,aa,c6 j v I B,c7,λD l4 L M _ hq a0 S pw=>{l4,01,.inl {aD.of a0,λt u2=>?_}}}};show c5 j x (c9.trans C) G I x0 () v B D l4 L M hq a0 S pw t u2
 .show{0101,.inr (.inr (.inl {1,.inl {0,d2}})),d,011,d2,λv B=>{v,d,X.map λp=>(p.1,V.int p.2),1,aa,c6 H2 v d2 B,c7,λD l4 L M _ hq a0 S pw=>{l4,01,.inl {aD.of a0,λt u2=>?_}}}};show c5 H2 n c9 u1 d2 n0 () v B D l4 L M hq a0 S pw t u2
end
abbrev lO:ϸ:=top 48
abbrev fW:ϸ:=top 49
abbrev DR:ϸ:=top 50
abbrev kS:ϸ:=top 51
def bx(i:Int):Str:=Y (toString i)
def aX(p:Pr):Str:=if p.2=1 then p.1 else bx p.2++Y "*" ++ p.1
def bU(c:Int)(ps:List Pr):List Str:=ps.map aX++(if c≠0\/ps=[]then [bx c]else [])
def dN(c:Int)(ps:List Pr):Str:=Τ (Y "+") (bU c ps)
def gT:Kd->Str
 |.whole=>Y "whole"
 |.place c ps=>Y "place" ++ Y "(" ++ Τ (Y ", ") [dN c ps]++Y ")"
 |.row c ps k=>Y "row" ++ Y "(" ++ Τ (Y ", ") [dN c ps,gT k]++Y ")"
 |.pair a b=>Y "pair" ++ Y "(" ++ Τ (Y ", ") [gT a,gT b]++Y ")"
structure Wr(c:Int)(ps:List Pr):Prop where
 can:vJ ps
 c0:0<=c
 c1:c<10^60
 len:ps.length<=21
 wd:c=0\/ps.length<=20
 le:∀p∈ps,p.2<10^60/\p.1.length<=8
def oq{i:Int}(a:0<=i)(b:i<10^60):i.natAbs.log2<1920:=by
 show Nat.lt_trans ?_ (show 200<1920 by decide);by_cases e:i.natAbs=0
 .rw[e];decide
 .show(Nat.log2_lt e).mpr (Ϝ (show i.natAbs<10^60 by omega) ())
def gz(a:0<=i)(b:i<10^60):(bx i).length<=60:=P_ a () b
def DU:(Y "*").length=1:=()
def Fk:(Y "+").length=1:=()
def uH(c:1<=p.2)(a:p.2<10^60)(b:p.1.length<=8):(aX p).length<=69:=by
 unfold aX;split
 .omega
 .rw[ς,ς,DU];let:=gz () a;omega
inductive JC (vs:List V) (H:Hp) (Q:VK) (u3_:XK):Prop|mk (x:Str) (n:Int) (_:vs=[.str x,.int n]) (_:x.length<=8) (_:1<=n) (_:n<10^60) (_:Q (.str (aX (x,n))) H)
inductive rG (vs:List V) (H:Hp) (Q:VK) (u3_:XK):Prop|mk (v:V) (c:Int) (ps:List Pr) (_:vs=[v]) (_:aj H (db c ps) v) (_:Wr c ps) (_:∀H',af H H'->Q (.str (dN c ps)) H')
def tj(z:Str)(ys:List Str):Txt.join z ys=Τ z ys:=by change E_.Str.glued z ys=_;rw[StrLaws.glued_eq_join]
section
variable{P:Ι}{w:ώ}{K:η}{mg:Str->Option ν}{base:ϙ}
def sd{f:υ}{c:ϣ}(F:Fun K "show_part" "show_part" lO f c)(T:Txt K mg):au P w K mg base bg 1 f c ["name","times"] JC:=by
 show F.okA (N:=["name","times"]) λi A g s H vs Q E p l h=>?_;ext(⟨x,n,rfl,r,m,b,q⟩:h);show{0,bZ (OH (bA aA (wv 1) aE) (wv 0) (NF (vD {JW (pv 1)} (vD az (vD (IE (wv 0)) NE))))),{01101,ao (λh=>?_) (λh=>?_)}}
 .let e:n=1:=↑h
  let a:aX (x,n)=x:=Z5 e;rw[a]at q;show{01,q}
 .let e:¬ n=1:=↑h
  let a:aX (x,n)=bx n++Y "*" ++ x:=Z6 e;rw[a]at q;let j:=gz () b;let d:u6++bx n=bx n:=j6 _;let o:(bx n++Y "*").length<=61:=by rw[ς,DU];omega
  let k:(bx n++Y "*" ++ x).length<=69:=by rw[ς];omega
  show{01,n,1,oq () b,bx n,1,by rw[d,ι];omega,2};rw[d];show{01301,x,13,x,133,q}
end
def aR(s a:Str):Τ s [a]=a:=rfl
def aO(s a b:Str)(r:List Str):Τ s (a::b::r)=a++s++Τ s (b::r):=rfl
def dM(s:Str):∀ys:List Str,(Τ s ys).length<=(ys.map (·.length)).sum+ys.length*s.length
 |[]=>ϋ _
 |[a]=>by rw[aR];simp
 |a::b::r=>by let c:=dM s (b::r);rw[aO,ς,ς];simp only[ϊ,A0,Δ,Nat.add_mul]at c⊢;omega
def gJ:(Y ", ").length=2:=()
def rT:(Y "(").length=1:=()
def qh:(Y ")").length=1:=()
def dD:∀{ys:List Str},(∀y∈ys,y.length<=B)->(ys.map (·.length)).sum<=ys.length*B
 |[],_=>by simp
 |y::ys,h=>by let b:=h y π;let c:=dD λe a=>h e (ρ _ a);rw[ϊ,A0,Δ,Nat.add_mul];omega
def oC(h:Wr c ps):(∀y∈bU c ps,y.length<=69)/\(bU c ps).length<=22:=by
 let l:=h.len;unfold bU;show{λy d=>?_,2}
 .rcases Ν.mp d with a|a
  .ext(⟨p,b,rfl⟩:Ρ.mp a);show uH (h.can.ge p b) (h.le p b).1 (h.le p b).2
  .split at a
   .rw[ο.mp a];let:=gz h.c0 h.c1;omega
   .cases a
 .rw[Ε,ε];split
  .rw[ϻ];omega
  .rw[B6];omega
def dG(h:Wr c ps):(dN c ps).length<=1540:=by ext(⟨d,e⟩:oC h);let a:=dM (Y "+") (bU c ps);let b:=dD d;rw[Fk]at a;unfold dN;let:(bU c ps).length*69<=22*69:=F_ _ e;omega
def cr:∀{k:Kd},k.All Wr->(gT k).length<=1700*k.size
 |.whole,_=>by change(Y "whole").length<=1700*1;show p0 ()
 |.place c ps,h=>by let l:=dG h;let w:(Y "place").length=5:=();rw[gT,aR,ς,ς,ς,w,rT,qh];change _<=1700*1;omega
 |.row c ps k,h=>by let l:=dG h.1;let i:=cr h.2;let w:(Y "row").length=3:=();rw[gT,aO,aR,ς,ς,ς,ς,ς,w,rT,qh,gJ];change _<=1700*(k.size+1);omega
 |.pair a b,h=>by let i:=cr h.1;let j:=cr h.2;let w:(Y "pair").length=4:=();rw[gT,aO,aR,ς,ς,ς,ς,ς,w,rT,qh,gJ];change _<=1700*(a.size+b.size+1);omega
inductive oQ (vs:List V) (H:Hp) (Q:VK) (u3_:XK):Prop|mk (z:Str) (l:υ) (ys:List Str) (_:vs=[.str z,.ref l]) (_:H l=Z (.lst (ys.map V.str))) (_:z.length<=10) (_:(ys.map (·.length)).sum+ys.length*2<=2000000) (_:Q (.str (z++Y "(" ++ Τ (Y ", ") ys++Y ")")) H)
inductive iY (n:Nat) (vs:List V) (H:Hp) (Q:VK) (u3_:XK):Prop|mk (v:V) (k:Kd) (_:vs=[v]) (_:aj H k.dv v) (_:k.size<=n) (_:n<=12) (_:k.All Wr) (_:∀H',af H H'->Q (.str (gT k)) H')
section
variable{P:Ι}{w:ώ}{K:η}{mg:Str->Option ν}{base:ϙ}
def nk(F:Fun K "show_length" "show_length" fW f fd)(T:Txt K mg)(u3:bf P w K mg base k "show_part" ["name","times"] JC):au P w K mg base bg (k+1) f fd ["a"] rG:=by
 show F.okA (N:=["a","parts"]) λu4 A a8 s H vs Q E hr nd h=>?_;ext(⟨v,c,ps,rfl,R,d,q⟩:h);let a9:=oR hr;let u2:(A.deeper (C8 (Y "show_length") (av fW) s.heap.objs.size f u4)).units<C2:=();ext(⟨a,B,us,rfl,X,G,ru,lu⟩:zy R);ext(⟨tl,tn⟩:oC d);let u0:=d.len;show{0,aS (QV (["name","times"]) [] 1 nd U U (Jc (bC 0)) (.of U) U (λ_ _ _=>{pg_tup U (pgs_cons (pg_name (i:=0) (bK (l:=["name","times"]) (()) U) U (z_ U)) (pgs_cons (pg_name (i:=1) (bK (l:=["name","times"]) (()) U) U (z_ U)) pgs_nil))}) (kK () ()) (λ_ _ _=>oW) (λ_ _ _=>(aQ u3 (ar (wv 0) (aW 1))))) (kY (lW (wD (bA jd (bC 0) aE) (yb (bA (Cv u2) (wv 1) (dw uk))))) (fD (pM (eX ϖ Ϟ ϟ bu (wv 1) (am (ka dO T.str (am (bC 0))))))) (bZ (eX Μ a_ b_ dH az (aW 1)))),2};show{01,a,0,(1),.ref B,11,aw.of X,ad U,B,1,{us,aw.of G},ku (λi ys H'=>H'=H/\ys=((ps.take i).map aX).map V.str) {11} (λi ys H' _ p=>by rw[p.1];show aw.of G) ?L1 ?_}
 case L1=>
  ext i ys H' x hx ⟨rfl,rfl⟩;ext(⟨p,b,W,rfl,u1⟩:zB ru hx);let D:=ό W;show fk u1 {0101,p.1,p.2,1,(d.le p D).2,d.can.ge p D,(d.le p D).1,212}
  .rw[ε,ε,Φ,ι];omega
  .rw[Ϥ,W,Κ,Κ];rfl
 ext ys H' ⟨rfl,rfl⟩ l M;rw[lu,ϧ];let r:=ac M (.lst ((ps.map aX).map V.str));let t:upd H' l (.lst ((ps.map aX).map V.str)) l=Z (.lst ((ps.map aX).map V.str)):=aa;generalize upd H' l (.lst ((ps.map aX).map V.str))=H1 at r t⊢;show dQ ?_;let I:∀(j:Hp)(ts:List Str),ts=bU c ps->af H' j->j l=Z (.lst (ts.map V.str))->∃(z:Str) (a:υ) (ys:List Str),V.str (Y "+")=.str z/\[V.ref l]=[.ref a]/\aD K j a (ys.map V.str)/\(ys.map (·.length)).sum+ys.length*z.length<=16777216/\Q (.str (Txt.join z ys)) j:=λj ts e n m=>by subst e;let b:=dD tl;let:(bU c ps).length*69<=22*69:=F_ _ tn;show{0,l,bU c ps,11,aD.of m,by rw[Fk];omega,2};rw[tj];show q j n
 let lp:((ps.map aX).map V.str).length<=21:=by rw[ε,ε];show u0
 let L:(c≠0\/ps=[])->ps.map aX++[bx c]=bU c ps:=λe=>by unfold bU;rw[Z5 e]
 show{01,a,0,(0),.int c,11,aw.of (r _ _ X),ad U,101,ao (λh=>?_) (λh=>?_)}
 .let C:c≠0:=↑h
  show aH {01,.inl {10,aD.of t},01,a,0,(0),.int c,11,aw.of (r _ _ X),ad U,c,1,oq d.c0 d.c1,l,0,.str (bx c),11,t,31012};show I _ _ (L (.inl C)) (λg o e=>by rw[ai (ah e M)];show r _ _ e) (by rw[aa,Κ];rfl)
 .let C:c=0:=↑h
  show{01,ϋ _,λe S=>{l,e,011,aD.of (ac S _ _ _ t),aD.of aa,012}};let n:=ac S (.lst []);let m:=n _ _ t;let u:=r.trans n;generalize upd H1 e (.lst [])=j at n m u⊢;cases ps with
  |nil=>show aH {01,.inl {10,aD.of m},01,a,0,(0),.int c,11,aw.of (u _ _ X),ad U,c,1,oq d.c0 d.c1,l,0,.str (bx c),11,m,31012};show I _ _ (L (.inr U)) (λg o e=>by rw[ai (ah e M)];show u _ _ e) (by rw[aa];rfl)
  |cons p ps=>show aK {1012};show I _ _ (by unfold bU;rw[Z6 (λz=>z.elim (λy=>y C) (λy=>by cases y)),ϔ]) u m
def HU(F:Fun K "in_brackets" "in_brackets" DR f fd)(T:Txt K mg):au P w K mg base bg 1 f fd ["word","texts"] oQ:=by
 show F.okA (N:=["word","texts","inner"]) λi A g s H vs Q E p m h=>?_;ext(⟨z,l,ys,rfl,e,n,r,q⟩:h);show{0,aS (aY 2 (eX Μ a_ b_ dH az (aW 1))) (bZ (NF (vD (IE (wv 0)) (vD az (vD (IE (wv 2)) (vD az NE)))))),2};show{1010,l,ys,11,aD.of e,by rw[gJ];omega,2};rw[tj];let c:=dM (Y ", ") ys;rw[gJ]at c;let d:(Τ (Y ", ") ys).length<=2000000:=();generalize Τ (Y ", ") ys=a at d q⊢;let b:=j6 z;let o:(z++Y "(").length<=11:=by rw[ς,rT];omega
 let j:(z++Y "(" ++ a).length<=2000011:=by rw[ς];omega
 let k:(z++Y "(" ++ a++Y ")").length<=2000012:=by rw[ς,qh];omega
 show{01,z,13,z,1,by rw[b,ι];omega,2};rw[b];show{01301,a,13,a,130133,q}
def ub(F:Fun K "show_kind" "show_kind" kS f fd)(T:Txt K mg)(Din_brackets:bf P w K mg base k0 "in_brackets" ["word","texts"] oQ)(Dshow_length:bf P w K mg base k0 "show_length" ["a"] rG)(Dshow_kind:bf P w K mg base k0 "show_kind" ["kind"] (iY n)):au P w K mg base bg (k0+1) f fd ["kind"] (iY (n+1)):=by
 show F.okA (N:=["kind"]) λcdv A outer s H vs Q E hr nd h=>?_;ext(⟨v,k,rfl,R,kn,n12,kA,q⟩:h);ext(⟨b,vs,rfl,hb,hv⟩:Kd.inv R);show{0,cP (bA aA (bC 0) az) (aQ Din_brackets (ar az (am (dw (am (aQ Dshow_length (am (bC 0)))))))) (cP (bA aA (bC 0) az) (aQ Din_brackets (ar az (am (dw (ar (aQ Dshow_length (am (bC 0))) (am (aQ Dshow_kind (am (bC 0))))))))) (cP (bA aA (bC 0) az) (aQ Din_brackets (ar az (am (dw (ar (aQ Dshow_kind (am (bC 0))) (am (aQ Dshow_kind (am (bC 0))))))))) (bZ az))),2};show{01,b,0,(0),.str k.word,11,aw.of hb,ad U,1012};cases k with
 |whole=>show ao (λh=>absurd (Z7 h) (Ca NR)) (λ_=>{01,b,0,(0),.str "whole",11,aw.of hb,ad U,101,ao (λh=>absurd (Z7 h) (Ca NG)) (λ_=>?_)});show{01,b,0,(0),.str "whole",11,aw.of hb,ad U,101,ao (λh=>absurd (Z7 h) (Ca MP)) (λ_=>q H (af.refl _))}
 |place c ps=>ext(⟨l,rfl,Rl⟩:hv);show ao (λ_=>?_) (λh=>absurd (Z9 U) h);show{01,b,0,(1),l,11,aw.of hb,ad U,l,c,ps,1,Rl,kA,λH1 s1=>{z1,λt ht=>?_}};let ll:=dG kA;show{0,t,[dN c ps],1,aa,3,by simp;omega,q _ (s1.trans (ac ht _))}
 |row c ps j=>ext(⟨l,u,rfl,Rl,Ru⟩:hv);let jn:j.size+1<=n+1:=kn;show ao (λh=>absurd (Z7 h) (Ca (ϝ NJ))) (λ_=>{01,b,0,(0),.str "row",11,aw.of hb,ad U,101,ao (λ_=>?_) (λh=>absurd (Z9 U) h)});let ll:=dG kA.1;let lk:=cr kA.2;show{01,b,0,(1),l,11,aw.of hb,ad U,l,c,ps,1,Rl,kA.1,λH1 s1=>{01,b,0,(2),u,11,aw.of (s1 _ _ hb),ad U,u,j,1,Ru.mono s1,33,kA.2,λH2 s2=>{z2,λt ht=>?_}}};show{0,t,[dN c ps,gT j],1,aa,3,by simp;omega,q _ (s1.trans (s2.trans (ac ht _)))}
 |pair i j=>ext(⟨u1,u2,rfl,Ru1,Ru2⟩:hv);let jn:i.size+j.size+1<=n+1:=kn;show ao (λh=>absurd (Z7 h) (Ca (ϝ Ob))) (λ_=>?_);show{01,b,0,(0),.str "pair",11,aw.of hb,ad U,101,ao (λh=>absurd (Z7 h) (Ca (ϝ Ml))) (λ_=>?_)};show{01,b,0,(0),.str "pair",11,aw.of hb,ad U,101,ao (λ_=>?_) (λh=>absurd (Z9 U) h)};let l1:=cr kA.1;let l2:=cr kA.2;show{01,b,0,(1),u1,11,aw.of hb,ad U,u1,i,1,Ru1,33,kA.1,λH1 s1=>{01,b,0,(2),u2,11,aw.of (s1 _ _ hb),ad U,u2,j,1,Ru2.mono s1,33,kA.2,λH2 s2=>{z2,λt ht=>?_}}};show{0,t,[gT i,gT j],1,aa,3,by simp;omega,q _ (s1.trans (s2.trans (ac ht _)))}
end
abbrev tN:ϸ:=top 83
abbrev yG:ϸ:=top 84
section
variable{P:Ι}{w:ώ}{K:η}{mg:Str->Option ν}{base:ϙ}
def Cm(F:Fun K "_law_length_text" "_law_length_text" tN f fd)(T:Txt K mg):au P w K mg base bg 1 f fd ["_law_length_here"] rG:=by
 show F.okA (N:=["_law_length_here","_law_words","_law_name","_law_times"]) λa8 A c2 s H vs Q E hr nd h=>?_;ext(⟨v,c,ps,rfl,R,m,q⟩:h);let c3:=oR hr;let a7:(A.deeper (C8 (Y "_law_length_text") (av tN) s.heap.objs.size f a8)).units<C2:=();ext(⟨a,a1,us,rfl,C,a0,ru,lu⟩:zy R);ext(⟨tl,tn⟩:oC m);let wl:=m.len;show{0,aS (aY 1 (dw uk)) (aS (Dr c_ U (Jc (bC 0)) (FK (pH (js 2) (pH (js 3) FO))) (fD (pM (eX ϖ Ϟ ϟ bu (wv 1) (am (aP ae (eT aG (dw (ar (aP ae (ka dO T.str (aW 3)) az) (am az))) (ka qU T.int (am (qM aA (wv 3) aE)))) (wv 2))))))) (kY (lW (wD (bA jd (bC 0) aE) (yb (bA (Cv a7) (wv 1) (dw uk))))) (fD (pM (eX ϖ Ϟ ϟ bu (wv 1) (am (ka dO T.str (am (bC 0))))))) (bZ (eX Μ a_ b_ dH az (aW 1))))),2};show{ϋ _,λl M=>?_};let X:=ac M (.lst []);let h0:upd H l (.lst []) l=Z (.lst []):=aa;generalize upd H l (.lst [])=H0 at X h0⊢;show dQ {01,a,0,(1),.ref a1,11,aw.of (X _ _ C),ad U,a1,1,{us,aw.of (X _ _ a0)},Al (λi σ H'=>∃(u3 u2:Option V),σ=[Z (.ref a),Z (.ref l),u3,u2]/\af H H'/\H' l=Z (.lst (((ps.take i).map aX).map V.str))) {001,X,h0} (λi σ H' _ ⟨_,_,_,sx,_⟩=>aw.of (sx _ _ a0)) ?T1 ?_}
 case T1=>
  ext i x σ u0 hx ⟨u3,u2,rfl,t,n⟩;ext(⟨p,b,hp,rfl,hb⟩:zB ru hx);let u1:=ό hp;let p1:=m.can.ge p u1;ext(⟨L,p8⟩:m.le p u1);let nl:=gz () L;let pl:=uH p1 L p8;show{b,01,aw.of (t _ _ hb),100100112};show{01,.inl {10,aD.of n},01,p.2,1,oq () L,0011,by rw[DU,ι];change(bx p.2).length+1<=_;omega,z2,λe I=>?_};let k:=ac I (.lst [.str (bx p.2++Y "*"),.str (Y "")]);let j:=k _ _ n;let lp:((((ps.take i).map aX).map V.str)).length<=21:=by rw[ε,ε,Φ];omega
  let a2:∀(z:Str),z=aX p->∀d,af u0 d->af H (upd d l (.lst (((ps.take i).map aX).map V.str++[.str z])))/\upd d l (.lst (((ps.take i).map aX).map V.str++[.str z])) l=Z (.lst (((ps.take (i+1)).map aX).map V.str)):=λz r d s'=>by show{λg o eg=>by rw[ai (ah eg M)];show s' _ _ (t _ _ eg),2};rw[aa,Ϥ,hp,Κ,Κ,r];rfl
  by_cases D:p.2=1
  .let B:(if decide (V.int p.2=V.int 1)=O then (1:Int)else 0)=1:=by rw[D];simp
   let r:Y "" ++ p.1=aX p:=by unfold aX;rw[Z5 D];show j6 p.1
   ext(⟨W,u4⟩:a2 _ r _ k);show{011,.inr {01,e,00,.str (Y ""),11,aD.of aa,by rw[B];rfl,010011,by rw[<-ς,r,ι];omega,l,0011,j,3001,W,u4}}
  .let B:(if decide (V.int p.2=V.int 1)=O then (1:Int)else 0)=0:=by rw[Z8 (λz=>D (by injection z))];rfl
   let r:bx p.2++Y "*" ++ p.1=aX p:=by unfold aX;rw[Z6 D]
   ext(⟨W,u4⟩:a2 _ r _ k);show{011,.inr {01,e,00,.str (bx p.2++Y "*"),11,aD.of aa,by rw[B];rfl,010011,by rw[<-ς,r,ι];omega,l,0011,j,3001,W,u4}}
 ext σ u0 ⟨u3,u2,rfl,t,n⟩;rw[lu,ϧ]at n;let G:∀(d:Hp)(ts:List Str),ts=bU c ps->af H d->d l=Z (.lst (ts.map V.str))->∃(z:Str) (a:υ) (ys:List Str),V.str (Y "+")=.str z/\[V.ref l]=[.ref a]/\aD K d a (ys.map V.str)/\(ys.map (·.length)).sum+ys.length*z.length<=16777216/\Q (.str (Txt.join z ys)) d:=λd ts e k j=>by subst e;let b:=dD tl;let:(bU c ps).length*69<=22*69:=F_ _ tn;show{0,l,bU c ps,11,aD.of j,by rw[Fk];omega,2};rw[tj];show q d k
 let lp:((ps.map aX).map V.str).length<=21:=by rw[ε,ε];show wl
 let a1:(c≠0\/ps=[])->ps.map aX++[bx c]=bU c ps:=λe=>by unfold bU;rw[Z5 e]
 show{01,a,0,(0),.int c,11,aw.of (t _ _ C),ad U,101,ao (λh=>?_) (λh=>?_)}
 .let S:c≠0:=↑h
  show aH {01,.inl {10,aD.of n},01,a,0,(0),.int c,11,aw.of (t _ _ C),ad U,c,1,oq m.c0 m.c1,l,0,.str (bx c),11,n,31012};show G _ _ (a1 (.inl S)) (λg o e=>by rw[ai (ah e M)];show t _ _ e) (by rw[aa,Κ];rfl)
 .let S:c=0:=↑h
  show{01,ϋ _,λe I=>{l,e,011,aD.of (ac I _ _ _ n),aD.of aa,012}};let k:=ac I (.lst []);let j:=k _ _ n;let u:=t.trans k;generalize upd u0 e (.lst [])=d at k j u⊢;cases ps with
  |nil=>show aH {01,.inl {10,aD.of j},01,a,0,(0),.int c,11,aw.of (u _ _ C),ad U,c,1,oq m.c0 m.c1,l,0,.str (bx c),11,j,31012};show G _ _ (a1 (.inr U)) (λg o e=>by rw[ai (ah e M)];show u _ _ e) (by rw[aa];rfl)
  |cons p ps=>show aK {1012};show G _ _ (by unfold bU;rw[Z6 (λz=>z.elim (λy=>y S) (λy=>by cases y)),ϔ]) u j
def CI(F:Fun K "_law_kind_text" "_law_kind_text" yG f fd)(T:Txt K mg)(D_law_length_text:bf P w K mg base k0 "_law_length_text" ["_law_length_here"] rG)(D_law_kind_text:bf P w K mg base k0 "_law_kind_text" ["_law_kind_here"] (iY n)):au P w K mg base bg (k0+1) f fd ["_law_kind_here"] (iY (n+1)):=by
 show F.okA (N:=["_law_kind_here"]) λcdv A outer s H vs Q E hr nd h=>?_;ext(⟨v,k,rfl,R,kn,n12,kA,q⟩:h);ext(⟨b,vs,rfl,hb,hv⟩:Kd.inv R);let lpl:(Y "place(").length=6:=();let lro:(Y "row(").length=4:=();let lpa:(Y "pair(").length=5:=();show{0,cP (bA aA (bC 0) az) az (cP (bA aA (bC 0) az) (aP ae (aP ae az (aQ D_law_length_text (am (bC 0)))) az) (cP (bA aA (bC 0) az) (aP ae (aP ae (aP ae (aP ae az (aQ D_law_length_text (am (bC 0)))) az) (aQ D_law_kind_text (am (bC 0)))) az) (bZ (aP ae (aP ae (aP ae (aP ae az (aQ D_law_kind_text (am (bC 0)))) az) (aQ D_law_kind_text (am (bC 0)))) az)))),2};show{01,b,0,(0),.str k.word,11,aw.of hb,ad U,1012};cases k with
 |whole=>show ao (λ_=>?_) (λh=>absurd (Z9 U) h);show q H (af.refl _)
 |place c ps=>
  ext(⟨l,rfl,Rl⟩:hv);let ll:=dG kA;show ao (λh=>absurd (Z7 h) (Ca (ϝ NR))) (λ_=>{01,b,0,(0),.str "place",11,aw.of hb,ad U,101,ao (λ_=>?_) (λh=>absurd (Z9 U) h)});show{01,b,0,(1),l,11,aw.of hb,ad U,l,c,ps,1,Rl,kA,λH1 s1=>{0011,by rw[lpl,ι];omega,0011,by rw[ς,lpl,qh,ι];omega,2}};let e:Y "place(" ++ dN c ps++Y ")"=gT (.place c ps):=by rw[gT,aR,show Y "place("=Y "place" ++ Y "(" by decide +kernel]
  rw[e];show q H1 s1
 |row c ps j=>
  ext(⟨l,u,rfl,Rl,Ru⟩:hv);let jn:j.size+1<=n+1:=kn;let ll:=dG kA.1;let lk:=cr kA.2;show ao (λh=>absurd (Z7 h) (Ca (ϝ NG))) (λ_=>{01,b,0,(0),.str "row",11,aw.of hb,ad U,101,ao (λh=>absurd (Z7 h) (Ca (ϝ NJ))) (λ_=>?_)});show{01,b,0,(0),.str "row",11,aw.of hb,ad U,101,ao (λ_=>?_) (λh=>absurd (Z9 U) h)};show{01,b,0,(1),l,11,aw.of hb,ad U,l,c,ps,1,Rl,kA.1,λH1 s1=>{0011,by rw[lro,ι];omega,0011,by rw[ς,lro,gJ,ι];omega,01,b,0,(2),u,11,aw.of (s1 _ _ hb),ad U,u,j,1,Ru.mono s1,33,kA.2,λH2 s2=>{0011,by rw[ς,ς,lro,gJ,ι];omega,0011,by rw[ς,ς,ς,lro,gJ,qh,ι];omega,2}}};let e:Y "row(" ++ dN c ps++Y ", " ++ gT j++Y ")"=gT (.row c ps j):=by rw[gT,aO,aR,show Y "row("=Y "row" ++ Y "(" by decide +kernel];simp only[A8]
  rw[e];show q H2 (s1.trans s2)
 |pair i j=>
  ext(⟨u1,u2,rfl,Ru1,Ru2⟩:hv);let jn:i.size+j.size+1<=n+1:=kn;let l1:=cr kA.1;let l2:=cr kA.2;show ao (λh=>absurd (Z7 h) (Ca (ϝ MP))) (λ_=>?_);show{01,b,0,(0),.str "pair",11,aw.of hb,ad U,101,ao (λh=>absurd (Z7 h) (Ca (ϝ Ob))) (λ_=>?_)};show{01,b,0,(0),.str "pair",11,aw.of hb,ad U,101,ao (λh=>absurd (Z7 h) (Ca (ϝ Ml))) (λ_=>?_)};show{01,b,0,(1),u1,11,aw.of hb,ad U,u1,i,1,Ru1,33,kA.1,λH1 s1=>{0011,by rw[lpa,ι];omega,0011,by rw[ς,lpa,gJ,ι];omega,01,b,0,(2),u2,11,aw.of (s1 _ _ hb),ad U,u2,j,1,Ru2.mono s1,33,kA.2,λH2 s2=>{0011,by rw[ς,ς,lpa,gJ,ι];omega,0011,by rw[ς,ς,ς,lpa,gJ,qh,ι];omega,2}}};let e:Y "pair(" ++ gT i++Y ", " ++ gT j++Y ")"=gT (.pair i j):=by rw[gT,aO,aR,show Y "pair("=Y "pair" ++ Y "(" by decide +kernel];simp only[A8]
  rw[e];show q H2 (s1.trans s2)
end
open PySem L2 KB XB PySem.NumText WR
abbrev lc:ϸ:=top 62
def Ay(c:Nat):Bool:=decide (48<=c)&&decide (c<=57)
def vX(x:Str):Bool:=decide (1<=x.cps.size)&&decide (x.cps.size<=60)&&x.cps.toList.all Ay
def pZ(x:Str):V:=if vX x=O then .int ((digitsVal x.cps.toList:Nat):Int)else .non
def KF(x:Str):((ϳ x.cps.size).map λi=>Ay (x.cps.getD i 0)).all id=x.cps.toList.all Ay:=by
 let e:(ϳ x.cps.size).map (λi=>Ay (x.cps.getD i 0))=x.cps.toList.map Ay:=by
  apply List.ext_getElem
  .simp
  .intro i a b;simp[Array.getD,(↑a)]
 rw[e,J3];rfl
def fJ(h:vX x=O):AllDigits x.cps.toList/\1<=x.cps.size/\x.cps.size<=60:=by unfold vX at h;simp only[χ,decide_eq_true_eq,Ϸ]at h;show{λc a=>?_,h.1.1,h.1.2};let:=h.2 c a;unfold Ay at this;simpa using this
def Ha(h:vX x=O):PySem.intText? x=Z ((digitsVal x.cps.toList:Nat):Int)/\x.length<=640:=by ext(⟨a,c,d⟩:fJ h);let e:x.length=x.cps.size:=U;show{intText_digits a (λz=>by let b:x.cps.toList.length=x.cps.size:=Θ;rw[z,B6]at b;omega) (),3}
def gK(d:0<=n)(j:n<10^60):vX (bx n)=O/\digitsVal (bx n).cps.toList=n.toNat:=by
 ext(⟨m,rfl⟩:Int.eq_ofNat_of_zero_le d);let b:(bx (m:Int)).cps.toList=(Nat.toDigits 10 m).map Char.toNat:=PySem.W.KIN.signs_num m;let k:AllDigits (bx ((m:Nat):Int)).cps.toList:=by intro c a;rw[b]at a;ext(⟨ch,f,e⟩:Ρ.mp a);rw[<-e];show(PyProof.Rows.digit_range (Nat.isDigit_of_mem_toDigits () () f))
 let g:1<=(bx ((m:Nat):Int)).cps.size:=by let h:=toDigits_len_ge 10 m;let i:=congrArg y6 b;rw[Θ,ε]at i;omega
 show{2,by rw[b,PySem.W.KIN.val_back];rfl};unfold vX;rw[Z9 g,Z9 (show(bx ((m:Nat):Int)).cps.size<=60 from(gz d j)),ϵ,ϵ,Ϸ];intro c a;let:=k c a;unfold Ay;rw[Z9 this.1,Z9 this.2];rfl
inductive yz (vs:List V) (H:Hp) (Q:VK) (u3_:XK):Prop|mk (x:Str) (_:vs=[.str x]) (_:x.cps.size<=5000) (_:∀H',af H H'->Q (pZ x) H')
section
variable{P:Ι}{w:ώ}{K:η}{mg:Str->Option ν}{base:ϙ}
def tR(F:Fun K "number_of" "number_of" lc f fd)(T:Txt K mg):au P w K mg base bg 1 f fd ["word"] yz:=by
 show F.okA (N:=["word"]) λD A X s H vs Q E M I h=>?_;ext(⟨x,rfl,t,q⟩:h);show{0,cP (pV (QT jJ jJ aE (cV bV T.len (aW 0)) {T.g_MOST_FIGURES U})) vj (cP (pV (jZ (cV (gn U) T.all (am (pY ["sign"] [] (Qo (wv 0)) (.of U) U (λ_ _ _=>{pg_name (i:=0) (bK (l:=["sign"]) (()) U) U (z_ U)}) (bz ()) (λ_ _ _=>oW) (λ_ _ _=>(OF gg gg az (wv 0) az))))))) vj (bZ (ka pS T.int (aW 0)))),2};let C:x.length=x.cps.size:=U;let d:vX x=J->∀H',af H H'->Q .non H':=λe H' y=>by let:=q H' y;unfold pZ at this;rwa[Z6 (by rw[e];decide)]at this
 show{01,x,1,zn t,001101,ao (λg=>?_) (λg=>?_)}
 .show{0011012};let c:1<=x.cps.size:=by let:=Z7 g;omega
  by_cases n:x.cps.size<=60
  .rw[show decide (((x.length:Nat):Int)<=60)=O from Z9 ()];show aK {01,x,1,oB (F:=λi=>V.bl (Ay (x.cps.getD i 0))) (λi ys R m=>?_) λa v=>{a,(ϳ x.cps.size).map λi=>Ay (x.cps.getD i 0),1,aD.of ?_,012}}
   .show bt {010011012};let u:decide (({#[x.cps.getD i 0]}:Str).cps.toList<(Y "0").cps.toList)=decide (x.cps.getD i 0<48):=sO _ _;let r:decide ((Y "9").cps.toList<({#[x.cps.getD i 0]}:Str).cps.toList)=decide (57<x.cps.getD i 0):=sO _ _;rw[u];by_cases o:x.cps.getD i 0<48
    .rw[Z9 o];show aK {by rw[m,ι];omega,21};unfold Ay;rw[Z8 ()];rfl
    .rw[Z8 o];show aH {0011,{by rw[m,ι];omega,21}};rw[r];unfold Ay;rw[Z9 (show 48<=x.cps.getD i 0 by omega)];by_cases k:57<x.cps.getD i 0
     .rw[Z9 k,Z8 ()];rfl
     .rw[Z8 k,Z9 ()];rfl
   .rw[aa,Ϙ];rfl
   .rw[KF];let j:=ac v (.lst ((ϳ x.cps.size).map λi=>V.bl (Ay (x.cps.getD i 0))));let b:vX x=x.cps.toList.all Ay:=by unfold vX;rw[Z9 c,Z9 n];rfl
    cases e:x.cps.toList.all Ay with
    |false=>show aH (d (by rw[b,e]) _ j)
    |true=>rw[e]at b;ext(⟨z,p⟩:Ha b);show aK {01,x,01,z,p,2};let:=q _ j;unfold pZ at this;rwa[Z5 b]at this
  .rw[show decide (((x.length:Nat):Int)<=60)=J from Z8 ()];show aH (d ?_ H (af.refl _));unfold vX;rw[Z8 n,SH,k_]
 .show{01,aH (d ?_ H (af.refl _))};let c:¬ 1<=x.cps.size:=by let:=of_decide_eq_false (C3.mpr g);omega
  unfold vX;rw[Z8 c,k_,k_]
end
open PySem L2 KB XB WR
abbrev qp:ϸ:=top 63
abbrev lZ:ϸ:=top 64
abbrev ma:ϸ:=top 66
def eq{a b:Str}(h:a.cps.toList=b.cps.toList):a=b:=by cases a;cases b;congr;show TX h
def ak(a b:Str):(a++b).cps.toList=a.cps.toList++b.cps.toList:=by change(a.cps++b.cps).toList=_;rw[Array.toList_append]
def CF:∀{a d r b:List Nat},c∉a->c∉d->a++c::r=d++c::b->a=d/\r=b
 |[],[],r,b,_,_,h=>↑h
 |[],y::d,r,b,_,h2,h=>by simp only[i_,h_,TC]at h;show absurd (ξ.mpr (.inl h.1)) h2
 |y::a,[],r,b,h1,_,h=>by simp only[i_,h_,TC]at h;show absurd (ξ.mpr (.inl h.1.symm)) h1
 |y::a,z::d,r,b,h1,h2,h=>by simp only[h_,TC]at h;obtain⟨f,e⟩:=CF (λm=>h1 (ρ _ m)) (λm=>h2 (ρ _ m)) h.2;show{by rw[h.1,f],e}
def wc(c:Nat):∀{A B:List Str},A≠[]->B≠[]->(∀p∈A,c∉p.cps.toList)->(∀p∈B,c∉p.cps.toList)->Τ {#[c]} A=Τ {#[c]} B->A=B
 |[],_,h,_,_,_,_=>absurd U h
 |_,[],_,h,_,_,_=>absurd U h
 |[a],[b],_,_,_,_,h=>by rw[aR,aR]at h;rw[h]
 |[a],b::d::r,_,_,h1,_,h=>by rw[aR,aO]at h;let:=congrArg (λz:Str=>z.cps.toList) h;simp only[ak]at this;show absurd (by rw[this];simp) (h1 a π)
 |a::d::r,[b],_,_,_,h2,h=>by rw[aR,aO]at h;let:=congrArg (λz:Str=>z.cps.toList) h;simp only[ak]at this;show absurd (by rw[<-this];simp) (h2 b π)
 |a::d::r,b::e::t,_,_,h1,h2,h=>by rw[aO,aO]at h;let:=congrArg (λz:Str=>z.cps.toList) h;simp only[ak,Γ,List.singleton_append]at this;ext(⟨i,g⟩:CF (h1 a π) (h2 b π) this);rw[eq i,wc c () () (λp f=>h1 p (ρ _ f)) (λp f=>h2 p (ρ _ f)) (eq g)]
def iC(x y:Str):Txt.split x y≠[]:=by
 unfold Txt.split;split
 .simp
 .split
  .simp
  .rw[StrLaws.partsBetween_eq];ext(⟨p,r,e⟩:StrLaws.partsFrom_ne x y.length 0 (H_ x y 0 x.length (x.length+1)));rw[e];simp
def fw(c:Nat)(h:A≠[])(a:∀p∈A,c∉p.cps.toList):Txt.split (Τ {#[c]} A) {#[c]}=A:=
 wc c (iC _ _) h (StrLaws.split_free _ c) a (SS _ _)
def Wn(ps:List Pr):Prop:=∀p∈ps,bT p.1=O
def ci(h:bT x=O):1<=x.cps.size/\x.cps.size<=8/\∀c∈x.cps.toList,97<=c/\c<=122:=by unfold bT at h;simp only[χ,decide_eq_true_eq,Ϸ]at h;show{h.1.1,h.1.2,h.2}
def Aw:Y "*"={#[42]}:=()
def zw:Y "+"={#[43]}:=()
def dJ(b:0<=n)(a:n<10^60):∀c∈(bx n).cps.toList,48<=c/\c<=57:=(fJ (gK b a).1).1
def BM(d:1<=p.2)(b:p.2<10^60)(c:bT p.1=O):43∉(aX p).cps.toList:=by
 ext(⟨_,_,a⟩:ci c);unfold aX;split
 .intro h;let:=a _ h;omega
 .intro h;rw[ak,ak,Aw]at h;rcases Ν.mp h with h|h
  .rcases Ν.mp h with h|h
   .let:=dJ () b _ h;omega
   .simp at h
  .let:=a _ h;omega
section
variable{P:Ι}{w:ώ}{K:η}{mg:Str->Option ν}{base:ϙ}
end
def Ig(ys:List α)(z:α):kq (ys++[z]) (-1)=Z z:=by unfold kq CQ;rw[Z6 (),Z5 (by rw[Ε,ϻ];omega)];rw[show((-1:Int)+((ys++[z]).length:Int)).toNat=ys.length by rw[Ε,ϻ];omega];simp
def DZ(ys:List V)(z:V):cO (ys++[z]) Β (Z (-1))=ys:=by
 let h:HT.sIx (ys++[z]).length (ys++[z]).length (Z (-1))=ys.length:=by unfold HT.sIx;simp;omega
 let a:HT.sIx (ys++[z]).length 0 Β=0:=U;unfold cO;rw[h,a,E9,Tr,J7];rfl
def Cw:bU c ps≠[]:=by
 unfold bU;split
 .simp
 .next h=>intro e;rw[ϔ,List.map_eq_nil_iff]at e;show h (.inr e)
def xV(h:Wr c ps)(e:Wn ps):∀y∈bU c ps,43∉y.cps.toList:=λy d=>by
 rcases Ν.mp d with a|a
 .ext(⟨p,b,rfl⟩:Ρ.mp a);show BM (h.can.ge p b) (h.le p b).1 (e p b)
 .split at a
  .rw[ο.mp a];intro z;let:=dJ h.c0 h.c1 _ z;omega
  .cases a
def iw(h:Wr c ps)(a:Wn ps):Txt.split (dN c ps) (Y "+")=bU c ps:=by rw[zw];show fw 43 Cw (xV h a)
section
variable{P:Ι}{w:ώ}{K:η}{mg:Str->Option ν}{base:ϙ}
end
abbrev qF:ϸ:=top 67
def uR(x:Str):Dv:=.tup [.str x,.non]
def Wa(c:Int)(ps:List Pr):Prop:=Wr c ps/\Wn ps
def Cs(R:aj H (uR x) v):∃a,v=.ref a/\H a=Z (.tup [.str x,.non]):=by ext(⟨a,vs,rfl,e,b⟩:aj.tup_inv R);ext(⟨f,g,rfl,c,d⟩:Reps.two b);subst c d;show{a,1,e}
def eY(h:Reps H [d] vs):∃x,vs=[x]/\aj H d x:=by ext(⟨v,r,rfl,a,rfl⟩:h);show{v,1,a}
def xv(R:aj H (.tup [.str w,.lst ds]) v):∃a l us,v=.ref a/\H a=Z (.tup [.str w,.ref l])/\H l=Z (.lst us)/\Reps H ds us:=by ext(⟨a,vs,rfl,d,b⟩:aj.tup_inv R);ext(⟨h,i,rfl,c,e⟩:Reps.two b);ext(⟨l,us,rfl,f,g⟩:e);subst c;show{a,l,us,1,d,f,g}
section
variable{P:Ι}{w:ώ}{K:η}{mg:Str->Option ν}{base:ϙ}
end
abbrev Co:ϸ:=top 86
inductive oh (n:Nat) (vs:List V) (H:Hp) (Q:VK) (u3_:XK):Prop|mk (a b:υ) (rm:Int) (xs:List Str) (_:vs=[.ref a,.ref b,.int rm]) (_:1<=rm) (_:rm<=n) (_:n<=12) (_:gH H a) (_:H b=Z (.lst (xs.map V.str))) (_:b≠a) (_:xs.length<=10) (_:∀(H':Hp)(v:V)(k:Kd),ap a H H'->gH H' a->aj H' k.dv v->k.All (Ln xs 99)->(k.size:Int)<=rm->Q v H')
section
variable{P:Ι}{w:ώ}{K:η}{mg:Str->Option ν}{base:ϙ}
def Il(F:Fun K "_law_kind" "_law_kind" Co f fd)(T:Txt K mg)(u3:bf P w K mg base k0 "_law_draw" ["_law_state_here","_law_many"] dW)(a0:bf P w K mg base k0 "_law_length" ["_law_state_here","_law_names_here","_law_most"] on)(R:bf P w K mg base k0 "_law_kind" ["_law_state_here","_law_names_here","_law_room"] (oh n)):au P w K mg base bg (k0+1) f fd ["_law_state_here","_law_names_here","_law_room"] (oh (n+1)):=by
 show F.okA (N:=["_law_state_here","_law_names_here","_law_room","_law_way","_law_share","_law_one","_law_length_here"]) λb3 A b1 s H vs Q E hr nd h=>?_;ext(⟨a,b,e,xs,rfl,r1,rn,b2,st,hb,g,z,q⟩:h);show{0,aS (aY 3 (aQ u3 (ar (wv 0) (am aE)))) (kY (lW (EB (bA gu (wv 2) aE) (EL (bA aA (wv 3) aE)))) (aS (aY 4 (aP cQ aE (aQ u3 (ar (wv 0) (am (aP cU (wv 2) aE)))))) (aS (aY 5 (aQ R (ar (wv 0) (ar (wv 1) (aW 4))))) (bZ (dh (ar az (ar (wv 5) (am (aQ R (ar (wv 0) (ar (wv 1) (am (aP cU (aP cU (wv 2) aE) (wv 4))))))))))))) (cP (bA aA (wv 3) aE) (dh (am az)) (aS (aY 6 (aQ a0 (ar (wv 0) (ar (wv 1) (am aE))))) (cP (lW (EB (bA gu (wv 2) aE) (EL (bA iZ (wv 3) aE)))) (dh (ar az (ar (wv 6) (am (aQ R (ar (wv 0) (ar (wv 1) (am (aP cU (wv 2) aE))))))))) (bZ (dh (ar az (aW 6)))))))),{01,a,(5),1,st,33,λH1 x X I x0 x5=>?_}};let V:=X _ _ g hb;show dQ ?_;dsimp only;show yN (2<e/\x=0) ?A ?B (λG m=>{01001101,ao (λM=>{01101,ao (λh2=>QE (G {Z7 M,↑h2})) (λ_=>QI m)}) (λ_=>m)})
 case A=>
  ext⟨pr,hx⟩;show aH {01010011,a,e-2,1,I,33,λH2 y i k y0 y1=>{00112}};show dQ ?_;let v:=i _ _ g V;let p:=X.trans i;show{010101,a,b,1+y,xs,1333,k,v,g,z,λH3 W o l r L S a2=>dQ ?_};show{010101010011010011,a,b,e-1-(1+y),xs,1333,r,(l _ _ g v),g,z,λH4 v4 u2 d a1 R4 A4 z4=>{z3,λt j=>?_}};let u:=ac j (.tup [.str "pair",W,v4]);show q _ _ (.pair o u2) (p.trans (l.trans (d.trans (af.b a u)))) (a1.m u) (Ev aa ((Kd.tupS (r.tups d) L).mono u) (R4.mono u)) {S,A4} ?_;change((o.size+u2.size+1:Nat):Int)<=e;omega
 case B=>
  show aK (fc ?_);dsimp only;show{01101,ao (λ_=>{z1,λt j=>?_}) (λ_=>?_)}
  .let i:=ac j (.tup [.str "whole"]);show q _ _ .whole (X.trans (af.b a i)) (I.m i) (BY aa) trivial (by change(1:Int)<=e;omega)
  show{0101,a,b,(99),xs,1,I,V,g,z,33,λH2 u4 c ps i k u1 u0=>dQ ?_};dsimp only;let v:=i _ _ g V;let p:=X.trans i;show yN (1<e) ?C ?D (λG m=>{01001101,ao (λM=>{01001101,ao (λ_=>QE (G (Z7 M))) (λ_=>QI m)}) (λ_=>m)})
  case C=>
   intro r2;show aH {010101010011,a,b,e-1,xs,1333,k,v,g,z,λH3 W o l r L S a2=>{z3,λt j=>?_}};let t3:=k.tups l;let d:=ac j (.tup [.str "row",u4,W]);show q _ _ (.row c ps o) (p.trans (l.trans (af.b a d))) (r.m d) (Gk aa ((bq t3 (rJ c ps) u1).mono d) (L.mono d)) {u0,S} ?_;change((o.size+1:Nat):Int)<=e;omega
  case D=>
   show aK {01,z2,λt j=>?_};let d:=ac j (.tup [.str "place",u4]);show q _ _ (.place c ps) (p.trans (af.b a d)) (k.m d) (BT aa (u1.mono d)) u0 (by change(1:Int)<=e;omega)
end
def vU(s:ϸ)(i:Nat):ϸ:=match s with|.ClassDef _ _ _ a _ _ _ _ _ _ _=>a.getD i (.Pass {(0),(0),(0),(0)})|_=>.Pass {(0),(0),(0),(0)}
abbrev jE:ϸ:=vU (top 60) 0
abbrev vh:ϸ:=vU (top 60) 1
abbrev dZ:ϸ:=vU (top 60) 2
abbrev gl:ϸ:=vU (top 60) 3
def Sg(C:υ)(H:Hp)(a:υ)(x:Str)(i:Nat):Prop:=∃b,H a=Z (.ins C b [(Y "text",.str x),(Y "at",.int i)])
def Mo:(Y "at" == Y "text")=J:=()
def ju(x:Str)(i:Int):d_ (Y "text") [(Y "text",V.str x),(Y "at",V.int i)]=Z (.str x):=by rw[ϱ,beq_self_eq_true]
def lX(x:Str)(i:Int):d_ (Y "at") [(Y "text",V.str x),(Y "at",V.int i)]=Z (.int i):=by rw[ϱ,Mo,ϱ,beq_self_eq_true]
def Fm(x:Str)(i j:Int):gq (Y "at") (.int j) [(Y "text",V.str x),(Y "at",V.int i)]=[(Y "text",V.str x),(Y "at",V.int j)]:=by let h:¬ Y "text"=Y "at":=();simp[gq,h]
inductive Ew (C:υ) (vs:List V) (H:Hp) (Q:VK) (u3_:XK):Prop|mk (a:υ) (x y:Str) (i:Nat) (_:vs=[.ref a,.str y]) (_:Sg C H a x i) (_:y.length<=10) (_:(Txt.startswith3 x y i=J->Q (.bl J) H)) (_:(Txt.startswith3 x y i=O->∀H',ap a H H'->Sg C H' a x (i+y.length)->Q (.bl O) H'))
section
variable{P:Ι}{w:ώ}{K:η}{mg:Str->Option ν}{base:ϙ}
def KY(F:Fun K "met" "Signs.met" vh f fd)(T:Txt K mg)(d:tJ K C)(j:dU K C "text")(g:dU K C "at"):au P w K mg base bg 1 f fd ["self","signs"] (Ew C):=by
 show F.okA (N:=["self","signs"]) λn A m s H vs Q E q p h=>?_;ext(⟨a,x,y,i,rfl,⟨b,c⟩,o,k,l⟩:h);show{0,cP (pV (jZ (eX Μ A3 A5 xG (HN (wv 0)) (ar (wv 1) (am (HN (wv 0))))))) kb (aS (QD (wv 0) (cV bV T.len (aW 1)) DG) (bZ kb)),2};show{01,a,C,b,0,.str x,1,c,d,j,ju _ _,10101,a,C,b,0,.int i,1,c,d,g,lX _ _,x,y,i,11012};cases e:Txt.startswith3 x y i with
 |false=>show aH (k e)
 |true=>
  show aK {01,a,C,b,0,.int i,1,c,d,g,lX _ _,01,y,12,i,y.length,11,b,0,c,p0 U,2}
  .rw[ι];omega
  .show l e _ (ap.upd _ _ _) {b,2};rw[aa,Fm];rfl
inductive rV (C:υ) (vs:List V) (H:Hp) (Q:VK) (u3_:XK):Prop|mk (a dx:υ) (x:Str) (_:vs=[.ref a,.str x]) (_:H a=Z (.ins C dx [])) (_:∀H',ap a H H'->Sg C H' a x 0->Q .non H')
def EY(F:Fun K "__init__" "Signs.__init__" jE f fd)(T:Txt K mg)(c:tJ K C)(d:dU K C "text")(e:dU K C "at"):au P w K mg base bg 1 f fd ["self","text"] (rV C):=by show F.okA (N:=["self","text"]) λj A i s H vs Q E l k h=>?_;ext(⟨a,b,x,rfl,g,q⟩:h);show{0,aS (QH (wv 0) (wv 1) U) (fD (QH (wv 0) aE U)),2};show{0101,a,C,b,01,g,c,d,p0 U,{01,a,C,b,01,aa,c,e,p0 U,2}};show q _ ((ap.upd _ _ _).trans (ap.upd _ _ _)) {b,2};rw[aa];let h:¬ Y "text"=Y "at":=();simp[gq,h]
def bo(c:Nat):Bool:=c==40||c==44||c==41
def Gw(c:Nat):Ox (.str {#[c]}) [.str (Y "("),.str (Y ","),.str (Y ")")]=bo c:=by
 let b:Y "("={#[40]}:=();let a:Y ","={#[44]}:=();let e:Y ")"={#[41]}:=();let h:∀d:Nat,(({#[d]}:Str)=={#[c]})=(c==d):=λd=>by
  rw[C5,beq_iff_eq,beq_iff_eq];constructor
  .intro z;injection z with z;injection z with z;injection z with z _;show z.symm
  .intro z;rw[z]
 rw[b,a,e];change((({#[40]}:Str)=={#[c]})||(((⟨#[44]⟩:Str)==⟨#[c]⟩)||(((⟨#[41]⟩:Str)==⟨#[c]⟩)||false)))=bo c;rw[h,h,h,Tb];unfold bo;rw[Bool.or_assoc]
inductive xM (C:υ) (vs:List V) (H:Hp) (Q:VK) (u3_:XK):Prop|mk (a:υ) (x:Str) (i j:Nat) (_:vs=[.ref a]) (_:Sg C H a x i) (_:x.length<=1000000) (_:i<=j) (_:j<=x.length) (_:(∀m,i<=m->m<j->∃c,x.cps.toList[m]?=Z c/\bo c=J)) (_:(j<x.length->∃c,x.cps.toList[j]?=Z c/\bo c=O)) (_:∀H',ap a H H'->Sg C H' a x j->Q (.str (Txt.slice x (Z i) (Z j))) H')
def sj(F:Fun K "next_word" "Signs.next_word" dZ f fd)(T:Txt K mg)(d:tJ K C)(v:dU K C "text")(r:dU K C "at"):au P w K mg base bg 1 f fd ["self"] (xM C):=by
 show F.okA (N:=["self","start"]) λa5 A a4 s H vs Q E hr nd h=>?_;ext(⟨a,x,i,j,rfl,⟨G,B⟩,lx,u4,hj,S,u3,q⟩:h);show{0,aS (aY 1 (HN (wv 0))) (aS (Ng c_ (lW (EB (bA iZ (HN (wv 0)) (cV bV T.len (am (HN (wv 0))))) (EL (bA jI (eT rK (HN (wv 0)) (HN (wv 0))) (dh (ar az (ar az (am az)))))))) (fD (QD (wv 0) aE DG))) (bZ (lJ gy (HN (wv 0)) (kh (wv 1)) (kh (HN (wv 0)))))),2};show{01,a,C,G,0,.int i,1,B,d,r,lX _ _,dQ ?_};let y:x.length<=Λ:=()
 show{λm σ H'=>∃p:Nat,m=j-p/\i<=p/\p<=j/\σ=[Z (.ref a),Z (.int i)]/\ap a H H'/\Sg C H' a x p,{0,i,1,Α _,u4,1,ap.refl _ _,G,B},2};ext m σ R ⟨p,rfl,ip,pj,rfl,L,b,g⟩;let M:∀k,ap a R k->p=j->k a=Z (.ins C b [(Y "text",.str x),(Y "at",.int (p:Int))])->Q (.str (Txt.slice x (Z (i:Int)) (Z (p:Int)))) k:=λk o e D=>by subst e;show q k (L.trans o) {b,D}
 show{01,a,C,b,0,.int p,1,g,d,r,lX _ _,01,a,C,b,0,.str x,1,g,d,v,ju _ _,x,1,y,001101,ao (λI=>?_) (λI=>?_)}
 .let W:p<x.length:=by let:=Z7 I;omega
  let V:p<x.cps.toList.length:=by rw[Θ];show W
  show{01,a,C,b,0,.str x,1,g,d,v,ju _ _,01,a,C,b,0,.int p,1,g,d,r,lX _ _,x,p,011,y,(ad (Ζ V)),z3,λt u1=>{t,01,.inr (aw.of aa),11012}};let o:=ac u1 (.tup [.str "(",.str ",",.str ")"]);let n:=o _ _ g;generalize upd R t (.tup [.str "(",.str ",",.str ")"])=k at o n⊢;rw[Gw];by_cases e:p=j
  .ext(⟨c,u,X⟩:u3 ());rw[<-e,Ζ V]at u;cases u;rw[X];show aK {01,a,C,b,0,.str x,1,n,d,v,ju _ _,010101,a,C,b,0,.int p,1,n,d,r,lX _ _,01,x,1,y,M k (af.b a o) e n}
  .ext(⟨c,u,X⟩:S p ip ());rw[Ζ V]at u;cases u;rw[X];show aH {λσ' H'=>∃l:Nat,j-l<j-p/\i<=l/\l<=j/\σ'=[Z (.ref a),Z (.int i)]/\ap a H H'/\Sg C H' a x l,λσ' H' ⟨l,h1,D,h3,u0,h5,u2⟩=>{j-l,h1,l,1,D,h3,u0,h5,u2},{01,a,C,b,0,.int p,1,n,d,r,lX _ _,p,(1),11,b,0,n,p0 U,p+1,3331,L.trans ((af.b a o).trans (ap.upd _ _ _)),b,2}};rw[aa,Fm];rfl
 .let e:p=j:=by
   let:¬ (p:Int)<x.length:=λz=>I (Z9 z);omega
  show{01,a,C,b,0,.str x,1,g,d,v,ju _ _,010101,a,C,b,0,.int p,1,g,d,r,lX _ _,01,x,1,y,M R (ap.refl _ _) e g}
end
def nj{x w:Str}{i:Nat}{a:List Nat}(h:x.cps.toList.drop i=w.cps.toList++a)(c:i<=x.length):i+w.length+a.length=x.length:=by let e:=congrArg y6 h;rw[Ϯ,Ε,Θ,Θ]at e;let d:x.length=x.cps.size:=U;let b:w.length=w.cps.size:=U;omega
def vK{x w:Str}{i:Nat}{a:List Nat}(h:x.cps.toList.drop i=w.cps.toList++a)(b:i<=x.length):Txt.slice x (Z (i:Int)) (Z ((i+w.length:Nat):Int))=w:=by let c:=nj h b;rw[beq_iff_eq.mp (SU (x:=x) (i:=i) (j:=((i+w.length:Nat):Int)) () () ()),show((i:Int)).toNat=i by omega,show(((i+w.length:Nat):Int)-(i:Int)).toNat=w.length by omega,h];show eq ?_;rw[show w.length=w.cps.toList.length from(Θ).symm,J7 U]
def gk{x y:Str}{i:Nat}(c:i<=x.length):Txt.startswith3 x y (i:Int)=((x.cps.toList.drop i).take y.length==y.cps.toList):=by
 let a:fromIndex x.length (i:Int)=i:=by unfold fromIndex;rw[Z6 ()];omega
 unfold Txt.startswith3;rw[a,I0];by_cases h:i+y.length<=x.length
 .rw[Z9 h,ϵ]
 .rw[Z8 h,k_,eq_comm,beq_eq_false_iff_ne];intro e;let:=congrArg y6 e;rw[Φ,Ϯ,Θ,Θ]at this;let d:x.length=x.cps.size:=U;let b:y.length=y.cps.size:=U;omega
def Bh(a:List Nat):Prop:=a=[]\/∃c r,a=c::r/\(c=44\/c=41)
def rj{x w:Str}{i:Nat}{a:List Nat}(h:x.cps.toList.drop i=w.cps.toList++a)(g:i<=x.length)(j:∀c∈w.cps.toList,bo c=J)(l:a=[]\/∃c r,a=c::r/\bo c=O):
  i<=i+w.length/\i+w.length<=x.length/\(∀m,i<=m->m<i+w.length->∃c,x.cps.toList[m]?=Z c/\bo c=J)/\(i+w.length<x.length->∃c,x.cps.toList[i+w.length]?=Z c/\bo c=O):=by
 let o:=nj h g;let k:w.length=w.cps.toList.length:=(Θ).symm;let b:∀m,x.cps.toList[i+m]?=(w.cps.toList++a)[m]?:=λm=>by rw[<-h,O5]
 show{33,λm n p=>?_,λn=>?_}
 .let e:=b (m-i);let d:m-i<w.cps.toList.length:=();rw[show i+(m-i)=m by omega,e_ d,Ζ d]at e;show{0,e,j _ (l_ _)}
 .rcases l with rfl|⟨c,r,rfl,f⟩
  .simp at o;omega
  .show{c,2,f};rw[b,k,i6 (Α _),Sq];rfl
inductive Br|leaf (w:Str)|nd (w:Str) (ts:List Br)
mutual
noncomputable def aL:Br->Str
 |.leaf w=>w
 |.nd w ts=>w++Y "(" ++ Τ (Y ", ") (brTs ts)++Y ")"
noncomputable def brTs:List Br->List Str
 |[]=>[]
 |t::ts=>aL t::brTs ts
end
mutual
noncomputable def bO:Br->Dv
 |.leaf w=>uR w
 |.nd w ts=>.tup [.str w,.lst (brDvs ts)]
noncomputable def brDvs:List Br->List Dv
 |[]=>[]
 |t::ts=>bO t::brDvs ts
end
mutual
noncomputable def ba:Br->Nat
 |.leaf _=>0
 |.nd _ ts=>brDps ts+1
noncomputable def brDps:List Br->Nat
 |[]=>0
 |t::ts=>max (ba t) (brDps ts)
end
mutual
noncomputable def bG:Br->Prop
 |.leaf w=>(∀c∈w.cps.toList,bo c=J)/\1<=w.cps.size
 |.nd w ts=>(∀c∈w.cps.toList,bo c=J)/\ts.length<=8/\brOks ts
noncomputable def brOks:List Br->Prop
 |[]=>True
 |t::ts=>bG t/\brOks ts
end
def dE:∀ts,brTs ts=ts.map aL
 |[]=>rfl
 |t::ts=>by rw[brTs,dE ts];rfl
def dB:∀ts,brDvs ts=ts.map bO
 |[]=>rfl
 |t::ts=>by rw[brDvs,dB ts];rfl
def jS:∀{ts:List Br}{u},u∈ts->ba u<=brDps ts
 |t::ts,u,h=>by
  rw[brDps];rcases ξ.mp h with rfl|h
  .omega
  .let:=jS h;omega
def ro:∀{ts:List Br},brOks ts->∀u∈ts,bG u
 |t::ts,h,u,a=>by
  rw[brOks]at h;rcases ξ.mp a with rfl|a
  .show h.1
  .show ro h.2 u a
def mZ:∀{ts:List Br},(∀u∈ts,bG u)->brOks ts
 |[],_=>trivial
 |t::ts,h=>{h t π,mZ λu a=>h u (ρ _ a)}
def lV(b:(m==Y "text")=J)(a:(m==Y "at")=J)(x:Str)(i:Int):d_ m [(Y "text",V.str x),(Y "at",V.int i)]=Β:=by rw[ϱ,b,ϱ,a];rfl
def II(h:Bh post):post=[]\/∃c r,post=c::r/\bo c=O:=by
 rcases h with h|⟨c,r,h,rfl|rfl⟩
 .show .inl h
 .show .inr {0,r,h,1}
 .show .inr {0,r,h,1}
def Gq{x w:Str}{i:Nat}{a:List Nat}(h:x.cps.toList.drop i=w.cps.toList++a)(b:i<=x.length)(d:Bh a):Txt.startswith3 x (Y "(") ((i+w.length:Nat):Int)=J:=by
 let f:=nj h b;rw[gk (),show(x.cps.toList.drop (i+w.length))=a by rw[<-List.drop_drop,h,show w.length=w.cps.toList.length from(Θ).symm,O1 U]];let e:(Y "(").cps.toList=[40]:=();rw[e,rT];rcases d with rfl|⟨c,r,rfl,rfl|rfl⟩
 .rfl
 .rfl
 .rfl
def nw(H H':Hp):Hp:=λb=>match H b with|none=>H' b|some _=>Β
inductive ik (C:υ) (n:Nat) (vs:List V) (H:Hp) (Q:VK) (u3_:XK):Prop|mk (a:υ) (x:Str) (i:Nat) (most:Int) (t:Br) (post:List Nat) (_:vs=[.ref a,.int most]) (_:Sg C H a x i) (_:x.length<=1000000) (_:i<=x.length) (_:x.cps.toList.drop i=(aL t).cps.toList++post) (_:Bh post) (_:bG t) (_:(ba t:Int)<=most) (_:most<n) (_:∀H' v,ap a H H'->Sg C H' a x (i+(aL t).length)->aj (nw H H') (bO t) v->Q v H')
def gr:∀{ys:List Str},c∈(Τ s ys).cps.toList->c∈s.cps.toList\/∃y∈ys,c∈y.cps.toList
 |[],h=>by cases h
 |[a],h=>.inr {a,ο.mpr U,h}
 |a::b::r,h=>by
  rw[aO,ak,ak]at h;rcases Ν.mp h with h|h
  .rcases Ν.mp h with h|h
   .show .inr {a,π,h}
   .show .inl h
  .rcases gr h with h|⟨y,d,h⟩
   .show .inl h
   .show .inr {y,ρ _ d,h}
def nH(h:48<=c/\c<=57):bo c=J:=by unfold bo;simp;omega
def tF(h:97<=c/\c<=122):bo c=J:=by unfold bo;simp;omega
def AX(f:1<=p.2)(d:p.2<10^60)(e:bT p.1=O):∀c∈(aX p).cps.toList,bo c=J:=λc a=>by
 ext(⟨_,_,b⟩:ci e);unfold aX at a;split at a
 .show tF (b c a)
 .rw[ak,ak,Aw]at a;rcases Ν.mp a with h|h
  .rcases Ν.mp h with h|h
   .show nH (dJ () d c h)
   .rw[ο.mp h];rfl
  .show tF (b c h)
def ql(a:Wa c ps):∀d∈(dN c ps).cps.toList,bo d=J:=λd g=>by
 rcases gr g with h|⟨y,f,h⟩
 .rw[zw]at h;rw[ο.mp h];rfl
 .unfold bU at f;rcases Ν.mp f with b|b
  .ext(⟨p,e,rfl⟩:Ρ.mp b);show AX (a.1.can.ge p e) (a.1.le p e).1 (a.2 p e) d h
  .split at b
   .rw[ο.mp b]at h;show nH (dJ a.1.c0 a.1.c1 d h)
   .cases b
def dq{x:Str}(h:1<=x.cps.size):∃c r,x.cps.toList=c::r:=by
 cases e:x.cps.toList with
 |nil=>have:=Θ (xs:=x.cps);rw[e,B6]at this;omega
 |cons c r=>show{c,r,1}
def Bi(h:a.cps.toList=c::r):∀ys:List Str,∃d,(Τ s (a::ys)).cps.toList=c::d
 |[]=>{r,h}
 |b::ys=>by rw[aO,ak,ak,h];show{01}
def BR{p:Pr}(d:1<=p.2)(a:p.2<10^60)(b:bT p.1=O):∃c r,(aX p).cps.toList=c::r:=by
 unfold aX;split
 .show dq (ci b).1
 .ext(⟨c,r,e⟩:dq (fJ (gK () a).1).2.1);rw[ak,ak,e];show{001}
def Be{c:Int}{ps:List Pr}(a:Wa c ps):∃d r,(dN c ps).cps.toList=d::r/\d≠41:=by
 let h:∃d r,(dN c ps).cps.toList=d::r:=by
  unfold dN bU;cases ps with
  |nil=>ext(⟨d,r,e⟩:dq (fJ (gK a.1.c0 a.1.c1).1).2.1);rw[Z5 (.inr U),u9,i_];show{d,r,e}
  |cons p ps=>ext(⟨d,r,e⟩:BR (a.1.can.ge p π) (a.1.le p π).1 (a.2 p π));rw[ϊ,h_];obtain⟨f,b⟩:=Bi e (ps.map aX++if c≠0\/p::ps=[]then [bx c]else []);show{d,f,b}
 ext(⟨d,r,e⟩:h);show{d,r,e,λz=>?_};let:=ql a d (by rw[e];show π);rw[z]at this;show absurd this ()
def GZ{t:Br}(ok:bG t):∃d r,(aL t).cps.toList=d::r/\d≠41:=by
 let e1:(Y "(").cps.toList=[40]:=();cases t with
 |leaf w=>rw[bG]at ok;ext(⟨c,r,e⟩:dq ok.2);show{c,r,by rw[aL];show e,λz=>?_};let:=ok.1 c (by rw[e];show π);rw[z]at this;show absurd this ()
 |nd w ts=>
  rw[bG]at ok;rw[aL,ak,ak,ak,e1];cases e:w.cps.toList with
  |nil=>show{(40),013}
  |cons c r=>show{c,01,λz=>?_};let:=ok.1 c (by rw[e];show π);rw[z]at this;show absurd this ()
def Hr(a:List Nat):List Br->List Nat
 |[]=>41::a
 |t::ts=>44::32::((aL t).cps.toList++Hr a ts)
def Mg(a:List Nat):List Br->List Nat
 |[]=>41::a
 |t::ts=>(aL t).cps.toList++Hr a ts
def wa(a:List Nat):∀(t:Br)(ts:List Br),(Τ (Y ", ") (brTs (t::ts))).cps.toList++41::a=Mg a (t::ts)
 |t,[]=>by rw[brTs,brTs,aR];rfl
 |t,u::ts=>by let b:(Y ", ").cps.toList=[44,32]:=();let:=wa a u ts;rw[brTs]at this;rw[brTs,brTs,aO,ak,ak,b,Γ,Γ,this];rfl
structure Nd(t:Br)(w:Str)(ts:List Br):Prop where
 fr:∀c∈w.cps.toList,bo c=J
 tx:∀post,(aL t).cps.toList++post=w.cps.toList++40::Mg post ts
 dv:bO t=.tup [.str w,.lst (ts.map bO)]
 ok:∀u∈ts,bG u/\ba u<ba t
 le:ts.length<=8
 dp:1<=ba t
def Cg(ok:bG t):(bO t=uR (aL t)/\∀c∈(aL t).cps.toList,bo c=J)\/∃w ts,Nd t w ts:=by
 let e1:(Y "(").cps.toList=[40]:=();let e2:(Y ")").cps.toList=[41]:=();cases t with
 |leaf w=>rw[bG]at ok;show .inl {by rw[bO,aL],by rw[aL];show ok.1}
 |nd w ts=>
  rw[bG]at ok;show .inr {w,ts,ok.1,λpost=>?_,by rw[bO,dB],λu hu=>{ro ok.2.2 u hu,by rw[ba];let:=jS hu;omega},ok.2.1,by rw[ba];omega};rw[aL,ak,ak,ak,e1,e2];simp only[Γ,h_,i_];cases ts with
  |nil=>rw[brTs];rfl
  |cons t ts=>rw[wa]
def lF(h:∀b o,H b=Β->H1 b=Z o->H2 b=Z o):af (nw H H1) (nw H H2):=λb o e=>by
 unfold nw at e⊢;cases a:H b with
 |none=>rw[a]at e;show h b o a e
 |some _=>rw[a]at e;cases e
def mG(h:∀b,H1 b=Β->H b=Β):af (nw H1 H2) (nw H H2):=λb o e=>by
 unfold nw at e⊢;cases a:H1 b with
 |none=>rw[a]at e;rw[h b a];show e
 |some _=>rw[a]at e;cases e
def iP(s:ap a H1 H2)(g:Sg C H2 a x p)(h:H2 b=Β):H1 b=Β:=by
 let n:b≠a:=λz=>by ext(⟨_,e⟩:g);rw[z,e]at h;cases h
 cases e:H1 b with
 |none=>rfl
 |some o=>rw[s b o n e]at h;cases h
def Ky(a:List Nat)(ts:List (Br)):Bh (Hr a ts):=by
 cases ts with
 |nil=>show .inr {(41),a,1,.inr U}
 |cons t ts=>show .inr {(44),01,.inl U}
def mM{x:Str}{i:Nat}{u v:List Nat}(h:x.cps.toList.drop i=u++v):x.cps.toList.drop (i+u.length)=v:=by rw[<-List.drop_drop,h,O1 U]
def fg{x y:Str}{i:Nat}{u:List Nat}(a:i<=x.length)(h:x.cps.toList.drop i=u):Txt.startswith3 x y (i:Int)=(u.take y.length==y.cps.toList):=by rw[gk a,h]
section
variable{P:Ι}{w:ώ}{K:η}{mg:Str->Option ν}{base:ϙ}
def Bf{f C g1 g2 g3:υ}{fd d1 d2 d3:ϣ}{k0 n:Nat}(F:Fun K "branch" "Signs.branch" gl f fd)(T:Txt K mg)(cl:tJ K C)(m_next_word:oP K C "next_word" g1)(F_next_word:au P w K mg base bg k0 g1 d1 ["self"] (xM C))(b_next_word:bE K d1 ["self"] [])
  (m_met:oP K C "met" g2) (F_met:au P w K mg base bg k0 g2 d2 ["self","signs"] (Ew C)) (b_met:bE K d2 ["self","signs"] []) (m_branch:oP K C "branch" g3) (F_branch:au P w K mg base bg k0 g3 d3 ["self","most"] (ik C n)) (b_branch:bE K d3 ["self","most"] []):au P w K mg base bg (k0+1) f fd ["self","most"] (ik C (n+1)):=by
 show F.okA (N:=["self","most","word","inner"]) λcdv A outer s H vs Q E hr nd h=>?_;ext(⟨a,x,i,most,t,post,rfl,sg,lx,hi,hd,bh,ok,dm,mn,q⟩:h);show{0,aS (aY 2 (Qz (wv 0) cl m_next_word F_next_word hr b_next_word .nil dc)) (cP (lW (wD (bA aA (wv 1) aE) (yb (pV (jZ (Aj (wv 0) cl m_met F_met hr b_met .nil dc (am az))))))) (dh (ar (wv 2) (am vj))) (aS (aY 3 (dw uk)) (kY (pV (jZ (Aj (wv 0) cl m_met F_met hr b_met .nil dc (am az)))) (aS (pM (eX ϖ Ϟ ϟ bu (wv 3) (am (Aj (wv 0) cl m_branch F_branch hr b_branch .nil dc (am (aP cU (wv 1) aE)))))) (aS (Ng c_ (jZ (Aj (wv 0) cl m_met F_met hr b_met .nil dc (am az))) (fD (pM (eX ϖ Ϟ ϟ bu (wv 3) (am (Aj (wv 0) cl m_branch F_branch hr b_branch .nil dc (am (aP cU (wv 1) aE)))))))) (fD (pM (Aj (wv 0) cl m_met F_met hr b_met .nil dc (am az)))))) (bZ (dh (ar (wv 2) (aW 3))))))),2};ext(⟨dx,ha⟩:sg);let nN:∀(y:Str)(p:Int),d_ (Y "next_word") [(Y "text",V.str y),(Y "at",V.int p)]=Β:=lV () ();let nM:∀(y:Str)(p:Int),d_ (Y "met") [(Y "text",V.str y),(Y "at",V.int p)]=Β:=lV () ();let nB:∀(y:Str)(p:Int),d_ (Y "branch") [(Y "text",V.str y),(Y "at",V.int p)]=Β:=lV () ();let e40:(Y "(").cps.toList=[40]:=();let e41:(Y ")").cps.toList=[41]:=();let e44:(Y ", ").cps.toList=[44,32]:=();rcases Cg ok with ⟨ed,fr⟩|⟨w0,ts,N⟩
 .ext(⟨w1,w2,w3,w4⟩:rj hd hi fr (II bh))
  show{01,a,dx,01,ha,nN _ _,a,x,i,i+(aL t).length,1,{dx,ha},lx,w1,w2,w3,w4,λH1 s1 sg1=>?_};rw[vK hd hi];ext(⟨dx1,ha1⟩:id sg1);show dQ ?_;let done:∀t0,H1 t0=Β->Q (.ref t0) (upd H1 t0 (.tup [.str (aL t),.non])):=λt0 h0=>by
   let n1:t0≠a:=λz=>by rw[z,ha1]at h0;cases h0
   let h00:H t0=Β:=by
    cases e:H t0 with
    |none=>rfl
    |some o=>rw[s1 t0 o n1 e]at h0;cases h0
   show q _ _ (s1.trans (af.b a (ac h0 _))) {dx1,ac h0 _ _ _ ha1} ?_;rw[ed];unfold uR;rw[aj];show{t0,[.str (aL t),.non],12,by simp only[Reps];show{001300131}};unfold nw;rw[h00];show aa
  show{01101,ao (λ_=>aH {01,z2,done}) (λ_=>?_)};show{01,a,dx1,01,ha1,nM _ _,a,x,Y "(",i+(aL t).length,1,sg1,3,λ_=>{01,aH {01,z2,done}},λe=>absurd e (by rw[Gq hd hi bh];decide)}
 .let hx:x.cps.toList.drop i=w0.cps.toList++40::Mg post ts:=by rw[hd,N.tx]
  ext(⟨w1,w2,w3,w4⟩:rj hx hi N.fr (.inr {(40),011}));let hx1:x.cps.toList.drop (i+w0.length)=40::Mg post ts:=by rw[show w0.length=w0.cps.toList.length from(Θ).symm];show mM hx
  let hx2:x.cps.toList.drop (i+w0.length+1)=Mg post ts:=mM (u:=[40]) hx1;let d1:=N.dp;let lt1:i+w0.length<x.length:=by let:=congrArg y6 hx1;rw[Ϯ,Δ,Θ]at this;let e1:x.length=x.cps.size:=U;omega
  show{01,a,dx,01,ha,nN _ _,a,x,i,i+w0.length,1,{dx,ha},lx,w1,w2,w3,w4,λH1 s1 sg1=>?_};rw[vK hx hi];ext(⟨dx1,ha1⟩:id sg1);show dQ ?_;show{01101,ao (λh=>absurd (Z7 h) (λz=>by injection z with z;omega)) (λ_=>?_)};let so:Txt.startswith3 x (Y "(") ((i+w0.length:Nat):Int)=O:=by rw[fg () hx1,e40,rT];rfl
  show{01,a,dx1,01,ha1,nM _ _,a,x,Y "(",i+w0.length,1,sg1,3,λe=>absurd e (by rw[so];decide),λ_ H2 s2 sg2=>{01,aK ?_}};rw[rT]at sg2;show fc ?_;dsimp only;show{ϋ _,λl hl=>?_};show dQ ?_;dsimp only;ext(⟨dx2,ha2⟩:sg2);let s02:=s1.trans s2;let la:l≠a:=λz=>by rw[z,ha2]at hl;cases hl
  let old:∀b,H2 b=Β->b≠a->H b=Β:=λb hb hba=>by
   cases e:H b with
   |none=>rfl
   |some o=>rw[s02 b o hba e]at hb;cases hb
  let hl0:=old l hl la;let s3:=ac hl (.lst []);let l3:upd H2 l (.lst []) l=Z (.lst []):=aa;let o3:∀b,upd H2 l (.lst []) b=Β->H b=Β:=λb hb=>by
   let h1:b≠l:=λz=>by rw[z,aa]at hb;cases hb
   rw[ai h1]at hb;show old b hb (λz=>by rw[z,ha2]at hb;cases hb)
  let ha3:=s3 _ _ ha2;generalize upd H2 l (.lst [])=H3 at s3 l3 o3 ha3⊢;let s03:=s02.trans (af.b a s3);let ex:x.length=x.cps.size:=U;let dl:∀{p:Nat}{u:List Nat},p<=x.length->x.cps.toList.drop p=u->p+u.length=x.length:=λ{p u} hp e=>by let:=congrArg y6 e;rw[Ϯ,Θ]at this;omega
  let rd:∀(u:Br)(rest:List (Br))(H4:Hp)(us:List V)(p:Nat)(dxx:υ)(c:V->Hp->Prop),u∈ts->H4 a=Z (.ins C dxx [(Y "text",.str x),(Y "at",.int (p:Int))])->p<=x.length->x.cps.toList.drop p=(aL u).cps.toList++Hr post rest->H4 l=Z (.lst us)->us.length<=8 ->
    (∀H5 v5 q5,ap a H4 H5->Sg C H5 a x q5->q5<=x.length->x.cps.toList.drop q5=Hr post rest->aj (nw H4 H5) (bO u) v5->c .non (upd H5 l (.lst (us++[v5])))) ->
    ik C n [.ref a,.int (most-1)] H4 (λv H5=>rX (.ref l) [v] H5 c) E0:=λu rest H4 us p dxx c hu h4 hp hdp hl4 lus k=>by
   ext(⟨ou,du⟩:N.ok u hu);show{a,x,p,most-1,u,Hr post rest,1,{dxx,h4},lx,hp,hdp,Ky _ _,ou,33,λH5 v5 s5 sg5 R5=>?_};let hq:=dl hp hdp;rw[Ε,Θ]at hq;let eb:(aL u).length=(aL u).cps.size:=U;show{l,us,v5,11,s5 _ _ la hl4,3,k H5 v5 _ s5 sg5 () ?_ R5};rw[show(aL u).length=(aL u).cps.toList.length from(Θ).symm];show mM hdp
  let wl:∀{H':Hp}{o:HO},ap a H H'->ap a H (upd H' l o):=λ{H' o} s' b ob hb e=>by rw[ai (ah e hl0)];show s' b ob hb e
  let sgl:∀{H':Hp}{o:HO}{p:Nat},Sg C H' a x p->Sg C (upd H' l o) a x p:=λ{H' o p} ⟨d,e⟩=>{d,by rw[ai (ϝ la)];show e};let nwl:∀{H':Hp}{o:HO},af (nw H3 H') (nw H3 (upd H' l o)):=λ{H' o}=>lF λb ob hb e=>by rw[ai (λz=>by rw[z,l3]at hb;cases hb)];show e
  let unl:∀{H':Hp}{o:HO}{b:υ},upd H' l o b=Β->H' b=Β:=λ{H' o b} hb=>by
   let h1:b≠l:=λz=>by rw[z,aa]at hb;cases hb
   rwa[ai h1]at hb
  let fin:∀(H6:Hp)(us:List V)(p:Nat),ap a H H6->Sg C H6 a x (p+1)->p<=x.length->x.cps.toList.drop p=41::post->H6 l=Z (.lst us)->Reps (nw H3 H6) (ts.map bO) us->∀t0,H6 t0=Β->Q (.ref t0) (upd H6 t0 (.tup [.str w0,.ref l])):=λH6 us p s6 sg6 hp5 hd5' l6 R6 t0 h0=>by
   ext(⟨dx6,ha6⟩:sg6);let t0a:t0≠a:=λz=>by rw[z,ha6]at h0;cases h0
   let h00:H t0=Β:=by
    cases e:H t0 with
    |none=>rfl
    |some o=>rw[s6 t0 o t0a e]at h0;cases h0
   let s7:=ac h0 (.tup [.str w0,.ref l]);let h1:=dl hp5 hd5';let h2:=dl hi hd;rw[Ε,Θ]at h2;rw[Δ]at h1;let eb:(aL t).length=(aL t).cps.size:=U;let ep:p+1=i+(aL t).length:=();show q _ _ (s6.trans (af.b a s7)) {dx6,by rw[<-ep];show s7 _ _ ha6} ?_;let R7:=(R6.mono (mG o3)).mono (lF λb ob hb e=>s7 _ _ e);rw[N.dv,aj];show{t0,[.str w0,.ref l],122}
   .unfold nw;rw[h00];show aa
   .simp only[Reps];show{001300121};rw[aj];show{l,us,1,by unfold nw;rw[hl0];show s7 _ _ l6,R7}
  cases ts with
  |nil=>
   let hd3:=hx2;let y2:Txt.startswith3 x (Y ")") ((i+w0.length+1:Nat):Int)=O:=by rw[fg () hd3,e41,qh];rfl
   show{01,a,dx2,01,ha3,nM _ _,a,x,Y ")",i+w0.length+1,1,{dx2,ha3},3,λe=>absurd e (by rw[y2];decide),λ_ H6 s6 sg6=>{01,aK ?_}};rw[qh]at sg6;show fc ?_;dsimp only;show{0101,z2,fin H6 [] _ (s03.trans s6) sg6 () hd3 (s6 _ _ la l3) (by simp only[u9,Reps])}
  |cons t1 ts=>
   let nc:Txt.startswith3 x (Y ")") ((i+w0.length+1:Nat):Int)=J:=by ext(⟨d,r,e,ne⟩:GZ (N.ok t1 π).1);rw[fg () hx2,e41,qh,Mg,e];rw[beq_eq_false_iff_ne];intro z;injection z with z _;show ne z
   show{01,a,dx2,01,ha3,nM _ _,a,x,Y ")",i+w0.length+1,1,{dx2,ha3},3,λ_=>{01,aH ?_},λe=>absurd e (by rw[nc];decide)};show{01,.inl {10,aD.of l3},01,a,dx2,01,ha3,nB _ _,0100112};dsimp only[mf,i_,h_,ϔ,jG];show rd t1 ts H3 [] (i+w0.length+1) dx2 _ π ha3 () hx2 l3 (ϋ _) λH4 v4 p4 s4 sg4 hp4 hd4 R4=>?_;show{λm σ H'=>∃(dn rest:List (Br)) (us:List V) (p:Nat),t1::ts=dn++rest/\m=rest.length/\σ=[Z (.ref a),Z (.int most),Z (.str w0),Z (.ref l)]/\ap a H H'/\Sg C H' a x p/\p<=x.length/\x.cps.toList.drop p=Hr post rest/\H' l=Z (.lst us)/\Reps (nw H3 H') (dn.map bO) us/\∀b,H' b=Β->H3 b=Β,{0,[t1],ts,[v4],p4,111,wl (s03.trans s4),sgl sg4,hp4,hd4,aa,(be R4).mono nwl,λb hb=>iP s4 sg4 (unl hb)},2};ext m σ H5 ⟨dn,rest,us,p,et,rfl,rfl,s5,sg5,hp5,hd5,l5,R5,k5⟩;let le:=N.le;rw[Δ]at le;let lus:us.length+rest.length<=8:=by let:=R5.length;rw[ε]at this;let e2:=congrArg y6 et;rw[Δ,Ε]at e2;omega
   ext(⟨dx5,ha5⟩:id sg5);cases rest with
   |nil=>
    let hd5':x.cps.toList.drop p=41::post:=hd5;let n2:Txt.startswith3 x (Y ", ") (p:Int)=J:=by rw[fg hp5 hd5',e44,gJ,beq_eq_false_iff_ne];intro z;rw[List.take_succ_cons]at z;injection z with z _;show absurd z ()
    let y2:Txt.startswith3 x (Y ")") (p:Int)=O:=by rw[fg hp5 hd5',e41,qh];rfl
    show{01,a,dx5,01,ha5,nM _ _,a,x,Y ", ",p,1,sg5,3,λ_=>{01,aK ?_},λe=>absurd e (by rw[n2];decide)};show{01,a,dx5,01,ha5,nM _ _,a,x,Y ")",p,1,sg5,3,λe=>absurd e (by rw[y2];decide),λ_ H6 s6 sg6=>?_};rw[qh]at sg6;show{0101,z2,fin H6 us p (s5.trans s6) sg6 hp5 hd5' (s6 _ _ la l5) ?_};rw[ϔ]at et;rw[et];show R5.mono (lF λb ob hb e=>s6 b ob (λz=>by rw[z,ha3]at hb;cases hb) e)
   |cons u rest=>
    let hd5':x.cps.toList.drop p=[44,32]++((aL u).cps.toList++Hr post rest):=hd5;let y2:Txt.startswith3 x (Y ", ") (p:Int)=O:=by rw[fg hp5 hd5',e44,gJ];rfl
    show{01,a,dx5,01,ha5,nM _ _,a,x,Y ", ",p,1,sg5,3,λe=>absurd e (by rw[y2];decide),λ_ H6 s6 sg6=>{01,aH ?_}};rw[gJ]at sg6;ext(⟨dx6,ha6⟩:id sg6);let l6:=s6 _ _ la l5;let um:u∈t1::ts:=by rw[et];show ϛ _ π
    let hd6:=mM hd5';let hp6:p+2<=x.length:=by let:=dl hp5 hd5';rw[Ε]at this;simp only[Δ,B6]at this;omega
    show{λσ' H'=>∃(dn' rest':List (Br)) (us':List V) (p':Nat),t1::ts=dn'++rest'/\rest'.length<(u::rest).length/\σ'=[Z (.ref a),Z (.int most),Z (.str w0),Z (.ref l)]/\ap a H H'/\Sg C H' a x p'/\p'<=x.length/\x.cps.toList.drop p'=Hr post rest'/\H' l=Z (.lst us')/\Reps (nw H3 H') (dn'.map bO) us'/\∀b,H' b=Β->H3 b=Β,by ext σ' H' ⟨dn',rest',us',p',h1,h2,h3,h4,h5,h6,h7,h8,h9⟩;show{rest'.length,h2,dn',rest',us',p',h1,1,h3,h4,h5,h6,h7,h8,h9},2};rw[Δ]at lus;show{01,.inl {10,aD.of l6},01,a,dx6,01,ha6,nB _ _,0100112};dsimp only[mf,i_,h_,ϔ,jG];show rd u rest H6 us (p+2) dx6 _ um ha6 hp6 hd6 l6 () λH7 v7 p7 s7 sg7 hp7 hd7 R7=>?_;let keep:=λb hb=>k5 b (iP s6 sg6 hb);show{dn++[u],rest,us++[v7],p7,by rw[et,Γ];rfl,by rw[Δ];omega,1,wl ((s5.trans s6).trans s7),sgl sg7,hp7,hd7,aa,2,λb hb=>keep b (iP s7 sg7 (unl hb))};rw[Κ];show Reps.append ((R5.mono (lF λb ob hb e=>s7 b ob (λz=>by rw[z,ha3]at hb;cases hb) (s6 b ob (λz=>by rw[z,ha3]at hb;cases hb) e))).mono nwl) (be ((R7.mono (mG keep)).mono nwl))
end
def cj:Kd->Br
 |.whole=>.leaf (Y "whole")
 |.place c ps=>.nd (Y "place") [.leaf (dN c ps)]
 |.row c ps k=>.nd (Y "row") [.leaf (dN c ps),cj k]
 |.pair a b=>.nd (Y "pair") [cj a,cj b]
def fX:∀k,aL (cj k)=gT k
 |.whole=>by rw[cj,aL,gT]
 |.place c ps=>by rw[cj,aL,gT,brTs,brTs,aL]
 |.row c ps k=>by rw[cj,aL,gT,brTs,brTs,brTs,aL,fX k]
 |.pair a b=>by rw[cj,aL,gT,brTs,brTs,brTs,fX a,fX b]
def iL:∀k,ba (cj k)<=k.size
 |.whole=>by rw[cj,ba];show ϋ _
 |.place c ps=>by rw[cj,ba,brDps,brDps,ba];show Α _
 |.row c ps k=>by rw[cj,ba,brDps,brDps,brDps,ba];let:=iL k;change _<=k.size+1;omega
 |.pair a b=>by rw[cj,ba,brDps,brDps,brDps];let:=iL a;let:=iL b;change _<=a.size+b.size+1;omega
def Sm(c:Int)(ps:List Pr):Prop:=Wa c ps/\SL c ps
def bn(h:∀c ps,p c ps->q c ps):∀{k:Kd},k.All p->k.All q
 |.whole,_=>trivial
 |.place _ _,a=>h _ _ a
 |.row _ _ _,a=>{h _ _ a.1,bn h a.2}
 |.pair _ _,a=>{bn h a.1,bn h a.2}
def iQ(h:bT x=O):∀c∈x.cps.toList,bo c=J:=λc a=>tF ((ci h).2.2 c a)
def nv(a:Wa c ps):bG (.leaf (dN c ps)):=by rw[bG];show{ql a,2};ext(⟨d,r,e,_⟩:Be a);let:=congrArg y6 e;rw[Θ,Δ]at this;omega
def mz(h:bT x=O):bG (.leaf x):=by rw[bG];show{iQ h,(aV h).1}
def jz:∀{k:Kd},k.All Wa->bG (cj k)
 |.whole,_=>mz ()
 |.place c ps,h=>by rw[cj,bG];show{iQ (),3,by rw[brOks,brOks];show{nv h,trivial}}
 |.row c ps k,h=>by rw[cj,bG];show{iQ (),3,by rw[brOks,brOks,brOks];show{nv h.1,jz h.2,trivial}}
 |.pair a b,h=>by rw[cj,bG];show{iQ (),3,by rw[brOks,brOks,brOks];show{jz h.1,jz h.2,trivial}}
def Ag(R:Dv->Br->Prop):So->Dv->Br->Prop
 |.e,d,b=>R d b
 |.l,d,b=>∃c ps,d=db c ps/\b=.leaf (dN c ps)/\Sm c ps
 |.k,d,b=>∃k:Kd,d=k.dv/\b=cj k/\k.All Sm/\k.size<=12
 |.x,d,b=>∃y,d=.str y/\b=.leaf y/\bT y=O
 |.y,d,b=>∃y,d=.str y/\b=.leaf y/\bT y=O
 |_,_,_=>False
inductive mq (R:Dv->Br->Prop):List So->List Dv->List Br->Prop
 |nil:mq R [] [] []
 |cons {s:So} {d:Dv} {b:Br} {ss:List So} {ds:List Dv} {bs:List Br}:Ag R s d b->mq R ss ds bs->mq R (s::ss) (d::ds) (b::bs)
inductive pK (R:Dv->Br->Prop):List Dv->List Br->Prop
 |nil:pK R [] []
 |cons {d:Dv} {b:Br} {ds:List Dv} {bs:List Br}:R d b->pK R ds bs->pK R (d::ds) (b::bs)
def JZ(x:Str):Bool:=decide (x≠"number")&&(decide (x≠"name")&&(decide (x≠"call")&&(decide (x≠"reckon")&&decide (x≠"row"))))
def jO:Wd:=("call","fa",[.f,.a])
def nF:Wd:=("reckon","wee",[.w,.e,.e])
def wn:Wd:=("row","r",[.r])
def Dq:Wd:=("number","n",[.n])
def xy:Wd:=("name","x",[.x])
def pT:jO∈WT/\nF∈WT/\wn∈WT/\Dq∈WT/\xy∈WT:=()
def Wx:Nat->Dv->Br->Prop
 |0,_,_=>False
 |n+1,d,b=>
  (∃i:Int,0<=i/\i<10^12/\d=.tup [.str (Y "number"),.int i]/\b=.leaf (bx i)) \/
  (∃y,bT y=O/\d=.tup [.str (Y "name"),.str y]/\b=.leaf y) \/
  (∃f ds bs,bT f=O/\cw f=J/\cS f=J/\ds.length<=4/\pK (Wx n) ds bs/\d=.tup [.str (Y "call"),.str f,.tup ds]/\b=.nd f bs) \/
  (∃r d1 d2 a c,cS r=O/\Wx n d1 a/\Wx n d2 c/\d=.tup [.str (Y "reckon"),.str r,d1,d2]/\b=.nd r [a,c]) \/
  (∃ds bs,1<=ds.length/\ds.length<=4/\pK (Wx n) ds bs/\d=.tup [.str (Y "row"),.tup ds]/\b=.nd (Y "row") bs) \/
  (∃p ds bs,p∈WT/\JZ p.1=O/\mq (Wx n) p.2.2 ds bs/\(p.1≠"fold"\/lK ds=O)/\d=.tup (.str p.1::ds)/\b=.nd p.1 bs)
def pK.len(h:pK R ds bs):bs.length=ds.length:=by
 induction h with
 |nil=>rfl
 |cons _ _ a=>rw[Δ,Δ,a]
def pK.mem(h:pK R ds bs):(∀d∈ds,∃b∈bs,R d b)/\∀b∈bs,∃d∈ds,R d b:=by
 induction h with
 |nil=>show{nofun,nofun}
 |cons a _ f=>
  show{λd e=>?_,λb c=>?_}
  .rcases ξ.mp e with rfl|e
   .show{0,π,a}
   .ext(⟨b,c,r⟩:f.1 d e);show{b,ρ _ c,r}
  .rcases ξ.mp c with rfl|c
   .show{0,π,a}
   .ext(⟨d,e,r⟩:f.2 b c);show{d,ρ _ e,r}
def mq.len(h:mq R ss ds bs):bs.length=ss.length/\ds.length=ss.length:=by
 induction h with
 |nil=>show{11}
 |cons _ _ a=>show{by rw[Δ,Δ,a.1],by rw[Δ,Δ,a.2]}
def kX:∀p∈WT,bT p.1=O:=()
def eV:∀r∈sY,bT r=O/\cw r=J:=()
def cR(h:cS r=O):r∈sY:=by let:=n_.mp h;ext(⟨v,b,e⟩:this);ext(⟨y,a,rfl⟩:Ρ.mp b);rw[<-(Z7 e)];show a
def On(f:∀d b,R d b->bG b/\ba b<=n+12):∀{s:So}{d:Dv}{b:Br},Ag R s d b->bG b/\ba b<=n+12
 |.e,_,_,h=>f _ _ h
 |.l,_,_,h=>by ext(⟨c,ps,_,rfl,g⟩:h);show{nv g.1,by rw[ba];omega}
 |.k,_,_,h=>by ext(⟨k,_,rfl,e,i⟩:h);let:=iL k;show{jz (bn (λ_ _ h=>h.1) e),3}
 |.x,_,_,h=>by ext(⟨y,_,rfl,a⟩:h);show{mz a,by rw[ba];omega}
 |.y,_,_,h=>by ext(⟨y,_,rfl,a⟩:h);show{mz a,by rw[ba];omega}
def JP(f:∀d b,R d b->bG b/\ba b<=n+12)(h:mq R ss ds bs):∀b∈bs,bG b/\ba b<=n+12:=by
 induction h with
 |nil=>show nofun
 |cons a _ e=>
  intro b c;rcases ξ.mp c with rfl|c
  .show On f a
  .show e b c
def sq:∀{bs:List Br},(∀b∈bs,ba b<=n)->brDps bs<=n
 |[],_=>ϋ _
 |b::bs,h=>by rw[brDps];let:=h b π;let:=sq λc a=>h c (ρ _ a);omega
def zq(c:bT w=O)(d:bs.length<=8)(h:∀b∈bs,bG b/\ba b<=n+12):bG (.nd w bs)/\ba (.nd w bs)<=n+1+12:=by rw[bG,ba];let:=sq λb a=>(h b a).2;show{{iQ c,d,mZ λb a=>(h b a).1},3}
def Dt(e:0<=i)(f:i<10^12):bG (.leaf (bx i)):=by ext(⟨a,b,c⟩:fJ (gK e ()).1);rw[bG];show{λc d=>nH (a c d),b}
def qS:∀{n:Nat}{d:Dv}{b:Br},Wx n d b->bG b/\ba b<=n+12
 |n+1,d,b,h=>by
  let g:∀d b,Wx n d b->bG b/\ba b<=n+12:=λd b=>qS;rw[Wx]at h;rcases h with ⟨i,q,t,rfl,rfl⟩|⟨y,m,rfl,rfl⟩|⟨f,ds,bs,s,_,_,o,c,rfl,rfl⟩|⟨r,d1,d2,v,x,u,l,k,rfl,rfl⟩|⟨ds,bs,w,o,c,rfl,rfl⟩|⟨p,ds,bs,j,_,c,_,rfl,rfl⟩
  .show{Dt q t,by rw[ba];omega}
  .show{mz m,by rw[ba];omega}
  .show zq s (by rw[c.len];omega) λb e=>by ext(⟨d,_,r⟩:c.mem.2 b e);show g d b r
  .show zq (eV r (cR u)).1 () λb e=>?_;rcases ξ.mp e with rfl|e
   .show g _ _ l
   .rw[ο.mp e];show g _ _ k
  .show zq () (by rw[c.len];omega) λb e=>by ext(⟨d,_,r⟩:c.mem.2 b e);show g d b r
  .show zq (kX p j) (by rw[c.len.1];let:=eS p j;omega) (JP g c)
def DX(i:∀d b,R d b->d.small=O):∀{s:So}{d:Dv}{b:Br},Ag R s d b->mx s d=O/\d.small=O
 |.e,d,b,h=>{1,i _ _ h}
 |.l,_,_,h=>by ext(⟨c,ps,rfl,_,f⟩:h);show{f.2.1,f.2.2}
 |.k,_,_,h=>by ext(⟨k,rfl,_,g,j⟩:h);let a:=bn (λ_ _ h=>h.2) g;show{Z9 (by rw[iG a];omega),hF a}
 |.x,_,_,h=>by ext(⟨y,rfl,_,e⟩:h);show{e,Z9 (by let:=(aV e).2;omega)}
 |.y,_,_,h=>by ext(⟨y,rfl,_,e⟩:h);show{e,Z9 (by let:=(aV e).2;omega)}
def FV(f:∀d b,R d b->d.small=O)(h:mq R ss ds bs):pW ss ds=O/\∀d∈ds,d.small=O:=by
 induction h with
 |nil=>show{1,nofun}
 |cons a _ e=>
  show{by rw[pW,(DX f a).1,e.1];rfl,λd c=>?_};rcases ξ.mp c with rfl|c
  .show(DX f a).2
  .show e.2 d c
def gi(h:bT x=O):(Dv.str x).small=O:=Z9 (by let:=(aV h).2;omega)
def sk(h:m<=ds.length)(a:ds.length<=4):fA m (.tup ds)=O:=by change(decide (m<=(ds.length:Int))&&decide ((ds.length:Int)<=4))=O;rw[Z9 h,Z9 ()];rfl
def cv(b:bT x=O)(h:∀d∈ds,d.small=O)(c:ds.length<=10):(Dv.tup (.str x::ds)).small=O:=
 bb (λd a=>by
  rcases ξ.mp a with rfl|a
  .show gi b
  .show h d a) (by rw[Δ];omega)
def dg:∀{n:Nat}{d:Dv}{b:Br},Wx n d b->gm d=O/\d.small=O
 |n+1,d,b,h=>by
  let j:∀d b,Wx n d b->d.small=O:=λd b h=>(dg h).2;rw[Wx]at h;rcases h with ⟨i,H,t,rfl,rfl⟩|⟨y,q,rfl,rfl⟩|⟨f,ds,bs,s,u,k,m,c,rfl,rfl⟩|⟨r,d1,d2,z,X,k,w,v,rfl,rfl⟩|⟨ds,bs,Q,m,c,rfl,rfl⟩|⟨p,ds,bs,o,_,c,g,rfl,rfl⟩
  .let e:=cb pT.2.2.2.1 [.int i];show{e.trans ?_,cv () (λd a=>by rw[ο.mp a];rfl) ()};change((kt 1000000000000 (.int i)&&O)&&_)=O;rw[show kt 1000000000000 (.int i)=O from by unfold kt;simp;omega];rw[show decide (Dq.1≠Y "fold")=O from by decide +kernel];rfl
  .let e:=cb pT.2.2.2.2 [.str y];show{e.trans ?_,cv () (λd a=>by rw[ο.mp a];show gi q) ()};change((bT y&&O)&&_)=O;rw[q];rw[show decide (xy.1≠Y "fold")=O from by decide +kernel];rfl
  .let e:=cb pT.1 [.str f,.tup ds];let l:∀d∈ds,d.small=O:=λd a=>by ext(⟨b,_,r⟩:c.mem.1 d a);show j d b r
   show{e.trans ?_,cv () (λd a=>?_) ()}
   .change((md (.str f)&&(fA 0 (.tup ds)&&O))&&_)=O;rw[sk () m,show md (.str f)=O from by unfold md;simp[s,u,k]];rw[show decide (jO.1≠Y "fold")=O from by decide +kernel];rfl
   .rcases ξ.mp a with rfl|a
    .show gi s
    .rw[ο.mp a];show bb l ()
  .let e:=cb pT.2.1 [.str r,d1,d2];show{e.trans ?_,cv () (λd a=>?_) ()}
   .change((CN (.str r)&&(O&&(O&&O)))&&_)=O;rw[show CN (.str r)=O from k];rw[show decide (nF.1≠Y "fold")=O from by decide +kernel];rfl
   .rcases ξ.mp a with rfl|a
    .show gi (eV r (cR k)).1
    .rcases ξ.mp a with rfl|a
     .show j _ _ w
     .rw[ο.mp a];show j _ _ v
  .let e:=cb pT.2.2.1 [.tup ds];let l:∀d∈ds,d.small=O:=λd a=>by ext(⟨b,_,r⟩:c.mem.1 d a);show j d b r
   show{e.trans ?_,cv () (λd a=>by rw[ο.mp a];show bb l ()) ()};change((fA 1 (.tup ds)&&O)&&_)=O;rw[sk () m];rw[show decide (wn.1≠Y "fold")=O from by decide +kernel];rfl
  .ext(⟨t,x⟩:FV j c);show{(cb o ds).trans ?_,cv (kX p o) x (by rw[c.len.2];let:=eS p o;omega)};rw[t];rcases g with g|g
   .rw[Z9 g];rfl
   .rw[g,Bool.or_true];rfl
def bl(b:Br):Nat:=(aL b).length
def OK:So->Nat
 |.l=>1540
 |.k=>20400
 |.x=>8
 |.y=>8
 |_=>0
def JL:∀p∈WT,(p.2.2.map OK).sum<=20400/\p.1.length<=8:=()
def si(w:Str)(bs:List Br):bl (.nd w bs)<=w.length+2+(bs.map bl).sum+bs.length*2:=by change(aL (.nd w bs)).length<=w.length+2+(bs.map bl).sum+bs.length*2;rw[aL,ς,ς,ς,rT,qh,dE];let:=dM (Y ", ") (bs.map aL);rw[gJ,ε,Ϙ]at this;let e:((λx:Str=>x.length)∘aL)=bl:=U;rw[e]at this;omega
def jR(s:Str):∀ys:List Str,(ys.map (·.length)).sum<=(Τ s ys).length
 |[]=>ϋ _
 |[a]=>by rw[aR];simp
 |a::b::r=>by let c:=jR s (b::r);rw[aO,ς,ς];simp only[ϊ,A0]at c⊢;omega
def vV(w:Str)(bs:List Br):(bs.map bl).sum<=bl (.nd w bs):=by change(bs.map bl).sum<=(aL (.nd w bs)).length;rw[aL,ς,ς,ς,dE];let:=jR (Y ", ") (bs.map aL);rw[Ϙ]at this;let e:((λx:Str=>x.length)∘aL)=bl:=U;rw[e]at this;omega
def vb{bs:List Br}{b:Br}(h:b∈bs):bl b<=(bs.map bl).sum:=mJ (j_ h)
def JI(f:∀d b,R d b->bl b<=24000*dC n d):∀{s:So}{d:Dv}{b:Br},Ag R s d b->bl b<=OK s+24000*((mT s d).map (dC n)).sum
 |.e,d,b,h=>by let:=f _ _ h;change bl b<=0+24000*(dC n d+0);omega
 |.l,_,_,h=>by ext(⟨c,ps,_,rfl,g⟩:h);let:=dG g.1.1;unfold bl;rw[aL];change _<=1540+_;omega
 |.k,_,_,h=>by ext(⟨k,_,rfl,e,i⟩:h);let:=cr (bn (λ_ _ h=>h.1.1) e);unfold bl;rw[fX];change _<=20400+_;omega
 |.x,_,_,h=>by ext(⟨y,_,rfl,a⟩:h);let:=(aV a).2;unfold bl;rw[aL];change y.cps.size<=8+_;omega
 |.y,_,_,h=>by ext(⟨y,_,rfl,a⟩:h);let:=(aV a).2;unfold bl;rw[aL];change y.cps.size<=8+_;omega
def zo(c:∀d b,R d b->bl b<=24000*dC n d)(h:mq R ss ds bs):(bs.map bl).sum<=(ss.map OK).sum+24000*((bL ss ds).map (dC n)).sum:=by
 induction h with
 |nil=>show ϋ _
 | @cons s d b ss ds bs a _ e=>have:=JI c a;rw[show bL (s::ss) (d::ds)=mT s d++bL ss ds from U,Κ,O0];simp only[ϊ,A0];omega
def Ao(c:∀d b,R d b->bl b<=24000*dC n d)(h:pK R ds bs):(bs.map bl).sum<=24000*(ds.map (dC n)).sum:=by
 induction h with
 |nil=>show ϋ _
 | @cons d b ds bs a _ e=>have:=c _ _ a;simp only[ϊ,A0];omega
def gN(a:p∈WT)(h:gm (.tup (.str p.1::ds))=O):dC (n+1) (.tup (.str p.1::ds))=1+((bL p.2.2 ds).map (dC n)).sum:=by rw[dC,Z5 h,parts_of a]
def tD:∀{n:Nat}{d:Dv}{b:Br},Wx n d b->bl b<=24000*dC n d
 |n+1,d,b,h=>by
  let hR:∀d b,Wx n d b->bl b<=24000*dC n d:=λd b h=>tD h;let hn:=(dg h).1;let c1:=zd (n+1) d;rw[Wx]at h;rcases h with ⟨i,h0,h1,rfl,rfl⟩|⟨y,hy,rfl,rfl⟩|⟨f,ds,bs,hf,hw,hr,l4,ha,rfl,rfl⟩|⟨r,d1,d2,b1,b2,hr,w1,w2,rfl,rfl⟩|⟨ds,bs,l1,l4,ha,rfl,rfl⟩|⟨p,ds,bs,hp,_,ha,fo,rfl,rfl⟩
  .let:=gz h0 ();unfold bl;rw[aL];omega
  .let e:y.length=y.cps.size:=U;let:=(aV hy).2;unfold bl;rw[aL];omega
  .let e:=gN (n:=n) pT.1 hn;let e2:bL jO.2.2 [.str f,.tup ds]=ds:=by change []++(ds++[])=ds;rw[ϔ,i_]
   rw[e2]at e;let h1:=si f bs;let h2:=Ao hR ha;let h3:=ha.len;let h4:f.length=f.cps.size:=U;let h5:=(aV hf).2;change _<=24000*dC (n+1) (.tup (.str jO.1::[.str f,.tup ds]));rw[e];omega
  .let e:=gN (n:=n) pT.2.1 hn;let h1:=si r [b1,b2];let h2:=hR _ _ w1;let h3:=hR _ _ w2;let h4:r.length=r.cps.size:=U;let h5:=(aV (eV r (cR hr)).1).2;let e2:((bL nF.2.2 [.str r,d1,d2]).map (dC n)).sum=dC n d1+(dC n d2+0):=U;rw[e2]at e;simp only[ϊ,u9,A0,List.sum_nil,Δ,B6]at h1;change _<=24000*dC (n+1) (.tup (.str nF.1::[.str r,d1,d2]));rw[e];omega
  .let e:=gN (n:=n) pT.2.2.1 hn;let e2:bL wn.2.2 [.tup ds]=ds:=by change ds++[]=ds;rw[ϔ]
   rw[e2]at e;let h1:=si (Y "row") bs;let h2:=Ao hR ha;let h3:=ha.len;let h4:(Y "row").length=3:=();change _<=24000*dC (n+1) (.tup (.str wn.1::[.tup ds]));rw[e];omega
  .let e:=gN (n:=n) hp hn;let h1:=si p.1 bs;let h2:=zo hR ha;let h3:=ha.len.1;let h4:=eS p hp;let h5:=JL p hp;rw[e];omega
abbrev ja:ϸ:=top 52
abbrev oz:ϸ:=top 53
abbrev fU:ϸ:=top 54
def pK.get(h:pK R ds bs):∀{i:Nat}{d:Dv},ds[i]?=Z d->∃b,bs[i]?=Z b/\R d b:=by
 induction h with
 |nil=>intro i d e;cases e
 |cons a _ c=>
  intro i d e;cases i with
  |zero=>cases e;show{01,a}
  |succ i=>show c e
def bv(b:Br):V:=.str (aL b)
inductive uw (n:Nat) (vs:List V) (H:Hp) (Q:VK) (u3_:XK):Prop|mk (v:V) (d:Dv) (b:Br) (_:vs=[v]) (_:aj H d v) (_:Wx n d b) (_:bl b<=1000000) (_:∀H',af H H'->Q (bv b) H')
inductive JA (n:Nat) (vs:List V) (H:Hp) (Q:VK) (u3_:XK):Prop|mk (a:υ) (us:List V) (ds:List Dv) (bs:List Br) (_:vs=[.ref a]) (_:H a=Z (.tup us)) (_:Reps H ds us) (_:pK (Wx n) ds bs) (_:ds.length<=4) (_:(bs.map bl).sum<=1000000) (_:∀(H':Hp)(l:υ),af H H'->H l=Β->H' l=Z (.lst (bs.map bv))->Q (.ref l) H')
inductive IM (n:Nat) (vs:List V) (H:Hp) (Q:VK) (u3_:XK):Prop|mk (s:So) (v:V) (d:Dv) (b:Br) (_:vs=[.str (gj s),v]) (_:aj H d v) (_:Ag (Wx n) s d b) (_:bl b<=1000000) (_:∀H',af H H'->Q (bv b) H')
section
variable{P:Ι}{w:ώ}{K:η}{mg:Str->Option ν}{base:ϙ}
def wj(F:Fun K "show_all" "show_all" oz f fd)(T:Txt K mg)(u:bf P w K mg base k "show_expression" ["expression"] (uw n)):au P w K mg base bg (k+1) f fd ["expressions"] (JA n):=by
 show F.okA (N:=["expressions"]) λC A I s H vs Q E W M h=>?_;ext(⟨a,us,ds,bs,rfl,t,r,m,L,B,q⟩:h);let S:=r.length;let V:=m.len;show{0,bZ (pY ["each"] [] (Jc (wv 0)) (.of U) U (λ_ _ _=>{pg_name (i:=0) (bK (l:=["each"]) (()) U) U (z_ U)}) (bz ()) (λ_ _ _=>oW) (λ_ _ _=>(aQ u (aW 0)))),{01,a,1,{us,aw.of t},ku (λi ys H'=>af H H'/\ys=(bs.take i).map bv) {af.refl _,1} (λi ys H' _ p=>aw.of (p.1 _ _ t)) ?_ ?_}}
 .ext i ys v x y ⟨c,rfl⟩;ext(⟨d,D,z⟩:r.get y);ext(⟨b,j,R⟩:m.get D);let:=vb (ό j);show bt {01,x,d,b,1,z.mono c,R,3,λG X=>{2,c.trans X,2}}
  .rw[ε,Φ,ι];omega
  .rw[Ϥ,j,Κ];rfl
 .ext ys v ⟨c,rfl⟩ l g;rw[show us.length=bs.length by omega,ϧ];show q _ l (c.trans (ac g _)) (by
   cases e:H l with
   |none=>rfl
   |some o=>rw[c l o e]at g;cases g) aa
def om(F:Fun K "show_behind" "show_behind" ja f fd)(T:Txt K mg)(o:bf P w K mg base k "show_length" ["a"] rG)(p:bf P w K mg base k "show_kind" ["kind"] (iY 12))(m:bf P w K mg base k "show_expression" ["expression"] (uw n)):au P w K mg base bg (k+1) f fd ["sort","given"] (IM n):=by
 show F.okA (N:=["sort","given"]) λG A M s H vs Q E W L h=>?_;ext(⟨s,v,d,b,rfl,R,g,C,q⟩:h);show{0,cP (bA aA (wv 0) az) (aQ o (aW 1)) (cP (bA aA (wv 0) az) (aQ p (aW 1)) (cP (bA aA (wv 0) az) (aQ m (aW 1)) (bZ (wv 1)))),{01101,ao (λh=>?_) (λh=>?_)}}
 .cases(qV s).mp (Z7 h);ext(⟨c,ps,rfl,rfl,u⟩:g);show{01,v,c,ps,1,R,u.1.1,λj i=>?_};let:=q j i;unfold bv at this;rwa[aL]at this
 let V:=λz=>h (Z9 ((qV s).mpr z));show{01101,ao (λh=>?_) (λh=>?_)}
 .cases(rq s).mp (Z7 h);ext(⟨k,rfl,rfl,X,B⟩:g);show{01,v,k,1,R,33,bn (λ_ _ h=>h.1.1) X,λj i=>?_};let:=q j i;unfold bv at this;rwa[fX]at this
 let I:=λz=>h (Z9 ((rq s).mpr z));show{01101,ao (λh=>?_) (λh=>?_)}
 .cases(zX s).mp (Z7 h);show{01,v,d,b,1,R,g,C,q}
 let D:=λz=>h (Z9 ((zX s).mpr z));let t:∃y,d=.str y/\b=.leaf y/\bT y=O:=by
  cases s with
  |x=>show g
  |y=>show g
  |l=>show absurd U V
  |k=>show absurd U I
  |e=>show absurd U D
  |n=>show g.elim
  |w=>show g.elim
  |f=>show g.elim
  |a=>show g.elim
  |r=>show g.elim
 ext(⟨y,rfl,rfl,S⟩:t);obtain rfl:v=.str y:=R;let:=q H (af.refl _);unfold bv at this;rw[aL]at this;show{01,this}
end
def mq.get(h:mq R ss ds bs):∀{i:Nat}{s:So}{d:Dv},ss[i]?=Z s->ds[i]?=Z d->∃b,bs[i]?=Z b/\Ag R s d b:=by
 induction h with
 |nil=>intro i s d e;cases e
 |cons a _ f=>
  intro i s d e c;cases i with
  |zero=>cases e;cases c;show{01,a}
  |succ i=>show f e c
def sX(h:JZ x=O):x≠"number"/\x≠"name"/\x≠"call"/\x≠"reckon"/\x≠"row":=by unfold JZ at h;simp only[χ,decide_eq_true_eq]at h;show h
def se{x y:Str}(h:x≠y){α:Prop}(e:decide (V.str x=V.str y)=O):α:=(h (V.str.inj (Z7 e))).elim
def zZ(a:H l=Z (.lst (bs.map bv)))(b:bT z=O)(g:bs.length<=8)(c:bl (.nd z bs)<=1000000)(q:Q (bv (.nd z bs)) H):oQ [.str z,.ref l] H Q E:=by
 let d:=vV z bs;let f:=(aV b).2;show{z,l,bs.map aL,1,by rw[a,Ϙ];rfl,by change z.cps.size<=10;omega,22}
 .rw[Ϙ,ε];change(bs.map bl).sum+_<=_;omega
 .let e:bv (.nd z bs)=.str (z++Y "(" ++ Τ (Y ", ") (bs.map aL)++Y ")"):=by
   unfold bv;rw[aL,dE]
  rw[<-e];show q
section
variable{P:Ι}{w:ώ}{K:η}{mg:Str->Option ν}{base:ϙ}
def jo{f u4:υ}{fd:ϣ}{k n:Nat}(F:Fun K "show_expression" "show_expression" fU f fd)(T:Txt K mg)(S:Shp P w K u4)(GS:mg "SHAPES"=Z (.ref u4))(M:bf P w K mg base k "in_brackets" ["word","texts"] oQ)(W:bf P w K mg base k "show_all" ["expressions"] (JA n))(b6:bf P w K mg base k "show_behind" ["sort","given"] (IM n)):au P w K mg base bg (k+1) f fd ["expression"] (uw (n+1)):=by
 show F.okA (N:=["expression","word"]) λe5 A e1 s H vs Q E hr nd h=>?_;ext(⟨v,d,b,rfl,R,wx,B,q⟩:h);ext(⟨e4,FS,hS,e2⟩:S.ex);show{0,aS (aY 1 (bC 0)) (cP (bA aA (wv 1) az) (ka dO T.str (am (bC 0))) (cP (bA aA (wv 1) az) (bC 0) (cP (bA aA (wv 1) az) (aQ M (ar (bC 0) (am (aQ W (am (bC 0)))))) (cP (bA aA (wv 1) az) (aQ M (ar (bC 0) (am (aQ W (am (lJ iF (wv 0) (kh aE) mr)))))) (cP (bA aA (wv 1) az) (aQ M (ar az (am (aQ W (am (bC 0)))))) (bZ (aQ M (ar (wv 1) (am (pY (["sort","given"]) [] (OW U T.zip (ar (Qb FS (nU (.ref u4) GS) (wv 1)) (am (lJ iF (wv 0) (kh aE) mr)))) (.of U) U (λ_ _ _=>{pg_tup U (pgs_cons (pg_name (i:=0) (bK (l:=["sort","given"]) (()) U) U (z_ U)) (pgs_cons (pg_name (i:=1) (bK (l:=["sort","given"]) (()) U) U (z_ U)) pgs_nil))}) (kK () ()) (λ_ _ _=>oW) (λ_ _ _=>(aQ b6 (ar (wv 0) (aW 1)))))))))))))),2};rw[Wx]at wx;rcases wx with ⟨i,h0,G,rfl,rfl⟩|⟨y,hy,rfl,rfl⟩|⟨f,ds,bs,u1,hw,a3,u0,o,rfl,rfl⟩|⟨r,d1,d2,b1,b2,a3,w1,w2,rfl,rfl⟩|⟨ds,bs,l1,u0,o,rfl,rfl⟩|⟨p,ds,bs,hp,u1,o,fo,rfl,rfl⟩;all_goals ext(⟨a,vs,rfl,c,rs⟩:aj.tup_inv R)
 all_goals ext(⟨D,j,rfl,X,u⟩:cz rs)
 .obtain rfl:D=_:=X;ext(⟨x,rfl,rx⟩:eY u);obtain rfl:x=.int i:=rx;show{01,a,0,(0),011,aw.of c,ad U,2};show dQ {01101,ao (λh=>?_) (λh=>absurd (Z9 U) h)};let:=oq h0 ();show{01,a,0,(1),.int i,11,aw.of c,ad U,i,1,this,by let:=q H (af.refl _);unfold bv at this;rwa[aL]at this}
 .obtain rfl:D=_:=X;ext(⟨x,rfl,rx⟩:eY u);obtain rfl:x=.str y:=rx;show{01,a,0,(0),011,aw.of c,ad U,2};show dQ ?_;show{01101,ao (se ()) (λ_=>?_)};show{01101,ao (λ_=>?_) (λh=>absurd (Z9 U) h)};show{01,a,0,(1),.str y,11,aw.of c,ad U,by let:=q H (af.refl _);unfold bv at this;rwa[aL]at this}
 .obtain rfl:D=_:=X;ext(⟨L,x2,rfl,I,r2⟩:Reps.two u);obtain rfl:L=.str f:=I;ext(⟨t,us,rfl,e,u2⟩:aj.tup_inv r2);show{01,a,0,(0),011,aw.of c,ad U,2};show dQ ?_;show{01101,ao (se ()) (λ_=>?_)};show{01101,ao (se ()) (λ_=>?_)};show{01101,ao (λ_=>?_) (λh=>absurd (Z9 U) h)};let G:=vV f bs;show{01,a,0,(1),.str f,11,aw.of c,ad U,01,a,0,(2),.ref t,11,aw.of c,ad U,t,us,ds,bs,1,e,u2,o,u0,3,λS l m hn z=>zZ z u1 (by rw[o.len];omega) B (q _ m)}
 .obtain rfl:D=_:=X;ext(⟨L,j,rfl,I,b9⟩:cz u);obtain rfl:L=.str r:=I;show{01,a,0,(0),011,aw.of c,ad U,2};show dQ ?_;show{01101,ao (se ()) (λ_=>?_)};show{01101,ao (se ()) (λ_=>?_)};show{01101,ao (se ()) (λ_=>?_)};show{01101,ao (λ_=>?_) (λh=>absurd (Z9 U) h)};let G:=vV r [b1,b2];show{01,a,0,(1),.str r,11,aw.of c,ad U,{01,(2),12}};dsimp only[dj];show iJ c λS t m e=>?_;let u3:cO (V.str (Y "reckon")::V.str r::j) (Z 2) Β=j:=cZ (V.str (Y "reckon")::V.str r::j) 2;rw[u3]at e;show{t,j,[d1,d2],[b1,b2],1,e,b9.mono m,.cons w1 (.cons w2 .nil),33,λH2 l C hn z=>zZ z (eV r (cR a3)).1 () B (q _ (m.trans C))}
 .obtain rfl:D=_:=X;ext(⟨L,rfl,I⟩:eY u);ext(⟨t,us,rfl,e,u2⟩:aj.tup_inv I);show{01,a,0,(0),011,aw.of c,ad U,2};show dQ ?_;show{01101,ao (se ()) (λ_=>?_)};show{01101,ao (se ()) (λ_=>?_)};show{01101,ao (se ()) (λ_=>?_)};show{01101,ao (se ()) (λ_=>?_)};show{01101,ao (λ_=>?_) (λh=>absurd (Z9 U) h)};let G:=vV (Y "row") bs;show{01,a,0,(1),.ref t,11,aw.of c,ad U,t,us,ds,bs,1,e,u2,o,u0,3,λS l m hn z=>zZ z () (by rw[o.len];omega) B (q _ m)}
 .obtain rfl:D=_:=X;ext(⟨n1,n2,n3,n4,n5⟩:sX u1);ext(⟨g,hg,a2⟩:hS p hp);let h5:=eS p hp;let G:=vV p.1 bs;ext(⟨lB,lD⟩:o.len);let e3:=u.length;show{01,a,0,(0),011,aw.of c,ad U,2};show dQ ?_;show{01101,ao (se n1) (λ_=>?_)};show{01101,ao (se n2) (λ_=>?_)};show{01101,ao (se n3) (λ_=>?_)};show{01101,ao (se n4) (λ_=>?_)};show{01101,ao (se n5) (λ_=>?_)};show{0101,p.1,g,11,hg,01,(1),12};dsimp only[dj];show iJ c λS t m e=>?_;let u3:cO (V.str p.1::j) (Z 1) Β=j:=cZ (V.str p.1::j) 1;rw[u3]at e;show{g,t,1,{0,a2 _},{0,aw.of e},yO (λi ys H'=>af S H'/\ys=(bs.take i).map bv) {af.refl _,1} (λi zs H' p=>{a2 _,aw.of (p.1 _ _ e)}) ?_ ?_}
  .ext i zs H2 x y p2 hx hy ⟨C,rfl⟩ b8;rw[ϑ]at hx;ext(⟨so,b7,rfl⟩:ϫ.mp hx);ext(⟨d,hd,Ry⟩:u.get hy);ext(⟨b,hb,ag⟩:o.get b7 hd);let:=vb (ό hb);let s3:=C.trans (ac b8 (.tup [.str (gj so),y]));show fk aa {0101,so,y,d,b,1,Ry.mono (m.trans s3),ag,3,λH4 s4=>{2,s3.trans s4,2}}
   .rw[ε,Φ,ι];omega
   .rw[Ϥ,hb,Κ];rfl
  .ext zs H2 ⟨C,rfl⟩ l z;rw[show min (p.2.2.map λs=>V.str (gj s)).length j.length=bs.length by rw[ε];omega,ϧ];show zZ aa (kX p hp) () B (q _ (m.trans (C.trans (ac z _))))
end
abbrev jM:ϸ:=top 65
abbrev oY:ϸ:=top 68
abbrev qk:ϸ:=top 69
abbrev gP:ϸ:=top 70
section
variable{P:Ι}{w:ώ}{K:η}{mg:Str->Option ν}{base:ϙ}
end
def FU:∀p∈WT,cS p.1=J:=()
def z3:3<=Λ:=by rw[ι];decide
section
variable{P:Ι}{w:ώ}{K:η}{mg:Str->Option ν}{base:ϙ}
end
abbrev iy:ϸ:=top 61
abbrev gQ:ϸ:=top 74
abbrev ko:ϸ:=top 75
def CY:af (nw H H') H':=λb o e=>by
 unfold nw at e;split at e
 .show e
 .cases e
inductive xh (vs:List V) (H:Hp) (Q:VK) (u3_:XK):Prop|mk (b:Br) (_:vs=[.str (aL b)]) (_:bG b) (_:ba b<=20) (_:bl b<=1000000) (_:∀H' v,af H H'->aj H' (bO b) v->Q v H')
def WE(d:Dv)(x:Str):Prop:=∃b,x=aL b/\Wx 8 d b/\dC 8 d<=40
inductive AS (W:Dv->Str->Prop) (vs:List V) (H:Hp) (Q:VK) (u3_:XK):Prop|mk (x:Str) (d:Dv) (_:vs=[.str x]) (_:W d x) (_:∀H' v,af H H'->aj H' d v->Q v H')
inductive Oi (W:Dv->Str->Prop) (vs:List V) (H:Hp) (Q:VK) (u3_:XK):Prop|mk (v:V) (x:Str) (d:Dv) (_:vs=[v]) (_:aj H d v) (_:W d x) (_:∀H',af H H'->Q (.str x) H')
def Gc(x:Str):IU (.str x) "str"=O:=by change("str" == "str" || "str" == "bool" && "str" == "int")=O;decide +kernel
section
variable{P:Ι}{w:ώ}{K:η}{mg:Str->Option ν}{base:ϙ}
def tY(F:Fun K "branch_of" "branch_of" iy f fd)(T:Txt K mg)(X:tJ K C)(m:Mk K C g1)(l:au P w K mg base bg k0 g1 d1 ["self","text"] (rV C))(n:bE K d1 ["self","text"] [])(k:mg "Signs"=Z (.ref C))
  (j:oP K C "branch" g2) (i:au P w K mg base bg (k0+1) g2 d2 ["self","most"] (ik C 21)) (g:bE K d2 ["self","most"] []):au P w K mg base bg (k0+2) f fd ["text"] xh:=by
 show F.okA (N:=["text"]) λu3 A W s H vs Q E d u0 h=>?_;ext(⟨b,rfl,I,dp,B,q⟩:h);let L:∀(y:Str)(p:Int),d_ (Y "branch") [(Y "text",V.str y),(Y "at",V.int p)]=Β:=lV () ();show{0,bZ (Aj (QO m l d U k n .nil dc (aW 0)) X j i d g .nil dc (am {T.g_MOST_BRACKETS U})),{01,λx D S u u2=>{x,D,aL b,1,aa,λu1 G c=>{12}}}};ext(⟨r,t⟩:id c);show{x,r,01,t,L _ _,x,aL b,(0),(20),b,[],1,c,B,ϋ _,by rw[E9,ϔ],.inl U,I,33,λz v R u4 M=>q z v (λb o e=>?_) (M.mono CY)};let a:=ah e S;show R b o a (G b o a (by rw[ai a,ai (ah e u)];show e))
def oS:cK ["text","reader","is_one","shower","place","thing"] ["text","reader","is_one","shower","place"] (av ko):=()
end
abbrev DS:ϸ:=top 85
abbrev Af:ϸ:=top 87
def Wk(K:η)(H:Hp)(a b:υ)(c:List Int)(i m:Int):Prop:=H a=Z (.lst [.ref b,.int i,.int m])/\(∀H',ap a H H'->aD K H' b (c.map V.int))/\0<=i/\i<10^15
inductive DB (K:η) (vs:List V) (H:Hp) (Q:VK) (u3_:XK):Prop|mk (a sc:υ) (ns:List Int) (i m:Int) (_:vs=[.ref a]) (_:Wk K H a sc ns i m) (_:ns.length<10^15) (_:∀(H':Hp)(r:υ),ap a H H'->H' a=Z (.lst [.ref sc,.int (i+1),.int m])->H r=Β->gH H' r->Q (.ref r) H')
def FM:List (Str×Str):=([("number",""),("name",""),("length","L"),("if","eee"),("let","xee"),("pair","ee"),("first","e"),("second","e"),("none","K"),("join","ee"),("take","Le"),("drop","Le"),("zip","ee"),("turn","e"),("get","ee"),("place","LL"),("value","e"),("up","Le"),("wide","Le"),("mirror","e"),("fork","Lexee"),("when","eLxee"),("loop","xLe"),("fold","xLxee"),("reckon","ee"),("reckon","ee"),("row","e"),("row","ee"),("row","eee"),("row","eeee"),("call",""),("call","e"),("call","ee"),("call","eee"),("call","eeee")]:List (String×String)).map λp=>(Y p.1,Y p.2)
def LV(p:Str×Str):Dv:=.tup [.str p.1,.str p.2]
def yS:Sp:=λvs H Q _=>vs=[]/\∀(H':Hp)(l:υ)(us:List V),af H H'->H l=Β->H' l=Z (.lst us)->Reps H' (FM.map LV) us->Q (.ref l) H'
def WS:Str:=Y "number: name: length:L if:eee let:xee pair:ee first:e second:e none:K join:ee take:Le drop:Le" ++ Y " zip:ee turn:e get:ee place:LL value:e up:Le wide:Le mirror:e fork:Lexee when:eLxee" ++ Y " loop:xLe fold:xLxee reckon:ee reckon:ee row:e row:ee row:eee row:eeee" ++ Y " call: call:e call:ee call:eee call:eeee"
def Jf(p:Str×Str):Str:=p.1++Y ":" ++ p.2
def uC:Txt.split WS (Y " ")=FM.map Jf:=()
def Es:∀p∈FM,Txt.split (Jf p) (Y ":")=[p.1,p.2]/\(Jf p).length<=100:=()
def JH:WS.length<=300:=()
section
variable{P:Ι}{w:ώ}{K:η}{mg:Str->Option ν}{base:ϙ}
def Hw(F:Fun K "_law_next" "_law_next" DS f fd)(T:Txt K mg)(o:bf P w K mg base k "_law_state" ["_law_script","_law_k"] (mL K)):au P w K mg base bg (k+1) f fd ["_law_walk"] (DB K):=by
 show F.okA (N:=["_law_walk","_law_at"]) λy A x s H vs Q E b X h=>?_;ext(⟨a,c,v,i,m,rfl,⟨n,u,t,R⟩,D,q⟩:h);show{0,aS (aY 1 (eT aG (wv 0) aE)) (aS (Cd (aP cQ (wv 1) aE) (MJ (wv 0) aE iz)) (cP (bA iZ (wv 1) (eT aG (wv 0) aE)) (aQ o (ar (eT aG (wv 0) aE) (aW 1))) (bZ (dw (ar (aP cQ (aP cQ (aP kL aE (wv 1)) (cV aq T.len (am (eT aG (wv 0) aE)))) aE) (am kb)))))),{01,a,0,(1),.int i,11,aD.of n,ad U,2}};show dQ {01001101,a,0,(1),(1),11,n,12};let e:=ap.upd H a (.lst [.ref c,.int (i+1),.int m]);let d:upd H a (.lst [.ref c,.int (i+1),.int m]) a=Z (.lst [.ref c,.int (i+1),.int m]):=aa;let g:=u _ e;let j:∀r,upd H a (.lst [.ref c,.int (i+1),.int m]) r=Β->H r=Β:=λr b=>by
  let:r≠a:=λz=>by rw[z,aa]at b;cases b
  rwa[ai this]at b
 show{0101,a,0,(2),.int m,11,aD.of d,ad U,001101,ao (λ_=>?_) (λ_=>?_)}
 .show{01,a,0,(0),.ref c,11,aD.of d,ad U,01,c,v,i,1,g,t,λp r l b st=>q p r (e.trans (af.b a l)) (l _ _ d) (j r b) st}
 .show{010011,.inl {33},01,a,0,(0),.ref c,11,aD.of d,ad U,c,01,.inl g,00110011,z2,λr b=>q _ r (e.trans (af.b a (ac b _))) (ac b _ _ _ d) (j r b) {00,aa}}
def Do(F:Fun K "_law_forms" "_law_forms" Af f fd)(T:Txt K mg):au P w K mg base bg 1 f fd [] yS:=by
 show F.okA (N:=["_law_words"]) λcdv A outer s H vs Q E hr nd h=>?_;ext(⟨rfl,q⟩:h);show{0,aS (aY 0 az) (aS (aY 0 (aP ae (wv 0) az)) (aS (aY 0 (aP ae (wv 0) az)) (aS (aY 0 (aP ae (wv 0) az)) (bZ (pY ["_law_word"] [] (AR (eX Μ w_ x9 fz (wv 0) (am az))) (.of U) U (λ_ _ _=>{pg_name (i:=0) (bK (l:=["_law_word"]) (()) U) U (z_ U)}) (bz ()) (λ_ _ _=>oW) (λ_ _ _=>(ka (BK K U) T.tuple (am {Kz K U Μ w_ x9 fz (pv 0) (pa_cons pe_str pa_nil)})))))))),2};let len2:∀{m:Nat},m<=1000->m<=Λ:=λh=>by rw[ι];omega
 show dQ ?_;show{010011,len2 (),2};show dQ ?_;show{010011,len2 (),2};show dQ ?_;show{010011,len2 (),2};show dQ ?_;let wl:=JH;show{011,WS,Y " ",113,len2 (),len2 (by rw[uC];decide +kernel),λl hl=>?_};rw[uC];let s1:=ac hl (.lst ((FM.map Jf).map V.str));let h1:upd H l (.lst ((FM.map Jf).map V.str)) l=Z (.lst ((FM.map Jf).map V.str)):=aa;generalize upd H l (.lst ((FM.map Jf).map V.str))=H1 at s1 h1⊢;show{l,1,{0,aD.of h1},fK (λi ys H'=>af H1 H'/\Reps H' ((FM.take i).map LV) ys) {af.refl _,by simp[Reps]} (λi ys H' _ p=>aD.of (p.1 _ _ h1)) ?_ ?_}
 .ext i ys H3 x hx ⟨s3,R3⟩;rw[Ϙ,ϑ]at hx;ext(⟨p,hp,rfl⟩:ϫ.mp hx);ext(⟨e1,e2⟩:Es p (ό hp));let h35:FM.length=35:=();show bt {011,Jf p,Y ":",113,len2 (),len2 (by rw[e1];simp),λr hr'=>?_};rw[e1];let s4:=ac hr' (.lst ([p.1,p.2].map V.str));show{r,01,.inl {aD.of aa,λt ht=>{2,s3.trans (s4.trans (ac ht _)),2}}}
  .rw[R3.length,ε,Φ];show len2 ()
  .rw[Ϥ,hp,Κ];show Reps.append (R3.mono (s4.trans (ac ht (.tup ([p.1,p.2].map V.str))))) (be ?_);change aj _ (.tup [.str p.1,.str p.2]) _;rw[aj];show{t,01,aa,by simp only[Reps,ϊ,u9];show{001300131}}
 .ext ys H3 ⟨s3,R3⟩ r hr';rw[ε,ε,ϧ]at R3;let s4:=ac hr' (.lst ys);show q _ r ys (s1.trans (s3.trans s4)) (by
   cases e:H r with
   |none=>rfl
   |some o=>rw[s3 r o (s1 r o e)]at hr';cases hr') aa (R3.mono s4)
end
abbrev Ai:ϸ:=top 88
def DC(h:Ln xs 99 c ps)(d:∀x∈xs,bT x=O):Sm c ps:=by let b:=λp a=>d _ (h.nm p a).1;show{{{h.can,h.c0,by let:=h.cB;omega,by let:=h.len;omega,.inr (by let:=h.len;omega),λp a=>{by let:=(h.nm p a).2;omega,(aV (b p a)).2}},b},JQ h.c0 h.cB h.can (by let:=h.len;omega) λp a=>{b p a,(h.nm p a).2}}
structure Wo(H:Hp)(g r1 r2:υ)(xs ys:List Str):Prop where
 hg:H g=Z (.tup [.ref r1,.ref r2])
 h1:H r1=Z (.lst (xs.map V.str))
 h2:H r2=Z (.lst (ys.map V.str))
 l1:xs.length=12
 nd:xs.Nodup
 n1:∀x∈xs,bT x=O
 l2:1<=ys.length/\ys.length<=5
 n2:∀y∈ys,bT y=O/\cw y=J/\cS y=J
def Wo.ne(w:Wo H g r1 r2 xs ys)(h:gH H a):g≠a/\r1≠a/\r2≠a:=by
 ext(⟨n,b,e⟩:h);show{λz=>?_,λz=>?_,λz=>?_}
 .let:=w.hg;rw[z,e]at this;cases this
 .let c:=w.h1;rw[z,e]at c;injection c with c;injection c with c;cases xs with
  |nil=>cases w.l1
  |cons x xs=>injection c with c;cases c
 .let d:=w.h2;let f:=w.l2.1;rw[z,e]at d;injection d with d;injection d with d;cases ys with
  |nil=>simp at f
  |cons x xs=>injection d with d;cases d
def Wo.b(w:Wo H g r1 r2 xs ys)(n:g≠a/\r1≠a/\r2≠a)(s:ap a H H'):Wo H' g r1 r2 xs ys:=
 {s _ _ n.1 w.hg,s _ _ n.2.1 w.h1,s _ _ n.2.2 w.h2,w.l1,w.nd,w.n1,w.l2,w.n2}
def lt:So->Str
 |.e=>"e"
 |.l=>"L"
 |.k=>"K"
 |_=>"x"
inductive Ap (vs:List V) (H:Hp) (Q:VK) (u3_:XK):Prop|mk (s:So) (a g r1 r2:υ) (xs ys:List Str) (_:vs=[.str (lt s),.ref a,.ref g]) (_:(s=.l\/s=.k\/s=.x\/s=.y)) (_:gH H a) (_:Wo H g r1 r2 xs ys) (_:∀(H':Hp)(v:V)(d:Dv)(b:Br),ap a H H'->gH H' a->aj H' (.tup [d,.str (aL b)]) v->(∀R,Ag R s d b)->bl b<=10200->((s=.x\/s=.y)->∃y∈xs,d=.str y/\b=.leaf y)->Q v H')
def mH(xs:List V)(n:Nat):cO xs Β (Z (n:Int))=xs.take n:=by
 unfold cO;let b:HT.sIx xs.length xs.length (Z (n:Int))=min n xs.length:=HT.sIx_nat _ _ _;let a:HT.sIx xs.length 0 Β=0:=U;rw[b,a,E9,Tr];rcases Nat.le_total n xs.length with h|h
 .rw[Sc h]
 .rw[Nat.min_eq_right h,ϧ,v_ h]
def En(xs:List Str):cO (xs.map V.str) Β (Z 4)=(xs.take 4).map V.str:=by rw[List.map_take];show mH _ 4
section
variable{P:Ι}{w:ώ}{K:η}{mg:Str->Option ν}{base:ϙ}
def Dg(F:Fun K "_law_inner" "_law_inner" Ai f fd)(T:Txt K mg)(a1:bf P w K mg base k "_law_draw" ["_law_state_here","_law_many"] dW)(a0:bf P w K mg base k "_law_length" ["_law_state_here","_law_names_here","_law_most"] on)(u0:bf P w K mg base k "_law_length_text" ["_law_length_here"] rG)(a2:bf P w K mg base k "_law_kind" ["_law_state_here","_law_names_here","_law_room"] (oh 12))(u1:bf P w K mg base k "_law_kind_text" ["_law_kind_here"] (iY 12)):au P w K mg base bg (k+1) f fd ["_law_letter","_law_node","_law_world_here"] Ap:=by
 show F.okA (N:=["_law_letter","_law_node","_law_world_here","_law_length_here","_law_kind_here","_law_name"]) λb2 A b1 s H vs Q E hr nd h=>?_;ext(⟨s,a,g,n,r2,xs,ys,rfl,hs,st,d,q⟩:h);ext(⟨ng,n1,n2⟩:d.ne st);show{0,kY (bA aA (wv 0) az) (aS (aY 3 (aQ a0 (ar (wv 1) (ar (lJ dI (bC 2) mr (kh aE)) (am aE))))) (bZ (dh (ar (wv 3) (am (aQ u0 (aW 3))))))) (kY (bA aA (wv 0) az) (aS (aY 4 (aQ a2 (ar (wv 1) (ar (lJ dI (bC 2) mr (kh aE)) (am aE))))) (bZ (dh (ar (wv 4) (am (aQ u1 (aW 4))))))) (aS (aY 5 (eT aG (bC 2) (aQ a1 (ar (wv 1) (am aE))))) (bZ (dh (ar (wv 5) (aW 5)))))),2};let u3:∀x∈xs.take 4,bT x=O:=λx I=>d.n1 x (m9 I);let L:∀{l:υ},H l=Β->ap a H (upd H l (.lst ((xs.take 4).map V.str)))/\gH (upd H l (.lst ((xs.take 4).map V.str))) a/\l≠a/\upd H l (.lst ((xs.take 4).map V.str)) l=Z (.lst ((xs.take 4).map V.str)):=λ{l} m=>by let p:=ac m (.lst ((xs.take 4).map V.str));show{af.b a p,st.m p,(λz=>by ext(⟨_,_,e⟩:st);rw[z,e]at m;cases m),aa}
 show{011012};rcases hs with rfl|rfl|I
 .show ao (λ_=>?_) (λh=>absurd (Z9 U) h);show{0101,g,0,(0),.ref n,11,aw.of d.hg,ad U,2};dsimp only[dj];show{(4),1,n,01,aD.of d.h1,λl m=>?_};rw[En];ext(⟨p,C,G,M⟩:L m);show{a,l,(99),xs.take 4,1,C,M,G,by rw[Φ];omega,33,λu2 v c ps r u D ln=>?_};let o:=DC ln u3;show dQ {0101,v,c,ps,1,D,o.1.1,λH3 j=>{z2,λt X=>?_}};let b:=ac X (.tup [v,.str (dN c ps)]);let ll:=dG o.1.1;show q _ _ (db c ps) (.leaf (dN c ps)) (p.trans (r.trans (af.b a (j.trans b)))) (u.m (j.trans b)) ?_ (λR=>{c,ps,11,o}) (by unfold bl;rw[aL];omega) (λz=>by rcases z with z|z<;>cases z);rw[aL,aj];show{t,01,aa,by simp only[Reps];show{001,D.mono (j.trans b),00131}}
 .show ao (λh=>absurd h ()) (λ_=>{01101,ao (λ_=>?_) (λh=>absurd (Z9 U) h)});show{0101,g,0,(0),.ref n,11,aw.of d.hg,ad U,2};dsimp only[dj];show{(4),1,n,01,aD.of d.h1,λl m=>?_};rw[En];ext(⟨p,C,G,M⟩:L m);show{a,l,(6),xs.take 4,1333,C,M,G,by rw[Φ];omega,λu2 v k r u D kA k6=>?_};let o:=bn (λ_ _ h=>DC h u3) kA;let W:=bn (λ_ _ h=>h.1.1) o;show dQ {0101,v,k,1,D,33,W,λH3 j=>{z2,λt X=>?_}};let b:=ac X (.tup [v,.str (gT k)]);let ll:=cr W;show q _ _ k.dv (cj k) (p.trans (r.trans (af.b a (j.trans b)))) (u.m (j.trans b)) ?_ (λR=>{k,11,o,3}) (by unfold bl;rw[fX];omega) (λz=>by rcases z with z|z<;>cases z);rw[fX,aj];show{t,01,aa,by simp only[Reps];show{001,D.mono (j.trans b),00131}}
 .let el:lt s=Y "x":=by rcases I with rfl|rfl<;>rfl
  rw[el];show ao (λh=>absurd h ()) (λ_=>{01101,ao (λh=>absurd h ()) (λ_=>?_)});show{01,g,0,(0),.ref n,11,aw.of d.hg,ad U,01,a,(12),1,st,33,λu2 i r u i0 i1=>?_};obtain⟨y,S,he⟩:∃y,y∈xs/\kq (xs.map V.str) i=Z (.str y):=by
   let u4:i.toNat<xs.length:=by rw[d.l1];omega
   show{xs[i.toNat],l_ u4,2};let e:=ad (xs:=xs.map V.str) (by rw[ϑ,Ζ u4];rfl);rwa[show((i.toNat:Nat):Int)=i by omega]at e
  show{n,0,i,.str y,11,aD.of (r _ _ n1 d.h1),he,dQ ?_};show{0101,z2,λt X=>?_};let B:=d.n1 y S;let b:=ac X (.tup [.str y,.str y]);show q _ _ (.str y) (.leaf y) (r.trans (af.b a b)) (u.m b) ?_ (λR=>by rcases I with rfl|rfl<;>show⟨y,rfl,rfl,B⟩) (by unfold bl;rw[aL];let:=(aV B).2;change y.cps.size<=_;omega) (λ_=>{y,S,11});rw[aL,aj];show{t,01,aa,by simp only[Reps];show{001300131}}
end
abbrev zM:ϸ:=top 89
def Jj(e:15<=m)(a:∀d b,R d b->L2.Pl m d):∀{s:So}{d:Dv}{b:Br},Ag R s d b->L2.Pl m d
 |.e,_,_,h=>a _ _ h
 |.l,_,_,h=>by ext(⟨c,ps,rfl,_,_⟩:h);show(rJ c ps).up ()
 |.k,_,_,h=>by ext(⟨k,rfl,_,_,f⟩:h);show k.pl.up ()
 |.x,_,_,h=>by ext(⟨y,rfl,_,_⟩:h);show .str
 |.y,_,_,h=>by ext(⟨y,rfl,_,_⟩:h);show .str
def xY(f:15<=m)(g:∀d b,R d b->L2.Pl m d)(h:mq R ss ds bs):∀d∈ds,L2.Pl m d:=by
 induction h with
 |nil=>show nofun
 |cons a _ e=>
  intro d c;rcases ξ.mp c with rfl|c
  .show Jj f g a
  .show e d c
def iR(h:∀d∈ds,L2.Pl m d):L2.Pl (m+1) (.tup (.str x::ds)):=.tup λd a=>by
 rcases ξ.mp a with rfl|a
 .show .str
 .show h d a
def pc:∀{n:Nat}{d:Dv}{b:Br},Wx n d b->L2.Pl (2*n+15) d
 |n+1,d,b,h=>by
  let e:∀d b,Wx n d b->L2.Pl (2*n+15) d:=λd b h=>pc h;rw[Wx]at h;rcases h with ⟨i,t,H,rfl,rfl⟩|⟨y,s,rfl,rfl⟩|⟨f,ds,bs,u,m,l,k,c,rfl,rfl⟩|⟨r,d1,d2,o,x,l,j,g,rfl,rfl⟩|⟨ds,bs,v,k,c,rfl,rfl⟩|⟨p,ds,bs,z,_,c,q,rfl,rfl⟩
  .show iR λd a=>by rw[ο.mp a];show .int
  .show iR λd a=>by rw[ο.mp a];show .str
  .show iR λd a=>by
    rcases ξ.mp a with rfl|a
    .show .str
    .rw[ο.mp a];show .tup λd a=>by ext(⟨b,_,r⟩:c.mem.1 d a);show e d b r
  .show iR λd a=>by
    rcases ξ.mp a with rfl|a
    .show .str
    .rcases ξ.mp a with rfl|a
     .show(e _ _ j).up ()
     .rw[ο.mp a];show(e _ _ g).up ()
  .show iR λd a=>by rw[ο.mp a];show .tup λd a=>by ext(⟨b,_,r⟩:c.mem.1 d a);show e d b r
  .show iR λd a=>(xY () e c d a).up ()
def ML(b:0<=i)(a:i<5):∃r:Str,cS r=O/\kq ([V.str (Y "plus"),V.str (Y "minus"),V.str (Y "times"),V.str (Y "less"),V.str (Y "same")]:List V) i=Z (.str r):=by
 let e:i=0\/i=1\/i=2\/i=3\/i=4:=();rcases e with rfl|rfl|rfl|rfl|rfl
 .show{03,ad U}
 .show{03,ad U}
 .show{03,ad U}
 .show{03,ad U}
 .show{03,ad U}
def LU(R:Dv->Br->Prop)(xs:List Str)(w:Str)(ds:List Dv)(bs:List Br)(a:List Dv):Prop:=
 (w="reckon"/\pK R ds bs/\ds.length=2/\a=ds)\/(w="row"/\pK R ds bs/\1<=ds.length/\ds.length<=4/\a=ds)\/(w="call"/\pK R ds bs/\ds.length<=4/\a=ds) \/
 (∃p∈WT,w=p.1/\JZ p.1=O/\mq R p.2.2 ds bs/\a=bL p.2.2 ds/\∀y,ds[0]?=Z (.str y)->y∈xs)
def Mp(h:LU (Wx n) xs w ds bs sub):∀d∈ds,L2.Pl (2*n+15) d:=by
 let c:∀d b,Wx n d b->L2.Pl (2*n+15) d:=λd b h=>pc h;let a:pK (Wx n) ds bs->∀d∈ds,L2.Pl (2*n+15) d:=λf d e=>by ext(⟨b,_,r⟩:f.mem.1 d e);show c d b r
 rcases h with ⟨_,h,_⟩|⟨_,h,_⟩|⟨_,h,_⟩|⟨p,_,_,_,h,_⟩
 .show a h
 .show a h
 .show a h
 .show xY () c h
inductive zb (vs:List V) (H:Hp) (Q:VK) (u3_:XK):Prop|mk (n:Nat) (w:Str) (lp lt a g r1 r2:υ) (us:List V) (ds sub:List Dv) (bs:List Br) (xs ys:List Str) (_:vs=[.str w,.ref lp,.ref lt,.ref a,.ref g]) (_:H lp=Z (.lst us)) (_:Reps H ds us) (_:H lt=Z (.lst (bs.map bv))) (_:lp≠a) (_:lt≠a) (_:gH H a) (_:Wo H g r1 r2 xs ys) (_:LU (Wx n) xs w ds bs sub) (_:(bs.map bl).sum<=1100000) (_:∀(H':Hp)(v:V)(d:Dv)(b:Br),ap a H H'->gH H' a->aj H' (.tup [d,.str (aL b)]) v->Wx (n+1) d b->dC (n+1) d=1+(sub.map (dC n)).sum->Q v H')
def zH(h:∀X:St->Hp->Prop,(∀σ' H',u D σ' H'->X σ' H')->t {D with nx:=X} σ H):jK t u D σ H:=h _ λ_ _ z=>z
def Qh(h:∀b a e d c f:St->Hp->Prop,(∀σ H,r D σ H->f σ H)->(∀σ H,i4 {D with nx:=f} σ H->c σ H)->(∀σ H,k {D with nx:=c} σ H->d σ H)->(∀σ H,i {D with nx:=d} σ H->e σ H)->(∀σ H,l {D with nx:=e} σ H->a σ H)->(∀σ H,g {D with nx:=a} σ H->b σ H)->j {D with nx:=b} σ H):
  jK j (jK g (jK l (jK i (jK k (jK i4 r))))) D σ H:=h _ _ _ _ _ _ (λ_ _ z=>z) (λ_ _ z=>z) (λ_ _ z=>z) (λ_ _ z=>z) (λ_ _ z=>z) λ_ _ z=>z
def Hl(h:tt ((gv k ix σ).set i (Z x)) H λc a=>if c=O then te ((gv k ix σ).set i (Z x)) a λy b=>ys.length<Λ/\N (ys++[y]) b else N ys a):
  gf k ix (ez i) tt te σ x ys H N:=h
def HS{xs:List Str}{y:Str}(a:xs.Nodup)(h:y∈xs):(xs.filter λz=>decide (z≠y)).length+1=xs.length:=by
 induction xs with
 |nil=>cases h
 |cons x xs b=>
  rw[B0]at a;by_cases e:x=y
  .subst e;rw[List.filter_cons_of_neg (),Δ];let:xs.filter (λz=>decide (z≠x))=xs:=List.filter_eq_self.mpr λz c=>Z9 λq=>a.1 (q▸c);rw[this]
  .rw[List.filter_cons_of_pos (↑e),Δ,Δ];let:=b a.2 ((ξ.mp h).resolve_left (λq=>e q.symm));omega
section
variable{P:Ι}{w:ώ}{K:η}{mg:Str->Option ν}{base:ϙ}
def Di{f:υ}{fd:ϣ}{k:Nat}(F:Fun K "_law_whole" "_law_whole" zM f fd)(T:Txt K mg)(D_law_draw:bf P w K mg base k "_law_draw" ["_law_state_here","_law_many"] dW):au P w K mg base bg (k+1) f fd ["_law_word","_law_parts","_law_texts","_law_node","_law_world_here"] zb:=by
 show F.okA (N:=["_law_word","_law_parts","_law_texts","_law_node","_law_world_here","_law_told","_law_one","_law_other"]) λcdv A outer s H vs Q E hr nd h=>?_;ext(⟨n,w,lp,lt,a,g,r1,r2,us,ds,sub,bs,xs,ys,rfl,hlp,ru,hlt,nlp,Cc,st,wo,fm,lb,q⟩:h);show{0,aS (aY 5 (wv 0)) (aS (aY 6 (aP iD (dh (aW 0)) (ka aF T.tuple (aW 1)))) (kY (bA aA (wv 0) az) (aS (aY 5 (eT aG (dw (ar az (ar az (ar az (ar az (am az)))))) (aQ D_law_draw (ar (wv 3) (am aE))))) (fD (aY 6 (aP iD (dh (ar (wv 0) (aW 5))) (ka aF T.tuple (aW 1)))))) (kY (bA aA (wv 0) az) (fD (aY 6 (dh (ar (wv 0) (am (ka aF T.tuple (aW 1))))))) (kY (bA aA (wv 0) az) (aS (aY 5 (eT aG (bC 4) (aQ D_law_draw (ar (wv 3) (am (cV aq T.len (am (bC 4)))))))) (fD (aY 6 (dh (ar (wv 0) (ar (wv 5) (am (ka aF T.tuple (aW 1))))))))) (kY (lW (EB (bA aA (wv 0) az) (EL (bA aA (eT aG (wv 1) aE) (eT aG (wv 1) aE))))) (aS (aY 7 (eT aG (pY ["_law_name"] [1] (AR (bC 4)) (.of U) U (λ_ _ _=>{pg_name (i:=0) (bK (l:=["_law_name","_law_parts"]) (()) U) U (z_ U)}) (bz ()) (λ_ _ _=>{HM (pt_cmpR jd (pv 0) (pe_ix (vS K U) (pv 1) pe_int (λ_ _=>U)) (xq _))}) (λ_ _ _=>(wv 0))) (aQ D_law_draw (ar (wv 3) (am aE))))) (aS (aY 6 (aP iD (aP iD (lJ iF (wv 6) mr (kh aE)) (dh (aW 7))) (lJ iF (wv 6) (kh aE) mr))) (fD (aY 2 (aP bF (aP bF (lJ dI (wv 2) mr (kh aE)) (dw (aW 7))) (lJ dI (wv 2) (kh aE) mr)))))) (bZ (dh (ar (wv 6) (am (aP ae (aP ae (aP ae (wv 5) az) (eX Μ a_ b_ dH az (aW 2))) az)))))))))),2};let lu:=ru.length;let l8:ds.length<=8:=by
  rcases fm with ⟨_,_,h,_⟩|⟨_,_,_,h,_⟩|⟨_,_,h,_⟩|⟨p,hp,_,_,h,_⟩
  .omega
  .omega
  .omega
  .let:=eS p hp;rw[h.len.2];omega
 show Qh λY1 Y2 Y3 Y4 Y5 Y6 h7 h6 h5 h4 h3 h2=>{01,dQ (h2 _ _ ?_)};let fin:∀(H3:Hp)(z:Str)(l:υ)(o7:Option V)(bs':List Br)(d:Dv)(v:V),ap a H H3->gH H3 a->aj H3 d v->H3 l=Z (.lst (bs'.map bv))->bT z=O->(bs'.map bl).sum<=1100008->bs'.length<=8->Wx (n+1) d (.nd z bs')->dC (n+1) d=1+(sub.map (dC n)).sum->Y6 [Z (.str w),Z (.ref lp),Z (.ref l),Z (.ref a),Z (.ref g),Z (.str z),Z v,o7] H3:=λH3 z l o7 bs' d v s3 st3 R3 hl nz lb' l8' wx ex=>by let lj:=dM (Y ", ") (bs'.map aL);rw[gJ,ε,Ϙ]at lj;let eb:((bs'.map ((λx:Str=>x.length)∘aL)).sum)=(bs'.map bl).sum:=U;rw[eb]at lj;let lw:z.length<=8:=(aV nz).2;show h7 _ _ {01010011,by rw[ι,rT];omega,1010,l,bs'.map aL,11,aD.of (by rw[hl,Ϙ];rfl),by rw[Ϙ,ε,gJ,eb];omega,2};rw[tj];show{0011,by rw[ι,ς,rT];omega,0011,by rw[ι,ς,ς,rT,qh];omega,z2,λm hm=>?_};let s4:=ac hm (.tup [v,.str (z++Y "(" ++ Τ (Y ", ") (bs'.map aL)++Y ")")]);show q _ _ d (.nd z bs') (s3.trans (af.b a s4)) (st3.m s4) ?_ wx ex;rw[aL,dE,aj];show{m,01,aa,by simp only[Reps];show{001,R3.mono s4,00131}}
 let p4:∀{τ:St}{H3:Hp},w≠Y "fold"->Y6 (Z (.str w)::τ) H3->Y5 (Z (.str w)::τ) H3:=λne y=>h6 _ _ {01101,ao (se ne) (λ_=>aK (fc y))};let p3:∀{τ:St}{H3:Hp},w≠Y "call"->Y5 (Z (.str w)::τ) H3->Y4 (Z (.str w)::τ) H3:=λne y=>h5 _ _ {01101,ao (se ne) (λ_=>fc y)};let p2:∀{τ:St}{H3:Hp},w≠Y "row"->Y4 (Z (.str w)::τ) H3->Y3 (Z (.str w)::τ) H3:=λne y=>h4 _ _ {01101,ao (se ne) (λ_=>fc y)};let p1:∀{τ:St}{H3:Hp},w≠Y "reckon"->Y3 (Z (.str w)::τ) H3->Y2 (Z (.str w)::τ) H3:=λne y=>h3 _ _ {01101,ao (se ne) (λ_=>fc y)};let key:∀(H2:Hp)(t:υ),af H H2->H2 t=Z (.tup (.str w::us))->Y2 [Z (.str w),Z (.ref lp),Z (.ref lt),Z (.ref a),Z (.ref g),Z (.str w),Z (.ref t),Β] H2:=λH2 t s2 ht=>by
  let ruB:∀{H3:Hp},ap a H H3->Reps H3 ds us:=λ{H3} s3=>ce (λd hd v r=>bq (st.tups s3) (Mp fm d hd) r) ru;rcases fm with ⟨rfl,al,l2,rfl⟩|⟨rfl,al,l1,l4,rfl⟩|⟨rfl,al,l4,rfl⟩|⟨pw,hpw,rfl,hf,ag,rfl,hx⟩
  .show h3 _ _ {01101,ao (λ_=>zH λX hX=>?_) (λh=>absurd (Z9 U) h)};show{by rw[ι];decide,λl5 hl5=>?_};let s3:=ac hl5 (.lst [.str (Y "plus"),.str (Y "minus"),.str (Y "times"),.str (Y "less"),.str (Y "same")]);let h5:upd H2 l5 (.lst [.str (Y "plus"),.str (Y "minus"),.str (Y "times"),.str (Y "less"),.str (Y "same")]) l5=Z _:=aa;let s23:=s2.trans s3;let l5a:l5≠a:=λz=>by ext(⟨_,_,e⟩:st);rw[z,s2 _ _ e]at hl5;cases hl5
   generalize upd H2 l5 (.lst [.str (Y "plus"),.str (Y "minus"),.str (Y "times"),.str (Y "less"),.str (Y "same")])=H3 at s23 h5⊢;show{01,a,(5),1,st.m s23,33,λH4 i s4 st4 i0 i1=>?_};ext(⟨r,hr',hat⟩:ML i0 i1);show{l5,0,i,.str r,11,aD.of (s4 _ _ l5a h5),hat,dQ (hX _ _ ?_)};let s04:ap a H H4:=(af.b a s23).trans s4;show{0101,z2,λt5 ht5=>?_};let s5:=ac ht5 (.tup [.str (Y "reckon"),.str r]);show{01,lp,01,.inl {aD.of (s5 _ _ (s04 _ _ nlp hlp)),λt6 ht6=>?_}};let s6:=ac ht6 (.tup us);show{t5,t6,0011,aw.of (s6 _ _ (aa (H:=H4) (a:=t5) (o:=.tup [.str (Y "reckon"),.str r]))),aw.of aa,by rw[ι];simp;omega,nofun,(λe=>by let:=congrArg y6 e;rw[lu,l2]at this;cases this),λp hp=>?_};let s7:=ac hp (.tup ([V.str (Y "reckon"),V.str r]++us));let s47:=s5.trans (s6.trans s7);let s07:ap a H _:=s04.trans (af.b a s47);obtain⟨d1,d2,rfl⟩:∃d1 d2,sub=[d1,d2]:=by
    match sub,l2 with
    |[d1,d2],_=>show{d1,d2,1}
   obtain⟨b1,b2,w1,w2,rfl⟩:∃b1 b2,Wx n d1 b1/\Wx n d2 b2/\bs=[b1,b2]:=by
    cases al with
    |cons a1 al=>
     cases al with
     |cons a2 al=>cases al;show{00,a1,a2,1}
   let ru7:Reps (upd (upd (upd H4 t5 (.tup [.str (Y "reckon"),.str r])) t6 (.tup us)) p (.tup ([V.str (Y "reckon"),V.str r]++us))) [d1,d2] us:=ruB s07;let R7:aj (upd (upd (upd H4 t5 (.tup [.str (Y "reckon"),.str r])) t6 (.tup us)) p (.tup ([V.str (Y "reckon"),V.str r]++us))) (.tup [.str (Y "reckon"),.str r,d1,d2]) (.ref p):=by rw[aj];show{p,01,aa,Reps.append (ds:=[.str (Y "reckon"),.str r]) ?_ ru7};simp only[Reps];show{001300131}
   let st7:=st4.m s47;generalize upd (upd (upd H4 t5 (.tup [.str (Y "reckon"),.str r])) t6 (.tup us)) p (.tup ([V.str (Y "reckon"),V.str r]++us))=H7 at s07 R7 st7⊢;let wx:Wx (n+1) (.tup [.str (Y "reckon"),.str r,d1,d2]) (.nd r [b1,b2]):=by rw[Wx];show .inr (.inr (.inr (.inl {r,d1,d2,b1,b2,hr',w1,w2,11})))
   let ex:=gN (n:=n) (p:=nF) pT.2.1 (ds:=[.str r,d1,d2]) (dg wx).1;show dQ (p2 () (p3 () (p4 () (fin _ _ _ _ _ _ _ s07 st7 R7 (s07 _ _ Cc hlt) ((eV r (cR hr')).1) () (by change 2<=8;decide) wx ex))))
  .show p1 () (h4 _ _ {01101,ao (λ_=>?_) (λh=>absurd (Z9 U) h)});show{0101,lp,01,.inl {aD.of (s2 _ _ hlp),λt3 ht3=>{z2,λt4 ht4=>?_}}};let s3:=ac ht3 (.tup us);let s4:=ac ht4 (.tup [.str (Y "row"),.ref t3]);let s24:=s2.trans (s3.trans s4);let R4:aj (upd (upd H2 t3 (.tup us)) t4 (.tup [.str (Y "row"),.ref t3])) (.tup [.str (Y "row"),.tup sub]) (.ref t4):=by rw[aj];show{t4,01,aa,2};simp only[Reps];show{001300121};rw[aj];show{t3,us,1,s4 _ _ aa,ru.mono s24}
   generalize upd (upd H2 t3 (.tup us)) t4 (.tup [.str (Y "row"),.ref t3])=H4 at s24 R4⊢;let wx:Wx (n+1) (.tup [.str (Y "row"),.tup sub]) (.nd (Y "row") bs):=by rw[Wx];show .inr (.inr (.inr (.inr (.inl {sub,bs,l1,l4,al,11}))))
   let ex:=gN (n:=n) (p:=wn) pT.2.2.1 (ds:=[.tup sub]) (dg wx).1;rw[show bL wn.2.2 [.tup sub]=sub by change sub++[]=sub;rw[ϔ]]at ex;let la:=al.len;show dQ (p3 () (p4 () (fin _ _ _ _ _ _ _ (af.b a s24) (st.m s24) R4 (s24 _ _ hlt) () () () wx ex)))
  .show p1 () (p2 () (h5 _ _ {01101,ao (λ_=>zH λX hX=>?_) (λh=>absurd (Z9 U) h)}));ext(⟨ng,n1,n2⟩:wo.ne st);let wg:=s2 _ _ wo.hg;let w2:=s2 _ _ wo.h2;let ly:=wo.l2;show{01,g,0,(1),.ref r2,11,aw.of wg,ad (j:=1) U,0101,g,0,(1),.ref r2,11,aw.of wg,ad (j:=1) U,r2,01,.inl (aD.of w2),a,01,st.m s2,by rw[ε];omega,by rw[ε];omega,λH4 i s4 st4 i0 i1=>?_};rw[ε]at i1;obtain⟨y,hy,hat⟩:∃y,y∈ys/\kq (ys.map V.str) i=Z (.str y):=by let hi:i.toNat<ys.length:=();show{ys[i.toNat],l_ hi,2};let e:=ad (xs:=ys.map V.str) (j:=i.toNat) (v:=.str ys[i.toNat]) (by rw[ϑ,Ζ hi];rfl);rwa[show((i.toNat:Nat):Int)=i by omega]at e
   ext(⟨y1,y2,y3⟩:wo.n2 y hy);show{r2,0,i,.str y,11,aD.of (s4 _ _ n2 w2),hat,dQ (hX _ _ ?_)};let s04:ap a H H4:=(af.b a s2).trans s4;show{010101,lp,01,.inl {aD.of (s04 _ _ nlp hlp),λt5 ht5=>{z3,λt6 ht6=>?_}}};let s5:=ac ht5 (.tup us);let s6:=ac ht6 (.tup [.str (Y "call"),.str y,.ref t5]);let s46:=s5.trans s6;let s06:ap a H _:=s04.trans (af.b a s46);let R6:aj (upd (upd H4 t5 (.tup us)) t6 (.tup [.str (Y "call"),.str y,.ref t5])) (.tup [.str (Y "call"),.str y,.tup sub]) (.ref t6):=by rw[aj];show{t6,01,aa,2};simp only[Reps];show{0013001300121};rw[aj];show{t5,us,1,s6 _ _ aa,ruB s06}
   let st6:=st4.m s46;generalize upd (upd H4 t5 (.tup us)) t6 (.tup [.str (Y "call"),.str y,.ref t5])=H6 at s06 R6 st6⊢;let wx:Wx (n+1) (.tup [.str (Y "call"),.str y,.tup sub]) (.nd y bs):=by rw[Wx];show .inr (.inr (.inl {y,sub,bs,y1,y2,y3,l4,al,11}))
   let ex:=gN (n:=n) (p:=jO) pT.1 (ds:=[.str y,.tup sub]) (dg wx).1;rw[show bL jO.2.2 [.str y,.tup sub]=sub by change []++(sub++[])=sub;rw[ϔ,i_]]at ex;let la:=al.len;show dQ (p4 () (fin _ _ _ _ _ _ _ s06 st6 R6 (s06 _ _ Cc hlt) y1 () () wx ex))
  .ext(⟨m1,m2,m3,m4,m5⟩:sX hf);show p1 m4 (p2 m5 (p3 m3 ?_));let Rt:aj H2 (.tup (.str pw.1::ds)) (.ref t):=by rw[aj];show{t,01,ht,by simp only[Reps];show{0013,ru.mono s2}}
   let la:=ag.len;let h5:=eS pw hpw;let nw:=kX pw hpw;let lw:pw.1.length<=8:=(aV nw).2;let plain:(pw.1≠"fold"\/lK ds=O)->Wx (n+1) (.tup (.str pw.1::ds)) (.nd pw.1 bs):=λfo=>by rw[Wx];show .inr (.inr (.inr (.inr (.inr {pw,ds,bs,hpw,hf,ag,fo,11}))))
   by_cases ef:pw.1="fold"
   .let ess:=zz pw hpw ef;let hsub:bL pw.2.2 ds=bL [.x,.l,.y,.e,.e] ds:=by rw[ess]
    obtain⟨y0,dl,y2,d3,d4,b1,b3,b4,u1,u3,u4,hds,hbs,hus,ny0,agl,ny2,w3,w4⟩:∃y0 dl y2 d3 d4 b1 b3 b4 u1 u3 u4,ds=[.str y0,dl,.str y2,d3,d4]/\bs=[.leaf y0,b1,.leaf y2,b3,b4]/\us=[.str y0,u1,.str y2,u3,u4]/\bT y0=O/\Ag (Wx n) .l dl b1/\bT y2=O/\Wx n d3 b3/\Wx n d4 b4:=by
     let ag':=ag;rw[ess]at ag';cases ag' with
     |cons a0 ag'=>
      cases ag' with
      |cons a1 ag'=>
       cases ag' with
       |cons a2 ag'=>
        cases ag' with
        |cons a3 ag'=>
         cases ag' with
         |cons a4 ag'=>cases ag';ext(⟨y0,rfl,rfl,h0⟩:a0);ext(⟨y2,rfl,rfl,h2⟩:a2);ext(⟨v0,ws,rfl,r0,ru⟩:cz ru);ext(⟨v1,ws,rfl,r1,ru⟩:cz ru);ext(⟨v2,ws,rfl,r2,ru⟩:cz ru);ext(⟨v3,v4,rfl,r3,r4⟩:Reps.two ru);obtain rfl:v0=.str y0:=r0;obtain rfl:v2=.str y2:=r2;show{00000000000111,h0,a1,h2,a3,a4}
    let hlp2:=s2 _ _ hlp;let hlt2:=s2 _ _ hlt;rw[hus]at hlp2;show h6 _ _ {01101,ao (λ_=>?_) (λh=>absurd (Z9 (by rw[ef])) h)};show{01,lp,0,(0),.str y0,11,aD.of hlp2,ad (j:=0) U,01,lp,0,(2),.str y2,11,aD.of hlp2,ad (j:=2) U,101,ao (λh=>zH λX hX=>?_) (λh=>?_)}
    .let e02:y0=y2:=V.str.inj (Z7 h);let wg:=s2 _ _ wo.hg;let w1:=s2 _ _ wo.h1;ext(⟨ng,n1,n2⟩:wo.ne st);let y0x:y0∈xs:=hx y0 (by rw[hds];rfl);let fl:=HS wo.nd y0x;rw[wo.l1]at fl;show{01,g,0,(0),.ref r1,11,aw.of wg,ad (j:=0) U,r1,1,{0,aD.of w1},fK (xs:=xs.map V.str) (λi zs H'=>H'=H2/\zs=((xs.take i).filter λz=>decide (z≠y0)).map V.str) {11} (λi zs H' _ p=>by rw[p.1];show aD.of w1) ?_ ?_}
     .ext i zs H' x hx' ⟨rfl,rfl⟩;rw[ϑ]at hx';ext(⟨z,hz,rfl⟩:ϫ.mp hx');let hi:=(Υ.mp hz).1;rw[wo.l1]at hi;show Hl {0101,lp,0,(0),.str y0,11,aD.of hlp2,ad (j:=0) U,1012};by_cases e:z=y0
      .rw[show(!decide (V.str z=V.str y0))=J by rw[e,Z9 U];rfl];show aK {12};rw[Ϥ,hz,SV,Option.toList_some,List.filter_cons_of_neg (by simp[e]),List.filter_nil,ϔ]
      .rw[show(!decide (V.str z=V.str y0))=O by rw[Z8 (λq=>e (V.str.inj q))];rfl];show aH {01212}
       .let:=List.length_filter_le (λz=>decide (z≠y0)) (xs.take i);rw[Φ]at this;rw[ε,ι];omega
       .rw[Ϥ,hz,SV,Option.toList_some,List.filter_cons_of_pos (↑e),List.filter_nil,Κ];rfl
     ext zs H' ⟨rfl,rfl⟩ r hr';rw[ε,ϧ];let s3:=ac hr' (.lst ((xs.filter λz=>decide (z≠y0)).map V.str));let h3:upd H' r (.lst ((xs.filter λz=>decide (z≠y0)).map V.str)) r=Z (.lst ((xs.filter λz=>decide (z≠y0)).map V.str)):=aa;let s23:=s2.trans s3;let ra:r≠a:=λz=>by ext(⟨_,_,e⟩:st);rw[z,s2 _ _ e]at hr';cases hr'
     let ht3:=s3 _ _ ht;generalize upd H' r (.lst ((xs.filter λz=>decide (z≠y0)).map V.str))=H3 at s23 h3 ht3⊢;show{01,a,(11),1,st.m s23,33,λH4 i s4 st4 i0 i1=>?_};obtain⟨o,ho,hat⟩:∃o,o∈xs.filter (λz=>decide (z≠y0))/\kq ((xs.filter λz=>decide (z≠y0)).map V.str) i=Z (.str o):=by let hi:i.toNat<(xs.filter λz=>decide (z≠y0)).length:=();show{(xs.filter λz=>decide (z≠y0))[i.toNat],l_ hi,2};let e:=ad (xs:=(xs.filter λz=>decide (z≠y0)).map V.str) (j:=i.toNat) (v:=.str (xs.filter λz=>decide (z≠y0))[i.toNat]) (by rw[ϑ,Ζ hi];rfl);rwa[show((i.toNat:Nat):Int)=i by omega]at e
     ext(⟨ox,oy⟩:J4.mp ho);let no:=wo.n1 o ox;let oy0:o≠y0:=Z7 oy;show{r,0,i,.str o,11,aD.of (s4 _ _ ra h3),hat,dQ (hX _ _ (zH λX hX=>?_))};let s04:=(af.b a s23).trans s4;let ta:t≠a:=λz=>by ext(⟨_,_,e⟩:st);rw[z,s2 _ _ e]at ht;cases ht
     let ht4:=s4 _ _ ta ht3;rw[hus]at ht4;show{012};dsimp only[dj];show{(3),1,iJ ht4 λH5 t5 s5 ht5=>?_};rw[show cO (V.str pw.1::[V.str y0,u1,V.str y2,u3,u4]) Β (Z 3)=[V.str pw.1,V.str y0,u1]from mH _ 3]at ht5;show{01,z1,λt6 ht6=>?_};let s6:=ac ht6 (.tup [.str o]);show{t5,t6,0011,aw.of (s6 _ _ ht5),aw.of aa,by rw[ι];simp,nofun,nofun,λt7 ht7=>?_};let s7:=ac ht7 (.tup ([V.str pw.1,V.str y0,u1]++[V.str o]));let h7:upd (upd H5 t6 (.tup [.str o])) t7 (.tup ([V.str pw.1,V.str y0,u1]++[V.str o])) t7=Z (.tup ([V.str pw.1,V.str y0,u1]++[V.str o])):=aa;let s47:=s5.trans (s6.trans s7);generalize upd (upd H5 t6 (.tup [.str o])) t7 (.tup ([V.str pw.1,V.str y0,u1]++[V.str o]))=H7 at s47 h7⊢;show{01,(4),12};dsimp only[dj];show iJ (s47 _ _ ht4) λH8 t8 s8 ht8=>?_;rw[show cO (V.str pw.1::[V.str y0,u1,V.str y2,u3,u4]) (Z 4) Β=[u3,u4]from cZ _ 4]at ht8;show{t7,t8,0011,aw.of (s8 _ _ h7),aw.of ht8,by rw[ι];simp,nofun,nofun,λt9 ht9=>?_};let s9:=ac ht9 (.tup ([V.str pw.1,V.str y0,u1]++[V.str o]++[u3,u4]));let h9:upd H8 t9 (.tup ([V.str pw.1,V.str y0,u1]++[V.str o]++[u3,u4])) t9=Z (.tup ([V.str pw.1,V.str y0,u1]++[V.str o]++[u3,u4])):=aa;let s49:=s47.trans (s8.trans s9);generalize upd H8 t9 (.tup ([V.str pw.1,V.str y0,u1]++[V.str o]++[u3,u4]))=H9 at s49 h9⊢;show dQ (hX _ _ ?_);let s09:=s04.trans (af.b a s49);let hlt9:=s09 _ _ Cc hlt;rw[hbs]at hlt9;show{012};dsimp only[dj];show{(2),1,lt,01,aD.of hlt9,λl1 hl1=>?_};rw[show cO ([Br.leaf y0,b1,.leaf y2,b3,b4].map bv) Β (Z 2)=[bv (.leaf y0),bv b1]from mH _ 2];let p1:=ac hl1 (.lst [bv (.leaf y0),bv b1]);let g1:upd H9 l1 (.lst [bv (.leaf y0),bv b1]) l1=Z (.lst [bv (.leaf y0),bv b1]):=aa;generalize upd H9 l1 (.lst [bv (.leaf y0),bv b1])=G1 at p1 g1⊢;show{01,z1,λl2 hl2=>?_};let p2:=ac hl2 (.lst [.str o]);show{l1,l2,0011,p2 _ _ g1,aa,by rw[ι];simp,λl3 hl3=>?_};let p3:=ac hl3 (.lst ([bv (.leaf y0),bv b1]++[.str o]));let g3:upd (upd G1 l2 (.lst [.str o])) l3 (.lst ([bv (.leaf y0),bv b1]++[.str o])) l3=Z (.lst ([bv (.leaf y0),bv b1]++[.str o])):=aa;let p13:=p1.trans (p2.trans p3);generalize upd (upd G1 l2 (.lst [.str o])) l3 (.lst ([bv (.leaf y0),bv b1]++[.str o]))=G3 at p13 g3⊢;show{01,(3),12};dsimp only[dj];show{lt,01,aD.of (p13 _ _ hlt9),λl4 hl4=>?_};rw[show cO ([Br.leaf y0,b1,.leaf y2,b3,b4].map bv) (Z 3) Β=[bv b3,bv b4]from cZ _ 3];let p4:=ac hl4 (.lst [bv b3,bv b4]);show{l3,l4,0011,p4 _ _ g3,aa,by rw[ι];simp,λl5 hl5=>?_};let p5:=ac hl5 (.lst ([bv (.leaf y0),bv b1]++[.str o]++[bv b3,bv b4]));let g5:upd (upd G3 l4 (.lst [bv b3,bv b4])) l5 (.lst ([bv (.leaf y0),bv b1]++[.str o]++[bv b3,bv b4])) l5=Z (.lst ([bv (.leaf y0),bv b1]++[.str o]++[bv b3,bv b4])):=aa;let p15:=p13.trans (p4.trans p5);generalize upd (upd G3 l4 (.lst [bv b3,bv b4])) l5 (.lst ([bv (.leaf y0),bv b1]++[.str o]++[bv b3,bv b4]))=G5 at p15 g5⊢;show dQ ?_;let s0G:=s09.trans (af.b a p15);let stG:=(st4.m s49).m p15;let ruG:=ruB s0G;rw[hds,hus]at ruG;let RG:aj G5 (.tup [.str pw.1,.str y0,dl,.str o,d3,d4]) (.ref t9):=by rw[aj];show{t9,01,p15 _ _ h9,2};simp only[Reps]at ruG;ext(⟨_,_,e,r0,_,_,e1,r1,_,_,e2,r2,_,_,e3,r3,_,_,e4,r4,e5⟩:ruG);cases e;cases e1;cases e2;cases e3;cases e4;simp only[Reps,h_,i_];show{0013001,r0,001,r1,0013001,r3,001,r4,1}
     let ag2:mq (Wx n) pw.2.2 [.str y0,dl,.str o,d3,d4] [.leaf y0,b1,.leaf o,b3,b4]:=by rw[ess];show .cons {y0,11,ny0} (.cons agl (.cons {o,11,no} (.cons w3 (.cons w4 .nil))))
     let wx:Wx (n+1) (.tup (.str pw.1::[.str y0,dl,.str o,d3,d4])) (.nd pw.1 [.leaf y0,b1,.leaf o,b3,b4]):=by rw[Wx];show .inr (.inr (.inr (.inr (.inr {pw,00,hpw,hf,ag2,.inr (Z9 (ϝ oy0)),11}))))
     let ex:=gN (n:=n) hpw (dg wx).1;rw[show bL pw.2.2 [.str y0,dl,.str o,d3,d4]=bL pw.2.2 ds by rw[ess,hds];rfl]at ex;let lo:bl (.leaf o)<=8:=by unfold bl;rw[aL];show(aV no).2
     let lb2:([Br.leaf y0,b1,.leaf o,b3,b4].map bl).sum<=1100008:=by rw[hbs]at lb;simp only[ϊ,u9,A0,List.sum_nil]at lb⊢;omega
     show fin _ _ _ _ [.leaf y0,b1,.leaf o,b3,b4] _ _ s0G stG RG g5 nw lb2 (by change 5<=8;decide) wx ex
    .let n02:y0≠y2:=λz=>h (Z9 (by rw[z]));let wx:=plain (.inr (by rw[hds];show Z9 n02));show fc (fin _ _ _ _ _ _ _ (af.b a s2) (st.m s2) Rt hlt2 nw () () wx (gN hpw (dg wx).1))
   .let wx:=plain (.inl ef);show p4 ef (fin _ _ _ _ _ _ _ (af.b a s2) (st.m s2) Rt (s2 _ _ hlt) nw () () wx (gN hpw (dg wx).1))
 show{01,z1,λt0 ht0=>?_};let s0:=ac ht0 (.tup [.str w]);show{01,lp,01,.inl {aD.of (s0 _ _ hlp),λt1 ht1=>?_}};let s1:=ac ht1 (.tup us);let s01:=s0.trans s1;let h01:=s1 _ _ (aa);let h11:upd (upd H t0 (.tup [.str w])) t1 (.tup us) t1=Z (.tup us):=aa;generalize upd (upd H t0 (.tup [.str w])) t1 (.tup us)=H1 at s1 s01 h01 h11⊢;show{t0,t1,0011,aw.of h01,aw.of h11,by rw[ι,ϻ];omega,nofun,λe=>?_,λp hp=>?_}
 .show dQ (key H1 t0 s01 (by rw[h01,e]))
 .show dQ (key _ p (s01.trans (ac hp _)) aa)
end
abbrev zu:ϸ:=top 91
def wQ:List Str:=(["row","plus","def","ask","whole","if"]:List String).map Y
def NN(x:Str):Bool:=x.cps.toList.any λc=>!JK c
def Cy:∀x∈wQ,bT x=O/\NN x=O:=()
def NX:∀p∈WT,NN p.1=O:=()
def Ht:∀r∈sY,NN r=O:=()
def IN(h:Cn x):NN x=J:=by unfold NN;rw[O8];intro c a;rw[h.2 c a];decide
def Ij(h:Cn x):bT x=O/\cw x=J/\cS x=J:=by
 let hv:=IN h;show{h.1,22}
 .cases e:cw x with
  |false=>rfl
  |true=>ext(⟨p,hp,rfl⟩:su e);rw[NX p hp]at hv;cases hv
 .cases e:cS x with
  |false=>rfl
  |true=>rw[Ht x (cR e)]at hv;cases hv
def JJ:wQ.Nodup:=()
def CM{xs:List Str}(nd:xs.Nodup)(hc:∀x∈xs,Cn x):(xs.take 6++wQ).Nodup/\∀x∈xs.take 6++wQ,bT x=O:=by
 show{List.nodup_append.mpr {nd.sublist (List.take_sublist _ _),JJ,λx hx y hy e=>?_},λx hx=>?_}
 .subst e;let:=IN (hc x (m9 hx));rw[(Cy x hy).2]at this;cases this
 .rcases Ν.mp hx with hx|hx
  .show(hc x (m9 hx)).1
  .show(Cy x hx).1
def LF:∀x∈[Y "ask",Y "def"],bT x=O/\cw x=J/\cS x=J:=()
def Dm{xs:List Str}(hc:∀x∈xs,Cn x):∀x∈xs.drop 6++[Y "ask",Y "def"],bT x=O/\cw x=J/\cS x=J:=λx hx=>by
 rcases Ν.mp hx with hx|hx
 .show Ij (hc x (F9 hx))
 .show LF x hx
inductive zg (vs:List V) (H:Hp) (Q:VK) (u3_:XK):Prop|mk (a:υ) (_:vs=[.ref a]) (_:gH H a) (_:∀(H':Hp)(g r1 r2:υ)(xs ys:List Str),ap a H H'->gH H' a->Wo H' g r1 r2 xs ys->Q (.ref g) H')
section
variable{P:Ι}{w:ώ}{K:η}{mg:Str->Option ν}{base:ϙ}
def Fc{f:υ}{fd:ϣ}{k:Nat}(F:Fun K "_law_world" "_law_world" zu f fd)(T:Txt K mg)(D_law_names:bf P w K mg base k "_law_names" ["_law_state_here","_law_many"] rW)(D_law_draw:bf P w K mg base k "_law_draw" ["_law_state_here","_law_many"] dW):au P w K mg base bg (k+1) f fd ["_law_state_here"] zg:=by
 show F.okA (N:=["_law_state_here","_law_names_here"]) λcdv A outer s H vs Q E hr nd h=>?_;ext(⟨a,rfl,st,q⟩:h);show{0,aS (aY 1 (aQ D_law_names (ar (wv 0) (am aE)))) (bZ (dh (ar (aP bF (lJ dI (wv 1) mr (kh aE)) (dw (ar az (ar az (ar az (ar az (ar az (am az)))))))) (am (aP bF (lJ dI (wv 1) (kh aE) mr) (dw (ar az (am az)))))))),2};show{01,a,(9),1,st,3,λH1 r xs s1 st1 hr1 h1 lx cx nx=>dQ ?_};show{012};dsimp only[dj];show{(6),1,r,01,aD.of h1,λl1 hl1=>?_};rw[show cO (xs.map V.str) Β (Z 6)=(xs.take 6).map V.str by rw[List.map_take];show mH _ 6];let s4:=ac hl1 (.lst ((xs.take 6).map V.str));let g1:upd H1 l1 (.lst ((xs.take 6).map V.str)) l1=Z (.lst ((xs.take 6).map V.str)):=aa;generalize upd H1 l1 (.lst ((xs.take 6).map V.str))=H4 at s4 g1⊢;ext(⟨wn1,wn2⟩:CM nx cx);let l6:wQ.length=6:=U;let lt6:(xs.take 6).length=6:=by rw[Φ,lx];rfl
 show{by rw[ι];decide,λl2 hl2=>?_};rw[show([.str (Y "row"),.str (Y "plus"),.str (Y "def"),.str (Y "ask"),.str (Y "whole"),.str (Y "if")]:List V)=wQ.map V.str from U];let p1:=ac hl2 (.lst (wQ.map V.str));show{l1,l2,0,wQ.map V.str,11,p1 _ _ g1,aa,by rw[ε,ε,l6,lt6,ι];decide,λm1 hm1=>?_};rw[<-Κ];let k1:upd (upd H4 l2 (.lst (wQ.map V.str))) m1 (.lst ((xs.take 6++wQ).map V.str)) m1=Z (.lst ((xs.take 6++wQ).map V.str)):=aa;let p12:=p1.trans (ac hm1 (.lst ((xs.take 6++wQ).map V.str)));generalize upd (upd H4 l2 (.lst (wQ.map V.str))) m1 (.lst ((xs.take 6++wQ).map V.str))=G1 at p12 k1⊢;show{01,(6),12};dsimp only[dj];show{r,01,aD.of (p12 _ _ (s4 _ _ h1)),λl3 hl3=>?_};rw[show cO (xs.map V.str) (Z 6) Β=(xs.drop 6).map V.str by rw[List.map_drop];show cZ _ 6];let p3:=ac hl3 (.lst ((xs.drop 6).map V.str));let k3:upd G1 l3 (.lst ((xs.drop 6).map V.str)) l3=Z (.lst ((xs.drop 6).map V.str)):=aa;generalize upd G1 l3 (.lst ((xs.drop 6).map V.str))=G3 at p3 k3⊢;show{z2,λl4 hl4=>?_};let p4:=ac hl4 (.lst [.str (Y "ask"),.str (Y "def")]);let ld:(xs.drop 6).length=3:=by rw[Ϯ,lx]
 show{l3,l4,0011,p4 _ _ k3,aa,by rw[ε,ld,ι];decide,λm2 hm2=>?_};let em:(xs.drop 6).map V.str++[.str (Y "ask"),.str (Y "def")]=(xs.drop 6++[Y "ask",Y "def"]).map V.str:=by rw[Κ];rfl
 rw[em];show{z2,λg hg=>?_};let p6:=ac hg (.tup [.ref m1,.ref m2]);let p36:=p3.trans (p4.trans ((ac hm2 (.lst ((xs.drop 6++[Y "ask",Y "def"]).map V.str))).trans p6));let p16:=p12.trans p36;show q _ g m1 m2 (xs.take 6++wQ) (xs.drop 6++[Y "ask",Y "def"]) ((s1.trans (af.b a s4)).trans (af.b a p16)) ((st1.m s4).m p16) {aa,p36 _ _ k1,p6 _ _ aa,by rw[Ε,lt6,l6],wn1,wn2,by rw[Ε,ld];show{33},Dm cx}
end
def Lb:List (Str×Str×List So):=FM.map λp=>(p.1,p.2,if p.1=Y "fold" then [.x,.l,.y,.e,.e]else p.2.cps.toList.map λc=>if c=101 then So.e else if c=76 then So.l else if c=75 then So.k else So.x)
def LS:∀p∈FM,∃ls,(p.1,p.2,ls)∈Lb:=λp hp=>{0,Ρ.mpr {p,hp,1}}
def KH:∀q∈Lb,q.2.1.cps.toList.map (λc=>({#[c]}:Str))=q.2.2.map lt/\q.2.1.cps.size=q.2.2.length/\q.2.2.length<=5/\q.2.1.cps.all (· < 128)=O:=()
def KA:∀q∈Lb,∀s∈q.2.2,s=.e\/s=.l\/s=.k\/s=.x\/s=.y:=()
def Gm(ss:List So):Bool:=ss.all λs=>decide (s=.e)
def QX(q:Str×Str×List So):Bool:=
 (decide (q.1="number")&&decide (q.2.2=[]))||(decide (q.1="name")&&decide (q.2.2=[]))||(decide (q.1="reckon")&&decide (q.2.2=[.e,.e]))||(decide (q.1="row")&&(Gm q.2.2&&(decide (1<=q.2.2.length)&&decide (q.2.2.length<=4))))||(decide (q.1="call")&&(Gm q.2.2&&decide (q.2.2.length<=4)))||(WT.any λp=>decide (p.1=q.1)&&(decide (p.2.2=q.2.2)&&JZ p.1))
def MZ:∀q∈Lb,QX q=O:=()
def nE(ss:List So):Nat:=(ss.filter λs=>decide (s=.e)).length
def FY:∀q∈Lb,Txt.count q.2.1 (Y "e")=(nE q.2.2:Int)/\nE q.2.2<=4:=()
def ua(h:mq R ss ds bs)(c:Gm ss=O):pK R ds bs/\bL ss ds=ds:=by
 induction h with
 |nil=>show{.nil,1}
 | @cons s d b ss ds bs a _ f=>unfold Gm at c;rw[Tc,χ]at c;let e:=Z7 c.1;subst e;ext(⟨g,i⟩:f c.2);show{.cons a g,by change [d]++bL ss ds=d::ds;rw[i];rfl}
def Og(hq:q∈Lb)(h1:q.1≠"number")(h2:q.1≠"name")(h:mq R q.2.2 ds bs)(hx:∀y,ds[0]?=Z (.str y)->y∈xs):LU R xs q.1 ds bs (bL q.2.2 ds):=by
 let hb:=MZ q hq;unfold QX at hb;simp only[N_,χ,decide_eq_true_eq]at hb;ext(⟨lb,ld⟩:h.len);rcases hb with ((((hb|hb)|hb)|hb)|hb)|hb
 .show absurd hb.1 h1
 .show absurd hb.1 h2
 .let e:=ua h (by rw[hb.2];decide);show .inl {hb.1,e.1,by rw[ld,hb.2];rfl,e.2}
 .let e:=ua h hb.2.1;show .inr (.inl {hb.1,e.1,33,e.2})
 .let e:=ua h hb.2.1;show .inr (.inr (.inl {hb.1,e.1,3,e.2}))
 .ext(⟨p,hp,e⟩:n_.mp hb);simp only[χ,decide_eq_true_eq]at e;show .inr (.inr (.inr {p,hp,e.1.symm,e.2.2,by rw[e.2.1];show h,by rw[e.2.1],hx}))
abbrev jW:ϸ:=top 90
def gs(e:∀σ' H',jK t u D σ' H'->a σ' H')(h:∀X:St->Hp->Prop,(∀σ' H',u D σ' H'->X σ' H')->t {D with nx:=X} (σ.set i (Z x)) H):ez i x σ H a:=e _ _ (h _ λ_ _ z=>z)
def bW(h:∀d a:Hp->Prop,(∀H',t D σ H'->d H')->(∀H',u D σ H'->a H')->c σ H λb H1=>if b=O then d H1 else a H1):FX c t u D σ H:=h _ _ (λ_ z=>z) λ_ z=>z
structure jA(H H':Hp)(wk sc nd:υ)(i m:Int):Prop where
 sb:ap wk H H'
 hk:H' wk=Z (.lst [.ref sc,.int i,.int m])
 st:gH H' nd
section
variable{H H1 H2:Hp}{wk sc nd L:υ}{i j z:Int}
def jA.m(c:jA H H1 wk sc nd i z)(s:af H1 H2):jA H H2 wk sc nd i z:={c.sb.trans (af.b wk s),s _ _ c.hk,c.st.m s}
def jA.d(c:jA H H1 wk sc nd i z)(s:ap nd H1 H2)(t:gH H2 nd)(n:nd≠wk)(f:H nd=Β):jA H H2 wk sc nd i z:={λg o a e=>s g o (ah e f) (c.sb g o a e),s _ _ (ϝ n) c.hk,t}
def jA.l(c:jA H H1 wk sc nd i z)(s:ap L H1 H2)(f:H L=Β)(n:L≠wk)(k:L≠nd):jA H H2 wk sc nd i z:={λg o a e=>s g o (ah e f) (c.sb g o a e),s _ _ (ϝ n) c.hk,c.st.b s (ϝ k)}
def jA.e(c:jA H H1 wk sc nd i z)(s:ap wk H1 H2)(h:H2 wk=Z (.lst [.ref sc,.int j,.int z]))(n:nd≠wk):jA H H2 wk sc nd j z:={c.sb.trans s,h,c.st.b s n}
def jA.tm(c:jA H H1 wk sc nd i z)(s:ap wk H1 H2):pR H1 H2:=s.tups c.hk
end
def Bn(s:ap a H H')(h:H' b=Β)(n:b≠a):H b=Β:=by
 cases e:H b with
 |none=>rfl
 |some o=>rw[s b o n e]at h;cases h
def Wo.nw(w:Wo H g r1 r2 xs ys)(e:H a=Z (.lst [.ref sc,.int i,.int m])):g≠a/\r1≠a/\r2≠a:=by
 show{λz=>?_,λz=>?_,λz=>?_}
 .let:=w.hg;rw[z,e]at this;cases this
 .let b:=w.h1;rw[z,e]at b;injection b with b;injection b with b;cases xs with
  |nil=>cases w.l1
  |cons x xs=>injection b with b;cases b
 .let c:=w.h2;let d:=w.l2.1;rw[z,e]at c;injection c with c;injection c with c;cases ys with
  |nil=>simp at d
  |cons x xs=>injection c with c;cases c
def Lm(h:Wx n (.str y) b):False:=by
 cases n with
 |zero=>show h
 |succ n=>rcases h with ⟨_,_,_,h,_⟩|⟨_,_,h,_⟩|⟨_,_,_,_,_,_,_,_,h,_⟩|⟨_,_,_,_,_,_,_,_,h,_⟩|⟨_,_,_,_,_,h,_⟩|⟨_,_,_,_,_,_,_,h,_⟩<;>cases h
def mq.snoc(h:mq R ss ds bs)(a:Ag R s d b):mq R (ss++[s]) (ds++[d]) (bs++[b])/\bL (ss++[s]) (ds++[d])=bL ss ds++mT s d:=by
 induction h with
 |nil=>show{.cons a .nil,by change mT s d++[]=[]++mT s d;rw[ϔ,i_]}
 | @cons e d' g ss ds bs f _ c=>show{.cons f c.1,by change mT e d'++bL (ss++[s]) (ds++[d])=(mT e d'++bL ss ds)++mT s d;rw[c.2,Γ]}
def Hy:∀q∈Lb,(q.2.2.map OK).sum<=100000:=()
def GF{x:Str}{a:List So}{j:Nat}{s:So}(e:x.cps.toList.map (λc=>({#[c]}:Str))=a.map lt)(b:j<x.cps.size)(d:a[j]?=Z s):AC x j=.str (lt s):=by
 let h:(x.cps.toList.map (λc=>({#[c]}:Str)))[j]?=(a.map lt)[j]?:=by rw[e]
 rw[ϑ,ϑ,d,Array.getElem?_toList,SZ b]at h;unfold AC;rw[D_,SZ b];show congrArg V.str (ϡ h)
structure Kp(LP LT:υ)(us:List V)(ds:List Dv)(bs:List Br)(H:Hp):Prop where
 hp:H LP=Z (.lst us)
 rp:Reps H ds us
 ht:H LT=Z (.lst (bs.map bv))
def Kp.b{c b a:υ}{us:List V}{ds:List Dv}{bs:List Br}{H H':Hp}{n:Nat}(k:Kp c b us ds bs H)(s:ap a H H')(t:pR H H')(g:c≠a)(e:b≠a)(f:∀d∈ds,L2.Pl n d):Kp c b us ds bs H':=
 {s _ _ g k.hp,ce (λd h v r=>bq t (f d h) r) k.rp,s _ _ e k.ht}
def Qk(h:s=.l\/s=.k\/s=.x\/s=.y):lt s≠Y "e":=by rcases h with rfl|rfl|rfl|rfl<;>decide +kernel
def wS(h:Ag (Wx r) s d b)(a:s=.e\/s=.l\/s=.k)(y:Str):d≠.str y:=λz=>by
 subst z;rcases a with rfl|rfl|rfl
 .show Lm h
 .ext(⟨c,ps,e,_⟩:h);cases e
 .ext(⟨k,e,_⟩:h);cases k<;>cases e
def cE(p:Str×Str):Int:=Txt.count p.2 (Y "e")
def Mq(a b:Nat)(p:Str×Str):Prop:=p∈FM/\(cE p=0\/(1<a/\cE p<b))
def Rv:FM[0]?=Z (Y "number",Y ""):=()
def Qe:cE (Y "number",Y "")=0:=()
inductive Hx (K:η) (n:Nat) (vs:List V) (H:Hp) (Q:VK) (u3_:XK):Prop|mk (wk g r1 r2 sc:υ) (ns:List Int) (i m:Int) (xs ys:List Str) (room:Nat) (bud:Nat) (_:vs=[.ref wk,.ref g,.int room,.int bud]) (_:Wk K H wk sc ns i m) (_:i+bud<10^14) (_:ns.length<10^15) (_:Wo H g r1 r2 xs ys) (_:1<=room) (_:room<=n) (_:n<=8) (_:1<=bud) (_:bud<=40) (_:∀(H':Hp)(v:V)(d:Dv)(b:Br)(c:Nat),ap wk H H'->Wk K H' wk sc ns (i+c) m->aj H' (.tup [d,.str (aL b),.int c]) v->Wx room d b->dC room d=c->1<=c->c<=bud->Q v H')
section
variable{P:Ι}{w:ώ}{K:η}{mg:Str->Option ν}{base:ϙ}
def pU{f:υ}{fd:ϣ}{k n:Nat}(F:Fun K "_law_expression" "_law_expression" jW f fd)(T:Txt K mg)(D_law_next:bf P w K mg base k "_law_next" ["_law_walk"] (DB K))(D_law_forms:bf P w K mg base k "_law_forms" [] yS)(D_law_draw:bf P w K mg base k "_law_draw" ["_law_state_here","_law_many"] dW)(D_law_inner:bf P w K mg base k "_law_inner" ["_law_letter","_law_node","_law_world_here"] Ap)(D_law_whole:bf P w K mg base k "_law_whole" ["_law_word","_law_parts","_law_texts","_law_node","_law_world_here"] zb)(D_law_expression:bf P w K mg base k "_law_expression" ["_law_walk","_law_world_here","_law_room","_law_budget"] (Hx K n)):au P w K mg base bg (k+1) f fd ["_law_walk","_law_world_here","_law_room","_law_budget"] (Hx K (n+1)):=by
 show F.okA (N:=["_law_walk","_law_world_here","_law_room","_law_budget","_law_node","_law_some","_law_one","_law_word","_law_letters","_law_told","_law_name","_law_parts","_law_texts","_law_left","_law_more","_law_letter","_law_share","_law_text","_law_nodes"]) λcdv A outer s H vs Q E hr nd h=>?_;ext(⟨wk,g,r1,r2,sc,ns,i,m,xs,ys,room,bud,rfl,⟨hk0,hsc,i0,i15⟩,i14,ln,wo,rm1,rm2,n8,b1,b2,q⟩:h);obtain⟨r,rfl⟩:∃r,room=r+1:={room-1,3};show{0,aS (aY 4 (aQ D_law_next (aW 0))) (aS (aY 5 (dw uk)) (aS (Dr c_ U (AR (RU D_law_forms)) (js 6) (fD (Hd (lW (wD (bA aA (eX Μ P7 P8 kJ (bC 6) (am az)) aE) (yb (lW (EB (bA gu (wv 2) aE) (EL (bA iZ (eX Μ P7 P8 kJ (bC 6) (am az)) (wv 3)))))))) (fD (pM (eX ϖ Ϟ ϟ bu (wv 5) (aW 6)))) JB))) (aS (Cd (eT aG (wv 5) (aQ D_law_draw (ar (wv 4) (am (cV aq T.len (aW 5)))))) (FK (pH (js 7) (pH (js 8) FO)))) (kY (bA aA (wv 7) az) (aS (aY 9 (eT aG (dw (ar aE (ar (aP cU (aP wF aE aE) aE) (ar aE (am aE))))) (aQ D_law_draw (ar (wv 4) (am aE))))) (kY (lW (EB (bA gu (wv 9) aE) (EL (bA iZ (wv 9) aE)))) (fD (aY 9 (aQ D_law_draw (ar (wv 4) (am (eT aG (dw (ar aE (am (aP wF aE aE)))) (aP cU (wv 9) aE))))))) (bZ (dh (ar (dh (ar (wv 7) (aW 9))) (ar (ka dO T.str (aW 9)) (am aE))))))) (kY (bA aA (wv 7) az) (aS (aY 10 (eT aG (bC 1) (aQ D_law_draw (ar (wv 4) (am aE))))) (bZ (dh (ar (dh (ar (wv 7) (aW 10))) (ar (wv 10) (am aE)))))) (aS (aY 11 (dw uk)) (aS (aY 12 (dw uk)) (aS (aY 13 (aP cU (wv 3) aE)) (aS (aY 14 (eX Μ P7 P8 kJ (wv 8) (am az))) (aS (Dr c_ U (Qo (wv 8)) (js 15) (aS (Hd (bA aA (wv 15) az) (aS (aY 14 (aP cU (wv 14) aE)) (aS (aY 16 (aP cU (wv 13) (wv 14))) (kY (bA gu (wv 14) aE) (fD (aY 16 (aP cQ aE (aQ D_law_draw (ar (wv 4) (aW 16)))))) (aS (Cd (aQ D_law_expression (ar (wv 0) (ar (wv 1) (ar (aP cU (wv 2) aE) (aW 16))))) (FK (pH (js 6) (pH (js 17) (pH (js 18) FO))))) (fD (aY 13 (aP cU (wv 13) (wv 18)))))))) (fD (Cd (aQ D_law_inner (ar (wv 15) (ar (wv 4) (aW 1)))) (FK (pH (js 6) (pH (js 17) FO)))))) (aS (pM (eX ϖ Ϟ ϟ bu (wv 11) (aW 6))) (fD (pM (eX ϖ Ϟ ϟ bu (wv 12) (aW 17))))))) (aS (Cd (aQ D_law_whole (ar (wv 7) (ar (wv 11) (ar (wv 12) (ar (wv 4) (aW 1)))))) (FK (pH (js 6) (pH (js 17) FO)))) (bZ (dh (ar (wv 6) (ar (wv 17) (am (aP cU (wv 3) (wv 13)))))))))))))))))),2};show aJ λX hX=>{01,wk,sc,ns,i,m,1,{hk0,hsc,i0,i15},ln,λH1 nd s1 hk1 fnd st1=>gs hX λX hX=>?_};let nw:nd≠wk:=λz=>by rw[z,hk0]at fnd;cases fnd
 let c1:jA H H1 wk sc nd (i+1) m:={s1,hk1,st1};let woC:∀{H':Hp}{j:Int},jA H H' wk sc nd j m->Wo H' g r1 r2 xs ys:=λc=>wo.b (wo.nw hk0) c.sb;let wkC:∀{H':Hp}{j:Int},jA H H' wk sc nd j m->0<=j->j<10^15->Wk K H' wk sc ns j m:=λc h0 h1=>{c.hk,λ_ s=>hsc _ (c.sb.trans s),h0,h1};show{ϋ _,λS hS=>gs hX λX hX=>?_};let nS:S≠wk:=λz=>by rw[z,hk1]at hS;cases hS
 let nSd:S≠nd:=λz=>by ext(⟨_,_,e⟩:st1);rw[z,e]at hS;cases hS
 let fS:H S=Β:=Bn s1 hS nS;let c2:=c1.m (ac hS (.lst []));let h2:upd H1 S (.lst []) S=Z (.lst []):=aa;generalize upd H1 S (.lst [])=H2 at c2 h2⊢;show{1,λH3 l us s3 fl hl R3=>{l,1,{us,aD.of hl},yk (xs:=us) (λj σ H'=>∃(o6:Option V) (fs:List (Str×Str)) (zs:List V),σ=[Z (.ref wk),Z (.ref g),Z (.int (r+1:Nat)),Z (.int bud),Z (.ref nd),Z (.ref S),o6,Β,Β,Β,Β,Β,Β,Β,Β,Β,Β,Β,Β]/\jA H H' wk sc nd (i+1) m/\ap S H3 H'/\H' S=Z (.lst zs)/\Reps H' (fs.map LV) zs/\(∀p∈fs,Mq (r+1) bud p)/\fs.length<=j/\(1<=j->fs≠[]))
  {0,[],[],1,c2.m s3,ap.refl _ _,s3 _ _ h2,by simp[Reps],nofun,Α _,λh=>by omega} (λj σ H' _ ⟨_,_,_,_,_,sx,_⟩=>aD.of (sx _ _ (λz=>by rw[z,h2]at fl;cases fl) hl)) ?T1 ?_}}
 case T1=>
  ext j x σ H4 D go hx ⟨o6,fs,zs,rfl,c4,s4,h4,R4,ff,lf,ne⟩;ext(⟨p,hp,Rx⟩:gA (f:=LV) R3 hx);obtain⟨t,vt,rfl,ht,Rt⟩:=aj.tup_inv (show aj H3 (.tup [.str p.1,.str p.2]) x from Rx);ext(⟨w1,w2,rfl,e1,e2⟩:Reps.two Rt);subst e1;subst e2;let ht4:=s4 _ _ (λz=>by rw[z,(s3 _ _ h2)]at ht;cases ht) ht;let lj:j<35:=(Υ.mp hp).1;let lz:zs.length=fs.length:=by let:=R4.length;rwa[ε]at this
  show dQ (bW λC a hY hZ=>?_);let yes:Mq (r+1) bud p->C H4:=λfp=>by
   show hY _ {01,.inl {10,aD.of h4},01,S,0011,h4,32};let sB:=ap.upd H4 S (.lst (zs++[.ref t]));let tB:=sB.tups h4;show go _ _ {0,fs++[p],zs++[.ref t],1,c4.l sB fS nS nSd,s4.trans sB,aa,2,λp' hp'=>?_,by rw[Ε];show Nat.succ_le_succ lf,3}
   .rw[Κ]
    let fp2:∀p:Str×Str,L2.Pl 1 (LV p):=λp=>.tup λd hd=>by
     rcases ξ.mp hd with rfl|hd
     .show .str
     .rw[ο.mp hd];show .str
    show Reps.append (ce (λd hd v r=>by ext(⟨y,_,rfl⟩:Ρ.mp hd);show bq tB (fp2 y) r) R4) (be ?_);change aj _ (.tup [.str p.1,.str p.2]) _;rw[aj];show{t,01,tB _ _ ht4,by simp only[Reps];show{001300131}}
   .rcases Ν.mp hp' with z|z
    .show ff p' z
    .rw[ο.mp z];show fp
  let no:cE p≠0->a H4:=λhc=>hZ _ (fc (go _ _ {0,fs,zs,1,c4,s4,h4,R4,ff,Nat.le_succ_of_le lf,λ_=>by
   rcases Nat.eq_zero_or_pos j with z|z
   .subst z;rw[Rv]at hp;cases hp;show absurd Qe hc
   .show ne z}))
  let pm:=ό hp;show{01,t,0,(1),.str p.2,11,aw.of ht4,ad (j:=1) U,1,p.2,Y "e",11101,ao (λh=>?_) (λh=>?_)}
  .show aH (yes {pm,.inl (V.int.inj (Z7 h))})
  .let h0:cE p≠0:=λz=>h (Z9 (congrArg V.int z));show{01001101,ao (λh1=>?_) (λ_=>aK (no h0))};show{01,t,0,(1),.str p.2,11,aw.of ht4,ad (j:=1) U,1,p.2,Y "e",1101001101,ao (λh2=>yes {pm,.inr {2,Z7 h2}}) (λ_=>no h0)};let:(1:Int)<((r+1:Nat):Int):=Z7 h1;omega
 ext σ H4 ⟨o6,fs,zs,rfl,c4,s4,h4,R4,ff,lf,ne⟩;let lu:us.length=35:=by let:=R3.length;rwa[ε]at this
 let f0:0<fs.length:=List.length_pos_iff.mpr (ne ());let lz:zs.length=fs.length:=by let:=R4.length;rwa[ε]at this
 show hX _ _ (aJ λX hX=>{010101,S,01,.inl (aD.of h4),nd,01,c4.st,33,λH5 x s5 st5 x0 x1=>?_});obtain⟨y,rfl⟩:∃y:Nat,x=y:={x.toNat,3};let hv:=Ζ (l:=zs) (i:=y) ();ext(⟨p,hp,Rx⟩:gA (f:=LV) R4 hv);obtain⟨t,vt,et,ht,Rt⟩:=aj.tup_inv (show aj H4 (.tup [.str p.1,.str p.2]) zs[y]from Rx);ext(⟨w1,w2,rfl,e1,e2⟩:Reps.two Rt);subst e1;subst e2;let c5:=c4.d s5 st5 nw fnd;let t5:=c4.st.tups s5;show{S,zs,y,.ref t,11,aD.of (s5 _ _ nSd h4),ad (by rw[hv,et]),t,01,aw.of (t5 _ _ ht),100100112};ext(⟨pm,fit⟩:ff p (ό hp));ext(⟨ls,hq⟩:LS p pm);show hX _ _ (aJ λX hX=>bW λC a hY hZ=>?_);show{01101,ao (λh=>hY _ ?_) (λhn=>hZ _ (fc (hX _ _ (aJ λX hX=>bW λC a hY hZ=>?_))))}
 .let ew:p.1=Y "number":=V.str.inj (Z7 h);let p12:JX 10 12:={333};show aJ λX2 hX2=>{0011,p12,0011,z4,λe he=>{01,nd,(4),1,c5.st.m (ac he _),33,λH6 x s6 st6 x0 x1=>?_}};let ne:e≠nd:=λz=>by ext(⟨_,_,e'⟩:c5.st);rw[z,e']at he;cases he
  let c6:=(c5.m (ac he _)).d s6 st6 nw fnd;let he6:=s6 _ _ ne aa;obtain⟨o,ho,hb⟩:∃o:Int,kq [V.int 0,V.int ((10:Int)^(12:Int).toNat-1),V.int 7,V.int 8] x=Z (.int o)/\0<=o/\o<10^12/\(6<o->o<9->o=7\/o=8):=by
   let:x=0\/x=1\/x=2\/x=3:=();rcases this with rfl|rfl|rfl|rfl
   .show{(0),1333}
   .show{01333}
   .show{(7),1333}
   .show{(8),1333}
  show{e,0,x,.int o,11,aD.of he6,ho,dQ (hX2 _ _ ?_)};show zh (λσ' H'=>∃o:Int,σ'=[Z (.ref wk),Z (.ref g),Z (.int (r+1:Nat)),Z (.int bud),Z (.ref nd),Z (.ref S),o6,Z (.str p.1),Z (.str p.2),Z (.int o),Β,Β,Β,Β,Β,Β,Β,Β,Β]/\jA H H' wk sc nd (i+1) m/\0<=o/\o<10^12) ?N1 (λ_ nx=>?_)
  case N1=>
   ext _ H7 ⟨o,rfl,c7,o0,o1⟩;show{0101,z2,λt1 ht1=>{01,o,12,z3,λt2 ht2=>?_}}
   .let:o.natAbs<2^40:=();rcases Nat.eq_zero_or_pos o.natAbs with z|z
    .rw[z];decide
    .show Nat.lt_trans ((Nat.log2_lt ()).mpr this) ()
   let s8:=ac ht1 (.tup [.str p.1,.int o]);let h8:upd H7 t1 (.tup [.str p.1,.int o]) t1=Z (.tup [.str p.1,.int o]):=aa;generalize upd H7 t1 (.tup [.str p.1,.int o])=H8 at s8 h8 ht2⊢;let s9:=ac ht2 (.tup [.ref t1,.str (Y (toString o)),.int 1]);let c9:=c7.m (s8.trans s9);let wx:Wx (r+1) (.tup [.str (Y "number"),.int o]) (.leaf (bx o)):=.inl {o,o0,o1,11};show q _ _ _ _ 1 c9.sb (wkC c9 () ()) ?_ wx (gN (n:=r) (p:=Dq) pT.2.2.2.1 (dg wx).1) (Α _) b1;rw[aL,aj];show{t2,01,aa,2};show{0012001,by simp only[aj];rfl,001,by simp only[aj];rfl,1};rw[aj];show{t1,01,s9 _ _ h8,by simp only[Reps];show{001,by simp only[aj,ew],00131}}
  show{01001101,ao (λh6=>?_) (λ_=>aK (fc (nx _ _ {o,1,c6,hb.1,hb.2.1})))};show{01001101,ao (λh9=>?_) (λ_=>fc (nx _ _ {o,1,c6,hb.1,hb.2.1}))};show{010011,p12,z2,λe2 he2=>{0100112}};let c7:=c6.m (ac he2 (.lst [.int 100,.int ((10:Int)^(12:Int).toNat)]));obtain⟨u,hu,u0,u1⟩:∃u:Int,kq [V.int 100,V.int ((10:Int)^(12:Int).toNat)] (o-7)=Z (.int u)/\0<u/\u<=10^12:=by
   rcases(hb.2.2 (Z7 h6) (Z7 h9))with rfl|rfl
   .show{(100),133}
   .show{0133}
  show{e2,0,o-7,.int u,11,aD.of aa,hu,nd,u,1,c7.st,u0,3,λH8 y s8 st8 y0 y1=>dQ (nx _ _ {y,1,c7.d s8 st8 nw fnd,y0,3})}
 show{01101,ao (λh=>hY _ ?_) (λhm=>hZ _ (fc (hX _ _ ?_)))}
 .let ew:p.1=Y "name":=V.str.inj (Z7 h)
  let wo5:=woC c5;show aJ λX2 hX2=>{01,g,0,(0),.ref r1,11,aw.of wo5.hg,ad (j:=0) U,01,nd,(12),1,c5.st,33,λH6 x s6 st6 x0 x1=>?_};obtain⟨y,hy,he⟩:∃y,y∈xs/\kq (xs.map V.str) x=Z (.str y):=by
   let hi:x.toNat<xs.length:=by rw[wo.l1];omega
   show{xs[x.toNat],l_ hi,2};let e:=ad (xs:=xs.map V.str) (j:=x.toNat) (v:=.str xs[x.toNat]) (by rw[ϑ,Ζ hi];rfl);rwa[show((x.toNat:Nat):Int)=x by omega]at e
  let c6:=c5.d s6 st6 nw fnd;show{r1,0,x,.str y,11,aD.of (s6 _ _ (wo5.ne c5.st).2.1 wo5.h1),he,dQ (hX2 _ _ ?_)};show{0101,z2,λt1 ht1=>{01,z3,λt2 ht2=>?_}};let s8:=ac ht1 (.tup [.str p.1,.str y]);let h8:upd H6 t1 (.tup [.str p.1,.str y]) t1=Z (.tup [.str p.1,.str y]):=aa;generalize upd H6 t1 (.tup [.str p.1,.str y])=H8 at s8 h8 ht2⊢;let s9:=ac ht2 (.tup [.ref t1,.str y,.int 1]);let c9:=c6.m (s8.trans s9);let wx:Wx (r+1) (.tup [.str (Y "name"),.str y]) (.leaf y):=.inr (.inl {y,wo.n1 y hy,11});show q _ _ _ _ 1 c9.sb (wkC c9 () ()) ?_ wx (gN (n:=r) (p:=xy) pT.2.2.2.2 (dg wx).1) (Α _) b1;rw[aL,aj];show{t2,01,aa,2};show{00120013001,by simp only[aj];rfl,1};rw[aj];show{t1,01,s9 _ _ h8,by simp only[Reps];show{001,by simp only[aj,ew],00131}}
 let hn:p.1≠Y "number":=λz=>hn (Z9 (congrArg V.str z));let hm:p.1≠Y "name":=λz=>hm (Z9 (congrArg V.str z));ext(⟨lsg,lsz,ls5,_⟩:KH _ hq);ext(⟨lsc,ls4⟩:FY _ hq);let lso:=KA _ hq;let lsw:=Hy _ hq;dsimp only at lsg lsz ls5 lsc ls4 lso lsw;let fit1:nE ls+1<=bud/\(nE ls≠0->1<=r):=by unfold cE at fit;rw[lsc]at fit;omega
 show aJ λX hX=>{ϋ _,λLP hLP=>gs hX λX hX=>{ϋ _,λLT hLT=>gs hX λX hX=>?_}};let nP:LP≠wk:=λz=>by rw[z,c5.hk]at hLP;cases hLP
 let nPd:LP≠nd:=λz=>by ext(⟨_,_,e⟩:c5.st);rw[z,e]at hLP;cases hLP
 let fP:H LP=Β:=Bn c5.sb hLP nP;let c6:=c5.m (ac hLP (.lst []));let h6:upd H5 LP (.lst []) LP=Z (.lst []):=aa;generalize upd H5 LP (.lst [])=H6 at c6 h6 hLT⊢;let nT:LT≠wk:=λz=>by rw[z,c6.hk]at hLT;cases hLT
 let nTd:LT≠nd:=λz=>by ext(⟨_,_,e⟩:c6.st);rw[z,e]at hLT;cases hLT
 let nTP:LT≠LP:=λz=>by rw[z,h6]at hLT;cases hLT
 let fT:=Bn c6.sb hLT nT;let c7:=c6.m (ac hLT (.lst []));let h7:=ac hLT (.lst []) _ _ h6;let g7:upd H6 LT (.lst []) LT=Z (.lst []):=aa;generalize upd H6 LT (.lst [])=H7 at c7 h7 g7⊢;clear hLP hLT h6 c6 c5 hY hZ;show{010011,gs hX λX hX=>{011,p.2,Y "e",11,gs hX λX hX=>?_}};show{01,p.2,1,AJ (λj σ H'=>∃(o6 o15 o16 o17 o18:Option V) (lf mo:Int) (us:List V) (ds:List Dv) (bs:List Br) (N:Nat),σ=[Z (.ref wk),Z (.ref g),Z (.int (r+1:Nat)),Z (.int bud),Z (.ref nd),Z (.ref S),o6,Z (.str p.1),Z (.str p.2),Β,Β,Z (.ref LP),Z (.ref LT),Z (.int lf),Z (.int mo),o15,o16,o17,o18]/\jA H H' wk sc nd (i+1+N) m/\Kp LP LT us ds bs H'/\mq (Wx r) (ls.take j) ds bs/\((bL (ls.take j) ds).map (dC r)).sum=N/\lf=bud-1-N/\mo=nE (ls.drop j)/\N+nE (ls.drop j)+1<=bud/\∀y,ds[0]?=Z (.str y)->y∈xs)
  {0000000,[],[],[],(0),1,↑c7,{h7,by simp[Reps],g7},.nil,13,lsc,↑fit1.1,λy h=>by simp at h} ?T2 ?_}
 case T2=>
  intro j σ H8 D go hj h;show gs (λ_ _ z=>z) λX hX=>?_;ext(⟨o6,o15,o16,o17,o18,lf,mo,us,ds,bs,N,rfl,c8,k8,ag,eN,elf,emo,hN,hx0⟩:h);rw[lsz]at hj;obtain⟨s0,hs0⟩:∃s0,ls[j]?=Z s0:={ls[j],Ζ hj};let htk:ls.take (j+1)=ls.take j++[s0]:=by rw[Ϥ,hs0];rfl
  let hdr:ls.drop j=s0::ls.drop (j+1):=by rw[F3 hj];congr 1;rw[Ζ hj]at hs0;show ϡ hs0
  let esg:=GF lsg (by rw[lsz];show hj) hs0;rw[esg];let pl8:=xY () (λd b h=>pc h) ag;let nx:∀(σ':St)(H':Hp),(∃(o16 o18:Option V) (lf' mo':Int) (v:V) (d:Dv) (b:Br) (N':Nat),σ'=[Z (.ref wk),Z (.ref g),Z (.int (r+1:Nat)),Z (.int bud),Z (.ref nd),Z (.ref S),Z v,Z (.str p.1),Z (.str p.2),Β,Β,Z (.ref LP),Z (.ref LT),Z (.int lf'),Z (.int mo'),Z (.str (lt s0)),o16,Z (bv b),o18]/\jA H H' wk sc nd (i+1+N') m/\Kp LP LT us ds bs H'/\aj H' d v/\Ag (Wx r) s0 d b/\N+((mT s0 d).map (dC r)).sum=N'/\lf'=bud-1-N'/\mo'=nE (ls.drop (j+1))/\N'+nE (ls.drop (j+1))+1<=bud/\∀y,d=.str y->y∈xs)->X σ' H':=by
   ext _ H9 ⟨o16,o18,lf',mo',v,d,b,N',rfl,c9,k9,R9,ag9,eN',elf',emo',hN',hd9⟩;let pl9:=Jj () (λd b h=>pc h) ag9;ext(⟨lb,ld⟩:ag.len);let lu:=k9.rp.length;let lj:(ls.take j).length<=5:=by rw[Φ];omega
   show hX _ _ (aJ λX2 hX2=>{01,.inl {10,aD.of k9.hp},01,LP,0011,k9.hp,32});let sB:=ap.upd H9 LP (.lst (us++[v]));let tB:=sB.tups k9.hp;let c10:=c9.l sB fP nP nPd;let h10:upd H9 LP (.lst (us++[v])) LP=Z (.lst (us++[v])):=aa;let g10:=sB _ _ nTP k9.ht;let R10:=Reps.append (ce (λd hd v r=>bq tB (pl8 d hd) r) k9.rp) (be (bq tB pl9 R9));generalize upd H9 LP (.lst (us++[v]))=HA at sB tB c10 h10 g10 R10⊢;show hX2 _ _ {01,.inl {10,aD.of g10},01,LT,0011,g10,by rw[ε,ι];omega,2};let sC:=ap.upd HA LT (.lst (bs.map bv++[bv b]));let tC:=sC.tups g10;let pl10:∀e∈ds++[d],L2.Pl (2*r+15) e:=λe he=>by
    rcases Ν.mp he with z|z
    .show pl8 e z
    .rw[ο.mp z];show pl9
   ext(⟨ags,pts⟩:ag.snoc ag9);show go _ _ {00000,lf',mo',us++[v],ds++[d],bs++[b],N',1,c10.l sC fT nT nTd,{sC _ _ (ϝ nTP) h10,ce (λd hd v r=>bq tC (pl10 d hd) r) R10,by rw[aa,Κ];rfl},by rw[htk];show ags,by rw[htk,pts,Κ,O0,eN];show eN',elf',emo',hN',λy hy=>?_};cases ds with
   |nil=>show hd9 y (ϡ hy)
   |cons d0 ds=>show hx0 y hy
  show bW λC a hY hZ=>{011012};let hso:=lso s0 (ό hs0);rcases hso with rfl|hso
  .let nEd:nE (ls.drop j)=nE (ls.drop (j+1))+1:=by rw[hdr];rfl
   let r1':1<=r:=fit1.2 λz=>by
    let:nE ls=nE (ls.take j)+nE (ls.drop j):=by unfold nE;rw[<-Ε,<-SV,y8]
    omega
   show ao (λ_=>hY _ (aJ λX hX=>{010011,gs hX λX hX=>{01010011,dQ (hX _ _ ?_)}})) (λh=>absurd (Z9 U) h);obtain⟨sh,hsh⟩:∃sh:Nat,lf-(mo-1)=sh:={(lf-(mo-1)).toNat,3};try dsimp only
   rw[hsh];show zh (λσ' H'=>∃sh:Nat,σ'=[Z (.ref wk),Z (.ref g),Z (.int (r+1:Nat)),Z (.int bud),Z (.ref nd),Z (.ref S),o6,Z (.str p.1),Z (.str p.2),Β,Β,Z (.ref LP),Z (.ref LT),Z (.int lf),Z (.int (mo-1)),Z (.str (lt .e)),Z (.int sh),o17,o18]/\jA H H' wk sc nd (i+1+N) m/\Kp LP LT us ds bs H'/\1<=sh/\N+sh+nE (ls.drop (j+1))+1<=bud) ?N3 (λ_ nx3=>?_)
   case N3=>
    ext _ H9 ⟨sh,rfl,c9,k9,sh1,sh2⟩;show aJ λX3 hX3=>{010101001101,wk,g,r1,r2,sc,ns,i+1+N,m,xs,ys,r,sh,2,wkC c9 () (),3,ln,woC c9,r1',33,sh1,3,λHA v d b c sA wA RA wx ex cl cu=>?_}
    .change [V.ref wk,V.ref g,V.int (((r+1:Nat):Int)-1),V.int sh]=_;rw[show((r+1:Nat):Int)-1=(r:Int) by omega]
    ext(⟨t,vt,rfl,ht,Rt⟩:aj.tup_inv RA);simp only[Reps]at Rt;ext(⟨w1,_,rfl,e1,w2,_,rfl,e2,w3,_,rfl,e3,rfl⟩:Rt);simp only[aj]at e2 e3;subst e2;subst e3;show{t,01,aw.of ht,10010010011,hX3 _ _ {01010011,dQ (nx _ _ {00,lf-c,mo-1,w1,d,b,N+c,1,c9.e sA ?_ nw,k9.b sA (c9.tm sA) nP nT pl8,e1,wx,2333,λy hd=>?_})}}
    .let:=wA.1;rwa[show i+1+(N:Int)+c=i+1+((N+c:Nat):Int) by omega]at this
    .change N+(dC r d+0)=_;rw[ex];rfl
    .show absurd hd (wS (s:=.e) wx (.inl U) y)
   show bW λC a hY hZ=>{01001101,ao (λh0=>hY _ ?_) (λh0=>hZ _ (fc (nx3 _ _ {sh,1,c8,k8,33})))};show{0101,nd,sh,1,c8.st,33,λH9 x s9 st9 x0 x1=>?_};obtain⟨y,rfl⟩:∃y:Nat,x=y:={x.toNat,3};show{0011,dQ (nx3 _ _ {1+y,1,c8.d s9 st9 nw fnd,k8.b s9 (c8.st.tups s9) nPd nTd pl8,33})}
  .show ao (λh=>absurd (V.str.inj (Z7 h)) (Qk hso)) (λ_=>hZ _ ?_);show{010101,s0,nd,g,r1,r2,xs,ys,1,hso,c8.st,woC c8,λH9 v d b s9 st9 R9 ag9 lb hy=>?_};ext(⟨t,vt,rfl,ht,Rt⟩:aj.tup_inv R9);ext(⟨w1,w2,rfl,e1,e2⟩:Reps.two Rt);simp only[aj]at e2;subst e2;let e0:((mT s0 d).map (dC r)).sum=0:=by rcases hso with rfl|rfl|rfl|rfl<;>rfl
   let nEd:nE (ls.drop j)=nE (ls.drop (j+1)):=by rw[hdr];rcases hso with rfl|rfl|rfl|rfl<;>rfl
   show{t,01,aw.of ht,10010011,nx _ _ {00,lf,mo,w1,d,b,N,1,c8.d s9 st9 nw fnd,k8.b s9 (c8.st.tups s9) nPd nTd pl8,e1,ag9 _,by rw[e0];rfl,elf,by rw[emo,nEd],3,λy hd=>?_}};rcases hso with z|z|z
   .show absurd hd (wS (r:=r) (ag9 _) (.inr (.inl z)) y)
   .show absurd hd (wS (r:=r) (ag9 _) (.inr (.inr z)) y)
   .ext(⟨y',hy',e,_⟩:hy z);rw[e]at hd;cases hd;show hy'
 ext σ H8 ⟨o6,o15,o16,o17,o18,lf,mo,us,ds,bs,N,rfl,c8,k8,ag,eN,elf,emo,hN,hx0⟩;rw[lsz,ϧ]at ag eN;let sl:=zo (λd b h=>tD h) ag;rw[eN]at sl;show hX _ _ (aJ λX hX=>{0101010101,r,p.1,LP,LT,nd,g,r1,r2,us,ds,bL ls ds,bs,xs,ys,1,k8.hp,k8.rp,k8.ht,nPd,nTd,c8.st,woC c8,Og hq hn hm ag hx0,3,λH9 v d b s9 st9 R9 wx ex=>?_});ext(⟨t,vt,rfl,ht,Rt⟩:aj.tup_inv R9);ext(⟨w1,w2,rfl,e1,e2⟩:Reps.two Rt);simp only[aj]at e2;subst e2;let c9:=c8.d s9 st9 nw fnd;show{t,01,aw.of ht,10010011,hX _ _ {010101010011,z3,λt2 ht2=>?_}};let sA:=ac ht2 (.tup [w1,bv b,.int ((bud:Int)-lf)]);let cA:=c9.m sA;rw[eN]at ex;let wkA:=wkC cA () ();rw[show i+1+(N:Int)=i+((1+N:Nat):Int) by omega]at wkA;show q _ _ d b (1+N) cA.sb wkA ?_ wx ex () ();rw[aj];show{t2,01,aa,2};simp only[Reps];show{001,e1.mono sA,001300121};simp only[aj];show congrArg V.int ()
end
open PySem L2 KB XB PySem.NumText WR
def iA(x:Str):Dv:=if vX x=O then .int ((digitsVal x.cps.toList:Nat):Int)else .non
def yT(x:Str):aj H (iA x) (pZ x):=by unfold iA pZ;split<;>simp only[aj]
def eu(x:Str):Dv:=match Txt.split x (Y "*")with
 |[a,b]=>.tup [.str b,iA a]
 |_=>.tup [.str x,.int 1]
def sR(x:Str):Dv:=match iA ((Txt.split x (Y "+")).getLastD x)with
 |.int c=>.tup [.int c,.tup ((Txt.split x (Y "+")).dropLast.map eu)]
 |_=>.tup [.int 0,.tup ((Txt.split x (Y "+")).map eu)]
def uc(s:Str):∀{ys:List Str},ys≠[]->(Τ s ys).length+s.length=(ys.map λy=>y.length).sum+ys.length*s.length
 |[a],_=>by rw[aR];simp
 |a::b::r,_=>by rw[aO,ς,ς,ϊ,A0,Δ];let:=uc s (ys:=b::r) ();rw[Nat.succ_mul];omega
def oE(x:Str)(c:Nat):(Txt.split x {#[c]}).length<=x.length+1/\∀p∈Txt.split x {#[c]},p.length<=x.length:=by let a:=uc {#[c]} (iC x {#[c]});let b:=SS x {#[c]};rw[b]at a;let e:({#[c]}:Str).length=1:=U;rw[e]at a;show{3,λp d=>?_};let g:=jR {#[c]} (Txt.split x {#[c]});rw[b]at g;let h:=mJ (j_ (f:=λy:Str=>y.length) d);omega
def sV:Y "*"={#[42]}:=()
def yq:Y "+"={#[43]}:=()
inductive rH (vs:List V) (H:Hp) (Q:VK) (u3_:XK):Prop|mk (x:Str) (_:vs=[.str x]) (_:x.length<=4900) (_:∀H' w,af H H'->aj H' (eu x) w->Q w H')
inductive ES (vs:List V) (H:Hp) (Q:VK) (u3_:XK):Prop|mk (x:Str) (_:vs=[.str x]) (_:x.length<=4900) (_:∀H' w,af H H'->aj H' (sR x) w->Q w H')
def dX(h:H t=Z (.tup [v1,v2]))(b:aj H d1 v1)(a:aj H d2 v2):aj H (.tup [d1,d2]) (.ref t):=by rw[aj];show{t,01,h,by simp only[Reps];show{001,b,001,a,1}}
section
variable{P:Ι}{w:ώ}{K:η}{mg:Str->Option ν}{base:ϙ}
def Fj(F:Fun K "part_of" "part_of" qp f fd)(T:Txt K mg)(p:bf P w K mg base k "number_of" ["word"] yz):au P w K mg base bg (k+1) f fd ["text"] rH:=by
 show F.okA (N:=["text","halves"]) λL A G s H vs Q E u2 S h=>?_;ext(⟨x,rfl,u1,q⟩:h);show{0,aS (aY 1 (eX Μ w_ x9 fz (wv 0) (am az))) (cP (bA aA (cV aq T.len (aW 1)) aE) (dh (ar (eT aG (wv 1) aE) (am (aQ p (am (eT aG (wv 1) aE)))))) (bZ (dh (ar (wv 0) (am aE))))),2};ext(⟨I,sp⟩:oE x 42);rw[<-sV]at I sp;let g:∀{H':Hp}{w:V}{d:Dv},eu x=d->af H H'->aj H' d w->Q w H':=λe s R=>q _ _ s (e▸R);unfold eu at g;show aJ λX j=>{011,x,Y "*",11333,λl D=>?_};let n:=ac D (.lst ((Txt.split x (Y "*")).map V.str));let c:upd H l (.lst ((Txt.split x (Y "*")).map V.str)) l=Z (.lst ((Txt.split x (Y "*")).map V.str)):=aa;generalize upd H l (.lst ((Txt.split x (Y "*")).map V.str))=y at n c⊢;show gs j λX j=>bW λu0 M r C=>{01,l,01,.inl (aD.of c),1012};let v:(Txt.split x (Y "*")).length≠2->M y:=λo=>by
  show C _ (fc (j _ _ {01,z2,λt m=>?_}));let i:=ac m (.tup [.str x,.int 1]);show g ?_ (n.trans i) (dX aa (d1:=.str x) (d2:=.int 1) () ());split
  .rename_i e;rw[e]at o;show absurd U o
  .rfl
 show ao (λh=>?_) (λh=>v λz=>h (Z9 (by rw[ε,z];rfl)));let u:(Txt.split x (Y "*")).length=2:=by let:=V.int.inj (Z7 h);rw[ε]at this;omega
 obtain⟨a,b,e⟩:∃a b,Txt.split x (Y "*")=[a,b]:=by
  match Txt.split x (Y "*"),u with
  |[a,b],_=>show{a,b,1}
 rw[e]at c g sp;let W:=sp a π;show r _ {01,l,0,(1),.str b,11,aD.of c,ad U,01,l,0,(0),.str a,11,aD.of c,ad U,a,1,by change a.length<=5000;omega,λB i=>{z2,λt m=>?_}};show g U (n.trans (i.trans (ac m (.tup [.str b,pZ a])))) (dX aa () (yT a))
def Gz(F:Fun K "length_of" "length_of" lZ f fd)(T:Txt K mg)(b7:bf P w K mg base k "number_of" ["word"] yz)(a5:bf P w K mg base k "part_of" ["text"] rH):au P w K mg base bg (k+1) f fd ["text"] ES:=by
 show F.okA (N:=["text","texts","count"]) λc9 A c8 s H vs Q E hr nd h=>?_;ext(⟨x,rfl,l9,q⟩:h);show{0,aS (aY 1 (eX Μ w_ x9 fz (wv 0) (am az))) (aS (aY 2 (aQ b7 (am (eT aG (wv 1) (Qn xO aE))))) (cP (bA kx (wv 2) vj) (dh (ar aE (am (ka aF T.tuple (am (pY ["each"] [] (AR (wv 1)) (.of U) U (λ_ _ _=>{pg_name (i:=0) (bK (l:=["each"]) (()) U) U (z_ U)}) (bz ()) (λ_ _ _=>oW) (λ_ _ _=>(aQ a5 (aW 0))))))))) (bZ (dh (ar (wv 2) (am (ka aF T.tuple (am (pY ["each"] [] (AR (lJ dI (wv 1) mr (kh (Qn xO aE)))) (.of U) U (λ_ _ _=>{pg_name (i:=0) (bK (l:=["each"]) (()) U) U (z_ U)}) (bz ()) (λ_ _ _=>oW) (λ_ _ _=>(aQ a5 (aW 0)))))))))))),2};ext(⟨sl,sp⟩:oE x 43);let S:=iC x {#[43]};rw[<-yq]at sl sp S;let j:∀{H':Hp}{w:V}{d:Dv},sR x=d->af H H'->aj H' d w->Q w H':=λe s R=>q _ _ s (e▸R);unfold sR at j;show aJ λX D=>{011,x,Y "+",11333,λl hl=>?_};generalize Txt.split x (Y "+")=ts at sl sp S j D⊢;let s1:=ac hl (.lst (ts.map V.str));let h1:upd H l (.lst (ts.map V.str)) l=Z (.lst (ts.map V.str)):=aa;generalize upd H l (.lst (ts.map V.str))=H1 at s1 h1⊢;let rd:∀(us:List Str)(u0:υ)(z:Hp){σ:St}{Q2:List V->Hp->Prop},(∀p∈us,p∈ts)->us.length<=ts.length->z u0=Z (.lst (us.map V.str))->(∀ys H',af z H'->Reps H' (us.map eu) ys->Q2 ys H')->FG (Jo K u0) 1 [] (ez 0) Ft (jg rH [] E0 (jG (jq 0) mf)) σ z Q2:=λus u0 z σ Q2 hs hn b8 q2=>by
  show fK (λi ys H'=>af z H'/\Reps H' ((us.take i).map eu) ys) {af.refl _,by simp[Reps]} (λi ys H' _ p=>aD.of (p.1 _ _ b8)) ?_ ?_
  .ext i ys H3 y hx ⟨u1,G⟩;rw[ϑ]at hx;ext(⟨p,I,rfl⟩:ϫ.mp hx);let:=sp p (hs p (ό I));show bt {01,p,13,λH4 w4 v L=>{2,u1.trans v,2}}
   .rw[G.length,ε,Φ,ι];omega
   .rw[Ϥ,I,Κ];show Reps.append (G.mono v) (be L)
  .ext ys H3 ⟨u1,G⟩;rw[ε,ϧ]at G;show q2 ys H3 u1 G
 obtain⟨g,b,o⟩:∃g b,ts=g++[b]:={ts.dropLast,ts.getLast S,(Sd S).symm};let eb:ts.getLastD x=b:=by rw[o];simp
 let ed:ts.dropLast=g:=by rw[o];simp
 rw[eb,ed]at j;let lb:=sp b (by rw[o];simp);let u3:=h1;rw[o,Κ]at u3;show gs D λX D=>{01,(1),1,l,00,.str b,11,aD.of u3,Ig _ _,b,1,by change b.length<=5000;omega,λz s2=>gs D λX D=>?_};let h2:=s2 _ _ h1;let B:=s1.trans s2;let a6:∀(us:List Str)(c:Int){u:Hp}{t:υ}{ys:List V},af H u->u t=Z (.tup ys)->Reps u (us.map eu) ys->∀m,u m=Β->aj (upd u m (.tup [.int c,.ref t])) (.tup [.int c,.tup (us.map eu)]) (.ref m):=λus c {u t ys} r M R5 m n=>by let a:=ac n (.tup [.int c,.ref t]);show dX aa () (by rw[aj];show{t,ys,1,a _ _ M,R5.mono a})
 cases W:vX b with
 |true=>have u2:pZ b=.int ((digitsVal b.cps.toList:Nat):Int):=Z5 W;let eD:iA b=.int ((digitsVal b.cps.toList:Nat):Int):=Z5 W;rw[u2];rw[eD]at j;show bW λu2 u1 hY hZ=>{01101,ao (λh=>absurd h ()) (λ_=>hZ _ (fc (D _ _ {01012})))};show{0101,l,01,aD.of (s2 _ _ u3),λl3 b9=>?_};rw[show cO (g.map V.str++[b].map V.str) Β (Z (-1))=g.map V.str from DZ _ _];show{l3,1,{0,aD.of aa},rd g l3 _ (λp I=>by rw[o];show r6 _ I) (by rw[o,Ε];omega) aa λys H4 v L l5 u4=>?_};let r:=ac u4 (.lst ys);show{l5,01,.inl {aD.of aa,λt M=>{z2,λm n=>?_}}};let a:=ac M (.tup ys);let C:=(ac b9 (.lst (g.map V.str))).trans (v.trans (r.trans a));show j U ((B.trans C).trans (ac n _)) (a6 g _ (B.trans C) aa (L.mono (r.trans a)) m n)
 |false=>have u2:pZ b=.non:=Z6 (by rw[W];decide);let eD:iA b=.non:=Z6 (by rw[W];decide);rw[u2];rw[eD]at j;show bW λu2 u1 hY hZ=>{01101,ao (λ_=>hY _ ?_) (λh=>absurd () h)};show{01,l,1,{0,aD.of h2},rd ts l _ (λp I=>I) (Α _) h2 λys H4 v L l5 u4=>?_};let r:=ac u4 (.lst ys);show{l5,01,.inl {aD.of aa,λt M=>{z2,λm n=>?_}}};let a:=ac M (.tup ys);let C:=v.trans (r.trans a);show j U ((B.trans C).trans (ac n _)) (a6 ts _ (B.trans C) aa (L.mono (r.trans a)) m n)
end
open PySem L2 KB XB WR
def Mi{A B:Prop}(h:A->B)(a:A):B:=h a
def FL(w:Str):Prop:=w.length<=4900/\w.cps.toList.count 43<=20
mutual
noncomputable def cL:Br->Prop
 |.leaf w=>FL w
 |.nd w ts=>FL w/\ts.length<=4900/\brSs ts
noncomputable def brSs:List Br->Prop
 |[]=>True
 |t::ts=>cL t/\brSs ts
end
def dP:∀{ts:List Br},brSs ts->∀u∈ts,cL u
 |t::ts,h,u,a=>by
  rw[brSs]at h;rcases ξ.mp a with rfl|a
  .show h.1
  .show dP h.2 u a
def eK:Br->Dv
 |.leaf w=>sR w
 |.nd _ _=>.non
def gc:Br->Dv
 |.leaf w=>.str w
 |.nd _ _=>.non
def gM(w:Str):Dv:=if vX w=O then .tup [.str (Y "number"),iA w]else .tup [.str (Y "name"),.str w]
def aZ:Nat->Br->Dv
 |0,_=>.non
 |_+1,.leaf w=>.tup [.str w]
 |n+1,.nd w ts=>match ts with
  |[a]=>if w=Y "place" then .tup [.str (Y "place"),eK a]else .non
  |[a,b]=>if w=Y "row" then .tup [.str (Y "row"),eK a,aZ n b]else if w=Y "pair" then .tup [.str (Y "pair"),aZ n a,aZ n b]else .non
  |_=>.non
inductive nZ (vs:List V) (H:Hp) (Q:VK) (u3_:XK):Prop|mk (v:V) (b:Br) (_:vs=[v]) (_:aj H (bO b) v) (_:cL b) (_:∀H' w,af H H'->aj H' (eK b) w->Q w H')
inductive vR (vs:List V) (H:Hp) (Q:VK) (u3_:XK):Prop|mk (v:V) (b:Br) (_:vs=[v]) (_:aj H (bO b) v) (_:∀w,aj H (gc b) w->Q w H)
inductive AB (vs:List V) (H:Hp) (Q:VK) (u3_:XK):Prop|mk (x:Str) (_:vs=[.str x]) (_:x.length<=4900) (_:∀H' w,af H H'->aj H' (gM x) w->Q w H')
inductive iK (n:Nat) (vs:List V) (H:Hp) (Q:VK) (u3_:XK):Prop|mk (v:V) (b:Br) (_:vs=[v]) (_:aj H (bO b) v) (_:cL b) (_:ba b<n) (_:∀H' w,af H H'->aj H' (aZ n b) w->Q w H')
def ug(R:aj H (bO b) v):∃a,v=.ref a/\((∃w,b=.leaf w/\H a=Z (.tup [.str w,.non]))\/∃w ts l us,b=.nd w ts/\H a=Z (.tup [.str w,.ref l])/\H l=Z (.lst us)/\Reps H (ts.map bO) us):=by
 cases b with
 |leaf w=>rw[bO]at R;ext(⟨a,rfl,h⟩:Cs R);show{a,1,.inl {w,1,h}}
 |nd w ts=>rw[bO,dB]at R;ext(⟨a,l,us,rfl,h,hl,ru⟩:xv R);show{a,1,.inr {w,ts,l,us,1,h,hl,ru}}
section
variable{P:Ι}{w:ώ}{K:η}{mg:Str->Option ν}{base:ϙ}
def pQ(F:Fun K "length_in" "length_in" ma f fd)(T:Txt K mg)(d:bf P w K mg base k "length_of" ["text"] ES):au P w K mg base bg (k+1) f fd ["branch"] nZ:=by
 show F.okA (N:=["branch"]) λg A e s H vs Q E j i h=>?_;ext(⟨v,b,rfl,R,bs,q⟩:h);show{0,bZ (OH (bA kx (bC 0) vj) (aQ d (am (bC 0))) vj),2};ext(⟨a,rfl,⟨w,rfl,c⟩|⟨w,ts,l,us,rfl,c,_⟩⟩:ug R)
 .rw[cL]at bs;show{01,a,0,(1),.non,11,aw.of c,ad U,101,ao (λ_=>?_) (λh=>absurd () h)};show{01,a,0,(0),.str w,11,aw.of c,ad U,w,1,bs.1,q}
 .show{01,a,0,(1),.ref l,11,aw.of c,ad U,101,ao (λh=>absurd h ()) (λ_=>q H _ (af.refl _) (by rw[eK];simp only[aj]))}
def nh(F:Fun K "word_alone" "word_alone" jM f fd)(T:Txt K mg):au P w K mg base bg 1 f fd ["branch"] vR:=by
 show F.okA (N:=["branch"]) λe A d s H vs Q E i g h=>?_;ext(⟨v,b,rfl,R,q⟩:h);show{0,bZ (OH (bA kx (bC 0) vj) (bC 0) vj),2};ext(⟨a,rfl,⟨w,rfl,c⟩|⟨w,ts,l,us,rfl,c,_⟩⟩:ug R)
 .show{01,a,0,(1),.non,11,aw.of c,ad U,101,ao (λ_=>?_) (λh=>absurd () h)};show{01,a,0,(0),.str w,11,aw.of c,ad U,q _ (by rw[gc];simp only[aj])}
 .show{01,a,0,(1),.ref l,11,aw.of c,ad U,101,ao (λh=>absurd h ()) (λ_=>q _ (by rw[gc];simp only[aj]))}
def wt(F:Fun K "atom_of" "atom_of" qk f fd)(T:Txt K mg)(g:bf P w K mg base k "number_of" ["word"] yz):au P w K mg base bg (k+1) f fd ["word"] AB:=by
 show F.okA (N:=["word","number"]) λn A m s H vs Q E r o h=>?_;ext(⟨x,rfl,p,q⟩:h);show{0,aS (aY 1 (aQ g (aW 0))) (bZ (OH (bA kx (wv 1) vj) (dh (ar az (aW 0))) (dh (ar az (aW 1))))),aJ λX j=>{01,x,1,by change x.length<=5000;omega,λl e=>dQ (j _ _ ?_)}};cases c:vX x with
 |true=>have a:pZ x=.int ((j7 x.cps.toList:Nat):Int):=Z5 c;rw[a];show{01101,ao (λh=>absurd h ()) (λ_=>{01,z2,λt b=>?_})};let i:=ac b (.tup [.str (Y "number"),.int ((j7 x.cps.toList:Nat):Int)]);show q _ _ (e.trans i) ?_;rw[gM,Z5 c];show dX aa () (by let:=yT (H:=upd l t (.tup [.str (Y "number"),.int ((j7 x.cps.toList:Nat):Int)])) x;rwa[a]at this)
 |false=>
  let d:¬ vX x=O:=by rw[c];decide
  let a:pZ x=.non:=Z6 d;rw[a];show{01101,ao (λ_=>{01,z2,λt b=>?_}) (λh=>absurd () h)};show q _ _ (e.trans (ac b (.tup [.str (Y "name"),.str x]))) ?_;rw[gM,Z6 d];show dX aa () ()
def ut{f:υ}{fd:ϣ}{k0 n:Nat}(F:Fun K "kind_in" "kind_in" qF f fd)(T:Txt K mg)(a5:bf P w K mg base k0 "length_in" ["branch"] nZ)(u1:bf P w K mg base k0 "kind_in" ["branch"] (iK n)):au P w K mg base bg (k0+1) f fd ["branch"] (iK (n+1)):=by
 show F.okA (N:=["branch","word","inner"]) λb5 A b4 s H vs Q E hr nd h=>?_;ext(⟨v,b,rfl,R,bs,bd,q⟩:h);show{0,aS (aY 1 (bC 0)) (aS (aY 2 (bC 0)) (cP (bA kx (wv 2) vj) (dh (aW 1)) (cP (lW (EB (bA aA (wv 1) az) (EL (bA aA (cV aq T.len (aW 2)) aE)))) (dh (ar az (am (aQ a5 (am (eT aG (wv 2) aE)))))) (cP (lW (EB (bA aA (wv 1) az) (EL (bA aA (cV aq T.len (aW 2)) aE)))) (dh (ar az (ar (aQ a5 (am (eT aG (wv 2) aE))) (am (aQ u1 (am (eT aG (wv 2) aE))))))) (cP (lW (EB (bA aA (wv 1) az) (EL (bA aA (cV aq T.len (aW 2)) aE)))) (dh (ar az (ar (aQ u1 (am (eT aG (wv 2) aE))) (am (aQ u1 (am (eT aG (wv 2) aE))))))) (bZ vj)))))),2};show aJ λX d=>?_;ext(⟨a,rfl,⟨w,rfl,S⟩|⟨w,ts,l,us,rfl,S,g,u2⟩⟩:ug R)
 .show{01,a,0,(0),.str w,11,aw.of S,ad U,gs d λX d=>{01,a,0,(1),.non,11,aw.of S,ad U,gs d λX d=>bW λu0 u4 j r=>{01101,ao (λ_=>j _ {01,z1,λt y=>?_}) (λh=>absurd () h)}}};show q _ _ (ac y _) ?_;rw[aZ,aj];show{t,01,aa,by simp only[Reps];show{00131}}
 let lu:us.length=ts.length:=by let:=u2.length;rwa[ε]at this
 rw[cL]at bs;rw[ba]at bd;let B:=dP bs.2.2;let cd:∀u∈ts,ba u<n:=λu hu=>by let:=jS hu;omega
 show{01,a,0,(0),.str w,11,aw.of S,ad U,gs d λX d=>{01,a,0,(1),.ref l,11,aw.of S,ad U,gs d λX d=>bW λu0 u4 j r=>{01101,ao (λh=>absurd h ()) (λ_=>r _ (fc (d _ _ (aJ λX d=>bW λu0 u4 j r=>?_))))}}};let ld:∀{k:Nat},ts.length≠k->¬ decide (V.int (us.length:Nat)=V.int (k:Int))=O:=λh z=>by let:=V.int.inj (Z7 z);omega
 by_cases I:w=Y "place"/\ts.length=1
 .ext(⟨c,rfl⟩:List.length_eq_one_iff.mp I.2);ext(⟨o,rfl,W⟩:eY u2);show{01101,ao (λ_=>{01,l,01,.inl (aD.of g),101,ao (λ_=>j _ {01,l,0,(0),o,11,aD.of g,ad U,o,c,1,W,B c π,λH1 C i M=>{z2,λt y=>?_}}) (λh=>absurd (Z9 U) h)}) (λh=>absurd (Z9 (congrArg V.str I.1)) h)};let m:=ac y (.tup [.str (Y "place"),C]);show q _ _ (i.trans m) ?_;rw[aZ,Z5 I.1];show dX aa () (M.mono m)
 show Mi (λn1=>{01101,ao (λu3=>{01,l,01,.inl (aD.of g),101,ao (λL=>absurd L (ld λe=>I {V.str.inj (Z7 u3),e})) (λ_=>n1)}) (λ_=>aK n1)}) (r _ (fc (d _ _ (aJ λX d=>bW λu0 u4 j r=>?_))));by_cases D:w=Y "row"/\ts.length=2
 .ext(⟨c,e,rfl⟩:kj D.2);ext(⟨o,G,rfl,W,r2⟩:Reps.two u2);show{01101,ao (λ_=>{01,l,01,.inl (aD.of g),101,ao (λ_=>j _ {01,l,0,(0),o,11,aD.of g,ad U,o,c,1,W,B c π,λH1 C i M=>{01,l,0,(1),G,11,aD.of (i _ _ g),ad U,G,e,1,r2.mono i,B e (),cd e (),λH2 w2 m R2=>{z3,λt y=>?_}}}) (λh=>absurd (Z9 U) h)}) (λh=>absurd (Z9 (congrArg V.str D.1)) h)};let x:=ac y (.tup [.str (Y "row"),C,w2]);show q _ _ (i.trans (m.trans x)) ?_;rw[aZ,Z5 D.1,aj];show{t,01,aa,by simp only[Reps];show{0013001,M.mono (m.trans x),001,R2.mono x,1}}
 show Mi (λn2=>{01101,ao (λu3=>{01,l,01,.inl (aD.of g),101,ao (λL=>absurd L (ld λe=>D {V.str.inj (Z7 u3),e})) (λ_=>n2)}) (λ_=>aK n2)}) (r _ (fc (d _ _ (aJ λX d=>bW λu0 u4 j r=>?_))));by_cases p:w=Y "pair"/\ts.length=2
 .ext(⟨c,e,rfl⟩:kj p.2);ext(⟨o,G,rfl,W,r2⟩:Reps.two u2);show{01101,ao (λ_=>{01,l,01,.inl (aD.of g),101,ao (λ_=>j _ {01,l,0,(0),o,11,aD.of g,ad U,o,c,1,W,B c π,cd c (),λH1 C i M=>{01,l,0,(1),G,11,aD.of (i _ _ g),ad U,G,e,1,r2.mono i,B e (),cd e (),λH2 w2 m R2=>{z3,λt y=>?_}}}) (λh=>absurd (Z9 U) h)}) (λh=>absurd (Z9 (congrArg V.str p.1)) h)};let x:=ac y (.tup [.str (Y "pair"),C,w2]);show q _ _ (i.trans (m.trans x)) ?_;rw[aZ,Z6 (λz=>absurd (z.symm.trans p.1) ()),Z5 p.1,aj];show{t,01,aa,by simp only[Reps];show{0013001,M.mono (m.trans x),001,R2.mono x,1}}
 let n3:u4 H:=by
  show r _ (fc (d _ _ (q H _ (af.refl _) ?_)));let e:aZ (n+1) (.nd w ts)=.non:=by
   rcases ts with _|⟨c,_|⟨e,_|⟨d,r⟩⟩⟩
   .rw[aZ]<;>simp
   .rw[aZ,Z6 λz=>I {z,1}]
   .rw[aZ,Z6 λz=>D {z,1},Z6 λz=>p {z,1}]
   .rw[aZ]<;>simp
  rw[e];simp only[aj]
 show{01101,ao (λu3=>{01,l,01,.inl (aD.of g),101,ao (λL=>absurd L (ld λe=>p {V.str.inj (Z7 u3),e})) (λ_=>n3)}) (λ_=>aK n3)}
end
def tT(R:Br->Dv):So->Br->Dv
 |.l,b=>eK b
 |.k,b=>aZ 21 b
 |.x,b=>gc b
 |.y,b=>gc b
 |_,b=>R b
def bX:Nat->Br->Dv
 |0,_=>.non
 |_+1,.leaf w=>gM w
 |n+1,.nd w ts=>if cS w=O then .tup (.str (Y "reckon")::.str w::ts.map (bX n))else if w=Y "row" then .tup [.str (Y "row"),.tup (ts.map (bX n))]else match WT.find? (λp=>decide (p.1=w))with
  |some p=>.tup (.str w::A9 (tT (bX n)) p.2.2 ts)
  |none=>.tup [.str (Y "call"),.str w,.tup (ts.map (bX n))]
inductive qi (n:Nat) (vs:List V) (H:Hp) (Q:VK) (u3_:XK):Prop|mk (v:V) (b:Br) (_:vs=[v]) (_:aj H (bO b) v) (_:cL b) (_:ba b<n) (_:n<=21) (_:∀H' w,af H H'->aj H' (bX n b) w->Q w H')
inductive Je (n:Nat) (vs:List V) (H:Hp) (Q:VK) (u3_:XK):Prop|mk (s:So) (v:V) (b:Br) (_:vs=[.str (gj s),v]) (_:aj H (bO b) v) (_:cL b) (_:ba b<n) (_:n<=21) (_:∀H' w,af H H'->aj H' (tT (bX n) s b) w->Q w H')
section
variable{P:Ι}{w:ώ}{K:η}{mg:Str->Option ν}{base:ϙ}
def sW(F:Fun K "thing_in" "thing_in" oY f fd)(T:Txt K mg)(t:bf P w K mg base k "length_in" ["branch"] nZ)(u:bf P w K mg base k "kind_in" ["branch"] (iK 21))(p:bf P w K mg base k "word_alone" ["branch"] vR)(o:bf P w K mg base k "expression_in" ["branch"] (qi n)):au P w K mg base bg (k+1) f fd ["sort","branch"] (Je n):=by
 show F.okA (N:=["sort","branch"]) λL A G s H vs Q E S B h=>?_;ext(⟨s,v,b,rfl,R,bs,V,D,q⟩:h);show{0,cP (bA aA (wv 0) az) (aQ t (aW 1)) (cP (bA aA (wv 0) az) (aQ u (aW 1)) (cP (bA aA (wv 0) az) (aQ p (aW 1)) (bZ (aQ o (aW 1))))),aJ λX d=>bW λm j c g=>{01101,ao (λh=>c _ ?_) (λh=>g _ (fc (d _ _ (aJ λX d=>bW λm j c g=>?_))))}}
 .cases(qV s).mp (Z7 h);show{01,v,b,1,R,bs,q}
 let M:=λz=>h (Z9 ((qV s).mpr z));show{01101,ao (λh=>c _ ?_) (λh=>g _ (fc (d _ _ (aJ λX d=>bW λm j c g=>?_))))}
 .cases(rq s).mp (Z7 h);show{01,v,b,1,R,bs,3,q}
 let C:=λz=>h (Z9 ((rq s).mpr z));show{01101,ao (λh=>c _ ?_) (λh=>g _ (fc (d _ _ ?_)))}
 .rcases(vZ s).mp (Z7 h)with rfl|rfl
  .show{01,v,b,1,R,λw r=>q H w (af.refl _) r}
  .show{01,v,b,1,R,λw r=>q H w (af.refl _) r}
 let i:=λz=>h (Z9 ((vZ s).mpr z));let I:tT (bX n) s b=bX n b:=by
  cases s with
  |x=>show absurd (.inl U) i
  |y=>show absurd (.inr U) i
  |l=>show absurd U M
  |k=>show absurd U C
  |e=>rfl
  |n=>rfl
  |w=>rfl
  |f=>rfl
  |a=>rfl
  |r=>rfl
 rw[I]at q;show{01,v,b,1,R,bs,V,D,q}
def jF(F:Fun K "expression_in" "expression_in" gP f fd)(T:Txt K mg)(S:Shp P w K gS)(GS:mg "SHAPES"=Z (.ref gS))(GR:mg "RECKONS"=Z (.ref gR))(hR:∀H,aw K H gR (sY.map V.str))(e1:bf P w K mg base k "atom_of" ["word"] AB)(e0:bf P w K mg base k "thing_in" ["sort","branch"] (Je n))(b5:bf P w K mg base k "expression_in" ["branch"] (qi n)):au P w K mg base bg (k+1) f fd ["branch"] (qi (n+1)):=by
 show F.okA (N:=["branch","word","inner"]) λg1 A f8 s H vs Q E hr nd h=>?_;ext(⟨v,b,rfl,R,bs,bd,g0,q⟩:h);ext(⟨f9,FS,hS,e2⟩:S.ex);show{0,aS (aY 1 (bC 0)) (aS (aY 2 (bC 0)) (cP (bA kx (wv 2) vj) (aQ e1 (aW 1)) (cP (bA qG (wv 1) (nU (.ref gR) GR)) (aP iD (dh (ar az (aW 1))) (ka aF T.tuple (am (pY ["each"] [] (AR (wv 2)) (.of U) U (λ_ _ _=>{pg_name (i:=0) (bK (l:=["each"]) (()) U) U (z_ U)}) (bz ()) (λ_ _ _=>oW) (λ_ _ _=>(aQ b5 (aW 0))))))) (cP (bA aA (wv 1) az) (dh (ar az (am (ka aF T.tuple (am (pY ["each"] [] (AR (wv 2)) (.of U) U (λ_ _ _=>{pg_name (i:=0) (bK (l:=["each"]) (()) U) U (z_ U)}) (bz ()) (λ_ _ _=>oW) (λ_ _ _=>(aQ b5 (aW 0))))))))) (cP (bA (LA FS) (wv 1) (nU (.ref gS) GS)) (aP iD (dh (aW 1)) (ka aF T.tuple (am (pY (["sort","each"]) [] {pi_zip2 (c:=O) U T.zip (pa_cons (pe_getF FS (pe_glob (v:=.ref gS) U GS U) (pv 1) (λ_ _=>U)) (pa_cons (pv 2) pa_nil))} (.of U) U (λ_ _ _=>{pg_tup U (pgs_cons (pg_name (i:=0) (bK (l:=["sort","each"]) (()) U) U (z_ U)) (pgs_cons (pg_name (i:=1) (bK (l:=["sort","each"]) (()) U) U (z_ U)) pgs_nil))}) (kK () ()) (λ_ _ _=>oW) (λ_ _ _=>(aQ e0 (ar (wv 0) (aW 1)))))))) (bZ (dh (ar az (ar (wv 1) (am (ka aF T.tuple (am (pY ["each"] [] (AR (wv 2)) (.of U) U (λ_ _ _=>{pg_name (i:=0) (bK (l:=["each"]) (()) U) U (z_ U)}) (bz ()) (λ_ _ _=>oW) (λ_ _ _=>(aQ b5 (aW 0)))))))))))))))),2};show aJ λX o=>?_;ext(⟨a,rfl,⟨w,rfl,ha⟩|⟨w,ts,l,us,rfl,ha,hl,ru⟩⟩:ug R)
 .rw[cL]at bs;show{01,a,0,(0),.str w,11,aw.of ha,ad U,gs o λX o=>{01,a,0,(1),.non,11,aw.of ha,ad U,gs o λX o=>bW λu2 u1 B S=>{01101,ao (λ_=>B _ {01,w,1,bs.1,q}) (λh=>absurd () h)}}}
 let lu:us.length=ts.length:=by let:=ru.length;rwa[ε]at this
 rw[cL]at bs;rw[ba]at bd;let cs:=dP bs.2.2;let cd:∀u∈ts,ba u<n:=λu hu=>by let:=jS hu;omega
 let rd:∀{u1:Hp}{σ:St}{Q2:List V->Hp->Prop},af H u1->(∀ys H',af u1 H'->Reps H' (ts.map (bX n)) ys->Q2 ys H')->FG (Jo K l) 1 [] (ez 0) Ft (jg (qi n) [] E0 (jG (jq 0) mf)) σ u1 Q2:=λ{u1 σ Q2} s0 q2=>by
  show fK (λi ys H'=>af u1 H'/\Reps H' ((ts.take i).map (bX n)) ys) {af.refl _,by simp[Reps]} (λi ys H' _ p=>aD.of (p.1 _ _ (s0 _ _ hl))) ?_ ?_
  .ext i ys r x hx ⟨C,R3⟩;ext(⟨c,hc,Re⟩:gA ru hx);let hi:=(Υ.mp hc).1;let cm:=ό hc;show bt {01,x,c,1,Re.mono (s0.trans C),cs c cm,cd c cm,3,λH4 w4 j M=>{2,C.trans j,2}}
   .rw[R3.length,ε,Φ,ι];omega
   .rw[Ϥ,hc,Κ];show Reps.append (R3.mono j) (be M)
  .ext ys r ⟨C,R3⟩;rw[lu,ϧ]at R3;show q2 ys r C R3
 show{01,a,0,(0),.str w,11,aw.of ha,ad U,gs o λX o=>{01,a,0,(1),.ref l,11,aw.of ha,ad U,gs o λX o=>bW λu2 u1 B S=>{01101,ao (λh=>absurd h ()) (λ_=>S _ (fc (o _ _ (aJ λX o=>bW λu2 u1 B S=>?_))))}}};let c7:∀{d:Dv}{r:Hp}{G t:υ}{x:V}{xs ys:List V}{d0:Dv}{ds0 b6:List Dv},r G=Z (.tup (x::xs))->Reps r (d0::ds0) (x::xs)->Reps r b6 ys->af H r->d=.tup ((d0::ds0)++b6)->bX (n+1) (.nd w ts)=d->(x::xs=[]->Q (.ref t) r)/\(ys=[]->Q (.ref G) r)/\∀p,r p=Β->Q (.ref p) (upd r p (.tup ((x::xs)++ys))):=λ{d r G t x xs ys d0 ds0 b6} u2 r0 r1 C e e'=>by
  show{nofun,λe1=>?_,λp hp=>?_}
  .let:=r1.length;rw[e1,B6]at this;rw[RY this.symm,ϔ]at e;show q _ _ C ?_;rw[e',e,aj];show{G,01,u2,r0}
  .let j:=ac hp (.tup ((x::xs)++ys));show q _ _ (C.trans j) ?_;rw[e',e,aj];show{p,01,aa,Reps.append (r0.mono j) (r1.mono j)}
 show{01,gR,01,.inr (hR _),1301,ao (λh=>B _ ?_) (λh=>S _ (fc (o _ _ (aJ λX o=>bW λu2 u1 B S=>?_))))}
 .let a3:cS w=O:=h;show{01,z2,λG b7=>?_};let L:=ac b7 (.tup [.str (Y "reckon"),.str w]);show{01,l,1,{0,aD.of (L _ _ hl)},rd L λys H4 j M u4 W=>?_};let D:=ac W (.lst ys);show{u4,01,.inl {aD.of aa,λt u0=>?_}};let I:=ac u0 (.tup ys);let a4:=j.trans (D.trans I);let u2:=a4 _ _ (aa);show Ab {G,t,0011,aw.of u2,aw.of aa,2,c7 (ds0:=[.str w]) u2 ?_ (M.mono (D.trans I)) (L.trans a4) U (by rw[bX,Z5 a3];rfl)}
  .rw[M.length,ε,ι];change 2+_<=_;omega
  .simp only[Reps];show{001300131}
 let a3:¬ cS w=O:=h;show{01101,ao (λh=>B _ ?_) (λh=>S _ (fc (o _ _ (aJ λX o=>bW λu2 u1 B S=>?_))))}
 .let ew:=V.str.inj (Z7 h);show{01,l,1,{0,aD.of hl},rd (af.refl _) λys H4 j M u4 W=>?_};let D:=ac W (.lst ys);show{u4,01,.inl {aD.of aa,λt u0=>{z2,λm hm=>?_}}};let I:=ac u0 (.tup ys);let u3:=ac hm (.tup [.str (Y "row"),.ref t]);show q _ _ (j.trans (D.trans (I.trans u3))) ?_;rw[bX,Z6 a3,Z5 ew];show dX aa () (by rw[aj];show{t,ys,1,u3 _ _ aa,M.mono (D.trans (I.trans u3))})
 let nw:=λz=>h (Z9 (congrArg V.str z));show{01,w,11012};rw[e2 w];cases hf:WT.find? (λp=>decide (p.1=w))with
 |none=>
  let e:(WT.any λp=>decide (p.1=w))=J:=by rw[O8];show J2.mp hf
  rw[e];show ao (λh=>absurd h ()) (λ_=>S _ (fc (o _ _ {0101,l,1,{0,aD.of hl},rd (af.refl _) λys H4 j M u4 W=>?_})));let D:=ac W (.lst ys);show{u4,01,.inl {aD.of aa,λt u0=>{z3,λm hm=>?_}}};let I:=ac u0 (.tup ys);let u3:=ac hm (.tup [.str (Y "call"),.str w,.ref t]);show q _ _ (j.trans (D.trans (I.trans u3))) ?_;rw[bX,Z6 a3,Z6 nw,hf,aj];show{m,01,aa,2};show{0013001300121};rw[aj];show{t,ys,1,u3 _ _ aa,M.mono (D.trans (I.trans u3))}
 |some p=>
  let hp:=M6 hf;let ew:p.1=w:=↑(Tz hf)
  let e:(WT.any λp=>decide (p.1=w))=O:=n_.mpr {p,hp,Z9 ew};rw[e];ext(⟨g,hg,c5⟩:hS p hp);let h5:=eS p hp;rw[ew]at hg;show ao (λ_=>B _ ?_) (λh=>absurd () h);show{01,z1,λG b7=>?_};let L:=ac b7 (.tup [.str w]);show{01,w,g,11,hg,01,g,l,1,{0,c5 _},{0,aD.of (L _ _ hl)},yO (λi ys H'=>af (upd H G (.tup [.str w])) H'/\Reps H' ((A9 (tT (bX n)) p.2.2 ts).take i) ys) {af.refl _,by simp[Reps]} (λi zs H' p=>{c5 _,aD.of (p.1 _ _ (L _ _ hl))}) ?_ ?_}
  .ext i zs u1 x y p2 hx hy ⟨s2,R2⟩ e3;rw[ϑ]at hx;ext(⟨so,c6,rfl⟩:ϫ.mp hx);ext(⟨c,hc,Re⟩:gA ru hy);let cm:=ό hc;let hz:(A9 (tT (bX n)) p.2.2 ts)[i]?=Z (tT (bX n) so c):=by rw[List.getElem?_zipWith,c6,hc]
   let hi:=(Υ.mp c6).1;let q3:=ac e3 (.tup [.str (gj so),y]);let C:=s2.trans q3;show fk aa {0101,so,y,c,1,Re.mono (L.trans C),cs c cm,cd c cm,3,λH4 w4 j M=>{2,C.trans j,2}}
   .rw[R2.length,Φ,ι];omega
   .rw[Ϥ,hz];show Reps.append (R2.mono (q3.trans j)) (be M)
  .ext ys u1 ⟨s2,R2⟩ u4 W;rw[v_ (by rw[Sj,ε];omega)]at R2;let D:=ac W (.lst ys);show{u4,01,.inl {aD.of aa,λt u0=>?_}};let I:=ac u0 (.tup ys);let a4:=s2.trans (D.trans I);let u2:=a4 _ _ (aa);show Ab {G,t,0011,aw.of u2,aw.of aa,2,c7 (d0:=.str w) u2 (be ()) (R2.mono (D.trans I)) (L.trans a4) U (by rw[bX,Z6 a3,Z6 nw,hf];rfl)};rw[R2.length,Sj,ι];change 1+_<=_;omega
end
def tZ:∀{ts:List Br},(∀u∈ts,cL u)->brSs ts
 |[],_=>trivial
 |t::ts,h=>{h t π,tZ λu a=>h u (ρ _ a)}
def rh(x:Str):∀(m i:Nat),x.length-i=m->i<=x.length->∃j,i<=j/\j<=x.length/\(∀m,i<=m->m<j->∃c,x.cps.toList[m]?=Z c/\bo c=J)/\(j<x.length->∃c,x.cps.toList[j]?=Z c/\bo c=O)
 |0,i,e,a=>{i,Α _,a,λm f b=>by omega,λh=>by omega}
 |m+1,i,e,a=>by
  let g:i<x.cps.toList.length:=by rw[Θ];change i<x.length;omega
  let d:=Ζ g;cases k:bo x.cps.toList[i]with
  |true=>show{i,Α _,a,λm f b=>by omega,λ_=>{0,d,k}}
  |false=>
   obtain⟨j,f,b,q,l⟩:=rh x m (i+1) () (by rw[Θ]at g;omega);show{j,3,b,λn o p=>?_,l};rcases SW o with z|z
   .rw[<-z];show{0,d,k}
   .show q n z p
def me(l:List Nat):Prop:=∀u v w,l=u++v++w->(∀c∈v,bo c=J)->v.count 43<=20
def me.inf(h:me l)(e:l=u++v++w):me v:=λa b c d f=>h (u++a) b (c++w) (by rw[e,d];simp only[Γ]) f
def BW{x:Str}{i j:Nat}(f:me x.cps.toList)(h:i<=j)(l:j<=x.length)(g:∀m,i<=m->m<j->∃c,x.cps.toList[m]?=Z c/\bo c=J):(Txt.slice x (Z (i:Int)) (Z (j:Int))).length<=x.length/\(Txt.slice x (Z (i:Int)) (Z (j:Int))).cps.toList.count 43<=20:=by
 rw[beq_iff_eq.mp (SU (x:=x) (i:=i) (j:=(j:Int)) () () ())];show{22}
 .change(List.take _ (List.drop _ x.cps.toList)).toArray.size<=_;rw[Ο,Φ,Ϯ,Θ];omega
 .change(List.take ((j:Int)-(i:Int)).toNat (List.drop (i:Int).toNat x.cps.toList)).count 43<=_;rw[show((j:Int)-(i:Int)).toNat=j-i by omega,P2];show f (x.cps.toList.take i) _ ((x.cps.toList.drop i).drop (j-i)) (by rw[Γ,y8,y8]) λc d=>?_;ext(⟨k,a⟩:RV d);rw[List.getElem?_take]at a;split at a
  .rename_i o;rw[O5]at a;ext(⟨n,b,e⟩:g (i+k) () ());rw[a]at b;cases b;show e
  .cases a
def MK:Br->Bool
 |.leaf _=>J
 |.nd _ _=>O
def Pz{x:Str}{i j:Nat}(d:i<=x.length)(g:i<=j)(k:∀m,i<=m->m<j->∃c,x.cps.toList[m]?=Z c/\bo c=J)(h:Txt.startswith3 x (Y "(") (i:Int)=O):j=i:=by
 rcases SW g with z|z
 .show z.symm
 .ext(⟨c,e,n⟩:k i (Α _) z);rw[gk d,beq_iff_eq]at h;let:=congrArg (λl=>l[0]?) h;simp only[List.getElem?_take,O5,Nat.add_zero]at this;rw[e]at this;let b:c=40:=by let f:(Y "(").length=1:=();let a:(Y "(").cps.toList=[40]:=();rw[f,a]at this;simpa using this
  rw[b]at n;cases n
def sr{x y:Str}{i:Nat}(a:i<=x.length)(h:Txt.startswith3 x y (i:Int)=O):i+y.length<=x.length:=by rw[gk a,beq_iff_eq]at h;let:=congrArg y6 h;rw[Φ,Ϯ,Θ,Θ]at this;let c:x.length=x.cps.size:=U;let b:y.length=y.cps.size:=U;omega
inductive uJ (C:υ) (n:Nat) (vs:List V) (H:Hp) (Q:VK) (u3_:XK):Prop|mk (a:υ) (x:Str) (i:Nat) (most:Int) (_:vs=[.ref a,.int most]) (_:Sg C H a x i) (_:x.length<=4890) (_:me x.cps.toList) (_:i<=x.length) (_:0<=most) (_:most<n) (_:∀H' v b j,ap a H H'->Sg C H' a x j->i<=j->j<=x.length->aj (nw H H') (bO b) v->cL b->(ba b:Int)<=most->(1<=most->Txt.startswith3 x (Y "(") (i:Int)=O->MK b=O)->Q v H')
section
variable{P:Ι}{w:ώ}{K:η}{mg:Str->Option ν}{base:ϙ}
def xf{f C g1 g2 g3:υ}{fd d1 d2 d3:ϣ}{k0 n:Nat}(F:Fun K "branch" "Signs.branch" gl f fd)(T:Txt K mg)(cl:tJ K C)(m_next_word:oP K C "next_word" g1)(F_next_word:au P w K mg base bg k0 g1 d1 ["self"] (xM C))(b_next_word:bE K d1 ["self"] [])
  (m_met:oP K C "met" g2) (F_met:au P w K mg base bg k0 g2 d2 ["self","signs"] (Ew C)) (b_met:bE K d2 ["self","signs"] []) (m_branch:oP K C "branch" g3) (F_branch:au P w K mg base bg k0 g3 d3 ["self","most"] (uJ C n)) (b_branch:bE K d3 ["self","most"] []):au P w K mg base bg (k0+1) f fd ["self","most"] (uJ C (n+1)):=by
 show F.okA (N:=["self","most","word","inner"]) λcdv A outer s H vs Q E hr nd h=>?_;ext(⟨a,x,i,most,rfl,sg,lx,xc,hi,m0,mn,q⟩:h);show{0,aS (aY 2 (Qz (wv 0) cl m_next_word F_next_word hr b_next_word .nil dc)) (cP (lW (wD (bA aA (wv 1) aE) (yb (pV (jZ (Aj (wv 0) cl m_met F_met hr b_met .nil dc (am az))))))) (dh (ar (wv 2) (am vj))) (aS (aY 3 (dw uk)) (kY (pV (jZ (Aj (wv 0) cl m_met F_met hr b_met .nil dc (am az)))) (aS (pM (eX ϖ Ϟ ϟ bu (wv 3) (am (Aj (wv 0) cl m_branch F_branch hr b_branch .nil dc (am (aP cU (wv 1) aE)))))) (aS (Ng c_ (jZ (Aj (wv 0) cl m_met F_met hr b_met .nil dc (am az))) (fD (pM (eX ϖ Ϟ ϟ bu (wv 3) (am (Aj (wv 0) cl m_branch F_branch hr b_branch .nil dc (am (aP cU (wv 1) aE)))))))) (fD (pM (Aj (wv 0) cl m_met F_met hr b_met .nil dc (am az)))))) (bZ (dh (ar (wv 2) (aW 3))))))),2};ext(⟨j,w1,w2,w3,w4⟩:rh x _ i U hi);let wl:=BW xc w1 w2 w3;ext(⟨dx,ha⟩:sg);let nN:∀(y:Str)(p:Int),d_ (Y "next_word") [(Y "text",V.str y),(Y "at",V.int p)]=Β:=lV () ();let nM:∀(y:Str)(p:Int),d_ (Y "met") [(Y "text",V.str y),(Y "at",V.int p)]=Β:=lV () ();let nB:∀(y:Str)(p:Int),d_ (Y "branch") [(Y "text",V.str y),(Y "at",V.int p)]=Β:=lV () ();show aJ λX hX=>{01,a,dx,01,ha,nN _ _,a,x,i,j,1,{dx,ha},3,w1,w2,w3,w4,λH1 s1 sg1=>gs hX λX hX=>?_};generalize Txt.slice x (Z (i:Int)) (Z (j:Int))=w0 at wl⊢;ext(⟨dx1,ha1⟩:id sg1);let leaf:(1<=most->Txt.startswith3 x (Y "(") (i:Int)=O->False)->∀t0,H1 t0=Β->Q (.ref t0) (upd H1 t0 (.tup [.str w0,.non])):=λno t0 h0=>by
  let n1:t0≠a:=λz=>by rw[z,ha1]at h0;cases h0
  let h00:H t0=Β:=by
   cases e:H t0 with
   |none=>rfl
   |some o=>rw[s1 t0 o n1 e]at h0;cases h0
  show q _ _ (.leaf w0) j (s1.trans (af.b a (ac h0 _))) {dx1,ac h0 _ _ _ ha1} w1 w2 ?_ (by rw[cL];show{33}) (by rw[ba];show m0) λh1 h2=>(no h1 h2).elim;rw[bO];unfold uR;rw[aj];show{t0,[.str w0,.non],12,by simp only[Reps];show{001300131}};unfold nw;rw[h00];show aa
 show bW λg c hY hZ=>{01101,ao (λh0=>aH (hY _ {01,z2,leaf λh1 _=>by let z:=V.int.inj (Z7 h0);omega})) (λh0=>?_)};let m1:1<=most:=by let:most≠0:=λz=>h0 (Z9 (by rw[z]));omega
 show{01,a,dx1,01,ha1,nM _ _,a,x,Y "(",j,1,sg1,3,λsf=>{01,aH (hY _ {01,z2,leaf λ_ h2=>by rw[Pz hi w1 w3 h2,h2]at sf;cases sf})},λso H2 s2 sg2=>{01,aK (hZ _ (fc (hX _ _ (aJ λX hX=>{ϋ _,λl hl=>gs hX λX hX=>?_}))))}};let lj:=sr w2 so;rw[rT]at sg2 lj;ext(⟨dx2,ha2⟩:sg2);let s02:=s1.trans s2;let la:l≠a:=λz=>by rw[z,ha2]at hl;cases hl
 let old:∀b,H2 b=Β->b≠a->H b=Β:=λb hb hba=>by
  cases e:H b with
  |none=>rfl
  |some o=>rw[s02 b o hba e]at hb;cases hb
 let hl0:=old l hl la;let s3:=ac hl (.lst []);let l3:upd H2 l (.lst []) l=Z (.lst []):=aa;let o3:∀b,upd H2 l (.lst []) b=Β->H b=Β:=λb hb=>by
  let h1:b≠l:=λz=>by rw[z,aa]at hb;cases hb
  rw[ai h1]at hb;show old b hb (λz=>by rw[z,ha2]at hb;cases hb)
 let ha3:=s3 _ _ ha2;generalize upd H2 l (.lst [])=H3 at s3 l3 o3 ha3⊢;let s03:=s02.trans (af.b a s3);let wl':∀{H':Hp}{o:HO},ap a H H'->ap a H (upd H' l o):=λ{H' o} s' b ob hb e=>by rw[ai (ah e hl0)];show s' b ob hb e
 let sgl:∀{H':Hp}{o:HO}{p:Nat},Sg C H' a x p->Sg C (upd H' l o) a x p:=λ{H' o p} ⟨d,e⟩=>{d,by rw[ai (ϝ la)];show e};let nwl:∀{H':Hp}{o:HO},af (nw H3 H') (nw H3 (upd H' l o)):=λ{H' o}=>lF λb ob hb e=>by rw[ai (λz=>by rw[z,l3]at hb;cases hb)];show e
 let unl:∀{H':Hp}{o:HO}{b:υ},upd H' l o b=Β->H' b=Β:=λ{H' o b} hb=>by
  let h1:b≠l:=λz=>by rw[z,aa]at hb;cases hb
  rwa[ai h1]at hb
 let fin:∀(H6:Hp)(us:List V)(ts:List Br)(p:Nat),ap a H H6->Sg C H6 a x p->i<=p->p<=x.length->H6 l=Z (.lst us)->Reps (nw H3 H6) (ts.map bO) us->ts.length<=4900->(∀u∈ts,cL u/\(ba u:Int)<=most-1)->∀t0,H6 t0=Β->Q (.ref t0) (upd H6 t0 (.tup [.str w0,.ref l])):=λH6 us ts p s6 sg6 hp hp' l6 R6 l9 ok t0 h0=>by
  ext(⟨dx6,ha6⟩:sg6);let t0a:t0≠a:=λz=>by rw[z,ha6]at h0;cases h0
  let h00:H t0=Β:=by
   cases e:H t0 with
   |none=>rfl
   |some o=>rw[s6 t0 o t0a e]at h0;cases h0
  let s7:=ac h0 (.tup [.str w0,.ref l]);show q _ _ (.nd w0 ts) p (s6.trans (af.b a s7)) {dx6,s7 _ _ ha6} hp hp' ?_ ?_ ?_ λ_ _=>U
  .let R7:=(R6.mono (mG o3)).mono (lF λb ob hb e=>s7 _ _ e);rw[bO,dB,aj];show{t0,[.str w0,.ref l],122}
   .unfold nw;rw[h00];show aa
   .simp only[Reps];show{001300121};rw[aj];show{l,us,1,by unfold nw;rw[hl0];show s7 _ _ l6,R7}
  .rw[cL];show{{33},l9,tZ λu hu=>(ok u hu).1}
  .rw[ba];let:=sq (n:=(most-1).toNat) λu hu=>by let:=(ok u hu).2;omega
   omega
 show bW λg c hY hZ=>{01,a,dx2,01,ha3,nM _ _,a,x,Y ")",j+1,1,{dx2,ha3},3,λ_=>{01,aH (hY _ ?_)},λsc H6 s6 sg6=>{01,aK (hZ _ (fc (hX _ _ {0101,z2,2})))}}
 rotate_left
 .let:=sr () sc;rw[qh]at sg6 this;show fin H6 [] [] _ (s03.trans s6) sg6 () () (s6 _ _ la l3) (by simp only[u9,Reps]) (ϋ _) nofun
 let rd:∀(H4:Hp)(us:List V)(p:Nat)(dxx:υ)(c:V->Hp->Prop),H4 a=Z (.ins C dxx [(Y "text",.str x),(Y "at",.int (p:Int))])->p<=x.length->H4 l=Z (.lst us)->us.length<=4900 ->
   (∀H5 v5 u p5,ap a H4 H5->Sg C H5 a x p5->p<=p5->p5<=x.length->aj (nw H4 H5) (bO u) v5->cL u->(ba u:Int)<=most-1->c .non (upd H5 l (.lst (us++[v5])))) ->
   uJ C n [.ref a,.int (most-1)] H4 (λv H5=>rX (.ref l) [v] H5 c) E0:=λH4 us p dxx c h4 hp hl4 lus k=>
  {a,x,p,most-1,1,{dxx,h4},lx,xc,hp,33,λH5 v5 u p5 s5 sg5 g1 g2 R5 b5 d5 _=>{l,us,v5,11,s5 _ _ la hl4,3,k H5 v5 u p5 s5 sg5 g1 g2 R5 b5 d5}}
 show aJ λX2 hX2=>{01,.inl {10,aD.of l3},01,a,dx2,01,ha3,nB _ _,0100112};show rd H3 [] (j+1) dx2 _ ha3 lj l3 (ϋ _) λH4 v4 u4 p4 s4 sg4 g1 g2 R4 b4 d4=>hX2 _ _ (aJ λX3 hX3=>{λm σ H'=>∃(ts:List Br) (us:List V) (p:Nat),m=x.length-p/\σ=[Z (.ref a),Z (.int most),Z (.str w0),Z (.ref l)]/\ap a H H'/\Sg C H' a x p/\i<=p/\p<=x.length/\H' l=Z (.lst us)/\Reps (nw H3 H') (ts.map bO) us/\us.length<=p/\(∀u∈ts,cL u/\(ba u:Int)<=most-1)/\∀b,H' b=Β->H3 b=Β,{0,[u4],[v4],p4,11,wl' (s03.trans s4),sgl sg4,3,g2,aa,(be R4).mono nwl,by change 1<=p4;omega,λu hu=>by rw[ο.mp hu];show{b4,d4},λb hb=>iP s4 sg4 (unl hb)},2});ext m σ H5 ⟨ts,us,p,rfl,rfl,s5,sg5,hp5,hp5',l5,R5,lus,ok5,k5⟩;ext(⟨dx5,ha5⟩:id sg5);let lts:us.length=ts.length:=by let:=R5.length;rwa[ε]at this
 show{01,a,dx5,01,ha5,nM _ _,a,x,Y ", ",p,1,sg5,3,λ_=>{01,aK (hX3 _ _ ?_)},λsc H6 s6 sg6=>{01,aH ?_}}
 .let done:∀H6 p6,ap a H5 H6->Sg C H6 a x p6->p<=p6->p6<=x.length->X [Z (.ref a),Z (.int most),Z (.str w0),Z (.ref l)] H6:=λH6 p6 s6 sg6 g1 g2=>
   hX _ _ {0101,z2,fin H6 us ts p6 (s5.trans s6) sg6 () g2 (s6 _ _ la l5) (R5.mono (lF λb ob hb e=>s6 b ob (λz=>by rw[z,ha3]at hb;cases hb) e)) () ok5}
  show{01,a,dx5,01,ha5,nM _ _,a,x,Y ")",p,1,sg5,3,λ_=>done H5 p (ap.refl _ _) sg5 (Α _) hp5',λsc H6 s6 sg6=>?_};let:=sr hp5' sc;rw[qh]at sg6 this;show done H6 _ s6 sg6 () this
 .let lp:=sr hp5' sc;rw[gJ]at sg6 lp;ext(⟨dx6,ha6⟩:id sg6);let l6:=s6 _ _ la l5;show{λσ' H'=>∃(ts:List Br) (us:List V) (p':Nat),p+2<=p'/\σ'=[Z (.ref a),Z (.int most),Z (.str w0),Z (.ref l)]/\ap a H H'/\Sg C H' a x p'/\i<=p'/\p'<=x.length/\H' l=Z (.lst us)/\Reps (nw H3 H') (ts.map bO) us/\us.length<=p'/\(∀u∈ts,cL u/\(ba u:Int)<=most-1)/\∀b,H' b=Β->H3 b=Β,by ext σ' H' ⟨ts',us',p',h1,h2,h3,h4,h5,h6,h7⟩;show{x.length-p',3,ts',us',p',1,h2,h3,h4,h5,h6,h7},2};show{01,.inl {10,aD.of l6},01,a,dx6,01,ha6,nB _ _,0100112};dsimp only[mf,i_,h_,ϔ,jG];show rd H6 us (p+2) dx6 _ ha6 lp l6 () λH7 v7 u7 p7 s7 sg7 g1 g2 R7 b7 d7=>?_;let keep:=λb hb=>k5 b (iP s6 sg6 hb);show{ts++[u7],us++[v7],p7,g1,1,wl' ((s5.trans s6).trans s7),sgl sg7,3,g2,aa,2,by rw[Ε];change _+1<=_;omega,λu hu=>?_,λb hb=>keep b (iP s7 sg7 (unl hb))}
  .rw[Κ];show Reps.append ((R5.mono (lF λb ob hb e=>s7 b ob (λz=>by rw[z,ha3]at hb;cases hb) (s6 b ob (λz=>by rw[z,ha3]at hb;cases hb) e))).mono nwl) (be ((R7.mono (mG keep)).mono nwl))
  .rcases Ν.mp hu with h|h
   .show ok5 u h
   .rw[ο.mp h];show{b7,d7}
end
def oK(c:0<=n)(d:n<10^60):iA (bx n)=.int n:=by ext(⟨a,b⟩:gK c d);unfold iA;rw[Z5 a,b];show congrArg Dv.int (Int.toNat_of_nonneg c)
def BS(k:1<=p.2)(e:p.2<10^60)(g:bT p.1=O):eu (aX p)=.tup [.str p.1,.int p.2]:=by
 ext(⟨j,i,f⟩:ci g);unfold eu;by_cases d:p.2=1
 .let b:aX p=p.1:=Z5 d;let c:Txt.split (aX p) (Y "*")=[p.1]:=by rw[b,sV];show fw 42 (A:=[p.1]) () λz a=>by rw[ο.mp a];intro h;let:=f _ h;omega
  rw[c,b,d]
 .let b:aX p=Τ (Y "*") [bx p.2,p.1]:=by unfold aX;rw[Z6 d,aO,aR]
  let c:Txt.split (aX p) (Y "*")=[bx p.2,p.1]:=by
   rw[b,sV];show fw 42 () λz a=>?_;rcases ξ.mp a with rfl|a
   .intro h;let:=dJ () e _ h;omega
   .rw[ο.mp a];intro h;let:=f _ h;omega
  rw[c];change Dv.tup [.str p.1,iA (bx p.2)]=_;rw[oK () e]
def xW(b:bT p.1=O):iA (aX p)=.non:=by
 unfold iA;rw[Z6];intro h;ext(⟨f,i,d⟩:ci b);ext(⟨c,r,e⟩:dq f);let a:c∈p.1.cps.toList:=by rw[e];show π
 let j:=d c a;let g:c∈(aX p).cps.toList:=by
  unfold aX;split
  .show a
  .rw[ak];show ϛ _ a
 let:=((fJ h).1) c g;omega
def pd(k:Wa c ps):sR (dN c ps)=db c ps:=by
 ext(⟨b,g⟩:k);let a:(ps.map aX).map eu=bi ps:=by rw[Ϙ];show C7 λp a=>BS (b.can.ge p a) (b.le p a).1 (g p a)
 unfold sR;rw[(iw b g)];by_cases d:c≠0\/ps=[]
 .let h:bU c ps=ps.map aX++[bx c]:=by unfold bU;rw[Z5 d]
  rw[h,show(ps.map aX++[bx c]).getLastD (dN c ps)=bx c by simp,oK b.c0 b.c1];rw[RX,a];rfl
 .let h:bU c ps=ps.map aX:=by unfold bU;rw[Z6 d,ϔ]
  let j:=λz=>d (.inr z);obtain⟨i,f,e⟩:∃i f,ps=i++[f]:={ps.dropLast,ps.getLast j,(Sd j).symm};rw[h,show(ps.map aX).getLastD (dN c ps)=aX f by rw[e,Κ];simp,xW (g f (by rw[e];simp))];rw[a,(Classical.byContradiction λz=>d (.inl z))];rfl
def gp:∀{m:Nat}{k:Kd},k.All Wa->k.size<=m->aZ m (cj k)=k.dv
 |0,k,_,h=>by let:=k.size_pos;omega
 |m+1,.whole,_,_=>by rw[cj,aZ];rfl
 |m+1,.place c ps,h,_=>by rw[cj,aZ,Z5 U,eK,pd h];rfl
 |m+1,.row c ps k,h,z=>by let z:k.size+1<=m+1:=z;rw[cj,aZ,Z5 U,eK,pd h.1,gp h.2 ()];rfl
 |m+1,.pair i j,h,z=>by let z:i.size+j.size+1<=m+1:=z;rw[cj,aZ,Z6 (),Z5 U,gp h.1 (),gp h.2 ()];rfl
def Da(b:0<=i)(c:i<10^12):gM (bx i)=.tup [.str (Y "number"),.int i]:=by let a:i<10^60:=();unfold gM;rw[Z5 (gK b a).1,oK b a]
def EQ(h:bT y=O):gM y=.tup [.str (Y "name"),.str y]:=by
 unfold gM;rw[Z6];intro f;ext(⟨d,g,b⟩:ci h);ext(⟨c,r,e⟩:dq d);let a:c∈y.cps.toList:=by rw[e];show π
 let:=b c a;let:=((fJ f).1) c a;omega
def GH(e:∀d b,R d b->bX n b=d):∀{s:So}{d:Dv}{b:Br},Ag R s d b->tT (bX n) s b=d
 |.e,_,_,h=>e _ _ h
 |.l,_,_,h=>by ext(⟨c,ps,rfl,rfl,f⟩:h);show pd f.1
 |.k,_,_,h=>by ext(⟨k,rfl,rfl,a,z⟩:h);show gp (bn (λ_ _ h=>h.1) a) ()
 |.x,_,_,h=>by ext(⟨y,rfl,rfl,_⟩:h);rfl
 |.y,_,_,h=>by ext(⟨y,rfl,rfl,_⟩:h);rfl
def Cu(e:∀d b,R d b->bX n b=d)(h:mq R ss ds bs):A9 (tT (bX n)) ss bs=ds:=by
 induction h with
 |nil=>rfl
 |cons a _ c=>rw[List.zipWith_cons_cons,GH e a,c]
def uO(e:∀d b,R d b->bX n b=d)(h:pK R ds bs):bs.map (bX n)=ds:=by
 induction h with
 |nil=>rfl
 |cons a _ c=>rw[ϊ,e _ _ a,c]
def Gj:∀p∈WT,WT.find? (λq=>decide (q.1=p.1))=Z p:=()
def AL(h:cw f=J):WT.find? (λq=>decide (q.1=f))=Β:=by rw[J2];intro q a e;let:(WT.any λq=>decide (q.1=f))=O:=n_.mpr {q,a,e};let h':(WT.any λq=>decide (q.1=f))=J:=h;rw[h']at this;cases this
def yK:∀{n m:Nat}{d:Dv}{b:Br},Wx n d b->n<=m->bX m b=d
 |n+1,0,_,_,_,h=>by omega
 |n+1,m+1,d,b,h,hm=>by
  let hR:∀d b,Wx n d b->bX m b=d:=λd b h=>yK h ();rw[Wx]at h;rcases h with ⟨i,h0,h1,rfl,rfl⟩|⟨y,hy,rfl,rfl⟩|⟨f,ds,bs,hf,hw,hr,l4,ha,rfl,rfl⟩|⟨r,d1,d2,b1,b2,hr,w1,w2,rfl,rfl⟩|⟨ds,bs,l1,l4,ha,rfl,rfl⟩|⟨p,ds,bs,hp,hf,ha,_,rfl,rfl⟩
  .rw[bX];show Da h0 h1
  .rw[bX];show EQ hy
  .let nr:¬ f=Y "row":=λz=>by rw[z]at hw;show absurd hw ()
   rw[bX,Z6 (by rw[hr];decide),Z6 nr,AL hw,uO hR ha]
  .rw[bX,Z5 hr,ϊ,ϊ,u9,hR _ _ w1,hR _ _ w2]
  .rw[bX,Z6 (),Z5 U,uO hR ha]
  .ext(⟨n1,n2,n3,n4,n5⟩:sX hf);rw[bX,Z6 (by rw[FU p hp];decide),Z6 n5,Gj p hp];change Dv.tup (.str p.1::A9 (tT (bX m)) p.2.2 bs)=_;rw[Cu hR ha]
def qY(x:Str):(iA x).small=O:=by unfold iA;split<;>rfl
def bI(h:x.length<=4900):(Dv.str x).small=O:=Z9 (by change x.length<=5000;omega)
def cY(e:a.small=O)(f:b.small=O):(Dv.tup [a,b]).small=O:=bb (λd c=>by
 rcases ξ.mp c with rfl|c
 .show e
 .rw[ο.mp c];show f) (by change 2<=5000;decide)
def ye(h:x.length<=4900):(eu x).small=O:=by
 let sp:=(oE x 42).2;rw[<-sV]at sp;unfold eu
 set_option tactic.hygienic true in split
 .rename_i a b e;rw[e]at sp;let:=sp b ();show cY (bI ()) (qY a)
 .show cY (bI h) U
def oo(c:Nat):∀{ys:List Str},ys≠[]->(∀y∈ys,c∉y.cps.toList)->(Τ {#[c]} ys).cps.toList.count c+1=ys.length
 |[a],_,h=>by rw[aR,i7 (h a π)];rfl
 |a::b::r,_,h=>by rw[aO,ak,ak,ϥ,ϥ,i7 (h a π),Δ,<-(oo c () λy d=>h y (ρ _ d))];rw[List.count_singleton_self];omega
def uK(x:Str)(c:Nat):(Txt.split x {#[c]}).length=x.cps.toList.count c+1:=by let:=oo c (iC x {#[c]}) λy a=>StrLaws.split_free x c y a;rw[SS]at this;omega
def zi:∀(b:List Nat)(a:Nat),(∀c∈b,c<=57)->TW (λa c=>a*10+(c-48)) a b<(a+1)*10^b.length
 |[],a,_=>by simp
 |c::b,a,h=>by let i:=h c π;rw[List.foldl_cons,Δ,Nat.pow_succ];show Ϝ (zi b (a*10+(c-48)) λg e=>h g (ρ _ e)) ?_;let f:a*10+(c-48)+1<=(a+1)*10:=();let d:=F_ (10^b.length) f;rw[Nat.mul_assoc,Nat.mul_comm 10]at d;show d
def FA(h:vX x=O):((j7 x.cps.toList:Nat):Int)<10^60:=by
 ext(⟨b,_,e⟩:fJ h);let f:=zi x.cps.toList 0 λc a=>(b c a).2;rw[Θ]at f;let g:(10:Nat)^x.cps.size<=10^60:=Nat.pow_le_pow_right () e;let d:j7 x.cps.toList<10^60:=by unfold j7;omega
 exact_mod_cast d
def yE(d:Dv):Prop:=∃c a,d=.tup [.int c,.tup a]/\c<10^60/\a.length<=21/\(c=0\/a.length<=20)/\∀p∈a,gb p<10^60
def mP(x:Str):gb (eu x)<10^60:=by
 unfold eu
 set_option tactic.hygienic true in split
 .rename_i a b _;unfold iA;split
  .rename_i h;show FA h
  .change(0:Int)<_;decide
 .change(1:Int)<_;decide
def Fw(h:FL w):yE (sR w)/\(sR w).small=O:=by
 ext(⟨k,j⟩:h);let i:=uK w 43;let sp:=(oE w 43).2;rw[<-yq]at i sp;let g:∀(us:List Str)(c:Int),us.length<=21->(∀p∈us,p.length<=w.length)->(Dv.tup [.int c,.tup (us.map eu)]).small=O:=λus c l h=>cY U (bb (λd f=>by ext(⟨p,b,rfl⟩:Ρ.mp f);let:=h p b;show ye ()) (by rw[ε];omega));unfold sR
 set_option tactic.hygienic true in split
 .rename_i c e;let f:(Txt.split w (Y "+")).dropLast.length<=20:=by rw[List.length_dropLast];omega
  show{{c,012,by rw[ε];omega,.inr (by rw[ε];show f),λp b=>by ext(⟨y,_,rfl⟩:Ρ.mp b);show mP y},g _ _ () λp b=>sp p ((List.dropLast_sublist _).subset b)};unfold iA at e;split at e
  .rename_i h;injection e with e;rw[<-e];show FA h
  .cases e
 .show{{(0),013,by rw[ε];omega,.inl U,λp b=>by ext(⟨y,_,rfl⟩:Ρ.mp b);show mP y},g _ _ () sp}
def Eh(h:im d=O):∃(x:Str) (n:Int),d=.tup [.str x,.int n]/\bT x=O/\1<=n:=by
 match d,h with
 |.tup [a,b],h=>
  let h':(bR a&&(dy b&&KW 1 b))=O:=h;simp only[χ]at h';ext(⟨h1,h2,h3⟩:h');cases a with
  |str x=>
   cases b with
   |int n=>show{x,n,1,h1,Z7 h3}
   |_=>cases h3
  |_=>cases h1
def CO:∀{d:List Dv}{l:Str},qE l d=O->∃ps:List Pr,d=bi ps/\ps.Pairwise Mw/\(∀p∈ps,1<=p.2/\bT p.1=O/\l.cps.toList<p.1.cps.toList)
 |[],l,_=>{[],1,.nil,nofun}
 |q::d,l,h=>by
  simp only[qE,χ,decide_eq_true_eq]at h;ext(⟨f,c,j⟩:h);ext(⟨x,n,rfl,g,e⟩:Eh f);ext(⟨ps,rfl,i,b⟩:CO j);let c:=c;show{(x,n)::ps,1,List.pairwise_cons.mpr {λp a=>(b p a).2.2,i},λp a=>?_};rcases ξ.mp a with rfl|a
  .show{e,g,c}
  .show{(b p a).1,(b p a).2.1,List.lt_trans c (b p a).2.2}
def EU(h:pO d=O)(k:yE d):∃c ps,d=db c ps/\Wa c ps:=by ext(⟨c,q,rfl,g,n,o,f⟩:k);ext(⟨r,m,e,l,i⟩:rA h);cases e;ext(⟨ps,rfl,j,b⟩:CO i);let s:(bi ps).length=ps.length:=ε _;show{c,ps,1,{{j,λp a=>(b p a).1},l,g,33,λp a=>{f (.tup [.str p.1,.int p.2]) (Ρ.mpr {p,a,1}),(aV (b p a).2.1).2}},λp a=>(b p a).2.1}
def yu(h:jr d=O)(a:yE d)(e:d.small=O):∃c ps,d=db c ps/\Sm c ps:=by
 let b:pO d=O:=by unfold jr at h;rw[χ]at h;show h.1
 ext(⟨c,ps,rfl,f⟩:EU b a);show{c,ps,1,f,h,e}
def iV(h:cL b):(eK b).small=O/\∀{p:Dv->Bool},p .non=J->p (eK b)=O->yE (eK b):=by
 cases b with
 |leaf w=>rw[cL]at h;show{(Fw h).2,λ_ _=>(Fw h).1}
 |nd w ts=>show{1,λ{p} h1 h2=>absurd (h1.symm.trans h2) ()}
def cH(h:x.length<=4900:=by decide +kernel):(Dv.str x).small=O:=bI h
def hJ(f:a.small=O)(g:b.small=O)(h:c.small=O):(Dv.tup [a,b,c]).small=O:=bb (λd e=>by
 rcases ξ.mp e with rfl|e
 .show f
 rcases ξ.mp e with rfl|e
 .show g
 .rw[ο.mp e];show h) (by change 3<=5000;decide)
def yV(n:Nat)(w:Str)(ts:List Br):(∃a,ts=[a]/\w=Y "place"/\aZ (n+1) (.nd w ts)=.tup [.str (Y "place"),eK a])\/(∃a b,ts=[a,b]/\w=Y "row"/\aZ (n+1) (.nd w ts)=.tup [.str (Y "row"),eK a,aZ n b])\/(∃a b,ts=[a,b]/\w=Y "pair"/\aZ (n+1) (.nd w ts)=.tup [.str (Y "pair"),aZ n a,aZ n b])\/aZ (n+1) (.nd w ts)=.non:=by
 match ts with
 |[]=>show .inr (.inr (.inr (by rw[aZ]<;>simp)))
 |[a]=>
  by_cases h:w=Y "place"
  .show .inl {a,1,h,by rw[aZ,Z5 h]}
  .show .inr (.inr (.inr (by rw[aZ,Z6 h])))
 |[a,b]=>
  by_cases h:w=Y "row"
  .show .inr (.inl {a,b,1,h,by rw[aZ,Z5 h]})
  .by_cases h':w=Y "pair"
   .show .inr (.inr (.inl {a,b,1,h',by rw[aZ,Z6 h,Z5 h']}))
   .show .inr (.inr (.inr (by rw[aZ,Z6 h,Z6 h'])))
 |a::b::c::r=>show .inr (.inr (.inr (by rw[aZ]<;>simp)))
def fh:∀{n:Nat}{b:Br},cL b->(aZ n b).small=O
 |0,_,_=>by rw[aZ];rfl
 |n+1,.leaf w,h=>by rw[cL]at h;rw[aZ];show bb (λd f=>by rw[ο.mp f];show bI h.1) (by change 1<=5000;decide)
 |n+1,.nd w ts,h=>by
  rw[cL]at h;let c:=dP h.2.2;rcases yV n w ts with ⟨a,rfl,_,e⟩|⟨a,b,rfl,_,e⟩|⟨a,b,rfl,_,e⟩|e
  .rw[e];show cY cH (iV (c a ())).1
  .rw[e];show hJ cH (iV (c a ())).1 (fh (c b ()))
  .rw[e];show hJ cH (fh (c a ())) (fh (c b ()))
  .rw[e];rfl
def jx:∀{n:Nat}{b:Br},cL b->bJ (aZ n b)<=12->∃k:Kd,aZ n b=k.dv/\k.All Sm
 |0,_,_,z=>by rw[aZ,iO U]at z;omega
 |n+1,.leaf w,h,z=>by
  rw[aZ,MI]at z;split at z
  .rename_i e;show{.whole,by rw[aZ,e];rfl,trivial}
  .omega
 |n+1,.nd w ts,h,z=>by
  rw[cL]at h;let d:=dP h.2.2;rcases yV n w ts with ⟨a,rfl,_,e⟩|⟨a,b,rfl,_,e⟩|⟨a,b,rfl,_,e⟩|e
  .rw[e,Op]at z;split at z
   .rename_i f;ext(⟨p,g⟩:iV (d a ()));ext(⟨c,ps,l,i⟩:yu f.2 (g U f.2) p);show{.place c ps,by rw[e,l];rfl,i}
   .omega
  .rw[e,Io,Z6 ()]at z;split at z
   .rename_i f;ext(⟨p,g⟩:iV (d a ()));ext(⟨c,ps,l,i⟩:yu f.2 (g U f.2) p);ext(⟨k,m,o⟩:jx (n:=n) (d b ()) ());show{.row c ps k,by rw[e,l,m];rfl,i,o}
   .omega
  .rw[e,Io,Z5 U]at z;ext(⟨k,m,o⟩:jx (n:=n) (d a ()) ());ext(⟨j,r,q⟩:jx (n:=n) (d b ()) ());show{.pair k j,by rw[e,m,r];rfl,o,q}
  .rw[e,iO U]at z;omega
def qC(h:cL b)(z:bJ (aZ n b)<=12):∃k:Kd,aZ n b=k.dv/\k.All Sm/\k.size<=12:=by ext(⟨k,e,a⟩:jx h z);rw[e,iG (bn (λ_ _ h=>h.2) a)]at z;show{k,e,a,z}
def wW(h:w.length<=4900):(gM w).small=O:=by
 unfold gM;split
 .show cY cH (qY w)
 .show cY cH (bI h)
def vO(hb:cL b)(hx:(bX n b).small=O):∀s:So,(tT (bX n) s b).small=O
 |.l=>(iV hb).1
 |.k=>fh hb
 |.x=>by cases b with|leaf w=>rw[cL]at hb;show bI hb.1|nd w ts=>rfl
 |.y=>by cases b with|leaf w=>rw[cL]at hb;show bI hb.1|nd w ts=>rfl
 |.n=>hx
 |.w=>hx
 |.f=>hx
 |.e=>hx
 |.a=>hx
 |.r=>hx
def jL:∀{n:Nat}{b:Br},cL b->(bX n b).small=O
 |0,_,_=>by rw[bX];rfl
 |n+1,.leaf w,h=>by rw[cL]at h;rw[bX];show wW h.1
 |n+1,.nd w ts,h=>by
  rw[cL]at h;let f:=dP h.2.2;let j:∀d∈ts.map (bX n),d.small=O:=λd a=>by ext(⟨t,e,rfl⟩:Ρ.mp a);show jL (f t e)
  let g:=bb j (by rw[ε];omega);rw[bX];split
  .show bb (λd a=>?_) (by rw[Δ,Δ,ε];omega);rcases ξ.mp a with rfl|a
   .show cH
   rcases ξ.mp a with rfl|a
   .show bI h.1.1
   .show j d a
  .split
   .show cY cH g
   .split
    .show bb (λd a=>?_) (by rw[Δ,Sj];omega);rcases ξ.mp a with rfl|a
     .show bI h.1.1
     .ext(⟨i,c⟩:RV a);rw[List.getElem?_zipWith]at c
      set_option tactic.hygienic true in split at c
      .rename_i s t _ e;rw[<-ϡ c];let:=ό e;show vO (f t this) (jL (f t this)) s
      .cases c
    .show hJ cH (bI h.1.1) g
def As:∀{ts:List Br},(∀t∈ts,∃c,R (f t) c)->∃bs,pK R (ts.map f) bs
 |[],_=>{[],.nil}
 |t::ts,h=>by ext(⟨b,e⟩:h t π);obtain⟨bs,a⟩:=As λu d=>h u (ρ _ d);show{b::bs,.cons e a}
def xr(h:dC (n+1) d<=40):gm d=O/\∀e∈eF d,dC n e<=40:=by
 rw[dC]at h;split at h
 .rename_i c;show{c,λe a=>?_};let:=mJ (j_ (f:=dC n) a);omega
 .omega
def Hm(m:Nat)(b:Br):bX m b=.non\/∃ds,bX m b=.tup ds:=by
 match m,b with
 |0,_=>show .inl (by rw[bX])
 |m+1,.leaf w=>rw[bX];unfold gM;split<;>show .inr {01}
 |m+1,.nd w ts=>rw[bX];(repeat' split)<;>show .inr {01}
def yf(m:Nat)(b:Br):mx .n (bX m b)=J/\mx .w (bX m b)=J/\mx .f (bX m b)=J:=by rcases Hm m b with e|⟨ds,e⟩<;>rw[e]<;>show⟨rfl,rfl,rfl⟩
def gd:So->Bool
 |.e=>O
 |.l=>O
 |.k=>O
 |.x=>O
 |.y=>O
 |_=>J
def Mu:∀p∈WT,JZ p.1=O->∀s∈p.2.2,gd s=O:=()
def HW:∀p∈WT,JZ p.1=O\/p=jO\/p=nF\/p=wn\/p=Dq\/p=xy:=()
def kf(h:bR (gc t)=O):∃y,gc t=.str y/\bT y=O:=by
 cases t with
 |leaf w=>show{w,1,h}
 |nd w ts=>cases h
def yw:∀{ss:List So}{ts:List Br},(∀s∈ss,gd s=O)->pW ss (A9 (tT (bX m)) ss ts)=O->(∀t∈ts,cL t)->(∀t∈ts,dC n (bX m t)<=40->∃K,Wx n (bX m t) K)->(∀e∈bL ss (A9 (tT (bX m)) ss ts),dC n e<=40)->∃bs,mq (Wx n) ss (A9 (tT (bX m)) ss ts) bs
 |[],ts,_,_,_,_,_=>by rw[List.zipWith_nil_left];show{[],.nil}
 |s::ss,[],_,h,_,_,_=>by rw[List.zipWith_nil_right]at h;cases h
 |s::ss,t::ts,g,h,bS,ih,hp=>by
  rw[List.zipWith_cons_cons]at h hp⊢;rw[pW,χ]at h;let q:∀e∈mT s (tT (bX m) s t)++bL ss (A9 (tT (bX m)) ss ts),dC n e<=40:=hp;obtain⟨bs,Q⟩:=yw (λs A=>g s (ρ _ A)) h.2 (λt j=>bS t (ρ _ j)) (λt j=>ih t (ρ _ j)) λe p=>q e (ϛ _ p);let i:=g s π;let u:=bS t π;let d:=h.1;suffices z:∃b,Ag (Wx n) s (tT (bX m) s t) b by ext(⟨b,z⟩:z);show{b::bs,.cons z Q}
  cases s with
  |e=>show ih t π ((λe p=>q e (r6 _ p)) _ π)
  |l=>have d:=d;ext(⟨E,H⟩:iV u);ext(⟨c,ps,P,X⟩:yu d (H U d) E);show{0,c,ps,P,1,X}
  |k=>have d:=d;ext(⟨k,e,v,z⟩:qC u (Z7 d));show{0,k,e,1,v,z}
  |x=>ext(⟨y,e,o⟩:kf d);show{0,y,e,1,o}
  |y=>ext(⟨y,e,o⟩:kf d);show{0,y,e,1,o}
  |n=>cases i
  |w=>cases i
  |f=>cases i
  |a=>cases i
  |r=>cases i
def zk(h:fA b (.tup ds)=O):b<=(ds.length:Int)/\ds.length<=4:=by let h:(decide (b<=(ds.length:Int))&&decide ((ds.length:Int)<=4))=O:=h;rw[χ,decide_eq_true_eq,decide_eq_true_eq]at h;show{h.1,3}
def xC:∀{n m:Nat}{b:Br},cL b->dC n (bX m b)<=40->∃b',Wx n (bX m b) b'
 |0,_,_,_,h=>by rw[dC]at h;omega
 |n+1,0,_,_,h=>by let:=(xr h).1;rw[bX]at this;cases this
 |n+1,m+1,.leaf w,hb,h=>by
  ext(⟨h1,-⟩:xr h);rw[bX]at h1⊢;unfold gM at h1⊢;split at h1
  .rename_i hd;rw[Z5 hd];let e:iA w=.int _:=Z5 hd;rw[e]at h1⊢;rw[show(Dv.tup [.str (Y "number"),.int ((j7 w.cps.toList:Nat):Int)])=.tup (.str Dq.1::[.int ((j7 w.cps.toList:Nat):Int)])from U,cb pT.2.2.2.1,χ]at h1;let h2:(kt 1000000000000 (.int ((j7 w.cps.toList:Nat):Int))&&O)=O:=h1.1;rw[J9]at h2;let h2:(decide (0<=((j7 w.cps.toList:Nat):Int))&&decide (((j7 w.cps.toList:Nat):Int)<1000000000000))=O:=h2;rw[χ,decide_eq_true_eq,decide_eq_true_eq]at h2;show{0,by rw[Wx];show .inl {0,h2.1,311}}
  .rename_i hd;rw[Z6 hd];rw[show(Dv.tup [.str (Y "name"),.str w])=.tup (.str xy.1::[.str w])from U,cb pT.2.2.2.2,χ]at h1;let h2:(bT w&&O)=O:=h1.1;rw[J9]at h2;show{0,by rw[Wx];show .inr (.inl {w,h2,11})}
 |n+1,m+1,.nd w ts,hb,h=>by
  ext(⟨h1,h2⟩:xr h);rw[cL]at hb;let cs:=dP hb.2.2;let ih:∀t∈ts,dC n (bX m t)<=40->∃b',Wx n (bX m t) b':=λt ht z=>xC (cs t ht) z;rw[bX]at h1 h2⊢;split at h1
  .rename_i hr;rw[Z5 hr]at h2⊢;rw[show Dv.tup (.str (Y "reckon")::.str w::ts.map (bX m))=.tup (.str nF.1::(.str w::ts.map (bX m)))from U]at h1 h2;rw[cb pT.2.1,χ]at h1;rw[parts_of pT.2.1]at h2;let hl:=sH h1.1;rw[Δ,ε]at hl;obtain⟨t1,t2,rfl⟩:=kj (show ts.length=2 from Nat.succ.inj hl);let h2:∀e∈[bX m t1,bX m t2],dC n e<=40:=h2;ext(⟨b1,w1⟩:ih t1 () (h2 _ ()));ext(⟨b2,w2⟩:ih t2 () (h2 _ ()));show{0,by rw[Wx];show .inr (.inr (.inr (.inl {w,00,b1,b2,hr,w1,w2,11})))}
  .rename_i hr;rw[Z6 hr]at h2⊢;let kid:(∀e∈ts.map (bX m),dC n e<=40)->∃bs,pK (Wx n) (ts.map (bX m)) bs:=λz=>As λt ht=>ih t ht (z _ (j_ ht));split at h1
   .rename_i hw;rw[Z5 hw]at h2⊢;rw[show Dv.tup [.str (Y "row"),.tup (ts.map (bX m))]=.tup (.str wn.1::[.tup (ts.map (bX m))])from U]at h1 h2;rw[cb pT.2.2.1,χ]at h1;rw[parts_of pT.2.2.1]at h2;let h2:∀e∈ts.map (bX m)++[],dC n e<=40:=h2;rw[ϔ]at h2;let h3:(fA 1 (.tup (ts.map (bX m)))&&O)=O:=h1.1;rw[J9]at h3;ext(⟨f1,f2⟩:zk h3);ext(⟨bs,hbs⟩:kid h2);show{0,by rw[Wx];show .inr (.inr (.inr (.inr (.inl {0,bs,3,f2,hbs,11}))))}
   .rename_i hw;rw[Z6 hw]at h2⊢;cases hf:WT.find? (λp=>decide (p.1=w))with
    |none=>rw[hf]at h1 h2;let h1:gm (.tup (.str jO.1::[.str w,.tup (ts.map (bX m))]))=O:=h1;let h2:∀e∈eF (.tup (.str jO.1::[.str w,.tup (ts.map (bX m))])),dC n e<=40:=h2;rw[cb pT.1,χ]at h1;rw[parts_of pT.1]at h2;let h2:∀e∈[]++(ts.map (bX m)++[]),dC n e<=40:=h2;rw[ϔ,i_]at h2;let h3:(md (.str w)&&(fA 0 (.tup (ts.map (bX m)))&&O))=O:=h1.1;rw[J9,χ]at h3;ext(⟨-,f2⟩:zk h3.2);let h4:(bT w&&(!cw w && !cS w))=O:=h3.1;simp only[χ,S_]at h4;ext(⟨bs,hbs⟩:kid h2);show{0,by rw[Wx];show .inr (.inr (.inl {w,0,bs,h4.1,h4.2.1,h4.2.2,f2,hbs,11}))}
    |some p=>
     rw[hf]at h1 h2;let hp:=M6 hf;let ew:p.1=w:=↑(Tz hf)
     let h1:=h1;let h2:=h2;subst ew;rw[cb hp,χ]at h1;rw[parts_of hp]at h2;ext(⟨h1,h3⟩:h1);rcases HW p hp with g|rfl|rfl|rfl|rfl|rfl
     .ext(⟨bs,hbs⟩:yw (Mu p hp g) h1 cs ih h2)
      let h4:p.1≠"fold"\/lK (A9 (tT (bX m)) p.2.2 ts)=O:=by
       rcases Bool.or_eq_true_iff.mp h3 with z|z
       .show .inl (Z7 z)
       .show .inr z
      show{0,by rw[Wx];show .inr (.inr (.inr (.inr (.inr {p,0,bs,hp,g,hbs,h4,11}))))}
     .cases ts with
      |nil=>cases h1
      |cons t ts=>have h1:(mx .f (bX m t)&&_)=O:=h1;rw[(yf m t).2.2]at h1;cases h1
     .cases ts with
      |nil=>cases h1
      |cons t ts=>have h1:(mx .w (bX m t)&&_)=O:=h1;rw[(yf m t).2.1]at h1;cases h1
     .show absurd U hw
     .cases ts with
      |nil=>cases h1
      |cons t ts=>have h1:(mx .n (bX m t)&&_)=O:=h1;rw[(yf m t).1]at h1;cases h1
     .cases ts with
      |nil=>cases h1
      |cons t ts=>
       let h1:(bR (gc t)&&O)=O:=by rw[J9];let h1:(bR (gc t)&&pW [] (A9 (tT (bX m)) [] ts))=O:=h1;rw[χ]at h1;show h1.1
       rw[J9]at h1;ext(⟨y,e,hy⟩:kf h1);let h5:Dv.tup (.str xy.1::A9 (tT (bX m)) xy.2.2 (t::ts))=.tup [.str (Y "name"),.str y]:=by change Dv.tup [.str (Y "name"),gc t]=_;rw[e]
       show{.leaf y,by rw[Wx];show .inr (.inl {y,hy,h5,1})}
open PySem L2 KB XB L2.EX WR
def GP(a b:Sp):Sp:=λvs H Q E=>a vs H Q E\/b vs H Q E
def IP(F:au P w K mg base CX k f fd ps a)(G:au P w K mg base CX k f fd ps b):au P w K mg base CX k f fd ps (GP a b):=
 {λvs H Q E h=>h.elim (F.len vs H Q E) (G.len vs H Q E),λA c s H d us vs Q E i g e j h=>h.elim (F.run A c s H d us vs Q E i g e j) (G.run A c s H d us vs Q E i g e j)}
def uh(x:Str):Prop:=x.length<=4800/\me x.cps.toList
def Qx(x:Str):Prop:=x.length<=4890/\me x.cps.toList
def uh.b(h:uh x):Qx x:={Ϫ h.1 (),h.2}
inductive Ea (vs:List V) (H:Hp) (Q:VK) (u3_:XK):Prop|mk (x:Str) (_:vs=[.str x]) (_:Qx x) (_:∀H' v b,af H H'->aj H' (bO b) v->cL b->ba b<=20->(Txt.startswith3 x (Y "(") ((0:Nat):Int)=O->MK b=O)->Q v H')
inductive vN (G:Str->Dv->Prop) (vs:List V) (H:Hp) (Q:VK) (u3_:XK):Prop|mk (x:Str) (_:vs=[.str x]) (_:uh x) (_:∀H' v d,af H H'->aj H' d v->G x d->Q v H')
structure Qq(b:Br):Prop where
 ok:bG b
 s:cL b
 dp:ba b<=20
 l:bl b<=1000000
def QL(d:Dv)(x:Str):Prop:=WE d x/\∃b,x=aL b/\Qq b/\d=bX 21 b
def GE(_:Str)(d:Dv):Prop:=∃b,cL b/\d=bX 21 b
def Rn(W:Dv->Str->Prop)(H:Hp)(v:V):Prop:=(∃d,aj H d v/\IU d "str"=J)\/∃x,v=.str x/\uh x/\∀d,¬ W d x
def QG(E:XK)(H:Hp)(C:υ)(p:V):Prop:=∀(H':Hp)(a:υ),af H H'->H' a=Z (.xd [("place",p)])->E (.ref C) (Z a) H'
inductive QW (fr fi fs:υ) (W Wp:Dv->Str->Prop) (C:υ) (vs:List V) (H:Hp) (Q:VK) (E:XK):Prop|mk (v0 p:V) (_:vs=[v0,.ref fr,.ref fi,.ref fs,p]) (_:((∃x d,v0=.str x/\Wp d x/\∀H' v,af H H'->aj H' d v->Q v H')\/(Rn W H v0/\QG E H C p)))
section
variable{P:Ι}{w:ώ}{K:η}{mg:Str->Option ν}{base:ϙ}
def qb(F:Fun K "branch_of" "branch_of" iy f fd)(T:Txt K mg)(R:tJ K C)(r:Mk K C g1)(n:au P w K mg base bg k0 g1 d1 ["self","text"] (rV C))(t:bE K d1 ["self","text"] [])(m:mg "Signs"=Z (.ref C))
  (l:oP K C "branch" g2) (k:au P w K mg base bg (k0+1) g2 d2 ["self","most"] (uJ C 21)) (i:bE K d2 ["self","most"] []):au P w K mg base bg (k0+2) f fd ["text"] Ea:=by
 show F.okA (N:=["text"]) λu3 A W s H vs Q E g d h=>?_;ext(⟨y,rfl,ts,q⟩:h);let B:∀(y:Str)(p:Int),d_ (Y "branch") [(Y "text",V.str y),(Y "at",V.int p)]=Β:=lV () ();show{0,bZ (Aj (QO r n g U m t .nil dc (aW 0)) R l k g i .nil dc (am {T.g_MOST_BRACKETS U})),{01,λx I S X u2=>{x,I,y,1,aa,λu0 L c=>{12}}}};ext(⟨u,z⟩:id c);show{x,u,01,z,B _ _,x,y,(0),(20),1,c,ts.1,ts.2,ϋ _,33,λD v b j M u4 _ _ G bs u1 d=>q D v b (λb o e=>?_) (G.mono CY) bs () (d ())};let a:=ah e S;show M b o a (L b o a (by rw[ai a,ai (ah e X)];show e))
def jC(F:Fun K "expression_of" "expression_of" gQ f fd)(T:Txt K mg)(n:bf P w K mg base k0 "branch_of" ["text"] (GP xh Ea))(m:bf P w K mg base k0 "expression_in" ["branch"] (qi 21)):au P w K mg base bg (k0+1) f fd ["text"] (GP (AS QL) (vN GE)):=by
 show F.okA (N:=["text"]) λr A p s H vs Q E v t h=>?_;rcases h with ⟨x,d,rfl,⟨_,b,rfl,a,rfl⟩,q⟩|⟨x,rfl,ts,q⟩
 .show{0,bZ (aQ m (am (aQ n (aW 0)))),{01,.inl {b,1,a.ok,a.dp,a.l,λo i l e=>{i,b,1,e,a.s,by let:=a.dp;omega,3,λc j g k=>q c j (l.trans g) k}}}}
 .show{0,bZ (aQ m (am (aQ n (aW 0)))),{01,.inr {x,1,ts.b,λo i b l e bs u _=>{i,b,1,e,bs,33,λc j g k=>q c j _ (l.trans g) k {b,bs,1}}}}}
def vr(F:Fun K "just_so" "just_so" ko f fd)(T:Txt K mg)(S:jN K D fI aNoWords)(N:mg "NoWords"=Z (.ref aNoWords))(FI:au P w K mg base bg k0 fI fdI psI (nt K D fI))(BI:bE K fdI psI [])
  (hG:∀{x d},G x d->d.small=O/\(oneD d=O->∃r,W d r)) (hW:∀{d x},W d x->d.small=O/\oneD d=O) (z:∀{d x},Wp d x->W d x)
  (u3:au P w K mg base bg (k0+1) fr dr pr (GP (AS Wp) (vN G))) (M:ϰ K (.ref fr)=O) (B:bE K dr pr [])
  (C:au P w K mg base bg (k0+1) fi di pi (jb oneD)) (L:ϰ K (.ref fi)=O) (u2:bE K di pi []) (u4:au P w K mg base bg (k0+1) fs ds pz (Oi W)) (u0:ϰ K (.ref fs)=O) (I:bE K ds pz []):
  au P w K mg base (eE P w) (k0+2) f fd ["text","reader","is_one","shower","place"] (QW fr fi fs W Wp aNoWords):=by
 let nd:=oS.nd;show OQ F oS (λvs H Q E h=>?_) (λa9 A a8 s H vs Q E m h=>?_)
 .ext(⟨v0,p,rfl,_⟩:h);rfl
 ext(⟨v0,p,rfl,h⟩:h);show{0,(@un _ _ _ (kY (jZ (cV cg T.isinstance (ar (wv 0) (am (zt (.ty "str") T.str U))))) (aS (aY 5 (Qc 1 u3 m M B (aW 0))) (fD (Hd (lW (EB (jZ (Qc 2 C m L u2 (aW 5))) (EL (bA aA (Qc 3 u4 m u0 I (aW 5)) (wv 0))))) (bZ (wv 5)) JB))) (fD (Pq S FI m BI U N kr (aW 4))))),2};let v:∀{k:Hp},af H k->QG E H aNoWords p->∀j,k j=Β->E (.ref aNoWords) (Z j) (upd k j (.xd [("place",p)])):=λi t j hd=>t _ j (i.trans (ac hd _)) aa;rcases h with ⟨x,d,rfl,o,q⟩|⟨⟨d,R,e⟩|⟨x,rfl,ts,no⟩,t⟩
 .ext(⟨n,u⟩:hW (z o));show{0100001,gX.str x,eU K (.str x),2};rw[Gc];show{01,aH {101,.inl {x,d,1,o,λk c i b=>?_}}};show dQ ?_;show{101,c,d,1,b,n,λu1 a=>?_};rw[u];show{01,aH {101,c,x,d,1,b.mono a,z o,λy l=>{01101,ao (λ_=>?_) (λh=>absurd (Z9 U) h)}}};show{01,q y c (i.trans (a.trans l)) (b.mono (a.trans l))}
 .show{0100001,R.ty,eU K d,2};rw[e];show{01,aK {0101,v (af.refl _) t}}
 .show{0100001,gX.str x,eU K (.str x),2};rw[Gc];show{01,aH {101,.inr {x,1,ts,λk c d i b g=>?_}}};ext(⟨n,u⟩:hG g);show dQ ?_;show{101,c,d,1,b,n,λu1 a=>?_};cases ho:oneD d with
  |false=>show{01,aK {0101,v (i.trans a) t}}
  |true=>ext(⟨r,X⟩:u ho);show{01,aH {101,c,r,d,1,b.mono a,X,λy l=>{01101,ao (λh=>?_) (λ_=>{0101,v (i.trans (a.trans l)) t})}}};let:=V.str.inj (Z7 h);show absurd (this▸X) (no d)
end
open PySem L2 KB XB WR
def DK(a:Wa c ps):(dN c ps).cps.toList.count 43<=20:=by
 let h:=uK (dN c ps) 43;rw[<-yq,iw a.1 a.2]at h;let b:=a.1.len;unfold bU at h;rw[Ε,ε]at h;split at h
 .rename_i z;rw[ϻ]at h;rcases z with z|rfl
  .rcases a.1.wd with e|e
   .show absurd e z
   .omega
  .let z:([]:List Pr).length=0:=U;rw[z]at h;omega
 .rw[B6]at h;omega
def Fo{l:List Nat}(h:∀c∈l,c≠43):l.count 43<=20:=by rw[i7 λz=>h 43 z U];show ϋ _
def jt{x:Str}(h:bT x=O):FL x:={by let:=(aV h).2;change x.cps.size<=4900;omega,Fo λc a=>by let:=(ci h).2.2 c a;omega}
def JS{n:Int}(b:0<=n)(a:n<10^60):FL (bx n):={by let:=gz b a;omega,Fo λc d=>by let:=dJ b a c d;omega}
def wM(a:Wa c ps):FL (dN c ps):={by let:=dG a.1;omega,DK a}
def hU(h:FL w):cL (.leaf w):=by rw[cL];show h
def CA(h:FL w)(l:ts.length<=4900)(a:∀t∈ts,cL t):cL (.nd w ts):=by rw[cL];show{h,l,tZ a}
def MH(h:bT w=O)(b:cL a):cL (.nd w [a]):=CA (jt h) (by change 1<=4900;decide) λt c=>by rw[ο.mp c];show b
def EI(h:bT w=O)(e:cL a)(d:cL b):cL (.nd w [a,b]):=CA (jt h) (by change 2<=4900;decide) λt c=>by
 rcases ξ.mp c with rfl|c
 .show e
 .rw[ο.mp c];show d
def AU:∀{k:Kd},k.All Wa->cL (cj k)
 |.whole,_=>hU (jt ())
 |.place c ps,h=>MH () (hU (wM h))
 |.row c ps k,h=>EI () (hU (wM h.1)) (AU h.2)
 |.pair i j,h=>EI () (AU h.1) (AU h.2)
def PZ(e:∀d b,R d b->cL b):∀{s:So}{d:Dv}{b:Br},Ag R s d b->cL b
 |.e,_,_,h=>e _ _ h
 |.l,_,_,h=>by ext(⟨c,ps,_,rfl,f⟩:h);show hU (wM f.1)
 |.k,_,_,h=>by ext(⟨k,_,rfl,a,_⟩:h);show AU (bn (λ_ _ h=>h.1) a)
 |.x,_,_,h=>by ext(⟨y,_,rfl,n⟩:h);show hU (jt n)
 |.y,_,_,h=>by ext(⟨y,_,rfl,n⟩:h);show hU (jt n)
def Nj(f:∀d b,R d b->cL b)(h:mq R ss ds bs):∀b∈bs,cL b:=by
 induction h with
 |nil=>show nofun
 |cons a _ e=>
  intro b c;rcases ξ.mp c with rfl|c
  .show PZ f a
  .show e b c
def Ho:∀{n:Nat}{d:Dv}{b:Br},Wx n d b->cL b
 |n+1,d,b,h=>by
  let c:∀d b,Wx n d b->cL b:=λd b=>Ho;rw[Wx]at h;rcases h with ⟨i,o,w,rfl,rfl⟩|⟨y,l,rfl,rfl⟩|⟨f,ds,bs,q,_,_,m,a,rfl,rfl⟩|⟨r,d1,d2,t,v,s,k,j,rfl,rfl⟩|⟨ds,bs,u,m,a,rfl,rfl⟩|⟨p,ds,bs,g,_,a,_,rfl,rfl⟩
  .show hU (JS o ())
  .show hU (jt l)
  .show CA (jt q) (by rw[a.len];omega) λb e=>by ext(⟨d,_,r⟩:a.mem.2 b e);show c d b r
  .show EI (eV r (cR s)).1 (c _ _ k) (c _ _ j)
  .show CA (jt ()) (by rw[a.len];omega) λb e=>by ext(⟨d,_,r⟩:a.mem.2 b e);show c d b r
  .show CA (jt (kX p g)) (by rw[a.len.1];let:=eS p g;omega) (Nj c a)
def Pd(h:WE d x):QL d x:=by ext(⟨b,rfl,a,c⟩:h);ext(⟨e,f⟩:qS a);show{{b,1,a,c},b,1,{e,Ho a,3,by let:=tD a;omega},(yK a ()).symm}
abbrev lY:ϸ:=top 43
abbrev oJ:ϸ:=top 44
abbrev jy:ϸ:=top 45
abbrev ur:ϸ:=top 46
def kH:Dv->Bool
 |.tup ds=>fA 0 (.tup ds)&&ds.all bR
 |_=>J
def fC:Dv->Bool
 |.tup [a,b]=>bR a&&decide (bJ b<=12)
 |_=>J
def iW:Dv->Bool
 |.tup ds=>fA 0 (.tup ds)&&ds.all fC
 |_=>J
def Ou(d:Dv):Bool:=decide (dC 8 d<=40)
def PR:List Dv->Bool
 |[e]=>Ou e
 |_=>J
def RP:List Dv->Bool
 |[a,b,c,e]=>md a&&(kH b&&(iW c&&Ou e))
 |_=>J
def ji:Dv->Bool
 |.tup (.str x::r)=>if x="ask" then PR r else decide (x="def")&&RP r
 |_=>J
def sQ(e:Dv):ji (.tup [.str "ask",e])=Ou e:=by rw[ji,Z5 U];rfl
def tO(a b c e:Dv):ji (.tup [.str "def",a,b,c,e])=(md a&&(kH b&&(iW c&&Ou e))):=by rw[ji,Z6 (),Z9 U,ϵ];rfl
def GK(h:ir d=J):ji d=J:=by
 match d,h with
 |.tup (.str x::r),h=>cases h
 |.tup [],_=>rfl
 |.tup (.non::r),_=>rfl
 |.tup (.bl _::r),_=>rfl
 |.tup (.int _::r),_=>rfl
 |.tup (.tup _::r),_=>rfl
 |.tup (.lst _::r),_=>rfl
 |.tup (.dct::r),_=>rfl
 |.non,_=>rfl
 |.bl _,_=>rfl
 |.int _,_=>rfl
 |.str _,_=>rfl
 |.lst _,_=>rfl
 |.dct,_=>rfl
def Bb(h:∀a b,ds≠[a,b]):fC (.tup ds)=J:=by
 match ds with
 |[]=>rfl
 |[_]=>rfl
 |[a,b]=>show absurd U (h a b)
 |_::_::_::_=>rfl
def my(h:fA 0 (.tup ds)=O):ds.length<=4:=by simp only[fA,χ,decide_eq_true_eq]at h;omega
section
variable{P:Ι}{w:ώ}{K:η}{mg:Str->Option ν}{base:ϙ}
def sL(F:Fun K "are_names" "are_names" lY f fd)(T:Txt K mg)(Dis_few:bf P w K mg base k "is_few" ["thing","least"] yW)(Dis_name:bf P w K mg base k "is_name" ["thing"] (jb bR)):au P w K mg base bg (k+1) f fd ["thing"] (jb kH):=by
 show F.okA (N:=["thing"]) λcdv A outer s H vs Q E hr nd h=>?_;ext(⟨v,d,rfl,R,sm,q⟩:h);show{0,bZ (mD (aQ Dis_few (ar (wv 0) (am aE))) (uv (cV (gn U) T.all (am (pY ["name"] [] (Jc (wv 0)) (.of U) U (λ_ _ _=>{pg_name (i:=0) (bK (l:=["name"]) (()) U) U (z_ U)}) (bz ()) (λ_ _ _=>oW) (λ_ _ _=>(aQ Dis_name (aW 0)))))))),2};show{01,v,d,(0),1,R,λH1 s1=>{012}};cases d with
 |tup ds=>
  let qd:∀b H',af H H'->(fA 0 (.tup ds)&&ds.all bR)=b->Q (.bl b) H':=λb H' s' e=>e▸q H' s';cases c0:fA 0 (.tup ds)with
  |false=>show aK (qd _ H1 s1 (by rw[c0];rfl))
  |true=>
   ext(⟨a,us,rfl,ha,ru⟩:aj.tup_inv R);let l4:=my c0;show aH {01,a,1,{us,aw.of (s1 _ _ ha)},ku (λi ys H'=>af H H'/\ys=(ds.take i).map λp=>V.bl (bR p)) {s1,1} (λi ys H' _ p=>aw.of (p.1 _ _ ha)) ?_ ?_}
   .ext i ys H2 x hx ⟨s2,rfl⟩;ext(⟨d,hd,Rd⟩:ru.get hx);show bt {01,x,d,1,Rd.mono s2,fu sm d (ό hd),λH3 s3=>{2,s2.trans s3,2}}
    .rw[ε,Φ,ι];omega
    .rw[Ϥ,hd,Κ];rfl
   .ext ys H2 ⟨s2,rfl⟩ r hr';rw[ru.length,ϧ];show{r,ds.map bR,1,aD.of (by rw[aa,Ϙ];rfl),qd _ _ (s2.trans (ac hr' _)) (by rw[c0,J3];rfl)}
 |_=>show aK (q H1 s1)
def vI(F:Fun K "is_param" "is_param" oJ f fd)(T:Txt K mg)(Dis_name:bf P w K mg base k "is_name" ["thing"] (jb bR))(Dis_kind:bf P w K mg base k "is_kind" ["thing"] nJ):au P w K mg base bg (k+1) f fd ["thing"] (jb fC):=by
 show F.okA (N:=["thing"]) λcdv A outer s H vs Q E hr nd h=>?_;ext(⟨v,d,rfl,R,sm,q⟩:h);show{0,bZ (mD (cV cg T.isinstance (ar (wv 0) (am (zt (.ty "tuple") T.tuple U)))) (mD (qM aA (cV aq T.len (aW 0)) aE) (mD (aQ Dis_name (am (bC 0))) (uv (aQ Dis_kind (am (bC 0))))))),2};show{01,v,0001,R.ty,fb K d,012};let qq:=q H (af.refl H);cases d with
 |tup ds=>
  ext(⟨a,vs,rfl,ha,rs⟩:aj.tup_inv R);let hl:=rs.length;show aH {01,a,vs,1,.inr (aw.of ha),1012};rcases yo ds with ⟨d0,d1,rfl⟩|no
  .ext(⟨x,y,rfl,R0,R1⟩:Reps.two rs);ext(⟨z0,z1⟩:uf sm);let qe:∀c H',af H H'->(bR d0&&decide (bJ d1<=12))=c->Q (.bl c) H':=λc H' s1 e=>e▸q H' s1;show aH {01,a,0,(0),x,11,aw.of ha,ad U,x,d0,1,R0,z0,λH1 s1=>{012}};cases c0:bR d0 with
   |false=>show aK (qe _ H1 s1 (by rw[c0];rfl))
   |true=>show aH {01,a,0,(1),y,11,aw.of (s1 _ _ ha),ad U,y,d1,1,R1.mono s1,z1,λH2 s2=>qe _ H2 (s1.trans s2) (by rw[c0];rfl)}
  .let hn:¬ (V.int ((vs.length:Nat):Int)=V.int 2):=λe=>rO no (by injection e with e;omega);rw[Z8 hn];rw[Bb no]at qq;show aK qq
 |_=>show aK qq
def pJ(F:Fun K "are_params" "are_params" jy f fd)(T:Txt K mg)(Dis_few:bf P w K mg base k "is_few" ["thing","least"] yW)(Dis_param:bf P w K mg base k "is_param" ["thing"] (jb fC)):au P w K mg base bg (k+1) f fd ["thing"] (jb iW):=by
 show F.okA (N:=["thing"]) λcdv A outer s H vs Q E hr nd h=>?_;ext(⟨v,d,rfl,R,sm,q⟩:h);show{0,bZ (mD (aQ Dis_few (ar (wv 0) (am aE))) (uv (cV (gn U) T.all (am (pY ["param"] [] (Jc (wv 0)) (.of U) U (λ_ _ _=>{pg_name (i:=0) (bK (l:=["param"]) (()) U) U (z_ U)}) (bz ()) (λ_ _ _=>oW) (λ_ _ _=>(aQ Dis_param (aW 0)))))))),2};show{01,v,d,(0),1,R,λH1 s1=>{012}};cases d with
 |tup ds=>
  let qd:∀b H',af H H'->(fA 0 (.tup ds)&&ds.all fC)=b->Q (.bl b) H':=λb H' s' e=>e▸q H' s';cases c0:fA 0 (.tup ds)with
  |false=>show aK (qd _ H1 s1 (by rw[c0];rfl))
  |true=>
   ext(⟨a,us,rfl,ha,ru⟩:aj.tup_inv R);let l4:=my c0;show aH {01,a,1,{us,aw.of (s1 _ _ ha)},ku (λi ys H'=>af H H'/\ys=(ds.take i).map λp=>V.bl (fC p)) {s1,1} (λi ys H' _ p=>aw.of (p.1 _ _ ha)) ?_ ?_}
   .ext i ys H2 x hx ⟨s2,rfl⟩;ext(⟨d,hd,Rd⟩:ru.get hx);show bt {01,x,d,1,Rd.mono s2,fu sm d (ό hd),λH3 s3=>{2,s2.trans s3,2}}
    .rw[ε,Φ,ι];omega
    .rw[Ϥ,hd,Κ];rfl
   .ext ys H2 ⟨s2,rfl⟩ r hr';rw[ru.length,ϧ];show{r,ds.map fC,1,aD.of (by rw[aa,Ϙ];rfl),qd _ _ (s2.trans (ac hr' _)) (by rw[c0,J3];rfl)}
 |_=>show aK (q H1 s1)
def AH(F:Fun K "is_row" "is_row" ur f fd)(T:Txt K mg)(a4:bf P w K mg base k "has_word" ["thing"] (IQ ir))(B:bf P w K mg base k "is_expression" ["thing"] uF)(a1:bf P w K mg base k "is_def_name" ["thing"] (jb md))(a3:bf P w K mg base k "are_names" ["thing"] (jb kH))(a2:bf P w K mg base k "are_params" ["thing"] (jb iW)):au P w K mg base bg (k+1) f fd ["thing"] (jb ji):=by
 show F.okA (N:=["thing"]) λc0 A b8 s H vs Q E hr nd h=>?_;ext(⟨v,d,rfl,R,sm,q⟩:h);show{0,cP (pV (jZ (aQ a4 (aW 0)))) kb (cP (bA aA (bC 0) az) (mD (qM aA (cV aq T.len (aW 0)) aE) (uv (aQ B (am (bC 0))))) (cP (lW (wD (bA jd (bC 0) az) (yb (bA jd (cV aq T.len (aW 0)) aE)))) kb (bZ (mD (aQ a1 (am (bC 0))) (mD (aQ a3 (am (bC 0))) (mD (aQ a2 (am (bC 0))) (uv (aQ B (am (bC 0)))))))))),2};show{01,v,d,1,R,λn C=>{012}};cases W:ir d with
 |false=>show aH ?_;let:=q n C;rwa[GK W]at this
 |true=>
  show aK ?_;ext(⟨x,r,rfl⟩:jm W);ext(⟨a,vs,rfl,l,rs⟩:aj.tup_inv (R.mono C));ext(⟨y,us,rfl,R0,i⟩:rs);obtain rfl:y=.str x:=R0;let hl:=i.length;let g:=λd hd=>fu sm d (ρ _ hd);let j:∀b H',af n H'->ji (.tup (.str x::r))=b->Q (.bl b) H':=λb H' I e=>e▸q H' (C.trans I);show{01,a,0,(0),.str x,11,aw.of l,ad U,1012};rw[dY];by_cases t:x="ask"
  .subst t;rw[Z9 U];show aH {01,a,01,.inr (aw.of l),1012};change if decide (V.int _=V.int ((2:Nat):Int))=O then _ else _
   rw[iT hl 1 2 U];by_cases z:r.length=1
   .rw[Z9 z];match r,us,z,i,g,j with
    |[e],us,_,i,g,j=>simp only[Reps]at i;ext(⟨u,b9,rfl,Ru,rfl⟩:i);show aH {01,a,0,(1),u,11,aw.of l,ad U,u,e,1,Ru,g e π,λG c=>j _ G c (sQ e)}
   .rw[Z8 z];show aK (j _ n (af.refl _) ?_);rw[ji,Z5 U];match r,z with
    |[],_=>rfl
    |[e],z=>show absurd U z
    |_::_::_,_=>rfl
  rw[Z8 t];show aK {01,a,0,(0),.str x,11,aw.of l,ad U,1012};rw[dY];by_cases D:x="def"
  .subst D;rw[Z9 U];show aK {01,a,01,.inr (aw.of l),1012};change if (!decide (V.int _=V.int ((5:Nat):Int)))=O then _ else _
   rw[iT hl 4 5 U];by_cases z:r.length=4
   .rw[Z9 z];match r,us,z,i,g,j with
    |[d1,d2,M,u1],us,_,i,g,j=>
     simp only[Reps]at i;ext(⟨u4,_,rfl,R1,u0,_,rfl,R2,u2,_,rfl,R3,u3,_,rfl,R4,rfl⟩:i);let o:=λb H' I e=>j b H' I ((tO _ _ _ _).trans e);show aK {01,a,0,(1),u4,11,aw.of l,ad U,u4,d1,1,R1,g d1 (),λG c=>{012}};cases X:md d1 with
     |false=>show aK (o _ G c (by rw[X];rfl))
     |true=>
      show aH {01,a,0,(2),u0,11,aw.of (c _ _ l),ad U,u0,d2,1,R2.mono c,g d2 (),λH3 m=>{012}};cases L:kH d2 with
      |false=>show aK (o _ H3 (c.trans m) (by rw[X,L];rfl))
      |true=>
       show aH {01,a,0,(3),u2,11,aw.of (m _ _ (c _ _ l)),ad U,u2,M,1,R3.mono (c.trans m),g M (),λH4 p=>{012}};cases S:iW M with
       |false=>show aK (o _ H4 (c.trans (m.trans p)) (by rw[X,L,S];rfl))
       |true=>show aH {01,a,0,(4),u3,11,aw.of (p _ _ (m _ _ (c _ _ l))),ad U,u3,u1,1,R4.mono (c.trans (m.trans p)),g u1 (),λH5 s5=>o _ H5 (c.trans (m.trans (p.trans s5))) (by rw[X,L,S];rfl)}
   .rw[Z8 z];show aH (j _ n (af.refl _) ?_);rw[ji,Z6 t,Z9 U,ϵ];match r,z with
    |[],_=>rfl
    |[_],_=>rfl
    |[_,_],_=>rfl
    |[_,_,_],_=>rfl
    |[_,_,_,_],z=>show absurd U z
    |_::_::_::_::_::_,_=>rfl
  rw[Z8 D];show aH (aH (j _ n (af.refl _) ?_));rw[ji,Z6 t,Z8 D];rfl
end
abbrev jQ:ϸ:=top 55
abbrev nG:ϸ:=top 56
abbrev qg:=Str×Kd
def iX(p:qg):Dv:=.tup [.str p.1,p.2.dv]
def cy(p:qg):Str:=p.1++Y ": " ++ gT p.2
structure mj(p:qg):Prop where
 nm:bT p.1=O
 sm:p.2.All Sm
 sz:p.2.size<=12
structure wU(f:Str)(ns:List Str)(ps:List qg):Prop where
 nf:bT f=O
 wf:cw f=J
 rf:cS f=J
 l4:ns.length<=4
 nn:∀x∈ns,bT x=O
 p4:ps.length<=4
 pn:∀p∈ps,mj p
def LG(d:Dv)(b:Br):Prop:=Wx 8 d b/\dC 8 d<=40
def DT(f:Str)(a:List Str)(ps:List qg)(b:Br):Str:=Τ (Y " ") (Y "def" :: f::a)++Y " (" ++ Τ (Y ", ") (ps.map cy)++Y ") = " ++ aL b
def wz(f:Str)(a:List Str)(ps:List qg)(e:Dv):Dv:=.tup [.str (Y "def"),.str f,.tup (a.map Dv.str),.tup (ps.map iX),e]
def ee(d:Dv)(x:Str):Prop:=(∃e b,d=.tup [.str (Y "ask"),e]/\x=Y "ask " ++ aL b/\LG e b)\/∃f a ps e b,d=wz f a ps e/\x=DT f a ps b/\wU f a ps/\LG e b
def ED(R:aj H (iX p) v):∃a u,v=.ref a/\H a=Z (.tup [.str p.1,u])/\aj H p.2.dv u:=by ext(⟨a,vs,rfl,e,b⟩:aj.tup_inv R);ext(⟨x,y,rfl,c,d⟩:Reps.two b);subst c;show{a,y,1,e,d}
def jH:∀{b:List Str}{a:List V},Reps H (b.map Dv.str) a->a=b.map V.str
 |[],a,h=>by simpa only[u9,Reps]using h
 |n::b,a,h=>by ext(⟨v,r,rfl,c,d⟩:h);rw[c,jH d];rfl
def OJ:(Y " ").length=1:=()
def LW:(Y ": ").length=2:=()
def Rh:(Y " = ").length=3:=()
def OY:(Y "def").length=3:=()
def BG:(Y "ask ").length=4:=()
def LX:(Y " (").length=2:=()
def LZ:(Y ") = ").length=4:=()
def vM{k:Kd}(h:k.All Sm):k.All Wr:=bn (λ_ _ h=>h.1.1) h
def Fb{p:qg}(h:mj p):(cy p).length<=20410:=by let a:=cr (vM h.sm);let b:p.1.length<=8:=(aV h.nm).2;let c:=h.sz;unfold cy;rw[ς,ς,LW];omega
def rM{ps:List qg}(h:∀p∈ps,mj p)(c:ps.length<=4):((ps.map cy).map (λx=>x.length)).sum<=81640:=by
 let:=dD (ys:=ps.map cy) λy b=>by ext(⟨p,a,rfl⟩:Ρ.mp b);show Fb (h p a)
 rw[ε]at this;omega
def wG(a:wU f ns ps):(((Y "def" :: f::ns).map (λx=>x.length)).sum)<=43:=by let c:=dD λy b=>(aV (a.nn y b)).2;let d:f.length<=8:=(aV a.nf).2;let:=a.l4;simp only[ϊ,A0,OY];omega
def rR(a:wU f ns ps):(Τ (Y " ") (Y "def" :: f::ns)).length<=60:=by let b:=dM (Y " ") (Y "def" :: f::ns);let c:=wG a;let:=a.l4;rw[OJ]at b;simp only[Δ]at b;omega
def rQ{f:Str}{c:List Str}{ps:List qg}(a:wU f c ps):(Τ (Y ", ") (ps.map cy)).length<=82000:=by let b:=dM (Y ", ") (ps.map cy);let d:=rM a.pn a.p4;let:=a.p4;rw[gJ,ε]at b;omega
def jh(h:LG d b):(aL b).length<=960000:=by let:=tD h.1;let:=h.2;change bl b<=_;omega
def ee.len(h:ee d x):x.length<=1100000:=by
 rcases h with ⟨e,b,rfl,rfl,a⟩|⟨f,i,ps,e,b,rfl,rfl,c,a⟩
 .let:=jh a;rw[ς,BG];omega
 .let g:=jh a;let j:=rR c;let k:=rQ c;unfold DT;rw[ς,ς,ς,ς,LX,LZ];omega
def GO(j p x:Str):u6++j++Y " " ++ (Y "" ++ Y "(" ++ p++Y ")")++Y " = " ++ x=j++Y " (" ++ p++Y ") = " ++ x:=by rw[show Y " ("=Y " " ++ Y "(" by decide +kernel,show Y ") = "=Y ")" ++ Y " = " by decide +kernel,show Y ""=u6 from U,j6,j6];simp only[A8]
inductive DD (vs:List V) (H:Hp) (Q:VK) (u3_:XK):Prop|mk (p:qg) (v:V) (_:vs=[.str p.1,v]) (_:aj H p.2.dv v) (_:mj p) (_:∀H',af H H'->Q (.str (cy p)) H')
section
variable{P:Ι}{w:ώ}{K:η}{mg:Str->Option ν}{base:ϙ}
def pN{f:υ}{b:ϣ}{k:Nat}(F:Fun K "show_param" "show_param" jQ f b)(T:Txt K mg)(e:bf P w K mg base k "show_kind" ["kind"] (iY 12)):au P w K mg base bg (k+1) f b ["x","kind"] DD:=by
 show F.okA (N:=["x","kind","shown"]) λn A m s H vs Q E y t h=>?_;ext(⟨p,v,rfl,R,a,q⟩:h);show{0,aS (aY 2 (aQ e (aW 1))) (bZ (NF (vD (IE (wv 0)) (vD az (vD (IE (wv 2)) NE))))),2};let d:=vM a.sm;let x:=cr d;let g:p.1.length<=8:=(aV a.nm).2;let z:=a.sz;show aJ λX i=>{01,v,p.2,1,R,a.sz,3,d,λl j=>dQ (i _ _ ?_)};let c:u6++p.1=p.1:=j6 _;let u:(u6++p.1).length<=8:=by rw[c];show g
 let o:(u6++p.1++Y ": ").length<=10:=by rw[ς,LW];omega
 let r:(u6++p.1++Y ": " ++ gT p.2).length<=20410:=by rw[ς];omega
 show{01,p.1,13,p.1,1301301,gT p.2,1301332};rw[c];show q l j
def vF{f:υ}{fd:ϣ}{k:Nat}(F:Fun K "show_row" "show_row" nG f fd)(T:Txt K mg)(Dshow_param:bf P w K mg base k "show_param" ["x","kind"] DD)(Dshow_expression:bf P w K mg base k "show_expression" ["expression"] (uw 8))(Din_brackets:bf P w K mg base k "in_brackets" ["word","texts"] oQ):au P w K mg base bg (k+1) f fd ["row"] (Oi ee):=by
 show F.okA (N:=["row","expression","head","params"]) λcdv A outer s H vs Q E hr nd h=>?_;ext(⟨v,x,d,rfl,R,hw,q⟩:h);show{0,aS (aY 1 (aQ Dshow_expression (am (eT nY (wv 0) (Qn xO aE))))) (cP (bA aA (bC 0) az) (NF (vD az (vD (IE (wv 1)) NE))) (aS (aY 2 (eX Μ a_ b_ dH az (am (aP bF (dw (ar az (am (bC 0)))) (ka jV T.list (am (bC 0))))))) (aS (aY 3 (aQ Din_brackets (ar az (am (pY (["x","kind"]) [] (Jc (bC 0)) (.of U) U (λ_ _ _=>{pg_tup U (pgs_cons (pg_name (i:=0) (bK (l:=["x","kind"]) (()) U) U (z_ U)) (pgs_cons (pg_name (i:=1) (bK (l:=["x","kind"]) (()) U) U (z_ U)) pgs_nil))}) (kK () ()) (λ_ _ _=>oW) (λ_ _ _=>(aQ Dshow_param (ar (wv 0) (aW 1))))))))) (bZ (NF (vD (IE (wv 2)) (vD az (vD (IE (wv 3)) (vD az (vD (IE (wv 1)) NE)))))))))),2};rcases hw with ⟨e,b,rfl,rfl,we⟩|⟨f',ns,ps,e,b,rfl,rfl,df,we⟩
 .ext(⟨a,vs,rfl,ha,rs⟩:aj.tup_inv R);ext(⟨w1,w2,rfl,r1,r2⟩:Reps.two rs);subst r1;let l0:=jh we;show aJ λX hX=>{01,(1),1,a,00,w2,11,aw.of ha,1,w2,e,b,1,r2,we.1,by change(aL b).length<=_;omega,λH1 s1=>gs hX λX hX=>bW λg c hY hZ=>{01,a,0,(0),.str (Y "ask"),11,aw.of (s1 _ _ ha),ad U,101,ao (λ_=>hY _ ?_) (λh=>absurd (Z9 U) h)}};let e1:u6++Y "ask "=Y "ask ":=j6 _;let l1:(u6++Y "ask ").length<=4:=by rw[e1,BG];show Α _
  let l2:(u6++Y "ask " ++ aL b).length<=960004:=by rw[ς];omega
  show{01301,aL b,1301332};rw[e1];show q H1 s1
 .ext(⟨a,vs,rfl,ha,rs⟩:aj.tup_inv (R));ext(⟨w1,_,rfl,r1,w2,_,rfl,r2,w3,_,rfl,r3,w4,_,rfl,r4,w5,_,rfl,r5,rfl⟩:rs);subst r1;subst r2;ext(⟨b1,ws,rfl,hb1,Rb⟩:aj.tup_inv r3);ext(⟨c1,zs,rfl,hc1,Rc⟩:aj.tup_inv r4);let ew:=jH Rb;subst ew;let l0:=jh we;let l1:=rR df;let l2:=wG df;let l3:=rM df.pn df.p4;let l4:=rQ df;let n4:=df.l4;let p4:=df.p4;let lz:zs.length=ps.length:=by let:=Rc.length;rwa[ε]at this
  show aJ λX hX=>{01,(1),1,a,00,w5,11,aw.of ha,1,w5,e,b,1,r5,we.1,by change(aL b).length<=_;omega,λH1 s1=>gs hX λX hX=>?_};show bW λg c hY hZ=>{01,a,0,(0),.str (Y "def"),11,aw.of (s1 _ _ ha),ad U,101,ao (λh=>absurd h ()) (λ_=>hZ _ (fc (hX _ _ (aJ λX hX=>?_))))};show{101,a,0,(1),.str f',11,aw.of (s1 _ _ ha),ad U,z2,λg1 hg1=>?_};let p1:=s1.trans (ac hg1 (.lst [.str (Y "def"),.str f']));let h1:upd H1 g1 (.lst [.str (Y "def"),.str f']) g1=Z (.lst [.str (Y "def"),.str f']):=aa;generalize upd H1 g1 (.lst [.str (Y "def"),.str f'])=H2 at p1 h1⊢;show{01,a,0,(2),.ref b1,11,aw.of (p1 _ _ ha),ad U,b1,01,.inr (aw.of (p1 _ _ hb1)),λg2 hg2=>?_};let q2:=ac hg2 (.lst (ns.map V.str));show{g1,g2,0011,q2 _ _ h1,aa,by rw[ε,ι];change 2+_<=_;omega,λg3 hg3=>?_};let q3:=ac hg3 (.lst ([.str (Y "def"),.str f']++ns.map V.str));let p3:=p1.trans (q2.trans q3);let h3:upd (upd H2 g2 (.lst (ns.map V.str))) g3 (.lst ([.str (Y "def"),.str f']++ns.map V.str)) g3=Z (.lst ((Y "def" :: f'::ns).map V.str)):=aa;generalize upd (upd H2 g2 (.lst (ns.map V.str))) g3 (.lst ([.str (Y "def"),.str f']++ns.map V.str))=H3 at p3 h3⊢;show{0,g3,Y "def" :: f'::ns,11,aD.of h3,by rw[OJ];simp only[Δ];omega,2};rw[tj];show gs hX λX hX=>?_;show{01,a,0,(3),.ref c1,11,aw.of (p3 _ _ ha),ad U,c1,1,{zs,aw.of (p3 _ _ hc1)},ku (λi ys H'=>af H3 H'/\ys=((ps.take i).map cy).map V.str) {af.refl _,1} (λi ys H' _ p=>aw.of (p.1 _ _ (p3 _ _ hc1))) ?L1 ?_}
  case L1=>
   ext i ys H' x hx ⟨s',rfl⟩;ext(⟨p,hp,Rx⟩:gA Rc hx);ext(⟨e',z,rfl,he,Rz⟩:ED Rx);let hi:=(Υ.mp hx).1;let pm:=df.pn p (ό hp);show fk (s' _ _ (p3 _ _ he)) {0101,p,z,1,Rz.mono (p3.trans s'),pm,λH5 s5=>{2,s'.trans s5,2}}
   .rw[ε,ε,Φ,ι];omega
   .rw[Ϥ,hp,Κ,Κ];rfl
  ext ys H4 ⟨s4,rfl⟩ l hl;rw[lz,ϧ];let s5:=(p3.trans s4).trans (ac hl (.lst ((ps.map cy).map V.str)));show{Y "",l,ps.map cy,1,aa,3,by rw[ε];omega,dQ (hX _ _ ?_)};generalize upd H4 l (.lst ((ps.map cy).map V.str))=H5 at s5⊢;let lbr:(Y "" ++ Y "(" ++ Τ (Y ", ") (ps.map cy)++Y ")").length<=82002:=by rw[ς,ς,ς,rT,qh,show(Y "").length=0 by decide +kernel];omega
  let fin:=GO (Τ (Y " ") (Y "def" :: f'::ns)) (Τ (Y ", ") (ps.map cy)) (aL b);generalize Y "" ++ Y "(" ++ Τ (Y ", ") (ps.map cy)++Y ")"=br at lbr fin⊢;let hq:=q H5 s5;unfold DT at hq;rw[<-fin]at hq;clear fin;generalize Τ (Y " ") (Y "def" :: f'::ns)=hd at l1 hq⊢;let e1:(u6++hd).length<=60:=by rw[j6];show l1
  let e2:(u6++hd++Y " ").length<=61:=by rw[ς,OJ];omega
  let e3:(u6++hd++Y " " ++ br).length<=83000:=by rw[ς];omega
  let e4:(u6++hd++Y " " ++ br++Y " = ").length<=83003:=by rw[ς,Rh];omega
  let e5:(u6++hd++Y " " ++ br++Y " = " ++ aL b).length<=1100000:=by rw[ς];omega
  show{01,hd,13,hd,1301301,br,1301301301,aL b,130133,hq}
end
abbrev jk:ϸ:=top 71
abbrev oO:ϸ:=top 72
abbrev fZ:ϸ:=top 73
def pE{a y b:Str}{c m:Nat}(n:y.cps.toList[m]?=Z c)(p:c∉a.cps.toList)(r:∀j<m,y.cps.toList[j]?≠Z c):Txt.partition (a++y++b) y=(a,y,b):=by
 let e:(a++y++b).cps.toList=a.cps.toList++(y.cps.toList++b.cps.toList):=by rw[ak,ak,Γ]
 let o:(a++y++b).length=a.length+(y.length+b.length):=by rw[ς,ς];omega
 let g:a.cps.toList.length=a.length:=Θ;let f:y.cps.toList.length=y.length:=Θ;let q:m<y.length:=by rw[<-f];show(Υ.mp n).1
 let l:StrLaws.At (a++y++b) y (a++y++b).length a.length:=by show{32};rw[I0,e,O1 g,J7 f,beq_self_eq_true]
 let s:∀k<a.length,¬ StrLaws.At (a++y++b) y (a++y++b).length k:=by
  ext k v ⟨_,h⟩;rw[I0,e,beq_iff_eq]at h;let d:((List.drop k (a.cps.toList++(y.cps.toList++b.cps.toList))).take y.length)[m]?=Z c:=by rw[h];show n
  rw[List.getElem?_take_of_lt q,O5]at d;by_cases z:k+m<a.length
  .rw[e_ ()]at d;show p (ό d)
  .rw[i6 (),e_ ()]at d;show r _ () d
 rcases Se (a++y++b) y with ⟨_,h⟩|⟨i,h,t,d⟩
 .show absurd l (h _)
 .let u:i=a.length:=by
   rcases Nat.lt_trichotomy i a.length with z|z|z
   .show absurd t (s i z)
   .show z
   .show absurd l (d _ z)
  subst u;rw[h];show Prod.ext ?_ (Prod.ext rfl ?_)
  .show eq ?_;change((a++y++b).cps.extract 0 a.length).toList=_;rw[M1,e,F4,E9,Tr,J7 g]
  .show eq ?_;change((a++y++b).cps.extract (a.length+y.length) (a++y++b).length).toList=_;rw[M1,e,F4,<-Γ,O1 (by rw[Ε,g,f]),v_ (by rw[o];rw[Θ];change b.length<=_;omega)]
def pre(x:Str):Br->Br
 |.leaf w=>.leaf (x++Y ": " ++ w)
 |.nd w ts=>.nd (x++Y ": " ++ w) ts
def gt(p:qg):Br:=pre p.1 (cj p.2)
def zp(x:Str)(b:Br):aL (pre x b)=x++Y ": " ++ aL b:=by
 cases b with
 |leaf w=>rw[pre,aL,aL]
 |nd w ts=>rw[pre,aL,aL];simp only[A8]
def mE(p:qg):aL (gt p)=cy p:=by rw[gt,zp,fX];rfl
def wp(d:bT x=O)(b:∀c∈w.cps.toList,bo c=J):∀c∈(x++Y ": " ++ w).cps.toList,bo c=J:=λc a=>by
 rw[ak,ak]at a;rcases Ν.mp a with a|a
 .rcases Ν.mp a with a|a
  .show iQ d c a
  .let e:(Y ": ").cps.toList=[58,32]:=();rw[e]at a;simp only[ξ,A1,or_false]at a;rcases a with rfl|rfl<;>rfl
 .show b c a
def KZ(hx:bT x=O)(h:bG b):bG (pre x b)/\ba (pre x b)=ba b:=by
 cases b with
 |leaf w=>rw[bG]at h;rw[pre,bG,ba,ba];show{{wp hx h.1,by let:=(aV hx).1;let e:(x++Y ": " ++ w).cps.size=(x++Y ": " ++ w).length:=U;rw[e,ς,ς,LW];omega},1}
 |nd w ts=>rw[bG]at h;rw[pre,bG,ba,ba];show{{wp hx h.1,h.2},1}
def uU(h:mj p):bG (gt p)/\ba (gt p)<=12:=by let a:=KZ h.nm (jz (bn (λ_ _ h=>h.1) h.sm));let b:=iL p.2;let c:=h.sz;show{a.1,by change ba (pre p.1 (cj p.2))<=12;rw[a.2];omega}
inductive EZ (vs:List V) (H:Hp) (Q:VK) (u3_:XK):Prop|mk (v:V) (p:qg) (_:vs=[v]) (_:aj H (bO (gt p)) v) (_:mj p) (_:∀H' u,af H H'->aj H' (iX p) u->Q u H')
def MC(f:Str)(a:List Str)(ps:List qg)(b:Br):Str:=Τ (Y " ") (f::a)++Y " (" ++ (Τ (Y ", ") (ps.map cy)++Y ") = " ++ aL b)
inductive Ae (vs:List V) (H:Hp) (Q:VK) (u3_:XK):Prop|mk (f:Str) (ns:List Str) (ps:List qg) (e:Dv) (b:Br) (_:vs=[.str (MC f ns ps b)]) (_:wU f ns ps) (_:LG e b) (_:∀H' u,af H H'->aj H' (wz f ns ps e) u->Q u H')
def Ch(x:Str):Prop:=∀c∈x.cps.toList,(97<=c/\c<=122)\/(48<=c/\c<=57)\/(40<=c/\c<=44)\/c=32\/c=58
def fY(h:Ch a)(g:Ch b):Ch (a++b):=λc d=>by
 rw[ak]at d;rcases Ν.mp d with z|z
 .show h c z
 .show g c z
def fV(h:Ch s)(g:∀y∈ys,Ch y):Ch (Τ s ys):=λc a=>by
 rcases gr a with z|⟨y,b,z⟩
 .show h c z
 .show g y b c z
def hV(h:bT x=O):Ch x:=λc a=>by let:=(ci h).2.2 c a;omega
def ya(a:0<=n)(b:n<10^60):Ch (bx n):=λc d=>by let:=dJ a b c d;omega
def pf:Ch (Y ", "):=by unfold Ch;decide +kernel
def Ja:Ch (Y " "):=by unfold Ch;decide +kernel
def Mr:Ch (Y "("):=by unfold Ch;decide +kernel
def MD:Ch (Y ")"):=by unfold Ch;decide +kernel
def Km:Ch (Y ": "):=by unfold Ch;decide +kernel
def xg(a:Wa c ps):Ch (dN c ps):=by
 show fV (by unfold Ch;decide +kernel) λy e=>?_;rcases Ν.mp e with b|b
 .ext(⟨p,d,rfl⟩:Ρ.mp b);unfold aX;split
  .show hV (a.2 p d)
  .let:=a.1.can.ge p d;show fY (fY (ya () (a.1.le p d).1) (by unfold Ch;decide +kernel)) (hV (a.2 p d))
 .split at b
  .rw[ο.mp b];show ya a.1.c0 a.1.c1
  .cases b
def mQ(h:Ch w)(g:∀t∈ts,Ch (aL t)):Ch (aL (.nd w ts)):=by rw[aL,dE];show fY (fY (fY h Mr) (fV pf λy b=>by ext(⟨t,a,rfl⟩:Ρ.mp b);show g t a)) MD
def va:∀{k:Kd},k.All Wa->Ch (aL (cj k))
 |.whole,_=>by rw[cj,aL];unfold Ch;decide +kernel
 |.place c ps,h=>by rw[cj];show mQ (by unfold Ch;decide +kernel) λt a=>by rw[ο.mp a,aL];show xg h
 |.row c ps k,h=>by
  rw[cj];show mQ (by unfold Ch;decide +kernel) λt a=>?_;rcases ξ.mp a with rfl|a
  .rw[aL];show xg h.1
  .rw[ο.mp a];show va h.2
 |.pair i j,h=>by
  rw[cj];show mQ (by unfold Ch;decide +kernel) λt a=>?_;rcases ξ.mp a with rfl|a
  .show va h.1
  .rw[ο.mp a];show va h.2
def Ol(e:∀d b,R d b->Ch (aL b)):∀{s:So}{d:Dv}{b:Br},Ag R s d b->Ch (aL b)
 |.e,_,_,h=>e _ _ h
 |.l,_,_,h=>by ext(⟨c,ps,_,rfl,f⟩:h);rw[aL];show xg f.1
 |.k,_,_,h=>by ext(⟨k,_,rfl,a,_⟩:h);show va (bn (λ_ _ h=>h.1) a)
 |.x,_,_,h=>by ext(⟨y,_,rfl,n⟩:h);rw[aL];show hV n
 |.y,_,_,h=>by ext(⟨y,_,rfl,n⟩:h);rw[aL];show hV n
def LC(f:∀d b,R d b->Ch (aL b))(h:mq R ss ds bs):∀b∈bs,Ch (aL b):=by
 induction h with
 |nil=>show nofun
 |cons a _ e=>
  intro b c;rcases ξ.mp c with rfl|c
  .show Ol f a
  .show e b c
def vW:∀{n:Nat}{d:Dv}{b:Br},Wx n d b->Ch (aL b)
 |n+1,d,b,h=>by
  let e:∀d b,Wx n d b->Ch (aL b):=λd b=>vW;rw[Wx]at h;rcases h with ⟨i,m,x,rfl,rfl⟩|⟨y,k,rfl,rfl⟩|⟨f,ds,bs,o,_,_,l,c,rfl,rfl⟩|⟨r,d1,d2,t,v,s,j,g,rfl,rfl⟩|⟨ds,bs,u,l,c,rfl,rfl⟩|⟨p,ds,bs,q,_,c,_,rfl,rfl⟩
  .rw[aL];show ya m ()
  .rw[aL];show hV k
  .show mQ (hV o) λb a=>by ext(⟨d,_,r⟩:c.mem.2 b a);show e d b r
  .show mQ (hV (eV r (cR s)).1) λb a=>?_;rcases ξ.mp a with rfl|a
   .show e _ _ j
   .rw[ο.mp a];show e _ _ g
  .show mQ (by unfold Ch;decide +kernel) λb a=>by ext(⟨d,_,r⟩:c.mem.2 b a);show e d b r
  .show mQ (hV (kX p q)) (LC e c)
def zr(h:mj p):Ch (cy p):=by rw[<-mE,gt,zp];show fY (fY (hV h.nm) Km) (va (bn (λ_ _ h=>h.1) h.sm))
def uQ(b:wU f ns ps):∀y∈f::ns,bT y=O:=λy a=>by
 rcases ξ.mp a with rfl|a
 .show b.nf
 .show b.nn y a
def kd(h:ee d x):10∉x.cps.toList/\1<=x.length:=by
 rcases h with ⟨e,b,rfl,rfl,c⟩|⟨f,j,ps,e,b,rfl,rfl,g,c⟩
 .show{λz=>by let:=fY (by unfold Ch;decide +kernel:Ch (Y "ask ")) (vW c.1) 10 z;omega,by rw[ς,BG];omega}
 .unfold DT;show{λz=>?_,by rw[ς,ς,LZ];omega};rw[ak,ak]at z;rcases Ν.mp z with z|z
  .rcases Ν.mp z with z|z
   .let:=fY (fY (fV Ja λy a=>?_) (by unfold Ch;decide +kernel:Ch (Y " ("))) (fV pf λy a=>by ext(⟨p,i,rfl⟩:Ρ.mp a);show zr (g.pn p i)) 10 z
    .omega
    .rcases ξ.mp a with rfl|a
     .unfold Ch;decide +kernel
     .show hV (uQ g y a)
   .show absurd z ()
  .let:=vW c.1 10 z;omega
def Jp(f:Str)(a:List Str)(ps:List qg)(b:Br):DT f a ps b=Y "def " ++ MC f a ps b:=by unfold DT MC;rw[aO,show Y "def "=Y "def" ++ Y " " by decide +kernel];simp only[A8]
def oj(a b:Str):Txt.startswith (a++b) a=O:=by
 unfold Txt.startswith
 rw[Z9 (by rw[ς];omega),I0,ak,E9,J7 (show a.cps.toList.length=a.length from Θ),beq_self_eq_true];rfl
def BO(c:y.length=a.length)(h:a≠y):Txt.startswith (a++b) y=J:=by
 unfold Txt.startswith
 rw[I0,ak,E9,J7 (by rw[c];show Θ),Bool.and_eq_false_iff];show .inr (beq_eq_false_iff_ne.mpr λe=>h (eq e))
def kI(h:(a.length:Int)=n):Txt.slice (a++b) (Z n) Β=b:=by let c:(a++b).length=a.length+b.length:=ς _ _;rw[M0 () () U];show eq ?_;rw[ak,O1 (by rw[Θ];change a.length=_;omega),v_ (by rw[Θ];change b.length<=_;omega)]
def KS(x:Str)(b:Br):∃(w:Str) (d:Dv),bO b=.tup [.str w,d]/\bO (pre x b)=.tup [.str (x++Y ": " ++ w),d]/\w.length<=(aL b).length:=by
 cases b with
 |leaf w=>show{w,.non,by rw[bO];rfl,by rw[pre,bO];rfl,by rw[aL];show Α _}
 |nd w ts=>show{w,0,by rw[bO],by rw[pre,bO],by rw[aL,ς,ς,ς];omega}
def Qg:∀j<1,(Y " (").cps.toList[j]?≠Z 40:=()
def Qv:∀j<2,(Y ") = ").cps.toList[j]?≠Z 61:=()
def iS:∀a:List Str,Reps H (a.map Dv.str) (a.map V.str)
 |[]=>by simp only[u9,Reps]
 |n::a=>by simp only[ϊ,Reps];show{0013,iS a}
section
variable{P:Ι}{w:ώ}{K:η}{mg:Str->Option ν}{base:ϙ}
def uq{f:υ}{l:ϣ}{k:Nat}(F:Fun K "param_in" "param_in" jk f l)(T:Txt K mg)(D:bf P w K mg base k "kind_in" ["branch"] (iK 21)):au P w K mg base bg (k+1) f l ["branch"] EZ:=by
 show F.okA (N:=["branch","halves"]) λu0 A u2 s H vs Q E hr nd h=>?_;ext(⟨v,p,rfl,R,b,q⟩:h);show{0,aS (aY 1 (eX Μ s_ t_ da (bC 0) (am az))) (bZ (dh (ar (bC 1) (am (aQ D (am (dh (ar (bC 1) (am (bC 0)))))))))),2};ext(⟨d,d1,I,S,G⟩:KS p.1 (cj p.2));let lk:=cr (vM b.sm);let sz:=b.sz;rw[fX]at G;let ln:p.1.length<=8:=(aV b.nm).2;rw[gt,S]at R;ext(⟨a,vs,rfl,x,u3⟩:aj.tup_inv R);ext(⟨v0,o,rfl,W,u4⟩:Reps.two u3);subst W;show aJ λX L=>{01,a,0,(0),011,aw.of x,ad U,10,Y ": ",113,by rw[ς,ς,LW,ι];omega,λg C=>?_};rw[pE (m:=0) (c:=58) () (λz=>by let:=(ci b.nm).2.2 58 z;omega) ()];let e:=ac C (.tup [.str p.1,.str (Y ": "),.str d]);let i:upd H g (.tup [.str p.1,.str (Y ": "),.str d]) g=Z (.tup [.str p.1,.str (Y ": "),.str d]):=aa;generalize upd H g (.tup [.str p.1,.str (Y ": "),.str d])=H1 at e i⊢;show dQ (L _ _ {01,g,0,(0),.str p.1,11,aw.of i,ad U,01,g,0,(2),.str d,11,aw.of i,ad U,01,a,0,(1),o,11,aw.of (e _ _ x),ad U,z2,λt B=>?_});let n:=ac B (.tup [.str d,o]);let j:=bn (λ_ _ h=>h.1) b.sm;show{.ref t,cj p.2,12,AU j,by let:=iL p.2;let:=b.sz;omega,λu1 u V y=>{z2,λm M=>?_}}
 .rw[I,aj];show{t,01,aa,by simp only[Reps];show{0013001,u4.mono (e.trans n),1}}
 rw[gp j (by let:=b.sz;omega)]at y;let r:=ac M (.tup [.str p.1,u]);show q _ _ (e.trans (n.trans (V.trans r))) ?_;rw[iX,aj];show{m,01,aa,by simp only[Reps];show{0013001,y.mono r,1}}
def Bv{f:υ}{fd:ϣ}{k:Nat}(F:Fun K "def_of" "def_of" oO f fd)(T:Txt K mg)(c8:bf P w K mg base k "branch_of" ["text"] xh)(c9:bf P w K mg base k "param_in" ["branch"] EZ)(c7:bf P w K mg base k "expression_of" ["text"] (AS WE)):au P w K mg base bg (k+1) f fd ["text"] Ae:=by
 show F.okA (N:=["text","halves","words","sides","params"]) λe9 A e8 s H vs Q E hr nd h=>?_;ext(⟨c,a,ps,e,b,rfl,g,we,q⟩:h);show{0,aS (aY 1 (eX Μ s_ t_ da (wv 0) (am az))) (aS (aY 2 (eX Μ w_ x9 fz (bC 1) (am az))) (aS (aY 3 (eX Μ s_ t_ da (bC 1) (am az))) (aS (aY 4 (eT nY (aQ c8 (am (aP ae (aP ae az (bC 3)) az))) aE)) (bZ (dh (ar az (ar (eT aG (wv 2) aE) (ar (ka aF T.tuple (am (lJ dI (wv 2) (kh aE) mr))) (ar (ka aF T.tuple (am (pY ["each"] [] (AR (wv 4)) (.of U) U (λ_ _ _=>{pg_name (i:=0) (bK (l:=["each"]) (()) U) U (z_ U)}) (bz ()) (λ_ _ _=>oW) (λ_ _ _=>(aQ c9 (aW 0)))))) (am (aQ c7 (am (bC 3))))))))))))),2};let l1:=rR g;let l2:=rQ g;let l3:=jh we;let n4:=g.l4;let p4:=g.p4;let lh:(Τ (Y " ") (c::a)).length<=60:=by rw[aO,ς,ς]at l1;omega
 let a5:=uQ g;show aJ λX j=>{0110,Y " (",113,by unfold MC;rw[ς,ς,ς,ς,LX,LZ,ι];omega,λD d4=>?_};unfold MC;rw[pE () (λz=>by
  rcases gr z with z|⟨y,u1,z⟩
  .show absurd z ()
  .let:=(ci (a5 y u1)).2.2 40 z;omega) Qg]
 let s1:=ac d4 (.tup [.str (Τ (Y " ") (c::a)),.str (Y " ("),.str (Τ (Y ", ") (ps.map cy)++Y ") = " ++ aL b)]);let W:upd H D (.tup [.str (Τ (Y " ") (c::a)),.str (Y " ("),.str (Τ (Y ", ") (ps.map cy)++Y ") = " ++ aL b)]) D=Z _:=aa;generalize upd H D (.tup [.str (Τ (Y " ") (c::a)),.str (Y " ("),.str (Τ (Y ", ") (ps.map cy)++Y ") = " ++ aL b)])=H1 at s1 W⊢;let a7:Txt.split (Τ (Y " ") (c::a)) (Y " ")=c::a:=fw 32 () λp d z=>by let:=(ci (a5 p d)).2.2 32 z;omega
 show gs j λX j=>{01,D,0,(0),011,aw.of W,ad U,10,Y " ",1133,by rw[a7,Δ,ι];omega,λI d1=>?_};rw[a7];let u3:=ac d1 (.lst ((c::a).map V.str));let u4:upd H1 I (.lst ((c::a).map V.str)) I=Z (.lst ((c::a).map V.str)):=aa;generalize upd H1 I (.lst ((c::a).map V.str))=H2 at u3 u4⊢;show gs j λX j=>{01,D,0,(2),011,aw.of (u3 _ _ W),ad U,10,Y ") = ",113,by rw[ς,ς,LZ,ι];omega,λo d6=>?_};rw[pE () (λz=>by let:=fV pf (λy u1=>by ext(⟨p,d,rfl⟩:Ρ.mp u1);show zr (g.pn p d)) 61 z;omega) Qv];let L:=ac d6 (.tup [.str (Τ (Y ", ") (ps.map cy)),.str (Y ") = "),.str (aL b)]);let h3:upd H2 o (.tup [.str (Τ (Y ", ") (ps.map cy)),.str (Y ") = "),.str (aL b)]) o=Z _:=aa;generalize upd H2 o (.tup [.str (Τ (Y ", ") (ps.map cy)),.str (Y ") = "),.str (aL b)])=H3 at L h3⊢;let a6:=L _ _ u4;let d7:=s1.trans (u3.trans L);clear s1 u3 L W u4;let a8:Y "(" ++ Τ (Y ", ") (ps.map cy)++Y ")"=aL (.nd (Y "") (ps.map gt)):=by rw[aL,dE,Ϙ,show(aL∘gt)=cy from funext mE,show Y ""=u6 from U,j6]
 let d9:bl (.nd (Y "") (ps.map gt))<=1000000:=by unfold bl;rw[<-a8,ς,ς,rT,qh];omega
 show gs j λX j=>{01,o,0,(0),011,aw.of h3,ad U,0011,by rw[rT,ι];omega,0011,by rw[ς,rT,qh,ι];omega,2};rw[a8];show{.nd (Y "") (ps.map gt),122,d9,λH4 v B R4=>?_}
 .rw[bG];show{3,by rw[ε];omega,mZ λu u2=>by ext(⟨p,d,rfl⟩:Ρ.mp u2);show(uU (g.pn p d)).1}
 .rw[ba];let:=sq λu u2=>by ext(⟨p,d,rfl⟩:Ρ.mp u2);show(uU (g.pn p d)).2
  omega
 rw[bO,dB,Ϙ]at R4;ext(⟨t,l,us,rfl,ht,hl,Rl⟩:xv R4);let lu:us.length=ps.length:=by let:=Rl.length;rwa[ε]at this
 show{t,0,(1),.ref l,11,aw.of ht,ad U,dQ (j _ _ ?_)};show{01,I,0,(0),.str c,11,aD.of (B _ _ a6),ad U,01,(1),1,I,01,aD.of (B _ _ a6),λg4 d8=>?_};rw[show cO ((c::a).map V.str) (Z 1) Β=a.map V.str from cZ _ 1];let s5:=ac d8 (.lst (a.map V.str));show{g4,01,.inl {aD.of aa,λR d2=>?_}};let s6:=ac d2 (.tup (a.map V.str));let h6:upd (upd H4 g4 (.lst (a.map V.str))) R (.tup (a.map V.str)) R=Z (.tup (a.map V.str)):=aa;let n:=s5.trans s6;generalize upd (upd H4 g4 (.lst (a.map V.str))) R (.tup (a.map V.str))=H6 at n h6⊢;clear s5 s6;show{01,l,1,{us,aD.of (n _ _ hl)},fK (λi ys H'=>af H6 H'/\Reps H' ((ps.take i).map iX) ys) {af.refl _,by simp[Reps]} (λi ys H' _ p=>aD.of (p.1 _ _ (n _ _ hl))) ?L1 ?_}
 case L1=>
  ext i ys H' x hx ⟨s',R'⟩;ext(⟨p,d,Rx⟩:gA Rl hx);let hi:=(Υ.mp hx).1;show bt {01,x,p,1,Rx.mono (n.trans s'),g.pn p (ό d),λH7 u G S=>{2,s'.trans G,2}}
  .let:=R'.length;rw[ε,Φ]at this;rw[this,ι];omega
  .rw[Ϥ,d,Κ];show Reps.append (R'.mono G) (be S)
 ext ys H7 ⟨G,S⟩ u0 d3;rw[lu,ϧ]at S;let s8:=ac d3 (.lst ys);show{u0,ys,1,.inl {aD.of aa,λr d5=>?_}};let s9:=ac d5 (.tup ys);let h9:upd (upd H7 u0 (.lst ys)) r (.tup ys) r=Z (.tup ys):=aa;let M:=G.trans (s8.trans s9);let R9:=S.mono (s8.trans s9);generalize upd (upd H7 u0 (.lst ys)) r (.tup ys)=H9 at M h9 R9⊢;let d0:=d7.trans (B.trans (n.trans M));show{01,o,0,(2),011,aw.of (M _ _ (n _ _ (B _ _ h3))),ad U,0,e,1,{b,1,we.1,we.2},λHA u sA RA=>{by rw[ι];change 5<=16777216;decide,λm hm=>?_}};let sB:=ac hm (.tup [.str (Y "def"),.str c,.ref R,.ref r,u]);let C:=sA.trans sB;show q _ _ (d0.trans C) ?_;rw[wz,aj];show{m,01,aa,2};simp only[Reps];show{0013001300120012001,RA.mono sB,1}
 .rw[aj];show{R,01,C _ _ (M _ _ h6),iS a}
 .rw[aj];show{r,ys,1,C _ _ h9,R9.mono C}
def nI(F:Fun K "row_of_text" "row_of_text" fZ f fd)(T:Txt K mg)(t:bf P w K mg base k "expression_of" ["text"] (AS WE))(v:bf P w K mg base k "def_of" ["text"] Ae):au P w K mg base bg (k+1) f fd ["text"] (AS ee):=by
 show F.okA (N:=["text"]) λV A C s H vs Q E B G h=>?_;ext(⟨x,d,rfl,y,q⟩:h);show{0,cP (jZ (eX Μ A3 A5 iI (wv 0) (am az))) (dh (ar az (am (aQ t (am (lJ gy (wv 0) (kh aE) mr)))))) (cP (jZ (eX Μ A3 A5 iI (wv 0) (am az))) (aQ v (am (lJ gy (wv 0) (kh aE) mr))) (bZ vj)),2};rcases y with ⟨e,b,rfl,rfl,a⟩|⟨n,o,ps,e,b,rfl,rfl,j,a⟩
 .let M:=jh a;show aJ λX g=>bW λr p c i=>{0110,Y "ask ",11012};rw[oj];show aH (c _ {01,(4),101,by rw[ς,BG,ι];omega,2});rw[kI (by rw[BG];rfl)];show{0,e,1,{b,1,a.1,a.2},λL u I z=>{z2,λm D=>?_}};let l:=ac D (.tup [.str (Y "ask"),u]);show q _ _ (I.trans l) ?_;rw[aj];show{m,01,aa,by simp only[Reps];show{0013001,z.mono l,1}}
 .let R:=ee.len (.inr {n,o,ps,e,b,11,j,a});rw[Jp]at R⊢;show aJ λX g=>bW λr p c i=>{0110,Y "ask ",11012};rw[BO () ()];show aK (i _ (fc (g _ _ (aJ λX g=>bW λr p c i=>{0110,Y "def ",11012}))));rw[oj];show aH (c _ {01,(4),10132});rw[kI ()];show{n,o,ps,e,b,1,j,a,q}
end
abbrev jp:ϸ:=top 76
abbrev xR:ϸ:=top 77
def vL(h:ee d x):ji d=O/\d.small=O:=by
 rcases h with ⟨e,b,rfl,rfl,i⟩|⟨f,j,ps,e,b,rfl,rfl,c,i⟩
 .show{by rw[sQ];show Z9 i.2,cv () (λd a=>by rw[ο.mp a];show(dg i.1).2) (by change 1<=10;decide)}
 .let q:=c.p4;let r:=c.l4;let l:=λp g=>bn (λ_ _ h=>h.2) (c.pn p g).sm;constructor
  .change ji (.tup [.str "def",.str f,.tup (j.map Dv.str),.tup (ps.map iX),e])=O;let n:md (.str f)=O:=by change(bT f&&(!cw f && !cS f))=O;rw[c.nf,c.wf,c.rf];rfl
   let o:kH (.tup (j.map Dv.str))=O:=by
    change(fA 0 (.tup (j.map Dv.str))&&(j.map Dv.str).all bR)=O;rw[sk () (by rw[ε];omega),ϵ,J3,Ϸ]
    exactλy k=>c.nn y k
   let m:iW (.tup (ps.map iX))=O:=by change(fA 0 (.tup (ps.map iX))&&(ps.map iX).all fC)=O;rw[sk () (by rw[ε];omega),ϵ,J3,Ϸ];intro p g;change(bT p.1&&decide (bJ p.2.dv<=12))=O;rw[(c.pn p g).nm,iG (l p g),Z9 (c.pn p g).sz];rfl
   rw[tO,n,o,m];show Z9 i.2
  .show cv () (λd a=>?_) (by change 4<=10;decide);rcases ξ.mp a with rfl|a
   .show gi c.nf
   rcases ξ.mp a with rfl|a
   .show bb (λd a=>by ext(⟨y,k,rfl⟩:Ρ.mp a);show gi (c.nn y k)) (by rw[ε];omega)
   rcases ξ.mp a with rfl|a
   .show bb (λd a=>?_) (by rw[ε];omega);ext(⟨p,g,rfl⟩:Ρ.mp a);show cv (c.pn p g).nm (λd a=>by rw[ο.mp a];show hF (l p g)) (by change 1<=10;decide)
   .rw[ο.mp a];show(dg i.1).2
def Hf(d:Nat->List V->Hp->Prop)(o:d 0 [] H1)(e:∀i b H,d i b H->aD K H a xs)
  (q:∀i b H x p,xs[i]?=Z x->d i b H->H p=Β->gf k ix g tt te σ (.ref p) b (upd H p (.tup [.int i,x])) (d (i+1))) (r:∀b H,d xs.length b H->Q b H):FG (OI K a) k ix g tt te σ H1 Q:=by
 show rg d o (λi b H h p=>?_) (λb H p=>?_) (λi b H x H' h p y=>?_) r
 .show{xs,xs[i],e i b H p,by simp[h]}
 .show{xs,e _ b H p,Α _}
 .ext(⟨c,m,f,n,j,l⟩:y);subst n j;show q i b H m c (l xs (e i b H p)) p f
section
variable{P:Ι}{w:ώ}{K:η}{mg:Str->Option ν}{base:ϙ}
def wh:cK ["text","number"] ["text","number"] (av jp):=()
def yy:cK ["text","rows"] ["text"] (av xR):=()
end
abbrev IX:ϸ:=top 92
inductive CL (K:η) (vs:List V) (H:Hp) (Q:VK) (u3_:XK):Prop|mk (wk g r1 r2 sc:υ) (ns:List Int) (i m:Int) (xs ys:List Str) (_:vs=[.ref wk,.ref g]) (_:Wk K H wk sc ns i m) (_:i+41<10^14) (_:ns.length<10^15) (_:Wo H g r1 r2 xs ys) (_:∀(H':Hp)(v:V)(d:Dv)(x:Str)(i':Int),ap wk H H'->Wk K H' wk sc ns i' m->i<=i'->i'<=i+41->aj H' (.tup [d,.str x]) v->ee d x->Q v H')
def wL{xs:List Str}{i:Int}(d:0<=i)(c:i<xs.length):∃y,y∈xs/\kq (xs.map V.str) i=Z (.str y):=by let b:i.toNat<xs.length:=();show{xs[i.toNat],l_ b,2};let e:=ad (xs:=xs.map V.str) (by rw[ϑ,Ζ b];rfl);rwa[show((i.toNat:Nat):Int)=i by omega]at e
def xz(h:p.2.size<=12):L2.Pl 17 (iX p):=(L2.Pl.tup λd b=>by
 rcases ξ.mp b with rfl|b
 .show .str
 .rw[ο.mp b];show p.2.pl.up ())
structure Kq(LP LT LN:υ)(e:Dv)(vo:V)(ns:List Str)(ps:List qg)(us:List V)(H:Hp):Prop where
 re:aj H e vo
 hn:H LN=Z (.lst (ns.map V.str))
 hp:H LP=Z (.lst us)
 rp:Reps H (ps.map iX) us
 ht:H LT=Z (.lst ((ps.map cy).map V.str))
 ok:∀p∈ps,mj p
 pe:L2.Pl 31 e
section
variable{LP LT LN a:υ}{e:Dv}{vo:V}{ns:List Str}{ps:List qg}{us:List V}{H H':Hp}
def Kq.m(k:Kq LP LT LN e vo ns ps us H)(s:af H H'):Kq LP LT LN e vo ns ps us H':={k.re.mono s,s _ _ k.hn,s _ _ k.hp,k.rp.mono s,s _ _ k.ht,k.ok,k.pe}
def Kq.rb(k:Kq LP LT LN e vo ns ps us H)(t:pR H H'):aj H' e vo/\Reps H' (ps.map iX) us:={bq t k.pe k.re,ce (λd c v r=>by ext(⟨p,b,rfl⟩:Ρ.mp c);show bq t (xz (k.ok p b).sz) r) k.rp}
def Kq.b(k:Kq LP LT LN e vo ns ps us H)(s:ap a H H')(t:pR H H')(b:LP≠a)(c:LT≠a)(d:LN≠a):Kq LP LT LN e vo ns ps us H':={(k.rb t).1,s _ _ d k.hn,s _ _ b k.hp,(k.rb t).2,s _ _ c k.ht,k.ok,k.pe}
end
section
variable{P:Ι}{w:ώ}{K:η}{mg:Str->Option ν}{base:ϙ}
def KE{f:υ}{fd:ϣ}{k:Nat}(F:Fun K "_law_row" "_law_row" IX f fd)(T:Txt K mg)(D_law_next:bf P w K mg base k "_law_next" ["_law_walk"] (DB K))(D_law_draw:bf P w K mg base k "_law_draw" ["_law_state_here","_law_many"] dW)(D_law_kind:bf P w K mg base k "_law_kind" ["_law_state_here","_law_names_here","_law_room"] (oh 12))(D_law_kind_text:bf P w K mg base k "_law_kind_text" ["_law_kind_here"] (iY 12))(D_law_expression:bf P w K mg base k "_law_expression" ["_law_walk","_law_world_here","_law_room","_law_budget"] (Hx K 8)):au P w K mg base bg (k+1) f fd ["_law_walk","_law_world_here"] (CL K):=by
 show F.okA (N:=["_law_walk","_law_world_here","_law_node","_law_way","_law_one","_law_text","_law_nodes","_law_f","_law_names_here","_law_params","_law_words","_law_k","_law_name","_law_kind_here","_law_head"]) λcdv A outer s H vs Q E hr nd h=>?_;ext(⟨wk,g,r1,r2,sc,ns,i,m,xs,ys,rfl,⟨hk0,hsc,i0,i15⟩,i14,ln,wo,q⟩:h);show{0,aS (aY 2 (aQ D_law_next (aW 0))) (aS (aY 3 (aQ D_law_draw (ar (wv 2) (am aE)))) (aS (Cd (aQ D_law_expression (ar (wv 0) (ar (wv 1) (ar aE (am (eT aG (dw (ar aE (ar aE (am aE)))) (aQ D_law_draw (ar (wv 2) (am aE))))))))) (FK (pH (js 4) (pH (js 5) (pH (js 6) FO))))) (cP (bA aA (wv 3) aE) (dh (ar (dh (ar az (aW 4))) (am (aP ae az (wv 5))))) (aS (aY 7 (eT aG (bC 1) (aQ D_law_draw (ar (wv 2) (am (cV aq T.len (am (bC 1)))))))) (aS (QV ["_law_k"] ([1,2]) 8 nd U U (Me T.range (am (aQ D_law_draw (ar (wv 2) (am aE))))) (.of U) U (λ_ _ _=>{pg_name (i:=0) (bK (l:=["_law_k","_law_world_here","_law_node"]) (()) U) U (z_ U)}) (bz ()) (λ_ _ _=>oW) (λ_ _ _=>(eT (vS K U) (eT (GA K U) (wv 1) aE) (aQ D_law_draw (ar (wv 2) (am aE)))))) (aS (aY 9 (dw uk)) (aS (aY 10 (dw uk)) (aS (Dr c_ U (Me T.range (am (aQ D_law_draw (ar (wv 2) (am aE))))) (js 11) (aS (aY 12 (eT aG (bC 1) (aQ D_law_draw (ar (wv 2) (am aE))))) (aS (aY 13 (aQ D_law_kind (ar (wv 2) (ar (lJ dI (bC 1) mr (kh aE)) (am aE))))) (aS (pM (eX ϖ Ϟ ϟ bu (wv 9) (am (dh (ar (wv 12) (aW 13)))))) (fD (pM (eX ϖ Ϟ ϟ bu (wv 10) (am (aP ae (aP ae (wv 12) az) (aQ D_law_kind_text (aW 13))))))))))) (aS (aY 14 (aP ae (aP ae (aP ae (eX Μ a_ b_ dH az (am (aP bF (dw (ar az (aW 7))) (wv 8)))) az) (eX Μ a_ b_ dH az (aW 10))) az)) (bZ (dh (ar (dh (ar az (ar (wv 7) (ar (ka aF T.tuple (aW 8)) (ar (ka aF T.tuple (aW 9)) (aW 4)))))) (am (aP ae (wv 14) (wv 5))))))))))))))),2};show aJ λX hX=>{01,wk,sc,ns,i,m,1,{hk0,hsc,i0,i15},ln,λH1 nd s1 hk1 fnd st1=>gs hX λX hX=>?_};let nw:nd≠wk:=λz=>by rw[z,hk0]at fnd;cases fnd
 let c1:jA H H1 wk sc nd (i+1) m:={s1,hk1,st1};let woC:∀{H':Hp}{j:Int},jA H H' wk sc nd j m->Wo H' g r1 r2 xs ys:=λc=>wo.b (wo.nw hk0) c.sb;let wkC:∀{H':Hp}{j:Int},jA H H' wk sc nd j m->0<=j->j<10^15->Wk K H' wk sc ns j m:=λc h0 h1=>{c.hk,λ_ s=>hsc _ (c.sb.trans s),h0,h1};show{01,nd,(3),1,c1.st,33,λH2 way s2 st2 _ _=>gs hX λX hX=>?_};let c2:=c1.d s2 st2 nw fnd;show{0101,z3,λl0 hl0=>{01,nd,(3),1,(c2.m (ac hl0 _)).st,33,λH3 x s3 st3 x0 x1=>?_}};let c3:=(c2.m (ac hl0 _)).d s3 st3 nw fnd;let nl0:l0≠nd:=λz=>by ext(⟨_,_,e'⟩:c2.st);rw[z,e']at hl0;cases hl0
 obtain⟨bud,hb,b1,b2⟩:∃bud:Nat,kq [V.int 40,V.int 40,V.int 9] x=Z (.int bud)/\1<=bud/\bud<=40:=by
  let:x=0\/x=1\/x=2:=();rcases this with rfl|rfl|rfl
  .show{(40),133}
  .show{(40),133}
  .show{(9),133}
 show{l0,0,x,.int bud,11,aD.of (s3 _ _ nl0 aa),hb,wk,g,r1,r2,sc,ns,i+1,m,xs,ys,(8),bud,1,wkC c3 () (),3,ln,woC c3,333,b1,b2,λH4 v d b c s4 w4 R4 wx ex cl cu=>?_};ext(⟨t,vt,rfl,ht,Rt⟩:aj.tup_inv R4);ext(⟨w1,_,rfl,e1,w2,_,rfl,e2,w3,_,rfl,e3,rfl⟩:Rt);subst e2;subst e3;let c4:jA H H4 wk sc nd (i+1+c) m:=c3.e s4 w4.1 nw;let we:LG d b:={wx,3};let lE:=jh we;show{t,01,aw.of ht,10010010011,hX _ _ (aJ λX hX=>?_)};let fin:∀{H':Hp}{v:V}{d':Dv}{x:Str},jA H H' wk sc nd (i+1+c) m->aj H' (.tup [d',.str x]) v->ee d' x->Q v H':=λcc R w=>q _ _ _ _ (i+1+c) cc.sb (wkC cc () ()) () () R w;show bW λo a hY hZ=>{01101,ao (λ_=>hY _ ?_) (λ_=>hZ _ (fc (hX _ _ (aJ λX hX=>?_))))}
 .show{01,z2,λt1 ht1=>{010011,by rw[BG,ι];omega,z2,λt2 ht2=>?_}};let s5:=ac ht1 (.tup [.str (Y "ask"),w1]);let h5:upd H4 t1 (.tup [.str (Y "ask"),w1]) t1=Z (.tup [.str (Y "ask"),w1]):=aa;generalize upd H4 t1 (.tup [.str (Y "ask"),w1])=H5 at s5 h5 ht2⊢;let s6:=ac ht2 (.tup [.ref t1,.str (Y "ask " ++ aL b)]);show fin (c4.m (s5.trans s6)) ?_ (.inl {d,b,11,we});rw[aj];show{t2,01,aa,2};show{001200131};rw[aj];show{t1,01,s6 _ _ h5,by simp only[Reps];show{0013001,e1.mono (s5.trans s6),1}}
 let wo4:=woC c4;let n4:=wo4.ne c4.st;let ly:=wo.l2;show{01,g,0,(1),.ref r2,11,aw.of wo4.hg,ad (j:=1) U,0101,g,0,(1),.ref r2,11,aw.of wo4.hg,ad (j:=1) U,r2,01,.inl (aD.of wo4.h2),nd,01,c4.st,by rw[ε];omega,by rw[ε];omega,λH5 x5 s5 st5 x50 x51=>?_};rw[ε]at x51;ext(⟨y,hy,hat⟩:wL x50 x51);ext(⟨y1,y2,y3⟩:wo.n2 y hy);show{r2,0,x5,.str y,11,aD.of (s5 _ _ n4.2.2 wo4.h2),hat,gs hX λX hX=>?_};let c5:=c4.d s5 st5 nw fnd;let pe:=pc wx;let R5:=bq (c4.st.tups s5) pe e1;clear c4 e1 s5 st5 wo4 n4 hat hY hZ;show{01,nd,(5),1,c5.st,33,λH6 n6 s6 st6 n60 n61=>{n6,133,vd (n:=n6.toNat) (λj zs H'=>jA H H' wk sc nd (i+1+c) m/\aj H' d w1/\∃nms:List Str,zs=nms.map V.str/\nms.length=j/\∀z∈nms,bT z=O) {c5.d s6 st6 nw fnd,bq (c5.st.tups s6) pe R5,[],11,nofun} ?_ ?_}}
 .ext j zs H' hj ⟨c',R',nms,rfl,lj,hn⟩;let wo':=woC c';let n':=wo'.ne c'.st;show bt {01,g,0,(0),.ref r1,11,aw.of wo'.hg,ad (j:=0) U,01,nd,(12),1,c'.st,33,λH8 x8 s8 st8 x80 x81=>?_};obtain⟨z,hz,hat⟩:=wL (xs:=xs) x80 (by rw[wo.l1];show x81);show{r1,0,x8,.str z,11,aD.of (s8 _ _ n'.2.1 wo'.h1),hat,by rw[ε,ι];omega,c'.d s8 st8 nw fnd,bq (c'.st.tups s8) pe R',nms++[z],by rw[Κ];rfl,by rw[Ε,lj];rfl,λz' hz'=>?_};rcases Ν.mp hz' with h|h
  .show hn z' h
  .rw[ο.mp h];show wo.n1 z hz
 ext zs H7 ⟨c7,R7,nms,rfl,lj,hn⟩ LN hLN;let nN:LN≠wk:=λz=>by rw[z,c7.hk]at hLN;cases hLN
 let nNd:LN≠nd:=λz=>by ext(⟨_,_,e'⟩:c7.st);rw[z,e']at hLN;cases hLN
 let fN:H LN=Β:=Bn c7.sb hLN nN;let c8:=c7.m (ac hLN (.lst (nms.map V.str)));let h8:upd H7 LN (.lst (nms.map V.str)) LN=Z (.lst (nms.map V.str)):=aa;let R8:=R7.mono (ac hLN (.lst (nms.map V.str)));generalize upd H7 LN (.lst (nms.map V.str))=H8 at c8 h8 R8⊢;show gs hX λX hX=>{ϋ _,λLP hLP=>gs hX λX hX=>{ϋ _,λLT hLT=>gs hX λX hX=>?_}};let nP:LP≠wk:=λz=>by rw[z,c8.hk]at hLP;cases hLP
 let nPd:LP≠nd:=λz=>by ext(⟨_,_,e'⟩:c8.st);rw[z,e']at hLP;cases hLP
 let nPN:LP≠LN:=λz=>by rw[z,h8]at hLP;cases hLP
 let fP:H LP=Β:=Bn c8.sb hLP nP;let s9:=ac hLP (.lst []);let c9:=c8.m s9;let h9:=s9 _ _ h8;let p9:upd H8 LP (.lst []) LP=Z (.lst []):=aa;let R9:=R8.mono s9;generalize upd H8 LP (.lst [])=H9 at c9 h9 p9 R9 hLT⊢;let nT:LT≠wk:=λz=>by rw[z,c9.hk]at hLT;cases hLT
 let nTd:LT≠nd:=λz=>by ext(⟨_,_,e'⟩:c9.st);rw[z,e']at hLT;cases hLT
 let nTN:LT≠LN:=λz=>by rw[z,h9]at hLT;cases hLT
 let nTP:LT≠LP:=λz=>by rw[z,p9]at hLT;cases hLT
 let fT:H LT=Β:=Bn c9.sb hLT nT;let sA:=ac hLT (.lst []);let cA:=c9.m sA;let kA:Kq LP LT LN d w1 nms [] [] (upd H9 LT (.lst [])):={R9.mono sA,sA _ _ h9,sA _ _ p9,by simp[Reps],aa,nofun,pe};generalize upd H9 LT (.lst [])=HA at cA kA⊢;clear c5 c7 c8 c9 R5 R7 R8 R9 h8 h9 p9 hLN hLP hLT s6 st6 s9 sA;show{01,nd,(5),1,cA.st,33,λHB nB sB stB nB0 nB1=>{nB,133,il (n:=nB.toNat) (λj σ H'=>∃(o11 o12 o13:Option V) (us:List V) (ps:List qg),σ=[Z (.ref wk),Z (.ref g),Z (.ref nd),Z (.int way),Z w1,Z (.str (aL b)),Z (.int c),Z (.str y),Z (.ref LN),Z (.ref LP),Z (.ref LT),o11,o12,o13,Β]/\jA H H' wk sc nd (i+1+c) m/\Kq LP LT LN d w1 nms ps us H'/\ps.length=j)
  {000,[],[],1,cA.d sB stB nw fnd,kA.b sB (cA.st.tups sB) nPd nTd nNd,1} ?T1 ?_}}
 case T1=>
  intro j σ HC D go hj h;show gs (λ_ _ z=>z) λX hX=>?_;ext(⟨o11,o12,o13,us,ps,rfl,cC,kC,lp⟩:h);let woC':=woC cC;let nC:=woC'.ne cC.st;show{01,g,0,(0),.ref r1,11,aw.of woC'.hg,ad (j:=0) U,01,nd,(12),1,cC.st,33,λHD x8 sD stD x80 x81=>?_};obtain⟨z,hz,hat⟩:=wL (xs:=xs) x80 (by rw[wo.l1];show x81);show{r1,0,x8,.str z,11,aD.of (sD _ _ nC.2.1 woC'.h1),hat,gs hX λX hX=>?_};let cD:=cC.d sD stD nw fnd;let kD:=kC.b sD (cC.st.tups sD) nPd nTd nNd;let woD:=woC cD;show{0101,g,0,(0),.ref r1,11,aw.of woD.hg,ad (j:=0) U,2};dsimp only[dj];show{(4),1,r1,01,aD.of woD.h1,λl hl=>?_};rw[En];let lnd:l≠nd:=λz=>by ext(⟨_,_,e'⟩:cD.st);rw[z,e']at hl;cases hl
  let sE:=ac hl (.lst ((xs.take 4).map V.str));let cE':=cD.m sE;let hE:upd HD l (.lst ((xs.take 4).map V.str)) l=Z (.lst ((xs.take 4).map V.str)):=aa;let kE:=kD.m sE;generalize upd HD l (.lst ((xs.take 4).map V.str))=HE at cE' hE kE⊢;show{nd,l,(12),xs.take 4,1333,cE'.st,hE,lnd,by rw[Φ];omega,λHF vk k sF stF Rk kAll kz=>gs hX λX hX=>?_};let sm:k.All Sm:=bn (λ_ _ h=>DC h λx hx=>wo.n1 x (m9 hx)) kAll;let pm:mj (z,k):={wo.n1 z hz,sm,by change k.size<=12;omega};let cF:=cE'.d sF stF nw fnd;let kF:=kE.b sF (cE'.st.tups sF) nPd nTd nNd;let lu:us.length=ps.length:=by let:=kF.rp.length;rwa[ε]at this
  show{01,.inl {10,aD.of kF.hp},0101,z2,λt2 ht2=>?_};let sG:=ac ht2 (.tup [.str z,vk]);let hG:upd HF t2 (.tup [.str z,vk]) t2=Z (.tup [.str z,vk]):=aa;let cG:=cF.m sG;let kG:=kF.m sG;let RG:=Rk.mono sG;generalize upd HF t2 (.tup [.str z,vk])=HG at hG cG kG RG⊢;show{LP,0011,kG.hp,3,hX _ _ ?_};let sI:=ap.upd HG LP (.lst (us++[.ref t2]));let tI:=sI.tups kG.hp;let cI:=cG.l sI fP nP nPd;let hI:upd HG LP (.lst (us++[.ref t2])) LP=Z (.lst (us++[.ref t2])):=aa;let hNI:=sI _ _ (ϝ nPN) kG.hn;let hTI:=sI _ _ nTP kG.ht;let hGI:=tI _ _ hG;let RI:=Kd.tupS tI RG;ext(⟨eI,pI⟩:kG.rb tI);generalize upd HG LP (.lst (us++[.ref t2]))=HI at tI cI hI hNI hTI hGI RI eI pI⊢;let lk:=cr (vM sm);let lz8:z.length<=8:=(aV (wo.n1 z hz)).2;let sz:=pm.sz;let sz:=sz;show{01,.inl {10,aD.of hTI},010011,by rw[LW,ι];omega,01,vk,k,1,RI,sz,3,vM sm,λHJ sJ=>{0011,by rw[ς,LW,ι];omega,LT,0011,sJ _ _ hTI,by rw[ε,ε,ι];omega,2}};let cJ:=cI.m sJ;let sK:=ap.upd HJ LT (.lst ((ps.map cy).map V.str++[.str (z++Y ": " ++ gT k)]));let tK:=sK.tups (sJ _ _ hTI);let okN:∀p∈ps++[(z,k)],mj p:=λp hp=>by
   rcases Ν.mp hp with h|h
   .show kG.ok p h
   .rw[ο.mp h];show pm
  let RN:Reps HJ ((ps++[(z,k)]).map iX) (us++[.ref t2]):=by rw[Κ];show Reps.append (pI.mono sJ) (be ?_);rw[iX,aj];show{t2,01,sJ _ _ hGI,by simp only[Reps];show{0013001,RI.mono sJ,1}}
  show go _ _ {000,us++[.ref t2],ps++[(z,k)],1,cJ.l sK fT nT nTd,{bq tK pe (eI.mono sJ),sK _ _ (ϝ nTN) (sJ _ _ hNI),sK _ _ (ϝ nTP) (sJ _ _ hI),ce (λd hd v r=>by ext(⟨p,hp,rfl⟩:Ρ.mp hd);show bq tK (xz (okN p hp).sz) r) RN,by rw[aa,Κ,Κ];rfl,okN,pe},by rw[Ε,lp];rfl}
 ext σ HC ⟨o11,o12,o13,us,ps,rfl,cC,kC,lp⟩;let df:wU y nms ps:={y1,y2,y3,3,hn,3,kC.ok};let l1:=rR df;let l2:=wG df;let l3:=rM df.pn df.p4;let l4:=rQ df;show hX _ _ (aJ λX hX=>{101,z2,λg1 hg1=>?_});let p1:=ac hg1 (.lst [.str (Y "def"),.str y]);let c1:=cC.m p1;let k1:=kC.m p1;let h1:upd HC g1 (.lst [.str (Y "def"),.str y]) g1=Z (.lst [.str (Y "def"),.str y]):=aa;generalize upd HC g1 (.lst [.str (Y "def"),.str y])=HD at c1 k1 h1⊢;show{01,g1,LN,0011,h1,k1.hn,by rw[ε,ι];change 2+_<=_;omega,λg3 hg3=>?_};let p3:=ac hg3 (.lst ([.str (Y "def"),.str y]++nms.map V.str));let c3:=c1.m p3;let k3:=k1.m p3;let h3:upd HD g3 (.lst ([.str (Y "def"),.str y]++nms.map V.str)) g3=Z (.lst ((Y "def" :: y::nms).map V.str)):=aa;generalize upd HD g3 (.lst ([.str (Y "def"),.str y]++nms.map V.str))=HE at c3 k3 h3⊢;show{0,g3,Y "def" :: y::nms,11,aD.of h3,by rw[OJ];simp only[Δ];omega,2};rw[tj];show{0011,by rw[LX,ι];omega,1010,LT,ps.map cy,11,aD.of k3.ht,by rw[gJ,ε];omega,2};rw[tj];show{0011,by rw[ς,LX,ι];omega,0011,by rw[ς,ς,LX,LZ,ι];omega,dQ (hX _ _ ?_)};show{0101,LN,01,.inl {aD.of k3.hn,λt1 ht1=>?_}};let q1:=ac ht1 (.tup (nms.map V.str));let c4:=c3.m q1;let k4:=k3.m q1;let h4:upd HE t1 (.tup (nms.map V.str)) t1=Z (.tup (nms.map V.str)):=aa;generalize upd HE t1 (.tup (nms.map V.str))=HF at c4 k4 h4⊢;show{01,LP,us,1,.inl {aD.of k4.hp,λt2 ht2=>?_}};let q2:=ac ht2 (.tup us);let c5:=c4.m q2;let k5:=k4.m q2;let h5:upd HF t2 (.tup us) t2=Z (.tup us):=aa;let h45:=q2 _ _ h4;generalize upd HF t2 (.tup us)=HG at c5 k5 h5 h45⊢;show{01,by rw[ι];change 5<=16777216;decide,λt3 ht3=>{01010011,by rw[ς,ς,ς,LX,LZ,ι];omega,z2,λt4 ht4=>?_}};let q3:=ac ht3 (.tup [.str (Y "def"),.str y,.ref t1,.ref t2,w1]);let h6:upd HG t3 (.tup [.str (Y "def"),.str y,.ref t1,.ref t2,w1]) t3=Z (.tup [.str (Y "def"),.str y,.ref t1,.ref t2,w1]):=aa;let c6:=c5.m q3;let k6:=k5.m q3;let h16:=q3 _ _ h45;let h26:=q3 _ _ h5;generalize upd HG t3 (.tup [.str (Y "def"),.str y,.ref t1,.ref t2,w1])=HH at h6 c6 k6 h16 h26 ht4⊢;let q4:=ac ht4 (.tup [.ref t3,.str (DT y nms ps b)]);show fin (c6.m q4) ?_ (.inr {y,nms,ps,d,b,11,df,we});rw[aj];show{t4,01,aa,2};simp only[Reps];show{0012001,by simp only[aj];rfl,1};rw[wz,aj];show{t3,01,q4 _ _ h6,2};simp only[Reps];show{0013001300120012001,k6.re.mono q4,1}
 .rw[aj];show{t1,01,q4 _ _ h16,iS nms}
 .rw[aj];show{t2,us,1,q4 _ _ h26,k6.rp.mono q4}
end
abbrev rC:ϸ:=top 93
def rN(h:ee d x):L2.Pl 33 d:=by
 rcases h with ⟨e,b,rfl,rfl,c⟩|⟨f,j,ps,e,b,rfl,rfl,i,c⟩
 .show .tup λd a=>?_;rcases ξ.mp a with rfl|a
  .show .str
  .rw[ο.mp a];show(pc c.1).up ()
 .unfold wz;show .tup λd a=>?_;rcases ξ.mp a with rfl|a
  .show .str
  rcases ξ.mp a with rfl|a
  .show .str
  rcases ξ.mp a with rfl|a
  .show .tup λd a=>by ext(⟨y,_,rfl⟩:Ρ.mp a);show .str
  rcases ξ.mp a with rfl|a
  .show .tup λd a=>by ext(⟨p,g,rfl⟩:Ρ.mp a);show(xz (i.pn p g).sz).up ()
  .rw[ο.mp a];show(pc c.1).up ()
structure Pg(H:Hp)(LR LL:υ)(us:List V)(rs:List (Dv×Str)):Prop where
 hr:H LR=Z (.lst us)
 rp:Reps H (rs.map (·.1)) us
 hl:H LL=Z (.lst ((rs.map (·.2)).map V.str))
 ok:∀r∈rs,ee r.1 r.2
 l4:∀r∈rs,r.2.length<=4000
def Pg.m(p:Pg H LR LL us rs)(s:af H H'):Pg H' LR LL us rs:={s _ _ p.hr,p.rp.mono s,s _ _ p.hl,p.ok,p.l4}
def Pg.rb(p:Pg H LR LL us rs)(t:pR H H'):Reps H' (rs.map (·.1)) us:=ce (λd b v r=>by ext(⟨x,a,rfl⟩:Ρ.mp b);show bq t (rN (p.ok x a)) r) p.rp
def Pg.b(p:Pg H LR LL us rs)(s:ap a H H')(t:pR H H')(b:LR≠a)(c:LL≠a):Pg H' LR LL us rs:={s _ _ b p.hr,p.rb t,s _ _ c p.hl,p.ok,p.l4}
def Pg.lu(p:Pg H LR LL us rs):us.length=rs.length:=by let:=p.rp.length;rwa[ε]at this
inductive DA (K:η) (vs:List V) (H:Hp) (Q:VK) (u3_:XK):Prop|mk (sc:υ) (ns:List Int) (_:vs=[.ref sc]) (_:aD K H sc (ns.map V.int)) (_:ns.length<=63) (_:∀(H':Hp)(t LR LL:υ)(us:List V)(rs:List (Dv×Str)),af H H'->H' t=Z (.tup [.ref LR,.ref LL])->Pg H' LR LL us rs->rs.length<=12->Q (.ref t) H')
section
variable{P:Ι}{w:ώ}{K:η}{mg:Str->Option ν}{base:ϙ}
def xi(F:Fun K "_law_program" "_law_program" rC f fd)(T:Txt K mg)(D_law_draw:bf P w K mg base k "_law_draw" ["_law_state_here","_law_many"] dW)(D_law_state:bf P w K mg base k "_law_state" ["_law_script","_law_k"] (mL K))(D_law_world:bf P w K mg base k "_law_world" ["_law_state_here"] zg)(D_law_row:bf P w K mg base k "_law_row" ["_law_walk","_law_world_here"] (CL K)):au P w K mg base bg (k+1) f fd ["_law_script"] (DA K):=by
 show F.okA (N:=["_law_script","_law_walk","_law_many","_law_world_here","_law_rows","_law_lines","_law_k","_law_row_here","_law_text"]) λcdv A outer s H vs Q E hr nd h=>?_;ext(⟨sc,ns,rfl,hS,h63,q⟩:h);show{0,aS (aY 1 (dw (ar (wv 0) (ar aE (am (cV (BD U) T.max (ar aE (am (cV (AY U) T.min (ar aE (am (cV aq T.len (aW 0))))))))))))) (aS (aY 2 (aP cQ aE (aQ D_law_draw (ar (aQ D_law_state (ar (wv 0) (am aE))) (am aE))))) (aS (aY 3 (aQ D_law_world (am (aQ D_law_state (ar (wv 0) (am aE)))))) (aS (aY 4 (dw uk)) (aS (aY 5 (dw uk)) (aS (Dr c_ U (Me T.range (aW 2)) (js 6) (aS (Cd (aQ D_law_row (ar (wv 1) (aW 3))) (FK (pH (js 7) (pH (js 8) FO)))) (fD (Hd (bA jJ (cV bV T.len (am (eX Μ a_ b_ dH az (am (aP bF (wv 5) (dw (aW 8))))))) aE) (aS (pM (eX ϖ Ϟ ϟ bu (wv 4) (aW 7))) (fD (pM (eX ϖ Ϟ ϟ bu (wv 5) (aW 8))))) JB)))) (bZ (dh (ar (wv 4) (aW 5))))))))),2};show aJ λX hX=>{0101,sc,01,.inl hS,001001,z3,λwk hwk=>gs hX λX hX=>?_};let m63:(if (if ((ns.map V.int).length:Int)<55 then ((ns.map V.int).length:Int)else 55)>2 then (if ((ns.map V.int).length:Int)<55 then ((ns.map V.int).length:Int)else 55)else 2)<=63:=by split<;>split<;>omega
 generalize (if (if ((ns.map V.int).length:Int)<55 then ((ns.map V.int).length:Int)else 55)>2 then (if ((ns.map V.int).length:Int)<55 then ((ns.map V.int).length:Int)else 55)else 2)=m at m63⊢;let s1:=ac hwk (.lst [.ref sc,.int 2,.int m]);let w1:Wk K (upd H wk (.lst [.ref sc,.int 2,.int m])) wk sc ns 2 m:=by
  show{aa,λH' s=>?_,33};rcases hS with (h|⟨o,h⟩)|h
  .show .inl (.inl (s _ _ (ah h hwk) (s1 _ _ h)))
  .show .inl (.inr {o,s _ _ (ah h hwk) (s1 _ _ h)})
  .show .inr h
 generalize upd H wk (.lst [.ref sc,.int 2,.int m])=H1 at s1 w1⊢;show{01,sc,ns,(0),1,s1.seq hS,3,λH2 a2 s2 f2 st2=>{a2,(12),1,st2,33,λH3 x s3 st3 x0 x1=>{0011,gs hX λX hX=>?_}}};let s13:=ap.same f2 s2 s3;show{01,sc,ns,(1),1,(s1.trans s13).seq hS,3,λH4 a4 s4 f4 st4=>{a4,1,st4,λH5 g r1 r2 xs ys s5 st5 wo=>gs hX λX hX=>?_}};let s15:=s13.trans (ap.same f4 s4 s5);let wkS:∀{H':Hp},af H1 H'->Wk K H' wk sc ns 2 m:=λs=>{s _ _ w1.1,λ_ s'=>w1.2.1 _ ((af.b wk s).trans s'),w1.2.2};show{ϋ _,λLR hLR=>gs hX λX hX=>{ϋ _,λLL hLL=>gs hX λX hX=>?_}};let s6:=ac hLR (.lst []);let s7:=ac hLL (.lst []);let nR:LR≠wk:=λz=>by let:=s15 _ _ w1.1;rw[z,this]at hLR;cases hLR
 let fR:=(s1.trans s15).free hLR;let h6:upd H5 LR (.lst []) LR=Z (.lst []):=aa;let nL:LL≠wk:=λz=>by let:=s6 _ _ (s15 _ _ w1.1);rw[z,this]at hLL;cases hLL
 let nLR:LL≠LR:=λz=>by rw[z,h6]at hLL;cases hLL
 let fL:=((s1.trans s15).trans s6).free hLL;let nRG:∀{a:υ}{o:HO},H5 a=Z o->a≠LR/\a≠LL:=λh=>{ah h hLR,ah (s6 _ _ h) hLL};let pg:Pg (upd (upd H5 LR (.lst [])) LL (.lst [])) LR LL [] []:={s7 _ _ h6,by simp[Reps],aa,nofun,nofun};let s17:=s15.trans (s6.trans s7);let wo7:Wo (upd (upd H5 LR (.lst [])) LL (.lst [])) g r1 r2 xs ys:={(s6.trans s7) _ _ wo.hg,(s6.trans s7) _ _ wo.h1,(s6.trans s7) _ _ wo.h2,wo.l1,wo.nd,wo.n1,wo.l2,wo.n2};ext(⟨gR,gL⟩:nRG wo.hg);ext(⟨r1R,r1L⟩:nRG wo.h1);ext(⟨r2R,r2L⟩:nRG wo.h2);generalize upd (upd H5 LR (.lst [])) LL (.lst [])=H7 at pg s17 wo7⊢;show{010133,il (λj σ H'=>∃(o6 o7 o8:Option V) (i:Int) (us:List V) (rs:List (Dv×Str)),σ=[Z (.ref sc),Z (.ref wk),Z (.int (1+x)),Z (.ref g),Z (.ref LR),Z (.ref LL),o6,o7,o8]/\af H H'/\Wk K H' wk sc ns i m/\i<=2+41*j/\Wo H' g r1 r2 xs ys/\Pg H' LR LL us rs/\rs.length<=j)
  {000,(2),[],[],1,s1.trans s17,wkS s17,3,wo7,pg,Α _} ?T1 ?_}
 case T1=>
  intro j σ H8 D go hj h;show gs (λ_ _ z=>z) λX hX=>?_;ext(⟨o6,o7,o8,i,us,rs,rfl,s08,w8,i8,wo8,p8,l8⟩:h);show{0101,wk,g,r1,r2,sc,ns,i,m,xs,ys,1,w8,33,wo8,λH9 v d tx i' s9 w9 ig ih R9 hw=>?_};ext(⟨t,vt,rfl,ht,Rt⟩:aj.tup_inv R9);ext(⟨v1,v2,rfl,e1,e2⟩:Reps.two Rt);subst e2;let p9:=p8.b s9 (s9.tups w8.1) nR nL;let wo9:=wo8.b (wo8.nw w8.1) s9;let lu:=p9.lu;show{t,01,aw.of ht,10010011,hX _ _ (bW λl c hY hZ=>?_)};show{10101,z1,λl1 hl1=>?_};let q1:=ac hl1 (.lst [.str tx]);show{LL,l1,0011,q1 _ _ p9.hl,aa,by rw[ε,ε,ι];change _+1<=_;omega,λl2 hl2=>?_};let h2:upd (upd H9 l1 (.lst [.str tx])) l2 (.lst ((rs.map (·.2)).map V.str++[.str tx])) l2=Z (.lst ((rs.map (·.2)++[tx]).map V.str)):=by rw[aa,Κ];rfl
  let s9A:=q1.trans (ac hl2 (.lst ((rs.map (·.2)).map V.str++[.str tx])));generalize upd (upd H9 l1 (.lst [.str tx])) l2 (.lst ((rs.map (·.2)).map V.str++[.str tx]))=HA at h2 s9A⊢;let lb:=dD (ys:=rs.map (·.2)++[tx]) λy hy=>by
   rcases Ν.mp hy with hy|hy
   .ext(⟨r,hr',rfl⟩:Ρ.mp hy);show(p9.ok r hr').len
   .rw[ο.mp hy];show hw.len
  let lj:=dM (Y "\n") (rs.map (·.2)++[tx]);let ln1:(Y "\n").length=1:=();let lr:(rs.map (·.2)++[tx]).length<=12:=by rw[Ε,ε];change _+1<=12;omega
  rw[ln1]at lj;show{0,l2,rs.map (·.2)++[tx],11,aD.of h2,by rw[ln1];omega,2};rw[tj];let sA:=(ap.same hwk s08 s9).trans s9A;let pA:=p9.m s9A;let woA:Wo HA g r1 r2 xs ys:={s9A _ _ wo9.hg,s9A _ _ wo9.h1,s9A _ _ wo9.h2,wo9.l1,wo9.nd,wo9.n1,wo9.l2,wo9.n2};let wA:Wk K HA wk sc ns i' m:={s9A _ _ w9.1,λ_ s'=>w9.2.1 _ ((af.b wk s9A).trans s'),w9.2.2};show{013001101,ao (λh4=>hY _ (aJ λX hX=>?_)) (λ_=>hZ _ (fc (go _ _ {000,i',us,rs,1,sA,wA,3,woA,pA,3})))};show{01,.inl {10,aD.of pA.hr},01,LR,0011,pA.hr,3,hX _ _ ?_};let tx4:tx.length<=4000:=by let h5:=mJ (j_ (f:=λy:Str=>y.length) (show tx∈rs.map (·.2)++[tx] by simp));let h6:=jR (Y "\n") (rs.map (·.2)++[tx]);let h7:=Z7 h4;omega
  let sB:=ap.upd HA LR (.lst (us++[v1]));let tB:=sB.tups pA.hr;let hB:upd HA LR (.lst (us++[v1])) LR=Z (.lst (us++[v1])):=aa;let lB:=sB _ _ nLR pA.hl;let RB:=pA.rb tB;let eB:=bq tB (rN hw) (e1.mono s9A);generalize upd HA LR (.lst (us++[v1]))=HB at sB tB hB lB RB eB⊢;show{01,.inl {10,aD.of lB},01,LL,0011,lB,by rw[ε,ε,ι];omega,2};let sC:=ap.upd HB LL (.lst ((rs.map (·.2)).map V.str++[.str tx]));let tC:=sC.tups lB;let okN:∀r∈rs++[(d,tx)],ee r.1 r.2:=λr hr'=>by
   rcases Ν.mp hr' with h|h
   .show p9.ok r h
   .rw[ο.mp h];show hw
  let RN:Reps HB ((rs++[(d,tx)]).map (·.1)) (us++[v1]):=by rw[Κ];show Reps.append RB (be eB)
  let sBC:∀{a:υ}{o:HO},a≠LR->a≠LL->HA a=Z o->upd HB LL (.lst ((rs.map (·.2)).map V.str++[.str tx])) a=Z o:=λh1 h2 e=>sC _ _ h2 (sB _ _ h1 e);show go _ _ {000,i',us++[v1],rs++[(d,tx)],1,λa o e=>sBC (ah e fR) (ah e fL) (sA _ _ e),{sBC (ϝ nR) (ϝ nL) wA.1,λH' s'=>?_,wA.2.2},3,{sBC gR gL woA.hg,sBC r1R r1L woA.h1,sBC r2R r2L woA.h2,woA.l1,woA.nd,woA.n1,woA.l2,woA.n2},{sC _ _ (ϝ nLR) hB,ce (λd hd v r=>by ext(⟨y,hy,rfl⟩:Ρ.mp hd);show bq tC (rN (okN y hy)) r) RN,by rw[aa,Κ,Κ];rfl,okN,λr hr'=>by
   rcases Ν.mp hr' with h|h
   .show p9.l4 r h
   .rw[ο.mp h];show tx4},by rw[Ε];change _+1<=_;omega}
  rcases hS with (h|⟨o,h⟩)|h
  .show .inl (.inl (s' _ _ (ah h hwk) (sBC (ah h fR) (ah h fL) (sA _ _ h))))
  .show .inl (.inr {o,s' _ _ (ah h hwk) (sBC (ah h fR) (ah h fL) (sA _ _ h))})
  .show .inr h
 ext σ H8 ⟨o6,o7,o8,i,us,rs,rfl,s08,w8,i8,wo8,p8,l8⟩;show hX _ _ {0101,z2,λt ht=>?_};let s9:=ac ht (.tup [.ref LR,.ref LL]);show q _ t LR LL us rs (s08.trans s9) aa (p8.m s9) ()
end
open PySem L2 KB XB L2.EX WR
def ii(x y:Str):(∃r,x.cps.toList=(Txt.partition x y).1.cps.toList++r)/\∃r,x.cps.toList=r++(Txt.partition x y).2.2.cps.toList:=by
 rcases Se x y with ⟨h,_⟩|⟨i,h,_,_⟩
 .rw[h];show{{[],3},{x.cps.toList,by change _=_++[];simp}}
 .rw[h];show{{x.cps.toList.drop i,2},{x.cps.toList.take (i+y.length),2}}
  .change _=(x.cps.extract 0 i).toList++_;rw[M1,F4,E9,Tr,y8]
  .let e:(x.cps.extract (i+y.length) x.length).toList=x.cps.toList.drop (i+y.length):=by
    rw[M1,F4];show v_ (by rw[Ϯ,Θ];show Α _)
   change _=_++(x.cps.extract (i+y.length) x.length).toList;rw[e,y8]
def io(x:Str):x.cps.toList.length=x.length:=Θ
def An(h:uh x)(e:x.cps.toList=r++a.cps.toList++t):uh a:=by show{2,h.2.inf e};let:=congrArg y6 e;rw[Ε,Ε,io,io]at this;let:=h.1;omega
def yP(h:uh x)(e:x.cps.toList=a.cps.toList++r):uh a:=An h (by rw[i_];show e)
def tQ(h:uh x)(e:x.cps.toList=r++a.cps.toList):uh a:=An h (by rw[ϔ];show e)
def Ee(b:bo c=O)(h:me l):me (c::l):=λu v w e a=>by
 cases u with
 |nil=>
  cases v with
  |nil=>show ϋ _
  |cons d v=>injection e with f _;let:=a d π;rw[<-f,b]at this;cases this
 |cons d u=>show h u v w (by injection e) a
def Fl(f:bo c=O)(h:me l):me (l++[c]):=λu v w e a=>by
 rcases K1 w with rfl|⟨b,d,rfl⟩
 .rcases K1 v with rfl|⟨i,d,rfl⟩
  .show ϋ _
  .rw[ϔ,Q1,<-Γ]at e;let:=List.append_inj_right' e U;injection this with g _;let:=a d ();rw[<-g,f]at this;cases this
 .rw[Q1,<-Γ]at e;show h u v b (List.append_inj_left' e U) a
def AA(x:Str):(Y "(" ++ x++Y ")").cps.toList=40::(x.cps.toList++[41]):=by rw[ak,ak,show(Y "(").cps.toList=[40] by decide +kernel,show(Y ")").cps.toList=[41] by decide +kernel];rfl
def Lw(h:uh x):Qx (Y "(" ++ x++Y ")"):=by
 show{22}
 .rw[ς,ς,rT,qh];let:=h.1;omega
 .rw[AA];show Ee U (Fl U h.2)
def LE(x:Str):Txt.startswith3 (Y "(" ++ x++Y ")") (Y "(") ((0:Nat):Int)=O:=by rw[gk (ϋ _),AA,show(Y "(").length=1 by decide +kernel,show(Y "(").cps.toList=[40] by decide +kernel];rfl
def oF:Br->Str
 |.leaf w=>w
 |.nd w _=>w
def Ct(w:Str):Br->Br
 |.leaf _=>.leaf w
 |.nd _ ts=>.nd w ts
def Ex(b:Br):Dv:=.tup [.str (Txt.partition (oF b) (Y ": ")).1,aZ 21 (Ct (Txt.partition (oF b) (Y ": ")).2.2 b)]
def JY(b:Br):∃d1,bO b=.tup [.str (oF b),d1]/\∀w,bO (Ct w b)=.tup [.str w,d1]:=by
 cases b with
 |leaf w=>show{.non,by rw[bO];rfl,λw'=>by rw[Ct,bO];rfl}
 |nd w ts=>show{.lst (ts.map bO),by rw[bO,dB];rfl,λw'=>by rw[Ct,bO,dB]}
def Fd(h:cL b):FL (oF b):=by
 cases b with
 |leaf w=>rw[cL]at h;show h
 |nd w ts=>rw[cL]at h;show h.1
def EF(h:cL b)(e:(oF b).cps.toList=r++w.cps.toList):cL (Ct w b):=by
 let hw:FL w:=by
  let h1:=Fd h;show{22}
  .let:=congrArg y6 e;rw[Ε,io,io]at this;let:=h1.1;omega
  .let h2:=h1.2;rw[e,ϥ]at h2;omega
 cases b with
 |leaf w=>rw[Ct,cL];show hw
 |nd w ts=>rw[cL]at h;rw[Ct,cL];show{hw,h.2}
def Kx(w:Str)(b:Br):ba (Ct w b)=ba b:=by
 cases b with
 |leaf _=>rw[Ct,ba,ba]
 |nd _ ts=>rw[Ct,ba,ba]
inductive Jz (vs:List V) (H:Hp) (Q:VK) (u3_:XK):Prop|mk (v:V) (b:Br) (_:vs=[v]) (_:aj H (bO b) v) (_:cL b) (_:ba b<21) (_:∀H' u,af H H'->aj H' (Ex b) u->Q u H')
structure GD(d:Dv)(w0:Str)(ws:List Str)(ts:List Br)(b:Br):Prop where
 e:d=.tup [.str (Y "def"),.str w0,.tup (ws.map Dv.str),.tup (ts.map Ex),bX 21 b]
 l0:w0.length<=4900
 lw:ws.length<=4900
 sw:∀w∈ws,w.length<=4900
 lt:ts.length<=4900
 st:∀t∈ts,cL t
 b:cL b
def GR(_:Str)(d:Dv):Prop:=d=.non\/(∃b,cL b/\d=.tup [.str (Y "ask"),bX 21 b])\/∃a c ts b,GD d a c ts b
inductive Jd (vs:List V) (H:Hp) (Q:VK) (u3_:XK):Prop|mk (x:Str) (_:vs=[.str x]) (_:uh x) (_:∀H' u d w0 ws ts b,af H H'->aj H' d u->GD d w0 ws ts b->Q u H')
inductive NP (vs:List V) (H:Hp) (Q:VK) (u3_:XK):Prop|mk (x:Str) (_:vs=[.str x]) (_:uh x) (_:∀H' u d,af H H'->aj H' d u->GR x d->Q u H')
def Ce:∀{ts:List Br}{t:Br},t∈ts->ba t<=brDps ts
 |u::ts,t,h=>by
  rw[brDps];rcases ξ.mp h with rfl|h
  .show Nat.le_max_left _ _
  .show Ϫ (Ce h) (Nat.le_max_right _ _)
def xu(h:Txt.startswith x y=O):∃r,x=y++r:=by unfold Txt.startswith at h;rw[I0,E9,χ,beq_iff_eq]at h;show{{(x.cps.toList.drop y.length).toArray},eq ?_};rw[ak,<-h.2];show(y8 _ _).symm
def Mx:Y " "={#[32]}:=()
section
variable{P:Ι}{w:ώ}{K:η}{mg:Str->Option ν}{base:ϙ}
def tM(F:Fun K "param_in" "param_in" jk f fd)(T:Txt K mg)(y:bf P w K mg base k "kind_in" ["branch"] (iK 21)):au P w K mg base bg (k+1) f fd ["branch"] Jz:=by
 show F.okA (N:=["branch","halves"]) λu0 A u2 s H vs Q E hr nd h=>?_;ext(⟨v,b,rfl,R,bs,S,q⟩:h);show{0,aS (aY 1 (eX Μ s_ t_ da (bC 0) (am az))) (bZ (dh (ar (bC 1) (am (aQ y (am (dh (ar (bC 1) (am (bC 0)))))))))),2};ext(⟨d1,L,C⟩:JY b);let u1:=(Fd bs).1;rw[L]at R;ext(⟨a,vs,rfl,x,W⟩:aj.tup_inv R);ext(⟨v0,o,rfl,B,u3⟩:Reps.two W);subst B;show aJ λX M=>{01,a,0,(0),011,aw.of x,ad U,10,Y ": ",1133,λg D=>?_};ext(⟨_,r,l⟩:ii (oF b) (Y ": "));unfold Ex at q;generalize Txt.partition (oF b) (Y ": ")=z at l q⊢;ext(⟨d,e,c⟩:z);let i:=ac D (.tup [.str d,.str e,.str c]);let j:upd H g (.tup [.str d,.str e,.str c]) g=Z (.tup [.str d,.str e,.str c]):=aa;generalize upd H g (.tup [.str d,.str e,.str c])=H1 at i j⊢;show dQ (M _ _ {01,g,0,(0),.str d,11,aw.of j,ad U,01,g,0,(2),.str c,11,aw.of j,ad U,01,a,0,(1),o,11,aw.of (i _ _ x),ad U,z2,λt G=>?_});let n:=ac G (.tup [.str c,o]);show{.ref t,Ct c b,12,EF bs l,by rw[Kx];show S,λH3 u I u4=>{z2,λm V=>?_}}
 .rw[C,aj];show{t,01,aa,by simp only[Reps];show{0013001,u3.mono (i.trans n),1}}
 let p:=ac V (.tup [.str d,u]);show q _ _ (i.trans (n.trans (I.trans p))) ?_;rw[aj];show{m,01,aa,by simp only[Reps];show{0013001,u4.mono p,1}}
def xl(F:Fun K "def_of" "def_of" oO f fd)(T:Txt K mg)(Dbranch_of:bf P w K mg base k "branch_of" ["text"] Ea)(Dparam_in:bf P w K mg base k "param_in" ["branch"] Jz)(Dexpression_of:bf P w K mg base k "expression_of" ["text"] (vN GE)):au P w K mg base bg (k+1) f fd ["text"] Jd:=by
 show F.okA (N:=["text","halves","words","sides","params"]) λcdv A outer s H vs Q E hr nd h=>?_;ext(⟨x,rfl,tx,q⟩:h);show{0,aS (aY 1 (eX Μ s_ t_ da (wv 0) (am az))) (aS (aY 2 (eX Μ w_ x9 fz (bC 1) (am az))) (aS (aY 3 (eX Μ s_ t_ da (bC 1) (am az))) (aS (aY 4 (eT nY (aQ Dbranch_of (am (aP ae (aP ae az (bC 3)) az))) aE)) (bZ (dh (ar az (ar (eT aG (wv 2) aE) (ar (ka aF T.tuple (am (lJ dI (wv 2) (kh aE) mr))) (ar (ka aF T.tuple (am (pY ["each"] [] (AR (wv 4)) (.of U) U (λ_ _ _=>{pg_name (i:=0) (bK (l:=["each"]) (()) U) U (z_ U)}) (bz ()) (λ_ _ _=>oW) (λ_ _ _=>(aQ Dparam_in (aW 0)))))) (am (aQ Dexpression_of (am (bC 3))))))))))))),2};let lx:=tx.1;show aJ λX hX=>{0110,Y " (",1133,λg1 hg1=>?_};ext(⟨⟨_,pa⟩,_,pb⟩:ii x (Y " ("));generalize Txt.partition x (Y " (")=pp at pa pb⊢;ext(⟨p1,p2,p3⟩:pp);dsimp only at pa pb⊢;let t3:=tQ tx pb;let l1:=(yP tx pa).1;let l3:=t3.1;clear pa pb;let s1:=ac hg1 (.tup [.str p1,.str p2,.str p3]);let h1:upd H g1 (.tup [.str p1,.str p2,.str p3]) g1=Z _:=aa;generalize upd H g1 (.tup [.str p1,.str p2,.str p3])=H1 at s1 h1⊢;let sl:=oE p1 32;rw[<-Mx]at sl;let sn:=iC p1 (Y " ");show gs hX λX hX=>{01,g1,0,(0),011,aw.of h1,ad U,10,Y " ",11333,λg2 hg2=>?_};generalize Txt.split p1 (Y " ")=ls at sl sn⊢;obtain⟨w0,ws,rfl⟩:∃w0 ws,ls=w0::ws:=by cases ls with|nil=>show absurd U sn|cons a b=>show{a,b,1}
 ext(⟨sl1,sl2⟩:sl);rw[Δ]at sl1;let s2:=ac hg2 (.lst ((w0::ws).map V.str));let h2:upd H1 g2 (.lst ((w0::ws).map V.str)) g2=Z (.lst ((w0::ws).map V.str)):=aa;generalize upd H1 g2 (.lst ((w0::ws).map V.str))=H2 at s2 h2⊢;show gs hX λX hX=>{01,g1,0,(2),011,aw.of (s2 _ _ h1),ad U,10,Y ") = ",1133,λg3 hg3=>?_};ext(⟨⟨_,pa⟩,_,pb⟩:ii p3 (Y ") = "));generalize Txt.partition p3 (Y ") = ")=pp at pa pb⊢;ext(⟨z1,z2',z3⟩:pp);dsimp only at pa pb⊢;let u1:=yP t3 pa;let u3:=tQ t3 pb;let m1:=u1.1;clear pa pb;let s3:=ac hg3 (.tup [.str z1,.str z2',.str z3]);let h3:upd H2 g3 (.tup [.str z1,.str z2',.str z3]) g3=Z _:=aa;generalize upd H2 g3 (.tup [.str z1,.str z2',.str z3])=H3 at s3 h3⊢;let h23:=s3 _ _ h2;let s03:=s1.trans (s2.trans s3);clear s1 s2 s3 h1 h2;show gs hX λX hX=>{01,g3,0,(0),011,aw.of h3,ad U,0011,by rw[rT,ι];omega,0011,by rw[ς,rT,qh,ι];omega,2};show{01,Lw u1,λH4 v b4 s4 R4 bs4 bd4 nd4=>?_};let nd4:=nd4 (LE z1);cases b4 with
 |leaf _=>cases nd4
 |nd w4 ts=>
 rw[cL]at bs4;let st:=dP bs4.2.2;let lt:=bs4.2.1;let dt:∀t∈ts,ba t<21:=λt ht=>by rw[ba]at bd4;let:=Ce ht;omega
 rw[bO,dB]at R4;ext(⟨t,l,us,rfl,ht,hl,Rl⟩:xv R4);let lu:us.length=ts.length:=by let:=Rl.length;rwa[ε]at this
 show{t,0,(1),.ref l,11,aw.of ht,ad U,dQ (hX _ _ ?_)};show{01,g2,0,(0),.str w0,11,aD.of (s4 _ _ h23),ad U,01,(1),1,g2,01,aD.of (s4 _ _ h23),λg4 hg4=>?_};rw[show cO ((w0::ws).map V.str) (Z 1) Β=ws.map V.str from cZ _ 1];let s5:=ac hg4 (.lst (ws.map V.str));show{g4,01,.inl {aD.of aa,λg5 hg5=>?_}};let s6:=ac hg5 (.tup (ws.map V.str));let h6:upd (upd H4 g4 (.lst (ws.map V.str))) g5 (.tup (ws.map V.str)) g5=Z (.tup (ws.map V.str)):=aa;let s46:=s5.trans s6;generalize upd (upd H4 g4 (.lst (ws.map V.str))) g5 (.tup (ws.map V.str))=H6 at s46 h6⊢;clear s5 s6;show{01,l,1,{us,aD.of (s46 _ _ hl)},fK (λi ys H'=>af H6 H'/\Reps H' ((ts.take i).map Ex) ys) {af.refl _,by simp[Reps]} (λi ys H' _ p=>aD.of (p.1 _ _ (s46 _ _ hl))) ?L1 ?_}
 case L1=>
  ext i ys H' x hx ⟨s',R'⟩;ext(⟨p,hp,Rx⟩:gA Rl hx);let hi:=(Υ.mp hx).1;let pm:=ό hp;show bt {01,x,p,1,Rx.mono (s46.trans s'),st p pm,dt p pm,λH7 u s7 R7=>{2,s'.trans s7,2}}
  .let:=R'.length;rw[ε,Φ]at this;rw[this,ι];omega
  .rw[Ϥ,hp,Κ];show Reps.append (R'.mono s7) (be R7)
 ext ys H7 ⟨s7,R7⟩ g6 hg6;rw[lu,ϧ]at R7;let s8:=ac hg6 (.lst ys);show{g6,ys,1,.inl {aD.of aa,λg7 hg7=>?_}};let s9:=ac hg7 (.tup ys);let h9:upd (upd H7 g6 (.lst ys)) g7 (.tup ys) g7=Z (.tup ys):=aa;let s69:=s7.trans (s8.trans s9);let R9:=R7.mono (s8.trans s9);generalize upd (upd H7 g6 (.lst ys)) g7 (.tup ys)=H9 at s69 h9 R9⊢;let s09:=s03.trans (s4.trans (s46.trans s69));show{01,g3,0,(2),011,aw.of (s69 _ _ (s46 _ _ (s4 _ _ h3))),ad U,01,u3,λHA u e sA RA ge=>{by rw[ι];change 5<=16777216;decide,λm hm=>?_}};ext(⟨b,hb,rfl⟩:ge);let sB:=ac hm (.tup [.str (Y "def"),.str w0,.ref g5,.ref g7,u]);let s0B:=sA.trans sB;show q _ _ _ w0 ws ts b (s09.trans s0B) ?_ {1,by let:=sl2 w0 π;omega,3,λy hy=>by let:=sl2 y (ρ _ hy);omega,lt,st,hb};rw[aj];show{m,01,aa,2};simp only[Reps];show{0013001300120012001,RA.mono sB,1}
 .rw[aj];show{g5,01,s0B _ _ (s69 _ _ h6),iS ws}
 .rw[aj];show{g7,ys,1,s0B _ _ h9,R9.mono s0B}
def mw(F:Fun K "row_of_text" "row_of_text" fZ f fd)(T:Txt K mg)(o:bf P w K mg base k "expression_of" ["text"] (vN GE))(p:bf P w K mg base k "def_of" ["text"] Jd):au P w K mg base bg (k+1) f fd ["text"] NP:=by
 show F.okA (N:=["text"]) λu3 A W s H vs Q E u1 u4 h=>?_;ext(⟨x,rfl,n,q⟩:h);show{0,cP (jZ (eX Μ A3 A5 iI (wv 0) (am az))) (dh (ar az (am (aQ o (am (lJ gy (wv 0) (kh aE) mr)))))) (cP (jZ (eX Μ A3 A5 iI (wv 0) (am az))) (aQ p (am (lJ gy (wv 0) (kh aE) mr))) (bZ vj)),2};let u2:=n.1;let j:∀{y:Str},Txt.startswith x y=O->y.length=4->uh (Txt.slice x (Z 4) Β):=λ{y} L R=>by ext(⟨r,rfl⟩:xu L);rw[kI (by rw[R];rfl)];show tQ n (by rw[ak])
 show aJ λX c=>bW λS B a i=>{0110,Y "ask ",1101,ao (λh=>a _ {01,(4),101301,j h (),λu0 u e V D I=>{z2,λm C=>?_}}) (λh=>i _ (fc (c _ _ (aJ λX c=>bW λS B a i=>{0110,Y "def ",1101,ao (λh=>a _ {01,(4),10132}) (λh=>i _ (fc (c _ _ ?_)))}))))}
 .ext(⟨b,z,rfl⟩:I);let l:=ac C (.tup [.str (Y "ask"),u]);show q _ _ _ (V.trans l) ?_ (.inr (.inl {b,z,1}));rw[aj];show{m,01,aa,by simp only[Reps];show{0013001,D.mono l,1}}
 .show{01,j h (),λH' u d t v ts b G M g=>q H' u d G M (.inr (.inr {t,v,ts,b,g}))}
 .show q H .non .non (af.refl _) () (.inl U)
end
def Cf(h:cL t):(Ex t).small=O:=by ext(⟨⟨_,a⟩,_,b⟩:ii (oF t) (Y ": "));let c:=(Fd h).1;show cY (bI ?_) (fh (EF h b));let:=congrArg y6 a;rw[Ε,io,io]at this;omega
def zT:∀{ts:List Br},(∀t∈ts,cL t)->(ts.map Ex).all fC=O->∃ps:List qg,ts.map Ex=ps.map iX/\(∀p∈ps,mj p)/\ps.length=ts.length
 |[],_,_=>{[],1,nofun,1}
 |t::ts,hs,h=>by
  rw[ϊ,Tc,χ]at h;obtain⟨ps,e,d,l⟩:=zT (λu f=>hs u (ρ _ f)) h.2;ext(⟨_,_,i⟩:ii (oF t) (Y ": "));let a:=h.1;unfold Ex at a;rw[fC,χ]at a;ext(⟨k,j,c,g⟩:qC (EF (hs t π) i) (Z7 a.2));show{((Txt.partition (oF t) (Y ": ")).1,k)::ps,22,by rw[Δ,Δ,l]}
  .rw[ϊ,ϊ,e];unfold Ex iX;rw[j]
  .intro p b;rcases ξ.mp b with rfl|b
   .show{a.1,c,g}
   .show d p b
def NM(h:GR x d):d.small=O/\(ji d=O->∃v,ee d v):=by
 rcases h with rfl|⟨b,f,rfl⟩|⟨k,n,ts,b,g⟩
 .show{1,λh=>by cases h}
 .show{cY (cH) (jL f),λh=>?_};let h:=h;rw[sQ]at h;let h:=Z7 h;ext(⟨o,w⟩:xC f h);show{0,.inl {0,o,11,w,h}}
 .ext(⟨rfl,r,z,t,H,st,f⟩:g);show{bb (λd a=>?_) (by change 5<=5000;decide),λh=>?_}
  .rcases ξ.mp a with rfl|a
   .show cH
   rcases ξ.mp a with rfl|a
   .show bI r
   rcases ξ.mp a with rfl|a
   .show bb (λd a=>by ext(⟨y,p,rfl⟩:Ρ.mp a);show bI (t y p)) (by rw[ε];omega)
   rcases ξ.mp a with rfl|a
   .show bb (λd a=>by ext(⟨y,p,rfl⟩:Ρ.mp a);show Cf (st y p)) (by rw[ε];omega)
   .rw[ο.mp a];show jL f
  .let h:=h;rw[tO,χ,χ,χ]at h;ext(⟨c,j,i,m⟩:h);let m:=Z7 m;ext(⟨o,w⟩:xC f m);let c:(bT k&&(!cw k && !cS k))=O:=c;let j:(fA 0 (.tup (n.map Dv.str))&&(n.map Dv.str).all bR)=O:=j;let i:(fA 0 (.tup (ts.map Ex))&&(ts.map Ex).all fC)=O:=i;rw[χ,χ,S_,S_]at c;rw[χ,J3,Ϸ]at j;rw[χ]at i;ext(⟨ps,e,u,l⟩:zT st i.2);let q:=my j.1;let s:=my i.1;rw[ε]at q s;show{0,.inr {k,n,ps,0,o,by rw[e];rfl,1,{c.1,c.2.1,c.2.2,q,j.2,3,u},w,m}}
inductive EC (C:υ) (vs:List V) (H:Hp) (Q:VK) (E:XK):Prop|mk (x:Str) (n:Int) (_:vs=[.str x,.int n]) (_:((∃d,ee d x/\∀H' v,af H H'->aj H' d v->Q v H')\/(uh x/\(∀d,¬ ee d x)/\∀(H':Hp)(dx p:υ),af H H'->H' dx=Z (.xd [("place",.ref p)])->H' p=Z (.tup [.int n,.int 0])->E (.ref C) (Z dx) H')))
section
variable{P:Ι}{w:ώ}{K:η}{mg:Str->Option ν}{base:ϙ}
def tH(F:Fun K "read_row" "read_row" jp f fd)(T:Txt K mg)(g:Bc P w K mg base k0 "just_so" ["text","reader","is_one","shower","place"] (QW frow_of_text fis_row fshow_row ee ee aNoWords))(c:mg "row_of_text"=Z (.ref frow_of_text))(i:mg "is_row"=Z (.ref fis_row))(e:mg "show_row"=Z (.ref fshow_row)):au P w K mg base (eE P w) (k0+1) f fd ["text","number"] (EC aNoWords):=by
 show OQ F wh (λvs H Q E h=>?_) (λy A u s H vs Q E r h=>?_)
 .ext(⟨x,n,rfl,_⟩:h);rfl
 ext(⟨x,n,rfl,h⟩:h);show{0,(@un _ _ _ (bZ (RJ g r U (ar (wv 0) (ar (nU (.ref frow_of_text) c) (ar (nU (.ref fis_row) i) (ar (nU (.ref fshow_row) e) (am (dh (ar (wv 1) (am aE))))))))))),{0101,z2,λt o=>{.str x,.ref t,12}}};let st:=ac o (.tup [.int n,.int 0]);rcases h with ⟨d,m,q⟩|⟨ts,l,q⟩
 .show .inl {x,d,1,m,λb v a j=>q b v (st.trans a) j}
 .show .inr {.inr {x,1,ts,l},λb k a p=>q b k t (st.trans a) p (a _ _ aa)}
end
section
variable{P:Ι}{w:ώ}{K:η}{mg:Str->Option ν}{base:ϙ}{N:List Str}{qual:Str}{sc scope:M8}{f:υ}{cd:ν}{A:Ϛ}{outer:List Env}{s0:ψ}{H0:Hp}{E:XK}{elt tg iter:Ϲ}{ifs:List Ϲ}{pos:Pos}{wi:TI}{g:TG}{tt:TT}{te:TE}
def OR(own:List Str)(ix:List Nat)(j:Bx (PI (bP (eE P w) P w K mg base N qual sc f cd A outer s0 H0 E) tg iter wi))(L:dF N sc scope own ix)
  (l:∀h s H,Bx (PG ((bP (eE P w) P w K mg base N qual sc f cd A outer s0 H0 E).comp (iU N own ix) scope h s H) tg g)) (k:GW own.length g)
  (m:∀h s H,Bx (Jg ((bP (eE P w) P w K mg base N qual sc f cd A outer s0 H0 E).comp (iU N own ix) scope h s H) ifs tt))
  (n:∀h s H i,dL (eE P w) (((bP (eE P w) P w K mg base N qual sc f cd A outer s0 H0 E).comp (iU N own ix) scope h s H).wish i) E->Bx (PE (((bP (eE P w) P w K mg base N qual sc f cd A outer s0 H0 E).comp (iU N own ix) scope h s H).wish i) elt te))
  (o:∀x,foldedSetIterable iter (bP (eE P w) P w K mg base N qual sc f cd A outer s0 H0 E).env x=pure x):Bx (PE (bP (eE P w) P w K mg base N qual sc f cd A outer s0 H0 E) (.ListComp elt [{tg,iter,ifs,(0)}] scope pos) (MQ wi own.length ix g tt te)):=
 {Kv j.h L (λa b c=>(l a b c).h) k (λa b c=>(m a b c).h) (λa b c d e=>(n a b c d e).h) o}
def PV(d:Bc X.prog X.w X.K X.mg X.base k x ps sp)(i:cf k X.A)(j:Gl X x)(c:dL (eE X.prog X.w) X E)(l:Bx (PA X (e::es) t))(a:(x==("__debug__" : Str))=J)
  (h:ϗ (e::es) X.env=(J,eval e X.env)::ϗ es X.env) (b:(C_ pos (ϗ es X.env)).any (·.1)=J):Bx (PE X (.Call (.Name x p) (e::es) [] pos) (jg sp [] E t)):={Iy d i j c l.h a h b}
end
structure Na(ls:List Str)(k:Nat)(rs:List (Dv×Str))(x:Str)(more:List Str):Prop where
 e:ls=rs.map (·.2)++x::more
 g:∀r∈rs,ee r.1 r.2
 t:uh x
 no:∀d,¬ ee d x
 k:k=rs.length
structure MR(ls:List Str):Prop where
 lf:∀l∈ls,10∉l.cps.toList
 ne:Τ (Y "\n") ls≠Y ""
 n0:ls≠[]
 l:∀l∈ls,l.length<=1100000
 n:ls.length<=13
def Ba(H:Hp)(b:V)(k:Nat):Prop:=(k=0/\∃d,aj H d b/\IU d "str"=J)\/∃a,b=.str (Τ (Y "\n") a)/\MR a/\((12<a.length/\k=0)\/(a.length<=12/\∃e x c,Na a k e x c))
inductive Ax (C:υ) (vs:List V) (H:Hp) (Q:VK) (E:XK):Prop|mk (v0:V) (_:vs=[v0]) (_:((∃rs:List (Dv×Str),v0=.str (Τ (Y "\n") (rs.map (·.2)))/\(∀r∈rs,ee r.1 r.2)/\rs.length<=12/\∀(H':Hp)(l:υ)(us:List V),af H H'->H l=Β->H' l=Z (.lst us)->Reps H' (rs.map (·.1)) us->Q (.ref l) H')\/∃k:Nat,Ba H v0 k/\∀(H':Hp)(dx p:υ),af H H'->H' dx=Z (.xd [("place",.ref p)])->H' p=Z (.tup [.int k,.int 0])->E (.ref C) (Z dx) H'))
def Iv(h:Na ls k rs x more):ls[rs.length]?=Z x/\rs.length<ls.length:=by rw[h.e];show{by rw[i6 (by rw[ε];show Α _),ε,Sq];rfl,2};rw[Ε,ε,Δ];omega
def Oj(E:XK)(H:Hp)(C:υ)(k:Nat):Prop:=∀(H':Hp)(a p:υ),af H H'->H' a=Z (.xd [("place",.ref p)])->H' p=Z (.tup [.int k,.int 0])->E (.ref C) (Z a) H'
def OX(Q:VK)(H:Hp)(a:List (Dv×Str)):Prop:=∀(H':Hp)(l:υ)(us:List V),af H H'->H l=Β->H' l=Z (.lst us)->Reps H' (a.map (·.1)) us->Q (.ref l) H'
def MU(q:Oj E H C 0)(d:af H H1)(b:H1 t=Β)(c:upd H1 t (.tup [.int 0,.int 0]) dx=Β):E (.ref C) (Z dx) (upd (upd H1 t (.tup [.int 0,.int 0])) dx (.xd [("place",.ref t)])):=by let a:=ac c (.xd [("place",.ref t)]);show q _ dx t (d.trans ((ac b (.tup [.int 0,.int 0])).trans a)) aa (a _ _ aa)
structure Rg(E:XK)(Q:VK)(H:Hp)(C:υ)(ls:List Str)(rs:List (Dv×Str)):Prop where
 l:rs.length<=ls.length
 g:∀r∈rs,ee r.1 r.2
 at':∀i,i<rs.length->ls[i]?=(rs.map (·.2))[i]?
 all:rs.length=ls.length->OX Q H rs
 bad:∀x,ls[rs.length]?=Z x->uh x/\(∀d,¬ ee d x)/\Oj E H C rs.length
def FE(h:(∃a:List (Dv×Str),v0=.str (Τ (Y "\n") (a.map (·.2)))/\(∀r∈a,ee r.1 r.2)/\a.length<=12/\OX Q H a)\/∃k:Nat,Ba H v0 k/\Oj E H C k):
  (Oj E H C 0/\∃d,aj H d v0/\IU d "str"=J)\/(v0=.str (Y "")/\OX Q H [])\/∃c,v0=.str (Τ (Y "\n") c)/\MR c/\((12<c.length/\Oj E H C 0)\/(c.length<=12/\∃a,Rg E Q H C c a)):=by
 rcases h with ⟨a,rfl,m,p,q⟩|⟨k,⟨rfl,d,R,e⟩|⟨c,rfl,v,h⟩,q⟩
 .by_cases e:a=[]
  .subst e;show .inr (.inl {1,q})
  .show .inr (.inr {01,{λy j=>?_,2,λz=>e (List.map_eq_nil_iff.mp z),λy j=>?_,by rw[ε];omega},.inr {by rw[ε];show p,a,{by rw[ε];show Α _,m,λi _=>U,λ_=>q,λx o=>?_}}})
   .ext(⟨r,n,rfl⟩:Ρ.mp j);show(kd (m r n)).1
   .intro z;obtain⟨r,l,rfl⟩:∃r l,a=r::l:=by cases a with|nil=>show absurd U e|cons r l=>show{r,l,1}
    let X:=jR (Y "\n") ((r::l).map (·.2));rw[z,show(Y "").length=0 by decide +kernel,ϊ,ϊ,A0]at X;let T:=(kd (m r π)).2;omega
   .ext(⟨r,n,rfl⟩:Ρ.mp j);show(m r n).len
   .rw[y7 (by rw[ε];show Α _)]at o;cases o
 .show .inl {q,d,R,e}
 .show .inr (.inr {c,1,v,2});rcases h with ⟨h,rfl⟩|⟨h,a,x,D,b⟩
  .show .inl {h,q}
  .ext(⟨t,u⟩:Iv b);show .inr {h,a,{C9 u,b.g,λi s=>?_,λz=>absurd z (),λy j=>?_}}
   .rw[b.e,e_ (by rw[ε];show s)]
   .rw[t]at j;cases j;show{b.t,b.no,b.k▸q}
section
variable{P:Ι}{w:ώ}{K:η}{mg:Str->Option ν}{base:ϙ}
def Cp(F:Fun K "read" "read" xR f fd)(T:Txt K mg)(a1:jN K D fI aNoWords)(a0:mg "NoWords"=Z (.ref aNoWords))(FI:au P w K mg base bg k fI fdI psI (nt K D fI))(BI:bE K fdI psI [])(b3:Bc P w K mg base (k+1) "read_row" ["text","number"] (EC aNoWords)):au P w K mg base (eE P w) (k+2) f fd ["text"] (Ax aNoWords):=by
 let nd:=yy.nd;show OQ F yy (λvs H Q E h=>?_) (λd0 A outer s H vs Q E N h=>?_)
 .ext(⟨v0,rfl,_⟩:h);rfl
 ext(⟨v0,rfl,h⟩:h);show{0,(@un _ _ _ (kY (pV (jZ (cV cg T.isinstance (ar (wv 0) (am (zt (.ty "str") T.str U)))))) (fD (Pq a1 FI N BI U a0 kr (am (dh (ar aE (am aE)))))) (cP (bA aA (wv 0) az) (dw uk) (aS (aY 1 (eX Μ w_ x9 fz (wv 0) (am az))) (kY (bA gu (cV aq T.len (aW 1)) {T.g_MOST_ROWS U}) (fD (Pq a1 FI N BI U a0 kr (am (dh (ar aE (am aE)))))) (bZ (OR ["number","row"] [] (RT U T.enumerate (aW 1)) (.of U) (λ_ _ _=>{pg_tup U (pgs_cons (pg_name (i:=0) (bK (l:=["number","row"]) (()) U) U (z_ U)) (pgs_cons (pg_name (i:=1) (bK (l:=["number","row"]) (()) U) U (z_ U)) pgs_nil))}) (kK () ()) (λ_ _ _=>oW) (λ_ _ _ _ G=>PV b3 N U G (ar (wv 1) (aW 0)) () U U) ()))))))),2};let b4:(Y "\n").length=1:=();rcases FE h with ⟨q,d,R,e⟩|⟨rfl,q⟩|⟨a,rfl,n,h⟩
 .show aJ λX b=>bW λC I j c=>{0100001,R.ty,eU K d,012};rw[e];show aH (j _ {z2,λt W=>{01,λu2 u0=>MU q (af.refl _) W u0}})
 .show aJ λX b=>bW λC I j c=>{0100001,gX.str _,eU K (.str (Y "")),012};rw[Gc];show aK (c _ (fc (b _ _ (aJ λX b=>bW λC I j c=>{01101,ao (λ_=>j _ {ϋ _,λl B=>q _ l [] (ac B _) B aa (by simp[Reps])}) (λh=>absurd (Z9 U) h)}))))
 let lt:=dM (Y "\n") a;let lb:=dD λy S=>n.l y S;rw[b4]at lt;let lm:a.length*1100000<=13*1100000:=F_ _ n.n;show aJ λX b=>bW λC I j c=>{0100001,gX.str _,eU K (.str (Τ (Y "\n") a)),012};rw[Gc];show aK (c _ (fc (b _ _ (aJ λX b=>bW λC I j c=>{01101,ao (λh=>absurd (V.str.inj (Z7 h)) n.ne) (λ_=>c _ (fc (b _ _ (aJ λX b=>?_))))}))));let a4:Txt.split (Τ (Y "\n") a) (Y "\n")=a:=fw 10 n.n0 λy S z=>n.lf y S z;show{0110,Y "\n",1133,by rw[a4,ι];omega,λg hg=>?_};rw[a4];let o:=ac hg (.lst (a.map V.str));let M:upd H g (.lst (a.map V.str)) g=Z (.lst (a.map V.str)):=aa;generalize upd H g (.lst (a.map V.str))=H1 at o M⊢;show gs b λX b=>bW λC I j c=>{01,g,01,.inl (aD.of M),0011012};rcases h with ⟨b6,q⟩|⟨b6,L,u⟩
 .show ao (λ_=>j _ {z2,λt W=>{01,λu2 u0=>MU q o W u0}}) (λh=>absurd (Z9 (by rw[ε];omega)) h)
 show ao (λh=>?_) (λ_=>c _ (fc (b _ _ ?_)))
 .let:(12:Int)<((a.map V.str).length:Int):=Z7 h;rw[ε]at this;omega
 let fl:=u.l;show{01,g,1,{0,aD.of M},Hf (λi ys H'=>i<=L.length/\af H1 H'/\Reps H' ((L.take i).map (·.1)) ys) {ϋ _,af.refl _,by simp[Reps]} (λi ys H' p=>aD.of (p.2.1 _ _ M)) ?_ ?_}
 .ext i ys H' x p G ⟨hi,s',R'⟩ hp;rw[ϑ]at G;ext(⟨z,hz,rfl⟩:ϫ.mp G);let u3:=ac hp (.tup [.int i,.str z]);rcases SW hi with e|b5
  .subst e;ext(⟨tz,no,th⟩:u.bad z hz);show fk aa {0101,z,L.length,1,.inr {tz,no,λH5 u2 p5 m h5 h6=>th H5 u2 p5 (o.trans (s'.trans (u3.trans m))) h5 h6}}
  .let e1:=u.at' i b5;rw[hz,ϑ]at e1;ext(⟨r,a2,rfl⟩:ϫ.mp e1.symm);show fk aa {0101,r.2,i,1,.inl {r.1,u.g r (ό a2),λH5 v m R5=>{23,s'.trans (u3.trans m),2}}}
   .let:=R'.length;rw[ε,Φ]at this;rw[this,ι];omega
   .rw[Ϥ,a2,Κ];show Reps.append (R'.mono (u3.trans m)) (be R5)
 .ext ys H4 ⟨B,s4,u1⟩ l a3;rw[ε]at B u1;let e:L.length=a.length:=();rw[<-e,ϧ]at u1;let m:=ac a3 (.lst ys);show u.all e _ l ys (o.trans (s4.trans m)) ((o.trans s4).free a3) aa (u1.mono m)
end
abbrev iE:ϸ:=vU (top 1) 0
abbrev mO:ϸ:=top 95
abbrev ky:ϸ:=top 96
structure KK(K:η)(mg:Str->Option ν)(D fI aNoProgram aTwice aNoBind aNoName aUnlike aParts aTooGreat aTooLong aNoValue aNoWords aNoLine:υ):Prop where
 top:Nu K D
 gD:mg "IndexwiseError"=Z (.ref D)
 cW:jN K D fI aNoWords
 oth:∀b∈[aNoProgram,aTwice,aNoBind,aNoName,aUnlike,aParts,aTooGreat,aTooLong,aNoValue,aNoLine],Lr K D b/\decide (b=aNoWords)=J
 gNoProgram:mg "NoProgram"=Z (.ref aNoProgram)
 gTwice:mg "Twice"=Z (.ref aTwice)
 gNoBind:mg "NoBind"=Z (.ref aNoBind)
 gNoName:mg "NoName"=Z (.ref aNoName)
 gUnlike:mg "Unlike"=Z (.ref aUnlike)
 gParts:mg "Parts"=Z (.ref aParts)
 gTooGreat:mg "TooGreat"=Z (.ref aTooGreat)
 gTooLong:mg "TooLong"=Z (.ref aTooLong)
 gNoValue:mg "NoValue"=Z (.ref aNoValue)
 gNoWords:mg "NoWords"=Z (.ref aNoWords)
 gNoLine:mg "NoLine"=Z (.ref aNoLine)
def Kg(h:n<=m)(a:m<=1000):n<=Λ:=()
def Et(n:Int):Dv:=.tup [.bl O,.tup [.int n,.int 0]]
inductive MW (aNoWords e:υ) (vs:List V) (H:Hp) (Q:VK) (u3_:XK):Prop|mk (dx p:υ) (n:Int) (_:vs=[.ref e]) (_:H e=Z (Xh aNoWords dx e)) (_:H dx=Z (.xd [("place",.ref p)])) (_:H p=Z (.tup [.int n,.int 0])) (_:∀H' v,af H H'->aj H' (Et n) v->Q v H')
inductive Jt (vs:List V) (H:Hp) (Q:VK) (u3_:XK):Prop|mk (v0:V) (_:vs=[v0]) (_:((∃rs:List (Dv×Str),v0=.str (Τ (Y "\n") (rs.map (·.2)))/\(∀r∈rs,ee r.1 r.2)/\rs.length<=12/\∀H',af H H'->Q .non H')\/∃k:Nat,Ba H v0 k/\∀H' v,af H H'->aj H' (Et k) v->Q v H'))
def ud:∀(xs:List Bool),Reps H (xs.map Dv.bl) (xs.map V.bl)
 |[]=>by simp[Reps]
 |x::xs=>by simp only[ϊ,Reps];show{0013,ud xs}
def Pp:∀i:Nat,i<12->([O,O,J,J,J,J,J,J,J,J,J,J]:List Bool).take (i+1)=([O,O,J,J,J,J,J,J,J,J,J,J]:List Bool).take i++[decide ((i:Int)<2)]:=()
section
variable{P:Ι}{w:ώ}{K:η}{mg:Str->Option ν}{base:ϙ}
def Ec:cK ["self","place"] ["self","place"] (av iE):=()
def Ek(F:Bk K "__init__" "IndexwiseError.__init__" iE fI fd dV)(T:Txt K mg):au P w K mg base bg 1 fI fd ["self","place"] (nt K D fI):=by
 show F.ok Ec (λvs H Q E h=>?_) (λm A l s H vs Q E n h=>?_)
 .ext(⟨e,C,t,v,rfl,_⟩:h);rfl
 ext(⟨e,C,t,v,rfl,k,c,q⟩:h);show{0,(@un _ _ _ (aS (pM (Rf D fI U T.ValueError () (ar (wv 0) (aW 1)))) (fD (RH D fI (wv 0) (wv 1))))),{0101,e,C,t,v,1,k,c,λt'=>{0101,e,C,t',1,aa,c,λa i g=>?_}}};let j:H a=Β:=by rw[ai g]at i;show i
 let y:upd (upd (upd H e (Xr C t' e)) a (.xd [("place",v)])) e (Xo C t' a e)=upd (upd H a (.xd [("place",v)])) e (Xo C t' a e):=by
  funext b;by_cases d:b=e
  .rw[d,aa,aa]
  .rw[ai d,ai d];by_cases f:b=a
   .rw[f,aa,aa]
   .rw[ai f,ai f,ai d]
 rw[y];show(q a t' j g)
def vz:cK ["_law_e","_law_some"] ["_law_e"] (av mO):=()
def Dl(F:Fun K "_law_marks" "_law_marks" mO f fd)(T:Txt K mg)(a:KK K mg D fI aNoProgram aTwice aNoBind aNoName aUnlike aParts aTooGreat aTooLong aNoValue aNoWords aNoLine):
  Ot P w K mg base eH (k+1) f fd ["_law_e"] (MW aNoWords eH):=by
 let nd:(["_law_e","_law_some"]:List Str).Nodup:=vz.nd;let u4:=a.gNoLine;show IG F vz (λvs H Q E h=>?_) (λu0 A b0 s H vs Q E u3 h=>?_)
 .ext(⟨e,p,n,rfl,_⟩:h);rfl
 ext(⟨e,p,n,rfl,c,g,j,q⟩:h);let u1:=u3.hd;let u2:(A.deeper (C8 "_law_marks" (av mO) s.heap.objs.size f u0)).units+8<C2:=by let:=u3.un;omega
 show{0,(@un _ _ _ (aS (aY 1 (dw (ar (cV (bQ (D:=D) (fI:=fI)) T.isinstance (ar (wv 0) (am (nU (.ref aNoWords) a.gNoWords)))) (ar (cV (bQ (D:=D) (fI:=fI)) T.isinstance (ar (wv 0) (am (zt (.ty "ValueError") T.ValueError U)))) (ar (cV (bQ (D:=D) (fI:=fI)) T.isinstance (ar (wv 0) (am (nU (.ref aNoProgram) a.gNoProgram)))) (am (cV (bQ (D:=D) (fI:=fI)) T.isinstance (ar (wv 0) (am (nU (.ref aTwice) a.gTwice)))))))))) (aS (aY 1 (aP bF (wv 1) (dw (ar (cV (bQ (D:=D) (fI:=fI)) T.isinstance (ar (wv 0) (am (nU (.ref aNoBind) a.gNoBind)))) (ar (cV (bQ (D:=D) (fI:=fI)) T.isinstance (ar (wv 0) (am (nU (.ref aNoName) a.gNoName)))) (ar (cV (bQ (D:=D) (fI:=fI)) T.isinstance (ar (wv 0) (am (nU (.ref aUnlike) a.gUnlike)))) (am (cV (bQ (D:=D) (fI:=fI)) T.isinstance (ar (wv 0) (am (nU (.ref aParts) a.gParts))))))))))) (aS (aY 1 (aP bF (wv 1) (dw (ar (cV (bQ (D:=D) (fI:=fI)) T.isinstance (ar (wv 0) (am (nU (.ref aTooGreat) a.gTooGreat)))) (ar (cV (bQ (D:=D) (fI:=fI)) T.isinstance (ar (wv 0) (am (nU (.ref aTooLong) a.gTooLong)))) (ar (cV (bQ (D:=D) (fI:=fI)) T.isinstance (ar (wv 0) (am (nU (.ref aNoValue) a.gNoValue)))) (am (cV (bQ (D:=D) (fI:=fI)) T.isinstance (ar (wv 0) (am (nU (.ref aNoLine) u4))))))))))) (bZ (dh (ar (qM (Gv u2) (wv 1) {La (own:=["_law_k"]) (ix:=[]) (Bt U T.range (pa_cons pe_int pa_nil)) (.of U) u1 (λ_ _ _=>pg_name (i:=0) (bK (l:=["_law_k"]) (()) U) U (z_ U)) (bz ()) (λ_ _ _=>pif_nil) (λ_ _ _=>(pe_cmpR iZ (pv 0) pe_int (xq _)))}) (am (RE D fI (wv 0)))))))))),2};show{01,eH,0,e,01,c,a.cW,.inl {001,a.cW.sub,Z9 U,{01,eH,0,e,01,c,a.cW,.inr {1,{01,eH,0,e,01,c,a.cW,.inl {001,(a.oth aNoProgram ()).1,(a.oth aNoProgram ()).2,{01,eH,0,e,01,c,a.cW,.inl {001,(a.oth aTwice ()).1,(a.oth aTwice ()).2,{Kg (Α 4) (),λC n1=>?_}}}}}}}}};let I:=ac n1 (.lst [.bl O,.bl O,.bl J,.bl J]);let c:=I _ _ c;let M:upd H C (.lst [.bl O,.bl O,.bl J,.bl J]) C=Z (.lst [.bl O,.bl O,.bl J,.bl J]):=aa;let g:=I _ _ g;let j:=I _ _ j;generalize upd H C (.lst [.bl O,.bl O,.bl J,.bl J])=y at I c g j M⊢;show{01,{01,eH,0,e,01,c,a.cW,.inl {001,(a.oth aNoBind ()).1,(a.oth aNoBind ()).2,{01,eH,0,e,01,c,a.cW,.inl {001,(a.oth aNoName ()).1,(a.oth aNoName ()).2,{01,eH,0,e,01,c,a.cW,.inl {001,(a.oth aUnlike ()).1,(a.oth aUnlike ()).2,{01,eH,0,e,01,c,a.cW,.inl {001,(a.oth aParts ()).1,(a.oth aParts ()).2,{Kg (Α 4) (),λu n2=>?_}}}}}}}}}};let B:=ac n2 (.lst [.bl J,.bl J,.bl J,.bl J]);show{C,u,0011,B _ _ M,aa,Kg (Α 8) (),λm n3=>?_};let v:=B.trans (ac n3 (.lst [.bl O,.bl O,.bl J,.bl J,.bl J,.bl J,.bl J,.bl J]));let c:=v _ _ c;let g:=v _ _ g;let j:=v _ _ j;let L:upd (upd y u (.lst [.bl J,.bl J,.bl J,.bl J])) m (.lst ([.bl O,.bl O,.bl J,.bl J]++[.bl J,.bl J,.bl J,.bl J])) m=Z (.lst [.bl O,.bl O,.bl J,.bl J,.bl J,.bl J,.bl J,.bl J]):=aa;replace v:af y (upd (upd y u (.lst [.bl J,.bl J,.bl J,.bl J])) m (.lst ([.bl O,.bl O,.bl J,.bl J]++[.bl J,.bl J,.bl J,.bl J]))):=v;replace c:upd (upd y u (.lst [.bl J,.bl J,.bl J,.bl J])) m (.lst ([.bl O,.bl O,.bl J,.bl J]++[.bl J,.bl J,.bl J,.bl J])) eH=Z (Xh aNoWords e eH):=c;replace g:upd (upd y u (.lst [.bl J,.bl J,.bl J,.bl J])) m (.lst ([.bl O,.bl O,.bl J,.bl J]++[.bl J,.bl J,.bl J,.bl J])) e=_:=g;replace j:upd (upd y u (.lst [.bl J,.bl J,.bl J,.bl J])) m (.lst ([.bl O,.bl O,.bl J,.bl J]++[.bl J,.bl J,.bl J,.bl J])) p=_:=j;generalize upd (upd y u (.lst [.bl J,.bl J,.bl J,.bl J])) m (.lst ([.bl O,.bl O,.bl J,.bl J]++[.bl J,.bl J,.bl J,.bl J]))=r at v c g j L⊢;show{01,{01,eH,0,e,01,c,a.cW,.inl {001,(a.oth aTooGreat ()).1,(a.oth aTooGreat ()).2,{01,eH,0,e,01,c,a.cW,.inl {001,(a.oth aTooLong ()).1,(a.oth aTooLong ()).2,{01,eH,0,e,01,c,a.cW,.inl {001,(a.oth aNoValue ()).1,(a.oth aNoValue ()).2,{01,eH,0,e,01,c,a.cW,.inl {001,(a.oth aNoLine ()).1,(a.oth aNoLine ()).2,{Kg (Α 4) (),λt n4=>?_}}}}}}}}}};let W:=ac n4 (.lst [.bl J,.bl J,.bl J,.bl J]);show{m,t,0011,W _ _ L,aa,Kg (Α 12) (),λo n5=>?_};let X:=W.trans (ac n5 (.lst [.bl O,.bl O,.bl J,.bl J,.bl J,.bl J,.bl J,.bl J,.bl J,.bl J,.bl J,.bl J]));let c:=X _ _ c;let g:=X _ _ g;let j:=X _ _ j;let G:upd (upd r t (.lst [.bl J,.bl J,.bl J,.bl J])) o (.lst ([.bl O,.bl O,.bl J,.bl J,.bl J,.bl J,.bl J,.bl J]++[.bl J,.bl J,.bl J,.bl J])) o=Z (.lst ([O,O,J,J,J,J,J,J,J,J,J,J].map V.bl)):=aa;replace X:af r (upd (upd r t (.lst [.bl J,.bl J,.bl J,.bl J])) o (.lst ([.bl O,.bl O,.bl J,.bl J,.bl J,.bl J,.bl J,.bl J]++[.bl J,.bl J,.bl J,.bl J]))):=X;replace c:upd (upd r t (.lst [.bl J,.bl J,.bl J,.bl J])) o (.lst ([.bl O,.bl O,.bl J,.bl J,.bl J,.bl J,.bl J,.bl J]++[.bl J,.bl J,.bl J,.bl J])) eH=Z (Xh aNoWords e eH):=c;replace g:upd (upd r t (.lst [.bl J,.bl J,.bl J,.bl J])) o (.lst ([.bl O,.bl O,.bl J,.bl J,.bl J,.bl J,.bl J,.bl J]++[.bl J,.bl J,.bl J,.bl J])) e=_:=g;replace j:upd (upd r t (.lst [.bl J,.bl J,.bl J,.bl J])) o (.lst ([.bl O,.bl O,.bl J,.bl J,.bl J,.bl J,.bl J,.bl J]++[.bl J,.bl J,.bl J,.bl J])) p=_:=j;generalize upd (upd r t (.lst [.bl J,.bl J,.bl J,.bl J])) o (.lst ([.bl O,.bl O,.bl J,.bl J,.bl J,.bl J,.bl J,.bl J]++[.bl J,.bl J,.bl J,.bl J]))=H5 at X c g j G⊢;show{012};show{(12),aNoWords,e,133,rg (λi ys H'=>H'=H5/\ys=(([O,O,J,J,J,J,J,J,J,J,J,J]:List Bool).take i).map V.bl) {11} (λi ys H' N z=>{N,by rw[z.1];show c}) (λys H' z=>{Α _,by rw[z.1];show c}) ?_ ?_}
 .ext i ys H' x H6 N ⟨rfl,rfl⟩ ⟨rfl,rfl⟩;show bt {010011212}
  .rw[ε,Φ,ι];omega
  .rw[Pp i N,Κ];rfl
 .ext ys H' ⟨rfl,rfl⟩ q6 n6;let R:=ac n6 (.lst ((([O,O,J,J,J,J,J,J,J,J,J,J]:List Bool).take 12).map V.bl));show{([O,O,J,J,J,J,J,J,J,J,J,J]:List Bool).map Dv.bl,22,λd hd=>?_,{01,eH,0,e,.ref p,1,R _ _ c,a.cW,R _ _ g,z2,λq7 n7=>?_}}
  .rw[aj];show{o,01,R _ _ G,ud _}
  .rw[aj];show{q6,01,aa,ud _}
  .ext(⟨b,_,rfl⟩:Ρ.mp hd);show zO.mono ()
  .let S:=ac n7 (.tup [.bl O,.ref p]);show q _ _ (I.trans (v.trans (X.trans (R.trans S)))) ?_;show dX aa () ?_;rw[aj];show{p,01,S _ _ (R _ _ j),by simp only[Reps];show{001300131}}
def pC:cK ["_law_text","_law_told","_law_e"] ["_law_text"] (av ky):=()
def wI(F:Fun K "_law_refused" "_law_refused" ky f fd)(T:Txt K mg)(a:KK K mg D fI aNoProgram aTwice aNoBind aNoName aUnlike aParts aTooGreat aTooLong aNoValue aNoWords aNoLine)
  (y:au P w K mg base (eE P w) k fr fdr ["text"] (Ax aNoWords)) (v:mg "read"=Z (.ref fr)) (u:ϰ K (.ref fr)=O) (x:bE K fdr ["text"] [])
  (r:∀e,Ot P w K mg base e k fm fdm ["_law_e"] (MW aNoWords e)) (m:mg "_law_marks"=Z (.ref fm)) (o:ϰ K (.ref fm)=O) (t:bE K fdm ["_law_e"] []):au P w K mg base bg (k+1) f fd ["_law_text"] Jt:=by
 let N:=pC.nd;show F.ok pC (λvs H Q E h=>?_) (λu1 A u0 s H vs Q E j h=>?_)
 .ext(⟨V,rfl,_⟩:h);rfl
 ext(⟨V,rfl,h⟩:h);show{0,(@un _ _ _ (aS (aY 1 vj) (aS (Rq D fI 2 y j U v u x (aW 0) (λ_ _ z=>z) U a.top U a.gD U U N U U (λeH=>(fD (aY 1 {Ck (r eH) (qH.of j) U m o t (pa_cons (pv 2) pa_nil)})))) (bZ (wv 1))))),2};rcases h with ⟨W,rfl,I,X,q⟩|⟨n,R,q⟩
 .show dQ {0101,.inl {W,1,I,X,λg l us c _ _ _=>?_}};show{01,q g c}
 .show dQ {0101,.inr {n,R,λg d p c i G=>{00011,a.cW,i,λe S=>?_}}};let b:=ac S (Xh aNoWords d e);show{01,d,p,n,1,aa,b _ _ i,b _ _ G,λC L M B=>{01,q C L (c.trans (b.trans M)) B}}
end
open PySem L2 KB XB WR
def FJ(c:Nat):Prop:=(97<=c/\c<=122)\/(48<=c/\c<=57)\/(40<=c/\c<=44)\/c=32\/c=58\/c=61
def qm(h:Ch x):∀c∈x.cps.toList,FJ c:=λc a=>by let:=h c a;unfold FJ;omega
def Ld(h:ee d x):∀c∈x.cps.toList,FJ c:=by
 let j:∀{a b:Str},(∀c∈a.cps.toList,FJ c)->(∀c∈b.cps.toList,FJ c)->∀c∈(a++b).cps.toList,FJ c:=λh g c l=>by
  rw[ak]at l;rcases Ν.mp l with z|z
  .show h c z
  .show g c z
 rcases h with ⟨e,b,rfl,rfl,k⟩|⟨f,o,ps,e,b,rfl,rfl,m,k⟩
 .show j (qm (by unfold Ch;decide +kernel)) (qm (vW k.1))
 .unfold DT;show j (j (j (j (qm (fV Ja λy i=>?_)) (qm (by unfold Ch;decide +kernel))) (qm (fV pf λy i=>?_))) (by unfold FJ;decide +kernel)) (qm (vW k.1))
  .rcases ξ.mp i with rfl|i
   .unfold Ch;decide +kernel
   .show hV (uQ m y i)
  .ext(⟨p,n,rfl⟩:Ρ.mp i);show zr (m.pn p n)
def Gf(a:c∈x.cps.toList)(h:¬ FJ c):∀d,¬ ee d x:=λd w=>h (Ld w c a)
def jl(l:List Nat):Prop:=l.count 40=l.count 41
def jT(h:jl a)(g:jl b):jl (a++b):=by unfold jl at *;rw[ϥ,ϥ,h,g]
def ib(h:∀c∈l,c≠40/\c≠41):jl l:=by unfold jl;rw[i7 λz=>(h 40 z).1 U,i7 λz=>(h 41 z).2 U]
def ni(c:jl s.cps.toList):∀{ys:List Str},(∀y∈ys,jl y.cps.toList)->jl (Τ s ys).cps.toList
 |[],_=>by change jl (Τ s []).cps.toList;show ib (by rw[show Τ s []=Y "" from U];decide +kernel)
 |[a],h=>by rw[aR];show h a π
 |a::b::r,h=>by rw[aO,ak,ak];show jT (jT (h a π) c) (ni c λy d=>h y (ρ _ d))
def KO:∀{b:Br},(∀c∈(oF b).cps.toList,c≠40/\c≠41)->(∀w ts,b=.nd w ts->∀t∈ts,jl (aL t).cps.toList)->jl (aL b).cps.toList
 |.leaf w,h,_=>by rw[aL];show ib h
 |.nd w ts,h,g=>by
  rw[aL,dE,ak,ak,ak];let e:(Y "(").cps.toList=[40]:=();let d:(Y ")").cps.toList=[41]:=();let j:jl (Τ (Y ", ") (ts.map aL)).cps.toList:=ni (by unfold jl;decide +kernel) λy f=>by ext(⟨t,a,rfl⟩:Ρ.mp f);show g w ts U t a
  unfold jl at *;rw[e,d,ϥ,ϥ,ϥ,ϥ,ϥ,ϥ,j,(ib (l:=w.cps.toList) h)];simp;omega
def NB(x:Str):Prop:=∀c∈x.cps.toList,c≠40/\c≠41
def Dy(h:NB a)(g:NB b):NB (a++b):=λc d=>by
 rw[ak]at d;rcases Ν.mp d with z|z
 .show h c z
 .show g c z
def yY(h:NB s)(g:∀y∈ys,NB y):NB (Τ s ys):=λc a=>by
 rcases gr a with z|⟨y,b,z⟩
 .show h c z
 .show g y b c z
def je(h:bT x=O):NB x:=λc a=>by let:=(ci h).2.2 c a;omega
def xT(a:0<=n)(b:n<10^60):NB (bx n):=λc d=>by let:=dJ a b c d;omega
def xm(a:Wa c ps):NB (dN c ps):=by
 show yY (by unfold NB;decide +kernel) λy e=>?_;rcases Ν.mp e with b|b
 .ext(⟨p,d,rfl⟩:Ρ.mp b);unfold aX;split
  .show je (a.2 p d)
  .let:=a.1.can.ge p d;show Dy (Dy (xT () (a.1.le p d).1) (by unfold NB;decide +kernel)) (je (a.2 p d))
 .split at b
  .rw[ο.mp b];show xT a.1.c0 a.1.c1
  .cases b
def oH(h:NB w)(g:∀t∈ts,jl (aL t).cps.toList):jl (aL (.nd w ts)).cps.toList:=KO h λ_ _ e t a=>by cases e;show g t a
def fH(h:NB w):jl (aL (.leaf w)).cps.toList:=by rw[aL];show ib h
def nu:∀{k:Kd},k.All Wa->jl (aL (cj k)).cps.toList
 |.whole,_=>by rw[cj];show fH (by unfold NB;decide +kernel)
 |.place c ps,h=>by rw[cj];show oH (by unfold NB;decide +kernel) λt a=>by rw[ο.mp a];show fH (xm h)
 |.row c ps k,h=>by
  rw[cj];show oH (by unfold NB;decide +kernel) λt a=>?_;rcases ξ.mp a with rfl|a
  .show fH (xm h.1)
  .rw[ο.mp a];show nu h.2
 |.pair i j,h=>by
  rw[cj];show oH (by unfold NB;decide +kernel) λt a=>?_;rcases ξ.mp a with rfl|a
  .show nu h.1
  .rw[ο.mp a];show nu h.2
def KJ(e:∀d b,R d b->jl (aL b).cps.toList):∀{s:So}{d:Dv}{b:Br},Ag R s d b->jl (aL b).cps.toList
 |.e,_,_,h=>e _ _ h
 |.l,_,_,h=>by ext(⟨c,ps,_,rfl,f⟩:h);show fH (xm f.1)
 |.k,_,_,h=>by ext(⟨k,_,rfl,a,_⟩:h);show nu (bn (λ_ _ h=>h.1) a)
 |.x,_,_,h=>by ext(⟨y,_,rfl,n⟩:h);show fH (je n)
 |.y,_,_,h=>by ext(⟨y,_,rfl,n⟩:h);show fH (je n)
def Hs(f:∀d b,R d b->jl (aL b).cps.toList)(h:mq R ss ds bs):∀b∈bs,jl (aL b).cps.toList:=by
 induction h with
 |nil=>show nofun
 |cons a _ e=>
  intro b c;rcases ξ.mp c with rfl|c
  .show KJ f a
  .show e b c
def xk:∀{n:Nat}{d:Dv}{b:Br},Wx n d b->jl (aL b).cps.toList
 |n+1,d,b,h=>by
  let e:∀d b,Wx n d b->jl (aL b).cps.toList:=λd b=>xk;rw[Wx]at h;rcases h with ⟨i,m,w,rfl,rfl⟩|⟨y,k,rfl,rfl⟩|⟨f,ds,bs,o,_,_,l,c,rfl,rfl⟩|⟨r,d1,d2,t,v,s,j,g,rfl,rfl⟩|⟨ds,bs,u,l,c,rfl,rfl⟩|⟨p,ds,bs,q,_,c,_,rfl,rfl⟩
  .show fH (xT m ())
  .show fH (je k)
  .show oH (je o) λb a=>by ext(⟨d,_,r⟩:c.mem.2 b a);show e d b r
  .show oH (je (eV r (cR s)).1) λb a=>?_;rcases ξ.mp a with rfl|a
   .show e _ _ j
   .rw[ο.mp a];show e _ _ g
  .show oH (by unfold NB;decide +kernel) λb a=>by ext(⟨d,_,r⟩:c.mem.2 b a);show e d b r
  .show oH (je (kX p q)) (Hs e c)
def zF(h:ee d x):jl x.cps.toList:=by
 rcases h with ⟨e,b,rfl,rfl,g⟩|⟨f,n,ps,e,b,rfl,rfl,c,g⟩
 .rw[ak];show jT (ib ()) (xk g.1)
 .unfold DT
  let m:jl (Τ (Y " ") (Y "def" :: f::n)).cps.toList:=ib (yY (by unfold NB;decide +kernel) λy a=>by
   rcases ξ.mp a with rfl|a
   .unfold NB;decide +kernel
   .show je (uQ c y a))
  let k:jl (Τ (Y ", ") (ps.map cy)).cps.toList:=ni (by unfold jl;decide +kernel) λy a=>by ext(⟨p,i,rfl⟩:Ρ.mp a);rw[<-mE,gt,zp,ak,ak];show jT (jT (ib (je (c.pn p i).nm)) (ib ())) (nu (bn (λ_ _ h=>h.1) (c.pn p i).sm))
  let o:=xk g.1;let l:(Y " (").cps.toList=[32,40]:=();let j:(Y ") = ").cps.toList=[41,32,61,32]:=();rw[ak,ak,ak,ak,l,j];unfold jl at *;simp only[ϥ,m,k,o];simp;omega
def CG(h:ee d0 x)(e:y.cps.toList=x.cps.toList++[40]\/y.cps.toList=x.cps.toList++[41]):∀d,¬ ee d y:=λd w=>by let b:=zF h;let a:=zF w;unfold jl at b a;rcases e with e|e<;>rw[e,ϥ,ϥ,b]at a<;>simp at a
def BN(h:ee d x):x.cps.toList[0]?=Z 97\/x.cps.toList[0]?=Z 100:=by
 rcases h with ⟨e,b,rfl,rfl,a⟩|⟨f,c,ps,e,b,rfl,rfl,g,a⟩
 .show .inl ?_;rw[ak,e_ ()];decide +kernel
 .show .inr ?_;rw[Jp,ak,e_ ()];decide +kernel
def vA(e:x.cps.toList=c::r)(a:c≠97)(b:c≠100):∀d,¬ ee d x:=λd w=>by
 rcases BN w with h|h<;>rw[e]at h<;>simp at h
 .show a h
 .show b h
def Mb(l:List Nat):Prop:=∃(u:List Nat) (c:Nat),l=u++[c]/\c≠32/\c≠44
def zx(h:Mb l):Mb (a++l):=by ext(⟨u,c,rfl,h⟩:h);show{a++u,c,by rw[Γ],h}
def yZ(a:l≠[])(h:∀c∈l,c≠32/\c≠44):Mb l:=by
 rcases K1 l with z|⟨u,c,rfl⟩
 .show absurd z a
 .show{u,c,Q1,h c ()}
def rL(w:Str)(ts:List Br):Mb (aL (.nd w ts)).cps.toList:=by rw[aL,ak,show(Y ")").cps.toList=[41] by decide +kernel];show{0,(41),133}
def Au(h:bT x=O):x.cps.toList≠[]:=λz=>by let:=(aV h).1;let e:=io x;rw[z]at e;let a:x.length=x.cps.size:=U;simp at e;omega
def DI:∀{n:Nat}{d:Dv}{b:Br},Wx n d b->Mb (aL b).cps.toList
 |n+1,d,b,h=>by
  let g:=(qS h).1;rw[Wx]at h;rcases h with ⟨i,m,H,rfl,rfl⟩|⟨y,j,rfl,rfl⟩|⟨f,ds,bs,u,_,_,l,k,rfl,rfl⟩|⟨r,d1,d2,s,w,Q,q,o,rfl,rfl⟩|⟨ds,bs,v,l,k,rfl,rfl⟩|⟨p,ds,bs,x,_,k,_,rfl,rfl⟩
  .rw[aL];rw[bG]at g;show yZ (λz=>by let e:=io (bx i);rw[z]at e;let:=g.2;let t:(bx i).length=(bx i).cps.size:=U;simp at e;omega) λc a=>by let:=dJ m () c a;omega
  .rw[aL];show yZ (Au j) λc a=>by let:=(ci j).2.2 c a;omega
  .show rL _ _
  .show rL _ _
  .show rL _ _
  .show rL _ _
def EH(h:ee d x):Mb x.cps.toList:=by
 rcases h with ⟨e,b,rfl,rfl,a⟩|⟨f,c,ps,e,b,rfl,rfl,g,a⟩
 .rw[ak];show zx (DI a.1)
 .unfold DT;rw[ak];show zx (DI a.1)
def yX(e:x.cps.toList=l++[c])(h:c=32\/c=44):∀d,¬ ee d x:=λd w=>by
 ext(⟨u,g,a,b,f⟩:EH w);rw[e]at a;let:=List.append_inj_right' a U;injection this with z;subst z;rcases h with h|h
 .show b h
 .show f h
def gU(n:Nat)(l:List Nat):Prop:=∀u v w,l=u++v++w->(∀c∈v,bo c=J)->v.count 43<=n
def Fu(h:gU n l)(e:l=u++v++w):gU n v:=λa b c d f=>h (u++a) b (c++w) (by rw[e,d];simp only[Γ]) f
def ic(h:l.count 43<=n):gU n l:=λu v w e _=>by rw[e,ϥ,ϥ]at h;omega
def rl(g:bo c=O):∀{v w a b:List Nat},v++w=a++c::b->(∀d∈v,bo d=J)->∃r,a=v++r
 |[],w,a,b,_,_=>{a,1}
 |d::v,w,[],b,e,h=>by injection e with f _;let:=h d π;rw[f,g]at this;cases this
 |d::v,w,x::a,b,e,h=>by injection e with f i;obtain⟨r,k⟩:=rl g i λy j=>h y (ρ _ j);show{r,by rw[f,k];rfl}
def iH(g:bo c=O)(i:gU n b):∀{a:List Nat},gU n a->gU n (a++c::b)
 |a,h,u,v,w,e,f=>by
  induction a generalizing u with
  |nil=>
   cases u with
   |nil=>
    cases v with
    |nil=>show ϋ _
    |cons d v=>injection e with k _;let:=f d π;rw[<-k,g]at this;cases this
   |cons d u=>show i u v w (by injection e) f
  |cons x a l=>
   cases u with
   |nil=>obtain⟨r,m⟩:=rl g (by rw[e];rfl) f;show h [] v r (by rw[m];rfl) f
   |cons d u=>injection e with _ j;show l (Fu (u:=[x]) (w:=[]) h ()) u j
def HY(h:gU n l):gU n (32::l):=λu v w e a=>by
 cases u with
 |nil=>
  cases v with
  |nil=>show ϋ _
  |cons d v=>injection e with g f;rw[<-g,TD];let:=h [] v w f λc b=>a c (ρ _ b);simpa using this
 |cons d u=>show h u v w (by injection e) a
def kg:∀{ys:List Str},(∀y∈ys,gU n y.cps.toList)->gU n (Τ (Y ", ") ys).cps.toList
 |[],_=>by rw[show Τ (Y ", ") []=Y "" from U];show ic (by rw[show(Y "").cps.toList.count 43=0 by decide +kernel];show ϋ _)
 |[a],h=>by rw[aR];show h a π
 |a::b::r,h=>by rw[aO,ak,ak,show(Y ", ").cps.toList=[44,32] by decide +kernel,Γ];show iH U (HY (kg λy c=>h y (ρ _ c))) (h a π)
def Hz(b:w.cps.toList.count 43<=n)(h:∀t∈ts,gU n (aL t).cps.toList):gU n (aL (.nd w ts)).cps.toList:=by rw[aL,dE,ak,ak,ak,show(Y "(").cps.toList=[40] by decide +kernel,show(Y ")").cps.toList=[41] by decide +kernel,Γ,Γ];show iH U (iH U (ic (ϋ _)) (kg λy c=>by ext(⟨t,a,rfl⟩:Ρ.mp c);show h t a)) (ic b)
def rP:∀{v b u w:List Nat}{c:Nat},v++b=u++c::w->(∃r,u=v++r)\/∃q,v=u++c::q/\w=q++b
 |[],b,u,w,c,_=>.inl {u,1}
 |d::v,b,[],w,c,e=>by injection e with a f;show .inr {v,by rw[a];rfl,f.symm}
 |d::v,b,x::u,w,c,e=>by
  injection e with a f;rcases rP (v:=v) f with ⟨r,h⟩|⟨q,g,i⟩
  .show .inl {r,by rw[a,h];rfl}
  .show .inr {q,by rw[a,g];rfl,i}
def vB(h:gU n (u++w))(j:c≠43):gU n (u++c::w):=by
 intro a v b e f;rcases rP (v:=a) (by rw[e,Γ])with ⟨r,rfl⟩|⟨q,rfl,rfl⟩
 .let g:v++b=r++c::w:=by
   rw[Γ,Γ]at e;show(List.append_cancel_left e).symm
  rcases rP g with ⟨i,rfl⟩|⟨q,rfl,rfl⟩
  .show h a v (i++w) (by simp only[Γ]) f
  .let z:=h a (r++q) b (by simp only[Γ]) λd k=>f d (by
    rcases Ν.mp k with z|z
    .show r6 _ z
    .show ϛ _ (ρ _ z))
   rw[ϥ]at z;rw[ϥ,TD,show(c==43)=J from ↑j];simpa using z
 .show h (u++q) v b (by simp only[Γ]) f
def GQ(h:w.cps.toList.count 43<=20):gU 20 (aL (.leaf w)).cps.toList:=by rw[aL];show ic h
def Gi:∀{b:Br},cL b->gU 20 (aL b).cps.toList
 |.leaf w,h=>by rw[cL]at h;show GQ h.2
 |.nd w ts,h=>by rw[cL]at h;show Hz h.1.2 λt a=>Gi (dP h.2.2 t a)
def ft(e:gU n b):∀{a:List Nat},(∀c∈a,c≠43)->gU n (a++b)
 |[],_=>e
 |c::a,h=>vB (u:=[]) (ft e λd f=>h d (ρ _ f)) (h c π)
def HQ(h:ee d x):me x.cps.toList:=by
 rcases h with ⟨e,b,rfl,rfl,j⟩|⟨f,l,ps,e,b,rfl,rfl,i,j⟩
 .rw[ak];show ft (Gi (Ho j.1)) ()
 .unfold DT;rw[ak,ak,ak,ak,show(Y " (").cps.toList=[32,40] by decide +kernel,show(Y ") = ").cps.toList=[41,32,61,32] by decide +kernel,Γ,Γ,Γ];show ft ?_ λc g=>?_
  .show ft ?_ ();show iH U (ft (Gi (Ho j.1)) ()) (kg λy a=>?_);ext(⟨p,k,rfl⟩:Ρ.mp a);rw[<-mE,gt,zp,ak,ak,Γ];show ft (ft (Gi (AU (bn (λ_ _ h=>h.1) (i.pn p k).sm))) ()) λc g=>?_;let:=(ci (i.pn p k).nm).2.2 c g;omega
  .rcases gr g with z|⟨y,a,z⟩
   .rw[show(Y " ").cps.toList=[32] by decide +kernel,ο]at z;omega
   .rcases ξ.mp a with rfl|a
    .show(show ∀c∈(Y "def").cps.toList,c≠43 by decide +kernel) c z
    .let:=(ci (uQ i y a)).2.2 c z;omega
abbrev cs(x:Str):List Nat:=x.cps.toList
def aT(a b:Str):cs (a++b)=cs a++cs b:=ak a b
def fv(k:Nat)(l:List Nat):List Nat:=l.takeWhile (· != k)
def BQ(k:Nat)(l:List Nat):List Nat:=l.dropWhile (· != k)
def Ie:∀{a:List Nat},k∉a->∀b,fv k (a++k::b)=a/\BQ k (a++k::b)=k::b/\fv k a=a/\BQ k a=[]
 |[],_,b=>by simp[fv,BQ]
 |c::a,h,b=>by obtain⟨e,d,i,f⟩:=Ie (λz=>h (ρ _ z)) b;let g:(c != k)=O:=bne_iff_ne.mpr λz=>h (by rw[z];show π);unfold fv BQ at *;simp only[h_,List.takeWhile_cons,List.dropWhile_cons,g,if_true,e,d,i,f,and_self]
def dk(p:Nat×Nat)(c:Nat):Option (Nat×Nat):=
 if p.1=3 then (if c=32 then Z (4,p.2)else Β)else if 97<=c then Z (0,p.2)else if p.1=4\/c=32 then Β
 else if c=58 then (if p.2<4 then Z (3,p.2+1)else Β)else if c=44 then Z (3,p.2)
 else if 48<=c then (if p.1<2 then Z (p.1+1,p.2)else Β)else Z (0,p.2)
def rk(p:Nat×Nat)(l:List Nat):Option (Nat×Nat):=l.foldlM dk p
def gF(h:rk p a=Z q):rk p (a++b)=rk q b:=by unfold rk at *;rw[List.foldlM_append,h];rfl
def Qu(h:t<=2)(a:c∈[40,41,42,43]):dk (t,k) c=Z (0,k):=by
 simp only[ξ,A1,or_false]at a;unfold dk
 (repeat' split)
 all_goals first|rfl|(exfalso;omega)
def rS(h:t<=2)(a:autoParam (c∈[40,41,42,43]) yD._auto_1):rk (t,k) (c::l)=rk (0,k) l:=by unfold rk;rw[I_,Qu h a];rfl
def Li(h:t<=2):rk (t,k) (44::32::l)=rk (4,k) l:=by
 let:dk (t,k) 44=Z (3,k):=by unfold dk;(repeat' split)<;>first|rfl|(exfalso;omega)
 unfold rk;rw[I_,this];rfl
def IW:∀{l:List Nat}{s:Nat},s≠3->l≠[]->(∀c∈l,97<=c)->rk (s,k) l=Z (0,k)
 |c::l,s,hs,_,h=>by
  let e:dk (s,k) c=Z (0,k):=by unfold dk;rw[Z6 hs,Z5 (h c π)]
  unfold rk;rw[I_,e];cases l with
  |nil=>rfl
  |cons d l=>show IW () nofun λc a=>h c (ρ _ a)
def pB(a:s≠3)(h:bT x=O):rk (s,k) (cs x)=Z (0,k):=IW a (λz=>by let:=(ci h).1;ext(⟨c,r,e⟩:dq this);rw[show cs x=c::r from e]at z;cases z) λc b=>((ci h).2.2 c b).1
def Lt(l:List Nat):Prop:=∀k,∃t,t<=2/\rk (0,k) l=Z (t,k)
def Eu(e:0<=i)(j:i<=99):Lt (cs (bx i)):=λk=>by
 let l:(cs (bx i)).length<=2:=by let:=P_ e (k:=2) () ();rw[show(cs (bx i)).length=(bx i).length from Θ];show this
 let f:∀c∈cs (bx i),48<=c/\c<=57:=dJ e ();let d:∀{s c:Nat},s<2->48<=c/\c<=57->dk (s,k) c=Z (s+1,k):=λ{s c} m n=>by unfold dk;(repeat' split);all_goals first|rfl|(exfalso;omega)
 generalize cs (bx i)=g at l f⊢;match g,l,f with
 |[],_,_=>show{(0),31}
 |[a],_,h=>show{(1),3,by unfold rk;rw[I_,d () (h a ())];rfl}
 |[a,b],_,h=>show{(2),3,by unfold rk;rw[I_,d () (h a ())];change(dk (0+1,k) b>>=_)=_;rw[d () (h b ())];rfl}
def Mn(h:Sm c ps):c<=99/\∀p∈ps,p.2<=99:=by let z:=h.2.1;let z:((O&&(decide (0<=c)&&qE "" (bi ps)))&&(decide (c<=99)&&(bi ps).all λp=>decide (gb p<=99)))=O:=z;simp only[χ,decide_eq_true_eq,Ϸ]at z;show{z.2.1,λp a=>z.2.2 (.tup [.str p.1,.int p.2]) (Ρ.mpr {p,a,1})}
def Cz(h:Sm c ps):Lt (cs (dN c ps)):=by
 let n:∀{ys:List Str},(∀y∈ys,Lt (cs y))->Lt (cs (Τ (Y "+") ys)):=λ{ys}=>by
  induction ys with
  |nil=>exactλ_ k=>{(0),31}
  |cons a ys m=>
   cases ys with
   |nil=>exactλh=>h a π
   |cons b ys=>intro h k;ext(⟨t,g,e⟩:h a π k);rw[aO,aT,aT,Γ,gF e];change ∃t,t<=2/\rk _ (43::cs _)=_;rw[rS g];show m (λy d=>h y (ρ _ d)) k
 show n λy d=>?_;ext(⟨l,j⟩:Mn h);rcases Ν.mp d with d|d
 .ext(⟨p,f,rfl⟩:Ρ.mp d);let i:=h.1.2 p f;unfold aX;split
  .exactλk=>{(0),3,pB () i}
  .intro k;obtain⟨t,g,e⟩:=Eu (by let:=h.1.1.can.ge p f;omega) (j p f) k;rw[aT,aT,Γ,gF e];change ∃t,t<=2/\rk _ (42::cs _)=_;rw[rS g,pB () i];show{(0),31}
 .split at d
  .rw[ο.mp d];show Eu h.1.1.c0 l
  .cases d
def qW:∀{d:Kd}{s k:Nat}(r:List Nat),s≠3->d.All Sm->∃t,t<=2/\rk (s,k) (cs (gT d)++r)=rk (t,k) r
 |.whole,s,k,r,f,_=>{(0),3,gF (pB f ())}
 |.place c ps,s,k,r,f,h=>by ext(⟨t,g,e⟩:Cz h k);show{(0),32};rw[gT,aR];simp only[aT,Γ];rw[gF (pB f ())];change rk _ (40::(_++41::r))=_;rw[rS (),gF e,rS g]
 |.row c ps d,s,k,r,f,h=>by ext(⟨t,g,e⟩:Cz h.1 k);show{(0),32};rw[gT,aO,aR];simp only[aT,Γ];rw[gF (pB f ())];change rk _ (40::(_++44::32::(_++41::r)))=_;ext(⟨t',i,j⟩:qW (s:=4) (41::r) () h.2);rw[rS (),gF e,Li g,j,rS i]
 |.pair a b,s,k,r,f,h=>by show{(0),32};rw[gT,aO,aR];simp only[aT,Γ];rw[gF (pB f ())];change rk _ (40::(_++44::32::(_++41::r)))=_;ext(⟨t,g,e⟩:qW (s:=0) (44::32::(cs (gT b)++41::r)) () h.1);ext(⟨t',i,j⟩:qW (s:=4) (41::r) () h.2);rw[rS (),e,Li g,j,rS i]
def IS:∀{ps:List qg}{k:Nat},ps≠[]->k+ps.length<=4->(∀p∈ps,mj p)->∃t,t<=2/\rk (4,k) (cs (Τ (Y ", ") (ps.map cy)))=Z (t,k+ps.length)
 |p::ps,k,_,hk,h=>by
  rw[Δ]at hk;let a:=h p π;let c:∀r,rk (4,k) (cs (cy p)++r)=rk (4,k+1) (cs (gT p.2)++r):=λr=>by
   unfold cy;simp only[aT,Γ];rw[gF (pB () a.nm)];change rk _ (58::32::(cs (gT p.2)++r))=_;let:dk (0,k) 58=Z (3,k+1):=by unfold dk;simp;omega
   unfold rk;rw[I_,this];rfl
  cases ps with
  |nil=>ext(⟨t,b,e⟩:qW (s:=4) [] () a.sm);show{t,b,2};rw[ϊ,u9,aR,<-ϔ (cs (cy p)),c,e];rfl
  |cons q ps=>ext(⟨t,b,e⟩:qW (s:=4) (44::32::cs (Τ (Y ", ") ((q::ps).map cy))) () a.sm);obtain⟨t',f,d⟩:=IS (ps:=q::ps) (k:=k+1) nofun () λx g=>h x (ρ _ g);show{t',f,2};rw[ϊ]at e d⊢;rw[ϊ,aO,aT,aT,Γ,c];change rk _ (_++44::32::cs _)=_;rw[e,Li b,d,Δ,Δ,Nat.add_assoc,Nat.add_comm 1];rfl
def Ow(l:List Nat):Bool:=l==[]||(match rk (4,0) l with
 |some (t,k)=>t<=2&&1<=k
 |none=>J)
def Gr(l:List Nat):Bool:=match BQ 40 l with
 |[]=>l != [48,49]&&(l != []&&l.all λc=>decide (48<=c/\c<=57\/97<=c))
 |_::r=>fv 40 l != cs (Y "number")&&((fv 40 l != cs (Y "row")||r.head? != Z 41)&&(fv 40 l != cs (Y "none")||(rk (0,0) r).isSome))
def tG(hw:bT w=O)(h1:w≠Y "number")(h2:w=Y "row"->∃b r,bs=b::r/\bG b)(h3:w=Y "none"->∃k:Kd,bs=[cj k]/\k.All Sm):Gr (cs (aL (.nd w bs)))=O:=by
 let e:cs (aL (.nd w bs))=cs w++40::(cs (Τ (Y ", ") (brTs bs))++[41]):=by rw[aL,aT,aT,aT,Γ,Γ];rfl
 obtain⟨c1,c2,-⟩:=Ie (k:=40) (λz=>by let:=(ci hw).2.2 _ z;omega) (cs (Τ (Y ", ") (brTs bs))++[41]);let ne:∀{y:Str},w≠y->(cs w != cs y)=O:=λh=>bne_iff_ne.mpr λz=>h (wC z);unfold Gr;rw[e,c2];change(fv 40 _ != _&&((fv 40 _ != _||_)&&(fv 40 _ != _||_)))=O;rw[c1,ne h1,ϵ,χ,N_,N_];show{22}
 .by_cases z:w=Y "row"
  .ext(⟨b,r,rfl,ok⟩:h2 z)
   show .inr (bne_iff_ne.mpr λq=>?_);let hd:∀(y:Str),(∀c∈y.cps.toList,bo c=J)->∀c l,(cs y++c::l).head?=Z 41->c=41/\cs y=[]:=λy hy c l q=>by
    cases e:cs y with
    |nil=>rw[e]at q;show{ϡ q,1}
    |cons a t=>rw[e]at q;let:=hy a (by change a∈cs y;rw[e];show π);rw[ϡ q]at this;cases this
   let e2:∃t,cs (Τ (Y ", ") (brTs (b::r)))++[41]=cs (aL b)++t/\t≠[]:=by
    cases r with
    |nil=>show{[41],by rw[brTs,brTs,aR],nofun}
    |cons b' r=>show{44::32::(cs (Τ (Y ", ") (brTs (b'::r)))++[41]),by rw[brTs,brTs,aO,aT,aT,Γ,Γ];rfl,nofun}
   ext(⟨t,e2,tn⟩:e2);rw[e2]at q;cases b with
   |leaf y=>
    rw[bG]at ok;rw[aL]at q;match t,tn with
    |a::t,_=>have:=ok.2;rw[show y.cps.size=(cs y).length from Θ.symm,((hd y ok.1 a t q).2)]at this;show absurd this ()
   |nd y ts=>rw[bG]at ok;rw[aL,aT,aT,aT,Γ,Γ,Γ]at q;show absurd (hd y ok.1 40 _ q).1 ()
  .show .inl (ne z)
 .by_cases z:w=Y "none"
  .ext(⟨k,rfl,sm⟩:h3 z);ext(⟨t,ht,q⟩:qW (s:=0) [41] () sm);show .inr ?_;rw[brTs,brTs,aR,fX,q,rS ht];rfl
  .show .inl (ne z)
def Ei(V:LG d b):Gr (cs (aL b))=O:=by
 let h:=V.1;let u:∀{x:Str},cs x≠[]->cs x≠[48,49]->(∀c∈cs x,48<=c/\c<=57\/97<=c)->Gr (cs x)=O:=λ{x} q A h=>by unfold Gr;rw[(Ie (λz=>by let:=h _ z;omega) []).2.2.2];rw[bne_iff_ne.mpr A,bne_iff_ne.mpr q,Ϸ.mpr λc g=>Z9 (h c g)];rfl
 let D:∀r∈sY,r≠Y "number"/\r≠Y "row"/\r≠Y "none":=();let I:∀p∈WT,p.1=Y "none"->p.2.2=[.k]:=();let v:=(qS h).1;rw[Wx]at h;rcases h with ⟨i,s,q,rfl,rfl⟩|⟨y,o,rfl,rfl⟩|⟨f,ds,bs,l,w,_,T,j,rfl,rfl⟩|⟨r,d1,d2,F,M,Q,G,N,rfl,rfl⟩|⟨ds,bs,K,T,j,rfl,rfl⟩|⟨p,ds,bs,H,l,j,_,rfl,rfl⟩
 .let P:=dJ s (by omega:i<10^60);rw[bG]at v;rw[aL];show u (λz=>by let:=v.2;rw[show(bx i).cps.size=(cs (bx i)).length from Θ.symm,z]at this;show absurd this ()) (λz=>?_) λc g=>.inl (P c g);let e:=(gK s (by omega:i<10^60)).2;rw[show(bx i).cps.toList=[48,49]from z,show j7 [48,49]=1 by decide]at e;obtain rfl:i=1:=();show absurd z ()
 .rw[aL];show u (Au o) (λz=>by let:=(ci o).2.2 48 (by rw[show y.cps.toList=[48,49]from z];show π);omega) λc g=>.inr ((ci o).2.2 c g).1
 .let n:∀{x:Str},cw x=O->f≠x:=λh z=>by rw[z,h]at w;cases w
  show tG l (n ()) (λz=>absurd z (n ())) λz=>absurd z (n ())
 .ext(⟨m,X,R⟩:D r (cR Q));show tG (eV r (cR Q)).1 m (λz=>absurd z X) λz=>absurd z R
 .show tG () () (λ_=>?_) λz=>absurd z ();cases j with
  |nil=>show absurd K ()
  |cons a t=>show{001,(qS a).1}
 .ext(⟨m,-,-,-,C⟩:sX l);show tG (kX p H) m (λz=>absurd z C) λz=>?_;rw[I p H z]at j;cases j with
  |cons a t=>cases t;ext(⟨k,_,rfl,E,_⟩:a);show{k,1,E}
def IG:Bool->List Nat->Bool
 |p,[]=>p
 |p,c::r=>if c=32 then !p&&IG O r else decide (97<=c)&&IG J r
def DE:∀{l:List Nat}{p:Bool},l≠[]->(∀c∈l,97<=c)->IG p (l++32::r)=IG O r
 |c::l,p,_,h=>by
  let:=h c π;rw[h_,IG,Z6 (),Z9 this,ϵ];cases l with
  |nil=>rfl
  |cons d l=>show DE nofun λc a=>h c (ρ _ a)
def hd:List Str->List Nat
 |[]=>[]
 |n::ns=>cs n++32::hd ns
def Jx:∀{ns:List Str},(∀x∈ns,bT x=O)->IG O (hd ns)=O/\(hd ns).count 32=ns.length/\40∉hd ns
 |[],_=>{11,nofun}
 |n::ns,h=>by
  let e:=h n π;obtain⟨a,b,c⟩:=Jx λx f=>h x (ρ _ f);let d:=(ci e).2.2;rw[hd];show{by rw[DE (Au e) λc g=>(d c g).1,a],2,λz=>?_}
  .rw[ϥ,i7 (λz=>by let:=d _ z;omega),TD,b];simp
  .rcases Ν.mp z with z|z
   .let:=d _ z;omega
   .rcases ξ.mp z with z|z
    .cases z
    .show c z
def Nv:∀{ns:List Str}{f:Str},cs (Τ (Y " ") (f::ns))++[32]=cs f++32::hd ns
 |[],f=>rfl
 |n::ns,f=>by rw[aO,aT,aT,Γ,Nv (f:=n),Γ];rfl
def NK(y:List Nat):Bool:=IG O (fv 40 y)&&(decide ((fv 40 y).count 32<=4)&&(match BQ 40 y with
 |[]=>J
 |_::r=>(match BQ 61 r,(fv 61 r).reverse with
  |61::32::e,32::41::q=>Gr e&&Ow q.reverse
  |_,_=>J)))
def mY(h:ee d x):(∃e b,cs x=97::115::107::32::cs (aL b)/\LG e b)\/∃f j,cs x=100::101::102::32::(cs f++32::j)/\bT f=O/\cw f=J/\cS f=J/\NK j=O:=by
 rcases h with ⟨e,b,rfl,rfl,i⟩|⟨f,ns,ps,e,b,rfl,rfl,g,i⟩
 .show .inl {e,b,by rw[aT];rfl,i}
 .show .inr {f,hd ns++40::((cs (Τ (Y ", ") (ps.map cy))++[41,32])++61::32::cs (aL b)),2,g.nf,g.wf,g.rf,2}
  .let:=Nv (ns:=ns) (f:=f);let Q:∀r,cs f++32::(hd ns++r)=cs (Τ (Y " ") (f::ns))++32::r:=λr=>by rw[<-h_,<-Γ,<-this,Γ];rfl
   rw[Q,DT,aO];simp only[aT,Γ];rfl
  .ext(⟨a,c,l⟩:Jx g.nn)
   ext(⟨o,s,-⟩:Ie l ((cs (Τ (Y ", ") (ps.map cy))++[41,32])++61::32::cs (aL b)));let m:61∉cs (Τ (Y ", ") (ps.map cy))++[41,32]:=λz=>by
    rcases Ν.mp z with z|z
    .let:=fV pf (λy w=>by ext(⟨p,v,rfl⟩:Ρ.mp w);show zr (g.pn p v)) _ z;omega
    .simp at z
   ext(⟨n,u,-⟩:Ie m (32::cs (aL b)));unfold NK;rw[o,s,a,c,Z9 g.l4];change(match BQ 61 _,(fv 61 _).reverse with|61::32::e,32::41::q=>Gr e&&Ow q.reverse|_,_=>J)=O;rw[n,u,List.reverse_append];change(Gr (cs (aL b))&&Ow (cs _).reverse.reverse)=O;rw[List.reverse_reverse,Ei i,ϵ];unfold Ow;cases ps with
   |nil=>rfl
   |cons p ps=>obtain⟨t,H,e⟩:=IS (ps:=p::ps) (k:=0) nofun (by let:=g.p4;omega) g.pn;rw[e,N_];show .inr ?_;change(decide (t<=2)&&decide (1<=0+(ps.length+1)))=O;rw[Z9 H,Z9 ()];rfl
def st(x:List Nat):Str:={x.toArray}
def Pu:List Nat->Bool
 |97::115::107::32::e=>Gr e
 |100::101::102::32::z=>bT (st (fv 32 z))&&(!cw (st (fv 32 z))&&(!cS (st (fv 32 z))&&NK ((BQ 32 z).drop 1)))
 |_=>J
def vm(h:bT f=O):32∉cs f:=λz=>by let:=(ci h).2.2 _ z;omega
def Le(h:ee d x):Pu (cs x)=O:=by
 rcases mY h with ⟨e,b,a,l⟩|⟨f,n,a,c,g,m,i⟩
 .rw[a];show Ei l
 .ext(⟨j,k,-⟩:Ie (vm c) n);rw[a];change(bT (st (fv 32 _))&&(!cw (st (fv 32 _))&&(!cS (st (fv 32 _))&&NK ((BQ 32 _).drop 1))))=O;rw[j,k,show st (cs f)=f from wC (by change(cs f).toArray.toList=_;simp),c,g,m];show i
def OB(s:List Nat):Bool:=(fv 32 s).all (λc=>decide (97<=c))&&NK ((BQ 32 s).drop 1)
def EA(m:bT n=O)(h:ee d x)(e:cs x=100::101::102::32::z)(l:z=cs n++s):OB s=O:=by
 rcases mY h with ⟨t,b,a,u⟩|⟨f,q,a,k,r,v,o⟩
 .rw[e]at a;cases a
 .rw[e]at a;injection a with _ a;injection a with _ a;injection a with _ a;injection a with _ a;ext(⟨g,i,-⟩:Ie (vm k) q);let p:∀c∈cs n,(c != 32)=O:=λc j=>bne_iff_ne.mpr λz=>vm m (z▸j);rw[<-a,l]at g i;unfold fv at g;unfold BQ at i;rw[List.takeWhile_append_of_pos p]at g;rw[List.dropWhile_append_of_pos p]at i;unfold OB fv BQ;rw[i,χ,Ϸ];show{λc j=>Z9 ((ci k).2.2 c (by change c∈cs f;rw[<-g];show ϛ _ j)).1,o}
open PySem L2 KB XB L2.EX WR
inductive Te
 |l (x:Str)|n|c|a (p q:Te)
def ev(n:Str):Te->Str
 |.l x=>x
 |.n=>n
 |.c=>n++Y "(1)"
 |.a p q=>ev n p++ev n q
def wT:Te->Nat
 |.l x=>x.length
 |.n=>8
 |.c=>11
 |.a p q=>wT p+wT q
def Lg(k:Nat):Te->Bool
 |.l x=>!(cs x).contains k
 |.a p q=>Lg k p&&Lg k q
 |_=>O
def pF{n:Str}(hn:bT n=O):∀e:Te,(ev n e).length<=wT e
 |.l x=>Α _
 |.n=>(aV hn).2
 |.c=>by let:n.length<=8:=(aV hn).2;rw[ev,ς,show(Y "(1)").length=3 by decide +kernel];change _<=11;omega
 |.a p q=>by let:=pF hn p;let:=pF hn q;rw[ev,ς,wT];omega
def zQ{n:Str}{k:Nat}(hn:bT n=O)(hk:k=10\/k=43):∀{e:Te},Lg k e=O->k∉cs (ev n e)
 |.l x,h=>by rw[ev];intro z;rw[Lg,List.contains_iff_mem.mpr z]at h;cases h
 |.n,_=>λz=>by let:=(ci hn).2.2 _ z;omega
 |.c,_=>λz=>by
  rw[ev,aT,show cs (Y "(1)")=[40,49,41] by decide +kernel]at z;rcases Ν.mp z with z|z
  .let:=(ci hn).2.2 _ z;omega
  .simp at z;omega
 |.a p q,h=>λz=>by rw[Lg,χ]at h;rw[ev,aT]at z;show(Ν.mp z).elim (zQ hn hk h.1) (zQ hn hk h.2)
def Js{b:Br}{t q:List Nat}(ok:bG b)(e:cs (aL b)++t=49::41::q):t=41::q:=by
 let go:∀{y:Str}{r:List Nat},(∀c∈y.cps.toList,bo c=J)->cs y++r=49::41::q->cs y=[]\/cs y=[49]/\r=41::q:=λ{y r} h e=>by
  match hy:cs y with
  |[]=>show .inl U
  |[a]=>rw[hy]at e;injection e with e1 e2;show .inr {by rw[e1],e2}
  |a::c::l=>rw[hy]at e;injection e with _ e;injection e with e _;let:=h 41 (by change 41∈cs y;rw[hy,e];simp);cases this
 cases b with
 |leaf y=>
  rw[bG]at ok;rw[aL]at e;rcases go ok.1 e with z|z
  .let:=ok.2;rw[show y.cps.size=(cs y).length from Θ.symm,z]at this;show absurd this ()
  .show z.2
 |nd y ts=>
  rw[bG]at ok;rw[aL,aT,aT,aT,Γ,Γ,Γ]at e;rcases go ok.1 e with z|z
  .rw[z]at e;cases e
  .show absurd z.2 nofun
def bad:Te->Bool
 |.l x=>!Pu (cs x)
 |.a (.l d) .n=>decide (d=Y "def ")
 |.a (.a (.l d) .n) (.l s)=>decide (d=Y "def "/\OB (cs s)=J\/d=Y "def  "\/d=Y "let ")
 |.c=>O
 |.a (.a (.l d) .c) .c=>decide (d=Y "ask ")
 |_=>J
def KM{n:Str}(cn:Cn n){e:Te}(h:bad e=O)(d:Dv):¬ ee d (ev n e):=λw=>by
 let hn:=cn.1;cases e with
 |l x=>have h:(!Pu (cs x))=O:=h;rw[ev]at w;rw[Le w]at h;cases h
 |n=>cases h
 |c=>
  let:32∉cs (ev n .c):=λz=>by
   rw[ev,aT,show cs (Y "(1)")=[40,49,41] by decide +kernel]at z;rcases Ν.mp z with z|z
   .show vm hn z
   .simp at z
  rcases mY w with ⟨e,b,ex,_⟩|⟨f,g,ex,_⟩<;>rw[ex]at this<;>simp at this
 |a p q=>
 cases p with
 |n=>cases h
 |c=>cases h
 |l x=>
  cases q with
  |n=>have h:decide (x=Y "def ")=O:=h;rw[Z7 h]at w;show absurd (EA (s:=[]) (z:=cs n) hn w (by rw[ev,ev,ev,aT];rfl) (ϔ _).symm) ()
  |l _=>cases h
  |c=>cases h
  |a _ _=>cases h
 |a p r=>
 cases p with
 |n=>cases h
 |c=>cases h
 |a _ _=>cases h
 |l x=>
 cases r with
 |l _=>cases h
 |a _ _=>cases h
 |n=>
  cases q with
  |n=>cases h
  |c=>cases h
  |a _ _=>cases h
  |l s=>
   let h:decide (x=Y "def "/\OB (cs s)=J\/x=Y "def  "\/x=Y "let ")=O:=h;rcases Z7 h with ⟨rfl,h⟩|rfl|rfl
   .rw[EA hn w (by rw[ev,ev,ev,ev,ev,aT,aT];rfl) U]at h;cases h
   .rcases mY w with ⟨e,b,ex,_⟩|⟨f,g,ex,hf,_⟩<;>rw[ev,ev,ev,ev,ev,aT,aT]at ex
    .cases ex
    .let ex:100::101::102::32::32::(cs n++cs s)=100::101::102::32::(cs f++32::g):=by rw[<-ex];simp;rfl
     injection ex with _ ex;injection ex with _ ex;injection ex with _ ex;injection ex with _ ex;cases e:cs f with
     |nil=>show Au hf e
     |cons c r=>rw[e]at ex;injection ex with ex _;show vm hf (by rw[e,ex];show π)
   .rw[ev,ev,ev,ev,ev]at w;show vA (c:=108) (r:=101::116::32::(cs n++cs s)) (by rw[A8,ak,ak];rfl) () () d w
 |c=>
  cases q with
  |n=>cases h
  |l _=>cases h
  |a _ _=>cases h
  |c=>
   let h:decide (x=Y "ask ")=O:=h;rw[Z7 h]at w;rcases mY w with ⟨e,b,ex,we⟩|⟨f,g,ex,_⟩<;>simp only[ev,aT]at ex
   .let ex:cs n++40::49::41::(cs n++[40,49,41])=cs (aL b):=by
     let z:97::115::107::32::(cs n++40::49::41::(cs n++[40,49,41]))=97::115::107::32::cs (aL b):=by rw[<-ex];simp;rfl
     injection z with _ z;injection z with _ z;injection z with _ z;injection z with _ z
    obtain⟨c1,c2,-⟩:=Ie (k:=40) (a:=cs n) (λz=>by let:=(ci hn).2.2 _ z;omega) (49::41::(cs n++[40,49,41]));rw[ex]at c1 c2;let ok:=(qS we.1).1;cases b with
    |leaf y=>rw[bG]at ok;rw[aL]at ex;let:=ok.1 40 (by change 40∈cs y;rw[<-ex];simp);cases this
    |nd y bs=>
     rw[bG]at ok;rw[aL,aT,aT,aT,Γ,Γ]at c2;let c3:=(Ie (k:=40) (a:=cs y) (λz=>by let:=ok.1 40 z;cases this) (cs (Τ (Y ", ") (brTs bs))++[41])).2.1;rw[show cs y++(cs (Y "(")++(cs (Τ (Y ", ") (brTs bs))++cs (Y ")")))=cs y++40::(cs (Τ (Y ", ") (brTs bs))++[41])from U,c3]at c2;injection c2 with _ c2;let q0:cs n++[40,49,41]≠[]:=();let ok:=ok.2.2;rcases bs with _|⟨b,_|⟨b',r⟩⟩
     .cases c2
     .rw[brTs,brTs,aR]at c2;rw[brOks]at ok;let:=Js ok.1 c2;injection this with _ this;show q0 this.symm
     ·
      rw[brTs,brTs,aO,aT,aT,Γ,Γ]at c2;rw[brOks]at ok;let:=Js ok.1 c2;cases this
   .cases ex
def gO(e:Te):Bool:=decide (wT e<=200)&&(Lg 43 e&&(Lg 10 e&&bad e))
def Oh(x:Str):Prop:=uh x/\10∉x.cps.toList/\∀d,¬ ee d x
def NU{n:Str}(cn:Cn n){e:Te}(h:gO e=O):Oh (ev n e)/\(ev n e).length<=200:=by unfold gO at h;simp only[χ,decide_eq_true_eq]at h;ext(⟨h1,h2,h3,h4⟩:h);let l:=pF cn.1 e;show{{{3,ic (by rw[i7 (zQ cn.1 (.inr U) h2)];show ϋ _)},zQ cn.1 (.inl U) h3,KM cn h4},3}
def sv(n:Str)(e:Te):V:=.str (ev n e)
def RC:R2:=(λx y H Q=>∃i j,x=.str i/\y=.str j/\i.length+j.length<=Λ/\Q (.str (i++j)) H)
def OA:Te->TE
 |.l x=>tC (.str x)
 |.n=>jq 0
 |.c=>jq 2
 |.a p q=>De RC (OA p) (OA q)
def lT:List Te->TA
 |[]=>mf
 |e::L=>jG (OA e) (lT L)
def CS{n:Str}{σ:St}(hn:bT n=O)(h0:σ[0]?=Z (Z (.str n)))(h2:σ[2]?=Z (Z (.str (ev n .c)))):∀{e:Te}{H:Hp}{Q:VK},wT e<=1000->Q (.str (ev n e)) H->OA e σ H Q
 |.l _,_,_,_,q=>q
 |.n,_,_,_,q=>{0,h0,q}
 |.c,_,_,_,q=>{0,h2,q}
 |.a p r,H,Q,h,q=>by rw[wT]at h;show CS (e:=p) hn h0 h2 () (CS (e:=r) hn h0 h2 () {00112,q});let:=pF hn p;let:=pF hn r;rw[ι];omega
def IJ{n:Str}{σ:St}{H:Hp}(hn:bT n=O)(h0:σ[0]?=Z (Z (.str n)))(h2:σ[2]?=Z (Z (.str (ev n .c)))):∀{L:List Te}{Q:List V->Hp->Prop},(∀e∈L,gO e=O)->Q (L.map (sv n)) H->lT L σ H Q
 |[],_,_,q=>q
 |e::L,Q,h,q=>CS hn h0 h2 (by let:=h e π;unfold gO at this;simp only[χ,decide_eq_true_eq]at this;omega) (IJ hn h0 h2 (λe he=>h e (ρ _ he)) q)
def dA{n:Str}{σ:St}{H:Hp}{Q:VK}{L:List Te}(hn:bT n=O)(h0:σ[0]?=Z (Z (.str n)))(h2:σ[2]?=Z (Z (.str (ev n .c))))(h:∀e∈L,gO e=O)(l:L.length<=45)(q:∀p,H p=Β->Q (.ref p) (upd H p (.lst (L.map (sv n))))):Oo (lT L) σ H Q:=
 IJ hn h0 h2 h {by rw[ε,ι];omega,q}
def Ki:List Te:=[(.l (Y "")),(.l (Y " ")),(.l (Y "ask")),(.l (Y "ask ")),(.l (Y "ask  1")),(.l (Y " ask 1")),(.l (Y "ask 1 ")),(.l (Y "Ask 1")),(.l (Y "asks 1")),(.l (Y "ask 1; 2"))]
def ET:∀e∈Ki,gO e=O:=()
def PM:List Te:=[(.l (Y "ask 1, 2")),(.l (Y "def")),(.l (Y "def "))]
def CK:∀e∈PM,gO e=O:=()
def PH:List Te:=[(.a (.l (Y "def ")) .n),(.a (.a (.l (Y "def ")) .n) (.l (Y " ()"))),(.a (.a (.l (Y "def ")) .n) (.l (Y " () ="))),(.a (.a (.l (Y "def ")) .n) (.l (Y " () = ")))]
def CZ:∀e∈PH,gO e=O:=()
def Ps:List Te:=[(.a (.a (.l (Y "def ")) .n) (.l (Y "() = 1"))),(.a (.a (.l (Y "def ")) .n) (.l (Y " () = 1 "))),(.a (.a (.l (Y "def  ")) .n) (.l (Y " () = 1")))]
def DN:∀e∈Ps,gO e=O:=()
def OV:List Te:=[(.a (.a (.l (Y "def ")) .n) (.l (Y " ()  = 1")))]
def DP:∀e∈OV,gO e=O:=()
def Ql:List Te:=[(.l (Y "def () = 1")),(.a (.a (.l (Y "def ")) .n) (.l (Y " a  b () = 1"))),(.a (.a (.l (Y "def ")) .n) (.l (Y " a, b () = 1"))),(.l (Y "def plus () = 1"))]
def EW:∀e∈Ql,gO e=O:=()
def Pj:List Te:=[(.l (Y "def row () = 1")),(.l (Y "def reckon () = 1")),(.a (.a (.l (Y "def ")) .n) (.l (Y " a b c d e () = 1"))),(.l (Y "def A () = 1"))]
def DV:∀e∈Pj,gO e=O:=()
def Qa:List Te:=[(.a (.a (.l (Y "def ")) .n) (.l (Y " (x) = 1"))),(.a (.a (.l (Y "def ")) .n) (.l (Y " (x: 3) = 1"))),(.a (.a (.l (Y "def ")) .n) (.l (Y " (x:whole) = 1")))]
def FC:∀e∈Qa,gO e=O:=()
def Pm:List Te:=[(.a (.a (.l (Y "def ")) .n) (.l (Y " (x : whole) = 1"))),(.a (.a (.l (Y "def ")) .n) (.l (Y " (x: whole,y: whole) = 1")))]
def Dx:∀e∈Pm,gO e=O:=()
def Pn:List Te:=[(.l (Y "def abcdefghi () = 1"))]
def Ef:∀e∈Pn,gO e=O:=()
def JG:List Te:=[(.a (.a (.l (Y "def ")) .n) (.l (Y " (x: whole, ) = 1")))]
def yC:∀e∈JG,gO e=O:=()
def LH:List Te:=[(.a (.a (.l (Y "def ")) .n) (.l (Y " (a: whole, b: whole, c: whole, d: whole, e: whole) = 1")))]
def zU:∀e∈LH,gO e=O:=()
def KD:List Te:=[(.a (.a (.l (Y "def ")) .n) (.l (Y " (x: place(100)) = 1"))),(.a (.a (.l (Y "def ")) .n) (.l (Y " () = 01")))]
def Am:∀e∈KD,gO e=O:=()
def LB:List Te:=[(.a (.a (.l (Y "def ")) .n) (.l (Y " () = row()"))),.c]
def zl:∀e∈LB,gO e=O:=()
def Lu:List Te:=[(.a (.a (.l (Y "ask ")) .c) .c),(.l (Y "ask number(1)")),(.a (.a (.l (Y "let ")) .n) (.l (Y " = 1"))),(.l (Y "ask none(place(100))"))]
def za:∀e∈Lu,gO e=O:=()
def fO{n:Str}{H H0 H1:Hp}{p q:υ}{L M:List Te}{a:Nat}(hH:upd (upd H0 p (.lst (M.map (sv n)))) q (.lst (L.map (sv n)++M.map (sv n)))=H1)(np:H0 p=Β)(nq:upd H0 p (.lst (M.map (sv n))) q=Β)(s0:af H H0)(l0:L.length=a)(a0:∀e∈L,gO e=O)(m0:∀e∈M,gO e=O):∃L':List Te,af H H1/\H1 q=Z (.lst (L'.map (sv n)))/\L'.length=a+M.length/\∀e∈L',gO e=O:=by rw[<-hH];show{L++M,s0.trans ((ac np _).trans (ac nq _)),by rw[Κ];show aa,by rw[Ε,l0],λe he=>(Ν.mp he).elim (a0 e) (m0 e)}
def yp{a:St->Hp->Prop}{t u:TS}{D:eh}{i:Nat}{x:V}{σ σ':St}{H:Hp}(e:∀σ' H',jK t u D σ' H'->a σ' H')(es:σ.set i (Z x)=σ')(h:∀X:St->Hp->Prop,(∀σ' H',u D σ' H'->X σ' H')->t {D with nx:=X} σ' H):ez i x σ H a:=by subst es;show gs e h
def PY{i:Nat}{x:V}{σ σ':St}{H:Hp}{a:St->Hp->Prop}(e:σ.set i (Z x)=σ')(h:a σ' H):ez i x σ H a:=by subst e;show h
abbrev IZ:ϸ:=top 94
inductive EG (vs:List V) (H:Hp) (Q:VK) (u3_:XK):Prop|mk (n:Str) (a:υ) (_:vs=[.str n,.ref a]) (_:Cn n) (_:gH H a) (_:∀(H':Hp)(x:Str),ap a H H'->gH H' a->Oh x->x.length<=200->Q (.str x) H')
section
variable{P:Ι}{w:ώ}{K:η}{mg:Str->Option ν}{base:ϙ}
def Kn{f:υ}{fd:ϣ}{k:Nat}(F:Fun K "_law_odd" "_law_odd" IZ f fd)(T:Txt K mg)(D_law_draw:bf P w K mg base k "_law_draw" ["_law_state_here","_law_many"] dW):au P w K mg base bg (k+1) f fd ["_law_name","_law_state_here"] EG:=by
 show F.okA (N:=["_law_name","_law_state_here","_law_call","_law_some"]) λcdv A outer s H vs Q E hr nd h=>?_;ext(⟨n,a,rfl,cn,sa,q⟩:h);let hn:=cn.1;show{0,aS (aY 2 (aP ae (wv 0) az)) (aS (aY 3 (dw (ar az (ar az (ar az (ar az (ar az (ar az (ar az (ar az (ar az (am az)))))))))))) (aS (aY 3 (aP bF (wv 3) (dw (ar az (ar az (am az)))))) (aS (aY 3 (aP bF (wv 3) (dw (ar (aP ae az (wv 0)) (ar (aP ae (aP ae az (wv 0)) az) (ar (aP ae (aP ae az (wv 0)) az) (am (aP ae (aP ae az (wv 0)) az)))))))) (aS (aY 3 (aP bF (wv 3) (dw (ar (aP ae (aP ae az (wv 0)) az) (ar (aP ae (aP ae az (wv 0)) az) (am (aP ae (aP ae az (wv 0)) az))))))) (aS (aY 3 (aP bF (wv 3) (dw (am (aP ae (aP ae az (wv 0)) az))))) (aS (aY 3 (aP bF (wv 3) (dw (ar az (ar (aP ae (aP ae az (wv 0)) az) (ar (aP ae (aP ae az (wv 0)) az) (am az))))))) (aS (aY 3 (aP bF (wv 3) (dw (ar az (ar az (ar (aP ae (aP ae az (wv 0)) az) (am az))))))) (aS (aY 3 (aP bF (wv 3) (dw (ar (aP ae (aP ae az (wv 0)) az) (ar (aP ae (aP ae az (wv 0)) az) (am (aP ae (aP ae az (wv 0)) az))))))) (aS (aY 3 (aP bF (wv 3) (dw (ar (aP ae (aP ae az (wv 0)) az) (am (aP ae (aP ae az (wv 0)) az)))))) (aS (aY 3 (aP bF (wv 3) (dw (am az)))) (aS (aY 3 (aP bF (wv 3) (dw (am (aP ae (aP ae az (wv 0)) az))))) (aS (aY 3 (aP bF (wv 3) (dw (am (aP ae (aP ae az (wv 0)) az))))) (aS (aY 3 (aP bF (wv 3) (dw (ar (aP ae (aP ae az (wv 0)) az) (am (aP ae (aP ae az (wv 0)) az)))))) (aS (aY 3 (aP bF (wv 3) (dw (ar (aP ae (aP ae az (wv 0)) az) (aW 2))))) (aS (aY 3 (aP bF (wv 3) (dw (ar (aP ae (aP ae az (wv 2)) (wv 2)) (ar az (ar (aP ae (aP ae az (wv 0)) az) (am az))))))) (bZ (eT aG (wv 3) (aQ D_law_draw (ar (wv 1) (am (cV aq T.len (aW 3)))))))))))))))))))))),2};dsimp only[bP,Cx.nox];show aJ λX hX=>{010011,?L0,yp (σ':=[Z (.str n),Z (.ref a),Z (.str (ev n .c)),Β]) hX U λX0 hX0=>?_}
 case L0=>have:=(aV hn).2;rw[show(Y "(1)").length=3 by decide +kernel,ι];change n.cps.size+3<=_;omega
 clear hX X;show dA hn U U (L:=Ki) ET () λq0 k0=>yp (σ':=[Z (.str n),Z (.ref a),Z (.str (ev n .c)),Z (.ref q0)]) hX0 U λX1 hX1=>?_;clear hX0 X0;let s0:=ac k0 (.lst (Ki.map (sv n)));let w0:upd H q0 (.lst (Ki.map (sv n))) q0=Z (.lst (Ki.map (sv n))):=aa;let l0:Ki.length=10:=U;let a0:=ET;generalize upd H q0 _=H0 at s0 w0⊢;generalize Ki=L0 at w0 l0 a0;clear k0;show{01,dA hn U U (L:=PM) CK () λp1 n1=>{0,p1,0011,ac n1 _ _ _ w0,aa,by rw[ε,ε,l0];decide,λq1 k1=>yp (σ':=[Z (.str n),Z (.ref a),Z (.str (ev n .c)),Z (.ref q1)]) hX1 U λX2 hX2=>?_}};clear hX1 X1;generalize hH:upd (upd _ p1 _) q1 _=H1;ext(⟨L1,s1,w1,l1,a1⟩:fO (M:=PM) hH n1 k1 s0 l0 a0 CK);clear hH k1 n1 s0 w0 l0 a0;show{01,dA hn U U (L:=PH) CZ () λp2 n2=>{0,p2,0011,ac n2 _ _ _ w1,aa,by rw[ε,ε,l1];decide,λq2 k2=>yp (σ':=[Z (.str n),Z (.ref a),Z (.str (ev n .c)),Z (.ref q2)]) hX2 U λX3 hX3=>?_}};clear hX2 X2;generalize hH:upd (upd _ p2 _) q2 _=H2;ext(⟨L2,s2,w2,l2,a2⟩:fO (M:=PH) hH n2 k2 s1 l1 a1 CZ);clear hH k2 n2 s1 w1 l1 a1;show{01,dA hn U U (L:=Ps) DN () λp3 n3=>{0,p3,0011,ac n3 _ _ _ w2,aa,by rw[ε,ε,l2];decide,λq3 k3=>yp (σ':=[Z (.str n),Z (.ref a),Z (.str (ev n .c)),Z (.ref q3)]) hX3 U λX4 hX4=>?_}};clear hX3 X3;generalize hH:upd (upd _ p3 _) q3 _=H3;ext(⟨L3,s3,w3,l3,a3⟩:fO (M:=Ps) hH n3 k3 s2 l2 a2 DN);clear hH k3 n3 s2 w2 l2 a2;show{01,dA hn U U (L:=OV) DP () λp4 n4=>{0,p4,0011,ac n4 _ _ _ w3,aa,by rw[ε,ε,l3];decide,λq4 k4=>yp (σ':=[Z (.str n),Z (.ref a),Z (.str (ev n .c)),Z (.ref q4)]) hX4 U λX5 hX5=>?_}};clear hX4 X4;generalize hH:upd (upd _ p4 _) q4 _=H4;ext(⟨L4,s4,w4,l4,a4⟩:fO (M:=OV) hH n4 k4 s3 l3 a3 DP);clear hH k4 n4 s3 w3 l3 a3;show{01,dA hn U U (L:=Ql) EW () λp5 n5=>{0,p5,0011,ac n5 _ _ _ w4,aa,by rw[ε,ε,l4];decide,λq5 k5=>yp (σ':=[Z (.str n),Z (.ref a),Z (.str (ev n .c)),Z (.ref q5)]) hX5 U λX6 hX6=>?_}};clear hX5 X5;generalize hH:upd (upd _ p5 _) q5 _=H5;ext(⟨L5,s5,w5,l5,a5⟩:fO (M:=Ql) hH n5 k5 s4 l4 a4 EW);clear hH k5 n5 s4 w4 l4 a4;show{01,dA hn U U (L:=Pj) DV () λp6 n6=>{0,p6,0011,ac n6 _ _ _ w5,aa,by rw[ε,ε,l5];decide,λq6 k6=>yp (σ':=[Z (.str n),Z (.ref a),Z (.str (ev n .c)),Z (.ref q6)]) hX6 U λX7 hX7=>?_}};clear hX6 X6;generalize hH:upd (upd _ p6 _) q6 _=H6;ext(⟨L6,s6,w6,l6,a6⟩:fO (M:=Pj) hH n6 k6 s5 l5 a5 DV);clear hH k6 n6 s5 w5 l5 a5;show{01,dA hn U U (L:=Qa) FC () λp7 n7=>{0,p7,0011,ac n7 _ _ _ w6,aa,by rw[ε,ε,l6];decide,λq7 k7=>yp (σ':=[Z (.str n),Z (.ref a),Z (.str (ev n .c)),Z (.ref q7)]) hX7 U λX8 hX8=>?_}};clear hX7 X7;generalize hH:upd (upd _ p7 _) q7 _=H7;ext(⟨L7,s7,w7,l7,a7⟩:fO (M:=Qa) hH n7 k7 s6 l6 a6 FC);clear hH k7 n7 s6 w6 l6 a6;show{01,dA hn U U (L:=Pm) Dx () λp8 n8=>{0,p8,0011,ac n8 _ _ _ w7,aa,by rw[ε,ε,l7];decide,λq8 k8=>yp (σ':=[Z (.str n),Z (.ref a),Z (.str (ev n .c)),Z (.ref q8)]) hX8 U λX9 hX9=>?_}};clear hX8 X8;generalize hH:upd (upd _ p8 _) q8 _=H8;ext(⟨L8,s8,w8,l8,a8⟩:fO (M:=Pm) hH n8 k8 s7 l7 a7 Dx);clear hH k8 n8 s7 w7 l7 a7;show{01,dA hn U U (L:=Pn) Ef () λp9 n9=>{0,p9,0011,ac n9 _ _ _ w8,aa,by rw[ε,ε,l8];decide,λq9 k9=>yp (σ':=[Z (.str n),Z (.ref a),Z (.str (ev n .c)),Z (.ref q9)]) hX9 U λX10 hX10=>?_}};clear hX9 X9;generalize hH:upd (upd _ p9 _) q9 _=H9;ext(⟨L9,s9,w9,l9,a9⟩:fO (M:=Pn) hH n9 k9 s8 l8 a8 Ef);clear hH k9 n9 s8 w8 l8 a8;show{01,dA hn U U (L:=JG) yC () λp10 n10=>{0,p10,0011,ac n10 _ _ _ w9,aa,by rw[ε,ε,l9];decide,λq10 k10=>yp (σ':=[Z (.str n),Z (.ref a),Z (.str (ev n .c)),Z (.ref q10)]) hX10 U λX11 hX11=>?_}};clear hX10 X10;generalize hH:upd (upd _ p10 _) q10 _=H10;ext(⟨L10,s10,w10,l10,a10⟩:fO (M:=JG) hH n10 k10 s9 l9 a9 yC);clear hH k10 n10 s9 w9 l9 a9;show{01,dA hn U U (L:=LH) zU () λp11 n11=>{0,p11,0011,ac n11 _ _ _ w10,aa,by rw[ε,ε,l10];decide,λq11 k11=>yp (σ':=[Z (.str n),Z (.ref a),Z (.str (ev n .c)),Z (.ref q11)]) hX11 U λX12 hX12=>?_}};clear hX11 X11;generalize hH:upd (upd _ p11 _) q11 _=H11;ext(⟨L11,s11,w11,l11,a11⟩:fO (M:=LH) hH n11 k11 s10 l10 a10 zU);clear hH k11 n11 s10 w10 l10 a10;show{01,dA hn U U (L:=KD) Am () λp12 n12=>{0,p12,0011,ac n12 _ _ _ w11,aa,by rw[ε,ε,l11];decide,λq12 k12=>yp (σ':=[Z (.str n),Z (.ref a),Z (.str (ev n .c)),Z (.ref q12)]) hX12 U λX13 hX13=>?_}};clear hX12 X12;generalize hH:upd (upd _ p12 _) q12 _=H12;ext(⟨L12,s12,w12,l12,a12⟩:fO (M:=KD) hH n12 k12 s11 l11 a11 Am);clear hH k12 n12 s11 w11 l11 a11;show{01,dA hn U U (L:=LB) zl () λp13 n13=>{0,p13,0011,ac n13 _ _ _ w12,aa,by rw[ε,ε,l12];decide,λq13 k13=>yp (σ':=[Z (.str n),Z (.ref a),Z (.str (ev n .c)),Z (.ref q13)]) hX13 U λX14 hX14=>?_}};clear hX13 X13;generalize hH:upd (upd _ p13 _) q13 _=H13;ext(⟨L13,s13,w13,l13,a13⟩:fO (M:=LB) hH n13 k13 s12 l12 a12 zl);clear hH k13 n13 s12 w12 l12 a12;show{01,dA hn U U (L:=Lu) za () λp14 n14=>{0,p14,0011,ac n14 _ _ _ w13,aa,by rw[ε,ε,l13];decide,λq14 k14=>PY (σ':=[Z (.str n),Z (.ref a),Z (.str (ev n .c)),Z (.ref q14)]) U (hX14 _ _ ?_)}};clear hX14 X14;generalize hH:upd (upd _ p14 _) q14 _=H14;ext(⟨L14,s14,w14,l14,a14⟩:fO (M:=Lu) hH n14 k14 s13 l13 a13 za);clear hH k14 n14 s13 w13 l13 a13;let lm:(L14.map (sv n)).length=45:=by rw[ε,l14];rfl
 show{010101,q14,01,.inl (aD.of w14),a,01,sa.m s14,by rw[lm];decide,by rw[lm];decide,λH' x sb st x0 x1=>?_};obtain⟨y,rfl⟩:∃y:Nat,x=y:={x.toNat,3};let hy:y<L14.length:=by rw[lm]at x1;rw[l14];show Int.ofNat_lt.mp x1
 let na:q14≠a:=λz=>by ext(⟨_,_,e⟩:sa.m s14);rw[<-z,w14]at e;injection e with e;injection e with e;let:=congrArg y6 e;rw[lm]at this;cases this
 ext(⟨h1,h3⟩:NU cn (a14 _ (l_ hy)));show{q14,0,y,.str (ev n L14[y]),11,aD.of (sb _ _ na w14),ad (by rw[ϑ,Ζ hy];rfl),q _ _ (λg o hg e=>sb g o hg (s14 g o e)) st h1 h3}
end
def Ks(a:0<=i)(b:i<=x.length):∃k,(Txt.slice x Β (Z i)).cps.toList=x.cps.toList.take k/\(Txt.slice x (Z i) Β).cps.toList=x.cps.toList.drop k:=by
 let c:x.cps.toList.length=x.length:=Θ;show{i.toNat,22}
 .let h:=eq_of_beq (PyProof.Rows.slice_closes_to (x:=x) {a,3});rw[h];simp
 .rw[M0 a b U];rw[v_ (by rw[Ϯ];omega)]
def Hb:∀c∈(Y "?!#$&'-./;<>@\x5b]^_`{|}~AZ\t").cps.toList,¬ FJ c/\c≠43/\c≠10:=by unfold FJ;decide +kernel
def Av(h:ee d x)(l:x.length<=4000)(e:x.cps.toList=u++w)(a:y.cps.toList=u++c::w)(g:c≠43)(f:c≠10)(i:∀d,¬ ee d y):Oh y/\y.length<=4001:=by
 let j:y.length=x.length+1:=by rw[<-io,<-io,e,a,Ε,Ε,Δ];omega
 show{{{32},λz=>?_,i},3}
 rotate_left
 .let b:=(kd h).1;rw[e]at b;rw[a]at z;rcases Ν.mp z with z|z
  .show b (r6 _ z)
  .rcases ξ.mp z with z|z
   .show f z.symm
   .show b (ϛ _ z)
 let s:=HQ h;rw[e]at s;rw[a];show vB s g
abbrev wu:ϸ:=top 97
inductive uE (vs:List V) (H:Hp) (Q:VK) (u3_:XK):Prop|mk (x n:Str) (a:υ) (d:Dv) (_:vs=[.str x,.ref a,.str n]) (_:ee d x) (_:x.length<=4000) (_:Cn n) (_:gH H a) (_:∀(H':Hp)(y:Str),ap a H H'->gH H' a->Oh y->y.length<=4001->Q (.str y) H')
section
variable{P:Ι}{w:ώ}{K:η}{mg:Str->Option ν}{base:ϙ}
def Bj(F:Fun K "_law_spoilt" "_law_spoilt" wu f fd)(T:Txt K mg)(I:bf P w K mg base k "_law_draw" ["_law_state_here","_law_many"] dW)(b3:bf P w K mg base k "_law_odd" ["_law_name","_law_state_here"] EG):au P w K mg base bg (k+1) f fd ["_law_line","_law_state_here","_law_name"] uE:=by
 show F.okA (N:=["_law_line","_law_state_here","_law_name","_law_way","_law_at","_law_odd_here"]) λd0 A c9 s H vs Q E hr nd h=>?_;ext(⟨x,n,a,d,rfl,G,l4,cn,sa,q⟩:h);show{0,aS (aY 3 (aQ I (ar (wv 1) (am aE)))) (cP (bA iZ (wv 3) aE) (aQ b3 (ar (wv 2) (aW 1))) (kY (bA aA (wv 3) aE) (aS (aY 4 (aQ I (ar (wv 1) (am (aP cQ (cV bV T.len (aW 0)) aE))))) (aS (aY 5 az) (bZ (aP ae (aP ae (lJ gy (wv 0) mr (kh (wv 4))) (eT rK (wv 5) (aQ I (ar (wv 1) (am (cV bV T.len (aW 5))))))) (lJ gy (wv 0) (kh (wv 4)) mr))))) (bZ (eT aG (dw (ar (aP ae (wv 0) az) (ar (aP ae (wv 0) az) (ar (aP ae az (wv 0)) (ar (aP ae (wv 0) az) (am (aP ae (wv 0) az))))))) (aQ I (ar (wv 1) (am aE))))))),2};let u3:x.length<=Λ:=()
 let x1:x.length+1<=Λ:=()
 show aJ λX b=>{01,a,(4),1,sa,33,λH1 wy u4 C w0 w1=>gs b λX b=>bW λu2 u1 u2 hZ=>{01001101,ao (λh=>u2 _ ?_) (λ_=>hZ _ (fc (b _ _ (aJ λX b=>bW λu2 u1 u2 hZ=>?_))))}}
 .show{0101,n,a,1,cn,C,λH' y p v no l=>q _ _ (u4.trans p) v no ()}
 show{01101,ao (λh=>u2 _ (aJ λX b=>?_)) (λ_=>hZ _ (fc (b _ _ ?_)))}
 .show{0101,x,1,u3,0011,a,01,C,33,λH2 i p v i0 i1=>gs b λX b=>dQ (b _ _ ?_)};let W:(Y "?!#$&'-./;<>@\x5b]^_`{|}~AZ\t").length=25:=();let os:(Y "?!#$&'-./;<>@\x5b]^_`{|}~AZ\t").length<=Λ:=by rw[W,ι];decide
  show{01010101,u3,01010101,os,a,01,v,by rw[W];decide,by rw[W];decide,λH3 j s3 b4 j0 j1=>?_};obtain⟨j,rfl⟩:∃m:Nat,j=m:={j.toNat,3};let hj:j<(Y "?!#$&'-./;<>@\x5b]^_`{|}~AZ\t").cps.toList.length:=by rw[io];omega
  ext(⟨m1,m2,m3⟩:Hb _ (l_ hj));let R:=Ζ hj;generalize (Y "?!#$&'-./;<>@\x5b]^_`{|}~AZ\t").cps.toList[j]=c at m1 m2 m3 R;ext(⟨u1,u0,e2⟩:Ks (x:=x) i0 ());let ey:(Txt.slice x Β (Z i)++{#[c]}++Txt.slice x (Z i) Β).cps.toList=x.cps.toList.take u1++c::x.cps.toList.drop u1:=by rw[ak,ak,u0,e2,Γ];rfl
  obtain⟨n1,V⟩:=Av G l4 (y8 u1 x.cps.toList).symm ey m2 m3 (Gf (by rw[ey];simp) m1);let lz:=V;rw[ς,ς]at lz;show{00,c,11,os,ad R,0011301010101,u3,0011,by rw[ς,ι];omega,q _ _ (u4.trans (p.trans s3)) b4 n1 V}
 let o1:∀z∈[Y ")",Y "(",Y " ",Y ","],z.length=1:=();let M:∀z∈[Y ")",Y "(",Y " ",Y ","],x.length+z.length<=Λ:=λz hz=>by rw[o1 z hz];show x1
 let g2:(Y " ").length+x.length<=Λ:=by rw[o1 _ ()];omega
 show{010011,M _ (),010011,M _ (),010011,g2,010011,M _ (),010011,M _ (),Kg (n:=5) () (Α _),λl S=>{01,a,(5),1,C.m (ac S _),33,λH2 j p v j0 j1=>?_}};let nl:l≠a:=λz=>by ext(⟨_,_,e⟩:C);rw[z,e]at S;cases S
 let D:=p _ _ nl aa;let r:∀{c:Nat}{u w:List Nat}{y:Str},x.cps.toList=u++w->y.cps.toList=u++c::w->c≠43->c≠10->(∀d,¬ ee d y)->Q (.str y) H2:=λu0 e2 h h2 no=>by ext(⟨n1,V⟩:Av G l4 u0 e2 h h2 no);show q _ _ (λg o R e=>p g o R (ac S _ g o (u4 g o R e))) v n1 V
 let L:x.cps.toList=x.cps.toList++[]:=(ϔ _).symm;let B:∀(t:Str)(c:Nat),t.cps.toList=[c]->(x++t).cps.toList=x.cps.toList++[c]:=λt c e=>by rw[ak,e]
 let:j=0\/j=1\/j=2\/j=3\/j=4:=();rcases this with rfl|rfl|rfl|rfl|rfl
 .let e:=B (Y ")") 41 ();show{l,00011,aD.of D,1,r L e () () (CG G (.inr e))}
 .let e:=B (Y "(") 40 ();show{l,00011,aD.of D,1,r L e () () (CG G (.inl e))}
 .let e:(Y " " ++ x).cps.toList=32::x.cps.toList:=by rw[ak];rfl
  show{l,00011,aD.of D,1,r (u:=[]) U e () () (vA e () ())}
 .let e:=B (Y " ") 32 ();show{l,00011,aD.of D,1,r L e () () (yX e (.inl U))}
 .let e:=B (Y ",") 44 ();show{l,00011,aD.of D,1,r L e () () (yX e (.inr U))}
end
def QR:Dv:=.tup [.str (Y "ask"),.tup [.str (Y "number"),.int 1]]
def Lp:ee QR (Y "ask 1"):=by show .inl {0,.leaf (bx 1),1323};rw[Wx];show .inl {(1),3311}
def Bs(a:List (Dv×Str)):List (Dv×Str):=if a=[]then [(QR,Y "ask 1")]else a
def Nb(h:∀r∈a,ee r.1 r.2)(c:∀r∈a,r.2.length<=4000)(l:a.length<=12):(∀r∈Bs a,ee r.1 r.2/\r.2.length<=4000)/\1<=(Bs a).length/\(Bs a).length<=12:=by
 unfold Bs;split
 .show{λr b=>?_,Α _,3};rw[ο.mp b];show{Lp,p0 ()}
 .rename_i z;show{λr b=>{h r b,c r b},List.length_pos_iff.mpr z,l}
def Jh(h:ls≠[Y ""])(e:ls≠[]):Τ (Y "\n") ls≠Y "":=by
 intro z;let d:=congrArg (λx:Str=>x.length) z;let f:(Y "").length=0:=();let c:=uc (Y "\n") e;let g:(Y "\n").length=1:=();simp only[f]at d;rw[d,g]at c;match ls,h,e,c with
 |[a],h,_,c=>rw[aR]at z;rw[z]at h;show h U
 |a::b::r,_,_,c=>simp at c;omega
def Lj{α:Type}{l:List α}{i:Nat}{y:α}(h:i<l.length):l.set i y=l.take i++y::l.drop (i+1):=by rw[List.set_eq_take_append_cons_drop,Z5 h]
def LJ{R:List (Dv×Str)}(h:∀r∈R,ee r.1 r.2/\r.2.length<=4000)(v:R.length<=12){i:Nat}{y:Str}(w:i<R.length)(u:Oh y){f:List Str}(p:f.length=R.length-(i+1))(d:∀m∈f,10∉m.cps.toList/\m.length<=5000){c:List Str}(e:c=(R.take i).map (·.2)++y::f)(q:c≠[Y ""]){H:Hp}:Ba H (.str (Τ (Y "\n") c)) i:=by
 ext(⟨k,t,s⟩:u);let l:c.length=R.length:=by rw[e,Ε,ε,Φ,Δ,p];omega
 let o:c≠[]:=λz=>by rw[z]at l;simp at l;omega
 let n:∀m∈c,10∉m.cps.toList/\m.length<=5000:=λm j=>by
  rw[e]at j;rcases Ν.mp j with z|z
  .ext(⟨r,g,rfl⟩:Ρ.mp z);ext(⟨a,b⟩:h r (m9 g));show{(kd a).1,3}
  .rcases ξ.mp z with rfl|z
   .show{t,by let:=k.1;omega}
   .show d m z
 show .inr {c,1,{λm d=>(n m d).1,Jh q o,o,λm d=>by let:=(n m d).2;omega,3},.inr {3,R.take i,y,f,e,λr g=>(h r (m9 g)).1,k,s,by rw[Φ];omega}}
def vY(h:∀m∈a,10∉m.cps.toList/\m.length<=5000)(l:a.length=13):Ba H (.str (Τ (Y "\n") a)) 0:=by
 let c:a≠[]:=λz=>by rw[z]at l;cases l
 let d:a≠[Y ""]:=λz=>by rw[z]at l;cases l
 show .inr {a,1,{λm b=>(h m b).1,Jh d c,c,λm b=>by let:=(h m b).2;omega,3},.inl {31}}
def Iq{rs:List (Dv×Str)}(h:∀r∈rs,ee r.1 r.2)(h4:∀r∈rs,r.2.length<=4000)(l:rs.length<=12):(∀m∈rs.map (·.2)++Ϡ (13-rs.length) (Y "ask 1"),10∉m.cps.toList/\m.length<=5000)/\(rs.map (·.2)++Ϡ (13-rs.length) (Y "ask 1")).length=13:=by
 show{λm hm=>?_,by rw[Ε,ε,F0];omega};rcases Ν.mp hm with z|z
 .ext(⟨r,hr,rfl⟩:Ρ.mp z);show{(kd (h r hr)).1,by let:=h4 r hr;omega}
 .rw[List.eq_of_mem_replicate z];show{3,p0 ()}
def Od{a:List (Dv×Str)}(f:∀r∈a,r.2.length<=4000)(l:a.length<=12):((a.map (·.2)).map λx:Str=>x.length).sum+(a.map (·.2)).length*(Y "\n").length<=Λ:=by
 let b:=dD (ys:=a.map (·.2)) λy c=>by ext(⟨r,d,rfl⟩:Ρ.mp c);show f r d
 let e:(Y "\n").length=1:=();rw[ε]at b;rw[ε,e,ι];omega
def Np{R:List (Dv×Str)}(h:∀r∈R,ee r.1 r.2/\r.2.length<=4000)(k:R.length<=12){i:Nat}{y:Str}(l:i<R.length)(n:y.length<=4001){b:List Str}(d:b.length=R.length-(i+1))(g:∀m∈b,10∉m.cps.toList/\m.length<=5000){a:List Str}(e:a=(R.take i).map (·.2)++y::b):(a.map λx:Str=>x.length).sum+a.length*(Y "\n").length<=Λ:=by
 let o:a.length=R.length:=by rw[e,Ε,ε,Φ,Δ,d];omega
 let p:=dD (B:=5000) (ys:=a) λm c=>by
  rw[e]at c;rcases Ν.mp c with z|z
  .ext(⟨r,j,rfl⟩:Ρ.mp z);let:=(h r (m9 j)).2;omega
  .rcases ξ.mp z with rfl|z
   .omega
   .show(g m z).2
 let f:(Y "\n").length=1:=();rw[f,ι];omega
def Jl:∀d∈[Dv.bl O,Dv.tup [.int n,.int 0]],mv 6 d:=λd b=>by
 rcases ξ.mp b with rfl|b
 .show zO.mono ()
 .rw[ο.mp b];show(Cq (n:=0) λe a=>?_).mono ();rcases ξ.mp a with rfl|a
  .show uz
  .rw[ο.mp a];show uz
def DY(b:H t1=Z (.tup [.int n,.int 0]))(a:H t2=Z (.tup [.bl O,.ref t1])):aj H (Et n) (.ref t2):=
 dX a () (dX b () ())
def Qt:Txt.mul (Y "\n") 12=Τ (Y "\n") (Ϡ 13 (Y "")):=()
abbrev qQ:ϸ:=top 98
inductive yL (K:η) (vs:List V) (H:Hp) (Q:VK) (u3_:XK):Prop|mk (a:υ) (ns:List Int) (_:vs=[.ref a]) (_:aD K H a (ns.map V.int)) (_:ns.length<=63) (_:∀H',Q (.bl O) H')
inductive zP (vs:List V) (H:Hp) (Q:VK) (u3_:XK):Prop|mk (rs:List (Dv×Str)) (_:vs=[.str (Τ (Y "\n") (rs.map (·.2)))]) (_:(∀r∈rs,ee r.1 r.2)) (_:rs.length<=12) (_:∀(H':Hp)(l:υ)(us:List V),af H H'->H l=Β->H' l=Z (.lst us)->Reps H' (rs.map (·.1)) us->Q (.ref l) H')
def mN(h:H l=Z (.lst us))(R:Reps H ds us):aj H (.lst ds) (.ref l):=by rw[aj];show{l,us,1,h,R}
section
variable{P:Ι}{w:ώ}{K:η}{mg:Str->Option ν}{base:ϙ}
def Lh(F:Fun K "law" "law" qQ f fd)(T:Txt K mg)(D_law_program:bf P w K mg base k0 "_law_program" ["_law_script"] (DA K))(D_law_state:bf P w K mg base k0 "_law_state" ["_law_script","_law_k"] (mL K))(D_law_names:bf P w K mg base k0 "_law_names" ["_law_state_here","_law_many"] rW)(D_law_draw:bf P w K mg base k0 "_law_draw" ["_law_state_here","_law_many"] dW)(D_law_spoilt:bf P w K mg base k0 "_law_spoilt" ["_law_line","_law_state_here","_law_name"] uE)(D_law_odd:bf P w K mg base k0 "_law_odd" ["_law_name","_law_state_here"] EG)(D_law_refused:bf P w K mg base k0 "_law_refused" ["_law_text"] Jt)(Dread:bf P w K mg base k0 "read" ["text"] zP):au P w K mg base bg (k0+1) f fd ["_law_script"] (yL K):=by
 show F.okA (N:=["_law_script","_law_rows","_law_lines","_law_name","_law_k","_law_state_here","_law_bad","_law_at","_law_other","_law_many","_law_some"]) λcdv A outer s H vs Q E hr nd h=>?_;ext(⟨sc,ns,rfl,hS,h63,q⟩:h);let hu:=oR hr;let hu8:=JO hr;let huL:(A.deeper (C8 "law" (av qQ) s.heap.objs.size f cdv)).units<C2:=();show{0,aS (Cd (aQ D_law_program (aW 0)) (FK (pH (js 1) (pH (js 2) FO)))) (aS (aY 3 (eT aG (aQ D_law_names (ar (aQ D_law_state (ar (wv 0) (am aE))) (am aE))) aE)) (aS (Dr c_ U (Me T.range (am aE)) (js 4) (aS (aY 5 (aQ D_law_state (ar (wv 0) (am (aP cQ aE (wv 4)))))) (aS (aY 6 (aP bF (ka jV T.list (aW 2)) (lJ dI (dw (am az)) mr (kh (ka qU T.int (am (qM aA (cV aq T.len (aW 2)) aE))))))) (aS (aY 7 (aQ D_law_draw (ar (wv 5) (am (cV aq T.len (aW 6)))))) (aS (Cd (aQ D_law_spoilt (ar (eT aG (wv 6) (wv 7)) (ar (wv 5) (aW 3)))) (MJ (wv 6) (wv 7) iz)) (aS (aY 8 (aQ D_law_draw (ar (wv 5) (am (cV aq T.len (aW 6)))))) (kY (bA gu (wv 8) (wv 7)) (fD (Cd (aQ D_law_odd (ar (wv 3) (aW 5))) (MJ (wv 6) (wv 8) iz))) (cP (lW (EB (bA ((KN hu).or (Lo hu8)) (aQ D_law_refused (am (eX Μ a_ b_ dH az (aW 6)))) (dh (ar kb (am (dh (ar (wv 7) (am aE))))))) (EL (bA (LK huL) (wv 6) (dw (am az)))))) kb (fD (Hd (bA (Hj hu) (aQ Dread (am (eX Μ a_ b_ dH az (aW 2)))) (wv 1)) (bZ kb) JB)))))))))) (aS (aY 9 (aP bF (wv 2) (aP KC (dw (am az)) (aP cU aE (cV aq T.len (aW 2)))))) (aS (aY 10 (dw (ar vj (ar aE (ar (dw uk) (ar (dw (am az)) (ar (dh (am az)) (ar kb (ar QB (ar (eX Μ a_ b_ dH az (aW 9)) (am (aP wH az aE)))))))))))) (bZ (cV (gn U) T.all (am (pY ["_law_thing"] [] (AR (wv 10)) (.of U) U (λ_ _ _=>{pg_name (i:=0) (bK (l:=["_law_thing"]) (()) U) U (z_ U)}) (bz ()) (λ_ _ _=>oW) (λ_ _ _=>(qM (Kh hu8) (aQ D_law_refused (aW 0)) (dh (ar kb (am (dh (ar aE (am aE)))))))))))))))),2};show aJ λX hX=>{01,sc,ns,1,hS,h63,λH1 t LR LL us rs s1 ht pg l12=>{t,01,aw.of ht,10010011,hX _ _ (aJ λX hX=>{01,sc,ns,(1),1,s1.seq hS,3,λH2 a s2 ha st2=>{a,(1),1,st2,3,λH3 r xs s3 st3 hrn hr3 lx hnm hnd=>?_}})}};obtain⟨n,rfl⟩:∃n,xs=[n]:=by
  match xs,lx with
  |[n],_=>show{n,1}
 let cn:=hnm n π;let s13:af H1 H3:=ap.same ha s2 s3;let p3:=pg.m s13;let S3:=(s1.trans s13).seq hS;show{r,0,(0),011,aD.of hr3,1,gs hX λX hX=>?_};ext(⟨gB,b1,b12⟩:Nb p3.ok p3.l4 l12);show{(8),133,il (n:=8) (λi σ H'=>∃o4 o5 o6 o7 o8 o9 o10:Option V,σ=[Z (.ref sc),Z (.ref LR),Z (.ref LL),Z (.str n),o4,o5,o6,o7,o8,o9,o10]/\af H3 H') {00000001,af.refl _} ?T1 ?_}
 case T1=>
  intro i σ H4 D go hi h;show gs (λ_ _ z=>z) λX hX=>?_;ext(⟨o4,o5,o6,o7,o8,o9,o10,rfl,s4⟩:h);let p4:=p3.m s4;show{01010011,sc,ns,01,s4.seq S3,3,λH5 b s5 hb st5=>gs hX λX hX=>?_};let p5:=p4.m s5;show{01,LL,01,.inl (aD.of p5.hl),λl1 hl1=>{z1,λl2 hl2=>?_}};let q1:=ac hl1 (.lst ((rs.map (·.2)).map V.str));let q2:=ac hl2 (.lst [.str (Y "ask 1")]);let e1:=q2 _ _ (aa (H:=H5) (a:=l1) (o:=.lst ((rs.map (·.2)).map V.str)));let e2:upd (upd H5 l1 (.lst ((rs.map (·.2)).map V.str))) l2 (.lst [.str (Y "ask 1")]) l2=Z (.lst [.str (Y "ask 1")]):=aa;let s6:=q1.trans q2;generalize upd (upd H5 l1 (.lst ((rs.map (·.2)).map V.str))) l2 (.lst [.str (Y "ask 1")])=H6 at e1 e2 s6⊢;let p6:=p5.m s6;show{01,LL,01,.inl (aD.of p6.hl),1,.inr {0101,l2,01,aD.of e2,λl3 hl3=>{l1,l3,0011,ac hl3 _ _ _ e1,aa,?L1,λlb hlb=>gs hX λX hX=>?_}}}
  case L1=>
   show Ϫ (Nat.add_le_add_left (fQ _ _ _) _) ?_;rw[ε,ε,ι];change rs.length+1<=_;omega
  let eb:(rs.map (·.2)).map V.str++cO [V.str (Y "ask 1")] Β (Z (if decide (V.int (((rs.map (·.2)).map V.str).length:Int)=V.int 0)=O then 1 else 0))=((Bs rs).map (·.2)).map V.str:=by
   cases rs with
   |nil=>rfl
   |cons r rs=>rw[Z6 (λz=>by let:=V.int.inj (Z7 z);simp at this;omega)];change _++[]=_;rw[ϔ];rfl
  let s7:=s6.trans ((ac hl3 (.lst (cO [V.str (Y "ask 1")] Β (Z (if decide (V.int (((rs.map (·.2)).map V.str).length:Int)=V.int 0)=O then 1 else 0))))).trans (ac hlb (.lst ((rs.map (·.2)).map V.str++cO [V.str (Y "ask 1")] Β (Z (if decide (V.int (((rs.map (·.2)).map V.str).length:Int)=V.int 0)=O then 1 else 0))))));let eB:=aa (H:=upd H6 l3 (.lst (cO [V.str (Y "ask 1")] Β (Z (if decide (V.int (((rs.map (·.2)).map V.str).length:Int)=V.int 0)=O then 1 else 0))))) (a:=lb) (o:=.lst ((rs.map (·.2)).map V.str++cO [V.str (Y "ask 1")] Β (Z (if decide (V.int (((rs.map (·.2)).map V.str).length:Int)=V.int 0)=O then 1 else 0))));let fl:H5 lb=Β:=(s6.trans (ac hl3 (.lst (cO [V.str (Y "ask 1")] Β (Z (if decide (V.int (((rs.map (·.2)).map V.str).length:Int)=V.int 0)=O then 1 else 0)))))).free hlb;let nb:lb≠b:=λz=>by ext(⟨_,_,e⟩:st5);rw[z,e]at fl;cases fl
  generalize upd (upd _ l3 _) lb _=H7 at s7 eB⊢;rw[eb]at eB;let lB:((((Bs rs).map (·.2)).map V.str).length:Int)=((Bs rs).length:Int):=by rw[ε,ε]
  show{0101,lb,01,.inl (aD.of eB),b,01,st5.m s7,by rw[lB];omega,by rw[lB];omega,λH8 y s8 st8 y0 y1=>gs hX λX hX=>?_};rw[lB]at y1;obtain⟨y,rfl⟩:∃m:Nat,y=m:={y.toNat,3};let hy:y<(Bs rs).length:=Int.ofNat_lt.mp y1;let e8:=s8 _ _ nb eB;ext(⟨gw,g4⟩:gB _ (l_ hy));let ay:kq (((Bs rs).map (·.2)).map V.str) (y:Int)=Z (.str (Bs rs)[y].2):=ad (by rw[ϑ,ϑ,Ζ hy];rfl);show{0101,lb,0,y,011,aD.of e8,ay,01010,n,b,01,gw,g4,cn,st8,λH9 z s9 st9 nz lz=>{0101,lb,0,y,y,11,s9 _ _ nb e8,by unfold CQ;rw[Z5 y0,Z5 (by rw[lB];show y1)];rfl,hX _ _ (aJ λX hX=>?_)}};let sA:=ap.upd H9 lb (.lst ((((Bs rs).map (·.2)).map V.str).set y (.str z)));let eA:upd H9 lb (.lst ((((Bs rs).map (·.2)).map V.str).set y (.str z))) lb=Z (.lst ((((Bs rs).map (·.2)).set y z).map V.str)):=by rw[aa,List.map_set]
  let stA:=st9.b sA (ϝ nb);let K4:∀(g:υ)(o:HO),H4 g=Z o->upd H9 lb (.lst ((((Bs rs).map (·.2)).map V.str).set y (.str z))) g=Z o:=λg o e=>by let n1:=ah e hb;show sA _ _ (ah (s5 _ _ e) fl) (s9 _ _ n1 (s8 _ _ n1 (s7 _ _ (s5 _ _ e))))
  generalize upd H9 lb (.lst ((((Bs rs).map (·.2)).map V.str).set y (.str z)))=HA at sA eA stA K4⊢;let lA:(((((Bs rs).map (·.2)).set y z).map V.str).length:Int)=((Bs rs).length:Int):=by rw[ε,Tu,ε]
  show{0101,lb,01,.inl (aD.of eA),b,01,stA,by rw[lA];omega,by rw[lA];omega,λHB o sB stB o0 o1=>gs hX λX hX=>?_};rw[lA]at o1;let eC:=sB _ _ nb eA;let K5:∀(g:υ)(u:HO),H4 g=Z u->HB g=Z u:=λg u e=>sB _ _ (ah e hb) (K4 _ _ e);rw[Lj (by rw[ε];show hy)]at eC;let key:∀(H':Hp)(more:List Str),H' lb=Z (.lst ((((Bs rs).map (·.2)).take y++z::more).map V.str))->(∀(g:υ)(u:HO),H4 g=Z u->H' g=Z u)->more.length=(Bs rs).length-(y+1)->(∀m∈more,10∉m.cps.toList/\m.length<=5000)->X [Z (.ref sc),Z (.ref LR),Z (.ref LL),Z (.str n),Z (.int (0+(i:Int))),Z (.ref b),Z (.ref lb),Z (.int (y:Int)),Z (.int o),o9,o10] H':=by
   intro H' more eL K6 lm hm;show hX _ _ (aJ λX hX=>?_);let pl:∀d∈rs.map (·.1),L2.Pl 33 d:=λd hd=>by ext(⟨r,hr',rfl⟩:Ρ.mp hd);show rN (p3.ok r hr')
   let fin:∀H'':Hp,(∀(g:υ)(u:HO),H4 g=Z u->H'' g=Z u)->X [Z (.ref sc),Z (.ref LR),Z (.ref LL),Z (.str n),Z (.int (0+(i:Int))),Z (.ref b),Z (.ref lb),Z (.int (y:Int)),Z (.int o),o9,o10] H'':=λH'' K7=>by let p7:=p4.m K7;show hX _ _ (bW λj c hY hZ=>{1010,LL,rs.map (·.2),11,aD.of p7.hl,Od p3.l4 l12,2});rw[tj];show{rs,1,p3.ok,l12,λH8 l8 u8 s8 f8 h8 R8=>{01,(33),rs.map (·.1),pl,3,mN h8 R8,mN (p7.m s8).hr (p7.m s8).rp,01,aK (hZ _ (fc (go _ _ {00000001,λg u e=>s8 _ _ (K7 _ _ (s4 _ _ e))})))}}
   clear hX;obtain⟨ls,els⟩:∃ls,ls=((Bs rs).map (·.2)).take y++z::more:={01};rw[<-els]at eL;let els':ls=((Bs rs).take y).map (·.2)++z::more:=by rw[els,List.map_take]
   show bW λj c hY hZ=>{1010,lb,ls,11,aD.of eL,Np gB b12 hy lz lm hm els',2};rw[tj];by_cases hne:ls=[Y ""]
   .show{01,.inl {[],by rw[hne,aR];rfl,nofun,3,λH2 s2=>{01,z2,λt1 ht1=>{z2,λt2 ht2=>.inl {t2,011,aa,01,aH {01,z1,λl3 hl3=>{lb,l3,[Y ""],11,?A,aD.of aa,01,aK (hZ _ (fc (fin _ ?B)))}}}}}}}
    case A=>rw[hne]at eL;show aD.of ((s2.trans ((ac ht1 _).trans ((ac ht2 _).trans (ac hl3 _)))) _ _ eL)
    case B=>exactλg u e=>(s2.trans ((ac ht1 _).trans ((ac ht2 _).trans (ac hl3 _)))) _ _ (K6 _ _ e)
   .show{01,.inr {y,LJ gB b12 hy nz lm hm els' hne,λH2 v s2 R=>{01,z2,λt1 ht1=>{z2,λt2 ht2=>.inr {0,R.mono ((ac ht1 _).trans (ac ht2 _)),DY (ac ht2 _ _ _ aa) aa,Jl,01,aK (hZ _ (fc (fin _ λg u e=>(s2.trans ((ac ht1 _).trans (ac ht2 _))) _ _ (K6 _ _ e))))}}}}}
  let dr:∀m∈((Bs rs).map (·.2)).drop (y+1),10∉m.cps.toList/\m.length<=5000:=λm hm=>by ext(⟨r,hr',rfl⟩:Ρ.mp (F9 hm));ext(⟨w1,w2⟩:gB r hr');show{(kd w1).1,3}
  let ld:(((Bs rs).map (·.2)).drop (y+1)).length=(Bs rs).length-(y+1):=by rw[Ϯ,ε]
  show bW λj c hY hZ=>{0101001101,ao (λh=>hY _ ?_) (λ_=>hZ _ (fc (key _ _ eC K5 ld dr)))};show{0101,n,b,1,cn,stB,λHC z2 sC stC nz2 lz2=>{0101,lb,0,o,o.toNat,11,sC _ _ nb eC,22}}
  .unfold CQ;let lo:((((((Bs rs).map (·.2)).take y++z::((Bs rs).map (·.2)).drop (y+1))).map V.str).length:Int)=((Bs rs).length:Int):=by rw[ε,Ε,Δ,Φ,Ϯ,ε];omega
   rw[Z5 o0,Z5 (by rw[lo];show o1)]
  let ho:(y:Int)<o:=Z7 h;obtain⟨m,hm⟩:∃m,o.toNat=y+(m+1):={o.toNat-(y+1),3};let es:((((Bs rs).map (·.2)).take y++z::((Bs rs).map (·.2)).drop (y+1)).map V.str).set o.toNat (.str z2)=(((Bs rs).map (·.2)).take y++z::(((Bs rs).map (·.2)).drop (y+1)).set m z2).map V.str:=by
   let lt:(((Bs rs).map (·.2)).take y).length=y:=by rw[Φ,ε];omega
   rw[<-List.map_set,hm,List.set_append_right _ _ (),lt,Nat.add_sub_cancel_left];rfl
  rw[es];let sD:=ap.upd HC lb (.lst ((((Bs rs).map (·.2)).take y++z::(((Bs rs).map (·.2)).drop (y+1)).set m z2).map V.str));show(key _ _ aa (λg u e=>sD _ _ (ah (s5 _ _ e) fl) (sC _ _ (ah e hb) (K5 _ _ e))) (by rw[Tu,ld]) λw hw=>?_);rcases List.mem_or_eq_of_mem_set hw with hw|rfl
  .show dr w hw
  .show{nz2.2.1,3}
 ext σ H4 ⟨o4,o5,o6,o7,o8,o9,o10,rfl,s4⟩;show hX _ _ (aJ λX hX=>?_);let p4:=p3.m s4;ext(⟨mo,ml⟩:Iq p3.ok p3.l4 l12);show{01,z1,λl1 hl1=>{01,LL,01,.inl (aD.of (ac hl1 _ _ _ p4.hl)),0011,l1,0011,aa,?B1,?B2,?B3,λl2 hl2=>{LL,l2,0011,ac hl2 _ _ _ (ac hl1 _ _ _ p4.hl),aa,?B4,λl3 hl3=>gs hX λX hX=>?_}}}
 case B1=>rw[ε,ε];omega
 case B2=>rw[ε,ε];omega
 case B3=>rw[ε,ε,ϻ,ι];omega
 case B4=>rw[ε,ε,L2.len_rep,ϻ,ι];omega
 let em:(rs.map (·.2)).map V.str++(Ϡ (13-(((rs.map (·.2)).map V.str).length:Int)).toNat [V.str (Y "ask 1")]).flatten=(rs.map (·.2)++Ϡ (13-rs.length) (Y "ask 1")).map V.str:=by
  rw[ε,ε,show(13-(rs.length:Int)).toNat=13-rs.length by omega,Κ,List.map_replicate];congr 1;induction 13-rs.length with
  |zero=>rfl
  |succ k ih=>rw[A_,A_,K2,ih];rfl
 let s5:=(ac hl1 (.lst [.str (Y "ask 1")])).trans ((ac hl2 (.lst (Ϡ (13-(((rs.map (·.2)).map V.str).length:Int)).toNat [V.str (Y "ask 1")]).flatten)).trans (ac hl3 (.lst ((rs.map (·.2)).map V.str++(Ϡ (13-(((rs.map (·.2)).map V.str).length:Int)).toNat [V.str (Y "ask 1")]).flatten))));let e3:=aa (H:=upd (upd H4 l1 (.lst [.str (Y "ask 1")])) l2 (.lst (Ϡ (13-(((rs.map (·.2)).map V.str).length:Int)).toNat [V.str (Y "ask 1")]).flatten)) (a:=l3) (o:=.lst ((rs.map (·.2)).map V.str++(Ϡ (13-(((rs.map (·.2)).map V.str).length:Int)).toNat [V.str (Y "ask 1")]).flatten));generalize upd (upd (upd H4 l1 _) l2 _) l3 _=H5 at s5 e3⊢;rw[em]at e3;clear em hl1 hl2 hl3 s4 p3 S3;generalize rs.map (·.2)++Ϡ (13-rs.length) (Y "ask 1")=ms at e3 mo ml;let sm:=dD (B:=5000) (ys:=ms) λm hm=>(mo m hm).2;let l3':(Y "\n").length=1:=();show{ϋ _,λm1 k1=>{z1,λm2 k2=>{z1,λm3 k3 m4 k4=>{1010,l3,ms,11,aD.of ?C1,by rw[l3'];change _<=16777216;omega,0011333,Kg (n:=9) () (Α _),λm5 k5=>dQ (hX _ _ ?_)}}}}
 case C1=>show((ac k1 _).trans ((ac k2 _).trans ((ac k3 _).trans (ac k4 _)))) _ _ e3
 rw[tj];let c1:=((ac k2 (.lst [.str (Y "ask 1")])).trans ((ac k3 (.tup [.str (Y "ask 1")])).trans ((ac k4 (.dK [])).trans (ac k5 (.lst [.non,.int 7,.ref m1,.ref m2,.ref m3,.bl O,.ref m4,.str (Τ (Y "\n") ms),.str (Txt.mul (Y "\n") 12)]))))) _ _ (aa (H:=H5));let c2:=((ac k3 (.tup [.str (Y "ask 1")])).trans ((ac k4 (.dK [])).trans (ac k5 (.lst [.non,.int 7,.ref m1,.ref m2,.ref m3,.bl O,.ref m4,.str (Τ (Y "\n") ms),.str (Txt.mul (Y "\n") 12)])))) _ _ (aa);let c3:=((ac k4 (.dK [])).trans (ac k5 (.lst [.non,.int 7,.ref m1,.ref m2,.ref m3,.bl O,.ref m4,.str (Τ (Y "\n") ms),.str (Txt.mul (Y "\n") 12)]))) _ _ (aa);let c4:=(ac k5 (.lst [.non,.int 7,.ref m1,.ref m2,.ref m3,.bl O,.ref m4,.str (Τ (Y "\n") ms),.str (Txt.mul (Y "\n") 12)])) _ _ (aa);let c5:=aa (H:=upd (upd (upd (upd H5 m1 (.lst [])) m2 (.lst [.str (Y "ask 1")])) m3 (.tup [.str (Y "ask 1")])) m4 (.dK [])) (a:=m5) (o:=.lst [.non,.int 7,.ref m1,.ref m2,.ref m3,.bl O,.ref m4,.str (Τ (Y "\n") ms),.str (Txt.mul (Y "\n") 12)]);generalize upd (upd (upd (upd (upd H5 m1 _) m2 _) m3 _) m4 _) m5 _=H6 at c1 c2 c3 c4 c5⊢;let one:∀{H':Hp}{ws:List V},ws=[.str (Y "ask 1")]->Reps H' [.str (Y "ask 1")] ws:=λe=>by rw[e];simp only[Reps];show{00131}
 let bad:∀(H':Hp)(v:V),af H6 H'->v∈[V.non,.int 7,.ref m1,.ref m2,.ref m3,.bl O,.ref m4,.str (Τ (Y "\n") ms),.str (Txt.mul (Y "\n") 12)]->Ba H' v 0:=λH' v s' hv=>by
  simp only[ξ,A1,or_false]at hv;rcases hv with rfl|rfl|rfl|rfl|rfl|rfl|rfl|rfl|rfl
  .show .inl {1,.non,33}
  .show .inl {1,.int 7,33}
  .show .inl {1,.lst [],mN (s' _ _ c1) (),3}
  .show .inl {1,.lst [.str (Y "ask 1")],mN (s' _ _ c2) (one U),3}
  .show .inl {1,.tup [.str (Y "ask 1")],by rw[aj];show{m3,01,s' _ _ c3,one U},3}
  .show .inl {1,.bl O,33}
  .show .inl {1,.dct,by simp only[aj];show{m4,1,s' _ _ c4},3}
  .show vY mo ml
  .rw[Qt];show vY (λm hm=>by rw[List.eq_of_mem_replicate hm];show{3,p0 ()}) U
 show{01,m5,1,{0,aD.of c5},fK (λi ys H'=>af H6 H'/\ys=(Ϡ i O).map V.bl) {af.refl _,1} (λi ys H' _ p=>aD.of (p.1 _ _ c5)) ?L1 ?_}
 case L1=>
  ext i ys H' v hx ⟨s',rfl⟩;let hi:=(Υ.mp hx).1;show bt {01,v,1,.inr {(0),bad _ _ s' (ό hx),λH2 w s2 R=>{z2,λt1 ht1=>{z2,λt2 ht2=>{0,R.mono ((ac ht1 _).trans (ac ht2 _)),DY (ac ht2 _ _ _ aa) aa,Jl,2,s'.trans (s2.trans ((ac ht1 _).trans (ac ht2 _))),2}}}}}
  .rw[ε,F0,ι];let:i<9:=hi;omega
  .rw[List.replicate_succ',Κ];rfl
 ext ys H' ⟨s',rfl⟩ l5 hl5;show{l5,Ϡ 9 O,1,aD.of aa,q _}
end
open PySem L2 KB XB L2.EX
def QJ{p:List ν->Prop}(h:p [])(us:List ν)(e:us.length=0):p us:=RY e▸h
def Nc{n:Nat}{p:List ν->Prop}(h:∀x us,us.length=n->p (x::us))(us:List ν)(e:us.length=n+1):p us:=by
 cases us with
 |nil=>cases e
 |cons x us=>show h x us (Nat.succ.inj e)
def JF{p:List ν->Prop}(h:∀x0,p [x0]):∀us:List ν,us.length=1->p us:=Nc λx=>QJ (p:=λl=>p (x::l)) (h x)
def No{p:List ν->Prop}(h:∀x0 x1,p [x0,x1]):∀us:List ν,us.length=2->p us:=Nc λx=>JF (p:=λl=>p (x::l)) (h x)
def QY{p:List ν->Prop}(h:∀x0 x1 x2,p [x0,x1,x2]):∀us:List ν,us.length=3->p us:=Nc λx=>No (p:=λl=>p (x::l)) (h x)
def QM{p:List ν->Prop}(h:∀x0 x1 x2 x3,p [x0,x1,x2,x3]):∀us:List ν,us.length=4->p us:=Nc λx=>QY (p:=λl=>p (x::l)) (h x)
def Rw{p:List ν->Prop}(h:∀x0 x1 x2 x3 x4,p [x0,x1,x2,x3,x4]):∀us:List ν,us.length=5->p us:=Nc λx=>QM (p:=λl=>p (x::l)) (h x)
structure Df(K:η)(x:Str)(st:ϸ)(f:υ)(fd:ϣ):Prop where
 a:ϒ K Ω x=Z (Z (.ref f))
 F:Fun K x x st f fd
def df_mk{K:η}{x:Str}{st:ϸ}{f:υ}{oc:ν}{od an:Option υ}{osl:Array (Option ν)}{kV doc pm cdv ct:ν}(a:ϒ K Ω x=Z (Z (.ref f)))(l:K.lookup f=Z {oc,od,.func (j4 x x (ca st) (bD st) (av st) .none kV doc pm an cdv ct),osl})
  (c:A7 K cdv x=O) (k:ϰ K (.ref f)=O):Df K x st f (j4 x x (ca st) (bD st) (av st) .none kV doc pm an cdv ct):={a,nW l c k}
def yB(h:1=1:=by intro _ _ _ _ _ _;first|show JF λ_=>U|show No λ_ _=>U|show QY λ_ _ _=>U|show QM λ_ _ _ _=>U|show Rw λ_ _ _ _ _=>U|show QJ rfl):True:=trivial
def Df.d{P:Ι}{w:ώ}{K:η}{mg:Str->Option ν}{base h:ϙ}{x:Str}{st:ϸ}{f:υ}{fd:ϣ}{k:Nat}{ps:List Str}{sp:Sp}(d:Df K x st f fd)(X:K.In h)(G:h.Ns Ω mg)(F:au P w K mg base bg k f fd ps sp)(b:autoParam (∀(kV doc pm:ν)(an:Option υ)(cdv ct:ν)(us:List ν),us.length=ps.length->bindArgs (j4 x x (ca st) (bD st) (av st) .none kV doc pm an cdv ct) {us,[]}=pure (ps.zip us)) yB._auto_1):bf P w K mg base k x ps sp:={f,fd,F,d.F.binds b,d.F.kp,Ϗ X G d.a}
def XO(K:η)(D C:υ):Prop:=∃nm q N bs sn sub ab col dd k0 k1 k2 k3 k5,K.lookup C=Z (ϯ nm q C N bs (.ref D::AE) O sn sub ab col dd k0 k1 k2 k3 k5 "ValueError.__new__")
def xo_mk{K:η}{D C N:υ}{nm q:Str}{bs sub:List ν}{sn:List Str}{ab:Bool}{col:Option Bool}{dd:Option υ}{k0 k1 k2 k3 k5:Option ν}(h:K.lookup C=Z (ϯ nm q C N bs (.ref D::AE) O sn sub ab col dd k0 k1 k2 k3 k5 "ValueError.__new__")):XO K D C:={00000000000000,h}
def eW{P:Ι}{w:ώ}{K:η}{mg:Str->Option ν}{base:ϙ}{CX:xJ}{k:Nat}{f:υ}{fd:ϣ}{ps:List Str}{sp:Sp}(n:∀vs H Q E,¬ sp vs H Q E):au P w K mg base CX k f fd ps sp:={λvs H Q E h=>absurd h (n _ _ _ _),λ_ _ _ _ _ _ _ _ _ _ _ _ _ h=>absurd h (n _ _ _ _)}
def Df.x{P:Ι}{w:ώ}{K:η}{mg:Str->Option ν}{base h:ϙ}{x:Str}{st:ϸ}{f:υ}{fd:ϣ}{k:Nat}{ps:List Str}{sp:Sp}(d:Df K x st f fd)(X:K.In h)(G:h.Ns Ω mg)(F:au P w K mg base (eE P w) k f fd ps sp)(b:autoParam (∀(kV doc pm:ν)(an:Option υ)(cdv ct:ν)(us:List ν),us.length=ps.length->bindArgs (j4 x x (ca st) (bD st) (av st) .none kV doc pm an cdv ct) {us,[]}=pure (ps.zip us)) yB._auto_1):Bc P w K mg base k x ps sp:={f,fd,F,d.F.binds b,d.F.kp,Ϗ X G d.a}
def Ku{d:Dv}{x:Str}(h:ee d x):d.small=O/\ji d=O:={(vL h).2,(vL h).1}
def all_mk{l:Tv}{w:ώ}{K:η}{h:ϙ}{mg:Str->Option ν}{fa f1 f2 f3 f4 f5 f6 f7 f8 f9 f10 f11 f12 f13 f14 f15 f16 f17 f18 f19 f20 f21 f22 f23 f24 f25 f26 f27 f28 f29 f30 f31 f32 f33 f34 f35 f36 f37 f38 f39 f40 f41 f42 f43 f44 f45 f46 f47 f48 f49 f50 f51 f52 f53 f54 f55 f56 f57 f58 f59 f60 f61 f62 f63 f64 f65 f66 f67:υ}{g1 g2 g3 g4 g5 g6 g7 g8 g9 g10 g11 g12 g13 g14 g15 g16 g17 g18 g19 g20 g21 g22 g23 g24 g25 g26 g27 g28 g29 g30 g31 g32 g33 g34 g35 g36 g37 g38 g39 g40 g41 g42 g43 g44 g45 g46 g47 g48 g49 g50 g51 g52 g53 g54 g55 g56 g57 g58 g59 g60 g61 g62 g63 g64 g65 g66 g67:ϣ}(X:K.In h)(G:h.Ns Ω mg)(hfa:mg "law"=Z (.ref fa))
  (d1:Df K "is_whole" ph f1 g1)
  (d2:Df K "is_name" ri f2 g2)
  (d3:Df K "is_part" qP f3 g3)
  (d4:Df K "are_parts" lC f4 g4)
  (d5:Df K "is_length" kR f5 g5)
  (d6:Df K "is_small_length" nQ f6 g6)
  (d7:Df K "has_word" ol f7 g7)
  (d8:Df K "is_point" oA f8 g8)
  (d9:Df K "things_of" li f9 g9)
  (d10:Df K "is_kind" qt f10 g10)
  (d11:Df K "is_below" oN f11 g11)
  (d12:Df K "is_def_name" jc f12 g12)
  (d13:Df K "is_few" wq f13 g13)
  (d14:Df K "fits" DO f14 g14)
  (d15:Df K "is_node" qo f15 g15)
  (d16:Df K "parts_of" nD f16 g16)
  (d17:Df K "is_expression" qJ f17 g17)
  (d18:Df K "are_names" lY f18 g18)
  (d19:Df K "is_param" oJ f19 g19)
  (d20:Df K "are_params" jy f20 g20)
  (d21:Df K "is_row" ur f21 g21)
  (d22:Df K "show_param" jQ f22 g22)
  (d23:Df K "show_row" nG f23 g23)
  (d24:Df K "param_in" jk f24 g24)
  (d25:Df K "def_of" oO f25 g25)
  (d26:Df K "row_of_text" fZ f26 g26)
  (d27:Df K "read_row" jp f27 g27)
  (d28:Df K "read" xR f28 g28)
  (d29:Df K "show_part" lO f29 g29)
  (d30:Df K "show_length" fW f30 g30)
  (d31:Df K "in_brackets" DR f31 g31)
  (d32:Df K "show_kind" kS f32 g32)
  (d33:Df K "show_behind" ja f33 g33)
  (d34:Df K "show_all" oz f34 g34)
  (d35:Df K "show_expression" fU f35 g35)
  (d36:Df K "branch_of" iy f36 g36)
  (d37:Df K "number_of" lc f37 g37)
  (d38:Df K "part_of" qp f38 g38)
  (d39:Df K "length_of" lZ f39 g39)
  (d40:Df K "word_alone" jM f40 g40)
  (d41:Df K "length_in" ma f41 g41)
  (d42:Df K "kind_in" qF f42 g42)
  (d43:Df K "thing_in" oY f43 g43)
  (d44:Df K "atom_of" qk f44 g44)
  (d45:Df K "expression_in" gP f45 g45)
  (d46:Df K "expression_of" gQ f46 g46)
  (d47:Df K "just_so" ko f47 g47)
  (d48:Df K "_law_draw" CU f48 g48)
  (d49:Df K "_law_state" Ad f49 g49)
  (d50:Df K "_law_names" Ak f50 g50)
  (d51:Df K "_law_length" vy f51 g51)
  (d52:Df K "_law_length_text" tN f52 g52)
  (d53:Df K "_law_kind_text" yG f53 g53)
  (d54:Df K "_law_next" DS f54 g54)
  (d55:Df K "_law_kind" Co f55 g55)
  (d56:Df K "_law_forms" Af f56 g56)
  (d57:Df K "_law_inner" Ai f57 g57)
  (d58:Df K "_law_whole" zM f58 g58)
  (d59:Df K "_law_expression" jW f59 g59)
  (d60:Df K "_law_world" zu f60 g60)
  (d61:Df K "_law_row" IX f61 g61)
  (d62:Df K "_law_program" rC f62 g62)
  (d63:Df K "_law_odd" IZ f63 g63)
  (d64:Df K "_law_marks" mO f64 g64)
  (d65:Df K "_law_refused" ky f65 g65)
  (d66:Df K "_law_spoilt" wu f66 g66)
  (d67:Df K "law" qQ f67 g67)
  (z1:ϒ K Ω "len"=Z Β)
  (z2:ϒ K Ω "isinstance"=Z Β)
  (z3:ϒ K Ω "int"=Z Β)
  (z4:ϒ K Ω "bool"=Z Β)
  (z5:ϒ K Ω "str"=Z Β)
  (z6:ϒ K Ω "tuple"=Z Β)
  (z7:ϒ K Ω "all"=Z Β)
  (z8:ϒ K Ω "zip"=Z Β)
  (z9:ϒ K Ω "range"=Z Β)
  (z10:ϒ K Ω "max"=Z Β)
  (z11:ϒ K Ω "min"=Z Β)
  (z12:ϒ K Ω "dict"=Z Β)
  (z13:ϒ K Ω "sorted"=Z Β)
  (z14:ϒ K Ω "list"=Z Β)
  (z15:ϒ K Ω "enumerate"=Z Β)
  (z16:ϒ K Ω "ValueError"=Z Β)
  {tg0 tg1 tg2 tg3 tg4 tg5 tg6 tg7 tg8 tg9:PySem.Tok}
  (zg0:ϒ K Ω "LONGEST_NAME"=Z (Z (.int 8 tg0)))
  (zg1:ϒ K Ω "GREATEST_SIZE"=Z (Z (.int 12 tg1)))
  (zg2:ϒ K Ω "GREATEST_NUMBER"=Z (Z (.int 99 tg2)))
  (zg3:ϒ K Ω "WHOLE_BOUND"=Z (Z (.int 1000000000000 tg3)))
  (zg4:ϒ K Ω "MOST_NODES"=Z (Z (.int 40 tg4)))
  (zg5:ϒ K Ω "MOST_ABOVE"=Z (Z (.int 7 tg5)))
  (zg6:ϒ K Ω "MOST_THINGS"=Z (Z (.int 4 tg6)))
  (zg7:ϒ K Ω "MOST_FIGURES"=Z (Z (.int 60 tg7)))
  (zg8:ϒ K Ω "MOST_BRACKETS"=Z (Z (.int 20 tg8)))
  (zg9:ϒ K Ω "MOST_ROWS"=Z (Z (.int 12 tg9)))
  {gR:υ} {odR:Option υ} {nR:Nat} {slR:Array (Option ν)} {tr0 tr1 tr2 tr3 tr4:PySem.Tok}
  (zR:ϒ K Ω "RECKONS"=Z (Z (.ref gR)))
  (lR:K.lookup gR=Z {.type "tuple",odR,.seq #[.str "plus" tr0,.str "minus" tr1,.str "times" tr2,.str "less" tr3,.str "same" tr4] nR,slR})
  {gS:υ}
  (zS:ϒ K Ω "SHAPES"=Z (Z (.ref gS)))
  {C fSI fM fN fB:υ} {odSI anSI odM anM odN anN odB anB:Option υ} {slSI slM slN slB:Array (Option ν)} {ocSI kVSI dcSI pmSI cdSI ctSI ocM kVM dcM pmM cdM ctM ocN kVN dcN pmN cdN ctN ocB kVB dcB pmB cdB ctB:ν}
  (aC:ϒ K Ω "Signs"=Z (Z (.ref C)))
  (aSI:Ϩ K (.ref C) "__init__"=Z (Z (.ref fSI))) (iSI:M4 K (.ref fSI)=O)
  (lSI:K.lookup fSI=Z {ocSI,odSI,.func (j4 "__init__" "Signs.__init__" (ca jE) (bD jE) (av jE) .none kVSI dcSI pmSI anSI cdSI ctSI),slSI})
  (cSI:A7 K cdSI "Signs.__init__"=O) (kSI:ϰ K (.ref fSI)=O)
  (aM:Ϩ K (.ref C) "met"=Z (Z (.ref fM))) (iM:M4 K (.ref fM)=O)
  (lM:K.lookup fM=Z {ocM,odM,.func (j4 "met" "Signs.met" (ca vh) (bD vh) (av vh) .none kVM dcM pmM anM cdM ctM),slM})
  (cM:A7 K cdM "Signs.met"=O) (kM:ϰ K (.ref fM)=O)
  (aN:Ϩ K (.ref C) "next_word"=Z (Z (.ref fN))) (iN:M4 K (.ref fN)=O)
  (lN:K.lookup fN=Z {ocN,odN,.func (j4 "next_word" "Signs.next_word" (ca dZ) (bD dZ) (av dZ) .none kVN dcN pmN anN cdN ctN),slN})
  (cN:A7 K cdN "Signs.next_word"=O) (kN:ϰ K (.ref fN)=O)
  (aB:Ϩ K (.ref C) "branch"=Z (Z (.ref fB))) (iB:M4 K (.ref fB)=O)
  (lB:K.lookup fB=Z {ocB,odB,.func (j4 "branch" "Signs.branch" (ca gl) (bD gl) (av gl) .none kVB dcB pmB anB cdB ctB),slB})
  (cB:A7 K cdB "Signs.branch"=O) (kB:ϰ K (.ref fB)=O)
  (pg:M3 K C u6=O) (hd:O9 K C=O) (po:S2 K C=O) (sa:Ϩ K (.ref C) "__setattr__"=Z (Z (.builtin "object.__setattr__"))) (mk:Tt K C=O) (kc:ϰ K (.ref C)=O)
  (nT:Ϩ K (.ref C) "text"=Z Β) (nA:Ϩ K (.ref C) "at"=Z Β)
  (sS:XB.Shp l.prog w K gS)
  {D fI gI aNoWords aNoProgram aTwice aNoBind aNoName aUnlike aParts aTooGreat aTooLong aNoValue aNoLine:υ}
  {ocI kVI dcI pmI cdI ctI ocg:ν} {odI anI odg:Option υ} {slI slg:Array (Option ν)} {ng:Nat}
  (lI:K.lookup fI=Z {ocI,odI,.func (j4 "__init__" "IndexwiseError.__init__" (ca iE) (bD iE) (av iE) (.ref gI) kVI dcI pmI anI cdI ctI),slI})
  (cI:A7 K cdI "IndexwiseError.__init__"=O) (lgI:K.lookup gI=Z {ocg,odg,.seq #[.none] ng,slg}) (tI:PySem.W.typeIn K (.ref fI)=Z (.type "function"))
  {nmD qD:Str} {ND:υ} {bsD subD:List ν} {snD:List Str} {abD:Bool} {colD:Option Bool} {ddD:Option υ} {j0D j1D j2D j3D j5D:Option ν}
  (oD:ϒ K Ω "IndexwiseError"=Z (Z (.ref D)))
  (xD:K.lookup D=Z (ϯ nmD qD D ND bsD AE O snD subD abD colD ddD j0D j1D j2D j3D j5D "ValueError.__new__"))
  (oNoWords:ϒ K Ω "NoWords"=Z (Z (.ref aNoWords)))
  (xNoWords:XO K D aNoWords)
  (oNoProgram:ϒ K Ω "NoProgram"=Z (Z (.ref aNoProgram)))
  (xNoProgram:XO K D aNoProgram)
  (oTwice:ϒ K Ω "Twice"=Z (Z (.ref aTwice)))
  (xTwice:XO K D aTwice)
  (oNoBind:ϒ K Ω "NoBind"=Z (Z (.ref aNoBind)))
  (xNoBind:XO K D aNoBind)
  (oNoName:ϒ K Ω "NoName"=Z (Z (.ref aNoName)))
  (xNoName:XO K D aNoName)
  (oUnlike:ϒ K Ω "Unlike"=Z (Z (.ref aUnlike)))
  (xUnlike:XO K D aUnlike)
  (oParts:ϒ K Ω "Parts"=Z (Z (.ref aParts)))
  (xParts:XO K D aParts)
  (oTooGreat:ϒ K Ω "TooGreat"=Z (Z (.ref aTooGreat)))
  (xTooGreat:XO K D aTooGreat)
  (oTooLong:ϒ K Ω "TooLong"=Z (Z (.ref aTooLong)))
  (xTooLong:XO K D aTooLong)
  (oNoValue:ϒ K Ω "NoValue"=Z (Z (.ref aNoValue)))
  (xNoValue:XO K D aNoValue)
  (oNoLine:ϒ K Ω "NoLine"=Z (Z (.ref aNoLine)))
  (xNoLine:XO K D aNoLine)
  (inNoWords:Ϩ K (.ref aNoWords) "__init__"=Z (Z (.ref fI)))
  (saNoWords:Ϩ K (.ref aNoWords) "__setattr__"=Z (Z (.builtin "object.__setattr__")))
  (plNoWords:Ϩ K (.ref aNoWords) "place"=Z Β)
  (gaNoWords:Ϩ K (.ref aNoWords) "__getattribute__"=Z (Z (.builtin "BaseException.__getattribute__")))
  (ghNoWords:Ϩ K (.ref aNoWords) "__getattr__"=Z Β)
  (clNoWords:Ϩ K (.ref aNoWords) "__class__"=Z (Z (.builtin "object.__class__")))
  (kpNoWords:ϰ K (.ref aNoWords)=O)
  (ndC:(D::[aNoWords,aNoProgram,aTwice,aNoBind,aNoName,aUnlike,aParts,aTooGreat,aTooLong,aNoValue,aNoLine]).Nodup)
  :
  ∃fd:ϣ,(∀(s:ψ)(v:ν),Tn s fd {[v],[]} [("_law_script",v)])/\∀base:ϙ,K.In base->base.Ns Ω mg->au l.prog w K mg base bg 75 fa fd ["_law_script"] (yL K):=by
 let e:=hfa.symm.trans (Ϗ X G d67.a);cases e;let T:Txt K mg:={ϭ X G z1,ϭ X G z2,ϭ X G z3,ϭ X G z4,ϭ X G z5,ϭ X G z6,ϭ X G z7,ϭ X G z8,ϭ X G z9,ϭ X G z10,ϭ X G z11,ϭ X G z12,ϭ X G z13,ϭ X G z14,ϭ X G z15,ϭ X G z16,{tg0,Ϗ X G zg0},{tg1,Ϗ X G zg1},{tg2,Ϗ X G zg2},{tg3,Ϗ X G zg3},{tg4,Ϗ X G zg4},{tg5,Ϗ X G zg5},{tg6,Ϗ X G zg6},{tg7,Ϗ X G zg7},{tg8,Ϗ X G zg8},{tg9,Ϗ X G zg9}};let b21:=d21.F.binds (ps:=["thing"]) λ_ _ _ _ _ _=>JF λ_=>U;let b23:=d23.F.binds (ps:=["row"]) λ_ _ _ _ _ _=>JF λ_=>U;let b26:=d26.F.binds (ps:=["text"]) λ_ _ _ _ _ _=>JF λ_=>U;let b28:=d28.F.binds (ps:=["text"]) λ_ _ _ _ _ _=>JF λ_=>U;let b64:=d64.F.binds (ps:=["_law_e"]) λ_ _ _ _ _ _=>JF λ_=>U;ext(⟨_,_,kV,doc,pm,an,cdv,ct,_,rfl,_⟩:id d67.F.ex);show{j4 "law" "law" (ca qQ) (bD qQ) (av qQ) .none kV doc pm an cdv ct,λs v=>.of_eq U,λbase _ _=>?_};let hRK:∀H,aw K H gR (sY.map V.str):=λH=>.inr {000,lR,11,(by change 5<=Λ;rw[ι];decide),.cons {01} (.cons {01} (.cons {01} (.cons {01} (.cons {01} .nil))))};let D1:=d1.d X G (uu d1.F T (P:=l.prog) (w:=w) (base:=base));let D2:=d2.d X G (wV d2.F T (P:=l.prog) (w:=w) (base:=base));let D3:=d3.d X G (xX (k:=1) d3.F T (D1.up ()) (D2.up ()));let D4:=d4.d X G (sP (k:=2) d4.F T (D3.up ()));let D5:=d5.d X G (tW (k:=3) d5.F T (D1.up ()) (D4.up ()));let D6:=d6.d X G (vq (k:=4) d6.F T (D5.up ()));let D7:=d7.d X G (uX d7.F T (P:=l.prog) (w:=w) (base:=base));let D8:=d8.d X G (ux (k:=5) d8.F T (D7.up ()) (D6.up ()));let D9:=d9.d X G (xQ (P:=l.prog) (w:=w) (base:=base) d9.F T);let D10:=d10.d X G (yj (k:=6) d10.F T (D8.up ()) (D9.up ()));let D11:=d11.d X G (vn (k:=1) d11.F T (D1.up ()));let D13:=d13.d X G (BJ d13.F T (P:=l.prog) (w:=w) (base:=base));let D12:=d12.d X G (ow (k:=1) d12.F T sS (Ϗ X G zS) (Ϗ X G zR) hRK (D2.up ()));let D14:=d14.d X G (Iu (k:=7) d14.F T (Ϗ X G zR) hRK (D11.up ()) (D2.up ()) (D6.up ()) (D10.up ()) (D12.up ()) (D13.up ()));let D15:=d15.d X G (yn (k:=8) d15.F T sS (Ϗ X G zS) (D7.up ()) (D14.up ()));let D16:=d16.d X G (uy d16.F T sS (Ϗ X G zS) (P:=l.prog) (w:=w) (base:=base));let D17:=d17.d X G (yc (k:=9) d17.F T (D15.up ()) (D16.up ()));let cl:tJ K C:=⟨pg,hd,po,sa⟩;let FSI:=nW (st:=jE) lSI cSI kSI;let bSI:=FSI.binds (ps:=["self","text"]) λ_ _ _ _ _ _=>No λ_ _=>U;let FM:=nW (st:=vh) lM cM kM;let bM:=FM.binds (ps:=["self","signs"]) λ_ _ _ _ _ _=>No λ_ _=>U;let FN:=nW (st:=dZ) lN cN kN;let bN:=FN.binds (ps:=["self"]) λ_ _ _ _ _ _=>JF λ_=>U;let FB:=nW (st:=gl) lB cB kB;let bB:=FB.binds (ps:=["self","most"]) λ_ _ _ _ _ _=>No λ_ _=>U;let OSI:au l.prog w K mg base bg 1 fSI _ _ _:=EY FSI T cl nT nA;let OM:au l.prog w K mg base bg 1 fM _ _ _:=KY FM T cl nT nA;let ON:au l.prog w K mg base bg 1 fN _ _ _:=sj FN T cl nT nA;let chB:∀n,au l.prog w K mg base bg (1+n) fB _ ["self","most"] (ik C n):=λn=>by
  induction n with
  |zero=>show eW λvs H Q E h=>by ext(⟨a,x,i,most,t,post,_,_,_,_,_,_,_,h1,h2,_⟩:h);omega
  |succ n ih=>show Bf (k0:=1+n) FB T cl {aN,iN,kN} (ON.mono ()) bN {aM,iM,kM} (OM.mono ()) bM {aB,iB,kB} ih bB
 let chT:∀n,au l.prog w K mg base bg (1+n) fB _ ["self","most"] (uJ C n):=λn=>by
  induction n with
  |zero=>show eW λvs H Q E h=>by ext(⟨a,x,i,most,_,_,_,_,_,h1,h2,_⟩:h);omega
  |succ n ih=>show xf (k0:=1+n) FB T cl {aN,iN,kN} (ON.mono ()) bN {aM,iM,kM} (OM.mono ()) bM {aB,iB,kB} ih bB
 let D29:=d29.d X G (sd d29.F T (P:=l.prog) (w:=w) (base:=base));let D30:=d30.d X G (nk (k:=1) d30.F T (D29.up ()));let D31:=d31.d X G (HU d31.F T (P:=l.prog) (w:=w) (base:=base));let ch32:∀n,au l.prog w K mg base bg (2+n) f32 _ ["kind"] (iY n):=λn=>by
  induction n with
  |zero=>show eW λvs H Q E h=>by ext(⟨v,k,_,_,z,_⟩:h);let:=k.size_pos;omega
  |succ n ih=>show ub (k0:=2+n) d32.F T (D31.up ()) (D30.up ()) (d32.d X G ih)
 let D32:=d32.d X G (ch32 12);let ch35:∀n,au l.prog w K mg base bg (14+2*n) f35 _ ["expression"] (uw n):=λn=>by
  induction n with
  |zero=>show eW λvs H Q E h=>by ext(⟨v,d,b,_,_,z,_⟩:h);rw[Wx]at z;show z
  |succ n ih=>show jo (k:=14+2*n+1) d35.F T sS (Ϗ X G zS) (D31.up ()) (d34.d X G (wj (k:=14+2*n) d34.F T (d35.d X G ih))) (d33.d X G (om (k:=14+2*n) d33.F T (D30.up ()) (D32.up ()) (d35.d X G ih)))
 let D35:=d35.d X G (ch35 8);let FbG:=tY (k0:=21) d36.F T cl {mk,aSI,iSI,kc} (OSI.mono ()) bSI (Ϗ X G aC) {aB,iB,kB} (chB 21) bB;let FbT:=qb (k0:=21) d36.F T cl {mk,aSI,iSI,kc} (OSI.mono ()) bSI (Ϗ X G aC) {aB,iB,kB} (chT 21) bB;let D36:=d36.d X G FbG;let E36:=d36.d X G FbT;let Bo:=d36.d X G (IP FbG FbT);let D37:=d37.d X G (tR d37.F T (P:=l.prog) (w:=w) (base:=base));let E38:=d38.d X G (Fj (k:=1) d38.F T (D37.up ()));let E39:=d39.d X G (Gz (k:=2) d39.F T (D37.up ()) (E38.up ()));let E41:=d41.d X G (pQ (k:=3) d41.F T (E39.up ()));let E40:=d40.d X G (nh (P:=l.prog) (w:=w) (base:=base) d40.F T );let E44:=d44.d X G (wt (k:=1) d44.F T (D37.up ()));let eh42:∀n,au l.prog w K mg base bg (4+n) f42 _ ["branch"] (iK n):=λn=>by
  induction n with
  |zero=>show eW λvs H Q E h=>by ext(⟨v,b,_,_,_,z,_⟩:h);omega
  |succ n ih=>show ut (k0:=4+n) d42.F T (E41.up ()) (d42.d X G ih)
 let E42:=d42.d X G (eh42 21);let eh45:∀n,au l.prog w K mg base bg (25+2*n) f45 _ ["branch"] (qi n):=λn=>by
  induction n with
  |zero=>show eW λvs H Q E h=>by ext(⟨v,b,_,_,_,z,_⟩:h);omega
  |succ n ih=>show jF (k:=25+2*n+1) d45.F T sS (Ϗ X G zS) (Ϗ X G zR) hRK (E44.up ()) (d43.d X G (sW (k:=25+2*n) d43.F T (E41.up ()) (E42.up ()) (E40.up ()) (d45.d X G ih))) ((d45.d X G ih).up ())
 let E45:=d45.d X G (eh45 21);let Fx:=jC (k0:=67) d46.F T (Bo.up ()) (E45.up ());let D46:=d46.d X G (Fx.imp (j:=AS WE) λvs H Q E h=>by ext(⟨x,d,e,we,q⟩:h);show .inl {x,d,e,Pd we,q});let E46:=d46.d X G (Fx.imp λvs H Q E h=>.inr h);let D18:=d18.d X G (sL (k:=1) d18.F T (D13.up ()) (D2.up ()));let D19:=d19.d X G (vI (k:=7) d19.F T (D2.up ()) (D10.up ()));let D20:=d20.d X G (pJ (k:=8) d20.F T (D13.up ()) (D19.up ()));let Fi:=AH (k:=10) d21.F T (D7.up ()) (D17.up ()) (D12.up ()) (D18.up ()) (D20.up ());let D22:=d22.d X G (pN (k:=14) d22.F T (D32.up ()));let Fs:=vF (k:=30) d23.F T (D22.up ()) (D35.up ()) (D31.up ());let D24:=d24.d X G (uq (k:=25) d24.F T (E42.up ()));let D25:=d25.d X G (Bv (k:=68) d25.F T (D36.up ()) (D24.up ()) (D46.up ()));let E24:=d24.d X G (tM (k:=25) d24.F T (E42.up ()));let E25:=d25.d X G (xl (k:=68) d25.F T (E36.up ()) (E24.up ()) (E46.up ()));let Fg:=nI (k:=69) d26.F T (D46.up ()) (D25.up ());let Fe:=mw (k:=69) d26.F T (E46.up ()) (E25.up ());let Fe:=au.imp (j:=vN GR) Fe λvs H Q E h=>by ext(⟨x,e,t,q⟩:h);show{x,e,t,q}
 let FxI:Bk K "__init__" "IndexwiseError.__init__" iE fI _ (.ref gI):={{0000000001,lI,cI}};let BI:=FxI.binds (ps:=["self","place"]) (ds:=[]) lgI U λ_ _ _ _ _ _ us hl=>by obtain⟨_,_,rfl⟩:=kj (show us.length=2 from ↑hl);show{011}
 let FI:au l.prog w K mg base bg 1 fI _ ["self","place"] (nt K D fI):=Ek FxI T;let ndA:=B0.mp ndC;let neD:∀b∈[aNoWords,aNoProgram,aTwice,aNoBind,aNoName,aUnlike,aParts,aTooGreat,aTooLong,aNoValue,aNoLine],b≠D:=λb hb z=>ndA.1 (z▸hb);let ndB:=(B0.mp ndA.2).1;let CW:jN K D fI aNoWords:={xNoWords,inNoWords,tI,saNoWords,plNoWords,gaNoWords,ghNoWords,clNoWords,kpNoWords,neD _ ()};let Er:KK K mg D fI aNoProgram aTwice aNoBind aNoName aUnlike aParts aTooGreat aTooLong aNoValue aNoWords aNoLine:={{00000000000000,xD},Ϗ X G oD,CW,λb hb=>{by
  simp only[ξ,A1,or_false]at hb;rcases hb with rfl|rfl|rfl|rfl|rfl|rfl|rfl|rfl|rfl|rfl
  .show{xNoProgram,neD _ ()}
  .show{xTwice,neD _ ()}
  .show{xNoBind,neD _ ()}
  .show{xNoName,neD _ ()}
  .show{xUnlike,neD _ ()}
  .show{xParts,neD _ ()}
  .show{xTooGreat,neD _ ()}
  .show{xTooLong,neD _ ()}
  .show{xNoValue,neD _ ()}
  .show{xNoLine,neD _ ()},Z8 λz=>ndB (z▸hb)},Ϗ X G oNoProgram,Ϗ X G oTwice,Ϗ X G oNoBind,Ϗ X G oNoName,Ϗ X G oUnlike,Ϗ X G oParts,Ϗ X G oTooGreat,Ϗ X G oTooLong,Ϗ X G oNoValue,Ϗ X G oNoWords,Ϗ X G oNoLine}
 let JR:=d47.x X G (vr (k0:=69) (W:=ee) (Wp:=ee) (G:=GR) (oneD:=ji) d47.F T CW (Ϗ X G oNoWords) (FI.mono ()) BI NM Ku (λh=>h) (IP (k:=70) (Fg.mono ()) (Fe.mono ())) d26.F.kp b26 (Fi.mono ()) d21.F.kp b21 (Fs.mono ()) d23.F.kp b23);let RR:=d27.x X G (tH (k0:=71) d27.F T JR (Ϗ X G d26.a) (Ϗ X G d21.a) (Ϗ X G d23.a));let FR:=Cp (k:=71) d28.F T CW (Ϗ X G oNoWords) (FI.mono ()) BI RR;let D28:=d28.d X G (Hh (sp':=zP) FR λvs H Q E h=>by ext(⟨rs,rfl,h1,h2,q⟩:h);show{01,.inl {rs,1,h1,h2,q}});let D65:=d65.d X G (wI (k:=73) d65.F T Er FR (Ϗ X G d28.a) d28.F.kp b28 (λe=>Dl (eH:=e) (k:=72) d64.F T Er) (Ϗ X G d64.a) d64.F.kp b64);let D48:=d48.d X G (Ik d48.F T (P:=l.prog) (w:=w) (base:=base));let D49:=d49.d X G (Em d49.F T (P:=l.prog) (w:=w) (base:=base));let D50:=d50.d X G (DH (k:=1) d50.F T (D48.up ()));let D51:=d51.d X G (AG (k:=1) d51.F T (D48.up ()));let D52:=d52.d X G (Cm d52.F T (P:=l.prog) (w:=w) (base:=base));let ch53:∀n,au l.prog w K mg base bg (1+n) f53 _ ["_law_kind_here"] (iY n):=λn=>by
  induction n with
  |zero=>show eW λvs H Q E h=>by ext(⟨v,k,_,_,z,_⟩:h);let:=k.size_pos;omega
  |succ n ih=>show CI (k0:=1+n) d53.F T (D52.up ()) (d53.d X G ih)
 let D53:=d53.d X G (ch53 12);let ch55:∀n,au l.prog w K mg base bg (2+n) f55 _ ["_law_state_here","_law_names_here","_law_room"] (oh n):=λn=>by
  induction n with
  |zero=>show eW λvs H Q E h=>by ext(⟨a,b,rm,xs,_,h1,h2,_⟩:h);omega
  |succ n ih=>show Il (k0:=2+n) d55.F T (D48.up ()) (D51.up ()) (d55.d X G ih)
 let D55:=d55.d X G (ch55 12);let D54:=d54.d X G (Hw (k:=1) d54.F T (D49.up ()));let D56:=d56.d X G (Do d56.F T (P:=l.prog) (w:=w) (base:=base));let D57:=d57.d X G (Dg (k:=14) d57.F T (D48.up ()) (D51.up ()) (D52.up ()) (D55.up ()) (D53.up ()));let D58:=d58.d X G (Di (k:=1) d58.F T (D48.up ()));let D60:=d60.d X G (Fc (k:=2) d60.F T (D50.up ()) (D48.up ()));let ch59:∀n,au l.prog w K mg base bg (15+n) f59 _ ["_law_walk","_law_world_here","_law_room","_law_budget"] (Hx K n):=λn=>by
  induction n with
  |zero=>show eW λvs H Q E h=>by ext(⟨_,_,_,_,_,_,_,_,_,_,room,bud,_,_,_,_,_,h1,h2,_⟩:h);omega
  |succ n ih=>show pU (k:=15+n) d59.F T (D54.up ()) (D56.up ()) (D48.up ()) (D57.up ()) (D58.up ()) (d59.d X G ih)
 let D59:=d59.d X G (ch59 8);let D61:=d61.d X G (KE (k:=23) d61.F T (D54.up ()) (D48.up ()) (D55.up ()) (D53.up ()) (D59.up ()));let D62:=d62.d X G (xi (k:=24) d62.F T (D48.up ()) (D49.up ()) (D60.up ()) (D61.up ()));let D63:=d63.d X G (Kn (k:=1) d63.F T (D48.up ()));let D66:=d66.d X G (Bj (k:=2) d66.F T (D48.up ()) (D63.up ()));show Lh (k0:=74) d67.F T (D62.up ()) (D49.up ()) (D50.up ()) (D48.up ()) (D66.up ()) (D63.up ()) (D65.up ()) (D28.up ())
def walk{l:Tv}{q:Ι}{loose:List Str}{XP:(Str->Option ν)->ϙ->Prop}{YP:ώ->ϙ->Prop}{d:DefRec}{K:Params->η}(hn:l.most=Z 63)(hdf:d.params.defaults=[])
  (hY:∀(w:ώ)(h:ϙ),YP w h->(K w.params).In h)
  (F:∀(w:ώ)(mg:Str->Option ν)(fa:υ)(h:ϙ),(K w.params).In h->h.Ns Ω mg->mg d.name=Z (.ref fa) ->
   ∃fd:ϣ,(∀(s:ψ)(u:ν),Tn s fd {[u],[]} [("_law_script",u)])/\∀base:ϙ,(K w.params).In base->base.Ns Ω mg->au l.prog w (K w.params) mg base bg 75 fa fd ["_law_script"] (yL (K w.params))):
  PySem.W.WalkO q loose XP YP l.row.toRowW d [] (λf vs=>PySem.call f vs):=
 L2.walk_of (n:=63) (k:=75) (x:="_law_script") (CX:=λ_=>bg) (sp:=λw=>yL (K w.params)) hn () hdf {133} hY F (λ_ _ a ns hl _ hS=>{a,ns,1,hS,hl,λ_=>U}) λ_ _ _ _ _ z=>z
end K65
namespace PySem.W.Fast
local macro_rules|`(command|universe $x*)=>return Lean.mkNullNode (<-x.mapM λx=>`(command|def $(Lean.mkIdent (.mkSimple ("tw"++toString (x.getId.toString.foldl (λa c=>a*62+(if c.isDigit then c.toNat+4 else if c.isUpper then c.toNat-65 else c.toNat-71)) 0)))):ident:=0))
universe RFLJgyaeugA VorfpCU5H7T CZ4lDTSrpVM A0wsY8VZjcf Hf5QJxkOCww Vg9SF3yvG7i Df4YU37exZO O30VSm0zU9Y Ed6Uy8NSHTg TR5qDdJqQEh IKdIlN8rz6O Efq6syYtEUQ FeXJCcud9Yv VgB9EAfQ37Y EJMaIHAXAkk KUFzCV1Wh0X RBNNAWqqAJP OTEQQTWDbfr KRiyPwATegz BXnkd2gPWjR K3qrAuS13bd LfSJRzRmwrU CPQx378OyUQ NxfUbSHYCwS Pyt7sGCbnar NHhMZMbUhoh ERYXJdXNdyg VbeiJwkAAk2 HV73R1G8OsY HKQhtue6Ogh LpAx1aGle6h GmmIJ1V1kr9 N891mSWHRqL OZKXGm1oSuf GZpDtOkQOJ0 Oszw2ad2iF7 QPTbe68zUKO Llh6IjCLNE0 DK0eTqH9MOL Ui9C66xnFQD SjjMLPhtQhF OSpwNETlujD ONny5oUIomo FROEp03k66d CaonYk4ioIs BFyqNe6qAZN Q2xZwmkdE3K VFVVFtHPGJq KokLR3GbvKD N32hTJpygOY MjuviOyBnqJ JWogCrJnFF6 D2lkNSw6geT FgBeSkrMlIP APdfkxY8Tau Tyn4hNqkWZX K5UCtOgBD1n QcrJrVaqS3P Qevxpn5A7Ye B6eYcl5bcZP PmT6zgyl1NO KRm1EiGUDOc SpE6TOMhwit Sv9iUCMWq7x DdNxFSaDGgq AuhAJ4pVdn1 KM3J3tDbh1H TLQetk4VizR RQdlHayO4nm CKChTHZAbud Tre2K1dMqYJ Az2eQxiThWm CK2XR5uBicx CcJUsCJz5Cp UwBAInALM7W JYxtrJCawyD UGN9Z4jBoHq U5Kv2a7JiCt H5PiEpGKutT B61iP5HnBiC Sc1wr7nBFQW Tv0aL9ditDJ SmYvOTVDJ93 FbHXbRGQHa9 LNAPPU3KY4D H1U7gSrESIG VONSSwCVIXF CTAytetq9g1 Rpurqvj4Bl8 Mf15w3I12vL RN10J1j4rEN VZUnl4S6LLk LOJHrSoW4mk IxjaZSvTGz6 UMX9IgomkeP IYPz3herGyK Ker5imEeqUN G6dBtuK5KwS LFRqdyOXd8h GVMLwgIokkW VdSwGV5KfJZ Bx2RwWRMMz0 NLgQmnlWC1e PjJlWnpD2Gf JkN7vxmsHqS Hg92hGkqpo1 MFrJOeFBeGE J7YXNI3fMXc S3vXYH457kg NODML6FirMT Vm7e8xlRgzE QOT00rgqBou CPigiOYxCLN EcF5oHUaFBl TdmxMkofyEH Nt7UcTIDlVP AIsze5j53sp F1n9WTz827y RfUL02ejow6 A8z46pqGX0L PRMMGIj0jyk SpdTv6f8tOX QKlBhiZB4K2 SpEigqS5AaC VVNUg9EOmod DoW8o3FsxvB QKh8X3l0rO3 ClinnopVcoN O5nWoSN7at7 AyXWwocHeIV VAHThT16Ez0 GWCRvqD5Xk3 BumH4XlPpKD DWWXR23j6gP P243PHDnO5g PpMUSM1Ppkw CHpcrlDVj3a H2oIg1Tn7fi O7XyQY5lVu4 VgugjfE5oog DEvMsKXwGU6 FaMduSbTthr ETMItvQ2JXF I0pCM5ze9gM U1FTJERfVXu GT8qPjzFfA6 GkxEIdPsy0i HnoZqBpC1kS ICXnF89qTBI E8htOXLtVlc PGhxwCy9pdT N6zTTvZPzkL DphxCKfzETs HZVnKmVqtOU JMUAsOOkfWM MP1Th9JN6wK UKwHEJxCL3P FzWKcf9b520 UetVaXcWYHP KJnwFrTsKQy PWKFH6H5s19 GO2ssnDh7BF JagrqsZV40x DSYMXXFyB7g S8jHRk7dfgB BL3pZLwIOKq ISlypSbdEJ8 U5xvjA0xPEC PFwyEmbgXw3 I6iRoI67hVP RGHlJQeqlu5 Q5FetPZ6I27 EWj54lRd60r HJlPm2xPJS7 K1JvnozvBka TzqeQIGRMbm PzxZshNMHJd A1yghNjNA4l GjgfawiRr6d O8IgQVGcz8b CGJuRk5PQFx AmfrSSLMXQk URvxRt9ZBRt IhfAhMfMU1S SxoIaqIw4CR O1t9gI8Xhcd DRNDbyRSsuY M3fTnStQUJc ANyX6Yb8J7K LEdFQYGyvjh BfhDnPFCk8m RPR4gwIz4MW SsvdXG30bXT DjivNdjIu9o RzkeHERcIuI Cy2thu6NI9N AbEWhP9bR8h NJc9fZx1ao8 KyOSv1XyYJd HzrtkfEPHeb QGj7VOVVG40 UbURvygveGp Afy2dHfbCd3 SvhKUGQx3wl GCiw4QwsrP8 TykF7Iv0z8h BGiMkZrkOux GJDIba8p63F BF6rp4QI1Rg Kodei4gNOBI DF1PQ9qFPX4 FxHoevFlTGd LuKyR4bn1K6 CKrzHXolyFJ HpsqDMWhdiD Dg0B4yTB09J FI0j0zl6Zlq KQOAUQHIKSz GkqlOlrHQ68 R5K5Z44lx8X TjCphMJOJF7 DGXptNokQXV QBJJ3cmLt6v SicafUawkkz S4WOVJmaFkI IxFhgaGJ5TF Nt10gewMThI JUoXcEwkfIN Bhsdm6j6wHi VQejDbF4KMU BYkL0LVOG8D TXbPhWT94ie Lip7JhUqNs4 Vq5PvWOWGKg LAgMuFQTMEz GW0ryl9DKbZ TV8oicWNmjz O7WArQtlSmS Fi9vnzT8xrd VjQQA4w9hjH CBKJnXMBlvo MeOrswZss8r Hcd4XUzyUlR Iu7gK9OhYEP VBfLMpsiPkF O824qc5uQxh FwQC9No7vak El057XurEDf QSbmeVadAbm EkYmjVsvARf JDA0i91uL5U UDr5VG7fZG9 FlptLq02Gae S8gPEKO77eP B3edG4IN2Yh QMM5xnbP6X6 LDXu26O46Eb BcW7AkG3Ruy Twt3u05WaaA A8jJ5PkfZPU HLvu03xhinE RDhaoqTNFa8 LBcIOjxvrV1 SZkNHnYx2Ww EjWdNzJRWFc S7gtlILAZzh Gx22louq76j Ji02EdC9f17 QuEqgWJrCVN KfwJ8ncU5Bx IPum6rKyrFB RzZDOInHg2S LH5MUpBskmi JPLGylSmXzU LlP4miCe4nR QRSQHlh35ak TV2KTD38vFg UbXVWtw7B4c AmNp1yzQyZx T76VYYlsztm DnrnShVomOO KEaPjayi5kD Gb1KUouNxcN Tmu6QLe9Oey HlQpg504zHZ UJcJOS8ACNh BHx0AieiBU9 P3UInGAahwB VGd91cLOXsQ LWPX8QKVSMY OBp4haIStcP Vu6RCxki0o4 NUDbsr3Y7cH JG0mVdJuurh Dz2uk0YU2Vv CkMv1anPhwV FoxcvIb5FUN ElnuLzfDNuU C143krSVdJe OqJvWKRSnmA VKxRlKZrvXK Vl2L0FAeWNg ENLsLUCinfB SXqvT3JSWkz MdbttyMiiog G3l0rZFLkXi KzltUnAtiOO LP5wS6GKfHy PlSEgRIeT4f GdmXoq30nEF Obj3GIdVxkO JsPLJYvvdhD LAMchONXhUo TvlmqZQadmC I5iVWYGLiuu Qaf9Aercbci ID2x3NefBUu QtEkWXKKvvJ NxKCkoDIfZj DrapMIQHKX3 Q1K391EQFU4 LygM7wT4tjl LJCnWcW7hAd Suu16f4Glsp RImTOOnWx2d D82R5HEW7TM GLsf5foTh6J DkpFYIbKZvW BKvkodgAbcG JgfWT1pQHGR PxKSAKrp7IY LDnMXLycYHz Rjp7lgOjXy7 HY0X7QYfD7L AKMw7saa5zG JlalQFyaxaO R59xkXQGLXL UwKfPDuQSVH MoYAUjQHnA1 FKxJ7YzIsD6 MFaMZfgJJrP Q0iMT2pFUFW PNL90sVfJts GwiD5hpiJWJ FakibNqLvaX E09cEdIfATD HT3qBc0iqNa H5GyNtCMTD3 VJhwSi5MjNF CgdEHwcQ6ck NS2WbqNRPUP QT9z2qxgFAV F1WtLxIsTMf OEDEYqTi7JI I896kog6JzZ BFtcFcU0TZD MGI7dUcThTj FNYj8GQzJOY P3y3gvM6adv I9NGAjP0KKp LAiNzPdtZk9 C7tFDz5xzf1 IUOKRAAtUcw UgcvnlY0cSi MqDtfGuf0R9 B6qTiTlKyON Vdjsydwsc7i CAkoegFxe2n C0t3s6xExdI MBMIdsOqb50 GoEMO93Cxqi NuLNU1UaRIJ LVdPjKbZGwG V6d5IHid2po AOft7MJWgqv TsqKP2axjHh UjXLcZFJzqW MJfXNpEcpdF Gff0Wnq7FJg O4C9tQbayDK PxMvy0whBm2 FzlcFKlJwWF NMSMc7VckGe Vc8oaYfu3Lp D9mfhJgCRVS BeDcE4TjaKS O30ugZ1CHCF HVPAgNj8Umj U9q84WSpOC2 AMGxzbXen4e Cxt3caSdqhq Jcod44467Du VifKH5twwOi IxBu5fzoPvl Q48J9otzMWu CKliQS5Ryu3 DeNw6OZRsGE UTShg5bsn3m QjxEtEZkjBt GB3ddHCHkSO Asucn18bLhq VTSvmCPf2HU OBsrkmzSgOc ITWPDtHYjpA CdJFq2E2a9K HIuvWIJ1wqN QBXV9kP1qtk CiWmLePlAdW GEyoqQIUksL H6dQ2P7ghBo MQWTi1x3FxH S1UA1gJxcw5 KgIinr19Ghr K1TAOOzy7Ok GbznjwQ8zkA IcA962tjD4W A2h4Ey9y8Xu FuDGLJ0lff5 PWZcW2hDt1v HDoeZGb7aGH RGlOGXHo3KN MC0WpehLXQZ GvyIQ1XmhBP IpT0mtSdopc O4T7cOJXSMQ Pv4VYZciDq6 D2oQ1Lc2itA ERkSPGwfAFJ Q1p40alu7te IUydFsus2Lt QD1B8uMH85m F7Cdt4j5TO9 MmzPFJ6oVoo F09VHwRpU6o Cg2u6OujmJ1 D7XWagLPzSz HfP8vrmyzFs FlzT6WsAqPR TVP1D7c3Xhz JhRmTd1O6cs TnrbvNIE7XN CQwwUNtT31r JMjUGrGObiF FXV1eOlw4yC JwABwFaoNQt VqKwlM5ZtAM CBew1jwTZfg M7T3KaTzNHP Q7BFt6vwLQ1 EdL7DKOON9Q OpQK5OaGtC3 Rf1KHU7TIe7 VWUH3uit4g8 I60f0xqWUaT M7z5kuEoHBM RTtUjCQOHzG Sw8mtZxlStk IIc7Ht9xqPP Mlbz1Rafhm8 QO6I5JwRGVP SRK2EtBhmTS M2qIqSRzUso CHpGlO31jcw LuNAwIU7BOs RAvOGs3ynJL KWZR73d42eK UJu1UphMKDi UePVseG365L U2x1CO9TVe0 OOQ6CaxFeVo Vhbs5XnmBIq FLZMgpkWtp8 LVgRn6Pkscm Ph7rg0R7mvo F3oFhj2Rykk SPIrTvQrOIA UWu4YMqzNSg IBG2LEW7xYi ENJpeTqn1a1 CSsbXZGM33R A7Vu8aSLWJb BUgz36T3xqa BkbMqqJUGkh PlRK3a8u0Ai OsDpmXOmqKY F5cNkyQRa71 ADcZg5Xkg1i JopIPE0lRvM Kun2iisy4MQ KfpZogoGaLL Nnb1jhXhz0J AHuMQXyun21 K9wRrHj2W8Y IEBizXdlGY4 QuPRvRoIFdc PBLIIE3qdUC UWOFU7A54vW MKachJSPaDZ L1u4oBwYh1n HFWMucWsugp FwuCD6AJjst IqzmVmWHESU BvunjEhWSN8 D4lnbjOfiE0 UKausXKQIQF A2xA98exZWh Cs91xn3ITbW AQzlcMcrMF1 MY2rjlhFGfb K079ClfsZvE ESjmjqL5Btc GjKLu02DRwo U4gw3CGwBjT LUzGVeDXQPY RkdKHDIpD52 CzUK8FkdrTv U9Xvoxb3ZsL P5kLZG5WoW3 H9rCfwBygG1 BjKUXOTAxVa OfO2wJgbtZe Me7ciMpCZln K2pZy6gemfd QoJjEy18Txa B21CZTOwPcX BvfqgaAE2j9 NpIGIeA5Yva L5qzYqZR7UM PgLK6KgMkcc TDx8lMEEPGY FWSQehEprvO J4XZXNMsBbv QbXh4xvcPYo DMQFv82MrAU B2tKv3UGsMa LU1G8NXL4LQ Rp2gF9jphnl Uv7nn3zJOS1 VaaO1QFULbX RGK8oornzUX VV0omfrN6EU ILdwoBdC9pZ R0i4gMIA2QR DsXWTU65tlQ VQ52Z5as3kY QJKCiBy2Wkk SpBSdgg64lZ UV40N8jh6pN MZrQhCQlAwb JG7Ow3QBr1R JP4QCBcSg1n KAFcSEWoMTB KrQTBAztJe9 VYJVEnM688J EtVdG4Sjvh6 Dk5PlnDYDnd B9VPwA8KDqI RsJg13DPjbp KPHOa8zY8c2 Ar7d4XSQ1TC KzXjEKbKX1r GKdUqhpwN0G I5G0cNhQGcZ Fgg5M75cxyw CmBCniJUgtH Ce4UHH8ZIix A6CCqx9Z3ls HiyWXVp6IoR Cr5PaASWpCS Pe6i533tDxF TwfhlJo5u3y NJEpgOIo8ql DqodlwoE4tn HZfZH7NF81O GvekSE2dvyr JcSs5aoaxmL DIGOn1ZYNIV N7KW1Fy4faD KXbNJkpQ0H0 KXG7qySwIvQ JII14hoB6lq O8F0u3Ks5AD CgJ6KRAAD7H J6gRfAYiuFz AyohdnzdU9C TRNtbNBCXUC MZvT5ixcdGT U7W0iPz0ulY Unvjfp4d0zc IV7vDVUdcQ8 IiMjLmxPXsu LeDrKFROh0Z RWauMsAAU4o TpRUEVQqqld IZOr8Kv5Qoe UQj1s0QI8MN DbnMuIwKnt7 BRfgCKnHny3 Fp05WFxochQ IQkipZfMxQg CbRPjZrRMWH B4e8opMkcTC I1djXTCx1fi OmYiewPIFTS EHe0CotXvFV IZOGBSHBn5F G93vkKr2VJJ Aber13FHJbX PeE3plS4K0m G5yb0N2FnzF JyeNtW49fxN NWKIsRt6CoW IGmb70XKY81 ExeKTqc6Fuq O5PPNtalO6Y S4jO3NQlIvM AIuFlQOFmvl IYlVRNdQl25 Bz5WtEzX2ES TKRnPaVs4py OJSK4RYtUEc SQ89vb0hzzY Qtjp25amQEE HIrHlx00hZR PtN6RG0Bafl UTvEfKG9fhJ Hk2L0fcp9DK JRtMoVgfgrK ScpomrcyF0Z MipeW7Mc73G AmsR208LbzS FtLXOs689ex OTeIGuQ0zKU DRF0WoIOIsE JQ8MIblcwbW AABlBzLCiNi UizTBzahgQ5 IxnVNquXdiA VP2GsOxgS1G QpRwWvdqcil MYWU2ulUZEE SVsXtUli3xy VgTHukRTlrt FxxiZ8zcm8j QL1s2WIDXmE LMRwWiqDcSI QwijwJzwsRV P5iiDqj0GHX LSwH9laJdEY Jak0Q2eGL7n P6NX2h5S6Yy LXcl6PV1VIO K7Hs68pwxMr O33RigcUxJ8 JqJFMcmydUG ONmmlCT59wn EcUhZAJT3lH
end PySem.W.Fast
open PySem PySem.W PyProof.Rows
set_option maxRecDepth 100000 in
set_option maxHeartbeats 0 in
theorem PySem.Challenge.cw_indexwise_k65_programs_refused_at_their_holds : PySem.Challenge.rw_indexwise_k65_programs_refused_at_their.Holds := by
 w_on;o_law;k_head;(case hw=>w_witness2)
 k_fill
 refine K65.walk (l := PySem.Challenge.rw_indexwise_k65_programs_refused_at_their) rfl rfl (λw h Y => PySem.W.kIn_of Y) ?F
 case F=>
  intro w mg fa h KX G hmg
  refine' K65.all_mk KX G hmg ?d1 ?d2 ?d3 ?d4 ?d5 ?d6 ?d7 ?d8 ?d9 ?d10 ?d11 ?d12 ?d13 ?d14 ?d15 ?d16 ?d17 ?d18 ?d19 ?d20 ?d21 ?d22 ?d23 ?d24 ?d25 ?d26 ?d27 ?d28 ?d29 ?d30 ?d31 ?d32 ?d33 ?d34 ?d35 ?d36 ?d37 ?d38 ?d39 ?d40 ?d41 ?d42 ?d43 ?d44 ?d45 ?d46 ?d47 ?d48 ?d49 ?d50 ?d51 ?d52 ?d53 ?d54 ?d55 ?d56 ?d57 ?d58 ?d59 ?d60 ?d61 ?d62 ?d63 ?d64 ?d65 ?d66 ?d67 ?z1 ?z2 ?z3 ?z4 ?z5 ?z6 ?z7 ?z8 ?z9 ?z10 ?z11 ?z12 ?z13 ?z14 ?z15 ?z16 ?zg0 ?zg1 ?zg2 ?zg3 ?zg4 ?zg5 ?zg6 ?zg7 ?zg8 ?zg9 ?zR ?lR ?zS ?aC ?aSI ?iSI ?lSI ?cSI ?kSI ?aM ?iM ?lM ?cM ?kM ?aN ?iN ?lN ?cN ?kN ?aB ?iB ?lB ?cB ?kB ?pg ?hd ?po ?sa ?mk ?kc ?nT ?nA ?sS ?lI ?cI ?lgI ?tI ?oD ?xD ?oNoWords ?xNoWords ?oNoProgram ?xNoProgram ?oTwice ?xTwice ?oNoBind ?xNoBind ?oNoName ?xNoName ?oUnlike ?xUnlike ?oParts ?xParts ?oTooGreat ?xTooGreat ?oTooLong ?xTooLong ?oNoValue ?xNoValue ?oNoLine ?xNoLine ?inNoWords ?saNoWords ?plNoWords ?gaNoWords ?ghNoWords ?clNoWords ?kpNoWords ?ndC
  all_goals try (refine' K65.df_mk ?a ?l ?c ?k;(case a=>k_is);(case l=>k_is);(case c=>k_is);(case k=>k_is))
  (case z1=>k_is);(case z2=>k_is);(case z3=>k_is);(case z4=>k_is);(case z5=>k_is);(case z6=>k_is);(case z7=>k_is);(case z8=>k_is);(case z9=>k_is);(case z10=>k_is);(case z11=>k_is);(case z12=>k_is);(case z13=>k_is);(case z14=>k_is);(case z15=>k_is);(case z16=>k_is)
  (case zg0=>k_is)
  (case zg1=>k_is)
  (case zg2=>k_is)
  (case zg3=>k_is)
  (case zg4=>k_is)
  (case zg5=>k_is)
  (case zg6=>k_is)
  (case zg7=>k_is)
  (case zg8=>k_is)
  (case zg9=>k_is)
  (case zR=>k_is)
  (case lR=>k_is)
  (case zS=>k_is)
  (case aC=>k_is)
  (case aSI=>k_is)
  (case iSI=>k_is)
  (case lSI=>k_is)
  (case cSI=>k_is)
  (case kSI=>k_is)
  (case aM=>k_is)
  (case iM=>k_is)
  (case lM=>k_is)
  (case cM=>k_is)
  (case kM=>k_is)
  (case aN=>k_is)
  (case iN=>k_is)
  (case lN=>k_is)
  (case cN=>k_is)
  (case kN=>k_is)
  (case aB=>k_is)
  (case iB=>k_is)
  (case lB=>k_is)
  (case cB=>k_is)
  (case kB=>k_is)
  (case pg=>k_is)
  (case hd=>k_is)
  (case po=>k_is)
  (case sa=>k_is)
  (case mk=>k_is)
  (case kc=>k_is)
  (case nT=>k_is)
  (case nA=>k_is)
  (case oD=>k_is)
  (case xD=>k_is)
  (case oNoWords=>k_is)
  (case xNoWords=>apply K65.xo_mk;k_is)
  (case oNoProgram=>k_is)
  (case xNoProgram=>apply K65.xo_mk;k_is)
  (case oTwice=>k_is)
  (case xTwice=>apply K65.xo_mk;k_is)
  (case oNoBind=>k_is)
  (case xNoBind=>apply K65.xo_mk;k_is)
  (case oNoName=>k_is)
  (case xNoName=>apply K65.xo_mk;k_is)
  (case oUnlike=>k_is)
  (case xUnlike=>apply K65.xo_mk;k_is)
  (case oParts=>k_is)
  (case xParts=>apply K65.xo_mk;k_is)
  (case oTooGreat=>k_is)
  (case xTooGreat=>apply K65.xo_mk;k_is)
  (case oTooLong=>k_is)
  (case xTooLong=>apply K65.xo_mk;k_is)
  (case oNoValue=>k_is)
  (case xNoValue=>apply K65.xo_mk;k_is)
  (case oNoLine=>k_is)
  (case xNoLine=>apply K65.xo_mk;k_is)
  (case inNoWords=>k_is)
  (case lI=>k_is)
  (case cI=>k_is)
  (case lgI=>k_is)
  (case tI=>k_is)
  (case saNoWords=>k_is)
  (case plNoWords=>k_is)
  (case gaNoWords=>k_is)
  (case ghNoWords=>k_is)
  (case clNoWords=>k_is)
  (case kpNoWords=>k_is)
  (case ndC=>decide)
  case sS=>
   refine' XB.shp_mk ?xShl ?xSlo ?xShe ?xSht
   (case xShl=>k_is)
   (case xSlo=>decide)
   (case xShe=>repeat (first|exact XB.Ents.nil|refine XB.Ents.cons ?_))
   case xSht=>
    refine' (XB.TupsK.cons ?xSa1 ?xSb1 (XB.TupsK.cons ?xSa2 ?xSb2 (XB.TupsK.cons ?xSa3 ?xSb3 (XB.TupsK.cons ?xSa4 ?xSb4 (XB.TupsK.cons ?xSa5 ?xSb5 (XB.TupsK.cons ?xSa6 ?xSb6 (XB.TupsK.cons ?xSa7 ?xSb7 (XB.TupsK.cons ?xSa8 ?xSb8 (XB.TupsK.cons ?xSa9 ?xSb9 (XB.TupsK.cons ?xSa10 ?xSb10 (XB.TupsK.cons ?xSa11 ?xSb11 (XB.TupsK.cons ?xSa12 ?xSb12 (XB.TupsK.cons ?xSa13 ?xSb13 (XB.TupsK.cons ?xSa14 ?xSb14 (XB.TupsK.cons ?xSa15 ?xSb15 (XB.TupsK.cons ?xSa16 ?xSb16 (XB.TupsK.cons ?xSa17 ?xSb17 (XB.TupsK.cons ?xSa18 ?xSb18 (XB.TupsK.cons ?xSa19 ?xSb19 (XB.TupsK.cons ?xSa20 ?xSb20 (XB.TupsK.cons ?xSa21 ?xSb21 (XB.TupsK.cons ?xSa22 ?xSb22 (XB.TupsK.cons ?xSa23 ?xSb23 (XB.TupsK.cons ?xSa24 ?xSb24 (XB.TupsK.cons ?xSa25 ?xSb25 (XB.TupsK.cons ?xSa26 ?xSb26 (XB.TupsK.cons ?xSa27 ?xSb27 XB.TupsK.nil)))))))))))))))))))))))))))
    (case xSa1=>k_is);(case xSb1=>repeat (first|exact XB.AreS.nil|refine XB.AreS.cons ?_))
    (case xSa2=>k_is);(case xSb2=>repeat (first|exact XB.AreS.nil|refine XB.AreS.cons ?_))
    (case xSa3=>k_is);(case xSb3=>repeat (first|exact XB.AreS.nil|refine XB.AreS.cons ?_))
    (case xSa4=>k_is);(case xSb4=>repeat (first|exact XB.AreS.nil|refine XB.AreS.cons ?_))
    (case xSa5=>k_is);(case xSb5=>repeat (first|exact XB.AreS.nil|refine XB.AreS.cons ?_))
    (case xSa6=>k_is);(case xSb6=>repeat (first|exact XB.AreS.nil|refine XB.AreS.cons ?_))
    (case xSa7=>k_is);(case xSb7=>repeat (first|exact XB.AreS.nil|refine XB.AreS.cons ?_))
    (case xSa8=>k_is);(case xSb8=>repeat (first|exact XB.AreS.nil|refine XB.AreS.cons ?_))
    (case xSa9=>k_is);(case xSb9=>repeat (first|exact XB.AreS.nil|refine XB.AreS.cons ?_))
    (case xSa10=>k_is);(case xSb10=>repeat (first|exact XB.AreS.nil|refine XB.AreS.cons ?_))
    (case xSa11=>k_is);(case xSb11=>repeat (first|exact XB.AreS.nil|refine XB.AreS.cons ?_))
    (case xSa12=>k_is);(case xSb12=>repeat (first|exact XB.AreS.nil|refine XB.AreS.cons ?_))
    (case xSa13=>k_is);(case xSb13=>repeat (first|exact XB.AreS.nil|refine XB.AreS.cons ?_))
    (case xSa14=>k_is);(case xSb14=>repeat (first|exact XB.AreS.nil|refine XB.AreS.cons ?_))
    (case xSa15=>k_is);(case xSb15=>repeat (first|exact XB.AreS.nil|refine XB.AreS.cons ?_))
    (case xSa16=>k_is);(case xSb16=>repeat (first|exact XB.AreS.nil|refine XB.AreS.cons ?_))
    (case xSa17=>k_is);(case xSb17=>repeat (first|exact XB.AreS.nil|refine XB.AreS.cons ?_))
    (case xSa18=>k_is);(case xSb18=>repeat (first|exact XB.AreS.nil|refine XB.AreS.cons ?_))
    (case xSa19=>k_is);(case xSb19=>repeat (first|exact XB.AreS.nil|refine XB.AreS.cons ?_))
    (case xSa20=>k_is);(case xSb20=>repeat (first|exact XB.AreS.nil|refine XB.AreS.cons ?_))
    (case xSa21=>k_is);(case xSb21=>repeat (first|exact XB.AreS.nil|refine XB.AreS.cons ?_))
    (case xSa22=>k_is);(case xSb22=>repeat (first|exact XB.AreS.nil|refine XB.AreS.cons ?_))
    (case xSa23=>k_is);(case xSb23=>repeat (first|exact XB.AreS.nil|refine XB.AreS.cons ?_))
    (case xSa24=>k_is);(case xSb24=>repeat (first|exact XB.AreS.nil|refine XB.AreS.cons ?_))
    (case xSa25=>k_is);(case xSb25=>repeat (first|exact XB.AreS.nil|refine XB.AreS.cons ?_))
    (case xSa26=>k_is);(case xSb26=>repeat (first|exact XB.AreS.nil|refine XB.AreS.cons ?_))
    (case xSa27=>k_is);(case xSb27=>repeat (first|exact XB.AreS.nil|refine XB.AreS.cons ?_))
