import PyProof.Rows.All
import Wide.All
import OpenK.AllK
import Wide.FinOn
import Lean
import PyProof.EqAt
import PyProof.EqKinds
import PyProof.TupleCall
import PySem.Challenge.RW_indexwise_k66_whole_read_is_what_is_writ
set_option Elab.async false
set_option linter.all false
set_option compiler.extract_closed false
set_option maxRecDepth 100000
set_option maxHeartbeats 3200000
local macro_rules | `(tactic| trivial) => `(tactic| first | exact .inl rfl | exact .inr (.inl rfl) | exact .inr (.inr rfl) | exact .inr rfl | assumption | exact True.intro | exact ⟨rfl,rfl,rfl,by decide +kernel,rfl,by decide +kernel,by decide +kernel⟩)
local macro_rules|`(())=>`(by first|omega|decide +kernel|trivial|(intro _;rfl)|simp)
open Array renaming length_toList→ύ,getElem?_eq_some_iff→l7,getD_eq_getD_getElem?→C2,perm_iff_toList_perm→K7,getElem?_toList→OS,getElem?_eq_getElem→PX
open Bool renaming true→Y,and_eq_true→ψ,false→Α,false_ne_true→ϋ,false_and→j_,true_and→o9,eq_false_iff→B3,eq_iff_iff→B5,and_true→J7,and_false→Py,false_eq_true→Pz,not_eq_true'→P_,false_or→Qc,or_false→Qd
open Decidable renaming byContradiction→PV
open False renaming elim→j9
open ForInStep renaming yield→J5
open Int renaming toNat_natCast→P4,ediv_one→Qo
open List renaming length_map→ε,mem_cons→ν,mem_singleton→ξ,mem_cons_of_mem→ς,mem_cons_self→Γ,getElem?_eq_getElem→Δ,map_append→Ε,getElem?_eq_some_iff→Ζ,length_append→Ι,size_toArray→Κ,length_cons→Λ,mem_of_getElem?→Ν,map_cons→Υ,length_take→Ω,getElem?_map→ϐ,map_map→ϗ,mem_map→ϙ,take_add_one→ϛ,append_nil→ϣ,take_length→Ϥ,mem_append→ϧ,mem_append_right→Ϫ,lookup_cons→ϰ,range→ϳ,map_nil→ϴ,not_mem_nil→ϵ,sum_cons→c_,mem_append_left→g_,lookup→j6,length_singleton→j7,mem_map_of_mem→j8,length_drop→k7,getElem_mem→k_,sum_append→n9,any_eq_true→n_,find?_cons→q9,nodup_cons→u_,nil_append→v_,mem_of_mem_take→y8,replicate→y_,getElem?_append_right→z_,length_nil→A3,getElem?_eq_none→A6,all_eq_true→A7,cons_append→A9,filterMap_cons→B7,take_of_length_le→C4,zipWith→C5,length_replicate→E1,drop_eq_getElem_cons→E4,getElem_of_mem→F9,map_congr_left→F_,mem_range→G2,getD→G7,length→H_,eq_nil_of_length_eq_zero→I0,sum_nil→J1,mem_filter→J3,take_append_drop→J9,getElem?_set_ne→K3,mem_of_mem_drop→K9,dropLast_concat→K_,getElem?_append_left→L8,mem_of_find?_eq_some→L_,length_reverse→M4,take_succ_cons→M5,any_cons→M7,mem_filterMap→N6,find?_eq_none→N9,getElem?_set_self→OB,any_eq_false→OD,append_assoc→OI,all_map→OJ,getElem_inj→OV,dropLast_concat_getLast→O9,length_zipWith→Pb,contains_cons→PK,drop_zero→PN,filter_append→PP,pairwise_iff_getElem→PQ,extract_eq_drop_take→PY,ext_getElem?→P5,nodup_append→P7,length_range→Qa,all_cons→Qe,drop_length→Ql,of_mem_zip→Qt,forIn_cons→Qw,find?_some→Qy,map→QO,Perm→QR
open List.Perm renaming refl→QC
open List.cons renaming injEq→Qz
open Nat renaming le_refl→Β,zero_le→Τ,ne_of_lt→Ϙ,lt_of_lt_of_le→Ϝ,le_trans→ϩ,le_add_right→q_,ne_of_gt→u9,le_succ→x9,le_of_ble_eq_true→E2,le_of_lt→E7,lt_succ_of_lt→E9,lt_irrefl→E_,lt_succ_self→G4,mul_le_mul_right→L0,min_eq_left→O8,not_lt→PB
open Ne renaming symm→ϔ
open Option renaming some→Z,none→χ,map_eq_some_iff→Ϣ,isSome_map→E8
open Option.some renaming inj→Ϟ
open Or renaming inl→m_
open PyProof.Rows renaming callWith_type1→i9,slot_tuple_getitem→i_,envOfC→B9,toString_length_le→OQ,AllBare→Pc,call_isinstance_of→PL,slice_from_eq→PM
open PyProof.Rows.F renaming plain_set_update_loop→Oz
open PyProof.Rows.IsTup renaming new→QH
open PySem renaming wpAny_bind→η,Value→θ,sizeLine_eq→ι,Addr→J,Shared→ρ,strLen_append→υ,wpAny_pure→ω,Program→Θ,sizeLine→Μ,wpAny→Ο,World→Χ,model→ϊ,FuncData→ό,mainGlobals→ώ,starEach→Ϗ,wpAny_loadPart_at→ϓ,Heap→ϖ,Around→Ϛ,excClassObj→ϭ,Stmt→ϯ,Expr→ϲ,compareOp→ϻ,wpAny_field→b_,wpAny_isSubtype_exc→f_,wpAny_newObj_type→i6,wpAny_mono→i7,strKind→l_,wpAny_Call_Name_kw→m8,wpAny_truthy_bool→o_,Builtin→s_,wpAny_holding→u6,wpAny_callSpecial?_slot→x_,wpAny_call_entry→y4,checkBuiltinCall→y6,codeAny_call_builtin→y7,backTo→A5,SetTable→B1,wpAny_seqItems→B2,cLine→B8,codeAny_mono→C1,scanBound→C7,sysModules→C8,wpAny_setField_rec→D_,wpAny_passesOwn→E5,wpAny_rule→F4,codeAny→F7,mem_of_lookup→F8,wpAny_getItem_str_slice→G6,IsPair→G9,wpAny_pyIter_tuple→I_,wpAny_execs_nil→J4,codeAny_builtin→J6,GenState→K2,binaryOp→K4,NameKind→K5,call_meets→K6,wpAny_setField→K8,bootBuiltins→L5,rawInt→M2,attributeBase→M6,wpAny_comprehension_free→M9,wpAny_call→N7,typeIs_str→N8,Scope→OA,wpAny_pyIter_list→OC,plainObj_wpAny_Assign_Attribute→OP,wpAny_standAt→OY,wpAny_onRaise→OZ,wpAny_updateSeq_pair→O1,post_val_or_str→O2,codeAny_of_tree→O3,wpAny_updateSeq→O6,wpAny_typeOf→Pd,ExcBaseFacts→Pi,wpAny_loadPart→Po,tupleKind_room_in1→Pq,typeLookup→Ps,ZipApart→PD,wpAny_FormattedValue_plain→PH,wpAny_letOwnedTupleGo_zip→PU,keywordEach→P3,ExcAttrBase→P9,plainId_quiet→Qg,wpAny_execs_cons→Qh,noFill_tuple_add→Qi,Within→Qn,OsState→Qq,wpAny_specialOf→Qu,pyNext→QA,wpAny_letGo→QE,DictEntry→QF,BindsTo→QG,IsZip→QI,Result→QJ,IsPart→QK,Drawn→QL,Operator→QM,CmpOp→QP
open PySem.Around renaming under_plainId→O0
open PySem.AutoSeq1 renaming wpAny_loadPart'→B0
open PySem.Builtin.Frozenset renaming updateFrom→O4
open PySem.Builtin.List renaming listTooLong→A_,listExtendWith→C3,listLengthHint→Ph
open PySem.Builtin.Slice renaming slicePlaces→E3,sliceAdjust→L9,sliceApplied→Pt
open PySem.Builtin.SmallTypes renaming nextOf→r_,ownedTupleIsFree→u8
open PySem.Builtin.Str renaming occurrences→G_
open PySem.Builtin.Tuple renaming tupleItemsOf→Pu
open PySem.Calls renaming callWith_builtin→OG,Name_function_global→Pm,spliced_cons→Pp,spliced_nil→P2
open PySem.Code renaming quiet_builtin→J0
open PySem.Data renaming cell→OW,fields→QB,seq→QN
open PySem.F renaming plainAttrs_str→Ρ,plainAttrs_list→ϑ,slot_list_append→Ϡ,type_list_append→ϡ,called_set→ϫ,slot_str_join→d_,type_str_join→e_,slot_str_split→r6,type_str_split→r9,slot_tuple_iterator_next→D0,slot_list_extend→F5,type_list_extend→F6,slot_str_startswith→J_,type_str_startswith→K0,slot_str_partition→L3,type_str_partition→L4,args_tuple_add_2→M8,entry_tuple_add→N_,slot_tuple_add→OF,slot_str_count→OL,type_str_count→OO,slot_list_pop→OT,type_list_pop→OU,args_tuple_iterator_next_1→O5,slot_zip_next→O7,slot_enumerate_iter→Pe,entry_tuple_iterator_next→Pf,args_str_split_2→PJ,plain_extend_loop→PR,entry_str_split→P8,slot_str_split→Qk
open PySem.Heap renaming get?_push_of_some→π,lt_size→Η,get?_push_size→Ξ,get?_update_other→ϝ,get?_update_self→ϸ,size_push→Ϲ,get?_none_of_le→a_,SameBut→B_,get?_push_ne→OH,size_update→OX,ExtBut→QD
open PySem.Heap.SameBut renaming update→M3
open PySem.NameKind renaming free→ϟ,cell→y9
open PySem.NumText renaming digitsVal→Ϸ
open PySem.Obj renaming data_mapFields→A8,mapSeq→F3,isFreed_of_fields→J8,mapFields→M_,putSet→Qp
open PySem.PassesOwn renaming never→Ϩ,leaving→Qb
open PySem.SeqAt renaming EqAt→Ϯ
open PySem.SeqAt.EqAt renaming same→E6,int_str→Pj,str_int→Pk,int_int→Pw,str_str→Px,of_refs→PC
open PySem.SeqAt.RcAt renaming tuples→P6,lists→Qj
open PySem.SetTable renaming grown→G8
open PySem.Str renaming ofString→O,join→Ϻ,empty_append→m9,empty→p0,append_assoc→OK
open PySem.StrLaws renaming join_split→J2
open PySem.Value renaming ref→Ψ,none→w_,builtin→C6,str→G0,type→K1,bool→N5
open PySem.Value.type renaming inj→Ϭ
open PySem.W renaming Frag→ζ,findIn→Φ,mg_of→ϒ,nsIn→ϕ,keepIn→ϥ,mg_none_of→Ϧ,fnOf→h_,kia_one→p_,emptyDict→t_,codeIn→A0,instObj→B4,kitOne→C9,callWith_K→C_,plainGet→L6,isFn→L7,hasDictIn→OE,methodCall_KW→OR,plainGet_of→O_,lookIn→Pn,methodObj→PZ,plainOver→P0,takerIn→Qr,makesIn→Qs,OpenLaw→Qv,Looks→Qx
open PySem.W.KT renaming app_list→Pa
open PySem.W.KasT renaming kasWp_bind→N4
open Sum renaming inr→ϱ,inl→Qm
open True renaming intro→B6
theorem Q9{p:Prop}[i:Decidable p](h:p):decide p=true:=decide_eq_true h
theorem Q8{p:Prop}[i:Decidable p](h:¬p):decide p=false:=decide_eq_false h
theorem Q7{p:Prop}[i:Decidable p](h:decide p=true):p:=of_decide_eq_true h
theorem Q6{c:Prop}{h:Decidable c}(k:¬c){α:Sort u}{t e:α}:ite c t e=e:=if_neg k
theorem Q5{c:Prop}{h:Decidable c}(k:c){α:Sort u}{t e:α}:ite c t e=t:=if_pos k
local macro_rules|`(tactic|omega)=>`(tactic|first|lia|omega(splitNatSub:=true))
local macro_rules|`(command|$d:definition)=>return(<-`(command|noncomputable $d:definition)).raw.rewriteBottomUp (·.setInfo .none)
local macro_rules|`(command|$d:abbrev)=>return(<-`(command|noncomputable $d:abbrev)).raw.rewriteBottomUp (·.setInfo .none)
set_option bootstrap.genMatcherCode false
set_option tactic.hygienic false
local macro_rules|`(tactic|show $e)=>`(tactic|refine $e)
local macro_rules|`(tactic|let $c:letConfig $d:letDecl)=>`(tactic|have $c:letConfig $d:letDecl)
local macro_rules|`(tactic|ext($p:rcasesPat:$e))=>`(tactic|obtain $p:rcasesPat:=$e)|`(tactic|ext $p*)=>`(tactic|rintro $p*)
local macro_rules|`(↑$e)=>`(by simpa using $e)
theorem U{α:Sort u}{a:α}:a=a:=.refl a
local macro_rules|`({$x:term,*})=>do
 let mut a:=#[]
 for y in x.getElems do
  match y.raw.isNatLit? with
  |some _=>for c in (y.raw.getArg 0).getAtomVal.toList do a:=a.push (<-match c with|'0'=>`(_)|'1'=>`(rfl)|'2'=>`(?_)|_=>`(()))
  |_=>a:=a.push y
 `(⟨$a,*⟩)
namespace L2
open PySem PySem.Spec PyProof.Rows
def yR(h:1=1:=by rfl):True:=trivial
def yD(h:1=1:=by decide):True:=trivial
def yI(h:1=1:=by intro _;rfl):True:=trivial
def yU(h:1=1:=by with_unfolding_all rfl):True:=trivial
def yF(h:1=1:=by first|show .inl rfl|show .inr rfl|show .inr (.inl rfl)|show .inr (.inr rfl)|assumption):True:=trivial
abbrev cR:=Sum Int Str
def qp:cR->θ->Bool
 |.inl k,v=>θ.isInt k v
 |.inr x,v=>θ.isStrOf x v
def Nu(w:Χ):cR->Int
 |.inl k=>hashInt k
 |.inr x=>hashStr w x
def bw:∀{k:cR}{v:θ},qp k v=Y->(∃i t,k=Qm i/\v=θ.int i t)\/(∃x t,k=ϱ x/\v=G0 x t)
 |.inl i,v,h=>by ext(⟨t,e⟩:θ.isInt_shape (k:=i) (v:=v) h);show .inl {i,t,1,e}
 |.inr x,v,h=>by ext(⟨t,e⟩:θ.isStrOf_shape (x:=x) (v:=v) h);show .inr {x,t,1,e}
def Aa(i:Int)(t:Tok):qp (.inl i) (.int i t)=Y:=by simp[qp,θ.isInt]
def AK(x:Str)(t:Tok):qp (.inr x) (.str x t)=Y:=by simp[qp,θ.isStrOf]
def JI(a b:Int):decide ((Qm a:cR)=Qm b)=(a==b):=by
 by_cases e:a=b
 .subst e;simp
 .let h:¬ (Qm a:cR)=Qm b:=λq=>e (Qm.inj q);rw[Q8 h];show(beq_eq_false_iff_ne.mpr e).symm
def JJ(a b:Str):decide ((ϱ a:cR)=ϱ b)=decide (a=b):=by
 by_cases e:a=b
 .subst e;simp
 .let h:¬ (ϱ a:cR)=ϱ b:=λq=>e (ϱ.inj q);rw[Q8 h,Q8 e]
def Ix(a:Int)(b:Str):decide ((Qm a:cR)=ϱ b)=Α:=Q8 (λq=>nomatch q)
def IA(a:Str)(b:Int):decide ((ϱ a:cR)=Qm b)=Α:=Q8 (λq=>nomatch q)
def bg(prog:Θ)(w:Χ):PySem.KeyKind prog w cR where
 is:=qp
 hash:=Nu w
 inj:=λv a b ha hb=>by
  rcases bw ha with ⟨i,t,rfl,rfl⟩|⟨x,t,rfl,rfl⟩
  .rcases bw hb with ⟨j,u,rfl,e⟩|⟨y,u,rfl,e⟩
   .injection e with e1 _;rw[e1]
   .show nomatch e
  .rcases bw hb with ⟨j,u,rfl,e⟩|⟨y,u,rfl,e⟩
   .show nomatch e
   .injection e with e1 _;rw[e1]
 byValue:=λk v h=>by rcases bw h with ⟨i,t,rfl,rfl⟩|⟨x,t,rfl,rfl⟩<;>rfl
 pyHash:=λhv h=>by
  rcases bw hv with ⟨i,t,rfl,rfl⟩|⟨x,t,rfl,rfl⟩
  .show wpAny_pyHash_int h
  .show wpAny_pyHash_str h
 eqBool:=λhu hv h=>by
  rcases bw hu with ⟨i,t,rfl,rfl⟩|⟨x,t,rfl,rfl⟩
  .rcases bw hv with ⟨j,u,rfl,rfl⟩|⟨y,u,rfl,rfl⟩
   .rw[JI]at h;show wpAny_eqBool_int h
   .rw[Ix]at h;show Pj i t y u _ _ _ _ h
  .rcases bw hv with ⟨j,u,rfl,rfl⟩|⟨y,u,rfl,rfl⟩
   .rw[IA]at h;show Pk x t j u _ _ _ _ h
   .rw[JJ]at h;show wpAny_eqBool_str h
 «strs»:=λk x t v h=>by
  rcases bw h with ⟨i,u,rfl,e⟩|⟨y,u,rfl,e⟩
  .show nomatch e
  .injection e with e1 _;subst e1;cases v<;>rfl
def tG(prog:Θ)(w:Χ)(i:Int)(t:Tok):(bg prog w).is (.inl i) (.int i t)=Y:=Aa i t
def gK(prog:Θ)(w:Χ)(x:Str)(t:Tok):(bg prog w).is (.inr x) (.str x t)=Y:=AK x t
inductive V where
 |non|bl (b:Bool)|int (i:Int)|str (x:Str)|byt (b:Array UInt8)|flt (b:UInt64)|ref (a:J)|ty (n:String)
 deriving DecidableEq
def aI:V->θ->Prop
 |.non,u=>u=w_
 |.bl b,u=>u=N5 b
 |.int i,u=>∃t,u=θ.int i t
 |.str x,u=>∃t,u=G0 x t
 |.byt b,u=>∃t,u=θ.bytes b t
 |.flt b,u=>∃t,u=θ.float b t
 |.ref a,u=>u=Ψ a
 |.ty n,u=>u=K1 n
abbrev aE:List V->List θ->Prop:=Paired aI
def aE.length(r:aE xs us):xs.length=us.length:=Paired.length r
def aE.get:∀{xs:List V}{us:List θ}{i:Nat}{x:V},aE xs us->xs[i]?=Z x->∃u,us[i]?=Z u/\aI x u
 |_,_,_,_,.nil,e=>by simp at e
 |_,_,0,_,.cons r _,e=>by simp at e;subst e;show{01,r}
 |_,_,i+1,x,.cons _ t,e=>by obtain⟨u,h1,h2⟩:=aE.get (i:=i) (x:=x) t (↑e);show{u,↑h1,h2}
def aE.set(r:aI x u):∀{xs:List V}{us:List θ}(i:Nat),aE xs us->aE (xs.set i x) (us.set i u)
 |_,_,_,.nil=>.nil
 |_,_,0,.cons _ t=>.cons r t
 |_,_,i+1,.cons q t=>.cons q (aE.set r i t)
def aE.append:∀{xs ys:List V}{us ws:List θ},aE xs us->aE ys ws->aE (xs++ys) (us++ws)
 |_,_,_,_,.nil,s=>s
 |_,_,_,_,.cons r t,s=>.cons r (aE.append t s)
def aE.take:∀{xs:List V}{us:List θ}(n:Nat),aE xs us->aE (xs.take n) (us.take n)
 |_,_,0,_=>.nil
 |_,_,_+1,.nil=>.nil
 |_,_,n+1,.cons r t=>.cons r (aE.take n t)
def aE.drop:∀{xs:List V}{us:List θ}(n:Nat),aE xs us->aE (xs.drop n) (us.drop n)
 |_,_,0,r=>r
 |_,_,_+1,.nil=>.nil
 |_,_,n+1,.cons _ t=>aE.drop n t
def jN:Option V->Option θ->Prop
 |some v,Z u=>aI v u
 |none,χ=>True
 |_,_=>False
def KV:List (κ×V)->List (κ×θ)->Prop:=Paired λ(p:κ×V) (q:κ×θ)=>p.1=q.1/\aI p.2 q.2
def kV:cR->V
 |.inl i=>.int i
 |.inr x=>.str x
inductive HO where
  |lst (xs:List V)
  |tup (xs:List V)
  |dK (kvs:List (cR×V))|dT (kvs:List (List cR×V))
  |set (S:Int->Bool) (n:Nat)
  |ins (C dx:J) (fs:List (Str×V))
  |own (x:J)
  |xd (fs:List (Str×V))
  |met (f x:J)
  |rng (lo hi:Int)
  |frz (o:Obj) (u:HO)
  |tbl (ps:Array θ)
  |ext (φ:ϖ->Prop)
abbrev Hp:=J->Option HO
def upd(H:Hp)(a:J)(o:HO):Hp:=λb=>if b=a then Z o else H b
def aa:upd H a o a=Z o:=by unfold upd;rw[Q5 U]
def ai(h:b≠a):upd H a o b=H b:=by unfold upd;rw[Q6 h]
def Ki{H:Hp}{a b:J}{o u:HO}(h:H a=Z o)(h':H b=Z u)(d:o≠u):a≠b:=by intro e;subst e;rw[h]at h';show d (Ϟ h')
def af{H:Hp}{a b:J}{o:HO}(h:H a=Z o)(h':H b=χ):a≠b:=by intro e;subst e;rw[h]at h';cases h'
def Gs(h:ϖ)(a:J):Prop:=∃o,h.get? a=Z o/\o.dict=χ
def Gs.new(h:ϖ)(e:o.dict=χ)(f:autoParam (o.isFreed=Α) yR._auto_1):Gs (h.push o) h.objs.size:={0,Ξ _ f,e}
section
variable(P:Θ)(w:Χ)
def bK(H:Hp)(h:ϖ)(a:J):HO->Prop
 |.lst xs=>xs.length<=Μ/\∃(its:List θ) (n:Nat),aE xs its/\h.get? a=Z {cls:=.type "list",data:=.seq its.toArray n}
 |.tup xs=>xs.length<=Μ/\∃its:List θ,aE xs its/\IsTup h a its.toArray/\Gs h a
 |.dK kvs=>kvs.length<=Μ/\(a==C8)=Α/\∃vs,KV kvs vs/\h.DictOf (bg P w) a vs
 |.dT kvs=>kvs.length<=Μ/\(a==C8)=Α/\∃xs:List (List cR×J×θ),
   Paired (λ(p:List cR×V) (q:List cR×J×θ)=>p.1=q.1/\H q.2.1=Z (.tup (p.1.map kV))/\aI p.2 q.2.2) kvs xs /\
   ∃o es ep,h.get? a=Z o/\o.ExactDict/\o.data=.dict es ep/\es.toList=xs.map (entryOfKey (tupleKind (bg P w)))/\(xs.map (·.1)).Nodup
 |.set S n=>h.SetOf (intKind P w) a S n
 |.ins C dx fs=>H dx=Z (.own a)/\fs.length<=1000/\dx≠a/\h.get? a=Z (B4 C dx) /\
   ∃mA,h.Ns1 dx mA/\(∀f,jN (fs.lookup f) (mA f))/\Qn mA (fs.map (·.1))
 |.own _=>∃o,h.get? a=Z o
 |.xd fs=>∃mA,h.Ns1 a mA/\∀f,jN (fs.lookup f) (mA f)
 |.rng lo hi=>∃t u v,h.get? a=Z {cls:=.type "range",data:=.fields #[.int lo t,.int hi u,.int 1 v]}
 |.frz o u=>h.get? a=Z o/\bK H h a u
 |.tbl ps=>h.get? a=Z {cls:=.none,data:=.fields ps}
 |.met f x=>h.get? a=Z (PZ (.ref f) (.ref x))
 |.ext j=>j h/\(∃o,h.get? a=Z o)/\∀h1 h2:ϖ,j h1->(∀o,h1.get? a=Z o->h2.get? a=Z o)->j h2
def gC(H:Hp)(h:ϖ):Prop:=∀a o,H a=Z o->bK P w H h a o
end
section
variable{P:Θ}{w:Χ}{H H':Hp}{h h':ϖ}{a:J}{o:HO}
def bK.lt(x:bK P w H h a o):a<h.objs.size:=by
 cases o with
 |lst xs=>ext(⟨_,_,_,_,e⟩:x);show Η e
 |tup xs=>ext(⟨_,_,_,p⟩:x);show p.1.lt
 |dK kvs=>ext(⟨_,_,_,_,o,_,_,e,_⟩:x);show Η e
 |dT kvs=>ext(⟨_,_,_,_,o,_,_,e,_⟩:x);show Η e
 |set S n=>ext(⟨o,_,_,_,e,_⟩:x);show Η e
 |ins C dx fs=>ext(⟨_,_,_,e,_⟩:x);show Η e
 |own y=>ext(⟨_,e⟩:x);show Η e
 |xd fs=>ext(⟨_,⟨_,_,_,e,_⟩,_⟩:x);show Η e
 |rng lo hi=>ext(⟨_,_,_,e⟩:x);show Η e
 |frz ob u=>ext(⟨e,_⟩:x);show Η e
 |tbl ps=>show Η (x)
 |met f y=>show Η (x)
 |ext φ=>ext(⟨_,⟨_,e⟩,_⟩:x);show Η e
def Paired.mapP:∀{n:List α}{j:List β},Paired F n j->(∀a b,F a b->G a b)->Paired G n j
 |_,_,.nil,_=>.nil
 |_,_,.cons r t,f=>.cons (f _ _ r) (Paired.mapP t f)
def bK.stay(x:bK P w H h a o)(k:∀b u,(b=a\/H b=Z (.own a))->h.get? b=Z u->h'.get? b=Z u)
  (ho:∀b,H b=Z (.own a)->H' b=Z (.own a)) (ht:∀b xs,H b=Z (.tup xs)->H' b=Z (.tup xs)):bK P w H' h' a o:=by
 induction o with
 |lst xs=>ext(⟨z,its,n,r,e⟩:x);show{z,its,n,r,k _ _ (.inl U) e}
 |tup xs=>ext(⟨z,its,r,⟨ob,e,c⟩,od,e2,c2⟩:x);show{z,its,r,{ob,k _ _ (.inl U) e,c},od,k _ _ (.inl U) e2,c2}
 |dK kvs=>ext(⟨z,y,vs,r,ob,es,ep,e,c⟩:x);show{z,y,vs,r,ob,es,ep,k _ _ (.inl U) e,c}
 |dT kvs=>ext(⟨z,y,xs,r,ob,es,ep,e,c⟩:x);show{z,y,xs,Paired.mapP r λp q z=>{z.1,ht _ _ z.2.1,z.2.2},ob,es,ep,k _ _ (.inl U) e,c}
 |set S n=>ext(⟨ob,es,ep,t,e,c⟩:x);show{ob,es,ep,t,k _ _ (.inl U) e,c}
 |ins C dx fs=>ext(⟨d,z,ne,e,mA,⟨od,es,ep,e2,c⟩,r⟩:x);show{ho _ d,z,ne,k _ _ (.inl U) e,mA,{od,es,ep,k _ _ (.inr d) e2,c},r}
 |own y=>ext(⟨ob,e⟩:x);show{ob,k _ _ (.inl U) e}
 |xd fs=>ext(⟨mA,⟨od,es,ep,e,c⟩,r⟩:x);show{mA,{od,es,ep,k _ _ (.inl U) e,c},r}
 |rng lo hi=>ext(⟨t,u,v,e⟩:x);show{t,u,v,k _ _ (.inl U) e}
 |frz ob u ih=>ext(⟨e,q⟩:x);show{k _ _ (.inl U) e,ih q}
 |tbl ps=>have e:h.get? a=Z {cls:=.none,data:=.fields ps}:=x;change h'.get? a=Z {cls:=.none,data:=.fields ps};show k a _ (.inl U) e
 |met f y=>have e:h.get? a=Z (PZ (.ref f) (.ref y)):=x;change h'.get? a=Z (PZ (.ref f) (.ref y));show k a _ (.inl U) e
 |ext φ=>ext(⟨p,⟨o,e⟩,st⟩:x);show{st _ _ p λo q=>k _ _ (.inl U) q,{o,k _ _ (.inl U) e},st}
def gC.lt(x:gC P w H h)(e:H a=Z o):a<h.objs.size:=(x a o e).lt
def gC.fresh(x:gC P w H h)(e:h.objs.size<=a):H a=χ:=by
 cases q:H a with
 |none=>rfl
 |some u=>show absurd (Ϝ (x.lt q) e) (E_ _)
def gC.kept(x:gC P w H h)(k:∀b u,h.get? b=Z u->h'.get? b=Z u):gC P w H h':=λa o e=>
 (x a o e).stay (λb u _ q=>k b u q) (λ_ q=>q) λ_ _ q=>q
def gC.laid(x:gC P w H h)(k:∀b u,h.get? b=Z u->h'.get? b=Z u)(B:h.objs.size<=a)(z:bK P w (upd H a o) h' a o):gC P w (upd H a o) h':=λb u e=>by
 let n:=x.fresh B;by_cases j:b=a
 .subst j;rw[aa]at e;cases e;show z
 .rw[ai j]at e;show(x b u e).stay (λc v _ q=>k c v q) (λc q=>by rw[ai (af q n)];show q) λc xs q=>by rw[ai (af q n)];show q
end
def Rd(H:Hp)(a:J)(u:HO):Prop:=H a=Z u\/∃o,H a=Z (.frz o u)
def Rd.ok{P:Θ}{w:Χ}{H:Hp}{h:ϖ}{a:J}{u:HO}(r:Rd H a u)(x:gC P w H h):bK P w H h a u:=by
 rcases r with r|⟨o,r⟩
 .show x a u r
 .ext(⟨_,q⟩:x a _ r);show q
def JU:Option HO->Prop
 |some (.lst _)=>True
 |some (.dK _)=>True
 |some (.dT _)=>True
 |some (.set _ _)=>True
 |some (.ins _ _ _)=>True
 |some (.ext _)=>True
 |_=>False
section
variable{P:Θ}{w:Χ}{H:Hp}{h h':ϖ}{x e:J}{o':HO}
def gC.write(ok:gC P w H h)(mu:JU (H x))(he:e=x\/H e=Z (.own x))(k:∀b u,b≠e->h.get? b=Z u->h'.get? b=Z u)(heo:∃u,h'.get? e=Z u)
  (new:bK P w (upd H x o') h' x o'):gC P w (upd H x o') h':=λb u q=>by
 let nown:∀c y,H c=Z (.own y)->c≠x:=λc y r z=>by subst z;rw[r]at mu;show mu
 let ntup:∀c xs,H c=Z (.tup xs)->c≠x:=λc xs r z=>by subst z;rw[r]at mu;show mu
 by_cases hb:b=x
 .subst hb;rw[aa]at q;cases q;show new
 .rw[ai hb]at q;by_cases hbe:b=e
  .let q':H b=Z (.own x):=by
    rcases he with z|z
    .show absurd (hbe.trans z) hb
    .rw[hbe];show z
   rw[q]at q';cases q';ext(⟨v,hv⟩:heo);show{v,by rw[hbe];show hv}
  .show(ok b u q).stay (λc v hc r=>k c v ?_ r) (λc r=>by rw[ai (nown c b r)];show r) λc xs r=>by rw[ai (ntup c xs r)];show r
   rcases hc with rfl|hc
   .show hbe
   .ext rfl;rcases he with z|z
    .show nown c b hc z
    .rw[hc]at z;cases z;show hb U
end
structure Un(fs ex:List J)(H H':Hp)(h h':ϖ):Prop where
 keep:∀b o,h.get? b=Z o->H b=χ->b∉fs->b∉ex->h'.get? b=Z o
 slot:∀b o,h.get? b=Z o->H b=χ->b∈fs->b∉ex->∃sl,h'.get? b=Z {o with slots:=sl}
 free:∀b o,h.get? b=Z o->H b=χ->b∉ex->H' b=χ
 there:∀b o,h.get? b=Z o->b∉ex->∃o',h'.get? b=Z o'
 tups:∀b xs,H b=Z (.tup xs)->H' b=Z (.tup xs)
 frzs:∀b o u,H b=Z (.frz o u)->H' b=Z (.frz o u)
 tbls:∀b ps,H b=Z (.tbl ps)->∃more,H' b=Z (.tbl (ps++more))
section
variable{fs fs' ex ex':List J}{H H1 H2:Hp}{h h1 h2 h':ϖ}{a x e:J}{o:HO}
def Un.any(u:Un fs ex H H1 h h1)(q:h.get? b=Z ob)(n:H b=χ)(j:b∉ex):∃B,h1.get? b=Z {ob with slots:=B}:=by
 by_cases z:b∈fs
 .show u.slot b ob q n z j
 .show{ob.slots,u.keep b ob q n z j}
def Un.kept(k:∀b u,h.get? b=Z u->h'.get? b=Z u):Un fs ex H H h h':=
 {λb ob q _ _ _=>k b ob q,λb ob q _ _ _=>{ob.slots,k b ob q},λ_ _ _ n _=>n,λb ob q _=>{ob,k b ob q},λ_ _ q=>q,λ_ _ _ q=>q,λ_ ps q=>{#[],by rw[q];simp}}
def Un.refl:Un fs ex H H h h:=Un.kept λ_ _ q=>q
def Un.laid(k:∀b u,h.get? b=Z u->h'.get? b=Z u)(z:h.objs.size<=a)(j:H a=χ):Un fs ex H (upd H a o) h h' where
 keep:=λb u q _ _ _=>k b u q
 slot:=λb u q _ _ _=>{u.slots,k b u q}
 free:=λb u q n _=>by rw[ai (Ϙ (Ϝ (Η q) z))];show n
 there:=λb u q _=>{u,k b u q}
 tups:=λb xs q=>by rw[ai (af q j)];show q
 frzs:=λb u xs q=>by rw[ai (af q j)];show q
 tbls:=λb ps q=>{#[],by rw[ai (af q j),q];simp}
def Un.write(mu:JU (H x))(he:e=x\/H e=Z (.own x))(k:∀b u,b≠e->h.get? b=Z u->h'.get? b=Z u)(heo:∃u,h'.get? e=Z u):Un fs ex H (upd H x o) h h':=by
 let hx:∀b,H b=χ->b≠x:=λb n z=>by subst z;rw[n]at mu;show mu
 let hb:∀b,H b=χ->b≠e:=λb n z=>by
  subst z;rcases he with r|r
  .show hx b n r
  .rw[n]at r;cases r
 let hm:∀b u,H b=Z u->¬ JU (Z u)->b≠x:=λb u q nm z=>by subst z;rw[q]at mu;show nm mu
 show{λb u q n _ _=>k b u (hb b n) q,λb u q n _ _=>{u.slots,k b u (hb b n) q},λb u q n _=>by rw[ai (hx b n)];show n,λb u q _=>?_,λb xs q=>by rw[ai (hm b _ q λz=>z)];show q,λb u xs q=>by rw[ai (hm b _ q λz=>z)];show q,λb ps q=>{#[],by rw[ai (hm b _ q λz=>z),q];simp}}
 by_cases hbe:b=e
 .subst hbe;show heo
 .show{u,k b u hbe q}
end
def Mj(h:ϖ)(H:Hp):List J:=(ϳ h.objs.size).filter λa=>(H a).isSome
def rJ(h:ϖ)(H:Hp):ϖ:=PySem.W.hideAll h (Mj h H)
def zQ(h:ϖ)(H:Hp):(rJ h H).objs.size=h.objs.size:=PySem.W.hideAll_size _ _
def CS(e:h.get? b=Z o)(n:H b=χ):(rJ h H).get? b=Z o:=
 PySem.W.hideAll_get _ e λj=>by let q:=(J3.mp j).2;rw[n]at q;simp at q
def GQ(e:(rJ h H).get? b=Z o):h.get? b=Z o/\H b=χ:=by
 let j:h.get? b=Z o:=PySem.W.of_hideAll (Mj h H) e;show{j,2};cases q:H b with
 |none=>rfl
 |some x=>have n:b∈Mj h H:=J3.mpr {G2.mpr (Η j),by simp[q]};let z:(rJ h H).get? b=χ:=PySem.W.hideAll_none (Mj h H) n;rw[z]at e;cases e
def mh(g h:ϖ)(L:J):List (J×Obj):=(ϳ h.objs.size).filterMap λa=>if a=L\/(g.get? a).isSome=Y then χ else (h.get? a).map λo=>(a,o)
def tR(h1:a≠L)(h2:g.get? a=χ)(j:h.get? a=Z o):(a,o)∈mh g h L:=
 N6.mpr {a,G2.mpr (Η j),by simp[h1,h2,j]}
def mK{g h:ϖ}{L:J}{p:J×Obj}(hp:p∈mh g h L):p.1≠L/\g.get? p.1=χ/\h.get? p.1=Z p.2:=by
 ext(⟨b,_,e⟩:N6.mp hp);split at e
 .cases e
 .rename_i hn;cases q:h.get? b with
  |none=>rw[q]at e;simp at e
  |some u=>
   rw[q]at e;simp only[Option.map_some,Option.some.injEq]at e;subst e;show{λz=>hn (.inl z),2,q};change g.get? b=χ;cases r:g.get? b with
   |none=>rfl
   |some v=>show(hn (.inr (by simp[r]))).elim
def Dp:News g L h (mh g h L):=λp j=>let ⟨a,b,c⟩:=mK j;{c,a,b}
structure Mod(K:ζ)(mg:Str->Option θ)(base:ϖ):Prop where
 kin:K.In base
 glob:base.Ns ώ mg
 blt:∃mb,base.Ns builtinsNs mb/\∀x:Str,x≠"__name__"->mb x=L5 x
 nolimit:base.NoLimit
structure Cx where
 prog:Θ
 w:Χ
 K:ζ
 mg:Str->Option θ
 base:ϖ
 A:Ϛ
 N:List Str
 s₀:ρ
 H₀:Hp
 env:Env
 outer:List Env
 stack:List Env
 ex:List J
 fn:Str->Bool
 calm:Bool
 pn:List (J×Obj)
 xe:θ->ρ->Prop
def gx(l:List Env):List J:=l.filterMap (·.frame)
abbrev Cx.fs(X:Cx):List J:=gx X.outer
def JT(sc:OA)(x:Str):Prop:=sc.names.lookup x=Z .local\/sc.names.lookup x=Z .cell\/sc.names.lookup x=Z .free
def Hm(sc:OA)(x:Str):Prop:=sc.names.lookup x=Z .local\/sc.names.lookup x=Z .cell
def KS(env:Env)(h:ϖ)(m:Str->Option θ)(x:Str)(u:θ):Prop:=
 (env.kindOf x=Z .local/\m x=Z u)\/((env.kindOf x=Z .cell\/env.kindOf x=Z .free)/\∃c,env.cells.lookup x=Z c/\h.IsCell c (Z u))
structure Cx.Ok(X:Cx):Prop where
 mod:Mod X.K X.mg X.base
 kind:X.env.scope.kind=.function
 glob:X.env.globals=ώ
 blt:X.env.builtins=builtinsNs
 above:X.s₀.heap.objs.size<=X.env.locals
 inj:∀x y c,X.env.cells.lookup x=Z c->X.env.cells.lookup y=Z c->x=y
 has:∀x,(X.env.kindOf x=Z .cell\/X.env.kindOf x=Z .free)->∃c,X.env.cells.lookup x=Z c
 cab:∀x c,X.fn x=Y->X.env.cells.lookup x=Z c->X.s₀.heap.objs.size<=c
 hd:X.calm=Y->X.A.handled=χ
 frames:X.A.frames=Z X.stack
 stk:X.stack=X.outer\/(X.stack=X.env::X.outer/\X.env.frame=Z X.env.locals)
 exf:∀b∈X.ex,b≠X.env.locals/\∀x c,X.env.cells.lookup x=Z c->c≠b
 bs:∀b o,X.base.get? b=Z o->X.s₀.heap.get? b=Z o/\X.H₀ b=χ
 bsz:X.base.objs.size<=X.s₀.heap.objs.size
 noex:∀b o,X.base.get? b=Z o->b∉X.ex
 exfs:∀b∈X.ex,b∉X.fs
 funs:X.s₀.heap.FunFrames X.base X.outer
 frf:∀b∈X.fs,X.H₀ b=χ
structure au(X:Cx)(pins:List (J×Obj))(σ:List (Option V))(H:Hp)(s:ρ):Prop where
 ok:X.Ok
 os:s.os=X.s₀.os
 bare:Pc s.gens
 base:Un X.fs X.ex X.H₀ H X.s₀.heap s.heap
 loc:∃m,s.heap.Ns X.env.locals m/\∀(i:Nat)(x:Str)(v:V),X.N[i]?=Z x->σ[i]?=Z (Z v)->JT X.env.scope x->∃u,aI v u/\KS X.env s.heap m x u
 cell:∀x c,X.env.cells.lookup x=Z c->∃v,s.heap.IsCell c v
 free:H X.env.locals=χ
 freeC:∀x c,X.env.cells.lookup x=Z c->H c=χ
 pin:∀p∈X.pn++pins,s.heap.get? p.1=Z p.2/\H p.1=χ/\p.1≠X.env.locals/\p.1∉X.fs/\∀v,p.2.data≠.cell v
 hok:gC X.prog X.w H s.heap
 len:σ.length=X.N.length
section
variable{X:Cx}{pins:List (J×Obj)}{σ:List (Option V)}{H H':Hp}{s:ρ}{h':ϖ}
def Cx.Ok.nofr(ok:X.Ok){b:J}{o:Obj}(e:X.base.get? b=Z o):b∉X.fs:=λhb=>by let:=(ok.funs.mem hb).1;rw[e]at this;cases this
def au.bs(I:au X pins σ H s):∀b o,X.base.get? b=Z o->s.heap.get? b=Z o/\H b=χ:=λb o e=>
 {I.base.keep b o (I.ok.bs b o e).1 (I.ok.bs b o e).2 (I.ok.nofr e) (I.ok.noex b o e),I.base.free b o (I.ok.bs b o e).1 (I.ok.bs b o e).2 (I.ok.noex b o e)}
def au.bk(I:au X pins σ H s):∀b o,X.base.get? b=Z o->s.heap.get? b=Z o:=λb o e=>(I.bs b o e).1
def au.mod(I:au X pins σ H s):Mod X.K X.mg X.base:=I.ok.mod
def au.kIn(I:au X pins σ H s):X.K.In s.heap:=I.ok.mod.kin.keeps I.bk
def au.fr(I:au X pins σ H s):∃m,Fr X.base X.env.locals s.heap m:=
 let ⟨m,j,_⟩:=I.loc
 {m,j,I.bk,ϩ I.ok.bsz I.ok.above}
def au.lt(I:au X pins σ H s):X.env.locals<s.heap.objs.size:=let ⟨_,hn,_⟩:=I.loc;hn.lt
def au.sz(I:au X pins σ H s):X.s₀.heap.objs.size<=s.heap.objs.size:=ϩ I.ok.above (E7 I.lt)
def au.nofs(I:au X pins σ H s)(h:s.heap.objs.size<=a):a∉X.fs:=λj=>by ext(⟨_,o,ho,_⟩:I.ok.funs.mem j);show absurd (Ϝ (Η ho) (ϩ I.sz h)) (E_ _)
def au.cne(I:au X pins σ H s):∀x c,X.env.cells.lookup x=Z c->c≠X.env.locals:=λx c e z=>by ext(⟨v,o,ho,hd⟩:I.cell x c e);ext(⟨m,⟨o',es,ep,ho',hd',_⟩,_⟩:I.loc);rw[z,ho']at ho;cases ho;rw[hd']at hd;cases hd
def au.funs(I:au X pins σ H s):s.heap.FunFrames X.base X.outer:=by
 let all:∀(l:List Env),(∀b∈gx l,b∈X.fs)->X.s₀.heap.FunFrames X.base l->s.heap.FunFrames X.base l:=by
  intro l;induction l with
  |nil=>intro _ _;trivial
  |cons env r ih=>intro hs hl;ext(⟨hk,⟨L,o,hf,hn,ho,hd⟩,hr⟩:hl);let hL:L∈X.fs:=hs L (by unfold gx;rw[B7,hf];show Γ);obtain⟨sl,e⟩:=I.base.slot L o ho (I.ok.frf L hL) hL λz=>I.ok.exfs L z hL;show{hk,{L,0,hf,hn,e,hd},ih (λb hb=>hs b (by unfold gx;rw[B7,hf];show ς _ hb)) hr}
 show all X.outer (λ_ hb=>hb) I.ok.funs
def au.stack(I:au X pins σ H s):s.heap.FunFrames X.base X.stack:=by
 rcases I.ok.stk with e|⟨e,j⟩
 .rw[e];show I.funs
 .rw[e];ext(⟨m,n,_⟩:I.loc);show .cons (by rw[I.ok.kind];decide) j n ?_ I.funs;show a_ (ϩ I.ok.bsz I.ok.above)
def au.stkSub(I:au X pins σ H s):∀b∈gx X.stack,b∈X.env.locals::X.fs:=λb hb=>by
 rcases I.ok.stk with e|⟨e,hf⟩
 .rw[e]at hb;show ς _ hb
 .rw[e]at hb;unfold gx at hb;rw[B7,hf]at hb;show hb
def au.stkFree(I:au X pins σ H s):∀b∈gx X.stack,H b=χ:=λb j=>by
 rcases ν.mp (I.stkSub b j)with e|j
 .rw[e];show I.free
 .ext(⟨_,o,ho,_⟩:I.ok.funs.mem j);show I.base.free b o ho (I.ok.frf b j) λz=>I.ok.exfs b z j
def au.step{g':Array K2}{t':Nat}{d':QL}{ch:List J}(I:au X pins σ H s)
  (hch:∀b∈ch,(b∈X.ex\/X.s₀.heap.objs.size<=b)/\b≠X.env.locals/\(∀x c,X.env.cells.lookup x=Z c->c≠b)/\∀p∈X.pn++pins,p.1≠b)
  (keep:∀b o,b≠X.env.locals->b∉X.fs->b∉ch->s.heap.get? b=Z o->H b=χ->h'.get? b=Z o)
  (slot:∀b o,b≠X.env.locals->b∈X.fs->b∉ch->s.heap.get? b=Z o->H b=χ->∃sl,h'.get? b=Z {o with slots:=sl}) (free:∀b o,b∉ch->s.heap.get? b=Z o->H b=χ->H' b=χ)
  (there:∀b o,b∉ch->s.heap.get? b=Z o->∃o',h'.get? b=Z o')
  (tups:∀b xs,H b=Z (.tup xs)->H' b=Z (.tup xs)) (frzs:∀b o u,H b=Z (.frz o u)->H' b=Z (.frz o u)) (tbls:∀b ps,H b=Z (.tbl ps)->∃more,H' b=Z (.tbl (ps++more)))
  (ns:∀m,s.heap.Ns X.env.locals m->h'.Ns X.env.locals m) (hok:gC X.prog X.w H' h') (hg:Pc g'):
  au X pins σ H' {s with heap:=h',gens:=g',drawn:=d',toks:=t'}:=by
 let neL:∀b o,X.s₀.heap.get? b=Z o->b≠X.env.locals:=λb o e=>Ϙ (Ϝ (Η e) I.ok.above);let neC:∀b o,X.s₀.heap.get? b=Z o->b∉X.ex->b∉ch:=λb o e hx hb=>by
  rcases(hch b hb).1 with z|z
  .show hx z
  .show absurd (Ϝ (Η e) z) (E_ _)
 let cellK:∀x c,X.env.cells.lookup x=Z c->∀v,s.heap.IsCell c v->h'.IsCell c v:=λx c e v ⟨o,ho,hd⟩=>by
  let nch:c∉ch:=λz=>(hch c z).2.2.1 x c e U;by_cases hc:c∈X.fs
  .ext(⟨sl,q⟩:slot c o (I.cne x c e) hc nch ho (I.freeC x c e));show{0,q,hd}
  .show{o,keep c o (I.cne x c e) hc nch ho (I.freeC x c e),hd}
 show{I.ok,I.os,hg,{λb o e n hb hx=>?_,λb o e n hb hx=>?_,λb o e n hx=>?_,λb o e hx=>?_,λb xs e=>tups b xs (I.base.tups b xs e),λb o xs e=>frzs b o xs (I.base.frzs b o xs e),λb ps e=>?_},2,λx c e=>?_,2,λx c e=>?_,λp hp=>?_,hok,I.len}
 .show keep b o (neL b o e) hb (neC b o e hx) (I.base.keep b o e n hb hx) (I.base.free b o e n hx)
 .ext(⟨sl,e1⟩:I.base.slot b o e n hb hx);ext(⟨sl',e2⟩:slot b _ (neL b o e) hb (neC b o e hx) e1 (I.base.free b o e n hx));show{sl',e2}
 .ext(⟨o',e1⟩:I.base.there b o e hx);show free b o' (neC b o e hx) e1 (I.base.free b o e n hx)
 .ext(⟨o',e1⟩:I.base.there b o e hx);show there b o' (neC b o e hx) e1
 .ext(⟨m1,e1⟩:I.base.tbls b ps e);ext(⟨m2,e2⟩:tbls b _ e1);show{m1++m2,by rw[e2,Array.append_assoc]}
 .ext(⟨m,hn,hl⟩:I.loc);show{m,ns m hn,λi x v e1 e2 e3=>?_};ext(⟨u,r,l⟩:hl i x v e1 e2 e3);show{u,r,2};rcases l with l|⟨k,c,e,z⟩
  .show .inl l
  .show .inr {k,c,e,cellK x c e _ z}
 .ext(⟨v,z⟩:I.cell x c e);show{v,cellK x c e v z}
 .ext(⟨m,⟨o,_,_,ho,_⟩,_⟩:I.loc);show free _ o (λz=>(hch _ z).2.1 U) ho I.free
 .ext(⟨v,o,ho,hd⟩:I.cell x c e);show free c o (λz=>(hch c z).2.2.1 x c e U) ho (I.freeC x c e)
 .ext(⟨e,n,ne,nf,d⟩:I.pin p hp);let nch:p.1∉ch:=λz=>(hch p.1 z).2.2.2 p hp U;show{keep p.1 p.2 ne nf nch e n,free p.1 p.2 nch e n,ne,nf,d}
def au.un{t':Nat}(I:au X pins σ H s)(u:Un X.fs [] H H' s.heap h')(B:gC X.prog X.w H' h'):au X pins σ H' {s with heap:=h',toks:=t'}:=by ext(⟨m,⟨o,es,ep,ho,r⟩,_⟩:I.loc);ext(⟨M,a⟩:u.any ho I.free ());show I.step (g':=s.gens) (d':=s.drawn) (ch:=[]) (λ_ z=>nomatch z) (λb o _ j _ e n=>u.keep b o e n j ()) (λb o _ j _ e n=>u.slot b o e n j ()) (λb o _ e n=>u.free b o e n ()) (λb o _ e=>u.there b o e ()) u.tups u.frzs u.tbls (λL G=>by ext(⟨o',D,F,q,r'⟩:G);rw[ho]at q;cases q;show{0,D,F,a,r'}) B I.bare
def au.call{g':Array K2}{t':Nat}{d':QL}{ch:List J}(I:au X pins σ H s)(u:Un (gx X.stack) ch H H' s.heap h')(F:gC X.prog X.w H' h')(M:Pc g')
  (B:∀b∈ch,(b∈X.ex\/X.s₀.heap.objs.size<=b)/\b≠X.env.locals/\(∀x c,X.env.cells.lookup x=Z c->c≠b)/\∀p∈X.pn++pins,p.1≠b):
  au X pins σ H' {s with heap:=h',gens:=g',drawn:=d',toks:=t'}:=by
 ext(⟨m,⟨o,es,ep,ho,r⟩,_⟩:I.loc);obtain⟨R,q⟩:=u.any ho I.free λz=>(B _ z).2.1 U;show I.step B (λb o q N j e n=>u.keep b o e n (λz=>(ν.mp (I.stkSub b z)).elim q N) j) (λb o _ _ j e n=>u.any e n j) (λb o j e n=>u.free b o e n j) (λb o j e=>u.there b o e j) u.tups u.frzs u.tbls (λa L=>by ext(⟨o',G,d,D,r'⟩:L);rw[ho]at D;cases D;show{0,G,d,q,r'}) F M
def au.turned{t':Nat}{it:J}(I:au X pins σ H s)(k:∀b o,b≠it->s.heap.get? b=Z o->h'.get? b=Z o)(hn:H it=χ)(hL:it≠X.env.locals)
  (h1:it∈X.ex\/X.s₀.heap.objs.size<=it) (h2:∀x c,X.env.cells.lookup x=Z c->c≠it) (h3:∀p∈X.pn++pins,p.1≠it):au X pins σ H {s with heap:=h',toks:=t'}:=by
 let nit:∀b u,H b=Z u->b≠it:=λb u e z=>by rw[z,hn]at e;cases e
 show I.step (g':=s.gens) (d':=s.drawn) (ch:=[it]) (λb hb=>?_) (λb o _ _ hc e _=>k b o (λz=>hc (by simp[z])) e) (λb o _ _ hc e _=>{o.slots,k b o (λz=>hc (by simp[z])) e}) (λ_ _ _ _ n=>n)
  (λb o hc e=>{o,k b o (λz=>hc (by simp[z])) e}) (λ_ _ e=>e) (λ_ _ _ e=>e) (λb ps e=>{#[],by rw[e];simp}) (λm hm=>?_) (λb u e=>?_) I.bare
 .let e:b=it:=↑hb
  subst e;show{h1,hL,h2,h3}
 .ext(⟨o,es,ep,ho,r⟩:hm);show{o,es,ep,k _ o (ϔ hL) ho,r}
 .show(I.hok b u e).stay (λc v hc q=>k c v ?_ q) (λ_ q=>q) λ_ _ q=>q;rcases hc with z|z
  .rw[z];show nit b u e
  .show nit c _ z
def au.tok(I:au X pins σ H s)(t:Nat):au X pins σ H {s with toks:=t}:=I.un (h':=s.heap) (t':=t) Un.refl I.hok
def au.kept(I:au X pins σ H s)(k:∀b u,s.heap.get? b=Z u->h'.get? b=Z u):au X pins σ H {s with heap:=h',toks:=t'}:=I.un (Un.kept k) (I.hok.kept k)
def au.laid(I:au X pins σ H s)(k:∀b u,s.heap.get? b=Z u->h'.get? b=Z u)(j:s.heap.objs.size<=a)(n:bK X.prog X.w (upd H a o) h' a o):
  au X pins σ (upd H a o) {s with heap:=h',toks:=t'}:=I.un (Un.laid k j (I.hok.fresh j)) (I.hok.laid k j n)
def au.write(I:au X pins σ H s)(n:JU (H x))(q:e=x\/H e=Z (.own x))(k:∀b u,b≠e->s.heap.get? b=Z u->h'.get? b=Z u)(j:∃u,h'.get? e=Z u)
  (z:bK X.prog X.w (upd H x o) h' x o):au X pins σ (upd H x o) {s with heap:=h',toks:=t'}:=I.un (Un.write n q k j) (I.hok.write n q k j z)
def au.weak(I:au X pins σ H s)(n:σ'.length=σ.length)(w:∀(i:Nat) v,σ'[i]?=Z (Z v)->σ[i]?=Z (Z v)):au X pins σ' H s:=
 {I.ok,I.os,I.bare,I.base,let ⟨m,q,j⟩:=I.loc;{m,q,λi x v z D B=>j i x v z (w i v D) B},I.cell,I.free,I.freeC,I.pin,I.hok,n.trans I.len}
def au.pins_of(I:au X pins σ H s)(h:∀p∈pins',s.heap.get? p.1=Z p.2/\H p.1=χ/\p.1≠X.env.locals/\p.1∉X.fs/\∀v,p.2.data≠.cell v):au X pins' σ H s:=
 {I.ok,I.os,I.bare,I.base,I.loc,I.cell,I.free,I.freeC,λp j=>(ϧ.mp j).elim (λz=>I.pin p (g_ _ z)) (h p),I.hok,I.len}
def mH{N:List Str}(n:N.Nodup){i j:Nat}{x:Str}(a:N[i]?=Z x)(b:N[j]?=Z x):i=j:=by ext(⟨h1,q⟩:Ζ.mp a);ext(⟨h2,z⟩:Ζ.mp b);show(OV n).mp (q.trans z.symm)
def qy{M:Model}{A:Ϛ}{E:θ->ρ->Prop}{i:Nat}{x:Str}{v:V}{u:θ}{Q:Unit->ρ->Prop}(I:au X pins σ H s)(hN:X.N.Nodup)(hi:X.N[i]?=Z x)(hx:Hm X.env.scope x)(r:aI v u)
  (h:∀s',au X pins (σ.set i (Z v)) H s'->(∃a,B_ a s.heap s'.heap/\(a=X.env.locals\/X.env.cells.lookup x=Z a))->Q Unit.unit s') (hf:autoParam (X.fn x=Y\/X.env.scope.names.lookup x=Z .local) yF._auto_1):Ο M A (storeName X.env x u) Q E s:=by
 ext(⟨m,hn,hl⟩:id I.loc);let hcls:(X.env.scope.kind==.class||(X.env.scope.kind==.module&&X.env.locals != X.env.globals))=Α:=by rw[I.ok.kind];rfl
 let hiσ:i<σ.length:=by rw[I.len];show(Ζ.mp hi).1
 let cne:=I.cne;let tracked:∀{a:J}{h':ϖ},(∃o,s.heap.get? a=Z o/\H a=χ)->B_ a s.heap h'->gC X.prog X.w H h':=λ{a h'} ha hs b ob e=>by
  ext(⟨_,_,hfree⟩:ha);show(I.hok b ob e).stay (λc w' hc q=>(hs.2 c ?_).trans q) (λ_ q=>q) λ_ _ q=>q;ext rfl;rcases hc with rfl|hc
  .rw[hfree]at e;cases e
  .rw[hfree]at hc;cases hc
 rcases hx with hk|hk
 .show wpAny_storeName_local hk hn (λh' hn' hs=>?_) hcls;ext(⟨oL,_,_,hoL,_⟩:id hn);show h _ {I.ok,I.os,I.bare,{λb o e n hb hx=>?_,λb o e n hb hx=>?_,I.base.free,λb o e hx=>?_,I.base.tups,I.base.frzs,I.base.tbls},{0,hn',λj y v' e1 e2 e3=>?_},λy c e=>?_,I.free,I.freeC,λp hp=>?_,tracked {oL,hoL,I.free} hs,↑I.len} {0,hs,.inl U}
  .show(hs.2 b (Ϙ (Ϝ (Η e) I.ok.above))).trans (I.base.keep b o e n hb hx)
  .ext(⟨sl,e1⟩:I.base.slot b o e n hb hx);show{sl,(hs.2 b (Ϙ (Ϝ (Η e) I.ok.above))).trans e1}
  .ext(⟨o',e1⟩:I.base.there b o e hx);show{o',(hs.2 b (Ϙ (Ϝ (Η e) I.ok.above))).trans e1}
  .by_cases hj:j=i
   .subst hj;rw[hi]at e1;cases e1;rw[OB hiσ]at e2;cases e2;show{u,r,.inl {hk,3}}
   .rw[K3 (ϔ hj)]at e2;ext(⟨u',r',q⟩:hl j y v' e1 e2 e3);show{u',r',2};rcases q with ⟨k,e⟩|⟨k,c,e,z⟩
    .show .inl {k,2};let:y≠x:=λe=>hj (mH hN e1 (e▸hi));simp[this,e]
    .show .inr {k,c,e,z.sameBut hs (cne y c e)}
  .ext(⟨w',z⟩:I.cell y c e);show{w',z.sameBut hs (cne y c e)}
  .ext(⟨e,n,ne,nf,d⟩:I.pin p hp);show{(hs.2 p.1 ne).trans e,n,ne,nf,d}
 .let hfn:X.fn x=Y:=by
   rcases hf with z|z
   .show z
   .rw[z]at hk;cases hk
  ext(⟨c,hc⟩:I.ok.has x (.inl hk));ext(⟨w',z⟩:I.cell x c hc);show wpAny_storeName_cell I.ok.kind hk hc z (λh' hc' hs=>?_);ext(⟨oc,hoc,hocd⟩:id z);show h {s with heap:=h'} {I.ok,I.os,I.bare,{λb o e n hb hx=>?_,λb o e n hb hx=>?_,I.base.free,λb o e hx=>?_,I.base.tups,I.base.frzs,I.base.tbls},{m,hn.sameBut hs (ϔ (cne x c hc)),λj y v' e1 e2 e3=>?_},λy c' e=>?_,I.free,I.freeC,λp hp=>?_,tracked {oc,hoc,I.freeC x c hc} hs,↑I.len} {c,hs,.inr hc}
  .show(hs.2 b (Ϙ (Ϝ (Η e) (I.ok.cab x c hfn hc)))).trans (I.base.keep b o e n hb hx)
  .ext(⟨sl,e1⟩:I.base.slot b o e n hb hx);show{sl,(hs.2 b (Ϙ (Ϝ (Η e) (I.ok.cab x c hfn hc)))).trans e1}
  .ext(⟨o',e1⟩:I.base.there b o e hx);show{o',(hs.2 b (Ϙ (Ϝ (Η e) (I.ok.cab x c hfn hc)))).trans e1}
  .by_cases hj:j=i
   .subst hj;rw[hi]at e1;cases e1;rw[OB hiσ]at e2;cases e2;show{u,r,.inr {.inl hk,c,hc,hc'}}
   .rw[K3 (ϔ hj)]at e2;ext(⟨u',r',q⟩:hl j y v' e1 e2 e3);show{u',r',2};rcases q with q|⟨k,c',e,z'⟩
    .show .inl q
    .show .inr {k,c',e,z'.sameBut hs ?_};ext rfl;show hj (mH hN e1 (I.ok.inj _ _ _ e hc▸hi))
  .by_cases hcc:c'=c
   .subst hcc;show{0,hc'}
   .ext(⟨w2,z2⟩:I.cell y c' e);show{w2,z2.sameBut hs hcc}
  .ext(⟨e,n,ne,nf,d⟩:I.pin p hp);show{(hs.2 p.1 ?_).trans e,n,ne,nf,d};intro q;rw[q,hoc]at e;let q':oc=p.2:=Ϟ e;show d w' (by rw[<-q'];show hocd)
def gT(I:au X pins σ H s)(z:X.N.Nodup)(hi:X.N[i]?=Z x)(j:Hm X.env.scope x)(r:aI v u)
  (h:∀s',au X pins (σ.set i (Z v)) H s'->Q Unit.unit s') (n:autoParam (X.fn x=Y\/X.env.scope.names.lookup x=Z .local) yF._auto_1):Ο M A (storeName X.env x u) Q E s:=
 qy I z hi j r (λs' q _=>h s' q) n
def au.call'(I:au X pins σ H s)(ho:s'.os=s.os)(u:Un (gx X.stack) ch H H' s.heap s'.heap)(j:gC X.prog X.w H' s'.heap)(q:Pc s'.gens)
  (n:∀b∈ch,(b∈X.ex\/X.s₀.heap.objs.size<=b)/\b≠X.env.locals/\(∀x c,X.env.cells.lookup x=Z c->c≠b)/\∀p∈X.pn++pins,p.1≠b):au X pins σ H' s':=by
 ext(⟨h',g',d',t',o'⟩:s');subst ho;show I.call (g':=g') (t':=t') (d':=d') u j q n
end
abbrev XK:=θ->Option J->Hp->Prop
abbrev St:=List (Option V)
abbrev VK:=V->Hp->Prop
abbrev TE:=St->Hp->VK->Prop
abbrev TT:=St->Hp->(Bool->Hp->Prop)->Prop
abbrev TA:=St->Hp->(List V->Hp->Prop)->Prop
structure cV where
 nx:St->Hp->Prop
 rt:VK
 bk:St->Hp->Prop:=λ_ _=>False
 ct:St->Hp->Prop:=λ_ _=>False
abbrev TS:=cV->St->Hp->Prop
def EP(X:Cx)(pins:List (J×Obj))(σ:St)(Q:VK)(u:θ)(s':ρ):Prop:=∃v H',au X pins σ H' s'/\aI v u/\Q v H'
def TP(X:Cx)(pins:List (J×Obj))(σ:St)(Q:Bool->Hp->Prop)(b:Bool)(s':ρ):Prop:=∃H',au X pins σ H' s'/\Q b H'
def AP(X:Cx)(pins:List (J×Obj))(σ:St)(Q:List V->Hp->Prop)(us:List θ)(s':ρ):Prop:=∃vs H',au X pins σ H' s'/\aE vs us/\Q vs H'
def SP(X:Cx)(pins:List (J×Obj))(D:cV)(f:Flow)(s':ρ):Prop:=
 match f with
 |.next=>∃j H',au X pins j H' s'/\D.nx j H'
 |.brk=>∃j H',au X pins j H' s'/\D.bk j H'
 |.cont=>∃j H',au X pins j H' s'/\D.ct j H'
 |.ret u=>∃v j H',au X pins j H' s'/\aI v u/\D.rt v H'
def PE(X:Cx)(e:ϲ)(t:TE):Prop:=
 ∀(pins:List (J×Obj))(s:ρ)(σ:St)(H:Hp)(Q:VK),au X pins σ H s->t σ H Q->Ο (ϊ X.prog X.w) X.A (eval e X.env) (EP X pins σ Q) X.xe s
def PT(X:Cx)(e:ϲ)(t:TT):Prop:=
 ∀(pins:List (J×Obj))(s:ρ)(σ:St)(H:Hp)(Q:Bool->Hp->Prop),au X pins σ H s->t σ H Q->Ο (ϊ X.prog X.w) X.A (isTrue e X.env (eval e X.env)) (TP X pins σ Q) X.xe s
def PW(X:Cx)(e:ϲ)(t:TT):Prop:=
 ∀(j:Sem θ)(pins:List (J×Obj))(s:ρ)(σ:St)(H:Hp)(Q:Bool->Hp->Prop),au X pins σ H s->t σ H Q->Ο (ϊ X.prog X.w) X.A (isTrue e X.env j) (TP X pins σ Q) X.xe s
def PW.pt(h:PW X e t):PT X e t:=h _
def PA(X:Cx)(es:List ϲ)(t:TA):Prop:=
 ∀(pos:Pos)(pins:List (J×Obj))(s:ρ)(σ:St)(H:Hp)(Q:List V->Hp->Prop),au X pins σ H s->t σ H Q->Ο (ϊ X.prog X.w) X.A (spliced (A5 pos (Ϗ es X.env))) (AP X pins σ Q) X.xe s
def PS(X:Cx)(st:ϯ)(t:TS):Prop:=
 ∀(pins:List (J×Obj))(s:ρ)(σ:St)(H:Hp)(D:cV),au X pins σ H s->t D σ H->Ο (ϊ X.prog X.w) X.A (exec st X.env) (SP X pins D) X.xe s
def kl(X:Cx)(st:List ϯ)(t:TS):Prop:=
 ∀(pins:List (J×Obj))(s:ρ)(σ:St)(H:Hp)(D:cV),au X pins σ H s->t D σ H->Ο (ϊ X.prog X.w) X.A (execs st X.env) (SP X pins D) X.xe s
def bn(h:Ο M A t Q E s)(j:∀a s,Q a s->Q' a s):Ο M A t Q' E s:=i7 h j λ_ _ x=>x
section
variable{X:Cx}
inductive km (i:Nat) (σ:St) (H:Hp) (Q:VK):Prop|mk v (_:σ[i]?=Z (Z v)) (_:Q v H)
def tC(v:V):TE:=λ_ H Q=>Q v H
def CG(F:X.N[i]?=Z x)(L:JT X.env.scope x)(q:autoParam ((x==("__debug__" : Str))=Α) yD._auto_1)(D:autoParam ((x==("__classdict__" : Str))=Α) yD._auto_1):PE X (.Name x pos) (km i):=by
 intro pins s σ H Q I h;ext(⟨v,e,h⟩:h);ext(⟨m,M,a⟩:I.loc);ext(⟨u,r,l⟩:a i x v F e L);let n:EP X pins σ Q u s:={v,H,I,r,h};rcases l with ⟨j,G⟩|⟨j,c,B,z⟩
 .show wpAny_Name (wpAny_loadName_local I.ok.kind j M G n) q
 .rcases j with j|j
  .show wpAny_Name (wpAny_loadName_cell I.ok.kind j B z n) q
  .show wpAny_Name (wpAny_loadName_free I.ok.kind j B z n D) q
def pe_int{i j pos}:PE X (.Constant (.int i) j pos) (tC (.int i)):=λ_ _ _ H _ I h=>wpAny_Constant_int {.int i,H,I.tok _,{01},h}
def pe_bl{b j pos}:PE X (.Constant (.bool b) j pos) (tC (.bl b)):=λ_ _ _ H _ I h=>Constant_bool {.bl b,H,I,1,h}
def pe_non{j pos}:PE X (.Constant .none j pos) (tC .non):=λ_ _ _ H _ I h=>Constant_none {.non,H,I,1,h}
def pe_str{x j pos}:PE X (.Constant (.str x) j pos) (tC (.str x)):=λ_ _ _ H _ I h=>Calls.Constant_str {.str x,H,I.tok _,{01},h}
def Gl(X:Cx)(x:Str):Prop:=X.env.kindOf x=Z .globalImplicit
def gm(I:au X pins σ H s)(j:Gl X x)(n:X.mg x=Z u)(h:Q u s)
  (q:autoParam ((x==("__debug__" : Str))=Α) yD._auto_1):Ο (ϊ X.prog X.w) X.A (eval (.Name x pos) X.env) Q E s:=
 Pm I.ok.kind j (Calls.loadGlobal_global (by rw[I.ok.glob];show I.mod.glob.keeps I.bk) n h) q
def fE(I:au X pins σ H s)(q:Gl X x)(z:X.mg x=χ)(j:L5 x=Z u)(h:Q u s)
  (n:autoParam (x≠"__name__") yD._auto_1) (B:autoParam ((x==("__debug__" : Str))=Α) yD._auto_1):Ο (ϊ X.prog X.w) X.A (eval (.Name x pos) X.env) Q E s:=by
 ext(⟨D,h1,h2⟩:I.mod.blt);show Pm I.ok.kind q (Calls.loadGlobal_builtin (by rw[I.ok.glob];show I.mod.glob.keeps I.bk) z (by rw[I.ok.blt];show h1.keeps I.bk) ((h2 x n).trans j) h) B
def pe_glob(j:Gl X x)(n:X.mg x=Z u)(r:aI v u)(q:autoParam ((x==("__debug__" : Str))=Α) yD._auto_1):PE X (.Name x pos) (tC v):=
 λ_ _ _ H _ I h=>gm I j n {v,H,I,r,h} q
def pe_bltn(q:Gl X x)(z:X.mg x=χ)(j:L5 x=Z u)(r:aI v u)(n:autoParam (x≠"__name__") yD._auto_1)(B:autoParam ((x==("__debug__" : Str))=Α) yD._auto_1):PE X (.Name x pos) (tC v):=
 λ_ _ _ H _ I h=>fE I q z j {v,H,I,r,h} n B
variable{a b:ϲ}{ta tb:TE}{pos:Pos}
def Ef(b:ϲ){op:QP}(h:op≠.In)(h2:op≠.NotIn):behindInMarks op b=Α:=by
 let e1:(op==QP.In)=Α:=by cases op<;>first|rfl|show absurd rfl h
 let e2:(op==QP.NotIn)=Α:=by cases op<;>first|rfl|show absurd rfl h2
 cases b<;>simp[behindInMarks,e1,e2]
inductive ML  (Q:Bool->Hp->Prop) (x:V) (H1:Hp):Prop|mk c (_:x=.bl c) (_:Q c H1)
def tB(t:TE):TT:=λσ H Q=>t σ H (ML Q)
def pt_val{e:ϲ}{t:TE}(h:PE X e t)(he:autoParam (∀whole,isTrue e X.env whole=(do let v <-whole;standAt e.pos;holding [v] (truthy v))) yI._auto_1):PT X e (tB t):=by intro pins s σ H Q I hw;show isTrue_plain (bn (h pins s σ H _ I hw) λv s1 ⟨x,H1,I1,r1,q1⟩=>?_) (he _);ext(⟨d,rfl,q⟩:q1);cases r1;show o_ {H1,I1,q}
variable{tA tB':TT}{rest:List ϲ}
def Ic(t u:TT):TT:=λσ H Q=>t σ H λc H1=>if c=Y then u σ H1 Q else Q Α H1
def MC(t u:TT):TT:=λσ H Q=>t σ H λc H1=>if c=Y then Q Y H1 else u σ H1 Q
def No(t:TT):TT:=λσ H Q=>t σ H λc H1=>Q (!c) H1
def pw_and1(j:PT X a tA):PW X (.BoolOp .And [a] pos) tA:=by
 intro n pins s σ H Q I h;show isTrue_and (bn (j pins s σ H Q I h) λc q e=>?_);cases c with
 |true=>show isTrue_and_nil e
 |false=>show e
def pw_or1(j:PT X a tA):PW X (.BoolOp .Or [a] pos) tA:=by
 intro n pins s σ H Q I h;show isTrue_or (bn (j pins s σ H Q I h) λc q e=>?_);cases c with
 |false=>show isTrue_or_nil e
 |true=>show e
def pw_and(B:PT X a tA)(D:PW X (.BoolOp .And (b::rest) pos) tB'):PW X (.BoolOp .And (a::b::rest) pos) (Ic tA tB'):=by
 intro z pins s σ H Q I h;show isTrue_and (bn (B pins s σ H _ I h) λc q ⟨H1,n,j⟩=>?_);cases c with
 |true=>show D z pins q σ H1 Q n j
 |false=>show{H1,n,j}
def pw_or(B:PT X a tA)(D:PW X (.BoolOp .Or (b::rest) pos) tB'):PW X (.BoolOp .Or (a::b::rest) pos) (MC tA tB'):=by
 intro z pins s σ H Q I h;show isTrue_or (bn (B pins s σ H _ I h) λc q ⟨H1,n,j⟩=>?_);cases c with
 |true=>show{H1,n,j}
 |false=>show D z pins q σ H1 Q n j
def pt_not(ha:PT X a tA):PT X (.UnaryOp .Not a pos) (No tA):=by intro pins s σ H Q I h;show isTrue_not (ha pins s σ H (λc H1=>Q (!c) H1) I h)
inductive Gr (ta tb:TE) (σ:St) (Q:VK) (x:V) (H1:Hp):Prop|mk c (_:x=.bl c) (_:if c=Y then tb σ H1 Q else Q (.bl Α) H1)
def Kz(ta tb:TE):TE:=λσ H Q=>ta σ H (Gr ta tb σ Q)
inductive IN (ta tb:TE) (σ:St) (Q:VK) (x:V) (H1:Hp):Prop|mk c (_:x=.bl c) (_:if c=Y then Q (.bl Y) H1 else tb σ H1 Q)
def Li(ta tb:TE):TE:=λσ H Q=>ta σ H (IN ta tb σ Q)
inductive Go  (Q:VK) (x:V) (H1:Hp):Prop|mk c (_:x=.bl c) (_:Q (.bl (!c)) H1)
def KY(ta:TE):TE:=λσ H Q=>ta σ H (Go Q)
def pe_one{op}(h:PE X a t):PE X (.BoolOp op [a] pos) t:=λpins s σ H Q I j=>BoolOp_one (h pins s σ H Q I j)
def pe_and(z:PE X a ta)(D:PE X (.BoolOp .And (b::rest) pos) tb):PE X (.BoolOp .And (a::b::rest) pos) (Kz ta tb):=by
 intro pins s σ H Q I h;show BoolOp_and (bn (z pins s σ H _ I h) λv q ⟨x,H1,n,B,j⟩=>?_);ext(⟨c,rfl,j⟩:j);cases B;show o_ ?_;cases c with
 |true=>show D pins q σ H1 Q n j
 |false=>show{.bl Α,H1,n,1,j}
def pe_or(z:PE X a ta)(D:PE X (.BoolOp .Or (b::rest) pos) tb):PE X (.BoolOp .Or (a::b::rest) pos) (Li ta tb):=by
 intro pins s σ H Q I h;show BoolOp_or (bn (z pins s σ H _ I h) λv q ⟨x,H1,n,B,j⟩=>?_);ext(⟨c,rfl,j⟩:j);cases B;show o_ ?_;cases c with
 |false=>show D pins q σ H1 Q n j
 |true=>show{.bl Y,H1,n,1,j}
def pe_not(z:PE X a ta):PE X (.UnaryOp .Not a pos) (KY ta):=by intro pins s σ H Q I h;show UnaryOp_ (bn (z pins s σ H _ I h) λv B ⟨x,H1,n,q,j⟩=>?_);ext(⟨c,rfl,j⟩:j);cases q;show not_of (o_ {.bl (!c),H1,n,1,j})
def Oj(t:TT)(ta tb:TE):TE:=λσ H Q=>t σ H λc H1=>if c=Y then ta σ H1 Q else tb σ H1 Q
def pe_ifExp(z:PT X c tA)(D:PE X a ta)(B:PE X b tb):PE X (.IfExp c a b pos) (Oj tA ta tb):=by
 intro pins s σ H Q I h;show wpAny_IfExp (bn (z pins s σ H _ I h) λd q ⟨H1,j,n⟩=>?_);cases d with
 |true=>show D pins q σ H1 Q j n
 |false=>show B pins q σ H1 Q j n
end
def aw(K:ζ)(H:Hp)(a:J)(xs:List V):Prop:=
 Rd H a (.lst xs) \/
  ∃(o:Obj) (its:Array θ) (n:Nat),K.lookup a=Z o/\o.cls=.type "list"/\o.dict=χ/\o.data=.seq its n/\its.size<=Μ/\aE xs its.toList
def aq(K:ζ)(H:Hp)(a:J)(xs:List V):Prop:=
 Rd H a (.tup xs) \/
  ∃(o:Obj) (its:Array θ) (n:Nat),K.lookup a=Z o/\o.cls=.type "tuple"/\o.data=.seq its n/\its.size<=Μ/\aE xs its.toList
def Ny:θ->Option V
 |.none=>Z .non
 |.bool b=>Z (.bl b)
 |.int i _=>Z (.int i)
 |.str x _=>Z (.str x)
 |.bytes b _=>Z (.byt b)
 |.float b _=>Z (.flt b)
 |.ref a=>Z (.ref a)
 |.type n=>Z (.ty n)
 |_=>χ
def aI.abs(r:aI x u):Ny u=Z x:=by
 cases x with
 |non=>cases r;rfl
 |bl _=>cases r;rfl
 |int _=>ext(⟨t,rfl⟩:r);rfl
 |str _=>ext(⟨t,rfl⟩:r);rfl
 |byt _=>ext(⟨t,rfl⟩:r);rfl
 |flt _=>ext(⟨t,rfl⟩:r);rfl
 |ref _=>cases r;rfl
 |ty _=>cases r;rfl
def aI.inj(r:aI x u)(q:aI y u):x=y:=Ϟ (r.abs.symm.trans q.abs)
def aE.inj{xs ys:List V}{us:List θ}(h:aE xs us)(k:aE ys us):xs=ys:=by
 induction h generalizing ys with
 |nil=>cases k;rfl
 |cons r t b=>cases k with|cons p q=>rw[r.inj p,b q]
section
variable{X:Cx}{pins:List (J×Obj)}{σ:St}{H:Hp}{s:ρ}{a:J}{xs ys:List V}
def aw.of{K:ζ}(h:H a=Z (.lst xs)):aw K H a xs:=.inl (.inl h)
def aq.of{K:ζ}(h:H a=Z (.tup xs)):aq K H a xs:=.inl (.inl h)
def au.list(I:au X pins σ H s)(h:aw X.K H a xs):∃its:List θ,aE xs its/\PlainL s.heap a its.toArray/\xs.length<=Μ:=by
 rcases h with h|⟨o,its,n,hk,hc,hd,hs,hz,r⟩
 .ext(⟨z,its,n,r,e⟩:h.ok I.hok);show{its,r,{0,n,e,111},z}
 .show{its.toList,r,{o,n,I.kIn a o hk,hc,hd,↑hs},2};let e:=r.length;simp only[ύ]at e;omega
def au.tuple(I:au X pins σ H s)(h:aq X.K H a xs):∃its:List θ,aE xs its/\IsTup s.heap a its.toArray/\xs.length<=Μ:=by
 rcases h with h|⟨o,its,n,hk,hc,hs,hz,r⟩
 .ext(⟨z,its,r,p⟩:h.ok I.hok);show{its,r,p.1,z}
 .show{its.toList,r,{o,I.kIn a o hk,hc,n,↑hs},2};let e:=r.length;simp only[ύ]at e;omega
def au.list_inj(I:au X pins σ H s)(h:aw X.K H a xs)(h':aw X.K H a ys):xs=ys:=by
 ext(⟨its,r,⟨o,n,e,_,_,d⟩,_⟩:I.list h);ext(⟨its',r',⟨o',z,j,_,_,d'⟩,_⟩:I.list h');rw[e]at j;cases j;rw[d]at d';injection d' with q _;let:its=its':=↑(congrArg Array.toList q)
 subst this;show r.inj r'
def au.tuple_inj(I:au X pins σ H s)(h:aq X.K H a xs)(h':aq X.K H a ys):xs=ys:=by
 ext(⟨its,r,⟨o,e,_,n,d⟩,_⟩:I.tuple h);ext(⟨its',r',⟨o',j,_,z,d'⟩,_⟩:I.tuple h');rw[e]at j;cases j;rw[d]at d';injection d' with q _;let:its=its':=↑(congrArg Array.toList q)
 subst this;show r.inj r'
end
abbrev Cx.wish(X:Cx)(E:θ->ρ->Prop):Cx:={X with xe:=E}
abbrev Cx.nox(X:Cx):Cx:=X.wish λ_ _=>False
def Cx.Ok.wish{X:Cx}(j:X.Ok)(E:θ->ρ->Prop):(X.wish E).Ok:=
 {j.mod,j.kind,j.glob,j.blt,j.above,j.inj,j.has,j.cab,j.hd,j.frames,j.stk,j.exf,j.bs,j.bsz,j.noex,j.exfs,j.funs,j.frf}
def Cx.Ok.unwish{X:Cx}{E:θ->ρ->Prop}(j:(X.wish E).Ok):X.Ok:=
 {j.mod,j.kind,j.glob,j.blt,j.above,j.inj,j.has,j.cab,j.hd,j.frames,j.stk,j.exf,j.bs,j.bsz,j.noex,j.exfs,j.funs,j.frf}
section
variable{X:Cx}{pins:List (J×Obj)}{σ:St}{H:Hp}{s:ρ}{E:θ->ρ->Prop}
def au.wish(I:au X pins σ H s)(E:θ->ρ->Prop):au (X.wish E) pins σ H s:={I.ok.wish E,I.os,I.bare,I.base,I.loc,I.cell,I.free,I.freeC,I.pin,I.hok,I.len}
def au.unwish(I:au (X.wish E) pins σ H s):au X pins σ H s:={I.ok.unwish,I.os,I.bare,I.base,I.loc,I.cell,I.free,I.freeC,I.pin,I.hok,I.len}
def SP.unwish(h:SP (X.wish E) pins D f s'):SP X pins D f s':=by
 cases f with
 |next=>ext(⟨σ',H',I,q⟩:h);show{σ',H',I.unwish,q}
 |brk=>ext(⟨σ',H',I,q⟩:h);show{σ',H',I.unwish,q}
 |cont=>ext(⟨σ',H',I,q⟩:h);show{σ',H',I.unwish,q}
 |ret u=>ext(⟨v,σ',H',I,r,q⟩:h);show{v,σ',H',I.unwish,r,q}
def PE.nox{e:ϲ}{t:TE}(h:PE X.nox e t):PE X e t:=λpins s σ H Q I hw=>
 i7 (h pins s σ H Q (I.wish _) hw) (λ_ _ ⟨v,H',I',r,q⟩=>{v,H',I'.unwish,r,q}) λ_ _ z=>j9 z
def kl.nox{st:List ϯ}{t:TS}(h:kl X.nox st t):kl X st t:=λpins s σ H D I hw=>
 i7 (h pins s σ H D (I.wish _) hw) (λ_ _ q=>q.unwish) λ_ _ z=>j9 z
end
section
variable{X:Cx}{st:ϯ}{rest:List ϯ}{t u:TS}{e:ϲ}{te:TE}{pos:Pos}
def yw:TS:=λD σ H=>D.nx σ H
def iJ(t u:TS):TS:=λD σ H=>t {D with nx:=u D} σ H
def pss_nil:kl X [] yw:=λ_ _ σ H _ I h=>J4 {σ,H,I,h}
def pss_cons(h1:PS X st t)(h2:kl X rest u):kl X (st::rest) (iJ t u):=by
 intro pins s σ H D I h;show Qh (bn (h1 pins s σ H {D with nx:=u D} I h) λf s1 q=>?_);cases f with
 |next=>ext(⟨σ',H',I',q⟩:q);show h2 pins s1 σ' H' D I' q
 |ret v=>show q
 |brk=>show q
 |cont=>show q
def pss_one(h1:PS X st t):kl X [st] t:=by
 intro pins s σ H D I h;show Qh (bn (h1 pins s σ H D I h) λf s1 q=>?_);cases f with
 |next=>show J4 q
 |ret v=>show q
 |brk=>show q
 |cont=>show q
def au.quiet(I:au X pins σ H s):interactive X.env=Α:=by simp[interactive,I.ok.kind]
def Lc(te:TE):TS:=λD σ H=>te σ H λ_ H1=>D.nx σ H1
def ps_expr(z:PE X e te)(j:autoParam (swapsWith e χ pos.line X.env=pure Α) yR._auto_1):PS X (.Expr e pos) (Lc te):=by intro pins s σ H D I h;show wpAny_Expr_any (bn (z pins s σ H _ I h) λv F ⟨x,H1,n,B,q⟩=>{σ,H1,n,q}) I.quiet j
def CZ(te:TE):TS:=λD σ H=>te σ H D.rt
def ps_ret(z:PE X e te):PS X (.Return (Z e) pos) (CZ te):=by intro pins s σ H D I h;show wpAny_Return_some (bn (z pins s σ H _ I h) λv B ⟨x,H1,j,n,q⟩=>{x,σ,H1,j,n,q})
def Gy(c:TT)(t u:TS):TS:=λD σ H=>c σ H λb H1=>if b=Y then t D σ H1 else u D σ H1
def ps_if(z:PT X c tc)(F:kl X a t)(B:kl X b u):PS X (.If c a b pos) (Gy tc t u):=by
 intro pins s σ H D I h;show wpAny_If (bn (z pins s σ H _ I h) λd q ⟨H1,j,n⟩=>?_);cases d with
 |true=>show F pins q σ H1 D j n
 |false=>show B pins q σ H1 D j n
end
abbrev TG:=V->St->Hp->(St->Hp->Prop)->Prop
abbrev Ka:=List V->St->Hp->(St->Hp->Prop)->Prop
def PG(X:Cx)(n:ϲ)(t:TG):Prop:=
 ∀(pins:List (J×Obj))(s:ρ)(σ:St)(H:Hp)(v:V)(u:θ)(Q:St->Hp->Prop),au X pins σ H s->aI v u->t v σ H Q ->
  Ο (ϊ X.prog X.w) X.A (assign n X.env u) (λ_ s'=>∃j H',au X pins j H' s'/\Q j H') X.xe s
def LV(X:Cx)(n:List ϲ)(t:Ka):Prop:=
 ∀(pins:List (J×Obj))(s:ρ)(σ:St)(H:Hp)(vs:List V)(us:List θ)(Q:St->Hp->Prop),au X pins σ H s->aE vs us->t vs σ H Q ->
  Ο (ϊ X.prog X.w) X.A (assignInOrder ((assignEach n X.env).map (·.2)) us) (λ_ s'=>∃j H',au X pins j H' s'/\Q j H') X.xe s
abbrev Lj:=V->V->V->Hp->(Hp->Prop)->Prop
def Ll(X:Cx)(t:Lj):Prop:=
 ∀(pins:List (J×Obj))(s:ρ)(σ:St)(H:Hp)(o i v:V)(j n u:θ)(Q:Hp->Prop),au X pins σ H s->aI o j->aI i n->aI v u->t o i v H Q ->
  Ο (ϊ X.prog X.w) X.A (setItem j n u) (λ_ s'=>∃H',au X pins σ H' s'/\Q H') X.xe s
abbrev MA:=V->V->Hp->VK->Prop
def NO(X:Cx)(op:QM)(t:MA):Prop:=
 ∀(pins:List (J×Obj))(s:ρ)(σ:St)(H:Hp)(x y:V)(v u:θ)(Q:VK),au X pins σ H s->aI x v->aI y u->t x y H Q ->
  Ο (ϊ X.prog X.w) X.A (inplaceOp op v u) (EP X pins σ Q) X.xe s
section
variable{X:Cx}{pos:Pos}
def dZ(i:Nat):TG:=λv σ H Q=>Q (σ.set i (Z v)) H
def pg_name(z:X.N.Nodup)(hi:X.N[i]?=Z x)(j:Hm X.env.scope x)(n:autoParam (X.fn x=Y\/X.env.scope.names.lookup x=Z .local) yF._auto_1):PG X (.Name x pos) (dZ i):=by intro pins s σ H v u Q I r h;show wpAny_assign_Name (gT I z hi j r (λs' q=>{0,H,q,h}) n)
def An:Ka:=λvs σ H Q=>vs=[]/\Q σ H
inductive kU (t:TG) (u:Ka) (vs:List V) (σ:St) (H:Hp) (Q:St->Hp->Prop):Prop|mk v r (_:vs=v::r) (_:t v σ H λσ' H'=>u r σ' H' Q)
def pgs_nil:LV X [] An:=by intro pins s σ H vs us Q I r h;ext(⟨e,h⟩:h);subst e;cases r;show assignInOrder_nil {σ,H,I,h}
def pgs_cons(h1:PG X e t)(h2:LV X es u)
  (B:autoParam ((assignEach (e::es) X.env).map (·.2)=assign e X.env::(assignEach es X.env).map (·.2)) yR._auto_1):LV X (e::es) (kU t u):=by
 intro pins s σ H vs us Q I r h;ext(⟨v,G,q,h⟩:h);subst q;cases r with
 |cons r n=>rw[B];show assignInOrder_cons (bn (h1 pins s σ H _ _ _ I r h) λ_ z ⟨j,H1,F,D⟩=>h2 pins z j H1 _ _ Q F n D)
inductive Gd (K:ζ) (n:Nat) (t:Ka) (v:V) (σ:St) (H:Hp) (Q:St->Hp->Prop):Prop|mk a xs (_:v=.ref a) (_:aq K H a xs) (_:xs.length=n) (_:t xs σ H Q)
def pg_tup(F:X.calm=Y)(h:LV X es t)
  (M:autoParam ((assignEach es X.env).length=n) yR._auto_1) (z:autoParam ((assignEach es X.env).findIdx? (·.1)=χ) yR._auto_1):PG X (.Tuple es k pos) (Gd X.K n t):=by
 intro pins s σ H v u Q I r j;ext(⟨a,xs,B,L,G,j⟩:j);subst B;cases r;ext(⟨its,q,D,hz⟩:I.tuple L);show assign_Tuple_tuple (I.ok.hd F) D (by simp[M,<-G,q.length]) z λh' c=>?_;show h pins _ σ H xs _ Q (I.kept (t':=s.toks) λb o e=>c b o (Ϙ (Η e)) e) (↑q) j
def Nn(to n:TE)(t:Lj):TG:=λv σ H Q=>to σ H λo H1=>n σ H1 λi H2=>t o i v H2 λj=>Q σ j
def pg_sub(ho:PE X o to)(hi:PE X i ti)(c:Ll X t)
  (D:autoParam (∀v,assign (.Subscript o i pos) X.env v=(do
   let j <-holding [v] (eval o X.env)
   let n <-holding [v,j] (eval i X.env)
   standAt pos
   holding [v,j,n] (setItem j n v)
   release [v,j,n] [])) yI._auto_1):PG X (.Subscript o i pos) (Nn to ti t):=by
 intro pins s σ H v u Q I r h;rw[D];show η (u6 (bn (ho pins s σ H _ I h) λj z ⟨x,H1,b,N,M⟩=>η (u6 (bn (hi pins z σ H1 _ b M) λn B ⟨y,H2,F,G,S⟩=>?_))));show η (OY (η (u6 (bn (c pins B σ H2 x y v j n u _ F N G r S) λ_ a ⟨R,q,L⟩=>wpAny_release {σ,R,q,L}))))
def Iu(te:TE)(g:TG):TS:=λD σ H=>te σ H λx H1=>g x σ H1 D.nx
def ps_asg(G:PE X e te)(n:PG X tg g)(z:autoParam (swapsWithSole [tg] e pos.line X.env=pure Α) yR._auto_1)(L:autoParam (swappedStores [tg] e X.env=pure χ) yR._auto_1)
  (h1:autoParam ((assignEach [tg] X.env).map (·.2)=[assign tg X.env]) yR._auto_1):PS X (.Assign [tg] e pos) (Iu te g):=by
 intro pins s σ H D I h;show wpAny_Assign_stores (bn (G pins s σ H _ I h) λv j ⟨x,H1,a,F,B⟩=>?_) z L;rw[h1];show bn (n pins j σ H1 x v _ a F B) λ_ M q=>q
def ps_set(n:X.N.Nodup)(hi:X.N[i]?=Z x)(z:Hm X.env.scope x)(L:PE X e te)(B:autoParam (swapsWith e (Z (.Name x pos')) pos.line X.env=pure Α) yR._auto_1)(j:autoParam (X.fn x=Y\/X.env.scope.names.lookup x=Z .local) yF._auto_1):
  PS X (.Assign [.Name x pos'] e pos) (Iu te (dZ i)):=by
 intro pins s σ H D I h;show wpAny_Assign_Name (bn (L pins s σ H _ I h) λv M ⟨y,H1,a,G,F⟩=>?_) B;show gT a n hi z G (λN q=>{0,H1,q,F}) j
inductive Nx (i:Nat) (te:TE) (ti:MA) (D:cV) (σ:St) (H:Hp):Prop|mk x (_:σ[i]?=Z (Z x)) (_:te σ H λy H1=>ti x y H1 λz H2=>D.nx (σ.set i (Z z)) H2)
def ps_aug{i:Nat}{x:Str}{e:ϲ}{te:TE}{op:QM}{ti:MA}{pos':Pos}(hN:X.N.Nodup)(hi:X.N[i]?=Z x)(hx:Hm X.env.scope x)(he:PE X e te)(ho:NO X op ti)(hf:autoParam (X.fn x=Y\/X.env.scope.names.lookup x=Z .local) yF._auto_1):
  PS X (.AugAssign (.Name x pos') op e pos) (Nx i te ti):=by
 intro pins s σ H D I h;ext(⟨v,e1,h⟩:h);ext(⟨m,hn,hl⟩:I.loc);let vis:JT X.env.scope x:=by rcases hx with k|k;show .inl k;show .inr (.inl k)
 ext(⟨u,r,l⟩:hl i x v hi e1 vis);show wpAny_AugAssign_Name ?_;let go:Ο (ϊ X.prog X.w) X.A (eval e X.env) (λw s₂=>Ο (ϊ X.prog X.w) X.A (inplaceOp op u w) (λr s₃=>Ο (ϊ X.prog X.w) X.A (storeName X.env x r) (λ_=>SP X pins D .next) X.xe s₃) X.xe s₂) X.xe s:=by show bn (he pins s σ H _ I h) λw s1 ⟨y,H1,I1,r1,q1⟩=>?_;show bn (ho pins s1 σ H1 v y u w _ I1 r r1 q1) λz s2 ⟨zv,H2,I2,r2,q2⟩=>?_;show gT I2 hN hi hx r2 (λs3 I3=>{0,H2,I3,q2}) hf
 rcases l with ⟨hk,hm⟩|⟨hk,c,hc,hcell⟩
 .show wpAny_loadName_local I.ok.kind hk hn hm go
 .rcases hk with hk|hk
  .show wpAny_loadName_cell I.ok.kind hk hc hcell go
  .rcases hx with k|k
   .let:X.env.scope.names.lookup x=Z .free:=hk;rw[k]at this;cases this
   .let:X.env.scope.names.lookup x=Z .free:=hk;rw[k]at this;cases this
inductive Oc (f:Int->Int->Int) (x:V) (y:V) (H:Hp) (Q:VK):Prop|mk i j (_:x=.int i) (_:y=.int j) (_:Q (.int (f i j)) H)
def DX:NO X .Add (Oc λi j=>i+j):=by ext pins s σ H x y v u Q I D z ⟨i,j,n,B,q⟩;subst n;subst B;ext(⟨t,rfl⟩:D);ext(⟨t',rfl⟩:z);show iadd_int {.int _,H,I.tok _,{01},q}
def wc(c:TT)(tb:TS):TS:=λD σ H=>∃W:Nat->St->Hp->Prop,(∃m,W m σ H)/\∀m σ H,W m σ H ->
 c σ H λb H1=>if b=Y then ∃N:St->Hp->Prop,(∀j H',N j H'->∃n,n<m/\W n j H')/\tb {D with nx:=N,ct:=N,bk:=D.nx} σ H1 else D.nx σ H1
def ps_while{c:ϲ}{body:List ϯ}{tc:TT}{tb:TS}(hp:PassesOwn (ϊ X.prog X.w) X.A X.env X.xe)(hc:PT X c tc)(hb:kl X body tb):PS X (.While c body [] pos) (wc tc tb):=by
 intro pins s σ H D I h;ext(⟨W,⟨m0,w0⟩,turn⟩:h);show wpAny_While (codeAny_whileLoop (λn s'=>∃σ' H',au X pins σ' H' s'/\W n σ' H') ?_ m0 {σ,H,I,w0});ext n s1 ⟨σ1,H1,I1,w1⟩;show E5 hp (bn (hc pins s1 σ1 H1 _ I1 (turn n σ1 H1 w1)) λb s2 ⟨H2,I2,q2⟩=>?_);cases b with
 |true=>
  ext(⟨N,hN,q2⟩:q2);rw[Q5 U];show E5 hp (bn (hb pins s2 σ1 H2 _ I2 q2) λf s3 q3=>?_);cases f with
  |next=>ext(⟨σ3,H3,I3,n3⟩:q3);ext(⟨m',hm,w3⟩:hN σ3 H3 n3);show{m',hm,σ3,H3,I3,w3}
  |cont=>ext(⟨σ3,H3,I3,n3⟩:q3);ext(⟨m',hm,w3⟩:hN σ3 H3 n3);show{m',hm,σ3,H3,I3,w3}
  |brk=>show q3
  |ret v=>show q3
 |false=>rw[Q6 ϋ];show J4 {σ1,H2,I2,q2}
end
structure It where
 go:Nat->Hp->Prop
 yld:Nat->Hp->V->Hp->Prop
 stop:Nat->Hp->Prop
def lW(X:Cx)(pins:List (J×Obj))(H:Hp)(b:J):Prop:=
 H b=χ/\b≠X.env.locals/\b∉X.fs/\(b∈X.ex\/X.s₀.heap.objs.size<=b)/\(∀x c,X.env.cells.lookup x=Z c->c≠b)/\∀p∈X.pn++pins,p.1≠b
def au.fpOk(I:au X pins σ H s)(j:s.heap.objs.size<=b)(B:H' b=χ):lW X pins H' b:=by
 show{B,u9 (Ϝ I.lt j),I.nofs j,.inr (ϩ I.sz j),λx c e z=>?_,λp n z=>?_}
 .ext(⟨v,q⟩:I.cell x c e);show absurd (Ϝ q.lt (by rw[z];show j)) (E_ _)
 .show absurd (Ϝ (Η (I.pin p n).1) (by rw[z];show j)) (E_ _)
structure Ht(C:Cx->Prop)(P:Θ)(w:Χ)(K:ζ)(tg:ϲ)(a:It)(fp:List J)(it:J)(tn:Nat->ϖ->Prop):Prop where
 mem:it∈fp
 obj:∀i h,tn i h->∀b∈fp,∃o,h.get? b=Z o/\∀v,o.data≠.cell v
 keep:∀i h h',tn i h->(∀b∈fp,∀o,h.get? b=Z o->h'.get? b=Z o)->tn i h'
 item:∀(X:Cx),X.prog=P->X.w=w->X.K=K->C X->∀(i:Nat)(pins:List (J×Obj))(s:ρ)(σ:St)(H:Hp)(E:θ->ρ->Prop),au X pins σ H s->(∀b∈fp,lW X pins H b)->tn i s.heap->a.go i H ->
  Ο (ϊ P w) X.A (QA (.ref it)) (λr s1=>∃u,r=Z u /\
   Ο (ϊ P w) X.A (letOwnedTupleGo tg (.ref it) u) (λ_ s2=>∃x H',au X pins σ H' s2/\aI x u/\a.yld i H x H'/\tn (i+1) s2.heap/\∀b∈fp,H' b=χ) E s1) E s
 done:∀(X:Cx),X.prog=P->X.w=w->X.K=K->C X->∀(i:Nat)(pins:List (J×Obj))(s:ρ)(σ:St)(H:Hp)(E:θ->ρ->Prop),au X pins σ H s->(∀b∈fp,lW X pins H b)->tn i s.heap->a.stop i H ->
  Ο (ϊ P w) X.A (QA (.ref it)) (λr s1=>r=χ/\au X pins σ H s1) E s
 self:∀(A:Ϛ)(i:Nat)(s:ρ)(Q:θ->ρ->Prop)(E:θ->ρ->Prop),tn i s.heap->Q (.ref it) s->Ο (ϊ P w) A (pyIter (.ref it)) Q E s
abbrev mY:=Ht λX=>X.calm=Y
abbrev TI:=St->Hp->(It->Hp->Prop)->Prop
def NC(X:Cx)(pins:List (J×Obj))(σ:St)(tg:ϲ)(R:It->Hp->Prop)(z:θ)(q:ρ):Prop:=
 ∃(it:J) (n:List J) (j:Nat->ϖ->Prop) (a:It) (H':Hp),z=.ref it/\au X pins σ H' q/\mY X.prog X.w X.K tg a n it j/\j 0 q.heap/\(∀b∈n,lW X pins H' b)/\R a H'
def PI(X:Cx)(tg j:ϲ)(n:TI):Prop:=
 ∀(pins:List (J×Obj))(s:ρ)(σ:St)(H:Hp)(R:It->Hp->Prop),au X pins σ H s->n σ H R ->
  Ο (ϊ X.prog X.w) X.A (eval j X.env) (λv q=>Ο (ϊ X.prog X.w) X.A (pyIter v) (NC X pins σ tg R) X.xe q) X.xe s
def xS{M:Model}{A:Ϛ}{E:θ->ρ->Prop}{s:ρ}{tg:ϲ}{it:J}{u:θ}{o:Obj}{n:String}{vs:Array θ}{Q:Unit->ρ->Prop}(ho:s.heap.get? it=Z o)(hc:o.cls=.type n)(hd:o.data=.fields vs)
  (hn:["enumerate","zip","dict_itemiterator","dict_reverseitemiterator","odict_iterator","itertools.zip_longest","itertools.pairwise"].contains n=Α) (hQ:Q Unit.unit s):Ο M A (letOwnedTupleGo tg (.ref it) u) Q E s:=by
 unfold letOwnedTupleGo;cases tg<;>first
  |show ω hQ
  |(cases u<;>first
    |show ω hQ
    | (show η (wpAny_load ho ?_)
       rw[hc,hd];change Ο M A (if (["enumerate","zip","dict_itemiterator","dict_reverseitemiterator","odict_iterator","itertools.zip_longest","itertools.pairwise"].contains n&&vs[0]?==Z (M2 _))=Y then _ else _) Q E s;rw[Q6 (by intro h;rw[hn,j_]at h;cases h)];show ω hQ))
def Hk(K:ζ)(a:J):It:=
 {λi H=>∃xs x,aw K H a xs/\xs[i]?=Z x,λi H x H'=>H'=H/\∀xs,aw K H a xs->xs[i]?=Z x,λi H=>∃xs,aw K H a xs/\xs.length<=i}
def JZ(K:ζ)(a:J):It:=
 {λi H=>∃xs x,aq K H a xs/\xs[i]?=Z x,λi H x H'=>H'=H/\∀xs,aq K H a xs->xs[i]?=Z x,λi H=>∃xs,aq K H a xs/\xs.length<=i}
def Jh(lo:Int)(n:Nat):It:={λi _=>i<n,λi H x H'=>H'=H/\x=.int (lo+i),λi _=>n<=i}
def Ax{P:Θ}{w:Χ}{K:ζ}{tg:ϲ}(a it:J):mY P w K tg (Hk K a) [it] it (λi h=>h.IsListIter it a i) where
 mem:=()
 obj:=λi h st b hb=>by
  let e:b=it:=↑hb
  subst e;ext(⟨o,e,c,d⟩:st);show{o,e,λv z=>by rw[d]at z;cases z}
 keep:=λi h h' st k=>st.at λo e=>k it () o e
 item:=by intro X hP hw hK hc i pins s σ H E I hf st hg;subst hP hw hK;ext(⟨xs,x,hq,hx⟩:hg);ext(⟨its,rv,p,hz⟩:I.list hq);ext(⟨u,hu,ru⟩:rv.get hx);ext(⟨f0,f1,f2,f3,f4,f5⟩:hf it ());show wpAny_pyNext_list_item st p.isList (x:=u) (↑hu) λh' st' sb=>?_;let I1:au X pins σ H {s with heap:=h'}:=I.turned (t':=s.toks) (λb o hb e=>(sb.2 b hb).trans e) f0 f1 f3 f4 f5;ext(⟨o,e,c,d⟩:id st');show{u,1,xS (s:={s with heap:=h'}) e c d () {x,H,I1,ru,{1,λys hy=>by rw[I.list_inj hy hq];show hx},st',λb hb=>(hf b hb).1}}
 done:=by intro X hP hw hK hc i pins s σ H E I hf st hg;subst hP hw hK;ext(⟨xs,hq,hx⟩:hg);ext(⟨its,rv,p,hz⟩:I.list hq);ext(⟨f0,f1,f2,f3,f4,f5⟩:hf it ());let hl:=rv.length;show wpAny_pyNext_list_end (I.ok.hd hc) st p.isList (by simp;omega) λh' eb=>{1,I.turned (t':=s.toks) (λb o hb e=>eb b o hb e) f0 f1 f3 f4 f5}
 self:=λ_ _ _ _ _ st h=>wpAny_pyIter_listiter st h
def xh{P:Θ}{w:Χ}{K:ζ}{tg:ϲ}(a it:J):mY P w K tg (JZ K a) [it] it (λi h=>h.IsTupleIter it a i) where
 mem:=()
 obj:=λi h st b hb=>by
  let e:b=it:=↑hb
  subst e;ext(⟨o,e,c,d⟩:st);show{o,e,λv z=>by rw[d]at z;cases z}
 keep:=λi h h' st k=>st.at λo e=>k it () o e
 item:=by intro X hP hw hK hc i pins s σ H E I hf st hg;subst hP hw hK;ext(⟨xs,x,hq,hx⟩:hg);ext(⟨its,rv,p,hz⟩:I.tuple hq);ext(⟨u,hu,ru⟩:rv.get hx);ext(⟨f0,f1,f2,f3,f4,f5⟩:hf it ());show wpAny_pyNext_tuple_item st (show s.heap.IsTuple a its.toArray from p) (x:=u) (↑hu) λh' st' sb=>?_;let I1:au X pins σ H {s with heap:=h'}:=I.turned (t':=s.toks) (λb o hb e=>(sb.2 b hb).trans e) f0 f1 f3 f4 f5;ext(⟨o,e,c,d⟩:id st');show{u,1,xS (s:={s with heap:=h'}) e c d () {x,H,I1,ru,{1,λys hy=>by rw[I.tuple_inj hy hq];show hx},st',λb hb=>(hf b hb).1}}
 done:=by intro X hP hw hK hc i pins s σ H E I hf st hg;subst hP hw hK;ext(⟨xs,hq,hx⟩:hg);ext(⟨its,rv,p,hz⟩:I.tuple hq);ext(⟨f0,f1,f2,f3,f4,f5⟩:hf it ());let hl:=rv.length;show wpAny_pyNext_tuple_end (I.ok.hd hc) st (show s.heap.IsTuple a its.toArray from p) (by simp;omega) λh' eb=>{1,I.turned (t':=s.toks) (λb o hb e=>eb b o hb e) f0 f1 f3 f4 f5}
 self:=λ_ _ _ _ _ st h=>wpAny_pyIter_tupleiter st h
def wu{P:Θ}{w:Χ}{K:ζ}{tg:ϲ}(it:J)(lo:Int)(n:Nat):mY P w K tg (Jh lo n) [it] it (λi h=>IsRangeIter h it (lo+(i:Nat)*1) ((n:Int)-(i:Nat)) 1) where
 mem:=()
 obj:=λi h st b hb=>by
  let e:b=it:=↑hb
  subst e;show{0,st,λv z=>by let z':QB _=OW v:=z;cases z'}
 keep:=λi h h' st k=>k it () _ st
 item:=by intro X hP hw hK hc i pins s σ H E I hf st hg;subst hP hw hK;ext(⟨f0,f1,f2,f3,f4,f5⟩:hf it ());let W:=Walks.range (prog:=X.prog) (w:=X.w) (I.ok.hd hc) it lo 1 n;show W.item i s _ _ hg st λv h' tk hv st' kk=>?_;ext(⟨t,rfl⟩:hv);let I1:au X pins σ H {s with heap:=h',toks:=tk}:=I.turned (λb o hb e=>kk b o (↑hb) e) f0 f1 f3 f4 f5;show{01,xS (s:={s with heap:=h',toks:=tk}) (n:="range_iterator") st' U U () {.int (lo+i),H,I1,{t,2},{11},st',λb hb=>(hf b hb).1}};rw[Int.mul_one]
 done:=by intro X hP hw hK hc i pins s σ H E I hf st hg;subst hP hw hK;ext(⟨f0,f1,f2,f3,f4,f5⟩:hf it ());show wpAny_pyNext_range_end (I.ok.hd hc) st (by let:n<=i:=hg;omega) λh' eb=>{1,I.turned (t':=s.toks) (λb o hb e=>eb b o hb e) f0 f1 f3 f4 f5}
 self:=λ_ _ _ _ _ st h=>wpAny_pyIter_rangeiter st h
section
variable{X:Cx}{tg:ϲ}
inductive GO (K:ζ) (R:It->Hp->Prop) (x:V) (H1:Hp):Prop|mk a (_:x=.ref a) (_:(∃xs,aw K H1 a xs)) (_:R (Hk K a) H1)
def KR(K:ζ)(tl:TE):TI:=λσ H R=>tl σ H (GO K R)
inductive Jy (K:ζ) (R:It->Hp->Prop) (x:V) (H1:Hp):Prop|mk a (_:x=.ref a) (_:(∃xs,aq K H1 a xs)) (_:R (JZ K a) H1)
def Nv(K:ζ)(tl:TE):TI:=λσ H R=>tl σ H (Jy K R)
def pi_list{l:ϲ}{tl:TE}(hl:PE X l tl):PI X tg l (KR X.K tl):=by
 intro pins s σ H R I h;show bn (hl pins s σ H _ I h) λv s1 ⟨x,H1,I1,r1,q1⟩=>?_;ext(⟨a,e,⟨xs,hq⟩,q⟩:q1);subst e;cases r1;ext(⟨its,rv,p,hz⟩:I1.list hq);show OC p.isList ?_;show{s1.heap.objs.size,[s1.heap.objs.size],00,H1,1,I1.kept (t':=s1.toks) λb o e=>π _ e,Ax a _,{0,Ξ _ U,11},λb hb=>?_,q};let e:b=s1.heap.objs.size:=↑hb
 subst e;show I1.fpOk (Β _) (I1.hok.fresh (Β _))
def pi_tup{l:ϲ}{tl:TE}(hl:PE X l tl):PI X tg l (Nv X.K tl):=by
 intro pins s σ H R I h;show bn (hl pins s σ H _ I h) λv s1 ⟨x,H1,I1,r1,q1⟩=>?_;ext(⟨a,e,⟨xs,hq⟩,q⟩:q1);subst e;cases r1;ext(⟨its,rv,p,hz⟩:I1.tuple hq);show I_ (show s1.heap.IsTuple a its.toArray from p) ?_;show{s1.heap.objs.size,[s1.heap.objs.size],00,H1,1,I1.kept (t':=s1.toks) λb o e=>π _ e,xh a _,{0,Ξ _ U,11},λb hb=>?_,q};let e:b=s1.heap.objs.size:=↑hb
 subst e;show I1.fpOk (Β _) (I1.hok.fresh (Β _))
def Bu{pins:List (J×Obj)}{σ:St}{H:Hp}{s:ρ}{R:It->Hp->Prop}{E:θ->ρ->Prop}{lo hi:Int}{t u v:Tok}{tk:Nat}(I:au X pins σ H s)(h1:-(2^62)<=lo)(h2:lo<2^62)(n:-(2^62)<=hi)(B:hi<2^62)
  (q:R (Jh lo (hi-lo).toNat) H):Ο (ϊ X.prog X.w) X.A (pyIter (.ref s.heap.objs.size)) (NC X pins σ tg R) E {s with heap:=s.heap.push {cls:=.type "range",data:=.fields #[.int lo t,.int hi u,.int 1 v]},toks:=tk}:=by
 show wpAny_pyIter_range (IsRange.new ..) (small_one h1 h2 n B) ?_;let j:au X pins σ H {s with heap:=s.heap.push {cls:=.type "range",data:=.fields #[.int lo t,.int hi u,.int 1 v]},toks:=tk}:=I.kept λb o e=>π _ e;show{(s.heap.push {cls:=.type "range",data:=.fields #[.int lo t,.int hi u,.int 1 v]}).objs.size,[(s.heap.push {cls:=.type "range",data:=.fields #[.int lo t,.int hi u,.int 1 v]}).objs.size],00,H,1,j.kept (t':=tk) λb o e=>π _ e,wu _ lo (hi-lo).toNat,2,λb F=>?_,q}
 .let z:lo+((0:Nat):Int)*1=lo:=();let D:(((hi-lo).toNat:Nat):Int)-((0:Nat):Int)=s_.Range.rangeSize lo hi 1:=by rw[rangeSize_one];split<;>omega
  rw[z,D];show Ξ _ U
 .let e:b=(s.heap.push {cls:=.type "range",data:=.fields #[.int lo t,.int hi u,.int 1 v]}).objs.size:=↑F
  subst e;show j.fpOk (Β _) (j.hok.fresh (Β _))
inductive GG  (R:It->Hp->Prop) (vs:List V) (H1:Hp):Prop|mk (j:Int) (_:vs=[.int j]) (_:-(2^62)<=j) (_:j<2^62) (_:R (Jh 0 j.toNat) H1)
def Kk(ta:TA):TI:=λσ H R=>ta σ H (GG R)
def pi_range1{a:ϲ}{ta:TA}{p pos:Pos}(hg:Gl X "range")(hm:X.mg "range"=χ)(ha:PA X [a] ta)(hs:autoParam (Ϗ [a] X.env=[(Α,eval a X.env)]) yR._auto_1):PI X tg (.Call (.Name "range" p) [a] [] pos) (Kk ta):=by
 intro pins s σ H R I h;show Call_ (fE I hg hm boot_range (i9 (bn (ha pos pins s σ H _ I h) λus s1 ⟨vs,H1,I1,r1,q1⟩=>?_) hs U));ext(⟨j,e,q1,q2,q⟩:q1);subst e;cases r1 with
 |cons r rr=>cases rr;ext(⟨t,rfl⟩:r);show call_range_1 (Bu I1 () () q1 q2 (↑q))
def Nl(z:TI)(g:TG)(tb:TS):TS:=λD σ H=>z σ H λa H1=>∃W:Nat->Nat->St->Hp->Prop,(∃m,W 0 m σ H1)/\∀i m σ H,W i m σ H ->
 (a.stop i H/\D.nx σ H)\/(a.go i H/\∃N:St->Hp->Prop,(∀j H',N j H'->∃n,n<m/\W (i+1) n j H')/\∀x H',a.yld i H x H'->g x σ H' λq H2=>tb {D with nx:=N,ct:=N,bk:=D.nx} q H2)
def ou(fp:List J)(h:ϖ):List (J×Obj):=fp.filterMap λb=>(h.get? b).map λo=>(b,o)
def gg(j:b∈fp)(e:h.get? b=Z o):(b,o)∈ou fp h:=N6.mpr {b,j,by rw[e];rfl}
def As{fp:List J}{h:ϖ}{p:J×Obj}(hp:p∈ou fp h):p.1∈fp/\h.get? p.1=Z p.2:=by
 ext(⟨b,hb,e⟩:N6.mp hp);cases q:h.get? b with
 |none=>rw[q]at e;cases e
 |some o=>rw[q]at e;let e':(b,o)=p:=Ϟ e;subst e';show{hb,q}
def au.pinned{pins:List (J×Obj)}{σ:St}{H:Hp}{s:ρ}{fp:List J}(I:au X pins σ H s)(hf:∀b∈fp,lW X pins H b)(ho:∀b∈fp,∃o,s.heap.get? b=Z o/\∀v,o.data≠.cell v):au X (pins++ou fp s.heap) σ H s:=
 I.pins_of λp hp=>(ϧ.mp hp).elim (λz=>I.pin p (Ϫ _ z)) λz=>by ext(⟨hb,e⟩:As z);ext(⟨f0,f1,f2,_⟩:hf p.1 hb);ext(⟨o,e',d⟩:ho p.1 hb);rw[e]at e';cases e';show{e,f0,f1,f2,d}
def au.unpinned(I:au X (pins++pl) σ H s):au X pins σ H s:=I.pins_of λp j=>I.pin p (Ϫ _ (g_ _ j))
def ps_for(hp:PassesOwn (ϊ X.prog X.w) X.A X.env X.xe)(hc:X.calm=Y)(hi:PI X tg iter wi)(hg:PG X tg g)(hb:kl X body tb)
  (hs:autoParam (∀x,foldedSetIterable iter X.env x=pure x) yI._auto_1):PS X (.For tg iter body [] pos) (Nl wi g tb):=by
 intro pins s σ H D I h;show wpAny_For (bn (hi pins s σ H _ I h) λv s1 h1=>bn h1 λitv s2 h2=>?_) hs;ext(⟨it,fp,tn,a,H2,e,I2,T,st2,f2,W,⟨m0,w0⟩,turn⟩:h2);subst e;let stat:∀{H':Hp},(∀b∈fp,H' b=χ)->∀b∈fp,lW X pins H' b:=λhn b hb=>{hn b hb,(f2 b hb).2};show codeAny_forLoop_any (λn s'=>∃i σ' H',au X pins σ' H' s'/\tn i s'.heap/\(∀b∈fp,H' b=χ)/\W i n σ' H') ?_ m0 {(0),σ,H2,I2,st2,λb hb=>(f2 b hb).1,w0};ext n s3 ⟨i,σ3,H3,I3,st3,fr3,w3⟩;rcases turn i n σ3 H3 w3 with ⟨stop,qn⟩|⟨go,N,hN,step⟩
 .show E5 hp (bn (T.done X U U U hc i pins s3 σ3 H3 X.xe I3 (stat fr3) st3 stop) λr s4 ⟨hr,I4⟩=>?_);subst hr;show J4 {σ3,H3,I4,qn}
 .show E5 hp (bn (T.item X U U U hc i pins s3 σ3 H3 X.xe I3 (stat fr3) st3 go) λr s4 ⟨u,hr,h4⟩=>?_);subst hr;show E5 hp (bn h4 λ_ s5 ⟨x,H5,I5,r5,y5,st5,fr5⟩=>?_);show E5 hp (bn (hg _ s5 σ3 H5 x u _ (I5.pinned (stat fr5) (T.obj _ _ st5)) r5 (step x H5 y5)) λ_ s6 ⟨σ6,H6,I6,q6⟩=>?_);show E5 hp (bn (hb _ s6 σ6 H6 _ I6 q6) λf s7 q7=>?_);let again:∀{σ7:St}{H7:Hp},au X (pins++ou fp s5.heap) σ7 H7 s7->N σ7 H7->∃m,m<n/\∃i σ' H',au X pins σ' H' s7/\tn i s7.heap/\(∀b∈fp,H' b=χ)/\W i m σ' H':=λ{σ7 H7} I7 n7=>by ext(⟨m',hm,w7⟩:hN σ7 H7 n7);show{m',hm,i+1,σ7,H7,I7.unpinned,T.keep _ _ _ st5 λb hb o e=>(I7.pin (b,o) (Ϫ _ (Ϫ _ (gg hb e)))).1,λb hb=>?_,w7};ext(⟨o,e,d⟩:T.obj _ _ st5 b hb);show(I7.pin (b,o) (Ϫ _ (Ϫ _ (gg hb e)))).2.1
  cases f with
  |next=>ext(⟨σ7,H7,I7,n7⟩:q7);show again I7 n7
  |cont=>ext(⟨σ7,H7,I7,n7⟩:q7);show again I7 n7
  |brk=>ext(⟨σ7,H7,I7,q7⟩:q7);show{σ7,H7,I7.unpinned,q7}
  |ret v=>ext(⟨x7,σ7,H7,I7,r7,q7⟩:q7);show{x7,σ7,H7,I7.unpinned,r7,q7}
end
def jD{K:ζ}{a:J}{xs:List V}{g:TG}{tb:TS}{D:cV}{σ:St}{H:Hp}(Pv:Nat->St->Hp->Prop)(h0:Pv 0 σ H)(hl:∀i σ H,i<=xs.length->Pv i σ H->aw K H a xs)
  (hs:∀i x σ H,xs[i]?=Z x->Pv i σ H->g x σ H λσ2 H2=>tb {D with nx:=Pv (i+1),ct:=Pv (i+1),bk:=D.nx} σ2 H2) (hd:∀σ H,Pv xs.length σ H->D.nx σ H):
  ∃W:Nat->Nat->St->Hp->Prop,(∃m,W 0 m σ H)/\∀i m σ H,W i m σ H ->
   ((Hk K a).stop i H/\D.nx σ H)\/((Hk K a).go i H/\∃N:St->Hp->Prop,(∀σ' H',N σ' H'->∃m',m'<m/\W (i+1) m' σ' H')/\∀x H',(Hk K a).yld i H x H'->g x σ H' λσ2 H2=>tb {D with nx:=N,ct:=N,bk:=D.nx} σ2 H2):=by
 show{λi m σ H=>m=xs.length-i/\i<=xs.length/\Pv i σ H,{xs.length,3,Τ _,h0},2};ext i m σ H ⟨rfl,hi,p⟩;let q:=hl i σ H hi p;by_cases hlt:i<xs.length
 .show .inr {{xs,xs[i],q,by simp[hlt]},Pv (i+1),λσ' H' p'=>{xs.length-(i+1),31,hlt,p'},λx H' y=>?_};ext(⟨e,y⟩:y);subst e;show hs i x σ _ (y xs q) p
 .let e:i=xs.length:=();subst e;show .inl {{xs,q,Β _},hd σ H p}
def sV{K:ζ}{a:J}{xs:List V}{g:TG}{tb:TS}{D:cV}{σ:St}{H:Hp}(Pv:Nat->St->Hp->Prop)(h0:Pv 0 σ H)(hl:∀i σ H,i<=xs.length->Pv i σ H->aq K H a xs)
  (hs:∀i x σ H,xs[i]?=Z x->Pv i σ H->g x σ H λσ2 H2=>tb {D with nx:=Pv (i+1),ct:=Pv (i+1),bk:=D.nx} σ2 H2) (hd:∀σ H,Pv xs.length σ H->D.nx σ H):
  ∃W:Nat->Nat->St->Hp->Prop,(∃m,W 0 m σ H)/\∀i m σ H,W i m σ H ->
   ((JZ K a).stop i H/\D.nx σ H)\/((JZ K a).go i H/\∃N:St->Hp->Prop,(∀σ' H',N σ' H'->∃m',m'<m/\W (i+1) m' σ' H')/\∀x H',(JZ K a).yld i H x H'->g x σ H' λσ2 H2=>tb {D with nx:=N,ct:=N,bk:=D.nx} σ2 H2):=by
 show{λi m σ H=>m=xs.length-i/\i<=xs.length/\Pv i σ H,{xs.length,3,Τ _,h0},2};ext i m σ H ⟨rfl,hi,p⟩;let q:=hl i σ H hi p;by_cases hlt:i<xs.length
 .show .inr {{xs,xs[i],q,by simp[hlt]},Pv (i+1),λσ' H' p'=>{xs.length-(i+1),31,hlt,p'},λx H' y=>?_};ext(⟨e,y⟩:y);subst e;show hs i x σ _ (y xs q) p
 .let e:i=xs.length:=();subst e;show .inl {{xs,q,Β _},hd σ H p}
def pO{lo:Int}{n:Nat}{g:TG}{tb:TS}{D:cV}{σ:St}{H:Hp}(Pv:Nat->St->Hp->Prop)(h0:Pv 0 σ H)
  (hs:∀i σ H,i<n->Pv i σ H->g (.int (lo+i)) σ H λσ2 H2=>tb {D with nx:=Pv (i+1),ct:=Pv (i+1),bk:=D.nx} σ2 H2) (hd:∀σ H,Pv n σ H->D.nx σ H):
  ∃W:Nat->Nat->St->Hp->Prop,(∃m,W 0 m σ H)/\∀i m σ H,W i m σ H ->
   ((Jh lo n).stop i H/\D.nx σ H)\/((Jh lo n).go i H/\∃N:St->Hp->Prop,(∀σ' H',N σ' H'->∃m',m'<m/\W (i+1) m' σ' H')/\∀x H',(Jh lo n).yld i H x H'->g x σ H' λσ2 H2=>tb {D with nx:=N,ct:=N,bk:=D.nx} σ2 H2):=by
 show{λi m σ H=>m=n-i/\i<=n/\Pv i σ H,{n,3,Τ _,h0},2};ext i m σ H ⟨rfl,hi,p⟩;by_cases hlt:i<n
 .show .inr {hlt,Pv (i+1),λσ' H' p'=>{n-(i+1),31,hlt,p'},λx H' y=>?_};ext(⟨e,y⟩:y);subst e y;show hs i σ _ hlt p
 .let e:i=n:=();subst e;show .inl {Β _,hd σ H p}
abbrev R2:=V->V->Hp->VK->Prop
def fQ(X:Cx)(f:θ->θ->Sem θ)(r:R2):Prop:=
 ∀(pins:List (J×Obj))(s:ρ)(σ:St)(H:Hp)(x y:V)(v u:θ)(Q:VK),au X pins σ H s->aI x v->aI y u->r x y H Q ->
  Ο (ϊ X.prog X.w) X.A (f v u) (EP X pins σ Q) X.xe s
def Nw(X:Cx)(f:θ->Sem θ)(r:V->Hp->VK->Prop):Prop:=
 ∀(pins:List (J×Obj))(s:ρ)(σ:St)(H:Hp)(x:V)(v:θ)(Q:VK),au X pins σ H s->aI x v->r x H Q ->
  Ο (ϊ X.prog X.w) X.A (f v) (EP X pins σ Q) X.xe s
def cS(X:Cx)(f:θ)(r:List V->Hp->VK->Prop):Prop:=
 ∀(pins:List (J×Obj))(s:ρ)(σ:St)(H:Hp)(xs:List V)(us:List θ)(Q:VK),au X pins σ H s->aE xs us->r xs H Q ->
  Ο (ϊ X.prog X.w) X.A (call f us) (EP X pins σ Q) X.xe s
def Nq(X:Cx)(r:V->Hp->(Bool->Hp->Prop)->Prop):Prop:=
 ∀(pins:List (J×Obj))(s:ρ)(σ:St)(H:Hp)(x:V)(v:θ)(Q:Bool->Hp->Prop),au X pins σ H s->aI x v->r x H Q ->
  Ο (ϊ X.prog X.w) X.A (truthy v) (TP X pins σ Q) X.xe s
def Es(r:R2)(ta tb:TE):TE:=λσ H Q=>ta σ H λx H1=>tb σ H1 λy H2=>r x y H2 Q
def Ot(r:V->Hp->VK->Prop)(ta:TE):TE:=λσ H Q=>ta σ H λx H1=>r x H1 Q
inductive rI (C:Int->Int->Prop) (g:Int->Int->V) (x:V) (y:V) (H:Hp) (Q:VK):Prop|mk i j (_:x=.int i) (_:y=.int j) (_:C i j) (_:Q (g i j) H)
inductive Hf (g:Int->Int->V) (x:V) (y:V) (H:Hp) (Q:VK):Prop|mk i j (_:x=.int i) (_:y=.int j) (_:Q (g i j) H)
inductive rU (g:Int->V) (x:V) (H:Hp) (Q:VK):Prop|mk i (_:x=.int i) (_:Q (g i) H)
section
variable{X:Cx}{a b c:ϲ}{ta tb tc:TE}{pos:Pos}
def JG(ha:PE X a ta)(hb:PE X b tb){pins:List (J×Obj)}{s:ρ}{σ:St}{H:Hp}{R:V->V->Hp->Prop}(I:au X pins σ H s)
  (h:ta σ H λx H1=>tb σ H1 λy H2=>R x y H2) {Q:θ->ρ->Prop} {f:θ->θ->Sem θ}
  (hf:∀v u s2 x y H2,au X pins σ H2 s2->aI x v->aI y u->R x y H2->Ο (ϊ X.prog X.w) X.A (f v u) Q X.xe s2):
  Ο (ϊ X.prog X.w) X.A (eval a X.env) (λv s₁=>Ο (ϊ X.prog X.w) X.A (eval b X.env) (λu s₂=>Ο (ϊ X.prog X.w) X.A (f v u) Q X.xe s₂) X.xe s₁) X.xe s:=by
 show bn (ha pins s σ H _ I h) λv s1 ⟨x,H1,I1,r1,q1⟩=>?_;show bn (hb pins s1 σ H1 _ I1 q1) λu s2 ⟨y,H2,I2,r2,q2⟩=>?_;show hf v u s2 x y H2 I2 r1 r2 q2
def pe_op{j:QM}{r:R2}(ho:fQ X (K4 j) r)(z:PE X a ta)(G:PE X b tb):PE X (.BinOp a j b pos) (Es r ta tb):=by intro pins s σ H Q I h;show wpAny_BinOp (JG z G I h λv u n x y H2 B D F q=>ho pins n σ H2 x y v u Q B D F q)
def pe_un(ho:Nw X (unaryOp op) r)(z:PE X a ta):PE X (.UnaryOp op a pos) (Ot r ta):=by intro pins s σ H Q I h;show UnaryOp_ (bn (z pins s σ H _ I h) λv B ⟨x,H1,j,n,q⟩=>ho pins B σ H1 x v Q j n q)
def Mh{f:θ->θ->Sem θ}{C:Int->Int->Prop}{g:Int->Int->Int}
  (n:∀(i j:Int)(t u:Tok)(s:ρ)(Q:θ->ρ->Prop)(E:θ->ρ->Prop),C i j->Q (.int (g i j) s.toks) {s with toks:=s.toks+1}->Ο (ϊ X.prog X.w) X.A (f (.int i t) (.int j u)) Q E s):
  fQ X f (rI C λi j=>.int (g i j)):=by
 ext pins s σ H x y v u Q I B D ⟨i,j,rfl,rfl,z,q⟩;ext(⟨t,rfl⟩:B);ext(⟨t',rfl⟩:D);show n i j t t' s _ _ z {.int (g i j),H,I.tok _,{01},q}
def KZ{f:θ->θ->Sem θ}{g:Int->Int->Int}
  (n:∀(i j:Int)(t u:Tok)(s:ρ)(Q:θ->ρ->Prop)(E:θ->ρ->Prop),Q (.int (g i j) s.toks) {s with toks:=s.toks+1}->Ο (ϊ X.prog X.w) X.A (f (.int i t) (.int j u)) Q E s):
  fQ X f (Hf λi j=>.int (g i j)):=by
 ext pins s σ H x y v u Q I z B ⟨i,j,rfl,rfl,q⟩;ext(⟨t,rfl⟩:z);ext(⟨t',rfl⟩:B);show n i j t t' s _ _ {.int (g i j),H,I.tok _,{01},q}
def GU{f:θ->θ->Sem θ}{g:Int->Int->Bool}
  (n:∀(i j:Int)(t u:Tok)(s:ρ)(Q:θ->ρ->Prop)(E:θ->ρ->Prop),Q (.bool (g i j)) s->Ο (ϊ X.prog X.w) X.A (f (.int i t) (.int j u)) Q E s):
  fQ X f (Hf λi j=>.bl (g i j)):=by
 ext pins s σ H x y v u Q I z B ⟨i,j,rfl,rfl,q⟩;ext(⟨t,rfl⟩:z);ext(⟨t',rfl⟩:B);show n i j t t' s _ _ {.bl (g i j),H,I,1,q}
def IK(i j:Int):Prop:=0<=j/\j<=1000000/\i.natAbs<2^64
def Jn(i j:Int):Prop:=(-(2^64)<i/\i<2^64)\/(-(2^64)<j/\j<2^64)
def Jn.ok{i j:Int}(h:Jn i j):IntMulOk i j:=by
 rcases h with ⟨h1,h2⟩|⟨h1,h2⟩
 .show .of_left (intBits_le_64 h1 h2)
 .show .of_right (intBits_le_64 h1 h2)
def bj:fQ X (K4 .Add) (Hf λi j=>.int (i+j)):=KZ λ_ _ _ _ _ _ _ q=>add_int q
def da:fQ X (K4 .Sub) (Hf λi j=>.int (i-j)):=KZ λ_ _ _ _ _ _ _ q=>sub_int q
def jR:fQ X (K4 .Mult) (rI Jn λi j=>.int (i*j)):=Mh λ_ _ _ _ _ _ _ hc q=>mul_int q hc.ok
def jT:fQ X (K4 .Mod) (rI (λ_ j=>0<j) λi j=>.int (i%j)):=Mh λi j _ _ _ _ _ hc q=>by let h1:(0:Int)<j:=hc;show mod_int' () (by rw[Int.fmod_eq_emod_of_nonneg i ()];show q)
def xa:fQ X (K4 .Pow) (rI IK λi j=>.int (i^j.toNat)):=Mh λ_ _ _ _ _ _ _ n q=>pow_int_small n.1 n.2.1 n.2.2 q
def Oa{f:θ->Sem θ}{g:Int->Int}
  (j:∀(i:Int)(t:Tok)(s:ρ)(Q:θ->ρ->Prop)(E:θ->ρ->Prop),Q (.int (g i) s.toks) {s with toks:=s.toks+1}->Ο (ϊ X.prog X.w) X.A (f (.int i t)) Q E s):
  Nw X f (rU λi=>.int (g i)):=by
 ext pins s σ H x v Q I n ⟨i,rfl,q⟩;ext(⟨t,rfl⟩:n);show j i t s _ _ {.int (g i),H,I.tok _,{01},q}
def rB:Nw X (unaryOp .USub) (rU λi=>.int (-i)):=Oa λ_ _ _ _ _ q=>neg_int q
end
def Lf:V->V->Bool
 |.non,.non=>Y|.non,.int _=>Y|.int _,.non=>Y|.non,.bl _=>Y|.bl _,.non=>Y|.non,.str _=>Y|.str _,.non=>Y
 |.int _,.int _=>Y|.bl _,.bl _=>Y|.str _,.str _=>Y|.byt _,.byt _=>Y
 |.int _,.str _=>Y|.str _,.int _=>Y|.bl _,.str _=>Y|.str _,.bl _=>Y
 |_,_=>Α
def On:R2:=λx y H Q=>Lf x y=Y/\Q (.bl (decide (x=y))) H
def MQ:R2:=λx y H Q=>Lf x y=Y/\Q (.bl (!decide (x=y))) H
def yP{i j:Int}:decide (V.int i=V.int j)=(i==j):=by rw[B5];simp
def CH{i j:Bool}:decide (V.bl i=V.bl j)=(i==j):=by rw[B5];simp
def yj{i j:Str}:decide (V.str i=V.str j)=(i==j):=by rw[B5];simp
def zH{i j:Array UInt8}:decide (V.byt i=V.byt j)=(i.toList==j.toList):=by rw[B5];cases i;cases j;simp
section
variable{X:Cx}{a b c:ϲ}{ta tb tc:TE}{pos:Pos}
def aR(I:au X pins σ H s)(q:Q (.bl k) H)(e:k=k'):EP X pins σ Q (.bool k') s:=by subst e;show{.bl k,H,I,1,q}
def av:fQ X (ϻ .Eq) On:=by
 ext pins s σ H x y v u Q I rx ry ⟨hs,q⟩;cases x with
 |non=>
  cases rx;cases y with
  |non=>cases ry;show PySem.EqNone.eq_none_none (aR I q ())
  |bl j=>cases ry;show PySem.EqNone.eq_none_bool (aR I q ())
  |int j=>ext(⟨t',rfl⟩:ry);show PySem.EqNone.eq_none_int (aR I q ())
  |str j=>ext(⟨t',rfl⟩:ry);show PySem.EqNone.eq_none_str (aR I q ())
  |_=>show absurd (hs) ϋ
 |bl i=>
  cases rx;cases y with
  |non=>cases ry;show PySem.EqNone.eq_bool_none (aR I q ())
  |bl j=>cases ry;show eq_bool (aR I q CH)
  |str j=>ext(⟨t',rfl⟩:ry);show PySem.EqMixed.eq_bool_str (aR I q ())
  |_=>show absurd (hs) ϋ
 |int i=>
  ext(⟨t,rfl⟩:rx);cases y with
  |non=>cases ry;show PySem.EqNone.eq_int_none (aR I q ())
  |int j=>ext(⟨t',rfl⟩:ry);show eq_int (aR I q yP)
  |str j=>ext(⟨t',rfl⟩:ry);show PySem.EqMixed.eq_int_str (aR I q ())
  |_=>show absurd (hs) ϋ
 |str i=>
  ext(⟨t,rfl⟩:rx);cases y with
  |non=>cases ry;show PySem.EqNone.eq_str_none (aR I q ())
  |bl j=>cases ry;show PySem.EqMixed.eq_str_bool (aR I q ())
  |int j=>ext(⟨t',rfl⟩:ry);show PySem.EqMixed.eq_str_int (aR I q ())
  |str j=>ext(⟨t',rfl⟩:ry);show eq_str (aR I q yj)
  |_=>show absurd (hs) ϋ
 |byt i=>
  ext(⟨t,rfl⟩:rx);cases y with
  |byt j=>ext(⟨t',rfl⟩:ry);show PySem.W.eq_bytes (aR I q zH)
  |_=>show absurd (hs) ϋ
 |_=>cases y<;>show absurd (hs) ϋ
def eV:fQ X (ϻ .NotEq) MQ:=by
 ext pins s σ H x y v u Q I rx ry ⟨hs,q⟩;cases x with
 |non=>
  cases rx;cases y with
  |non=>cases ry;show PySem.EqNone.ne_none_none (aR I q ())
  |bl j=>cases ry;show PySem.EqNone.ne_none_bool (aR I q ())
  |int j=>ext(⟨t',rfl⟩:ry);show PySem.EqNone.ne_none_int (aR I q ())
  |str j=>ext(⟨t',rfl⟩:ry);show PySem.EqNone.ne_none_str (aR I q ())
  |_=>show absurd (hs) ϋ
 |bl i=>
  cases rx;cases y with
  |non=>cases ry;show PySem.EqNone.ne_bool_none (aR I q ())
  |bl j=>cases ry;show ne_bool (aR I q (congrArg not CH))
  |str j=>ext(⟨t',rfl⟩:ry);show PySem.EqMixed.ne_bool_str (aR I q ())
  |_=>show absurd (hs) ϋ
 |int i=>
  ext(⟨t,rfl⟩:rx);cases y with
  |non=>cases ry;show PySem.EqNone.ne_int_none (aR I q ())
  |int j=>ext(⟨t',rfl⟩:ry);show ne_int (aR I q (congrArg not yP))
  |str j=>ext(⟨t',rfl⟩:ry);show PySem.EqMixed.ne_int_str (aR I q ())
  |_=>show absurd (hs) ϋ
 |str i=>
  ext(⟨t,rfl⟩:rx);cases y with
  |non=>cases ry;show PySem.EqNone.ne_str_none (aR I q ())
  |bl j=>cases ry;show PySem.EqMixed.ne_str_bool (aR I q ())
  |int j=>ext(⟨t',rfl⟩:ry);show PySem.EqMixed.ne_str_int (aR I q ())
  |str j=>ext(⟨t',rfl⟩:ry);show ne_str (aR I q (congrArg not yj))
  |_=>show absurd (hs) ϋ
 |byt i=>
  ext(⟨t,rfl⟩:rx);cases y with
  |byt j=>ext(⟨t',rfl⟩:ry);show PySem.W.ne_bytes (aR I q (congrArg not zH))
  |_=>show absurd (hs) ϋ
 |_=>cases y<;>show absurd (hs) ϋ
def jE:fQ X (ϻ .Lt) (Hf λi j=>.bl (decide (i<j))):=GU λ_ _ _ _ _ _ _ q=>lt_int q
def iX:fQ X (ϻ .LtE) (Hf λi j=>.bl (decide (i<=j))):=GU λ_ _ _ _ _ _ _ q=>le_int q
def fh:fQ X (ϻ .Gt) (Hf λi j=>.bl (decide (j<i))):=GU λ_ _ _ _ _ _ _ q=>gt_int q
def Db:fQ X (ϻ .GtE) (Hf λi j=>.bl (decide (j<=i))):=GU λ_ _ _ _ _ _ _ q=>ge_int q
def fq:fQ X (ϻ .Is) (λx y H Q=>y=.non/\Q (.bl (decide (x=.non))) H):=by
 ext pins s σ H x y v u Q I j n ⟨rfl,q⟩;cases n;show is_none_gen (aR I q ?_);cases x<;>first
  |(cases j;rfl)
  |(ext(⟨t,rfl⟩:j);rfl)
def DU(b:ϲ){op:QP}(h:autoParam (op≠.In) yD._auto_1)(h2:autoParam (op≠.NotIn) yD._auto_1):behindInMarks op b=Α:=by
 let e1:(op==QP.In)=Α:=by cases op<;>first|rfl|show absurd rfl h
 let e2:(op==QP.NotIn)=Α:=by cases op<;>first|rfl|show absurd rfl h2
 cases b<;>simp[behindInMarks,e1,e2]
def pe_cmpR{j:QP}{r:R2}(ho:fQ X (ϻ j) r)(B:PE X a ta)(c:PE X b tb)(n:behindInMarks j b=Α):PE X (.Compare a [j] [b] pos) (Es r ta tb):=by intro pins s σ H Q I h;show wpAny_Compare1 (JG B c I h λv u z x y H2 D F G q=>ho pins z σ H2 x y v u Q D F G q) n
def Hu(t:TE):TT:=λσ H Q=>t σ H λx H'=>∃k,x=.bl k/\Q k H'
def pt_cmpR(ho:fQ X (ϻ op) r)(D:PE X a ta)(N:PE X b tb)(n:behindInMarks op b=Α):PT X (.Compare a [op] [b] pos) (Hu (Es r ta tb)):=by
 intro pins s σ H Q I h;show wpAny_isTrue_Compare1 (bn (D pins s σ H _ I h) λv q ⟨x,H1,f,M,g⟩=>bn (N pins q σ H1 _ f g) λu B ⟨y,H2,F,G,S⟩=>
  bn (ho pins B σ H2 x y v u _ F M G S) λc W ⟨z,R,j,d,k,e,L⟩=>?_) n
 subst e;cases d;show o_ {R,j,L}
def BY(r r':R2)(ta tb tc:TE):TE:=λσ H Q=>ta σ H λx H1=>tb σ H1 λy H2=>r x y H2 λz j=>∃k,z=.bl k /\
 (if k=Y then tc σ j λq n=>r' y q n Q else Q (.bl Α) j)
def pe_chain(ho:fQ X (ϻ op) r)(D:fQ X (ϻ op') r')(S:PE X a ta)(hb:PE X b tb)(N:PE X c tc)
  (m:autoParam (lastMarks [op,op'] [b,c]=Α) yU._auto_1):PE X (.Compare a [op,op'] [b,c] pos) (BY r r' ta tb tc):=by
 intro pins s σ H Q I h;show Compare_chain (bn (S pins s σ H _ I h) λv L ⟨x,H1,I1,r1,i⟩=>chain_link (bn (hb pins L σ H1 _ I1 i) λu l ⟨y,H2,f,n,q2⟩=>
  bn (ho pins l σ H2 x y v u _ f r1 n q2) λd M ⟨z,B,j,r3,k,e,q⟩=>?_)) m
 subst e;cases r3;show o_ ?_;cases k with
 |false=>show ite_ff {.bl Α,B,j,1,q}
 |true=>show ite_tt (chain_last (bn (N pins M σ B _ j q) λR g ⟨W,F,I4,r4,G⟩=>D pins g σ F y W u R Q I4 n r4 G))
def pt_chain(ho:fQ X (ϻ op) r)(D:fQ X (ϻ op') r')(f:PE X a ta)(hb:PE X b tb)(l:PE X c tc)
  (L:autoParam (lastMarks [op,op'] [b,c]=Α) yU._auto_1):PT X (.Compare a [op,op'] [b,c] pos) (Hu (BY r r' ta tb tc)):=by
 intro pins s σ H Q I h;show isTrue_chain (bn (f pins s σ H _ I h) λv M ⟨x,H1,I1,r1,q1⟩=>test_link (bn (hb pins M σ H1 _ I1 q1) λu R ⟨y,H2,W,n,q2⟩=>
  bn (ho pins R σ H2 x y v u _ W r1 n q2) λd N ⟨z,B,j,r3,k,e,q⟩=>?_)) L
 subst e;cases r3;show o_ ?_;cases k with
 |false=>ext(⟨k',e',G⟩:q);cases e';show ite_ff {B,j,G}
 |true=>show ite_tt (test_last (bn (l pins N σ B _ j q) λS s4 ⟨i,F,I4,r4,m⟩=>bn (D pins s4 σ F y i u S _ I4 n r4 m) λd' s5 ⟨z2,H5,I5,g,k2,e2,q5⟩=>?_));subst e2;cases g;show o_ {H5,I5,q5}
def Gm(K:ζ)(x:V)(H:Hp)(k:Bool):Prop:=
 match x with
 |.non=>k=Α
 |.bl b=>k=b
 |.int i=>k=(i != 0)
 |.str y=>y.length<=Μ/\k=((y.length:Int) != 0)
 |.byt y=>y.size<=Μ/\k=((y.size:Int) != 0)
 |.ref p=>(∃xs,aw K H p xs/\k=!xs.isEmpty)\/(∃xs,aq K H p xs/\k=!xs.isEmpty)\/∃kvs,H p=Z (.dK kvs)/\k=!kvs.isEmpty
 |_=>False
def wZ(r:KV kvs vs):(!vs.isEmpty)=!kvs.isEmpty:=by cases r<;>rfl
def mq(r:aE xs its):(!its.toArray.isEmpty)=!xs.isEmpty:=by cases r<;>simp
def iO:(Μ:Nat)<2^63:=by rw[ι];decide
def II:Nq X (λx H Q=>∃k,Gm X.K x H k/\Q k H):=by
 intro pins s σ H x v Q I rx h;ext(⟨k,e,q⟩:h);let hl:=iO;let hs:Μ=16777216:=ι;cases x with
 |non=>cases rx;let e':k=Α:=e;subst e';show truthy_none {H,I,q}
 |bl b=>cases rx;let e':k=b:=e;subst e';show o_ {H,I,q}
 |int i=>ext(⟨t,rfl⟩:rx);let e':k=(i != 0):=e;subst e';show PySem.P.truthy_int {H,I,q}
 |str y=>ext(⟨t,rfl⟩:rx);obtain⟨hy,e'⟩:y.length<=Μ/\k=((y.length:Int) != 0):=e;subst e';show PySem.P.truthy_str () {H,I.tok _,q}
 |byt y=>ext(⟨t,rfl⟩:rx);obtain⟨hy,e'⟩:y.size<=Μ/\k=((y.size:Int) != 0):=e;subst e';show PySem.W.truthy_bytes () {H,I.tok _,q}
 |ref p=>
  cases rx;let e':(∃xs,aw X.K H p xs/\k=!xs.isEmpty)\/(∃xs,aq X.K H p xs/\k=!xs.isEmpty)\/∃kvs,H p=Z (.dK kvs)/\k=!kvs.isEmpty:=e;rcases e' with ⟨xs,hx,e'⟩|⟨xs,hx,e'⟩|⟨kvs,hx,e'⟩
  .subst e';ext(⟨its,r,pl,hz⟩:I.list hx);let hlen:=r.length;show wpAny_truthy_list pl.isList (by simp only[Κ];omega) {H,I.tok _,by rw[mq r];show q}
  .subst e';ext(⟨its,r,pl,hz⟩:I.tuple hx);let hlen:=r.length;show truthy_tuple pl (by simp only[Κ];omega) {H,I.tok _,by rw[mq r];show q}
  .subst e';obtain⟨hz,hS,vs,r,m⟩:kvs.length<=Μ/\(p==C8)=Α/\∃vs,KV kvs vs/\s.heap.DictOf (bg X.prog X.w) p vs:=I.hok p _ hx;let hlen:kvs.length=vs.length:=Paired.length r;show wpAny_truthy_dict hS m () {H,I.tok _,by rw[wZ r];show q}
 |_=>show(show False from e).elim
def pt_truth(q:PE X a ta)(F:∀j,isTrue a X.env j=(do let v <-j;standAt a.pos;holding [v] (truthy v))):
  PT X a (λσ H Q=>ta σ H λx H'=>∃k,Gm X.K x H' k/\Q k H'):=by
 intro pins s σ H Q I h;show isTrue_plain (bn (q pins s σ H _ I h) λv n ⟨x,H1,D,B,z⟩=>II pins n σ H1 x v Q D B z) (F _)
def ak:fQ X (K4 .Add) (λx y H Q=>∃i j,x=.str i/\y=.str j/\i.length+j.length<=Μ/\Q (.str (i++j)) H):=by ext pins s σ H x y v u Q I n z ⟨i,j,rfl,rfl,hz,q⟩;ext(⟨t,rfl⟩:n);ext(⟨t',rfl⟩:z);show add_str (λt' tk=>{.str (i++j),H,I.tok _,{01},q}) hz
def dg(r:aE [x] us):∃u,us=[u]/\aI x u:=by
 cases r with
 |cons n j=>cases j;show{01,n}
def pQ{x y:V}{us:List θ}(r:aE [x,y] us):∃u w',us=[u,w']/\aI x u/\aI y w':=by
 cases r with
 |cons r1 r2=>
  cases r2 with
  |cons r3 r4=>cases r4;show{001,r1,r3}
def Ay(z:X.calm=Y):cS X (.builtin "max") (λxs H Q=>∃i j,xs=[.int i,.int j]/\Q (.int (if j>i then j else i)) H):=by
 ext pins s σ H xs us Q I r ⟨i,j,rfl,q⟩;ext(⟨u,B,rfl,⟨t,rfl⟩,⟨t',rfl⟩⟩:pQ r);show max_two_ints (I.ok.hd z) λh' tk k=>{0,H,I.kept k,2,q};by_cases n:j>i
 .rw[Q5 n,Q5 n];show{01}
 .rw[Q6 n,Q6 n];show{01}
def zX(z:X.calm=Y):cS X (.builtin "min") (λxs H Q=>∃i j,xs=[.int i,.int j]/\Q (.int (if j<i then j else i)) H):=by
 ext pins s σ H xs us Q I r ⟨i,j,rfl,q⟩;ext(⟨u,B,rfl,⟨t,rfl⟩,⟨t',rfl⟩⟩:pQ r);show min_two_ints (I.ok.hd z) λh' tk k=>{0,H,I.kept k,2,q};by_cases n:j<i
 .rw[Q5 n,Q5 n];show{01}
 .rw[Q6 n,Q6 n];show{01}
def AD:cS X (.type "int") (λxs H Q=>(∃i,xs=[.int i]/\Q (.int i) H)\/∃k,xs=[.bl k]/\Q (.int (if k then 1 else 0)) H):=by
 intro pins s σ H xs us Q I r h;rcases h with ⟨i,rfl,q⟩|⟨k,rfl,q⟩
 .ext(⟨u,rfl,t,rfl⟩:dg r);show call_int_int {.int i,H,I,{01},q}
 .ext(⟨u,rfl,j⟩:dg r);cases j;show call_int_bool {.int (if k then 1 else 0),H,I.tok _,{01},q}
def dj:cS X (.type "str") (λxs H Q=>∃i,xs=[.int i]/\i.natAbs.log2<1920/\Q (.str (toString i)) H):=by ext pins s σ H xs us Q I r ⟨i,rfl,hz,q⟩;ext(⟨u,rfl,t,rfl⟩:dg r);show PySem.P.str_of_int hz {.str _,H,I.tok _,{01},q}
end
structure xw(h:ϖ)(x dx C:J)(mA:Str->Option θ):Prop where
 obj:h.get? x=Z (B4 C dx)
 ns:h.Ns1 dx mA
 ne:dx≠x
def AM{h:ϖ}{dx:J}{mA:Str->Option θ}(n:h.Ns1 dx mA):∃od,h.get? dx=Z od/\∀name,Pn name od=Z (mA name):=by
 ext(⟨o,es,ep,ho,hd,hk,_,hm⟩:n);show{o,ho,λname=>?_};let e:=hm name;unfold nsFind findBy at e;rw[<-Array.find?_toList]at e;unfold Pn;rw[hd];dsimp only
 set_option tactic.hygienic true in split
 .rename_i y q;rw[q]at e;show congrArg Z e
 .rename_i q;rw[q]at e;let a:es.toList.any (·.refKey)=Α:=by rw[OD];intro y hy;ext(⟨z,t,hkey⟩:hk y (Array.mem_toList_iff.mp hy));simp[QF.refKey,hkey]
  let a':¬ es.toList.any (·.refKey)=Y:=by rw[a];show ϋ
  rw[Q6 a'];show congrArg Z e
def xw.look(I:xw h x dx C mA):∃j,PySem.W.InstAt h x (B4 C dx) C (Z j)/\∀name,Pn name j=Z (mA name):=
 let ⟨j,ho,n⟩:=AM I.ns
 {j,{I.obj,11,ho},n}
section
variable{prog:Θ}{w:Χ}{A:Ϛ}{E:θ->ρ->Prop}{s:ρ}{K:ζ}{x dx C f:J}{mA:Str->Option θ}{name:Str}{v:θ}
def EQ(X:K.In s.heap)(I:xw s.heap x dx C mA)(D:L6 K C name=Y)(z:OE K C=Y)
  (B:Φ K (.ref C) name=Z χ) (n:mA name=Z v) (j:PySem.W.handedIn v=Y) (h:Q v {s with toks:=s.toks+1}):
  Ο (ϊ prog w) A (getAttr (.ref x) name expr) Q E s:=by
 ext(⟨F,a,q⟩:I.look);show PySem.W.get_value X a (O_ D).1 (PySem.W.findObj_own z B U (by rw[q,n])) j h
def Cv(X:K.In s.heap)(I:xw s.heap x dx C mA)(j:L6 K C name=Y)
  (q:Φ K (.ref C) name=Z (Z (.ref f))) (n:L7 K (.ref f)=Y) (z:mA name=χ) (h:Q (.ref f,[.ref x]) s):
  Ο (ϊ prog w) A (getMethod (.ref x) name pl) Q E s:=by
 ext(⟨D,a,B⟩:I.look);show PySem.W.method_fn X a (O_ j).1 (O_ j).2 q (beq_iff_eq.mp n) (by change(Pn name D).map (·.isSome)=Z Α;rw[B,z];rfl) h
def FY{ns:List Str}{Q:Unit->ρ->Prop}(X:K.In s.heap)(I:xw s.heap x dx C mA)
  (hs:Φ K (.ref C) "__setattr__"=Z (Z (.builtin "object.__setattr__"))) (hp:P0 K C=Y) (ht:Qr K C name=Z χ) (hh:OE K C=Y)
  (hw:Qn mA ns) (hsz:ns.length<=Μ)
  (h:∀h',xw h' x dx C (λy=>if y=name then Z v else mA y)->B_ dx s.heap h'->Q Unit.unit {s with heap:=h',toks:=s.toks+2}):
  Ο (ϊ prog w) A (setAttr (.ref x) name v) Q E s:=by
 ext(⟨od,c,hl⟩:I.look);show PySem.W.set_plain X c hs (PySem.W.osa_open (s:={s with toks:=s.toks+1}) (r:=χ) X c hp ht λb=>?_);ext(⟨cd,hc,hd'⟩:PySem.W.any_some hh);let hx:s.heap.get? x=Z {.ref C,Z dx,.plain,#[]}:=I.obj;show η (ω (η (η (Po hx (η (PySem.W.Looks.here (s:={s with toks:=s.toks+1}) (PySem.W.looks_clsIn X hc) ?_))))));rw[hd'];show ω (a:=Z dx) (η (ω (η ?_)));show wpAny_nsSet1 (s:={s with toks:=s.toks+1}) I.ns λh' hn2 hs2=>?_;ext(⟨oD,esD,epD,hoD,hdD,hcD⟩:hn2.count (Qn.cons name v hw));show η (wpAny_lookBehind hoD (by rw[hdD];show pastItsLine_dict (ϩ hcD (by rw[Λ];omega))) ?_);show ω (h _ {(hs2.2 _ (ϔ I.ne)).trans I.obj,hn2,I.ne} hs2)
def DV(X:K.In s.heap)(q:Qs K C=Y)
  (hi:Φ K (.ref C) "__init__"=Z (Z (.ref f))) (n:PySem.W.typeIn K (.ref f)=Z (.type "function"))
  (h:F7 (ϊ prog w) (A.under (.builtin "type.__call__" {.ref C::vs,kw})) (.call (.ref f) {.ref (s.heap.objs.size+1)::vs,kw}) (PySem.W.InitBack (s.heap.objs.size+1) R)
   {s with heap:=(s.heap.push t_).push (B4 C s.heap.objs.size)}):
  F7 (ϊ prog w) A (.call (.ref C) {vs,kw}) R s:=by
 ext(⟨z,g,d,t,B⟩:s);show PySem.W.make_core (PySem.W.makes_of X q) (PySem.W.looks_findIn X hi) (λj=>PySem.W.bind_fn X j n) (.inl U) h
end
def fO(f:Str)(v:V):List (Str×V)->List (Str×V)
 |[]=>[(f,v)]
 |(g,x)::r=>if g=f then (g,v)::r else (g,x)::fO f v r
def kt(f g:Str)(v:V):∀fs:List (Str×V),(fO f v fs).lookup g=if g=f then Z v else fs.lookup g
 |[]=>by
  change j6 g [(f,v)]=_;by_cases h:g=f
  .let hb:(g==f)=Y:=beq_iff_eq.mpr h;simp only[j6,hb,Q5 h]
  .let hb:(g==f)=Α:=beq_eq_false_iff_ne.mpr h;simp only[j6,hb,Q6 h]
 |(k,x)::r=>by
  let ih:=kt f g v r;rw[show fO f v ((k,x)::r)=(if k=f then (k,v)::r else (k,x)::fO f v r)from U];by_cases hk:k=f
  .rw[Q5 hk];by_cases h:g=k
   .let hb:(g==k)=Y:=beq_iff_eq.mpr h;simp only[j6,hb,Q5 (h.trans hk)]
   .let hb:(g==k)=Α:=beq_eq_false_iff_ne.mpr h;simp only[j6,hb,Q6 (λe:g=f=>h (e.trans hk.symm))]
  .rw[Q6 hk];by_cases h:g=k
   .let hb:(g==k)=Y:=beq_iff_eq.mpr h;simp only[j6,hb,Q6 (λe:g=f=>hk (h.symm.trans e))]
   .let hb:(g==k)=Α:=beq_eq_false_iff_ne.mpr h;simp only[j6,hb];show ih
def jW(f:Str)(v:V):∀fs:List (Str×V),f∈(fO f v fs).map (·.1)/\∀g,g∈fs.map (·.1)->g∈(fO f v fs).map (·.1)
 |[]=>{by simp[fO],λg h=>by simp at h}
 |(k,x)::r=>by
  ext(⟨i1,i2⟩:jW f v r);rw[show fO f v ((k,x)::r)=(if k=f then (k,v)::r else (k,x)::fO f v r)from U];by_cases hk:k=f
  .rw[Q5 hk];subst hk;show{3,λg h=>↑h}
  .rw[Q6 hk];show{2,λg h=>?_}
   .rw[Υ];show ς _ i1
   .rw[Υ]at h⊢;rcases ν.mp h with e|e
    .show ν.mpr (.inl e)
    .show ς _ (i2 g e)
def kY(f:Str)(v:V):∀fs:List (Str×V),(fO f v fs).length<=fs.length+1
 |[]=>by simp[fO]
 |(k,x)::r=>by
  let ih:=kY f v r;rw[show fO f v ((k,x)::r)=(if k=f then (k,v)::r else (k,x)::fO f v r)from U];by_cases hk:k=f
  .rw[Q5 hk,Λ,Λ];omega
  .rw[Q6 hk,Λ,Λ];omega
def jN.some_of(r:jN (Z v) o):∃u,o=Z u/\aI v u:=by
 cases o with
 |none=>show(r).elim
 |some u=>show{u,1,r}
def jN.none_of(r:jN χ o):o=χ:=by
 cases o with
 |none=>rfl
 |some u=>show(r).elim
def qJ(r:aI v u):PySem.W.handedIn u=Y:=by
 cases v with
 |non=>cases(r);rfl
 |bl b=>cases(r);rfl
 |int i=>ext(⟨t,e⟩:(r));cases e;rfl
 |str x=>ext(⟨t,e⟩:(r));cases e;rfl
 |byt b=>ext(⟨t,e⟩:(r));cases e;rfl
 |flt b=>ext(⟨t,e⟩:(r));cases e;rfl
 |ref a=>cases(r);rfl
 |ty n=>cases(r);rfl
section
variable{P:Θ}{w:Χ}{H H':Hp}{h h':ϖ}{a C dx:J}{fs fs':List (Str×V)}
def mf(j:gC P w H h)(e:H a=Z (.ins C dx fs)):∃mA,xw h a dx C mA/\(∀f,jN (fs.lookup f) (mA f))/\Qn mA (fs.map (·.1))/\fs.length<=1000/\H dx=Z (.own a):=by ext(⟨d,z,B,ob,mA,n,r,q⟩:(j a _ e));show{mA,{ob,n,B},r,q,z,d}
end
structure uG(K:ζ)(C:J):Prop where
 pg:L6 K C p0=Y
 hd:OE K C=Y
 po:P0 K C=Y
 sa:Φ K (.ref C) "__setattr__"=Z (Z (.builtin "object.__setattr__"))
def uG.get{K:ζ}{C:J}(c:uG K C)(f:Str):L6 K C f=Y:=c.pg
def dF(K:ζ)(C:J)(f:Str):Prop:=Φ K (.ref C) f=Z χ
def dF.taker{K:ζ}{C:J}{f:Str}(n:dF K C f):Qr K C f=Z χ:=by unfold Qr;rw[show Φ K (.ref C) f=Z χ from n];rfl
structure vJ(K:ζ)(C:J)(m:Str)(f:J):Prop where
 at_:Φ K (.ref C) m=Z (Z (.ref f))
 fn:L7 K (.ref f)=Y
 kp:ϥ K (.ref f)=Y
section
variable{X:Cx}{pins:List (J×Obj)}{σ:St}{H:Hp}{s:ρ}{a C dx:J}{fs:List (Str×V)}{f:Str}{v:V}{A:Ϛ}{E:θ->ρ->Prop}
def oz(I:au X pins σ H s)(e:H a=Z (.ins C dx fs))(c:uG X.K C)(n:dF X.K C f)(l:fs.lookup f=Z v)
  (h:∀u s',au X pins σ H s'->aI v u->Q u s'):Ο (ϊ X.prog X.w) A (getAttr (.ref a) f b) Q E s:=by
 ext(⟨mA,d,r,_,_,_⟩:mf I.hok e);obtain⟨u,q,j⟩:=jN.some_of (by rw[<-l];show r f);show EQ I.kIn d (c.get f) c.hd n q (qJ j) (h u _ (I.tok _) j)
def mI(I:au X pins σ H s)(e:H a=Z (.ins C dx fs))(c:uG X.K C)(k:vJ X.K C m g)(l:fs.lookup m=χ)
  (h:Q (.ref g,[.ref a]) s):Ο (ϊ X.prog X.w) A (getMethod (.ref a) m pl) Q E s:=by
 ext(⟨mA,b,r,_,_,_⟩:mf I.hok e);let j:=jN.none_of (by rw[<-l];show r m);show Cv I.kIn b (c.get m) k.at_ k.fn j h
def nV{y:V}{u:θ}{Q:Unit->ρ->Prop}(I:au X pins σ H s)(e:H a=Z (.ins C dx fs))(c:uG X.K C)(n:dF X.K C f)(hl:fs.length<1000)(ry:aI y u)
  (h:∀s',au X pins σ (upd H a (.ins C dx (fO f y fs))) s'->Q Unit.unit s'):Ο (ϊ X.prog X.w) A (setAttr (.ref a) f u) Q E s:=by
 ext(⟨mA,d,r,wi,_,ho⟩:mf I.hok e);let hz:(fs.map (·.1)).length<=Μ:=by rw[ε,ι];omega
 show FY I.kIn d c.sa c.po n.taker c.hd wi hz λh' O' sb=>h _ ?_;let hd:∃o,h'.get? dx=Z o:=let ⟨o,_,_,e',_⟩:=O'.ns;{o,e'}
 show I.write (x:=a) (e:=dx) (by rw[e];show B6) (.inr ho) (λb q hb z=>(sb.2 b hb).trans z) hd ?_;show{by rw[ai d.ne];show ho,2,d.ne,O'.obj,0,O'.ns,λg=>?_,λg hg=>?_}
 .let:=kY f y fs;omega
 .change jN ((fO f y fs).lookup g) (if g=f then Z u else mA g);rw[kt];by_cases q:g=f
  .rw[Q5 q,Q5 q];show ry
  .rw[Q6 q,Q6 q];show r g
 .by_cases q:g=f
  .rw[q];show(jW f y fs).1
  .show(jW f y fs).2 g (wi g λz=>hg ?_);change(if g=f then Z u else mA g)=χ;rw[Q6 q];show z
def au.made(I:au X pins σ H s):au X pins σ (upd (upd H s.heap.objs.size (.own (s.heap.objs.size+1))) (s.heap.objs.size+1) (.ins C s.heap.objs.size []))
  {s with heap:=(s.heap.push t_).push (B4 C s.heap.objs.size)}:=by
 let e1:(s.heap.push t_).get? s.heap.objs.size=Z t_:=Ξ s.heap U;let e2:((s.heap.push t_).push (B4 C s.heap.objs.size)).get? (s.heap.objs.size+1)=Z (B4 C s.heap.objs.size):=by let:=Ξ (s.heap.push t_) (o:=B4 C s.heap.objs.size) U;rwa[Ϲ]at this
 let e3:(s.heap.push t_).Ns s.heap.objs.size (λ_=>χ):={t_,#[],0,e1,1,(λe he=>absurd he ()),λ_=>U};let I1:=I.laid (a:=s.heap.objs.size) (o:=.own (s.heap.objs.size+1)) (h':=s.heap.push t_) (t':=s.toks) (λb u q=>π _ q) (Β _) {0,e1};show I1.laid (a:=s.heap.objs.size+1) (o:=.ins C s.heap.objs.size []) (t':=s.toks) (λb u q=>π _ q) (Nat.le_of_eq (Ϲ _ _)) ?_;let ne:s.heap.objs.size≠s.heap.objs.size+1:=Ϙ (G4 _);show{by rw[ai ne,aa],Τ _,ne,e2,λ_=>χ,(ϖ.Ns1.of_empty e3).at λo q=>π _ q,λ_=>B6,λy hy=>absurd U hy}
def zn(n:M6 e f env (eval e env)=eval e env)
  (h:Ο (ϊ prog w) A (eval e env) (λo j=>Ο (ϊ prog w) A (getAttr o f Y) Q E j) E s):Ο (ϊ prog w) A (eval (.Attribute e f pos) env) Q E s:=
 Attribute_any_ h (by rw[arm_eval_Attribute,n])
end
inductive IX (K:ζ) (f:Str) (Q:VK) (x:V) (H1:Hp):Prop|mk a C dx fs v (_:x=.ref a) (_:H1 a=Z (.ins C dx fs)) (_:uG K C) (_:dF K C f) (_:fs.lookup f=Z v) (_:Q v H1)
def Mw(K:ζ)(ta:TE)(f:Str):TE:=λσ H Q=>ta σ H (IX K f Q)
inductive JF (K:ζ) (f:Str) (D:cV) (σ:St) (y:V) (x:V) (H2:Hp):Prop|mk a C dx fs (_:x=.ref a) (_:H2 a=Z (.ins C dx fs)) (_:uG K C) (_:dF K C f) (_:fs.length<1000) (_:D.nx σ (upd H2 a (.ins C dx (fO f y fs))))
def MJ(K:ζ)(ta tv:TE)(f:Str):TS:=λD σ H=>tv σ H λy H1=>ta σ H1 (JF K f D σ y)
def KG(X:Cx)(op:QM)(rd:V->V->Hp->VK->Prop):Prop:=
 ∀(pins:List (J×Obj))(s:ρ)(σ:St)(H:Hp)(x y:V)(u v:θ)(Q:VK),au X pins σ H s->aI x u->aI y v->rd x y H Q->Ο (ϊ X.prog X.w) X.A (inplaceOp op u v) (EP X pins σ Q) X.xe s
inductive AC (K:ζ) (ta tv:TE) (rd:V->V->Hp->VK->Prop) (f:Str) (D:cV) (σ:St) (x:V) (H1:Hp):Prop|mk a C dx fs v (_:x=.ref a) (_:H1 a=Z (.ins C dx fs)) (_:uG K C) (_:dF K C f) (_:fs.lookup f=Z v) (_:tv σ H1 λy H2=>rd v y H2 λz H3=>∃dx' fs',H3 a=Z (.ins C dx' fs')/\fs'.length<1000/\D.nx σ (upd H3 a (.ins C dx' (fO f z fs'))))
def Gc(K:ζ)(ta tv:TE)(rd:V->V->Hp->VK->Prop)(f:Str):TS:=λD σ H=>ta σ H (AC K ta tv rd f D σ)
section
variable{X:Cx}{o e value:ϲ}{f:Str}{pos pos' tpos:Pos}{ta tv:TE}
def pe_fld(B:PE X e ta)(F:M6 e f X.env (eval e X.env)=eval e X.env):PE X (.Attribute e f pos) (Mw X.K ta f):=by intro pins s σ H Q I h;show zn F (bn (B pins s σ H _ I h) λu M ⟨x,H1,G,D,a,C,dx,fs,v,ex,b,c,n,l,q⟩=>?_);subst ex;obtain rfl:u=Ψ a:=D;show oz G b c n l λL N j z=>{v,H1,j,z,q}
def ps_fld(B:PE X o ta)(e:PE X value tv)(L:swapsWith value (Z (.Attribute o f pos')) pos.line X.env=pure Α):PS X (.Assign [.Attribute o f pos'] value pos) (MJ X.K ta tv f):=by intro pins s σ H D I h;show OP (bn (e pins s σ H _ I h) λu z ⟨y,H1,d,N,q⟩=>bn (B pins z σ H1 _ d q) λG W ⟨x,H2,F,M,a,C,dx,fs,ex,R,c,n,l,S⟩=>?_) L;subst ex;obtain rfl:G=Ψ a:=M;show nV F R c n l N λb j=>{σ,0,j,S}
def ps_fldaug{op:QM}{rd:V->V->Hp->VK->Prop}(ha:PE X o ta)(hv:PE X value tv)(hop:KG X op rd):PS X (.AugAssign (.Attribute o f tpos) op value pos) (Gc X.K ta tv rd f):=by intro pins s σ H D I h;show wpAny_AugAssign_AttributeAny (bn (ha pins s σ H _ I h) ?_);ext ov s1 ⟨x,H1,I1,rx,a,C,dx,fs,v,rfl,ea,c,n,l,q⟩;obtain rfl:ov=Ψ a:=rx;show oz I1 ea c n l λu s2 I2 ru=>bn (hv pins s2 σ H1 _ I2 q) λw3 s3 ⟨y,H2,I3,ry,q3⟩=>bn (hop pins s3 σ H2 v y u w3 _ I3 ru ry q3) λw4 s4 ⟨z,H3,I4,rz,dx',fs',ea',l',q4⟩=>?_;show nV I4 ea' c n l' rz λs5 I5=>{σ,0,I5,q4}
inductive MW (x:V) (y:V) (H:Hp) (Q:VK):Prop|mk i j (_:x=.int i) (_:y=.int j) (_:Q (.int (i+j)) H)
def BN:KG X .Add MW:=by ext pins s σ H x y u v Q I rx ry ⟨i,j,rfl,rfl,q⟩;obtain⟨t,rfl⟩:=(show ∃t,u=θ.int i t from rx);obtain⟨t',rfl⟩:=(show ∃t',v=θ.int j t' from ry);show PyProof.Rows.iadd_int {.int (i+j),H,I.tok _,{01},q}
end
section
variable{X:Cx}{pins:List (J×Obj)}{σ:St}{H:Hp}{s:ρ}{A:Ϛ}{E:θ->ρ->Prop}{Q:θ->ρ->Prop}{c:θ}{b:Bool}
inductive iu (K:ζ) (H:Hp):V->θ->Prop where
 |non:iu K H .non (.type "NoneType")
 |bl (x:Bool):iu K H (.bl x) (.type "bool")
 |int (i:Int):iu K H (.int i) (.type "int")
 |str (x:Str):iu K H (.str x) (.type "str")
 |flt (x:UInt64):iu K H (.flt x) (.type "float")
 |lst {a:J} {xs:List V} (e:H a=Z (.lst xs)):iu K H (.ref a) (.type "list")
 |frz {a:J} {o:Obj} {xs:List V} (e:H a=Z (.frz o (.lst xs))):iu K H (.ref a) (.type "list")
 |tup {a:J} {xs:List V} (e:H a=Z (.tup xs)):iu K H (.ref a) (.type "tuple")
 |dK {a:J} {kvs:List (cR×V)} (e:H a=Z (.dK kvs)):iu K H (.ref a) (.type "dict")
 |dT {a:J} {kvs:List (List cR×V)} (e:H a=Z (.dT kvs)):iu K H (.ref a) (.type "dict")
 |ins {a C dx:J} {fs:List (Str×V)} (e:H a=Z (.ins C dx fs)) (cl:uG K C) (ha:Φ K (.ref C) "__class__"=Z (Z (.builtin "object.__class__")))
   (hn:PySem.W.specialIn K (.builtin "object.__class__") "__get__"=Z (Z (.builtin "getset_descriptor.__get__"))) (htk:PySem.W.takesIn K (.builtin "object.__class__")=Z Y)
   (hm:PySem.W.mroIn K C (.type "object")=Z Y):iu K H (.ref a) (.ref C)
def Aq(I:au X pins σ H s)(rx:aI x u)(ty:iu X.K H x t)(e:C9 X.K t c=Z b)(h:∀tk,Q (.bool b) {s with toks:=tk}):
  Ο (ϊ X.prog X.w) A (call (.builtin "isinstance") [u,c]) Q E s:=by
 cases ty with
 |non=>cases(rx);show p_ PySem.W.kitx_none I.kIn B6 e (λz=>nomatch z) h
 |bl y=>cases(rx);show p_ PySem.W.kitx_bool I.kIn B6 e (λz=>nomatch z) h
 |int i=>ext(⟨t,q⟩:(rx));cases q;show p_ PySem.W.kitx_int I.kIn B6 e (λz=>nomatch z) h
 |str y=>ext(⟨t,q⟩:(rx));cases q;show p_ PySem.W.kitx_str I.kIn B6 e (λz=>nomatch z) h
 |flt y=>ext(⟨t,q⟩:(rx));cases q;show p_ PySem.W.kitx_float I.kIn B6 e (λz=>nomatch z) h
 | @lst a xs ea=>cases(rx);ext(⟨_,_,n,_,h1⟩:(I.hok a _ ea));show p_ PySem.W.kitx_list I.kIn {0,h1,1} e (λz=>nomatch z) h
 | @frz a ob xs ea=>cases(rx);ext(⟨_,_,_,n,_,h1⟩:(I.hok a _ ea));show p_ PySem.W.kitx_list I.kIn {0,h1,1} e (λz=>nomatch z) h
 | @tup a xs ea=>cases(rx);ext(⟨_,_,_,p⟩:(I.hok a _ ea));ext(⟨⟨o,h1,h2,_⟩,_⟩:p);show p_ PySem.W.kitx_tuple I.kIn {o,h1,h2} e (λz=>nomatch z) h
 | @dK a kvs ea=>cases(rx);ext(⟨_,_,vs,_,⟨o,es,ep,h1,h2,_⟩⟩:(I.hok a _ ea));show p_ PySem.W.kitx_dict I.kIn {o,h1,h2.1} e (λz=>nomatch z) h
 | @dT a kvs ea=>cases(rx);ext(⟨_,_,xs,_,o,es,ep,h1,h2,_⟩:(I.hok a _ ea));show p_ PySem.W.kitx_dict I.kIn {o,h1,h2.1} e (λz=>nomatch z) h
 | @ins a C dx fs ea cl ha hn htk hm=>cases(rx);ext(⟨mA,d,_⟩:mf I.hok ea);ext(⟨od,f,_⟩:d.look);show p_ (PySem.W.kitx_own (cl.get _) cl.hd ha hn htk hm) I.kIn f e (λz=>nomatch z) h
end
structure bU(k:Nat)(A:Ϛ):Prop where
 hd:A.handled=χ
 dp:A.depth+3*k+5<recursionLimit
 un:A.units+16*k+200<B8
def bU.mono(r:bU k A)(h:j<=k):bU j A:={r.hd,by let:=r.dp;omega,by let:=r.un;omega}
def bU.deeper(r:bU (k+1) A)(env:Env):bU k (A.deeper env):=
 {r.hd,by let:=r.dp;change A.depth+1+3*k+5<_;omega,by let:=r.un;change A.units+3+16*k+200<_;omega}
def xy{A:Ϛ}{C:J}{us:List θ}{j:List (Str×θ)}:(A.under (.builtin "type.__call__" {.ref C::us,j})).depth=A.depth+1:=by first|rfl|simp[Ϛ.under,Code.weight,Code.isCreation,Code.isGuard,Code.isCaller,Code.frames,Code.isFrame,guardIds]
def xn{A:Ϛ}{C:J}{us:List θ}{j:List (Str×θ)}:(A.under (.builtin "type.__call__" {.ref C::us,j})).units=A.units+1:=by first|rfl|simp[Ϛ.under,Code.cUnits,Code.frames,Code.isFrame]
def bU.make(r:bU (k+1) A)(C:J)(us:List θ)(j:List (Str×θ)):bU k (A.under (.builtin "type.__call__" {.ref C::us,j})):=
 {r.hd,by let:=r.dp;rw[xy];omega,by let:=r.un;rw[xn];omega}
def bU.depth{k:Nat}{A:Ϛ}(r:bU k A):A.depth<recursionLimit:=by let:=r.dp;omega
def bU.units{k:Nat}{A:Ϛ}(r:bU k A):A.units+64<B8:=by let:=r.un;omega
def pc:TA:=λ_ H Q=>Q [] H
def mR(ta:TE)(tr:TA):TA:=λσ H Q=>ta σ H λx H1=>tr σ H1 λxs H2=>Q (x::xs) H2
section
variable{X:Cx}{e:ϲ}{es:List ϲ}{te:TE}{t:TA}{pos:Pos}
def pa_nil:PA X [] pc:=λ_ _ _ _ H Q I h=>P2 {[],H,I,.nil,h}
def pa_cons(q:PE X e te)(j:PA X es t)(D:autoParam (Ϗ (e::es) X.env=(Α,eval e X.env)::Ϗ es X.env) yR._auto_1):PA X (e::es) (mR te t):=by intro pos pins s σ H Q I h;rw[D];show Pp (bn (q pins s σ H _ I h) λu n ⟨x,H1,a,G,F⟩=>bn (j pos pins n σ H1 _ a F) λus M ⟨xs,H2,z,B,L⟩=>{x::xs,H2,z,.cons G B,L})
def MU(t:TA):TE:=λσ H Q=>t σ H λxs H1=>xs.length<=Μ/\∀p,H1 p=χ->Q (.ref p) (upd H1 p (.tup xs))
def Mz(t:TA):TE:=λσ H Q=>t σ H λxs H1=>xs.length<=Μ/\∀p,H1 p=χ->Q (.ref p) (upd H1 p (.lst xs))
def pe_tup{x1}(h:PA X es t):PE X (.Tuple es x1 pos) (MU t):=by intro pins s σ H Q I B;show wpAny_Tuple_spliced (bn (h pos pins s σ H _ I B) λus j ⟨xs,H1,n,r,z,q⟩=>{by rw[<-r.length];show z,2});show{.ref j.heap.objs.size,upd H1 j.heap.objs.size (.tup xs),n.laid (t':=j.toks) (λb u e=>π _ e) (Β _) ?_,1,q _ (n.hok.fresh (Β _))};show{z,us,r,{0,Ξ _ U,101},Gs.new _ U}
def pe_lst(h:PA X es t):PE X (.List es pos) (Mz t):=by intro pins s σ H Q I B;show wpAny_List_spliced (bn (h pos pins s σ H _ I B) λus j ⟨xs,H1,n,r,z,q⟩=>{by rw[<-r.length];show z,2});show{.ref j.heap.objs.size,upd H1 j.heap.objs.size (.lst xs),n.laid (t':=j.toks) (λb u e=>π _ e) (Β _) ?_,1,q _ (n.hok.fresh (Β _))};show{z,us,(0),r,Ξ _ U}
end
abbrev Sp:=List V->Hp->VK->XK->Prop
abbrev vK:=List Env->Hp->ρ->XK->θ->ρ->Prop
structure wq(P:Θ)(w:Χ)(K:ζ)(mg:Str->Option θ)(base:ϖ)(A:Ϛ)(outer:List Env)(s:ρ)(H:Hp):Prop where
 frames:A.frames=Z outer
 mod:Mod K mg base
 bs:∀b o,base.get? b=Z o->s.heap.get? b=Z o/\H b=χ
 bsz:base.objs.size<=s.heap.objs.size
 funs:s.heap.FunFrames base outer
 frf:∀b∈gx outer,H b=χ
 hok:gC P w H s.heap
 bare:Pc s.gens
def CE(j:List Env)(P:Θ)(w:Χ)(H:Hp)(s:ρ)(Q:VK)(u:θ)(s':ρ):Prop:=
 ∃v H',s'.os=s.os/\Pc s'.gens/\Un (gx j) [] H H' s.heap s'.heap/\gC P w H' s'.heap/\aI v u/\Q v H'
def CR(CX:vK)(j:List Env)(P:Θ)(w:Χ)(H:Hp)(s:ρ)(Q:VK)(E:XK)(r:QJ)(s':ρ):Prop:=
 match r with
 |.ok (.ret u)=>CE j P w H s Q u s'
 |.ok _=>False
 |.error e=>CX j H s E e s'
structure ap(P:Θ)(w:Χ)(K:ζ)(mg:Str->Option θ)(base:ϖ)(CX:vK)(k:Nat)(f:J)(fd:ό)(ps:List Str)(sp:Sp):Prop where
 len:∀vs H Q E,sp vs H Q E->vs.length=ps.length
 run:∀(A:Ϛ)(outer:List Env)(s:ρ)(H:Hp)(args:Args)(us:List θ)(vs:List V)(Q:VK)(E:XK),bU k A->wq P w K mg base A outer s H->QG s fd args (ps.zip us)->aE vs us->sp vs H Q E ->
  F7 (ϊ P w) A (.call (.ref f) args) (CR CX outer P w H s Q E) s
def ap.mono{P:Θ}{w:Χ}{K:ζ}{mg:Str->Option θ}{base:ϖ}{CX:vK}{j k:Nat}{f:J}{fd:ό}{ps:List Str}{sp:Sp}(F:ap P w K mg base CX j f fd ps sp)(h:j<=k):
  ap P w K mg base CX k f fd ps sp:={F.len,λA n s H q us vs Q E z=>F.run A n s H q us vs Q E (z.mono h)}
def ap.imp{P:Θ}{w:Χ}{K:ζ}{mg:Str->Option θ}{base:ϖ}{CX:vK}{k:Nat}{f:J}{fd:ό}{ps:List Str}{sp j:Sp}(F:ap P w K mg base CX k f fd ps sp)
  (h:∀vs H Q E,j vs H Q E->sp vs H Q E):ap P w K mg base CX k f fd ps j:=
 {λvs H Q E q=>F.len vs H Q E (h _ _ _ _ q),λA n s H z us vs Q E B a I D G=>F.run A n s H z us vs Q E B a I D (h _ _ _ _ G)}
def wq.make{P:Θ}{w:Χ}{K:ζ}{mg:Str->Option θ}{base:ϖ}{A:Ϛ}{j:List Env}{s:ρ}{H:Hp}(e:wq P w K mg base A j s H)(C:J)(us:List θ)(n:List (Str×θ)):
  wq P w K mg base (A.under (.builtin "type.__call__" {.ref C::us,n})) j s H:={by first|show e.frames|(simpa[Ϛ.under,Code.envs,Code.isFrame,pushEnvs]using e.frames),e.mod,e.bs,e.bsz,e.funs,e.frf,e.hok,e.bare}
section
variable{X:Cx}{pins:List (J×Obj)}{σ:St}{H:Hp}{s s':ρ}
def au.env0(I:au X pins σ H s):wq X.prog X.w X.K X.mg X.base X.A X.stack s H:=
 {I.ok.frames,I.ok.mod,I.bs,ϩ I.ok.bsz I.sz,I.stack,I.stkFree,I.hok,I.bare}
def au.after(I:au X pins σ H s)(h:CE X.stack X.prog X.w H s Q u s'):EP X pins σ Q u s':=by ext(⟨v,H',F,j,G,n,r,q⟩:h);ext(⟨D,g,d,t,B⟩:s');obtain rfl:B=s.os:=F;show{v,H',I.call (h':=D) (g':=g) (d':=d) (t':=t) G n j (λb z=>absurd z ()),r,q}
end
def jk(sp:Sp)(dvs:List V)(E:XK)(t:TA):TE:=λσ H Q=>t σ H λvs H1=>sp (vs++dvs) H1 Q E
inductive EE (C:J) (m:Str) (sp:Sp) (dvs:List V) (E:XK) (t:TA) (σ:St) (Q:VK) (x:V) (H1:Hp):Prop|mk a dx fs (_:x=.ref a) (_:H1 a=Z (.ins C dx fs)) (_:fs.lookup m=χ) (_:t σ H1 λvs H2=>sp (x::(vs++dvs)) H2 Q E)
def Hs(C:J)(m:Str)(sp:Sp)(dvs:List V)(E:XK)(ta:TE)(t:TA):TE:=λσ H Q=>ta σ H (EE C m sp dvs E t σ Q)
def Lk(C:J)(sp:Sp)(dvs:List V)(E:XK)(t:TA):TE:=λσ H Q=>t σ H λvs H1=>∀x dx,H1 x=χ->H1 dx=χ->dx≠x ->
 sp (.ref x::(vs++dvs)) (upd (upd H1 dx (.own x)) x (.ins C dx [])) (λv H2=>v=.non/\Q (.ref x) H2) E
def bo(K:ζ)(fd:ό)(ps:List Str)(ds:List θ):Prop:=
 ∀(s:ρ)(us:List θ),K.In s.heap->(us++ds).length=ps.length->QG s fd {us,[]} (ps.zip (us++ds))
def bo.all{K:ζ}{fd:ό}{ps:List Str}(h:∀us:List θ,us.length=ps.length->bindArgs fd {us,[]}=pure (ps.zip us)):bo K fd ps []:=λs us _ j=>by rw[ϣ]at j⊢;show .of_eq (h us j)
def dh(CX:vK)(X:Cx)(E:XK):Prop:=∀(pins:List (J×Obj))(σ:St)(H:Hp)(s:ρ)(e:θ)(s':ρ),au X pins σ H s->CX X.stack H s E e s'->X.xe e s'
section
variable{X:Cx}{CX:vK}{k:Nat}{f C:J}{fd:ό}{ps:List Str}{sp:Sp}{dvs:List V}{ds:List θ}{E:XK}{x m:Str}{p pos apos:Pos}{e o:ϲ}{es:List ϲ}{ta:TE}{t:TA}
def oP(F:ap X.prog X.w X.K X.mg X.base CX k f fd ps sp)(hr:bU k X.A)(hb:bo X.K fd ps ds)(hd:aE dvs ds)(hx:dh CX X E)
  (I:au X pins σ H s) (r:aE vs us) (h:sp (vs++dvs) H Q E):Ο (ϊ X.prog X.w) X.A (call (.ref f) us) (EP X pins σ Q) X.xe s:=by
 let r2:=r.append hd;let hl:(us++ds).length=ps.length:=by rw[<-r2.length];show F.len _ _ _ _ h
 show N7 (C1 (F.run X.A X.stack s H {us,[]} (us++ds) (vs++dvs) Q E hr I.env0 (hb s us I.kIn hl) r2 h) λr s' hq=>?_);cases r with
 |error e=>show hx pins σ H s e s' I hq
 |ok fl=>
  cases fl with
  |ret u=>show I.after hq
  |next=>show j9 hq
  |brk=>show j9 hq
  |cont=>show j9 hq
def rg(F:ap X.prog X.w X.K X.mg X.base CX k f fd ps sp)(B:bU k X.A)(b:Gl X x)(D:X.mg x=Z (.ref f))(M:ϥ X.K (.ref f)=Y)(R:bo X.K fd ps ds)(N:aE dvs ds)(L:dh CX X E)
  (G:PA X (e::es) t) (z:autoParam ((x==("__debug__" : Str))=Α) yD._auto_1) (a:autoParam (Ϗ (e::es) X.env=(Α,eval e X.env)::Ϗ es X.env) yR._auto_1) (n:autoParam ((A5 pos (Ϗ es X.env)).any (·.1)=Α) yR._auto_1):
  PE X (.Call (.Name x p) (e::es) [] pos) (jk sp dvs E t):=by
 intro pins s σ H Q I h;show m8 (gm I b D ?_ z);show C_ I.ok.mod.kin M (bn (G pos pins s σ H _ I h) λus S ⟨vs,H1,j,r,q⟩=>{j.kIn,2}) a n;show oP F B R N L j r q
def Bt(F:ap X.prog X.w X.K X.mg X.base CX k f fd ps sp)(hr:bU k X.A)(hg:Gl X x)(hm:X.mg x=Z (.ref f))(hk:ϥ X.K (.ref f)=Y)(hb:bo X.K fd ps ds)(hd:aE dvs ds)(hx:dh CX X E)
  (hdb:autoParam ((x==("__debug__" : Str))=Α) yD._auto_1):PE X (.Call (.Name x p) [] [] pos) (jk sp dvs E pc):=by
 intro pins s σ H Q I h;show m8 (gm I hg hm ?_ hdb);show PySem.W.callWith_K0 I.kIn hk (oP (us:=[]) F hr hb hd hx I .nil h)
def pe_meth(R:PE X o ta)(c:uG X.K C)(j:vJ X.K C m f)(F:ap X.prog X.w X.K X.mg X.base CX k f fd ps sp)(p:bU k X.A)(W:bo X.K fd ps ds)(S:aE dvs ds)(i:dh CX X E)(N:PA X (e::es) t)
  (D:autoParam (Ϗ (e::es) X.env=(Α,eval e X.env)::Ϗ es X.env) yR._auto_1) (G:autoParam ((A5 pos (Ϗ es X.env)).any (·.1)=Α) yR._auto_1)
  (L:autoParam (eval (.Call (.Attribute o m apos) (e::es) [] pos) X.env=(do
   let z <-eval o X.env
   standAt apos.atName
   let (f,first) <-holding [z] (getMethod z m pl)
   callWith pos f first (A5 pos (Ϗ (e::es) X.env)) (backToKw pos (P3 [] X.env)))) yR._auto_1):
  PE X (.Call (.Attribute o m apos) (e::es) [] pos) (Hs C m sp dvs E ta t):=by
 intro pins s σ H Q I h;show OR (bn (R pins s σ H _ I h) λu M ⟨x,H1,B,b,a,dx,fs,ex,g,l,q⟩=>?_) L;subst ex;obtain rfl:u=Ψ a:=b;show mI B g c j l (C_ I.ok.mod.kin j.kp (bn (N pos pins M σ H1 _ B q) λus s2 ⟨vs,H2,n,r,d⟩=>{n.kIn,2}) D G);show oP (vs:=.ref a::vs) F p W S i n (.cons U r) d
def pe_meth0(d:PE X o ta)(c:uG X.K C)(n:vJ X.K C m f)(F:ap X.prog X.w X.K X.mg X.base CX k f fd ps sp)(B:bU k X.A)(N:bo X.K fd ps ds)(L:aE dvs ds)(G:dh CX X E)
  (D:autoParam (eval (.Call (.Attribute o m apos) [] [] pos) X.env=(do
   let z <-eval o X.env
   standAt apos.atName
   let (f,first) <-holding [z] (getMethod z m pl)
   callWith pos f first (A5 pos (Ϗ [] X.env)) (backToKw pos (P3 [] X.env)))) yR._auto_1):
  PE X (.Call (.Attribute o m apos) [] [] pos) (Hs C m sp dvs E ta pc):=by
 intro pins s σ H Q I h;show OR (bn (d pins s σ H _ I h) λu R ⟨x,H1,j,M,a,dx,fs,ex,b,l,q⟩=>?_) D;subst ex;obtain rfl:u=Ψ a:=M;show mI j b c n l (PySem.W.callWith_K0 j.kIn n.kp (oP (vs:=[.ref a]) F B N L G j (.cons U .nil) q))
structure Mk(K:ζ)(C f:J):Prop where
 makes:Qs K C=Y
 init:Φ K (.ref C) "__init__"=Z (Z (.ref f))
 fn:L7 K (.ref f)=Y
 kp:ϥ K (.ref C)=Y
def BA(M:Mk X.K C f)(F:ap X.prog X.w X.K X.mg X.base CX k f fd ps sp)(hr:bU (k+1) X.A)(hb:bo X.K fd ps ds)(hd:aE dvs ds)
  (hx:dh CX X E) (I:au X pins σ H s) (r:aE vs us)
  (h:∀x dx,H x=χ->H dx=χ->dx≠x->sp (.ref x::(vs++dvs)) (upd (upd H dx (.own x)) x (.ins C dx [])) (λv H2=>v=.non/\Q (.ref x) H2) E):
  Ο (ϊ X.prog X.w) X.A (call (.ref C) us) (EP X pins σ Q) X.xe s:=by
 let hq:=h (s.heap.objs.size+1) s.heap.objs.size (I.hok.fresh (x9 _)) (I.hok.fresh (Β _)) (Ϙ (G4 _));let I2:=au.made (C:=C) I;let r2:aE (V.ref (s.heap.objs.size+1)::(vs++dvs)) (Ψ (s.heap.objs.size+1)::(us++ds)):=.cons U (r.append hd);let hl:(Ψ (s.heap.objs.size+1)::us++ds).length=ps.length:=by let e:=r2.length;rw[F.len _ _ _ _ hq]at e;show e.symm
 show N7 (DV I.kIn M.makes M.init (beq_iff_eq.mp M.fn) (C1 (F.run _ X.stack _ _ {Ψ (s.heap.objs.size+1)::us,[]} (Ψ (s.heap.objs.size+1)::(us++ds)) _ _ E (hr.make C us [])
  (I2.env0.make C us []) (hb _ (Ψ (s.heap.objs.size+1)::us) I2.kIn hl) r2 hq) λr s' hq'=>?_))
 cases r with
 |error e=>show hx pins σ _ _ e s' I2 hq'
 |ok fl=>
  cases fl with
  |ret u=>ext(⟨v,H',I3,rv,ev,q3⟩:I2.after hq');subst ev;show{rv,{V.ref (s.heap.objs.size+1),H',I3,1,q3}}
  |next=>show j9 hq'
  |brk=>show j9 hq'
  |cont=>show j9 hq'
def pe_make(M:Mk X.K C f)(F:ap X.prog X.w X.K X.mg X.base CX k f fd ps sp)(B:bU (k+1) X.A)(b:Gl X x)(D:X.mg x=Z (.ref C))(R:bo X.K fd ps ds)(N:aE dvs ds)(L:dh CX X E)
  (G:PA X (e::es) t) (z:autoParam ((x==("__debug__" : Str))=Α) yD._auto_1) (a:autoParam (Ϗ (e::es) X.env=(Α,eval e X.env)::Ϗ es X.env) yR._auto_1) (n:autoParam ((A5 pos (Ϗ es X.env)).any (·.1)=Α) yR._auto_1):
  PE X (.Call (.Name x p) (e::es) [] pos) (Lk C sp dvs E t):=by
 intro pins s σ H Q I h;show m8 (gm I b D ?_ z);show C_ I.ok.mod.kin M.kp (bn (G pos pins s σ H _ I h) λus S ⟨vs,H1,j,r,q⟩=>{j.kIn,2}) a n;show BA M F B R N L j r q
end
section
variable{X:Cx}{CX:vK}{k:Nat}{f C:J}{fd:ό}{ps ks:List Str}{sp:Sp}{E:XK}{x m:Str}{p pos apos kpos:Pos}{e o:ϲ}{es:List ϲ}{kws:List Keyword}{te ta:TE}{t tk:TA}{nm:Option Str}
variable{g:List θ->List θ->List θ}{gV:List V->List V->List V}
end
structure ci(N P:List Str)(sc:OA):Prop where
 kind:sc.kind=.function
 co:sc.isCoroutine=Α
 gen:sc.isGenerator=Α
 nd:N.Nodup
 pre:N.take P.length=P
 par:∀x∈P,sc.names.lookup x=Z .local\/sc.names.lookup x=Z .cell
 nofree:∀y∈sc.names,y.2≠.free
def qm{kindOf:Str->Option K5}{x:Str}:∀{binds:List (Str×θ)}{m:Str->Option θ},(∀v,(x,v)∉binds)->bindL kindOf binds m x=m x
 |[],_,_=>rfl
 |(n,v)::r,m,h=>by
  unfold bindL;rw[qm λw hw=>h w (ς _ hw)];split
  .let:x≠n:=by ext rfl;show h v Γ
   simp[this]
  .rfl
def qK{kindOf:Str->Option K5}{x:Str}:∀{binds:List (Str×θ)}{m:Str->Option θ},(∀v,(x,v)∉binds)->bindC kindOf binds m x=m x
 |[],_,_=>rfl
 |(n,v)::r,m,h=>by
  unfold bindC;rw[qK λw hw=>h w (ς _ hw)];split
  .rfl
  .let:x≠n:=by ext rfl;show h v Γ
   simp[this]
def pU{j:Str->Option K5}{x:Str}{v:θ}:∀{P:List Str}{vs:List θ}{i:Nat}{m:Str->Option θ},P.Nodup->P[i]?=Z x->vs[i]?=Z v->j x=Z .local ->
  bindL j (P.zip vs) m x=Z v
 |[],_,_,_,_,h,_,_=>by simp at h
 |_::_,[],_,_,_,_,h,_=>by simp at h
 |p::P,w::vs,0,m,nd,h1,h2,hk=>by simp at h1 h2;subst h1;subst h2;change bindL j ((p,w)::P.zip vs) m p=_;unfold bindL;rw[qm λv n=>(u_.mp nd).1 (Qt n).1,Q5 hk];simp
 |p::P,w::vs,i+1,m,nd,h1,h2,hk=>by unfold bindL;show pU (i:=i) (u_.mp nd).2 (↑h1) (↑h2) hk
def qI{j:Str->Option K5}{x:Str}{v:θ}:∀{P:List Str}{vs:List θ}{i:Nat}{m:Str->Option θ},P.Nodup->P[i]?=Z x->vs[i]?=Z v->j x≠Z .local ->
  bindC j (P.zip vs) m x=Z v
 |[],_,_,_,_,h,_,_=>by simp at h
 |_::_,[],_,_,_,_,h,_=>by simp at h
 |p::P,w::vs,0,m,nd,h1,h2,hk=>by simp at h1 h2;subst h1;subst h2;change bindC j ((p,w)::P.zip vs) m p=_;unfold bindC;rw[qK λv n=>(u_.mp nd).1 (Qt n).1,Q6 hk];simp
 |p::P,w::vs,i+1,m,nd,h1,h2,hk=>by unfold bindC;show qI (i:=i) (u_.mp nd).2 (↑h1) (↑h2) hk
def gO(N:List Str)(vs:List V):St:=vs.map Z++y_ (N.length-vs.length) χ
def be(CX:vK)(P:Θ)(w:Χ)(K:ζ)(mg:Str->Option θ)(base:ϖ)(N:List Str)(n:Str)(j:OA)(f:J)(q:θ)(A:Ϛ)(outer:List Env)(s:ρ)(H:Hp)(E:XK):Cx where
 prog:=P
 w:=w
 K:=K
 mg:=mg
 base:=base
 A:=A.deeper (envOfC n j s.heap.objs.size f q)
 N:=N
 s₀:=s
 H₀:=H
 env:=envOfC n j s.heap.objs.size f q
 outer:=outer
 stack:=envOfC n j s.heap.objs.size f q::outer
 ex:=[]
 calm:=Y
 fn:=λ_=>Y
 pn:=[]
 xe:=λe s'=>Ο (ϊ P w) (A.deeper (envOfC n j s.heap.objs.size f q)) (leaving (envOfC n j s.heap.objs.size f q) e) (λ_ z=>CX outer H s E e z) (λB z=>CX outer H s E B z) s'
def uc{sc:OA}{n:Nat}{x:Str}(h:sc.names.lookup x=Z .cell):∃c,(cellsFrom n sc.names []).lookup x=Z c:=by show Option.isSome_iff_exists.mp (PySem.W.cellsFrom_some sc.names n [] (.inl h))
def At{CX:vK}{P:Θ}{w:Χ}{K:ζ}{mg:Str->Option θ}{base:ϖ}{N ps:List Str}{F:Str}{n:OA}{f:J}{G:θ}{A:Ϛ}{I:List Env}{s M:ρ}{H:Hp}{E:XK}{us:List θ}{vs:List V}
  (S:ci N ps n) (l:A.handled=χ) (j:wq P w K mg base A I s H) (hl:vs.length=ps.length) (r:aE vs us)
  (x:InCallC s s.heap.objs.size (bindL (envOfC F n s.heap.objs.size f G).kindOf (ps.zip us) λ_=>χ) (cellsFrom (s.heap.objs.size+1) n.names []) (bindC (envOfC F n s.heap.objs.size f G).kindOf (ps.zip us) λ_=>χ) M):
  au (be CX P w K mg base N F n f G A I s H E) [] (gO N vs) H M:=by
 let g:ps.length<=N.length:=by let:=congrArg H_ S.pre;rw[Ω]at this;omega
 ext(⟨h1,tk,rfl,m⟩:x.done);let o:∀b:J,b∉(be CX P w K mg base N F n f G A I s H E).ex:=λb z=>absurd (show b∈([]:List J)from z) ();show{{j.mod,S.kind,11,Β _,λy z c h1 h2=>?_,λy B=>?_,λy c _ h=>?_,λ_=>l,Ϛ.frames_deeper j.frames,.inr {11},λb z=>absurd z (o b),j.bs,j.bsz,λb _ _=>o b,λb z=>absurd z (o b),j.funs,j.frf},1,j.bare,Un.kept m,{0,x.toInCall.ns,λi y v h1 h2 h3=>?_},λy c h=>{0,x.cell y c h},j.hok.fresh (Β _),λy c h=>?_,λp D=>absurd (show p∈([]:List (J×Obj))from D) (),j.hok.kept m,2}
 .show name_of_addr x.apart (F8 h1) (F8 h2)
 .let B:=B;rcases B with B|B
  .show uc B
  .show absurd U (S.nofree _ (F8 B))
 .show E7 (x.above y c (F8 h))
 .let hi:i<vs.length:=by
   unfold gO at h2;by_cases hi:i<vs.length
   .show hi
   .rw[z_ (↑hi)]at h2;rw[List.getElem?_replicate]at h2;split at h2<;>cases h2
  let d:vs[i]?=Z v:=by
   unfold gO at h2;rw[L8 (↑hi),ϐ]at h2;cases e:vs[i]? with
   |none=>rw[e]at h2;cases h2
   |some a=>rw[e]at h2;cases h2;rfl
  ext(⟨u,R,W⟩:r.get d);let D:ps[i]?=Z y:=by rw[<-S.pre,List.getElem?_take_of_lt ()];show h1
  let L:ps.Nodup:=by rw[<-S.pre];show S.nd.sublist (List.take_sublist _ _)
  show{u,W,2};rcases S.par y (Ν D)with k|k
  .show .inl {k,pU L D R k}
  .ext(⟨c,e⟩:uc k);show .inr {.inl k,c,e,2};let q:=x.cell y c e;rw[qI L D R (by change n.names.lookup y≠_;rw[k];decide)]at q;show q
 .show j.hok.fresh (E7 (x.above y c (F8 h)))
 .unfold gO;change _=N.length;rw[Ι,ε,E1];omega
def Bs{CX:vK}{P:Θ}{w:Χ}{K:ζ}{mg:Str->Option θ}{base:ϖ}{k:Nat}{f:J}{name qual:Str}{params:Arguments}{body:List ϯ}{scope:OA}{dV kV doc pm cdv ct oc:θ}{an od:Option J}
  {osl:Array (Option θ)} {N ps:List Str} {sp:Sp} (lk:K.lookup f=Z {oc,od,.func (h_ name qual params body scope dV kV doc pm an cdv ct),osl}) (hcd:A0 K cdv qual=Y) (S:ci N ps scope)
  (len:∀vs H Q E,sp vs H Q E->vs.length=ps.length)
  (hbody:∀(A:Ϛ)(outer:List Env)(s:ρ)(H:Hp)(vs:List V)(Q:VK)(E:XK),bU k (A.deeper (envOfC qual scope s.heap.objs.size f cdv))->sp vs H Q E ->
   ∃t,kl (be CX P w K mg base N qual scope f cdv A outer s H E) body t/\t {nx:=λ_ H'=>Q .non H',rt:=Q} (gO N vs) H):
  ap P w K mg base CX (k+1) f (h_ name qual params body scope dV kV doc pm an cdv ct) ps sp:=by
 show{len,λA outer s H args us vs Q E hr e0 hb r hsp=>?_};let KX:=e0.mod.kin.keeps λb o e=>(e0.bs b o e).1;let hkind:∀y∈ps.zip us,scope.names.lookup y.1=Z .local\/(scope.names.lookup y.1=Z .cell/\((cellsFrom (s.heap.objs.size+1) scope.names []).lookup y.1).isSome=Y):=λ⟨n,v⟩ hy=>by
  rcases S.par n (Qt hy).1 with q|q
  .show .inl q
  .show .inr {q,PySem.W.cellsFrom_some _ _ _ (.inl q)}
 show codeAny_call_function hr.depth (KX _ _ lk) U S.co S.gen U (PySem.W.codeRec_of KX hcd) (hb _ _ _ _ (wpAny_newFunctionEnv_cells S.kind hkind λenv he s1 x=>?_));subst he;show{(e0.mod.nolimit.keeps λb o e=>(e0.bs b o e).1).keeps x.toInCall.keep,codeAny_func ?_};ext(⟨t,ht,hq⟩:hbody A outer s H vs Q E (hr.deeper _) hsp);let I:au (be CX P w K mg base N qual scope f cdv A outer s H E) [] (gO N vs) H s1:=At S hr.hd e0 (len _ _ _ _ hsp) r x;show i7 (ht [] s1 (gO N vs) H _ I hq) (λfl s' hs=>?_) λe s' hs=>hs;let fin:∀{σ':St}{H':Hp}{v:V}{u:θ},au (be CX P w K mg base N qual scope f cdv A outer s H E) [] σ' H' s'->aI v u->Q v H'->CE outer P w H s Q u s':=
  λ{σ' H' v u} a rv q=>{v,H',a.os,a.bare,a.base,a.hok,rv,q}
 cases fl with
 |ret u=>ext(⟨v,σ',H',a,rv,q⟩:hs);show fin a rv q
 |next=>ext(⟨σ',H',a,q⟩:hs);show fin (v:=V.non) a U q
 |brk=>ext(⟨_,_,_,q⟩:hs);show j9 q
 |cont=>ext(⟨_,_,_,q⟩:hs);show j9 q
section
variable{X:Cx}{x:Str}{p pos:Pos}{e:ϲ}{es:List ϲ}{t:TA}{id T:String}{r:List V->Hp->VK->Prop}
def NS(r:List V->Hp->VK->Prop)(t:TA):TE:=λσ H Q=>t σ H λvs H1=>r vs H1 Q
def pe_callB(B:cS X (.builtin id) r)(F:Gl X x)(q:X.mg x=χ)(G:L5 x=Z (.builtin id))(D:PA X (e::es) t)(b:autoParam (x≠"__name__") yD._auto_1)(n:autoParam ((x==("__debug__" : Str))=Α) yD._auto_1)
  (a:autoParam (Ϗ (e::es) X.env=(Α,eval e X.env)::Ϗ es X.env) yR._auto_1) (j:autoParam ((A5 pos (Ϗ es X.env)).any (·.1)=Α) yR._auto_1):PE X (.Call (.Name x p) (e::es) [] pos) (NS r t):=by
 intro pins s σ H Q I h;show m8 (fE I F q G ?_ b n);show PyProof.Rows.callWith_builtin1 (bn (D pos pins s σ H _ I h) λus z ⟨vs,H1,N,M,L⟩=>B pins z σ H1 vs us Q N M L) a j
def pe_callTy(B:cS X (.type T) r)(F:Gl X x)(q:X.mg x=χ)(G:L5 x=Z (.type T))(D:PA X (e::es) t)(b:autoParam (x≠"__name__") yD._auto_1)(n:autoParam ((x==("__debug__" : Str))=Α) yD._auto_1)
  (a:autoParam (Ϗ (e::es) X.env=(Α,eval e X.env)::Ϗ es X.env) yR._auto_1) (j:autoParam ((A5 pos (Ϗ es X.env)).any (·.1)=Α) yR._auto_1):PE X (.Call (.Name x p) (e::es) [] pos) (NS r t):=by
 intro pins s σ H Q I h;show m8 (fE I F q G ?_ b n);show i9 (bn (D pos pins s σ H _ I h) λus z ⟨vs,H1,N,M,L⟩=>B pins z σ H1 vs us Q N M L) a j
end
section
variable{κ:Type}[DecidableEq κ]
def nG(kvs:List (κ×V))(k:κ):Option V:=(kvs.find? λkv=>decide (kv.1=k)).map (·.2)
def gl(kvs:List (κ×V))(k:κ)(v:V):List (κ×V):=
 if (kvs.any λj=>decide (j.1=k))=Y then kvs.map (λj=>if j.1=k then (j.1,v)else j)else kvs++[(k,v)]
def nW{p:κ×V}{r:List (κ×V)}{k:κ}(e:p.1=k):nG (p::r) k=Z p.2:=by simp[nG,q9,e]
def nk{p:κ×V}{r:List (κ×V)}{k:κ}(e:¬ p.1=k):nG (p::r) k=nG r k:=by simp[nG,q9,e]
def ug(k:κ):∀kvs:List (κ×V),(kvs.any λkv=>decide (kv.1=k))=(nG kvs k).isSome
 |[]=>rfl
 |p::r=>by
  rw[M7];by_cases e:p.1=k
  .simp only[nW e,Q9 e,Bool.true_or,Option.isSome_some]
  .rw[nk e,Q8 e,Qc];show ug k r
def lK(kvs:List (κ×V))(k:κ)(v:V):(gl kvs k v).length<=kvs.length+1:=by
 unfold gl;split
 .rw[ε];omega
 .rw[Ι,Λ,A3];omega
def jN.isSome_eq(r:jN o u):o.isSome=u.isSome:=by
 cases o with
 |none=>cases u with
  |none=>rfl
  |some _=>show(r).elim
 |some _=>cases u with
  |none=>show(r).elim
  |some _=>rfl
def KV.val{kvs:List (κ×V)}{vs:List (κ×θ)}(r:KV kvs vs)(k:κ):jN (nG kvs k) (valueAt vs k):=by
 unfold KV at r;induction r with
 |nil=>show B6
 | @cons p q ps qs h t ih=>
  ext(⟨h1,h2⟩:h);by_cases e:p.1=k
  .let e':q.1=k:=h1.symm.trans e;let b:valueAt (q::qs) k=Z q.2:=by simp[valueAt,q9,e']
   rw[nW e,b];show h2
  .let e':¬ q.1=k:=λz=>e (h1.trans z);let b:valueAt (q::qs) k=valueAt qs k:=by simp[valueAt,q9,e']
   rw[nk e,b];show ih
def KV.any{kvs:List (κ×V)}{vs:List (κ×θ)}(r:KV kvs vs)(k:κ):(kvs.any λkv=>decide (kv.1=k))=vs.any λkv=>decide (kv.1=k):=by
 unfold KV at r;induction r with
 |nil=>rfl
 |cons h t ih=>rw[M7,M7,ih,h.1]
def KV.repl{kvs:List (κ×V)}{vs:List (κ×θ)}(r:KV kvs vs)(k:κ){y:V}{u:θ}(ry:aI y u):
  KV (kvs.map λkv=>if kv.1=k then (kv.1,y)else kv) (vs.map λkv=>if kv.1=k then (kv.1,u)else kv):=by
 unfold KV at r⊢;induction r with
 |nil=>show .nil
 | @cons p q ps qs h t ih=>
  rw[Υ,Υ];show .cons ?_ ih;ext(⟨h1,h2⟩:h);by_cases e:p.1=k
  .rw[Q5 e,Q5 (h1.symm.trans e)];show{h1,ry}
  .rw[Q6 e,Q6 (λz=>e (h1.trans z))];show⟨h1,h2⟩
def KV.put(r:KV kvs vs)(k:κ)(j:aI y u):KV (gl kvs k y) (stored vs k u):=by
 unfold gl stored;rw[r.any k];by_cases e:(vs.any λn=>decide (n.1=k))=Y
 .rw[Q5 e,Q5 e];show r.repl k j
 .rw[Q6 e,Q6 e];show Paired.snoc r {1,j}
def KV.keys{kvs:List (κ×V)}{vs:List (κ×θ)}(r:KV kvs vs):kvs.map (·.1)=vs.map (·.1):=by
 unfold KV at r;induction r with
 |nil=>rfl
 |cons h t ih=>rw[Υ,Υ,ih,h.1]
def KV.length(r:KV kvs vs):kvs.length=vs.length:=Paired.length r
end
def oN(r:aI (kV k) u):(bg P w).is k u=Y:=by
 cases k with
 |inl i=>ext(⟨t,e⟩:(r));subst e;show tG P w i t
 |inr x=>ext(⟨t,e⟩:(r));subst e;show gK P w x t
def pR:∀{ks:List cR}{us:List θ},aE (ks.map kV) us->ItemsAre (bg P w) ks us
 |[],_,r=>by rw[ϴ]at r;cases r;show .nil
 |k::ks,_,r=>by
  rw[Υ]at r;cases r with
  |cons h t=>show .cons (oN h) (pR t)
abbrev KT(H:Hp):List (List cR×V)->List (List cR×J×θ)->Prop:=Paired λp q=>p.1=q.1/\H q.2.1=Z (.tup (p.1.map kV))/\aI p.2 q.2.2
def KT.val{H:Hp}{kvs:List (List cR×V)}{xs:List (List cR×J×θ)}(r:KT H kvs xs)(k:List cR):jN (nG kvs k) ((atKey xs k).map (·.2)):=by
 induction r with
 |nil=>show B6
 | @cons p q ps qs h t n=>
  ext(⟨h1,_,h2⟩:h);by_cases e:p.1=k
  .let j:q.1=k:=h1.symm.trans e;let b:atKey (q::qs) k=Z q.2:=by simp[atKey,q9,j]
   rw[nW e,b];show h2
  .let j:¬ q.1=k:=λz=>e (h1.trans z);let b:atKey (q::qs) k=atKey qs k:=by simp[atKey,q9,j]
   rw[nk e,b];show n
def KT.repl{H:Hp}{kvs:List (List cR×V)}{xs:List (List cR×J×θ)}(r:KT H kvs xs)(k:List cR){y:V}{u:θ}(ry:aI y u):
  KT H (kvs.map λkv=>if kv.1=k then (kv.1,y)else kv) (xs.map (putAt k u)):=by
 induction r with
 |nil=>show .nil
 | @cons p q ps qs h t ih=>
  rw[Υ,Υ];show .cons ?_ ih;ext(⟨h1,h2,h3⟩:h);unfold putAt;by_cases e:p.1=k
  .rw[Q5 e,Q5 (h1.symm.trans e)];show{h1,h2,ry}
  .rw[Q6 e,Q6 (λz=>e (h1.trans z))];show{h1,h2,h3}
def KT.put(r:KT H kvs xs)(k:List cR)(n:H b=Z (.tup (k.map kV)))(j:aI y u):
  KT H (gl kvs k y) (storedH xs k b u):=by
 let e:(kvs.any λz=>decide (z.1=k))=(atKey xs k).isSome:=by rw[ug,(r.val k).isSome_eq,E8]
 unfold gl storedH;rw[e];by_cases q:(atKey xs k).isSome=Y
 .rw[Q5 q,Q5 q];show r.repl k j
 .rw[Q6 q,Q6 q];show Paired.snoc r {1,n,j}
def KT.keeps(r:KT H kvs xs)(j:∀b ys,H b=Z (.tup ys)->H' b=Z (.tup ys)):KT H' kvs xs:=
 Paired.mapP r λ_ _ z=>{z.1,j _ _ z.2.1,z.2.2}
section
variable{P:Θ}{w:Χ}{H:Hp}{h:ϖ}{a:J}
def HP(j:gC P w H h)(e:Rd H a u):bK P w H h a u:=e.ok j
def zM(j:gC P w H h)(e:Rd H a (.dK kvs)):kvs.length<=Μ/\(a==C8)=Α/\∃vs,KV kvs vs/\h.DictOf (bg P w) a vs:=
 show bK P w H h a (.dK kvs)from HP j e
def Dt(j:gC P w H h)(e:H a=Z (.dK kvs)):kvs.length<=Μ/\(a==C8)=Α/\∃vs,KV kvs vs/\h.DictOf (bg P w) a vs:=zM j (.inl e)
def sk(j:gC P w H h)(e:H a=Z (.tup (ks.map kV))):(tupleKind (bg P w)).is h ks a:=by ext(⟨_,its,r,⟨o,h1,h2,n,q⟩,_⟩:(j a _ e));show{o,its.toArray,n,h1,h2,q,↑(pR r)}
def DP{kvs:List (List cR×V)}(ok:gC P w H h)(e:Rd H a (.dT kvs)):kvs.length<=Μ/\(a==C8)=Α /\
  ∃xs,KT H kvs xs/\h.DictOfH (tupleKind (bg P w)) a xs:=by
 obtain⟨z,y,xs,r,o,es,ep,h1,h2,h3,h4,h5⟩:=(show bK P w H h a (.dT kvs)from HP ok e);show{z,y,xs,r,o,es,ep,h1,h2,h3,h4,λx hx=>?_,h5};let all:∀{l:List (List cR×V)}{m:List (List cR×J×θ)},KT H l m->∀x∈m,(tupleKind (bg P w)).is h x.1 x.2.1:=by
  intro l m q;induction q with
  |nil=>intro x hx;show nomatch hx
  | @cons p q ps qs hq t ih=>
   intro x hx;rcases ν.mp hx with e|hx
   .subst e;show sk ok (by rw[<-hq.1];show hq.2.1)
   .show ih x hx
 show all r x hx
def Kl(j:gC P w H h)(e:H a=Z (.dT kvs)):kvs.length<=Μ/\(a==C8)=Α /\
  ∃xs,KT H kvs xs/\h.DictOfH (tupleKind (bg P w)) a xs:=DP j (.inl e)
end
def wb(H:Hp)(a:J)(y:V)(r:Option V):Prop:=
 (∃kvs k,Rd H a (.dK kvs)/\y=kV k/\r=nG kvs k)\/∃kvs k b,Rd H a (.dT kvs)/\y=.ref b/\H b=Z (.tup (k.map kV))/\r=nG kvs k
def vz(H:Hp)(a:J)(y v:V)(H':Hp):Prop:=
 (∃kvs k,H a=Z (.dK kvs)/\y=kV k/\kvs.length<Μ/\H'=upd H a (.dK (gl kvs k v))) \/
 ∃kvs k b,H a=Z (.dT kvs)/\y=.ref b/\H b=Z (.tup (k.map kV))/\kvs.length<Μ/\H'=upd H a (.dT (gl kvs k v))
def wb.k{H:Hp}{a:J}{kvs:List (cR×V)}{k:cR}(e:H a=Z (.dK kvs)):wb H a (kV k) (nG kvs k):=.inl {kvs,k,.inl e,11}
def vz.k{H:Hp}{a:J}{kvs:List (cR×V)}{k:cR}{v:V}(e:H a=Z (.dK kvs))(hl:kvs.length<Μ):vz H a (kV k) v (upd H a (.dK (gl kvs k v))):=.inl {kvs,k,e,1,hl,1}
section
variable{X:Cx}{pins:List (J×Obj)}{σ:St}{H:Hp}{s:ρ}{a:J}{y v:V}{u r:θ}{o:Option V}{A:Ϛ}{E:θ->ρ->Prop}
def au.big(I:au X pins σ H s):C8<s.heap.objs.size:=by show Nat.lt_trans () ((I.mod.glob.keeps I.bk).lt)
def Nt{Q:θ->ρ->Prop}(hu:A.units+1<B8)(I:au X pins σ H s)(g:wb H a y o)(ry:aI y u)(h:∀s',au X pins σ H s'->Q (.bool o.isSome) s'):
  Ο (ϊ X.prog X.w) A (ϻ .In u (.ref a)) Q E s:=by
 rcases g with ⟨kvs,k,e,ey,l⟩|⟨kvs,k,b,e,ey,eb,l⟩
 .subst ey;ext(⟨z,hd,vs,rel,dd⟩:zM I.hok e);show wpAny_in_of (oN ry) hd dd.mapOf ?_;rw[<-(rel.val k).isSome_eq,<-l];show h _ (I.tok _)
 .subst ey;cases(show u=Ψ b from ry);ext(⟨z,hd,xs,rel,dd⟩:DP I.hok e);show wpAny_in_heap (Pq hu) (sk I.hok eb) hd dd ?_;let q:=(rel.val k).isSome_eq;rw[E8]at q;rw[<-q,<-l];show h _ (I.tok _)
def Gh{Q:θ->ρ->Prop}(hu:A.units+1<B8)(I:au X pins σ H s)(g:wb H a y o)(ry:aI y u)(h:∀s',au X pins σ H s'->Q (.bool (!o.isSome)) s'):
  Ο (ϊ X.prog X.w) A (ϻ .NotIn u (.ref a)) Q E s:=by
 rcases g with ⟨kvs,k,e,ey,l⟩|⟨kvs,k,b,e,ey,eb,l⟩
 .subst ey;ext(⟨z,hd,vs,rel,dd⟩:zM I.hok e);show wpAny_notIn_of (oN ry) hd dd.mapOf ?_;rw[<-(rel.val k).isSome_eq,<-l];show h _ (I.tok _)
 .subst ey;cases(show u=Ψ b from ry);ext(⟨z,hd,xs,rel,dd⟩:DP I.hok e);show wpAny_notIn_heap (Pq hu) (sk I.hok eb) hd dd ?_;let q:=(rel.val k).isSome_eq;rw[E8]at q;rw[<-q,<-l];show h _ (I.tok _)
def xU(I:au X pins σ H s)(B:JU (H a))(n:B_ a s.heap h')(F:∃q,h'.get? a=Z q)(j:bK X.prog X.w (upd H a ob) h' a ob):
  au X pins σ (upd H a ob) {s with heap:=h',toks:=t'}:=
 I.write B (.inl U) (λb q D z=>(n.2 b D).trans z) F j
def Ij(z:kvs.length<=Μ)(q:(a==C8)=Α)(j:KV kvs vs)(n:h'.DictOf (bg P w) a vs):
  bK P w H' h' a (.dK kvs):={z,q,vs,j,n}
def Aj(hu:A.units+1<B8)(I:au X pins σ H s)(g:vz H a y v H')(S:aI y u)(R:aI v r)(h:∀s',au X pins σ H' s'->Q Unit.unit s'):
  Ο (ϊ X.prog X.w) A (setItem (.ref a) u r) Q E s:=by
 rcases g with ⟨kvs,k,e,D,l,G⟩|⟨kvs,k,b,e,D,N,l,G⟩
 .subst D G;ext(⟨z,M,vs,j,L⟩:Dt I.hok e);let hz:vs.length<=Μ:=by rw[<-j.length];show z
  let F:(gl kvs k v).length<=Μ:=by let:=lK kvs k v;omega
  show wpAny_setItem_pairs (oN S) L λh' n o=>h _ ?_;let f:∃q,h'.get? a=Z q:=let ⟨q,_,_,B,_⟩:=n;{q,B}
  show xU I (by rw[e];show B6) o f (Ij F M (j.put k R) n)
 .subst D G;cases(S);ext(⟨z,M,xs,j,L⟩:Kl I.hok e);let hz:xs.length<=Μ:=by rw[<-Paired.length j];show z
  let F:(gl kvs k v).length<=Μ:=by let:=lK kvs k v;omega
  show wpAny_setItem_heap (Pq hu) (sk I.hok N) L λh' n o=>h _ ?_;ext(⟨q,es,ep,B,h2,d,i,_,W⟩:n);show xU I (by rw[e];show B6) o {q,B} {F,M,0,(j.put k N R).keeps λc ys m=>?_,q,es,ep,B,h2,d,i,W};rw[ai (Ki m e (λz=>nomatch z))];show m
end
section
variable{X:Cx}{pins:List (J×Obj)}{σ:St}{H:Hp}{s:ρ}{a:J}{kvs:List (cR×V)}{k:cR}{u:θ}{A:Ϛ}{E:θ->ρ->Prop}
def Lz{Q:θ->ρ->Prop}(I:au X pins σ H s)(e:Rd H a (.dK kvs))(h:∀t s',au X pins σ H s'->Q (.int kvs.length t) s'):Ο (ϊ X.prog X.w) A (call (.builtin "len") [.ref a]) Q E s:=by ext(⟨z,hd,vs,rel,dd⟩:zM I.hok e);show call_len_dict hd dd (by rw[<-rel.length];rw[ι]at z;omega) ?_;rw[<-rel.length];show h _ _ (I.tok _)
end
def La(i:ϲ):Prop:=∀j n,subscripted i Α j n=operate [j,n] (getItem j n)
def Gw{prog:Θ}{w:Χ}{A:Ϛ}{E:θ->ρ->Prop}{s:ρ}{env:Env}{value j:ϲ}{pos:Pos}{T id:String}{Q:θ->ρ->Prop}
  (I:Ps (.type T) "__getitem__"=pure (Z (.builtin id))) (a:La j)
  (h:Ο (ϊ prog w) A (eval value env) (λo B=>Ο (ϊ prog w) A (eval j env) (λi n=>n.TypeIs o T/\Ο (ϊ prog w) A (getItem o i) Q E n) E B) E s):
  Ο (ϊ prog w) A (eval (.Subscript value j pos) env) Q E s:=by
 show Subscript_ (i7 h (λo B h₁=>i7 h₁ (λi n q=>?_) λ_ _ x=>x) λ_ _ x=>x);ext(⟨F,q⟩:q);show η ?_;rw[getitemInPython_of_ne F.not_modules];show η (Qu F I ?_);let z:Ο (ϊ prog w) A (subscripted j Α o i) (λr D=>Ο (ϊ prog w) A (letTemporaryGo value o r>>=λ_=>pure r) Q E D) E n:=by rw[a o i];show wpAny_operating (i7 q (λr D G=>η (wpAny_letTemporaryGo (ω G))) λ_ _ x=>x)
 first
  |show ω (η z)
  |show η (ω (η z))
  |show η z
inductive ED  (D:cV) (σ:St) (v:V) (x:V) (y:V) (H3:Hp):Prop|mk a H4 (_:x=.ref a) (_:vz H3 a y v H4) (_:D.nx σ H4)
def KC(td ty tv:TE):TS:=λD σ H=>tv σ H λv H1=>td σ H1 λx H2=>ty σ H2 (ED D σ v x)
section
variable{X:Cx}{o i e value:ϲ}{pos pos' tpos:Pos}{td ty tv:TE}
def ps_dput(hu:X.A.units+1<B8)(ho:PE X o td)(hi:PE X i ty)(hv:PE X value tv)(hs:swapsWith value (Z (.Subscript o i pos')) pos.line X.env=pure Α):
  PS X (.Assign [.Subscript o i pos'] value pos) (KC td ty tv):=by
 intro pins s σ H D I h;show wpAny_Assign_Subscript (bn (hv pins s σ H _ I h) λr s1 ⟨v,H1,I1,rv,q1⟩=>bn (ho pins s1 σ H1 _ I1 q1) λu s2 ⟨x,H2,I2,rx,q2⟩=>bn (hi pins s2 σ H2 _ I2 q2) λiv s3 ⟨y,H3,I3,ry,a,H4,ex,g,q3⟩=>?_) hs;subst ex;obtain rfl:u=Ψ a:=rx;show Aj hu I3 g ry rv λs4 I4=>{σ,H4,I4,q3}
end
def Cu(h:ϖ)(j:C8<h.objs.size):bK P w H (h.push {cls:=.type "dict",data:=.dict #[]}) h.objs.size (.dK []):=
 {Τ _,beq_eq_false_iff_ne.mpr (ϔ (Ϙ j)),[],.nil,ϖ.DictOf.new h}
def Jr:TE:=λ_ H Q=>∀p,H p=χ->Q (.ref p) (upd H p (.dK []))
section
variable{X:Cx}{pos:Pos}
def pe_dnewK:PE X (.Dict [] [] pos) Jr:=λpins s σ H Q I h=>
 wpAny_Dict_empty {.ref s.heap.objs.size,0,I.laid (t':=s.toks) (λ_ _ q=>π _ q) (Β _) (Cu s.heap I.big),1,h _ (I.hok.fresh (Β _))}
end
section
variable{X:Cx}{pins:List (J×Obj)}{σ:St}{H:Hp}{s:ρ}{a:J}{y d:V}{u r:θ}{o:Option V}{A:Ϛ}{E:θ->ρ->Prop}
end
section
variable{X:Cx}{o e f:ϲ}{apos cpos:Pos}{td ty tx:TE}
end
section
variable{X:Cx}{pins:List (J×Obj)}{σ:St}{H:Hp}{s:ρ}{a:J}{kvs:List (cR×V)}{A:Ϛ}{E:θ->ρ->Prop}
end
section
variable{X:Cx}{pins:List (J×Obj)}{σ:St}{H:Hp}{s:ρ}{a:J}{y:V}{u:θ}{A:Ϛ}{E:θ->ρ->Prop}
end
end L2
namespace HT
open PySem PyProof.Rows
section
open PySem.SeqAt
open PySem.AutoSeq1 (wpAny_loadPart')
open PySem.MeetsSeq PySem.MeetsSeq2 PySem.MeetsSeq3
end
section
variable{prog:Θ}{w:Χ}{A:Ϛ}{E:θ->ρ->Prop}{s:ρ}
def cat_tup{t b:J}{vs ws:List θ}{Q:θ->ρ->Prop}(ht:IsTup s.heap t vs.toArray)(hb:IsTup s.heap b ws.toArray)(hv:vs≠[])
  (h1:ws=[]->Q (.ref t) s) (h2:ws≠[]->Q (.ref s.heap.objs.size) {s with heap:=s.heap.push {cls:=.type "tuple",data:=.seq (vs++ws).toArray} })
  (hsz:vs.length+ws.length<=Μ):Ο (ϊ prog w) A (K4 .Add (.ref t) (.ref b)) Q E s:=by
 ext(⟨⟨cls,dd,data,sl⟩,ho,hc,n,hd⟩:id ht);ext(⟨⟨cls2,dd2,data2,sl2⟩,ho2,hc2,n2,hd2⟩:id hb);simp only at hc hd hc2 hd2;subst hc hd hc2 hd2;let e:vs.toArray++ws.toArray=(vs++ws).toArray:=();by_cases hw:ws=[]
 .show concat_meets {0,ho,1} {0,ho2,1} Qi seq_tuple_add OF N_ (M8 _ _)
   (tuple_addW1 t b vs.toArray ws.toArray n n2 dd dd2 sl sl2 (↑hv) (by simp[hw])) {ho,ho2,h1 hw}
 .show concat_meets {0,ho,1} {0,ho2,1} Qi seq_tuple_add OF N_ (M8 _ _)
   (tuple_addW2 t b vs.toArray ws.toArray n n2 dd dd2 sl sl2 (↑hv) (↑hw) (by rw[Κ,Κ];show hsz)) {ho,ho2,2}
  rw[e];show h2 hw
def sIx(n d:Nat):Option Int->Nat
 |none=>d
 |some v=>if v<0 then (v+(n:Int)).toNat else min v.toNat n
def sIx_nat(n d k:Nat):sIx n d (Z (k:Int))=min k n:=by change(if (k:Int)<0 then ((k:Int)+(n:Int)).toNat else min (k:Int).toNat n)=min k n;rw[Q6 (),P4]
def MT(n d:Nat)(hd:d<=n)(o:Option Int):sIx n d o<=n:=by
 cases o with
 |none=>show hd
 |some v=>
  change(if v<0 then (v+(n:Int)).toNat else min v.toNat n)<=n;by_cases hv:v<0
  .rw[Q5 hv];omega
  .rw[Q6 hv];show Nat.min_le_right _ _
def xZ(v:Int)(n d:Nat):(if v<0 then max (v+(n:Int)) 0 else min v (n:Int))=((sIx n d (Z v):Nat):Int):=by
 change(if v<0 then max (v+(n:Int)) 0 else min v (n:Int))=(((if v<0 then (v+(n:Int)).toNat else min v.toNat n):Nat):Int);by_cases hv:v<0
 .simp only[Q5 hv];omega
 .simp only[Q6 hv];omega
def wp(lo hi:Option Int)(n:Nat):L9 lo hi 1 (n:Int)=(((sIx n 0 lo:Nat):Int),((sIx n n hi:Nat):Int)):=by
 let h1:¬ ((1:Int)<0):=();unfold L9;simp only[h1,if_false];show Prod.ext ?_ ?_
 .cases lo with
  |none=>rfl
  |some v=>show xZ v n 0
 .cases hi with
  |none=>rfl
  |some v=>show xZ v n n
def wQ(i j:Nat):E3 (i:Int) (j:Int) 1=j-i:=by unfold E3;let h1:(1:Int)>0:=();simp only[h1,if_true,Qo];split<;>omega
def oE(p:QK v o)(h:Q o s):Ο (ϊ prog w) A (s_.Slice.slicePartIndex v) Q E s:=by
 cases p with
 |none=>show slicePart_none h
 |int i t=>show slicePart_int h
def sliceApplied_gen{B:J}{D z:θ}{lo hi:Option Int}{n:Nat}{Q:Int×Int×Nat->ρ->Prop}(G:s.heap.IsSliceOf B D z .none)(pl:QK D lo)(F:QK z hi)
  (h:Q (((sIx n 0 lo:Nat):Int),1,sIx n n hi-sIx n 0 lo) s):Ο (ϊ prog w) A (Pt (.ref B) (pure (n:Int))) Q E s:=by
 ext(⟨a,j,I,q⟩:G);show η (η (b_ j q U (η (b_ j q U (η (b_ j q U (ω (η (slicePart_none ?_)))))))));rw[Q6 ()];show η (oE pl (η (oE F (η (ω ?_)))));change Ο _ _ (match L9 lo hi 1 (n:Int)with|(lo,hi)=>pure (lo,(1:Int),E3 lo hi 1)) _ _ s;rw[wp lo hi n];change Ο _ _ (pure (((sIx n 0 lo:Nat):Int),(1:Int),E3 ((sIx n 0 lo:Nat):Int) ((sIx n n hi:Nat):Int) 1)) _ _ s;rw[wQ];show ω h
def pick_gen(xs:Array θ)(i k:Nat):((ϳ k).filterMap λ(m:Nat)=>xs[((i:Int)+(m:Int)*1).toNat]?).toArray=((xs.toList.drop i).take k).toArray:=by
 let e:(λ(m:Nat)=>xs[((i:Int)+(m:Int)*1).toNat]?)=λm=>xs[i+m]?:=by funext m;let:((i:Int)+(m:Int)*1).toNat=i+m:=();rw[this]
 rw[e];let:=pick_run xs i k;rw[List.filterMap_map]at this;let e2:((λx=>xs[x]?)∘λx=>i+x)=λm=>xs[i+m]?:=U;rw[e2]at this;rw[this]
def getItem_tuple_cut{t z:J}{items:Array θ}{F B:θ}{lo hi:Option Int}{Q:θ->ρ->Prop}(n:IsTup s.heap t items)(D:s.heap.IsSliceOf z F B .none)(pl:QK F lo)(M:QK B hi)
  (b:¬ (sIx items.size 0 lo=0/\sIx items.size items.size hi=items.size))
  (h:Q (.ref s.heap.objs.size) {s with heap:=s.heap.push {cls:=.type "tuple",data:=.seq ((items.toList.drop (sIx items.size 0 lo)).take (sIx items.size items.size hi-sIx items.size 0 lo)).toArray} })
  (hsz:items.size<=Μ):Ο (ϊ prog w) A (getItem (.ref t) (.ref z)) Q E s:=by
 let j:sizeOk (.seq ((items.toList.drop (sIx items.size 0 lo)).take (sIx items.size items.size hi-sIx items.size 0 lo)).toArray):=by change((items.toList.drop (sIx items.size 0 lo)).take (sIx items.size items.size hi-sIx items.size 0 lo)).toArray.size<=Μ;rw[Κ,Ω,k7,ύ];omega
 ext(⟨N,G,I,R⟩:id D);let L:s.TypeIs (.ref z) "slice":={N,G,I};unfold getItem;try with_reducible show u6 ?_
 first|show η (ω ?_)|skip
 show η (wpAny_sequenceKey n.typeIs () ?_);show η (x_ (name:=O "__getitem__") n.typeIs i_
  (y4 i_ n.typeIs entry_tuple_getitem ?_ (args_tuple_getitem _ _)))
 change Ο _ _ (Pu (.ref t)>>=_) _ _ s;show η (tupleItemsOf_ n ?_);show η (Pd L ?_);rw[Q5 ()];show η (sliceApplied_gen D pl M ?_);let c:¬ ((((sIx items.size 0 lo:Nat):Int)==0&&(1:Int)==1&&(sIx items.size items.size hi-sIx items.size 0 lo)==items.size)=Y):=by intro q;rw[ψ,ψ]at q;let S:=eq_of_beq q.1.1;let a:=eq_of_beq q.2;show b {33}
 change Ο _ _ (if (((sIx items.size 0 lo:Nat):Int)==0&&(1:Int)==1&&(sIx items.size items.size hi-sIx items.size 0 lo)==items.size)=Y then _ else _) _ _ s;rw[Q6 c,pick_gen];first
  |show η (i6 (ω ⟨_,rfl,ω h⟩) j)
  |show η (i6 (η (ω (ω ⟨_,rfl,ω h⟩))) j)
  |show η (η (i6 (ω (ω ⟨_,rfl,ω h⟩)) j))
  |show η (η (i6 (ω ⟨_,rfl,ω h⟩) j))
end
end HT
namespace L2
open PySem PySem.Spec PyProof.Rows
abbrev TO:=St->Hp->(Option Int->Hp->Prop)->Prop
def PO(X:Cx)(e:Option ϲ)(t:TO):Prop:=
 ∀(pins:List (J×Obj))(s:ρ)(σ:St)(H:Hp)(Q:Option Int->Hp->Prop),au X pins σ H s->t σ H Q ->
  Ο (ϊ X.prog X.w) X.A (evalPart e X.env) (λu s'=>∃o H',au X pins σ H' s'/\QK u o/\Q o H') X.xe s
def cO:TO:=λ_ H Q=>Q χ H
inductive EV  (Q:Option Int->Hp->Prop) (x:V) (H1:Hp):Prop|mk i (_:x=.int i) (_:Q (Z i) H1)
def KF(t:TE):TO:=λσ H Q=>t σ H (EV Q)
section
variable{X:Cx}{e:ϲ}{te:TE}{lo hi:Option ϲ}{tl th:TO}{pos p2:Pos}
def po_none:PO X χ cO:=by intro pins s σ H Q I h;rw[evalPart_none];show ω {χ,H,I,.none,h}
def po_some(h:PE X e te):PO X (Z e) (KF te):=by intro pins s σ H Q I B;rw[evalPart_some];show bn (h pins s σ H _ I B) λu D ⟨x,H1,z,n,j⟩=>?_;ext(⟨i,rfl,q⟩:j);ext(⟨t,rfl⟩:n);show{Z i,H1,z,.int i t,q}
def KM(X:Cx)(r:V->Option Int->Option Int->Hp->VK->Prop):Prop:=
 ∀(pins:List (J×Obj))(s:ρ)(σ:St)(H:Hp)(x:V)(v j q:θ)(lo hi:Option Int)(n:J)(Q:VK),au X pins σ H s->aI x v->s.heap.IsSliceOf n j q .none->QK j lo->QK q hi->r x lo hi H Q ->
  ∃T id,Ps (.type T) "__getitem__"=pure (Z (.builtin id))/\s.TypeIs v T/\Ο (ϊ X.prog X.w) X.A (getItem v (.ref n)) (EP X pins σ Q) X.xe s
def Os(r:V->Option Int->Option Int->Hp->VK->Prop)(te:TE)(tl th:TO):TE:=λσ H Q=>te σ H λx H1=>tl σ H1 λl H2=>th σ H2 λu H3=>r x l u H3 Q
def pe_slice(G:KM X r)(c:PE X e te)(M:PO X lo tl)(hu:PO X hi th):PE X (.Subscript e (.Slice lo hi χ p2) pos) (Os r te tl th):=by intro pins s σ H Q I h;show Subscript_ (bn (c pins s σ H _ I h) λv L ⟨x,H1,I1,d,S⟩=>wpAny_Slice (bn (M pins L σ H1 _ I1 S) λz N ⟨l,H2,R,pl,q2⟩=>bn (hu pins N σ H2 _ R q2) λn j ⟨u,B,F,D,a⟩=>?_));rw[evalPart_none];show ω ?_;let W:au X pins σ B {j with heap:=j.heap.push {cls:=.type "slice",data:=.fields #[z,n,.none]} }:=F.kept (t':=j.toks) λb ob q=>π _ q;ext(⟨T,id,hT,g,f⟩:G pins {j with heap:=j.heap.push {cls:=.type "slice",data:=.fields #[z,n,.none]} } σ B x v z n l u j.heap.objs.size Q W d (ϖ.IsSliceOf.new ..) pl D a);show tail_any g hT f (by with_unfolding_all rfl)
def db(xs:List V)(lo hi:Option Int):List V:=(xs.drop (HT.sIx xs.length 0 lo)).take (HT.sIx xs.length xs.length hi-HT.sIx xs.length 0 lo)
def gG(xs:List V)(lo hi:Option Int):(db xs lo hi).length<=xs.length:=by unfold db;rw[Ω,k7];omega
inductive Ng (K:ζ) (x:V) (lo:Option Int) (hi:Option Int) (H:Hp) (Q:VK):Prop|mk a xs (_:x=.ref a) (_:aq K H a xs) (_:¬ (HT.sIx xs.length 0 lo=0/\HT.sIx xs.length xs.length hi=xs.length)) (_:∀p,H p=χ->Q (.ref p) (upd H p (.tup (db xs lo hi))))
def IL:KM X (Ng X.K):=by
 ext pins s σ H x v M c lo hi L Q I F D pl z ⟨a,xs,rfl,B,G,q⟩;cases F;ext(⟨its,r,n,hz⟩:I.tuple B);let j:its.toArray.size=xs.length:=by rw[Κ];show r.length.symm
 show{"tuple",0,i_.lookup,n.typeIs,HT.getItem_tuple_cut n D pl z (by rw[j];show G) ?_ (by rw[j];show hz)};rw[j];show{.ref s.heap.objs.size,0,I.laid (t':=s.toks) (λb ob q=>π _ q) (Β _) ?_,1,q _ (I.hok.fresh (Β _))};show{ϩ (gG xs lo hi) hz,0,(r.drop (HT.sIx xs.length 0 lo)).take (HT.sIx xs.length xs.length hi-HT.sIx xs.length 0 lo),QH _ _,Gs.new _ U}
inductive KH (K:ζ) (x:V) (y:V) (H:Hp) (Q:VK):Prop|mk a b xs ys (_:x=.ref a) (_:y=.ref b) (_:aq K H a xs) (_:aq K H b ys) (_:xs≠[]) (_:xs.length+ys.length<=Μ) (_:(ys=[]->Q (.ref a) H)) (_:(ys≠[]->∀p,H p=χ->Q (.ref p) (upd H p (.tup (xs++ys)))))
def aE.nil_iff(r:aE xs us):us=[]↔xs=[]:=by
 cases r with
 |nil=>simp
 |cons _ _=>simp
def Fg:fQ X (K4 .Add) (KH X.K):=by intro pins s σ H x y v u Q I rx ry h;ext(⟨a,b,xs,ys,rfl,rfl,ha,hb,hx,hz,q1,q2⟩:h);cases rx;cases ry;ext(⟨its,r1,p1,_⟩:I.tuple ha);ext(⟨its2,r2,p2,_⟩:I.tuple hb);show HT.cat_tup p1 p2 (λz=>hx (r1.nil_iff.mp z)) (λz=>{.ref a,H,I,1,q1 (r2.nil_iff.mp z)}) (λz=>?_) (by rw[<-r1.length,<-r2.length];show hz);show{.ref s.heap.objs.size,0,I.laid (t':=s.toks) (o:=.tup (xs++ys)) (λb ob q=>π _ q) (Β _) ?_,1,q2 (λw=>z (r2.nil_iff.mpr w)) _ (I.hok.fresh (Β _))};show{by rw[Ι];show hz,0,r1.append r2,QH _ _,Gs.new _ U}
end
def Fx(n:Nat)(i:Int):Option Nat:=if 0<=i then (if i<n then Z i.toNat else χ)else if -(n:Int)<=i then Z (i+n).toNat else χ
def jX(xs:List α)(i:Int):Option α:=(Fx xs.length i).bind λj=>xs[j]?
def yn{n:Nat}{i:Int}{j:Nat}(h:Fx n i=Z j):seqIndex? i n=Z j/\j<n/\-(n:Int)<=i/\i<n:=by
 unfold Fx at h;by_cases h0:0<=i
 .rw[Q5 h0]at h;by_cases h1:i<n
  .rw[Q5 h1]at h;let e:i.toNat=j:=Ϟ h;show{by rw[seqIndex_of h0 h1,e],33,h1}
  .rw[Q6 h1]at h;cases h
 .rw[Q6 h0]at h;by_cases h1:-(n:Int)<=i
  .rw[Q5 h1]at h;let e:(i+n).toNat=j:=Ϟ h;show{by rw[seqIndex_neg () h1,e],3,h1,3}
  .rw[Q6 h1]at h;cases h
def qX{α:Type}{xs:List α}{i:Int}{v:α}(h:jX xs i=Z v):∃j,seqIndex? i xs.length=Z j/\xs[j]?=Z v/\j<xs.length/\-(xs.length:Int)<=i/\i<xs.length:=by
 unfold jX at h;cases e:Fx xs.length i with
 |none=>rw[e]at h;cases h
 |some j=>rw[e]at h;ext(⟨h1,h2,h3,h4⟩:yn e);show{j,h1,h,h2,h3,h4}
def ad{α:Type}{xs:List α}{j:Nat}{v:α}(h:xs[j]?=Z v):jX xs (j:Int)=Z v:=by
 let hj:j<xs.length:=(Ζ.mp h).1;let e:Fx xs.length (j:Int)=Z j:=by unfold Fx;rw[Q5 (),Q5 ()];simp
 unfold jX;rw[e];show h
def FU(b:ϲ):Prop:=∀o i,subscripted b Α o i=operate [o,i] (getItem o i)
def JS(X:Cx)(r:R2):Prop:=
 ∀(value j:ϲ)(pins:List (J×Obj))(s:ρ)(σ:St)(H:Hp)(x y:V)(v u:θ)(Q:VK),au X pins σ H s->aI x v->aI y u->r x y H Q ->
  subscripted j Α v u=operate [v,u] (getItem v u)->Ο (ϊ X.prog X.w) X.A (subscriptTail value j v u) (EP X pins σ Q) X.xe s
def Et(X:Cx)(id:String)(r:V->List V->Hp->VK->Prop):Prop:=
 ∀(pins:List (J×Obj))(s:ρ)(σ:St)(H:Hp)(x:V)(xs:List V)(v:θ)(us:List θ)(Q:VK),au X pins σ H s->aI x v->aE xs us->r x xs H Q ->
  Ο (ϊ X.prog X.w) X.A (call (.builtin id) (v::us)) (EP X pins σ Q) X.xe s
section
variable{X:Cx}{a b:ϲ}{ta tb:TE}{pos:Pos}
def pe_ix(j:JS X r)(z:PE X a ta)(c:PE X b tb)(D:FU b):PE X (.Subscript a b pos) (Es r ta tb):=by intro pins s σ H Q I h;show Subscript_ (JG z c I h λv u n x y H2 B F G q=>j a b pins n σ H2 x y v u Q B F G q (D _ _))
inductive Le (K:ζ) (x:V) (y:V) (H:Hp) (Q:VK):Prop|mk p xs i v (_:x=.ref p) (_:y=.int i) (_:aw K H p xs) (_:jX xs i=Z v) (_:Q v H)
inductive zT (K:ζ) (x:V) (y:V) (H:Hp) (Q:VK):Prop|mk p xs i v (_:x=.ref p) (_:y=.int i) (_:aq K H p xs) (_:jX xs i=Z v) (_:Q v H)
inductive My (x:V) (y:V) (H:Hp) (Q:VK):Prop|mk z i c (_:x=.str z) (_:y=.int i) (_:z.length<=Μ) (_:jX z.cps.toList i=Z c) (_:Q (.str ⟨#[c]⟩) H)
def aF:JS X (Le X.K):=by
 ext value W pins s σ H x y v u Q I R S ⟨p,xs,i,z,rfl,rfl,N,a,q⟩ D;cases R;ext(⟨t,rfl⟩:S);ext(⟨its,r,pl,hz⟩:I.list N);ext(⟨j,h1,h2,c,d,L⟩:qX a);ext(⟨w,G,e⟩:r.get h2);let M:=r.length;let b:=iO;let B:EP X pins σ Q w s:={z,H,I,e,q};by_cases F:0<=i
 .let n:i.toNat=j:=by
   rw[seqIndex_of F L]at h1;show Ϟ h1
  show item_listR pl.isList F () (by rw[n];simpa using G) B D
 .let n:(i+(its.toArray.size:Int)).toNat=j:=by
   rw[seqIndex_neg () d]at h1;rw[Κ,<-M];show Ϟ h1
  show subscriptTail_builtinR pl.isList.typeIs slot_list_getitem.lookup
   (wpAny_getItem_list_neg pl.isList () (by rw[Κ]<;>omega) () (by rw[n];simpa using G) {1,B}) D
def kf:JS X (zT X.K):=by
 intro value slice pins s σ H x y v u Q I rx ry h hs;ext(⟨p,xs,i,z,rfl,rfl,hq,he,q⟩:h);cases rx;ext(⟨t,rfl⟩:ry);ext(⟨its,r,pl,hz⟩:I.tuple hq);ext(⟨j,h1,h2,h3,h4,h5⟩:qX he);ext(⟨w,ew,rw'⟩:r.get h2);let hl:=r.length;let hn:=iO;let fin:EP X pins σ Q w s:={z,H,I,rw',q};show subscriptTail_builtinR (x:=w) pl.typeIs slot_tuple_getitem.lookup
  (getItem_tuple (j:=j) (Q:=λr s'=>r=w/\EP X pins σ Q r s') pl () () (by rw[Κ,<-hl];show h1) (↑ew) {1,fin}) hs
def rL:JS X My:=by
 intro value slice pins s σ H x y v u Q I rx ry h hs;ext(⟨z,i,c,rfl,rfl,hz,he,q⟩:h);ext(⟨t,rfl⟩:rx);ext(⟨t',rfl⟩:ry);ext(⟨j,h1,h2,h3,h4,h5⟩:qX he);let hl:z.cps.toList.length=z.length:=by simp[Str.length]
 rw[hl]at h1 h4 h5;let hn:=iO;show tail_any (N8 s z t) slot_str_getitem.lookup (getItem_str (c:=c) (by let e1:decide (i < -(2^63:Int))=Α:=Q8 ();let e2:decide (i>=2^63)=Α:=Q8 ();rw[e1,e2,Qd]) (by rw[h1];simpa using h2) {.str {#[c]},H,I.tok _,{01},q}) hs
def wa(its:List θ)(n j:Nat)(u:θ):F3 (·.setIfInBounds j u) {cls:=.type "list",data:=.seq its.toArray n}={cls:=.type "list",data:=.seq (its.set j u).toArray n}:=by simp[F3]
def au.lst{pins:List (J×Obj)}{σ:St}{H:Hp}{s:ρ}{p:J}{xs:List V}(I:au X pins σ H s)(h:H p=Z (.lst xs)):
  ∃(its:List θ) (n:Nat),aE xs its/\s.heap.get? p=Z {cls:=.type "list",data:=.seq its.toArray n}/\xs.length<=Μ:=by
 ext(⟨z,its,n,r,e⟩:I.hok p _ h);show{its,n,r,e,z}
def au.lstUpd{pins:List (J×Obj)}{σ:St}{H:Hp}{s:ρ}{p:J}{xs ys:List V}{its its':List θ}{n j:Nat}{f:Obj->Obj}(I:au X pins σ H s)(h:H p=Z (.lst xs))
  (ho:s.heap.get? p=Z {cls:=.type "list",data:=.seq its.toArray n}) (z:f {cls:=.type "list",data:=.seq its.toArray n}={cls:=.type "list",data:=.seq its'.toArray j}) (r:aE ys its') (hz:ys.length<=Μ) (t:Nat):
  au X pins σ (upd H p (.lst ys)) {s with heap:=s.heap.update p f,toks:=t}:=by
 let e:(s.heap.update p f).get? p=Z {cls:=.type "list",data:=.seq its'.toArray j}:=by rw[ϸ f ho (by rw[z]<;>rfl),z]
 show I.write (by rw[h];trivial) (.inl U) (λb u B q=>(ϝ _ _ (ϔ B)).trans q) {0,e} ?_;show{hz,its',j,r,e}
inductive Ko (o:V) (i:V) (v:V) (H:Hp) (Q:Hp->Prop):Prop|mk p xs k j (_:o=.ref p) (_:i=.int k) (_:H p=Z (.lst xs)) (_:Fx xs.length k=Z j) (_:Q (upd H p (.lst (xs.set j v))))
def oK:Ll X Ko:=by
 ext pins s σ H o i v S W u Q I M R N ⟨p,xs,k,j,rfl,rfl,L,b,q⟩;cases M;ext(⟨t,rfl⟩:R);ext(⟨its,n,r,ho,hz⟩:I.lst L);ext(⟨h1,h2,F,G⟩:yn b);let z:=r.length;let a:=iO;let D:au X pins σ (upd H p (.lst (xs.set j v))) {s with heap:=s.heap.update p (F3 (·.setIfInBounds j u))}:=
  I.lstUpd L ho (wa its n j u) (r.set N j) (by rw[List.length_set];show hz) s.toks
 by_cases c:0<=k
 .let B:k.toNat=j:=by
   rw[seqIndex_of c G]at h1;show Ϟ h1
  show PySem.W.ki_setAt ho c () (by rw[Κ,<-z];show G) (by rw[B];show{0,D,q})
 .let B:(k+(its.toArray.size:Int)).toNat=j:=by
   rw[seqIndex_neg () F]at h1;rw[Κ,<-z];show Ϟ h1
  show PySem.W.ki_setBack ho () (by rw[Κ,<-z];show F) () (by rw[B];show{0,D,q})
def rW(lo hi:Option Int)(n:Nat):(sliceBounds lo hi χ n).1=((HT.sIx n 0 lo:Nat):Int)/\(sliceBounds lo hi χ n).2.1=((HT.sIx n n hi:Nat):Int)/\(sliceBounds lo hi χ n).2.2=1:=by
 show{221}
 .cases lo with
  |none=>simp[sliceBounds,HT.sIx]
  |some i=>
   simp only[sliceBounds,HT.sIx,Option.getD_none,show(1:Int)>0 by decide,if_true];by_cases h:i<0
   .simp only[h,if_true]<;>omega
   .simp only[h,if_false]<;>omega
 .cases hi with
  |none=>simp[sliceBounds,HT.sIx]
  |some i=>
   simp only[sliceBounds,HT.sIx,Option.getD_none,show(1:Int)>0 by decide,if_true];by_cases h:i<0
   .simp only[h,if_true]<;>omega
   .simp only[h,if_false]<;>omega
def oW(its:List θ)(lo hi:Option Int):slicePick its.toArray lo hi χ=((its.drop (HT.sIx its.length 0 lo)).take (HT.sIx its.length its.length hi-HT.sIx its.length 0 lo)).toArray:=by ext(⟨h1,h2,h3⟩:rW lo hi its.toArray.size);unfold slicePick;rw[h1,h2,h3];simp only[sliceRange_one,pick_run,Κ]<;>rfl
inductive MS (K:ζ) (x:V) (lo:Option Int) (hi:Option Int) (H:Hp) (Q:VK):Prop|mk a xs (_:x=.ref a) (_:aw K H a xs) (_:∀p,H p=χ->Q (.ref p) (upd H p (.lst (db xs lo hi))))
def dG:KM X (MS X.K):=by intro pins s σ H x v vl vu lo hi sl Q I rx hs pl pu h;ext(⟨a,xs,rfl,hx,q⟩:h);cases rx;ext(⟨its,r,ht,hz⟩:I.list hx);let hlen:=r.length;show{"list",0,slot_list_getitem.lookup,ht.isList.typeIs,2};show wpAny_getItem_list_slice ht.isList hs pl pu .none () ?_ (by rw[Κ]<;>omega);rw[oW,<-hlen];show{.ref s.heap.objs.size,0,I.laid (t':=s.toks) (o:=.lst (db xs lo hi)) (λb ob q=>π _ q) (Β _) ?_,1,q _ (I.hok.fresh (Β _))};show{ϩ (gG xs lo hi) hz,0,(0),(r.drop (HT.sIx xs.length 0 lo)).take (HT.sIx xs.length xs.length hi-HT.sIx xs.length 0 lo),Ξ _ U}
def lq:V->Bool
 |.non=>Y
 |.bl _=>Y
 |.int _=>Y
 |.str _=>Y
 |_=>Α
def Hl:V->V->Bool
 |.non,.non=>Y
 |.bl a,.bl b=>a==b
 |.bl a,.int b=>(if a then 1 else 0)==b
 |.int a,.bl b=>a==(if b then 1 else 0)
 |.int a,.int b=>a==b
 |.str a,.str b=>a==b
 |_,_=>Α
def IS(ry:aI y u)(rx:aI x v)(fy:lq y=Y)(fx:lq x=Y):Ϯ A s u v (Hl y x):=by
 cases y with
 |non=>
  cases ry;cases x with
  |non=>cases rx;show E6 _
  |bl b=>cases rx;show Ϯ.none_bool b
  |int b=>ext(⟨t,rfl⟩:rx);show Ϯ.none_int b t
  |str b=>ext(⟨t,rfl⟩:rx);show Ϯ.none_str b t
  |_=>show absurd (fx) ϋ
 |bl a=>
  cases ry;cases x with
  |non=>cases rx;show Ϯ.bool_none a
  |bl b=>cases rx;show Ϯ.bool_bool a b
  |int b=>ext(⟨t,rfl⟩:rx);show Ϯ.bool_int a b t
  |str b=>ext(⟨t,rfl⟩:rx);show Ϯ.bool_str a b t
  |_=>show absurd (fx) ϋ
 |int a=>
  ext(⟨t',rfl⟩:ry);cases x with
  |non=>cases rx;show Ϯ.int_none a t'
  |bl b=>cases rx;show Ϯ.int_bool a t' b
  |int b=>ext(⟨t,rfl⟩:rx);show Pw a t' b t
  |str b=>ext(⟨t,rfl⟩:rx);show Pj a t' b t
  |_=>show absurd (fx) ϋ
 |str a=>
  ext(⟨t',rfl⟩:ry);cases x with
  |non=>cases rx;show Ϯ.str_none a t'
  |bl b=>cases rx;show Ϯ.str_bool a t' b
  |int b=>ext(⟨t,rfl⟩:rx);show Pk a t' b t
  |str b=>ext(⟨t,rfl⟩:rx);show Px a t' b t
  |_=>show absurd (fx) ϋ
 |_=>show absurd (fy) ϋ
def wU(x:V)(u:θ):Bool:=match u with
 |.none=>Hl .non x
 |.bool b=>Hl (.bl b) x
 |.int i _=>Hl (.int i) x
 |.str z _=>Hl (.str z) x
 |_=>Α
def Ci(r:aI y u)(f:lq y=Y):wU x u=Hl y x:=by
 cases y with
 |non=>cases r;rfl
 |bl b=>cases r;rfl
 |int i=>ext(⟨t,rfl⟩:r);rfl
 |str z=>ext(⟨t,rfl⟩:r);rfl
 |_=>show absurd (f) ϋ
def jv:∀{xs:List V}{us:List θ},aE xs us->xs.all lq=Y->us.any (wU x)=xs.any λy=>Hl y x
 |_,_,.nil,_=>rfl
 |y::xs,u::us,.cons r t,f=>by rw[Qe,ψ]at f;rw[M7,M7,Ci r f.1,jv t f.2]
def gH(n:aI x v)(q:lq x=Y):∀{xs:List V}{us:List θ},aE xs us->xs.all lq=Y->∀u∈us,Ϯ A s u v (wU x u)
 |_,_,.nil,_=>λu j=>by cases j
 |y::xs,u::us,.cons r t,f=>λz j=>by
  rw[Qe,ψ]at f;rcases ν.mp j with rfl|j
  .rw[Ci r f.1];show IS r n f.1 q
  .show gH n q t f.2 z j
def Me(x:V)(xs:List V):Bool:=xs.any λy=>Hl y x
inductive NL (K:ζ) (neg:Bool) (x:V) (y:V) (H:Hp) (Q:VK):Prop|mk p xs (_:y=.ref p) (_:(aw K H p xs\/aq K H p xs)) (_:lq x=Y) (_:xs.all lq=Y) (_:Q (.bl (if neg then !Me x xs else Me x xs)) H)
def qA:fQ X (ϻ .In) (NL X.K Α):=by
 ext pins s σ H x y v u Q I B D ⟨p,xs,rfl,j,z,fs,q⟩;cases D;rcases j with j|j
 .ext(⟨its,r,pl,hz⟩:I.list j);show SeqAt.in_listAt (wU x) pl.isList (λw n=>gH B z r fs w (↑n)) {.bl _,H,I,12};rw[show its.toArray.any (wU x)=its.any (wU x) by simp,jv r fs];show q
 .ext(⟨its,r,pl,hz⟩:I.tuple j);show SeqAt.in_tupleAt (wU x) pl (λw n=>gH B z r fs w (↑n)) {.bl _,H,I,12};rw[show its.toArray.any (wU x)=its.any (wU x) by simp,jv r fs];show q
def iZ:fQ X (ϻ .NotIn) (NL X.K Y):=by
 ext pins s σ H x y v u Q I B D ⟨p,xs,rfl,j,z,fs,q⟩;cases D;rcases j with j|j
 .ext(⟨its,r,pl,hz⟩:I.list j);show SeqAt.notIn_listAt (wU x) pl.isList (λw n=>gH B z r fs w (↑n)) {.bl _,H,I,12};rw[show its.toArray.any (wU x)=its.any (wU x) by simp,jv r fs];show q
 .ext(⟨its,r,pl,hz⟩:I.tuple j);show SeqAt.notIn_tupleAt (wU x) pl (λw n=>gH B z r fs w (↑n)) {.bl _,H,I,12};rw[show its.toArray.any (wU x)=its.any (wU x) by simp,jv r fs];show q
def am:cS X (.builtin "len") (λxs H Q=>∃p ys,xs=[.ref p]/\(aw X.K H p ys\/aq X.K H p ys)/\Q (.int ys.length) H):=by
 intro pins s σ H xs us Q I r h;ext(⟨p,ys,rfl,hq,q⟩:h);ext(⟨u,rfl,rx⟩:dg r);cases rx;let hn:=iO;rcases hq with hq|hq
 .ext(⟨its,r',pl,hz⟩:I.list hq);let hlen:=r'.length;show Calls.call_len_list pl.isList (by simp only[Κ]<;>omega) {.int ys.length,H,I.tok _,{s.toks+1,by rw[Κ,hlen]},q}
 .ext(⟨its,r',pl,hz⟩:I.tuple hq);let hlen:=r'.length;show len_tuple pl (by simp only[Κ]<;>omega) {.int ys.length,H,I.tok _,{s.toks+1,by rw[Κ,hlen]},q}
def bX:cS X (.builtin "len") (λxs H Q=>∃z,xs=[.str z]/\z.length<=Μ/\Q (.int z.length) H):=by ext pins s σ H xs us Q I r ⟨z,rfl,hz,q⟩;ext(⟨u,rfl,t,rfl⟩:dg r);let j:=iO;show len_str () {.int z.length,H,I.tok _,{01},q}
def jM:cS X (.type "list") (λxs H Q=>∃p ys,xs=[.ref p]/\(aw X.K H p ys\/aq X.K H p ys)/\∀l,H l=χ->Q (.ref l) (upd H l (.lst ys))):=by
 intro pins s σ H xs us Q I r h;ext(⟨p,ys,rfl,hq,q⟩:h);ext(⟨u,rfl,rx⟩:dg r);cases rx;let fin:∀(its:List θ),aE ys its->ys.length<=Μ->∀(h':ϖ)(c':Nat),(∀b o',s.heap.get? b=Z o'->h'.get? b=Z o') ->
   h'.get? s.heap.objs.size=Z {cls:=.type "list",dict:=χ,data:=.seq its.toArray c',slots:=#[]}->EP X pins σ Q (.ref s.heap.objs.size) {s with heap:=h'}:=λits r' hz h' c' kp e=>
  {.ref s.heap.objs.size,0,I.laid (t':=s.toks) kp (Β _) (show bK X.prog X.w _ h' _ (.lst ys)from{hz,its,c',r',e}),1,q _ (I.hok.fresh (Β _))}
 rcases hq with hq|hq
 .ext(⟨its,r',pl,hz⟩:I.list hq);let hlen:=r'.length;ext(⟨o,ho,hc,n,hd⟩:pl.isList);show call_list_seq p (.inl U) ho hc hd (λh' c' kp e=>fin its r' hz h' c' kp e) (by simp only[Κ]<;>omega)
 .ext(⟨its,r',pl,hz⟩:I.tuple hq);let hlen:=r'.length;ext(⟨o,ho,hc,n,hd⟩:pl);show call_list_seq p (.inr U) ho hc hd (λh' c' kp e=>fin its r' hz h' c' kp e) (by simp only[Κ]<;>omega)
def aH:cS X (.type "tuple") (λxs H Q=>∃p ys,xs=[.ref p]/\((aw X.K H p ys/\∀l,H l=χ->Q (.ref l) (upd H l (.tup ys)))\/(aq X.K H p ys/\Q (.ref p) H))):=by
 intro pins s σ H xs us Q I r h;ext(⟨p,ys,rfl,h⟩:h);ext(⟨u,rfl,rx⟩:dg r);cases rx;rcases h with ⟨hq,q⟩|⟨hq,q⟩
 .ext(⟨its,r',pl,hz⟩:I.list hq)
  let hlen:=r'.length;show call_tuple_list pl.isList (λh' kp=>?_) (by simp only[Κ]<;>omega);let I1:au X pins σ H {s with heap:=h'}:=I.kept (t':=s.toks) kp;let I2:au X pins σ (upd H h'.objs.size (.tup ys)) {s with heap:=h'.push {cls:=.type "tuple",data:=.seq its.toArray} }:=
   I1.laid (t':=s.toks) (λb o e=>π _ e) (Β _) (show bK X.prog X.w _ _ _ (.tup ys)from{hz,its,r',QH _ _,Gs.new _ U})
  show{.ref h'.objs.size,0,I2,1,q _ (I1.hok.fresh (Β _))}
 .ext(⟨its,r',pl,hz⟩:I.tuple hq);show call_tuple_same pl {.ref p,H,I,1,q}
def Nr(K:ζ)(T:String)(x:V)(H:Hp):Prop:=match x with
 |.str _=>T="str"
 |.int _=>T="int"
 |.ref p=>(T="list"/\∃xs,aw K H p xs)\/(T="tuple"/\∃o,K.lookup p=Z o/\o.cls=.type "tuple"/\o.dict=χ) \/
   (T="dict"/\((∃kvs,H p=Z (.dK kvs))\/∃kvs,H p=Z (.dT kvs)))\/(T="set"/\∃S n,H p=Z (.set S n))
 |_=>False
def Co(I:au X pins σ H s)(r:aI x v)(ty:Nr X.K T x H):
  s.TypeIs v T/\∀a,v=.ref a->∃ob,s.heap.get? a=Z ob/\ob.dict=χ:=by
 cases x with
 |str z=>ext(⟨t,rfl⟩:r);cases(ty);show{N8 s z t,λ_ e=>nomatch e}
 |int i=>ext(⟨t,rfl⟩:r);cases(ty);show{typeIs_int s i t,λ_ e=>nomatch e}
 |ref p=>
  cases r;rcases ty with ⟨rfl,xs,hq⟩|⟨rfl,o,hk,hc,hd⟩|⟨rfl,hk⟩|⟨rfl,S,n,hk⟩
  .ext(⟨its,_,pl,_⟩:I.list hq);show{pl.isList.typeIs,λa e=>?_};cases e;ext(⟨o,n,e,c,hd,_⟩:pl);show{o,e,hd}
  .show{{o,I.kIn p o hk,hc},λa e=>?_};cases e;show{o,I.kIn _ o hk,hd}
  .let z:∃o,s.heap.get? p=Z o/\o.ExactDict:=by
    rcases hk with ⟨kvs,hk⟩|⟨kvs,hk⟩
    .ext(⟨_,_,_,_,o,_,_,e,ex,_⟩:I.hok p _ hk);show{o,e,ex}
    .ext(⟨_,_,_,_,o,_,_,e,ex,_⟩:I.hok p _ hk);show{o,e,ex}
   ext(⟨o,e,ex⟩:z);show{{o,e,ex.1},λa e2=>?_};cases e2;show{o,e,ex.2.1}
  .ext(⟨o,_,_,_,e,ex,_⟩:I.hok p _ hk);show{{o,e,ex.1},λa e2=>?_};cases e2;show{o,e,ex.2.1}
 |_=>show j9 ty
def Ni(K:ζ)(T:String)(r:V->List V->Hp->VK->Prop)(to:TE):TE:=λσ H Q=>to σ H λx H1=>Nr K T x H1/\r x [] H1 Q
def NH(K:ζ)(T:String)(r:V->List V->Hp->VK->Prop)(to:TE)(t:TA):TE:=λσ H Q=>to σ H λx H1=>Nr K T x H1/\t σ H1 λxs H2=>r x xs H2 Q
variable{o e:ϲ}{es:List ϲ}{to:TE}{t:TA}{name:Str}{apos cpos:Pos}{T id:String}{r:V->List V->Hp->VK->Prop}
def pe_bm0(D:PlainAttrs T)(slot:Slot T name id)(B:typeOf (.builtin id)=pure (.type "method_descriptor"))(F:Et X id r)(ho:PE X o to)
  (z:autoParam (M6 o name X.env (eval o X.env)=eval o X.env) yR._auto_1) (q:autoParam ((apos.endLine==cpos.line)=Y) yR._auto_1):PE X (.Call (.Attribute o name apos) [] [] cpos) (Ni X.K T r to):=by
 intro pins s σ H Q I h;show wpAny_Call_method0_late z q (bn (ho pins s σ H _ I h) λv G ⟨x,H1,n,j,ty,a⟩=>?_);ext(⟨h1,h2⟩:Co n j ty);show{T,id,D,slot,B,h1,h2,OG U (PySem.evalArgs_none (F pins G σ H1 x [] v [] Q n j .nil a))}
def pe_bm(pa:PlainAttrs T)(slot:Slot T name id)(hty:typeOf (.builtin id)=pure (.type "method_descriptor"))(hm:Et X id r)(ho:PE X o to)(ha:PA X (e::es) t)
  (hbase:autoParam (M6 o name X.env (eval o X.env)=eval o X.env) yR._auto_1)
  (hfew:autoParam (((A5 cpos (Ϗ (e::es) X.env)).all (λx=>!x.1)&&(backToKw cpos (P3 [] X.env)).all (λx=>x.1.isSome)
   && decide ((e::es).length+([]:List Keyword).length+(if ([]:List Keyword).isEmpty then 0 else 1)<30))=Y) yR._auto_1)
  (hline:autoParam ((apos.endLine==cpos.line)=Y) yR._auto_1) (hs:autoParam (Ϗ (e::es) X.env=(Α,eval e X.env)::Ϗ es X.env) yR._auto_1) (hplain:autoParam ((A5 cpos (Ϗ es X.env)).any (·.1)=Α) yR._auto_1):
  PE X (.Call (.Attribute o name apos) (e::es) [] cpos) (NH X.K T r to t):=by
 intro pins s σ H Q I h;show wpAny_Call_method_late hbase hfew hline U (bn (ho pins s σ H _ I h) λv s1 ⟨x,H1,I1,r1,ty,q1⟩=>?_);ext(⟨h1,h2⟩:Co I1 r1 ty);show{T,id,pa,slot,hty,h1,h2,2};let hA:=ha cpos pins s1 σ H1 _ I1 q1;rw[hs]at hA⊢;show OG (by change(Α||(A5 cpos (Ϗ es X.env)).any (·.1))=Α;rw[hplain]<;>rfl) (Calls.evalArgs_plain ?_);show bn hA λus s2 ⟨vs,H2,I2,r2,q2⟩=>hm pins s2 σ H2 x vs v us Q I2 r1 r2 q2
end
def Ms(X:Cx)(id:String)(r:V->List V->Hp->VK->Prop):Prop:=
 ∀(pins:List (J×Obj))(s:ρ)(σ:St)(H:Hp)(x:V)(xs:List V)(v:θ)(us:List θ)(Q:VK),au X pins σ H s->aI x v->aE xs us->r x xs H Q ->
  Ο (ϊ X.prog X.w) X.A (call (.builtin id) (v::us)) (EP X pins σ Q) X.xe s
def aE.one(h:aE [x] us):∃u,us=[u]/\aI x u:=by
 cases h with
 |cons r t=>cases t;show{01,r}
def aE.zero:∀{us:List θ},aE [] us->us=[]
 |_,.nil=>rfl
def aE.dropLast(h:aE xs us):aE xs.dropLast us.dropLast:=by
 induction h with
 |nil=>show .nil
 |cons r t j=>
  cases t with
  |nil=>show .nil
  |cons q t'=>show .cons r j
def vY{α:Type}(l:List α):l.eraseIdx (l.length-1)=l.dropLast:=by
 induction l with
 |nil=>rfl
 |cons a r ih=>
  cases r with
  |nil=>rfl
  |cons b r=>
   let e:(a::b::r).length-1=((b::r).length-1)+1:=by let h1:(a::b::r).length=r.length+2:=U;let h2:(b::r).length=r.length+1:=U;omega
   rw[e,List.eraseIdx_cons_succ,ih];all_goals rfl
section
variable{X:Cx}{pins:List (J×Obj)}{σ:St}{H:Hp}{s:ρ}{l b:J}{xs ys zs:List V}
def au.lset{its its':List θ}{n:Nat}{f:Array θ->Array θ}{t':Nat}(I:au X pins σ H s)(z:H l=Z (.lst xs))
  (e:s.heap.get? l=Z {cls:=.type "list",data:=.seq its.toArray n}) (j:f its.toArray=its'.toArray) (B:aE ys its') (hz:ys.length<=Μ):
  au X pins σ (upd H l (.lst ys)) {s with heap:=s.heap.update l (F3 f),toks:=t'}:=by
 let q:=PySem.IsL.update e f;rw[j]at q;show I.write (by rw[z];show trivial) (.inl U) (λG u D F=>(ϝ s.heap (F3 f) (ϔ D)).trans F) {0,q} ?_;show{hz,its',0,B,q}
def au.lnew(I:au X pins σ H s)(j:aE ys its)(hz:ys.length<=Μ):
  au X pins σ (upd H s.heap.objs.size (.lst ys)) {s with heap:=s.heap.push {cls:=.type "list",data:=.seq its.toArray},toks:=t'}:=
 I.laid (λ_ _ q=>π _ q) (Β _) {hz,its,(0),j,Ξ _ U}
def au.fresh(I:au X pins σ H s):H s.heap.objs.size=χ:=I.hok.fresh (Β _)
def au.lstM(I:au X pins σ H s)(j:H l=Z (.lst xs)):xs.length<=Μ/\∃(its:List θ) (n:Nat),aE xs its/\xs.length=its.length/\s.heap.get? l=Z {cls:=.type "list",data:=.seq its.toArray n}:=by ext(⟨z,its,n,r,e⟩:I.hok l _ j);show{z,its,n,r,r.length,e}
def uV{n:Nat}(h:n<=Μ):A_ n=Α:=by unfold A_;show Q8 ()
end
section
variable{X:Cx}
inductive yV (x:V) (vs:List V) (H:Hp) (Q:VK):Prop|mk l xs y (_:x=.ref l) (_:vs=[y]) (_:H l=Z (.lst xs)) (_:xs.length<Μ) (_:Q .non (upd H l (.lst (xs++[y]))))
def bq:Ms X "list.append" yV:=by intro pins s σ H x vs v us Q I rx rv h;ext(⟨l,xs,y,rfl,rfl,hH,hz,q⟩:h);cases rx;ext(⟨u,rfl,ru⟩:rv.one);ext(⟨z,its,n,r,hl,e⟩:I.lstM hH);show K6 F.slot_list_append {0,e,1} F.entry_list_append (F.args_list_append_2 _ _) (PySem.list_append l its.toArray n u (by rw[Κ];omega)) {e,2};show{.non,0,I.lset (its':=its++[u]) hH e () (r.append (.cons ru .nil)) ?_,1,q};rw[Ι,j7];omega
inductive GN (x:V) (vs:List V) (H:Hp) (Q:VK):Prop|mk l b xs zs (_:x=.ref l) (_:vs=[.ref b]) (_:H l=Z (.lst xs)) (_:H b=Z (.lst zs)) (_:xs.length+zs.length<=Μ) (_:Q .non (upd H l (.lst (xs++zs))))
def ka:Ms X "list.extend" GN:=by
 ext pins s σ H x vs v us Q I c L ⟨l,b,xs,zs,rfl,rfl,B,R,hz,q⟩;cases c;ext(⟨u,rfl,N⟩:L.one);cases N;ext(⟨z,its,n,r,a,e⟩:I.lstM B);ext(⟨W,j,G,d,S,M⟩:I.lstM R);let hsz:its.toArray.size+j.toArray.size<=Μ:=by rw[Κ,Κ];omega
 let D:¬ (!its.toArray.isEmpty&&A_ (its.toArray.size+j.toArray.size))=Y:=by rw[uV hsz,Py];show ϋ
 show K6 F.slot_list_extend {0,e,1} F.entry_list_extend (F.args_list_extend_2 _ _)
  (AutoSeq1.list_extend_list_list_0 l its.toArray n b j.toArray G D (by rw[Κ];omega) ()) {e,M,2}
 show{.non,0,I.lset (its':=its++j) B e () (r.append d) ?_,1,q};rw[Ι];omega
inductive MZ (x:V) (vs:List V) (H:Hp) (Q:VK):Prop|mk l xs y (_:x=.ref l) (_:vs=[]) (_:H l=Z (.lst xs)) (_:xs[xs.length-1]?=Z y) (_:Q y (upd H l (.lst xs.dropLast)))
def wt:Ms X "list.pop" MZ:=by
 ext pins s σ H x vs v us Q I N L ⟨l,xs,y,rfl,rfl,j,G,q⟩;cases N;let B:=L.zero;subst B;ext(⟨z,its,n,r,b,e⟩:I.lstM j);ext(⟨u,a,M⟩:r.get G);let D:its.toArray[its.toArray.size-1]?=Z u:=by change its.toArray[its.length-1]?=Z u;rw[<-OS,<-b];show a
 show K6 F.slot_list_pop {0,e,1} F.entry_list_pop (F.args_list_pop_1 _) (MeetsSeq.list_pop_last l its.toArray n u D (by rw[Κ];omega)) {e,2};show{y,0,I.lset (its':=its.dropLast) j e ?_ r.dropLast ?_,M,q}
 .change its.toArray.eraseIdxIfInBounds (its.toArray.size-1)=its.dropLast.toArray;rw[Κ,List.eraseIdxIfInBounds_toArray,vY]
 .rw[List.length_dropLast];omega
inductive Nh (x:V) (y:V) (H:Hp) (Q:VK):Prop|mk l b xs zs (_:x=.ref l) (_:y=.ref b) (_:H l=Z (.lst xs)) (_:H b=Z (.lst zs)) (_:xs.length+zs.length<=Μ) (_:∀p,H p=χ->Q (.ref p) (upd H p (.lst (xs++zs))))
def iQ:fQ X (K4 .Add) Nh:=by intro pins s σ H x y v u Q I rx ry h;ext(⟨l,b,xs,zs,rfl,rfl,hH,hB,hz,q⟩:h);cases rx;cases ry;ext(⟨z,its,n,r,hl,e⟩:I.lstM hH);ext(⟨z2,its2,n2,r2,hl2,e2⟩:I.lstM hB);show PySem.P.add_list e e2 ?_ (by rw[Κ,Κ];omega);let ea:its.toArray++its2.toArray=(its++its2).toArray:=();rw[ea];show{.ref _,0,I.lnew (t':=s.toks) (r.append r2) (by rw[Ι];omega),1,q _ I.fresh}
end
section
variable{prog:Θ}{w:Χ}{A:Ϛ}{E:θ->ρ->Prop}{s:ρ}
end
section
variable{X:Cx}
end
end L2
namespace Att
open PySem PySem.W PySem.Calls PyProof.Rows
def lU:∀(j:List Int)(vs:List θ),WellAll P h vs (j.map WData.int)->IntsAre vs j:=by
 intro j;induction j with
 |nil=>intro vs w;rw[ϴ]at w;cases w;show .nil
 |cons n j q=>
  intro vs w;rw[Υ]at w;cases w with
  |cons a b=>cases a;show .cons _ _ (q _ b)
def Bd{l:OpenLaw}{n:Nat}(hn:l.most=Z n){P:Params}{h:ϖ}{args:List WData}{vals:List θ}
  (hpre:l.row.toRowW.claim.pre args=Y) (hwl:WellAll P h vals args):
  ∃a vs ns,vals=[Ψ a]/\args=[WData.list (ns.map WData.int)]/\h.get? a=Z {cls:=.type "list",data:=.seq vs.toArray}/\IntsAre vs ns/\ns.length<=n:=by
 let hc:l.pre.holds [] {args:=args}=Y:=(pre_splitW hpre).2;ext(⟨d,r,rfl,h1,h2⟩:hasAllW_cons ((pre_splitW hpre).1));ext(rfl:hasAllW_nil h2);ext(⟨xs,rfl,h3⟩:hasW_list h1);ext(⟨ns,rfl⟩:items_int h3);let hlen:ns.length<=n:=by
  let h4:(WTm.not (.lt (.lit (.int (n:Int))) (.len (.arg 0)))).holds [] {args:=[.list (ns.map .int)]}=Y:=by let h4:=(holds_andW hc).1;rw[hn]at h4;show h4
  let h5:=condW_of h4 (w_not (w_lt w_lit (w_len_list (w_arg U))));rw[ε]at h5;show Nat.le_of_not_lt λq=>?_;first
   |(rw[Q9 ()]at h5;show absurd h5 ())
   |(simp at h5;omega)
 cases hwl with
 |cons w1 w2=>
  cases w2;cases w1 with
  |list ho hall=>show{00,ns,11,ho,lU ns _ hall,hlen}
def AB(l:OpenLaw)(j:List WData):l.row.toRowW.claim.post j (.bool Y) j=Y:=
 postW_of
  (show WShape.has [] (.bool Y) .bool=Y by first|rfl|decide|simp[WShape.has,WShape.arms,WShape.armsAll])
  (w_eq_bool (w_res U) w_lit) U
def attach_call{l:OpenLaw}{n:Nat}{q:Θ}{L:List Str}{M:(Str->Option θ)->ϖ->Prop}{N:Χ->ϖ->Prop}{d:DefRec}
  (hn:l.most=Z n) (a2:d.params.defaults=[])
  (c:∀(w:Χ)(D j:ρ)(mg h:Str->Option θ)(fa:J)(o:Obj)(I z F:θ)(a:J)(vs:List θ)(B:List Int),
   Ground q L [] M w D mg h j.heap->N w j.heap ->
   j.heap.get? fa=Z o->o.data=.func (docDef d.name d.params d.body d.scope I z F)->j.heap.CodeRec z d.name->mg d.name=Z (.ref fa) ->
   j.heap.get? a=Z {cls:=.type "list",data:=.seq vs.toArray}->IntsAre vs B->B.length<=n->j.gens=#[] ->
   F7 (ϊ l.prog w) callerA (.call (.ref fa) {[.ref a],[]}) (λr s'=>r=.ok (.ret (.bool Y))/\OldK j.heap s'.heap/\s'.os=j.os/\Pc s'.gens) j):
  WalkO q L M N l.row.toRowW d [] (λf vs=>PySem.call f vs):=by
 intro w D j mg h G e fa o I z F dV kV ho hd a0 g a3 hg b5 b4 as S b3 b7 a1 b6;obtain rfl:dV=.none:=Dflts.none g a2;obtain rfl:kV=.none:=Dflts.noKw g;ext(⟨a,vs,B,rfl,rfl,W,R,b⟩:Bd hn S a1);show enter_call (C1 (c w D j mg h fa o I z F a vs B G e ho (fd_plain hd) a0 a3 W R b hg) λr s' hq=>?_);ext(⟨rfl,h2,h3,h4⟩:hq);show{.inl {.bool Y,.bool Y,[],1,λ_=>U,.bool Y,AB l _,λ_=>{List.Pairwise.nil,λ_ hm=>(nomatch hm)}},h2,h3,h4}
section
variable{prog:Θ}{w:Χ}{A:Ϛ}{E:θ->ρ->Prop}{s:ρ}{K:Frag}
def noObjs(h:ϖ):ϖ:={h with objs:=#[]}
def noObjs_get(h:ϖ)(b:J):(noObjs h).get? b=χ:=by
 cases e:(noObjs h).get? b with
 |none=>rfl
 |some o=>show absurd (Η e) (Nat.not_lt_zero _)
def fr_all(n:h.Ns L m):Fr (noObjs h) L h m:=
 {n,λb o e=>(by rw[noObjs_get]at e;cases e),Τ _}
end
end Att
namespace L2
open PySem PySem.Spec PyProof.Rows
def pL:∀{vs:List θ}{j:List Int},IntsAre vs j->aE (j.map V.int) vs
 |_,_,.nil=>.nil
 |_,_,.cons n t h=>.cons {t,1} (pL h)
def Jz(H:Hp):Prop:=∀b,H b=χ\/∃o xs,H b=Z (.frz o (.lst xs))
def Dh{P:Θ}{w:Χ}{K:ζ}{mg mb:Str->Option θ}{CX:vK}{k:Nat}{fa a:J}{fd:ό}{x:Str}{sp:Sp}{s₁:ρ}{vs:List θ}{ns:List Int}
  (KX:K.In s₁.heap) (hns:s₁.heap.Ns ώ mg) (hb:s₁.heap.Ns builtinsNs mb) (hbb:∀x:Str,x≠"__name__"->mb x=L5 x) (hlim:s₁.heap.NoLimit) (hg:s₁.gens=#[])
  (ha:s₁.heap.get? a=Z {cls:=.type "list",data:=.seq vs.toArray}) (hi:IntsAre vs ns) (hl:ns.length<=Μ) (hr:bU k callerA)
  (F:∀base:ϖ,K.In base->base.Ns ώ mg->ap P w K mg base CX k fa fd [x] sp) (hbind:∀(s:ρ)(u:θ),QG s fd {[u],[]} [(x,u)])
  (hsp:∀H:Hp,Jz H->aw K H a (ns.map V.int)->sp [.ref a] H (λv _=>v=.bl Y) λ_ _ _=>False)
  (hCX:∀H e s',CX [] H s₁ (λ_ _ _=>False) e s'->False):
  F7 (ϊ P w) callerA (.call (.ref fa) {[.ref a],[]}) (λr s'=>r=.ok (.ret (.bool Y))/\OldK s₁.heap s'.heap/\s'.os=s₁.os/\Pc s'.gens) s₁:=by
 let rv:=pL hi;let lenV:=hi.length;let core:∀H:Hp,Jz H->aw K H a (ns.map V.int)->gC P w H s₁.heap->(∀b,H b≠χ->b=a)->(H a≠χ->K.lookup a=χ) ->
   F7 (ϊ P w) callerA (.call (.ref fa) {[.ref a],[]}) (λr s'=>r=.ok (.ret (.bool Y))/\OldK s₁.heap s'.heap/\s'.os=s₁.os/\Pc s'.gens) s₁:=by
  intro H hO hS hok hA hK;let base_of:∀{b:J}{o:Obj},s₁.heap.get? b=Z o->H b=χ->(rJ s₁.heap H).get? b=Z o:=λe n=>CS e n;let noA:∀{b:J}{o:Obj}{es:Array QF}{ep:Nat},s₁.heap.get? b=Z o->o.data=.dict es ep->H b=χ:=λ{b o es ep} e d=>by
   cases q:H b with
   |none=>rfl
   |some u=>have e':b=a:=hA b (by rw[q];simp);subst e';rw[ha]at e;cases e;let d':QN vs.toArray _=Data.dict es ep:=d;cases d'
  let nsK:∀{b:J}{m:Str->Option θ},s₁.heap.Ns b m->(rJ s₁.heap H).Ns b m:=λ{b m} ⟨o,es,ep,e,d,r⟩=>{o,es,ep,base_of e (noA e d),d,r};let hKb:K.In (rJ s₁.heap H):=λb o e=>base_of (KX b o e) (by
   cases q:H b with
   |none=>rfl
   |some u=>have e':b=a:=hA b (by rw[q];simp);subst e';rw[hK (by rw[q];simp)]at e;cases e)
  let hM:Mod K mg (rJ s₁.heap H):={hKb,nsK hns,{mb,nsK hb,hbb},let ⟨mc,h1,h2⟩:=hlim;{mc,nsK h1,h2}};let e0:wq P w K mg (rJ s₁.heap H) callerA [] s₁ H:={1,hM,λb o e=>GQ e,Nat.le_of_eq (zQ _ _),trivial,λb hb=>absurd (show b∈([]:List J)from hb) (),hok,.of_eq hg};show C1 ((F _ hKb (nsK hns)).run callerA [] s₁ H {[.ref a],[]} [.ref a] [.ref a] _ _ hr e0 (hbind s₁ (.ref a)) (.cons U .nil) (hsp H hO hS)) λr s' h=>?_;cases r with
  |error e=>show(hCX H e s' h).elim
  |ok fl=>
   cases fl with
   |next=>show j9 h
   |brk=>show j9 h
   |cont=>show j9 h
   |ret u=>
    ext(⟨v,H',os,bare,un,hok',r',q⟩:h);let q':v=.bl Y:=q;subst q';obtain rfl:u=N5 Y:=r';show{1,OldK.of_keep λb o e=>?_,os,bare};cases q:H b with
    |none=>show un.keep b o e q (by intro z;show absurd (show b∈([]:List J)from z) ()) ()
    |some u=>
     rcases hO b with z|⟨ob,xs,z⟩
     .rw[q]at z;cases z
     .let z2:=un.frzs b ob _ z;ext(⟨e1,_⟩:hok b _ z);ext(⟨e2,_⟩:hok' b _ z2);rw[e]at e1;cases e1;show e2
 cases hk:K.lookup a with
 |some o=>have e:=KX a o hk;rw[ha]at e;cases e;show core (λ_=>χ) (λ_=>.inl U) (.inr {0,vs.toArray,0,hk,111,by rw[Κ,lenV];show hl,↑rv}) (λb u z=>by let z':(χ:Option HO)=Z u:=z;cases z') (λb z=>absurd U z) λz=>absurd U z
 |none=>
  show core (λb=>if b=a then Z (.frz {cls:=.type "list",data:=.seq vs.toArray} (.lst (ns.map V.int)))else χ) (λb=>?_) (.inl (.inr {{cls:=.type "list",data:=.seq vs.toArray},Q5 U})) (λb u z=>?_) (λb z=>?_) λ_=>hk
  .by_cases hb:b=a
   .show .inr {00,Q5 hb}
   .show .inl (Q6 hb)
  .by_cases hb:b=a
   .let z':=(Q5 hb).symm.trans z;cases z';subst hb;show{ha,by rw[ε];show hl,vs,0,rv,ha}
   .let z':=(Q6 hb).symm.trans z;cases z'
  .by_cases hb:b=a
   .show hb
   .show absurd (Q6 hb) z
def walk_of{l:Qv}{n k:Nat}{q:Θ}{I:List Str}{XP:(Str->Option θ)->ϖ->Prop}{B:Χ->ϖ->Prop}{d:DefRec}{K:Params->ζ}{CX:Χ->vK}{sp:Χ->Sp}{x:Str}
  (hn:l.most=Z n) (N:n<=Μ) (S:d.params.defaults=[]) (hr:bU k callerA)
  (i:∀(w:Χ)(h:ϖ),B w h->(K w.params).In h)
  (F:∀(w:Χ)(mg:Str->Option θ)(fa:J)(h:ϖ),(K w.params).In h->h.Ns ώ mg->mg d.name=Z (.ref fa) ->
   ∃fd:ό,(∀(s:ρ)(u:θ),QG s fd {[u],[]} [(x,u)]) /\
    ∀base:ϖ,(K w.params).In base->base.Ns ώ mg->ap l.prog w (K w.params) mg base (CX w) k fa fd [x] (sp w))
  (p:∀(w:Χ)(H:Hp)(a:J)(j:List Int),j.length<=n->Jz H->aw (K w.params) H a (j.map V.int)->sp w [.ref a] H (λv _=>v=.bl Y) λ_ _ _=>False)
  (R:∀(w:Χ)(H:Hp)(s:ρ)(e:θ)(s':ρ),CX w [] H s (λ_ _ _=>False) e s'->False):
  PySem.W.WalkO q I XP B l.row.toRowW d [] (λf vs=>PySem.call f vs):=by
 show Att.attach_call hn S λw a7 M mg mb fa o pm cd a9 a vs j G m ho hd a8 c L r z hg=>?_;let D:=i w _ m;ext(⟨fd,hb,W⟩:F w mg fa _ D G.T.g c);show Dh D G.T.g G.T.b G.T.builtins G.T.nolimit hg L r (ϩ z N) hr W hb (λH hO hS=>p w H a j z hO hS) λH e s'=>R w H M e s'
def bQ(s:ϯ):Arguments:=match s with
 |.FunctionDef _ a _ _ _ _ _ _ _ _=>a
 |_=>{posonlyargs:=[],args:=[],vararg:=χ,kwonlyargs:=[],kw_defaults:=[],kwarg:=χ,defaults:=[]}
def bt(s:ϯ):List ϯ:=match s with
 |.FunctionDef _ _ b _ _ _ _ _ _ _=>b
 |_=>[]
def ax(s:ϯ):OA:=match s with
 |.FunctionDef _ _ _ _ _ _ sc _ _ _=>sc
 |_=>{kind:=.function,names:=[],isGenerator:=Α,isCoroutine:=Α}
abbrev aY:vK:=λ_ _ _ _ _ _=>False
abbrev E0:XK:=λ_ _ _=>False
def gq{X:Cx}:dh aY X E0:=λ_ _ _ _ _ _ _ h=>h.elim
structure Fun(K:ζ)(x qual:Str)(st:ϯ)(f:J)(fd:ό):Prop where
 ex:∃(oc:θ) (od:Option J) (kV doc pm:θ) (an:Option J) (cdv ct:θ) (osl:Array (Option θ)),
  fd=h_ x qual (bQ st) (bt st) (ax st) .none kV doc pm an cdv ct/\K.lookup f=Z ⟨oc,od,.func fd,osl⟩/\A0 K cdv qual=Y
 kp:ϥ K (.ref f)=Y
section
variable{P:Θ}{w:Χ}{K:ζ}{mg:Str->Option θ}{base:ϖ}
def Fun.ok{x qual:Str}{st:ϯ}{f:J}{fd:ό}{N ps:List Str}{k:Nat}{sp:Sp}(F:Fun K x qual st f fd)(S:ci N ps (ax st))(len:∀vs H Q E,sp vs H Q E->vs.length=ps.length)
  (hbody:∀(cdv:θ)(A:Ϛ)(outer:List Env)(s:ρ)(H:Hp)(vs:List V)(Q:VK)(E:XK),bU k (A.deeper (envOfC qual (ax st) s.heap.objs.size f cdv))->sp vs H Q E ->
   ∃t,kl (be aY P w K mg base N qual (ax st) f cdv A outer s H E).nox (bt st) t/\t {nx:=λ_ H'=>Q .non H',rt:=Q} (gO N vs) H):ap P w K mg base aY (k+1) f fd ps sp:=by
 ext(⟨oc,od,kV,doc,pm,an,cdv,ct,osl,rfl,lk,hcd⟩:F.ex);show Bs lk hcd S len λA outer s H vs Q E hr hsp=>?_;ext(⟨t,h,q⟩:hbody cdv A outer s H vs Q E hr hsp);show{t,h.nox,q}
def Fun.binds{x G:Str}{st:ϯ}{f:J}{fd:ό}{ps:List Str}(F:Fun K x G st f fd)
  (h:∀(D j z:θ)(B:Option J)(n q:θ)(us:List θ),us.length=ps.length->bindArgs (h_ x G (bQ st) (bt st) (ax st) .none D j z B n q) {us,[]}=pure (ps.zip us)):bo K fd ps []:=by
 ext(⟨M,L,D,j,z,B,n,q,a,rfl,N,I⟩:F.ex);show .all (h D j z B n q)
def nZ{x j:Str}{st:ϯ}{f:J}{I:θ}{a z:Option J}{G:Array (Option θ)}{B q F n D:θ}(l:K.lookup f=Z {I,a,.func (h_ x j (bQ st) (bt st) (ax st) .none B q F z n D),G})
  (c:A0 K n j=Y) (k:ϥ K (.ref f)=Y):Fun K x j st f (h_ x j (bQ st) (bt st) (ax st) .none B q F z n D):={{I,a,B,q,F,z,n,D,G,1,l,c},k}
end
def yM{A:Ϛ}{k:Nat}(hr:bU k A):A.units+1<B8:=Nat.lt_of_le_of_lt (Nat.add_le_add_left (by decide:1<=64) _) hr.units
section
variable{X:Cx}
def pv(i:Nat){x:Str}{pos:Pos}(q:autoParam (X.N[i]?=Z x) yR._auto_1)(n:autoParam (JT X.env.scope x) yF._auto_1)(z:autoParam ((x==("__debug__" : Str))=Α) yD._auto_1)
  (j:autoParam ((x==("__classdict__" : Str))=Α) yD._auto_1):PE X (.Name x pos) (km i):=CG q n z j
end
def aD{A B:Prop}(h:B):if Α=Y then A else B:=by rw[Q6 ϋ];show h
def aA{A B:Prop}(h:A):if Y=Y then A else B:=by rw[Q5 U];show h
def aj{c A B:Prop}[Decidable c](h1:c->A)(h2:¬ c->B):if c then A else B:=by
 by_cases h:c
 .rw[Q5 h];show h1 h
 .rw[Q6 h];show h2 h
def GY{c A B:Prop}[Decidable c](hc:c)(h:B):if (!decide c)=Y then A else B:=by rw[Q9 hc];show aD h
def ae(H H':Hp):Prop:=∀b o,H b=Z o->H' b=Z o
def ae.refl(H:Hp):ae H H:=λ_ _ h=>h
def ae.trans{H H1 H2:Hp}(a:ae H H1)(b:ae H1 H2):ae H H2:=λc o h=>b c o (a c o h)
def ae.free{H H':Hp}(e:ae H H'){l:J}(h:H' l=Option.none):H l=Option.none:=by
 cases q:H l with
 |none=>rfl
 |some o=>rw[e l o q]at h;cases h
def ae.seq{K:ζ}{H H':Hp}{a:J}{xs:List V}(e:ae H H')(h:aw K H a xs):aw K H' a xs:=by
 rcases h with (h|⟨o,h⟩)|h
 .show .inl (.inl (e _ _ h))
 .show .inl (.inr {o,e _ _ h})
 .show .inr h
section
variable{κ:Type}[DecidableEq κ]
end
def EF(I:Nat->ρ->Prop)
  (t:∀n s,I n s->Ο (ϊ prog w) A (QA it) (λr d=>match r with
   |none=>R (.ok .next) d
   |some v=>Ο (ϊ prog w) A (letOwnedTupleGo target it v) (λ_ g=>Ο (ϊ prog w) A (assign target env v) (λ_ i=>
     Ο (ϊ prog w) A (forIn ifs Y λc r=>if r=Y then do let b <-isTrue c env (eval c env);pure (J5 b)else pure (J5 r)) (λb f=>
      if b=Y then Ο (ϊ prog w) A (eval elt env) (λx l=>
       Ο (ϊ prog w) A (call (.builtin "list.append") [acc,x]) (λ_ j=>∃m,m<n/\I m j) (λ_ _=>False) l) (notedBy (ϊ prog w) A env λe B=>R (.error e) B) f
      else ∃m,m<n/\I m f) (λ_ _=>False) i) (λ_ _=>False) g) (λ_ _=>False) d) (λ_ _=>False) s)
  (n:Nat) (h:I n s):
  F7 (ϊ prog w) A (.compLoop (.ListComp elt [{target,iter,ifs,(0)}] scope pos) 0 it acc env) R s:=by
 show codeAny_loop U I (λn s y=>?_) n h;change Ο _ A ((compTurn (.ListComp elt [{target,iter,ifs,(0)}] scope pos) 0 it acc env).onRaise (λx=>do noteFrame x env;theTreesLotGoes x)) _ _ s;show wpAny_noted ?_;rw[compTurn_list];let a:∀{E:θ->ρ->Prop}(x:θ)(s:ρ),False->E x s:=λ_ _ z=>z.elim;show η (OY (η (i7 (t n s y) (λr d h₁=>?_) a)));cases r with
 |none=>show ω h₁
 |some v=>
  show η (i7 h₁ (λ_ g o=>?_) a);show η (i7 o (λ_ i q=>η (i7 q (λb f k=>?_) a)) a);cases b with
  |false=>show ω {1,k}
  |true=>show η (η (i7 k (λx l u=>η (i7 u (λ_ j p=>ω (ω {1,p})) a)) λ_ _ z=>z))
def bi(env:Env):List (Str×K5)->List (Str×J)->List (Str×J)
 |[],a=>a
 |(n,k)::r,a=>if k=.free then bi env r (match env.cells.lookup n with|some c=>(n,c)::a|none=>a)else bi env r a
def vd(h:∀x∈d.names,x.2=.free->∃c,env.cells.lookup x.1=Z c):closureFor d env=pure (bi env d.names []):=by
 let p:∀(l:List (Str×K5))(b:List (Str×J)),(∀x∈l,x.2=ϟ->∃c,env.cells.lookup x.1=Z c) ->
   (forIn l b λx j=>(do
    if x.2==ϟ then
     let a <-cellOf env x.1
     pure (J5 ((x.1,a)::j))
    else pure (J5 j):Sem _))=pure (bi env l b):=by
  intro l;induction l with
  |nil=>intro b _;rfl
  |cons x r g=>
   intro b m;ext(⟨n,k⟩:x);let o:=λy s=>m y (ς _ s);rw[Qw];by_cases f:k=.free
   .subst f;ext(⟨c,i⟩:m (n,.free) Γ U);simp only[beq_self_eq_true,if_true,bi];let e:cellOf env n=pure c:=by unfold cellOf;rw[show env.cells.lookup n=Z c from i]
    rw[e];simp only[pure_bind];rw[g _ o,show env.cells.lookup n=Z c from i]
   .let q:(k==ϟ)=Α:=↑f
    simp only[q,Pz,if_false,bi,Q6 f,pure_bind];show g _ o
 show(congrArg (λt:Sem (List (Str×J))=>t>>=pure) (p d.names [] h)).trans ()
def bY:∀(l:List (Str×K5))(b:List (Str×J)),(∀n c,b.lookup n=Z c->env.cells.lookup n=Z c)->∀n c,(bi env l b).lookup n=Z c->env.cells.lookup n=Z c
 |[],b,h,n,c,e=>h n c e
 |(m,k)::r,b,h,n,c,e=>by
  unfold bi at e;split at e
  .show bY r _ ?_ n c e;intro d f a;split at a
   .rename_i j g;rw[ϰ]at a;split at a
    .rename_i i;let:d=m:=↑i
     subst this;cases a;show g
    .show h d f a
   .show h d f a
  .show bY r _ h n c e
def gc:∀(l:List (Str×K5))(a:List (Str×J)),(∃c,a.lookup n=Z c)->∃c,(bi env l a).lookup n=Z c
 |[],a,h=>h
 |(m,k)::r,a,h=>by
  unfold bi;split
  .show gc r _ ?_;ext(⟨c,b⟩:h);split
   .rw[ϰ];split
    .show{01}
    .show{c,b}
   .show{c,b}
  .show gc r _ h
def en(a:∃c,env.cells.lookup n=Z c):∀(l:List (Str×K5))(b:List (Str×J)),(n,ϟ)∈l->∃c,(bi env l b).lookup n=Z c
 |[],_,h=>by cases h
 |(m,k)::r,b,h=>by
  ext(⟨c,a⟩:a);unfold bi;rcases ν.mp h with e|h
  .cases e;rw[Q5 U,a];show gc r _ {c,3}
  .split
   .show en {c,a} r _ h
   .show en {c,a} r _ h
def Cx.comp(X:Cx)(N:List Str)(a:OA)(b:List J)(s:ρ)(H:Hp):Cx where
 prog:=X.prog
 w:=X.w
 K:=X.K
 mg:=X.mg
 base:=X.base
 A:=X.A
 N:=N
 s₀:=s
 H₀:=H
 env:=compEnvC a (bi X.env a.names []) (s.heap.objs.size+1) X.env
 outer:=X.stack
 stack:=X.stack
 ex:=b
 calm:=X.calm
 fn:=λ_=>Α
 pn:=[]
 xe:=λ_ _=>False
def eQ(k:Nat)(ix:List Nat)(σ:St):St:=y_ k χ++ix.map λj=>(σ[j]?).join
structure dI(N:List Str)(sc:OA)(scope:OA)(own:List Str)(ix:List Nat):Prop where
 kind:scope.kind=.function
 nocell:∀y∈scope.names,y.2≠.cell
 names:∀y∈scope.names,y.2=.local->scope.names.lookup y.1=Z .local
 free:∀y∈scope.names,y.2=.free->sc.names.lookup y.1=Z .cell\/sc.names.lookup y.1=Z .free
 cap:∀j∈ix,∀x,N[j]?=Z x->(x,ϟ)∈scope.names/\(scope.names.lookup x=Z .free)
 inN:∀j∈ix,j<N.length
abbrev iH(N own:List Str)(ix:List Nat):List Str:=own++ix.filterMap λj=>N[j]?
def EA(h:∀j∈ix,j<N.length):(iH N own ix).length=own.length+ix.length:=by
 rw[Ι];congr 1;induction ix with
 |nil=>rfl
 |cons j r a=>rw[B7,Δ (h j Γ)];change _+1=_+1;rw[a λi b=>h i (ς _ b)]
def iw{N:List Str}:∀{ix:List Nat},(∀j∈ix,j<N.length)->∀{i:Nat}{x:Str},(ix.filterMap λj=>N[j]?)[i]?=Z x->∃j,ix[i]?=Z j/\N[j]?=Z x
 |[],_,i,x,e=>by simp at e
 |j::r,h,i,x,e=>by
  let a:j<N.length:=h j Γ;rw[B7,Δ a]at e;cases i with
  |zero=>show{j,12};rw[Δ a];show e
  |succ i=>obtain⟨b,f,d⟩:=iw (λi c=>h i (ς _ c)) (↑e);show{b,↑f,d}
def qo(h:(eQ k ix σ)[i]?=Z (Z v)):∃b j,i=k+b/\ix[b]?=Z j/\σ[j]?=Z (Z v):=by
 unfold eQ at h;by_cases a:i<k
 .rw[L8 (↑a),List.getElem?_replicate,Q5 a]at h;cases h
 .rw[z_ (↑a),E1,ϐ]at h;show{i-k,2};cases e:ix[i-k]? with
  |none=>rw[e]at h;cases h
  |some j=>
   rw[e]at h;show{j,312};let h':(σ[j]?).join=Z v:=↑h
   cases q:σ[j]? with
   |none=>rw[q]at h';cases h'
   |some o=>rw[q]at h';show congrArg Z h'
def ee{env:Env}{x:Str}:∀{names:List (Str×K5)},names.lookup x=Z .free ->
  (names.map λ(n,k)=>if (k==ϟ&&env.scope.kind==.function&&env.kindOf n==Z .cell)then (n,y9)else (n,k)).lookup x=Z .cell \/
  (names.map λ(n,k)=>if (k==ϟ&&env.scope.kind==.function&&env.kindOf n==Z .cell)then (n,y9)else (n,k)).lookup x=Z .free
 |[],h=>by simp at h
 |(n,k)::r,h=>by
  let c:=@ee env x r;rw[Υ];change j6 x ((if (k==ϟ&&env.scope.kind==.function&&env.kindOf n==Z .cell)=Y then (n,y9)else (n,k))::_)=_\/j6 x ((if (k==ϟ&&env.scope.kind==.function&&env.kindOf n==Z .cell)=Y then (n,y9)else (n,k))::_)=_;cases a:x==n with
  |true=>
   simp only[ϰ,a]at h;cases h;by_cases b:(ϟ==ϟ&&env.scope.kind==.function&&env.kindOf n==Z .cell)=Y
   .rw[Q5 b];left;simp only[ϰ,a]
   .rw[Q6 b];right;simp only[ϰ,a]
  |false=>
   simp only[ϰ,a]at h;by_cases b:(k==ϟ&&env.scope.kind==.function&&env.kindOf n==Z .cell)=Y
   .rw[Q5 b];simp only[ϰ,a];show c h
   .rw[Q6 b];simp only[ϰ,a];show c h
def dU{env:Env}{x:Str}{b:K5}:∀{names:List (Str×K5)},
  (names.map λ(n,k)=>if (k==ϟ&&env.scope.kind==.function&&env.kindOf n==Z .cell)then (n,y9)else (n,k)).lookup x=Z b->(b=.cell\/b=.free)->(∀y∈names,y.2≠.cell) ->
  (x,ϟ)∈names
 |[],h,_,_=>by simp at h
 |(n,k)::r,h,hk,hc=>by
  let g:=@dU env x b r;rw[Υ]at h;let f:=λy j=>hc y (ς _ j);by_cases d:k=.free
  .subst d;cases c:x==n with
   |true=>
    let:x=n:=↑c
    subst this;show Γ
   |false=>
    show ς _ (g ?_ hk f);by_cases e:(ϟ==ϟ&&env.scope.kind==.function&&env.kindOf n==Z .cell)=Y
    .let a:j6 x ((if (ϟ==ϟ&&env.scope.kind==.function&&env.kindOf n==Z .cell)=Y then (n,y9)else (n,ϟ))::r.map λ(n,k)=>if (k==ϟ&&env.scope.kind==.function&&env.kindOf n==Z .cell)then (n,y9)else (n,k))=Z b:=h;rw[Q5 e,ϰ,c]at a;show a
    .let a:j6 x ((if (ϟ==ϟ&&env.scope.kind==.function&&env.kindOf n==Z .cell)=Y then (n,y9)else (n,ϟ))::r.map λ(n,k)=>if (k==ϟ&&env.scope.kind==.function&&env.kindOf n==Z .cell)then (n,y9)else (n,k))=Z b:=h;rw[Q6 e,ϰ,c]at a;show a
  .let i:(k==ϟ)=Α:=↑d
   let a:j6 x ((if (k==ϟ&&env.scope.kind==.function&&env.kindOf n==Z .cell)=Y then (n,y9)else (n,k))::r.map λ(n,k)=>if (k==ϟ&&env.scope.kind==.function&&env.kindOf n==Z .cell)then (n,y9)else (n,k))=Z b:=h;rw[i,j_,j_,Q6 ϋ,ϰ]at a;cases c:x==n with
   |true=>
    rw[c]at a;cases a;rcases hk with z|z
    .show absurd z (hc (n,_) Γ)
    .show absurd z d
   |false=>rw[c]at a;show ς _ (g a hk f)
def zp{a b:Nat}(h:a<b):a≠b:=Ϙ h
def Ml{a b:Nat}(h:a<b):b≠a:=u9 h
def xz(h:a<b):a≠b+1:=Ϙ (E9 h)
def Nc(h:a<b):b+1≠a:=u9 (E9 h)
def Mx(a:Nat):a≠a+1:=Ϙ (G4 a)
def Lw(a:Nat):a+1≠a:=u9 (G4 a)
section
variable{X:Cx}{pins:List (J×Obj)}{σ:St}{H:Hp}{s:ρ}{scope:OA}{own:List Str}{ix:List Nat}{fp:List J}
def au.compOk(I:au X pins σ H s)(L:dI X.N X.env.scope scope own ix)(f:∀b∈fp,lW X pins H b)(i:∀b∈fp,b<s.heap.objs.size):(X.comp N scope fp s H).Ok where
 mod:=I.ok.mod
 kind:=L.kind
 glob:=I.ok.glob
 blt:=I.ok.blt
 above:=x9 _
 inj:=λx y c k j=>I.ok.inj x y c (bY _ _ (λ_ _ z=>by simp at z) x c k) (bY _ _ (λ_ _ z=>by simp at z) y c j)
 has:=λx d=>by
  let g:(x,ϟ)∈scope.names:=by
   rcases d with d|d
   .show dU d (.inl U) L.nocell
   .show dU d (.inr U) L.nocell
  show en (I.ok.has x (L.free _ g U)) _ _ g
 cab:=λx c h=>by cases h
 hd:=I.ok.hd
 frames:=I.ok.frames
 stk:=.inl U
 exf:=λb a=>{xz (i b a),λx c e=>(f b a).2.2.2.2.1 x c (bY _ _ (λ_ _ z=>by simp at z) x c e)}
 bs:=I.bs
 bsz:=ϩ I.ok.bsz I.sz
 noex:=λb o e a=>by
  rcases(f b a).2.2.2.1 with z|z
  .show I.ok.noex b o e z
  .show absurd (Ϝ (Η e) (ϩ I.ok.bsz z)) (E_ _)
 exfs:=λb a z=>by
  rcases ν.mp (I.stkSub b z)with e|e
  .show(f b a).2.1 e
  .show(f b a).2.2.1 e
 funs:=I.stack
 frf:=I.stkFree
def au.compStart(I:au X pins σ H s)(L:dI X.N X.env.scope scope own ix)(S:∀b∈fp,lW X pins H b)(K:∀b∈fp,b<s.heap.objs.size)
  (k:∀b o,s.heap.get? b=Z o->B.get? b=Z o) (T:B.Ns (s.heap.objs.size+1) m):
  au (X.comp (iH X.N own ix) scope fp s H) [] (eQ own.length ix σ) H {s with heap:=B,toks:=tk}:=by
 let a:=λx c=>bY (env:=X.env) scope.names [] (λ_ _ z=>by simp at z) x c;show{I.compOk L S K,1,I.bare,Un.kept k,{m,T,λi x v u2 M V=>?_},λx c e=>?_,I.hok.fresh (x9 _),λx c e=>I.freeC x c (a x c e),λp P=>absurd (show p∈([]:List (J×Obj))from P) (),I.hok.kept k,2}
 .ext(⟨N,j,rfl,E,Q⟩:qo M);let A:(iH X.N own ix)[own.length+N]?=Z x:=u2;rw[z_ (q_ _ _),Nat.add_sub_cancel_left]at A;ext(⟨u1,w,C⟩:iw L.inN A);rw[E]at w;cases w;ext(⟨n,u3⟩:L.cap j (Ν E) x C);let h:=L.free _ n U;ext(⟨W,u0,G⟩:I.loc);obtain⟨u,r,l⟩:=G j x v C Q (by rcases h with z|z;show .inr (.inl z);show .inr (.inr z));show{u,r,.inr {22}}
  .show ee u3
  .rcases l with ⟨R,_⟩|⟨_,c,D,F⟩
   .let t:X.env.scope.names.lookup x=Z .local:=R;rcases h with z|z
    .rw[t]at z;cases z
    .rw[t]at z;cases z
   .ext(⟨f,y⟩:en {c,D} scope.names [] n);let:f=c:=by let q:=a x f y;rw[D]at q;show(Ϟ q).symm
    subst this;ext(⟨o,g,d⟩:F);show{f,y,o,k _ _ g,d}
 .ext(⟨v,o,g,d⟩:I.cell x c (a x c e));show{v,o,k _ _ g,d}
 .change(eQ own.length ix σ).length=(iH X.N own ix).length;rw[EA L.inN];unfold eQ;rw[Ι,E1,ε]
def GW(k:Nat)(g:TG):Prop:=∀x (σ:St) H (Q:St->Hp->Prop),g x σ H Q->g x σ H λa b=>Q a b/\a.length=σ.length/\∀j,k<=j->a[j]?=σ[j]?
def aZ(h:i<k):GW k (dZ i):=λx σ H Q q=>{q,3,λj a=>by rw[K3 ()]}
def Mm(k:Nat)(g:Ka):Prop:=∀x (σ:St) H (Q:St->Hp->Prop),g x σ H Q->g x σ H λa b=>Q a b/\a.length=σ.length/\∀j,k<=j->a[j]?=σ[j]?
def GM(g:TG):Prop:=∀x (σ:St) H (Q a:St->Hp->Prop),(∀s h,Q s h->a s h)->g x σ H Q->g x σ H a
def sU:GM (dZ i):=λ_ _ _ _ _ h q=>h _ _ q
def FT:Mm k An:=λx σ H Q q=>{q.1,q.2,1,λ_ _=>U}
def vf(n:GW k t)(m:Mm k u)(o:GM t)(l:∀x (σ:St) H (Q a:St->Hp->Prop),(∀s h,Q s h->a s h)->u x σ H Q->u x σ H a):Mm k (kU t u):=λx σ H Q q=>by ext(⟨v,r,e,q⟩:q);show{v,r,e,o _ _ _ _ _ ?_ (n _ _ _ _ q)};ext y A ⟨d,f,c⟩;show l _ _ _ _ _ ?_ (m _ _ _ _ d);ext w z ⟨i,p,g⟩;show{i,p.trans f,λj b=>(g j b).trans (c j b)}
def zo:∀x (σ:St) H (Q a:St->Hp->Prop),(∀s h,Q s h->a s h)->An x σ H Q->An x σ H a:=λ_ _ _ _ _ h q=>{q.1,h _ _ q.2}
def CI(c:GM t)(d:∀x (σ:St) H (Q a:St->Hp->Prop),(∀s h,Q s h->a s h)->u x σ H Q->u x σ H a):∀x (σ:St) H (Q a:St->Hp->Prop),(∀s h,Q s h->a s h)->kU t u x σ H Q->kU t u x σ H a:=
 λ_ _ _ _ _ h ⟨v,r,e,q⟩=>{v,r,e,c _ _ _ _ _ (λ_ _ b=>d _ _ _ _ _ h b) q}
def JN{k:Nat}{K:ζ}{n:Nat}{t:Ka}(c:Mm k t):GW k (Gd K n t):=λx σ H Q q=>by ext(⟨a,xs,e,b,d,q⟩:q);show{a,xs,e,b,d,c _ _ _ _ q}
def iP{K:ζ}{i j k:Nat}(b:i<k)(a:j<k):GW k (Gd K 2 (kU (dZ i) (kU (dZ j) An))):=
 JN (vf (aZ b) (vf (aZ a) FT sU zo) sU (CI sU zo))
def Jl(X:Cx)(a:List ϲ)(t:TT):Prop:=
 ∀(pins:List (J×Obj))(s:ρ)(σ:St)(H:Hp)(Q:Bool->Hp->Prop),au X pins σ H s->t σ H Q ->
  Ο (ϊ X.prog X.w) X.A (forIn a Y λc r=>if r=Y then do let b <-isTrue c X.env (eval c X.env);pure (J5 b)else pure (J5 r)) (TP X pins σ Q) X.xe s
def Cc:TT:=λ_ H Q=>Q Y H
def pif_nil:Jl X [] Cc:=λ_ _ _ H _ I h=>wpAny_tests_nil {H,I,h}
def zI(h:PT X c t):Jl X [c] t:=λpins s σ H Q I q=>wpAny_tests_one (h pins s σ H Q I q)
def Ck(o:It)(k:Nat)(ix:List Nat)(g:TG)(l:TT)(f:TE)(σ:St)(n:Hp)(Q:List V->Hp->Prop):Prop:=
 ∃W:Nat->Nat->List V->Hp->Prop,(∃m,W 0 m [] n)/\∀i m ys H,W i m ys H ->
  (o.stop i H/\Q ys H) \/
  (o.go i H/\∃N:List V->Hp->Prop,(∀a H',N a H'->∃e,e<m/\W (i+1) e a H')/\∀x H',o.yld i H x H'->g x (eQ k ix σ) H' λb j=>l b j λc d=>
   if c=Y then f b d λy h=>ys.length<Μ/\N (ys++[y]) h
   else N ys d)
def nQ{C:Cx->Prop}{u3 K a2:ϲ}{M:List ϲ}{pos:Pos}{it:J}{u2:Nat->ϖ->Prop}{u4:It}{g:TG}{tt:TT}{te:TE}{E:θ->ρ->Prop}{Qf:List V->Hp->Prop}{RR:θ->J->QJ->ρ->Prop}
  (L:dI X.N X.env.scope scope own ix) (hc:C (X.comp (iH X.N own ix) scope fp s H)) (hg:∀fp s H,PG (X.comp (iH X.N own ix) scope fp s H) K g) (gw:GW own.length g)
  (ht:∀fp s H,Jl (X.comp (iH X.N own ix) scope fp s H) M tt) (he:PE ((X.comp (iH X.N own ix) scope fp s H).wish (notedBy (ϊ X.prog X.w) X.A (X.comp (iH X.N own ix) scope fp s H).env λe h=>RR (.ref s.heap.objs.size) (s.heap.objs.size+1) (.error e) h)) u3 te)
  (I:au X pins σ H s) (T:Ht C X.prog X.w X.K K u4 fp it u2) (st:u2 0 s.heap) (hf:∀b∈fp,lW X pins H b)
  (hw:Ck u4 own.length ix g tt te σ H Qf)
  (f0:∀(D C:J)(h:ρ)(ys:List V)(H':Hp)(m:Str->Option θ),h.heap.Ns C m->C≠X.env.locals->(∀x c,X.env.cells.lookup x=Z c->c≠C)->X.s₀.heap.objs.size<=C->(∀p∈X.pn++pins,p.1≠C)->upd H' D (.lst ys) C=χ->H' D=χ ->
   au X pins σ (upd H' D (.lst ys)) h->Qf ys H'->RR (.ref D) C (.ok .next) h):
  Ο (ϊ X.prog X.w) X.A (newList []) (λc3 e0=>Ο (ϊ X.prog X.w) X.A (newFunctionEnv scope X.env.globals (bi X.env scope.names []) [] X.env.qual χ .none (Z X.env)) (λc0 e5=>
   F7 (ϊ X.prog X.w) X.A (.compStart (.ListComp u3 [{K,a2,M,(0)}] scope pos) 0 (.ref it) c3 {c0 with scope:=relabel scope X.env}) (RR c3 c0.locals) e5) E e0) E s:=by
 ext(⟨W,⟨m0,w0⟩,e2⟩:hw);let P:∀b∈fp,b<s.heap.objs.size:=λb a=>by ext(⟨o,e,_⟩:T.obj 0 s.heap st b a);show Η e
 show i6 (wpAny_newFunctionEnv L.nocell (by intro y hy;simp at hy) (λh₁ a0 a1=>?_) L.kind);generalize a7:s.heap.push {cls:=.type "list",dict:=χ,data:=.seq ([]:List θ).toArray}=h2 at a0 a1⊢;let G:h2.objs.size=s.heap.objs.size+1:=by rw[<-a7,Ϲ]
 let a6:=λb o e=>by show a1.extBut b o (by rw[G];show xz (Η e)) (π _ (a7▸π _ e))
 let e3:h₁.PlainList s.heap.objs.size #[]:={0,a1.extBut _ _ (by rw[G];show Mx _) (π _ (a7▸Ξ _ U))};rw[G]at a0;let e7:=λx c=>bY (env:=X.env) scope.names [] (λ_ _ z=>by simp at z) x c;let b8:∀x c,X.env.cells.lookup x=Z c->c<s.heap.objs.size:=λx c e=>by ext(⟨v,q⟩:I.cell x c e);show q.lt
 let d9:∀b∈gx X.stack,b<s.heap.objs.size:=λb a=>by ext(⟨_,o,ho,_⟩:I.stack.mem a);show Η ho
 let d8:({newEnv scope h2.objs.size X.env.globals (bi X.env scope.names []) X.env.qual χ .none (Z X.env) builtinsNs with scope:=relabel scope X.env}:Env)=(X.comp (iH X.N own ix) scope fp s H).env:=by change compEnvC scope (bi X.env scope.names []) h2.objs.size X.env=compEnvC scope (bi X.env scope.names []) (s.heap.objs.size+1) X.env;rw[G]
 let c1:F7 (ϊ X.prog X.w) X.A (.compLoop (.ListComp u3 [{K,a2,M,(0)}] scope pos) 0 (.ref it) (.ref s.heap.objs.size) (X.comp (iH X.N own ix) scope fp s H).env) (RR (.ref s.heap.objs.size) (s.heap.objs.size+1))
   {s with heap:=h₁,toks:=s.toks+([]:List (Str×θ)).length}:=by
  show EF (λn h=>∃i ys H',au (X.comp (iH X.N own ix) scope fp s H) [] (eQ own.length ix σ) H' h/\u2 i h.heap/\(∀b∈fp,H' b=χ)/\H' s.heap.objs.size=χ /\
   (∃its:List θ,aE ys its/\h.heap.PlainList s.heap.objs.size its.toArray)/\ys.length<=Μ/\W i n ys H') ?_ m0
   {(0),[],H,(I.compStart (tk:=s.toks+([]:List (Str×θ)).length) L hf P a6 a0),T.keep _ _ _ st (λb _ o e=>a6 b o e),λb a=>(hf b a).1,(I.hok.fresh (Β _)),{[],.nil,e3},Τ _,w0}
  ext n s3 ⟨i,ys,B,I3,c4,c2,d3,⟨its,u0,f,e8⟩,hz,w3⟩;let Ip:=I3.pins_of (pins':=[(s.heap.objs.size,{cls:=.type "list",data:=.seq its.toArray f})]) (λp k=>by
   let e:p=(s.heap.objs.size,{cls:=.type "list",data:=.seq its.toArray f}):=↑k
   subst e;show{e8,d3,Mx _,λz=>absurd (d9 _ z) (E_ _),λv z=>by cases z})
  let a3:∀{H':Hp},(∀b∈fp,H' b=χ)->∀b∈fp,lW (X.comp (iH X.N own ix) scope fp s H) [(s.heap.objs.size,{cls:=.type "list",data:=.seq its.toArray f})] H' b:=λhn b a=>
   {hn b a,xz (P b a),I3.ok.exfs b a,.inl a,λx c e=>(I3.ok.exf b a).2 x c e,λp k=>by
    let e:p=(s.heap.objs.size,{cls:=.type "list",data:=.seq its.toArray f}):=by simpa using(show p∈([]:List (J×Obj))++[(s.heap.objs.size,{cls:=.type "list",data:=.seq its.toArray f})]from k)
    subst e;show Ml (P b a)}
  rcases e2 i n ys B w3 with ⟨e1,qf⟩|⟨go,N,hN,e4⟩
  .show bn (T.done (X.comp (iH X.N own ix) scope fp s H) U U U hc i _ s3 _ B _ Ip (a3 c2) c4 e1) λr u1 ⟨hr,w⟩=>?_
   subst hr;ext(⟨e4,F,_⟩:w.pin (s.heap.objs.size,{cls:=.type "list",data:=.seq its.toArray f}) (Ϫ _ Γ));ext(⟨mC,f4,_⟩:w.loc);let e9:gC X.prog X.w (upd B s.heap.objs.size (.lst ys)) u1.heap:=λb u e=>by
    by_cases a:b=s.heap.objs.size
    .subst a;rw[aa]at e;cases e;show{hz,its,f,u0,e4}
    .rw[ai a]at e;show(w.hok b u e).stay (λc v _ q=>q) (λc q=>by rw[ai (af q F)];show q) λc xs q=>by rw[ai (af q F)];show q
   let l:=w.base;let un:Un (gx X.stack) fp H (upd B s.heap.objs.size (.lst ys)) s.heap u1.heap:=
    {l.keep,l.slot,λb o e n hx=>by rw[ai (Ϙ (Η e))];show l.free b o e n hx,l.there,λb xs e=>by rw[ai (af (l.tups b xs e) F)];show l.tups b xs e,λb o u e=>by rw[ai (af (l.frzs b o u e) F)];show l.frzs b o u e,λb ps e=>by ext(⟨e6,q⟩:l.tbls b ps e);show{e6,by rw[ai (af q F)];show q}}
   let I5:=I.call' w.os un e9 w.bare λb a=>by ext(⟨f0,f1,f2,f3,f4,f5⟩:hf b a);show{f3,f1,f4,f5}
   show f0 _ _ u1 ys B mC f4 ?_ ?_ ?_ ?_ ?_ F I5 qf
   .show Nc I.lt
   .intro x c e;show xz (b8 x c e)
   .show ϩ I.sz (x9 _)
   .intro p k;show xz (Η (I.pin p k).1)
   .rw[ai (Lw _)];show w.free
  .show bn (T.item (X.comp (iH X.N own ix) scope fp s H) U U U hc i _ s3 _ B _ Ip (a3 c2) c4 go) λr u1 ⟨u,hr,h4⟩=>?_
   subst hr;show bn h4 λ_ s5 ⟨x,H5,I5,r5,y5,a4,f1⟩=>?_;show bn (hg fp s H _ s5 _ H5 x u _ (I5.pinned (a3 f1) (T.obj _ _ a4)) r5 (gw _ _ _ _ (e4 x H5 y5))) λ_ s6 ⟨a5,H6,I6,q6,l6,k6⟩=>?_;show bn (ht fp s H _ s6 a5 H6 _ I6 q6) λc s7 ⟨H7,I7,S⟩=>?_;let b9:∀{A:ρ}{t:Hp},au (X.comp (iH X.N own ix) scope fp s H) ([(s.heap.objs.size,{cls:=.type "list",data:=.seq its.toArray f})]++ou fp s5.heap) a5 t A ->
     au (X.comp (iH X.N own ix) scope fp s H) [] (eQ own.length ix σ) t A/\u2 (i+1) A.heap/\(∀b∈fp,t b=χ)/\t s.heap.objs.size=χ/\A.heap.get? s.heap.objs.size=Z {cls:=.type "list",data:=.seq its.toArray f}:=λ{A t} R=>by
    ext(⟨e8,d8,_⟩:R.pin (s.heap.objs.size,{cls:=.type "list",data:=.seq its.toArray f}) (Ϫ _ (g_ _ Γ)));show{(R.pins_of (pins':=[]) λp k=>by cases k).weak l6.symm λj v e=>?_,T.keep _ _ _ a4 λb a o e=>(R.pin (b,o) (Ϫ _ (Ϫ _ (gg a e)))).1,λb a=>?_,d8,e8}
    .ext(⟨i',j',rfl,_,_⟩:qo e);rw[k6 _ (q_ _ _)];show e
    .ext(⟨o,e,d⟩:T.obj _ _ a4 b a);show(R.pin (b,o) (Ϫ _ (Ϫ _ (gg a e)))).2.1
   cases c with
   |false=>rw[Q6 ϋ]at S⊢;ext(⟨m',hm,w7⟩:hN _ _ S);ext(⟨a1,a2,a3,Q,a5⟩:b9 I7);show{m',hm,i+1,ys,H7,a1,a2,a3,Q,{its,u0,f,a5},hz,w7}
   |true=>
    rw[Q5 U]at S⊢;show bn (he _ s7 a5 H7 _ (I7.wish _) S) λv A ⟨y,t,f2,r8,j5,q8⟩=>?_;ext(⟨m',hm,w8⟩:hN _ _ q8);ext(⟨a1,a2,a3,Q,a5⟩:b9 f2.unwish);show wpAny_list_append_plain {f,a5} (λh9 f3 c5=>?_) (by let:=u0.length;simp;omega);let I9:=a1.turned (t':=A.toks) (λb o a e=>c5.extBut b o a e) Q (Mx _)
     (.inr (Β _)) (λx c e=>zp (b8 x c (e7 x c e))) (λp k=>absurd (show p∈([]:List (J×Obj))from k) ())
    show{m',hm,i+1,ys++[y],t,I9,T.keep _ _ _ a2 (λb a o e=>c5.extBut b o (zp (P b a)) e),a3,Q,{its++[v],aE.append u0 (.cons r8 .nil),2},2,w8}
    .let e:(its++[v]).toArray=its.toArray.push v:=();rw[e];show f3
    .rw[Ι];change _+1<=_;omega
 rw[G];let e2:=d8;rw[G]at e2;show Eq.mpr (congrArg (λe=>F7 (ϊ X.prog X.w) X.A (.compStart (.ListComp u3 [{K,a2,M,(0)}] scope pos) 0 (.ref it) (.ref s.heap.objs.size) e) (RR (.ref s.heap.objs.size) (s.heap.objs.size+1)) {s with heap:=h₁,toks:=s.toks+([]:List (Str×θ)).length}) e2) (codeAny_compStart_list c1 (T.self X.A 0 _ _ _ (T.keep _ _ _ st λb _ o e=>a6 b o e) c1))
end
section
variable{X:Cx}{scope:OA}{own:List Str}{ix:List Nat}
def Mg(b:TI)(k:Nat)(ix:List Nat)(g:TG)(tt:TT)(te:TE):TE:=λσ H Q=>b σ H λc H1=>Ck c k ix g tt te σ H1 λys H'=>∀a,H' a=χ->Q (.ref a) (upd H' a (.lst ys))
def au.clos(I:au X pins σ H s)(L:dI X.N X.env.scope scope own ix):closureFor scope X.env=pure (bi X.env scope.names []):=
 vd λx b a=>I.ok.has x.1 (L.free x b a)
def pe_lc{j f c:ϲ}{i:List ϲ}{pos:Pos}{l:TI}{g:TG}{tt:TT}{te:TE}(y:PI X f c l)(L:dI X.N X.env.scope scope own ix)(B:X.calm=Y)
  (k:∀a s H,PG (X.comp (iH X.N own ix) scope a s H) f g) (P:GW own.length g) (G:∀a s H,Jl (X.comp (iH X.N own ix) scope a s H) i tt) (N:∀a s H,PE (X.comp (iH X.N own ix) scope a s H) j te)
  (F:autoParam (∀x,foldedSetIterable c X.env x=pure x) yI._auto_1):PE X (.ListComp j [{f,c,i,(0)}] scope pos) (Mg l own.length ix g tt te):=by
 intro n s σ H Q I h;rw[eval_ListComp];show M9 U F (I.clos L) L.kind L.names (bn (y n s σ H _ I h) λv s1 A=>bn A ?_);ext u1 s2 ⟨it,a,tn,u3,u0,rfl,t,T,p,u2,W⟩;show nQ L B k P G (N _ _ _).nox t T p u2 W ?_;intro D C K ys H' m V M R S z w d E q;show{m,V,λh' r=>{.ref D,0,E.turned (t':=K.toks) (λb o u e=>r.extBut b o u e) w M (.inr S) R z,1,q D d}}
def ps_lc{n j f:ϲ}{l:List ϲ}{pos t A:Pos}{z:TI}{g:TG}{tt:TT}{te:TE}{i:Nat}{y:Str}(hN:X.N.Nodup)(R:X.N[i]?=Z y)(B:X.env.scope.names.lookup y=Z .local)(hi:PI X j f z)(L:dI X.N X.env.scope scope own ix)(hc:X.calm=Y)
  (hg:∀c s H,PG (X.comp (iH X.N own ix) scope c s H) j g) (u0:GW own.length g) (ht:∀c s H,Jl (X.comp (iH X.N own ix) scope c s H) l tt) (he:∀c s H,PE (X.comp (iH X.N own ix) scope c s H) n te)
  (N:autoParam (swapsWith (.ListComp n [{j,f,l,(0)}] scope pos) (Z (.Name y A)) t.line X.env=pure Y) yR._auto_1)
  (k:autoParam (∀x,foldedSetIterable f X.env x=pure x) yI._auto_1):PS X (.Assign [.Name y A] (.ListComp n [{j,f,l,(0)}] scope pos) t) (Iu (Mg z own.length ix g tt te) (dZ i)):=by
 intro F s σ H Dn I h;rw[exec_Assign_Name_used _ _ _ _ N];show η (OY (η ?_));show η (bn (M9 U k (I.clos L) L.kind L.names
  (bn (hi F s σ H _ I h) λv s1 h1=>bn h1 λb3 E h2=>?_)) λ_ V hq=>ω (ω hq))
 ext(⟨it,c,tn,u2,H2,e,p,T,M,W,hw⟩:h2);subst e;show nQ L hc hg u0 ht (he _ _ _).nox p T M W hw ?_;intro D C V ys H' m Q u w c3 P u1 d S q;show wpAny_assign_Name (qy S hN R (.inl B) (v:=.ref D) U (λE p ⟨a,G,r⟩=>?_) (.inr B));let aC:a≠C:=by
  rcases r with rfl|r
  .show ϔ u
  .show w y a r
 show{m,Q.sameBut G (ϔ aC),λh' K=>{00,p.turned (t':=E.toks) (λb o hb e=>K.extBut b o hb e) u1 u (.inr c3) w P,q D d}}
end
section
variable{k:Nat}{ix:List Nat}{g:TG}{tt:TT}{te:TE}{σ:St}{H1:Hp}{Q:List V->Hp->Prop}
def eF(k:Nat)(ix:List Nat)(g:TG)(tt:TT)(te:TE)(σ:St)(x:V)(ys:List V)(H:Hp)(N:List V->Hp->Prop):Prop:=
 g x (eQ k ix σ) H λa d=>tt a d λc b=>if c=Y then te a b λy e=>ys.length<Μ/\N (ys++[y]) e else N ys b
def vm(a:Nat->List V->Hp->Prop)(h:a 0 [] H1)(d:∀i ys H,i<n->a i ys H->r.go i H)(c:∀ys H,a n ys H->r.stop n H)
  (j:∀i ys H x H',i<n->a i ys H->r.yld i H x H'->eF k ix g tt te σ x ys H' (a (i+1))) (f:∀ys H,a n ys H->Q ys H):Ck r k ix g tt te σ H1 Q:=by
 show{λi m ys H=>m=n-i/\i<=n/\a i ys H,{n,3,Τ _,h},2};ext i m ys H ⟨rfl,o,p⟩;by_cases b:i<n
 .show .inr {d i ys H b p,a (i+1),λl H' q=>{n-(i+1),31,b,q},λx H' y=>j i ys H x H' b p y}
 .let e:i=n:=();subst e;show .inl {c ys H p,f ys H p}
def uw{lo:Int}{n:Nat}(a:Nat->List V->Hp->Prop)(c:a 0 [] H1)(d:∀i ys H,i<n->a i ys H->eF k ix g tt te σ (.int (lo+i)) ys H (a (i+1)))
  (b:∀ys H,a n ys H->Q ys H):Ck (Jh lo n) k ix g tt te σ H1 Q:=
 vm a c (λi _ _ h _=>h) (λ_ _ _=>Β _) (λi ys H x H' h p y=>by ext(⟨e,y⟩:y);subst e y;show d i ys _ h p) b
def eq{K:ζ}{a:J}{xs:List V}(b:Nat->List V->Hp->Prop)(f:b 0 [] H1)(c:∀i ys H,i<=xs.length->b i ys H->aw K H a xs)
  (j:∀i ys H x,xs[i]?=Z x->b i ys H->eF k ix g tt te σ x ys H (b (i+1))) (d:∀ys H,b xs.length ys H->Q ys H):Ck (Hk K a) k ix g tt te σ H1 Q:=
 vm b f (λi ys H h p=>{xs,xs[i],c i ys H (E7 h) p,by simp[h]}) (λys H p=>{xs,c _ ys H (Β _) p,Β _}) (λi ys H x H' h p y=>by ext(⟨e,y⟩:y);subst e;show j i ys _ x (y xs (c i ys _ (E7 h) p)) p) d
def gi{K:ζ}{a:J}{xs:List V}(b:Nat->List V->Hp->Prop)(f:b 0 [] H1)(c:∀i ys H,i<=xs.length->b i ys H->aq K H a xs)
  (j:∀i ys H x,xs[i]?=Z x->b i ys H->eF k ix g tt te σ x ys H (b (i+1))) (d:∀ys H,b xs.length ys H->Q ys H):Ck (JZ K a) k ix g tt te σ H1 Q:=
 vm b f (λi ys H h p=>{xs,xs[i],c i ys H (E7 h) p,by simp[h]}) (λys H p=>{xs,c _ ys H (Β _) p,Β _}) (λi ys H x H' h p y=>by ext(⟨e,y⟩:y);subst e;show j i ys _ x (y xs (c i ys _ (E7 h) p)) p) d
end
def JY(f:Nat->V)(n:Nat):It:={λi _=>i<n,λi H x H'=>H'=H/\x=f i,λi _=>i=n}
def on{P:Θ}{w:Χ}{K:ζ}{tg:ϲ}{it:J}{n:Nat}{M:Nat->θ->Prop}{l:Nat->ϖ->Prop}{f:Nat->V}
  (W:∀A:Ϛ,A.handled=χ->Walks P w A it [it] [it] n M l) (L:∀i h,l i h->∃o m vs,h.get? it=Z o/\o.cls=.type m/\o.data=.fields vs/\["enumerate","zip","dict_itemiterator","dict_reverseitemiterator","odict_iterator","itertools.zip_longest","itertools.pairwise"].contains m=Α)
  (u1:∀i v,M i v->aI (f i) v) (N:∀(A:Ϛ)(i:Nat)(s:ρ)(Q:θ->ρ->Prop)(E:θ->ρ->Prop),l i s.heap->Q (.ref it) s->Ο (ϊ P w) A (pyIter (.ref it)) Q E s):mY P w K tg (JY f n) [it] it l where
 mem:=()
 obj:=λi h st b a=>by
  let e:b=it:=↑a
  subst e;ext(⟨o,m,vs,e,_,d,_⟩:L i h st);show{o,e,λv z=>by rw[d]at z;cases z}
 keep:=λi h h' st k=>by
  by_cases g:∃A:Ϛ,A.handled=χ
  .ext(⟨A,g⟩:g);show(W A g).frame i h h' st k
  .show absurd {callerA,1} g
 item:=by intro X C F u t i G s σ H E I j st B;subst C F u;ext(⟨q,D,T,r,y,x⟩:j it ());show(W X.A (I.ok.hd t)).item i s _ _ B st λv h' tk S u2 p=>?_;let R:au X G σ H {s with heap:=h',toks:=tk}:=I.turned (λb o a e=>p b o (↑a) e) q D r y x;ext(⟨o,m,vs,e,c,d,u0⟩:L _ _ u2);show{v,1,xS e c d u0 {f i,H,R,u1 i v S,{11},u2,λb a=>(j b a).1}}
 done:=by intro X C F u t i G s σ H E I j st B;subst C F u;ext(⟨q,D,T,r,y,x⟩:j it ());let e:=B;subst e;show(W X.A (I.ok.hd t)).done s _ _ st λh' tk p=>{1,I.turned (λb o a e=>p b o (↑a) e) q D r y x}
 self:=N
section
variable{X:Cx}{tg:ϲ}
def au.fp1(I:au X pins σ H s):∀b∈[s.heap.objs.size],lW X pins H b:=λb a=>by
 let e:b=s.heap.objs.size:=↑a
 subst e;show I.fpOk (Β _) (I.hok.fresh (Β _))
def yc(x:Str)(i:Nat):V:=.str {#[x.cps.getD i 0]}
inductive IH  (R:It->Hp->Prop) (x:V) (H1:Hp):Prop|mk z (_:x=.str z) (_:R (JY (yc z) z.cps.size) H1)
def Nj(ts:TE):TI:=λσ H R=>ts σ H (IH R)
def pi_str{e:ϲ}{ts:TE}(B:PE X e ts):PI X tg e (Nj ts):=by
 intro r s σ H R I h;show bn (B r s σ H _ I h) λv f ⟨x,p,g,y,⟨z,e,q⟩⟩=>?_;subst e;ext(⟨t,rfl⟩:y);let m:∀i v,SignAt z i v->aI (yc z i) v:=λi v ⟨c,u,w,C⟩=>by
  subst C;show{u,2};let e:z.cps.getD i 0=c:=by rw[C2,w];rfl
  rw[e]
 cases n:z.cps.all (· < 128)with
 |false=>
  show wpAny_pyIter_wide n ?_;show{f.heap.objs.size,[f.heap.objs.size],00,p,1,g.kept (t':=f.toks) λb o e=>π _ e,on (λA k=>Walks.strWide k _ z t) (λi h ⟨o,e,c,d⟩=>{o,"str_iterator",0,e,c,d,3}) m (λA i s Q E st l=>wpAny_pyIter_striter_wide st l),{0,Ξ _ U,11},λb j=>g.fp1 b j,q}
 |true=>
  show wpAny_pyIter_ascii n ?_;show{f.heap.objs.size,[f.heap.objs.size],00,p,1,g.kept (t':=f.toks) λb o e=>π _ e,on (λA k=>Walks.strAscii k _ z t) (λi h ⟨o,e,c,d⟩=>{o,"str_ascii_iterator",0,e,c,d,3}) m (λA i s Q E st l=>wpAny_pyIter_striter_ascii st l),{0,Ξ _ U,11},λb j=>g.fp1 b j,q}
def KV.at{kvs:List (cR×V)}{vs:List (cR×θ)}(r:KV kvs vs){i:Nat}{k:cR}{v:θ}(e:vs[i]?=Z (k,v)):∃x,kvs[i]?=Z (k,x)/\aI x v:=by
 induction r generalizing i with
 |nil=>simp at e
 | @cons p q ps l h t b=>
  cases i with
  |zero=>
   let f:q=(k,v):=↑e
   ext(⟨j,g⟩:p);subst f;ext(⟨d,c⟩:h);let a:j=k:=d;subst a;show{g,1,c}
  |succ i=>show b (↑e)
def Km(h:(bg P w).is k u=Y):aI (kV k) u:=by
 rcases bw h with ⟨i,t,rfl,rfl⟩|⟨x,t,rfl,rfl⟩
 .show{t,1}
 .show{t,1}
def Jo(K:ζ)(a:J):It:=
 {λi H=>∃xs x,aw K H a xs/\xs[i]?=Z x,λi H x H'=>∃p y,H p=χ/\H'=upd H p (.tup [.int i,y])/\x=.ref p/\∀xs,aw K H a xs->xs[i]?=Z y,λi H=>∃xs,aw K H a xs/\xs.length<=i}
def AE{P:Θ}{w:Χ}{K:ζ}{a9:List ϲ}{x1}{tp:Pos}(a e it:J)(a2:e≠it):mY P w K (.Tuple a9 x1 tp) (Jo K a) [e,it] e (λi h=>(∃t,IsEnum h e it i t)/\h.IsListIter it a i) where
 mem:=()
 obj:=λi h st b f=>by
  ext(⟨⟨t,j⟩,⟨o,e2,c,d⟩⟩:st);rcases ν.mp f with rfl|f
  .show{_,j,λv z=>by let z':QB _=OW v:=z;cases z'}
  .let B:b=it:=↑f
   subst B;show{o,e2,λv z=>by rw[d]at z;cases z}
 keep:=λi h h' st k=>{let ⟨t,j⟩:=st.1;{t,k e () _ j},st.2.at λo q=>k it () o q}
 item:=by
  intro X u0 T V hc i a0 s σ H E I C st u1;subst u0 T V;ext(⟨xs,x,u4,W⟩:u1);ext(⟨its,N,p,hz⟩:I.list u4);ext(⟨u,hu,ru⟩:N.get W);ext(⟨f0,f1,f2,f3,f4,f5⟩:C e ());ext(⟨u2,G,g2,u3,R,M⟩:C it ());ext(⟨⟨t,j⟩,D⟩:st);let he:=Η j;let b2:it<s.heap.objs.size:=by ext(⟨o,q,_⟩:D);show Η q
  show wpAny_pyNext_enum_item j D p.isList (↑hu) a2 λh1 b6 a8 b5 d5 b3=>{01,wpAny_letOwnedTupleGo_enum b6 λh2 b0 L=>?_};let y:=I.hok.fresh (Β _);let keep:=λb o a3 b4 q=>(L.2 b a3).trans (b3 b o a3 b4 q);let a1:=(L.2 _ (Ml he)).trans b5;let I2:au X a0 σ (upd H s.heap.objs.size (.tup [.int i,x])) {s with heap:=h2,toks:=s.toks+1}:=by
   let F:∀b v,H b=Z v->b≠e/\b≠it:=λb v q=>{(λz=>by rw[z,f0]at q;cases q),(λz=>by rw[z,u2]at q;cases q)};show I.step (g':=s.gens) (d':=s.drawn) (ch:=[e,it]) (λb f=>?_) (λb o _ _ g q _=>keep b o (λz=>g (by simp[z])) (λz=>g (by simp[z])) q) (λb o _ _ g q _=>{o.slots,keep b o (λz=>g (by simp[z])) (λz=>g (by simp[z])) q})
    (λb o _ q n=>by rw[ai (zp (Η q))];show n) (λb o g q=>{o,keep b o (λz=>g (by simp[z])) (λz=>g (by simp[z])) q})
    (λb xs q=>by rw[ai (af q y)];show q) (λb o v q=>by rw[ai (af q y)];show q) (λb ps q=>{#[],by rw[ai (af q y),q];simp}) (λm hm=>?_) (λb v q=>?_) I.bare
   .rcases ν.mp f with rfl|f
    .show{f3,f1,f4,f5}
    .let B:b=it:=↑f
     subst B;show{u3,G,R,M}
   .ext(⟨o,es,ep,ho,r⟩:hm);show{o,es,ep,keep _ o (ϔ f1) (ϔ G) ho,r}
   .by_cases f:b=s.heap.objs.size
    .subst f;rw[aa]at q;cases q;show{(show 2<=Μ by rw[ι];decide),[.int i s.toks,u],.cons {01} (.cons ru .nil),{0,a1,1,(0),1},0,a1,1}
    .rw[ai f]at q;show(I.hok b v q).stay (λc w' g l=>?_) (λc l=>by rw[ai (af l y)];show l) λc xs l=>by rw[ai (af l y)];show l
     rcases g with z|z
     .subst z;show keep c w' (F c v q).1 (F c v q).2 l
     .show keep c w' (F c _ z).1 (F c _ z).2 l
  show{.ref s.heap.objs.size,0,I2,1,{0,x,y,11,λys hy=>by rw[I.list_inj hy u4];show W},{{u,2},2},λb f=>?_}
  .let e1:((i+1:Nat):Int)=(i:Int)+1:=();rw[e1];show b0
  .show a8.at λo q=>(L.2 _ (ϔ a2)).trans q
  .let b1:b<s.heap.objs.size:=by
    rcases ν.mp f with rfl|f
    .show he
    .let B:b=it:=↑f
     subst B;show b2
   rw[ai (zp b1)];show(C b f).1
 done:=by intro X u0 T V hc i a0 s σ H E I C st u1;subst u0 T V;ext(⟨xs,u4,W⟩:u1);ext(⟨its,N,p,hz⟩:I.list u4);ext(⟨u2,G,g2,u3,R,M⟩:C it ());ext(⟨⟨t,j⟩,D⟩:st);let hl:=N.length;show wpAny_pyNext_enum_end (I.ok.hd hc) j D p.isList (by simp;omega) λh' eb=>{1,I.turned (t':=s.toks) (λb o f q=>eb b o f q) u2 G u3 R M}
 self:=λA i s Q E st h=>by ext(⟨⟨t,j⟩,D⟩:st);let S:s.TypeIs (.ref e) "enumerate":={0,j,1};show wpAny_pyIter_slot S Pe (y4 Pe S PySem.F.entry_enumerate_iter ?_ (PySem.F.args_enumerate_iter_1 _));show ω {01,"enumerate",0,S,PySem.F.slot_enumerate_next.lookup,h}
inductive Fa (K:ζ) (R:It->Hp->Prop) (vs:List V) (H1:Hp):Prop|mk a (_:vs=[.ref a]) (_:(∃xs,aw K H1 a xs)) (_:R (Jo K a) H1)
def KJ(K:ζ)(a:TA):TI:=λσ H R=>a σ H (Fa K R)
def pi_enum{a:ϲ}{o:TA}{p pos:Pos}{g:List ϲ}{x1}{m:Pos}(F:Gl X "enumerate")(K:X.mg "enumerate"=χ)(x:PA X [a] o)(B:autoParam (Ϗ [a] X.env=[(Α,eval a X.env)]) yR._auto_1):PI X (.Tuple g x1 m) (.Call (.Name "enumerate" p) [a] [] pos) (KJ X.K o):=by
 intro t s σ H R I h;show Call_ (fE I F K (u:=.type "enumerate") () (i9 (bn (x pos t s σ H _ I h) λus c ⟨vs,D,d,A,w⟩=>?_) B U));ext(⟨l,e,⟨xs,G⟩,q⟩:w);subst e;cases A with
 |cons r C=>
  cases C;cases r;ext(⟨its,L,p,hz⟩:d.list G);show call_enumerate_list p.isList λh' n k hsz z=>?_;let T:mY X.prog X.w X.K (.Tuple g x1 m) (Jo X.K l) [c.heap.objs.size+1,c.heap.objs.size] (c.heap.objs.size+1) (λi h=>(∃v,IsEnum h (c.heap.objs.size+1) c.heap.objs.size i v)/\h.IsListIter c.heap.objs.size l i):=AE l _ _ (Lw _);show T.self X.A 0 {c with heap:=h'} _ _ {{0,n},k} ?_;show{c.heap.objs.size+1,000,D,1,(d.kept (t':=c.toks) z),T,{{0,n},k},λb f=>?_,q};let j:c.heap.objs.size<=b:=by
   rcases ν.mp f with rfl|f
   .show x9 _
   .let E:b=c.heap.objs.size:=↑f
    subst E;show Β _
  ext(⟨y,M⟩:d.fpOk j (d.hok.fresh j));show{y,M}
end
section
variable{X:Cx}
def fW:fQ X (ϻ .LtE) (λx y H Q=>∃i j,x=.str i/\y=.str j/\Q (.bl (!decide (j.cps.toList<i.cps.toList))) H):=by ext c s σ H x y v u Q I b a ⟨i,j,rfl,rfl,q⟩;ext(⟨t,rfl⟩:b);ext(⟨t',rfl⟩:a);show PySem.P.le_str (aR I q U)
def su{s:ρ}{h':ϖ}{o:Obj}(a:∀b x,b∉[s.heap.objs.size]->(s.heap.push o).get? b=Z x->h'.get? b=Z x)(b:J)(x:Obj)(e:s.heap.get? b=Z x):h'.get? b=Z x:=
 a b x (λz=>by rw[ξ.mp z]at e;show E_ _ (Η e)) (π _ e)
def vv:∀{bs:List Bool}{us:List θ},aE (bs.map V.bl) us->∀(i:Nat)(v:θ),us[i]?=Z v->∃b,bs[i]?=Z b/\v=.bool b
 |[],_,.nil,i,v,e=>by simp at e
 |b::bs,u::us,.cons r t,0,v,e=>by
  let a:u=v:=↑e
  subst a;show{b,1,r}
 |b::bs,u::us,.cons r t,i+1,v,e=>vv t i v (↑e)
def eG(m:X.calm=Y):cS X (.builtin "all") (λxs H Q=>∃(a:J) (bs:List Bool),xs=[.ref a]/\aw X.K H a (bs.map V.bl)/\Q (.bl (bs.all id)) H):=by
 ext x s σ H xs us Q I r ⟨a,bs,rfl,o,q⟩;ext(⟨u,rfl,n⟩:dg r);cases n;ext(⟨its,g,p,hz⟩:I.list o);let d:=p.isList;let k:a<s.heap.objs.size:=by ext(⟨_,e,_⟩:d);show Η e
 show call_all_walk (OC d ?_);show{s.heap.objs.size,[s.heap.objs.size,a],[s.heap.objs.size],its.toArray.size,00,λi=>(bs[i]?).getD Y,1,Walks.list (A:=X.A.in1) (I.ok.hd m) _ a (Ϙ k) its.toArray,{{0,Ξ _ U,11},d.push _},λi v B C y w h=>?_,λh' tk t=>?_}
 .obtain⟨b,e,rfl⟩:=vv g i v (↑w);simp only[e,Option.getD_some]at h;show o_ h
 .let j:=g.length
  let e:((ϳ its.toArray.size).all λi=>(bs[i]?).getD Y)=bs.all id:=by
   rw[Κ,<-j,ε,B5,A7,A7];constructor
   .intro z b l;ext(⟨i,c,rfl⟩:F9 l);let:=z i (G2.mpr c);simpa[c]using this
   .intro z i c;let f:=G2.mp c;rw[Δ f];show z _ (k_ f)
  rw[e];show{.bl _,H,I.kept (su t),1,q}
def bu:cS X (.builtin "isinstance") (λxs H Q=>∃x t n b,xs=[x,.ty n]/\iu X.K H x t/\C9 X.K t (.type n)=Z b/\Q (.bl b) H):=by ext f s σ H xs us Q I r ⟨x,t,n,b,rfl,c,e,q⟩;ext(⟨u,g,rfl,d,a⟩:pQ r);cases a;show Aq I d c e λtk=>{.bl b,H,I.tok tk,1,q}
def yr:∀{ys:List Str}{us:List θ},aE (ys.map V.str) us->StrsAre us ys
 |[],_,.nil=>.nil
 |y::ys,u::us,.cons r t=>by ext(⟨k,rfl⟩:r);show .cons y k (yr t)
def dH:Et X "str.join" (λx xs H Q=>∃(z:Str) (a:J) (ys:List Str),x=.str z/\xs=[.ref a]/\aw X.K H a (ys.map V.str)/\(ys.map (·.length)).sum+ys.length*z.length<=16777216/\Q (.str (Txt.join z ys)) H):=by ext f s σ H x xs v us Q I e r ⟨z,a,ys,rfl,rfl,d,hz,q⟩;ext(⟨t,rfl⟩:e);ext(⟨u,rfl,c⟩:dg r);cases c;ext(⟨its,b,p,_⟩:I.list d);show join_list p.isList (↑(yr b)) hz λt' k=>{.str _,H,I.tok _,{01},q}
def bF:KM X (λx lo hi H Q=>∃z,x=.str z/\z.length<=Μ/\Q (.str (Txt.slice z lo hi)) H):=by
 ext pins s σ H x v vl vu lo hi sl Q I rx hs pl pu ⟨z,rfl,hz,q⟩;ext(⟨t,rfl⟩:rx);show{"str",0,slot_str_getitem.lookup,N8 _ _ _,2};let fin:(Txt.slice z lo hi).length<=Μ/\∀t' k,EP X pins σ Q (.str (Txt.slice z lo hi) t') {s with toks:=k}:={ϩ (Txt.slice_le z _ _) hz,λt' k=>{.str _,H,I.tok _,{01},q}};cases pl with
 |none=>
  cases pu with
  |none=>show G6 (l:=χ) (u:=χ) (st:=χ) hs U (O2 fin)
  |int j uj=>show G6 (l:=χ) (u:=Z (j,uj)) (st:=χ) hs U (O2 fin)
 |int i ui=>
  cases pu with
  |none=>show G6 (l:=Z (i,ui)) (u:=χ) (st:=χ) hs U (O2 fin)
  |int j uj=>show G6 (l:=Z (i,ui)) (u:=Z (j,uj)) (st:=χ) hs U (O2 fin)
end
open PySem PySem.Spec PyProof.Rows PySem.W
section
variable{cmp:Nat->Nat->(Bool->ρ->Prop)->ρ->Prop}{lt:Nat->Nat->Bool}{n:Nat}{s:ρ}
structure FP(cmp:Nat->Nat->(Bool->ρ->Prop)->ρ->Prop)(lt:Nat->Nat->Bool)(n:Nat)(s:ρ):Prop where
 ask:∀i j C,i<n->j<n->i≠j->C (lt i j) s->cmp i j C s
 tr:∀i j k,lt i j=Y->lt j k=Y->lt i k=Y
 tot:∀i j,i<n->j<n->i≠j->lt i j=Α->lt j i=Y
 asym:∀i j,lt i j=Y->lt j i=Α
structure Re(n:Nat)(p:Array Nat):Prop where
 size:p.size=n
 lt:∀i,i<n->p.getD i 0<n
 inj:∀i j,i<n->j<n->i≠j->p.getD i 0≠p.getD j 0
 perm:p.Perm (List.toArray (ϳ n))
def Re.of_perm(h:p.Perm (List.toArray (ϳ n))):Re n p:=by
 let c:p.size=n:=by let:=h.size_eq;simpa using this
 let d:p.toList.Perm (ϳ n):=↑(K7.mp h)
 let b:∀i,(a:i<n)->p.getD i 0=p.toList[i]'(by simpa[c]using a):=λi a=>by simp[Array.getD,c,a]
 show{c,λi a=>?_,λi j a g f e=>?_,h}
 .let k:p.getD i 0∈p.toList:=by rw[b i a];show k_ _
  show G2.mp ((QR.mem_iff d).mp k)
 .rw[b i a,b j g]at e;show f ((OV ((QR.nodup_iff d).mpr List.nodup_range)).mp e)
def Up(lt:Nat->Nat->Bool)(p:Array Nat)(m:Nat):Prop:=∀i j,i<j->j<m->lt (p.getD i 0) (p.getD j 0)=Y
def Dn(lt:Nat->Nat->Bool)(p:Array Nat)(m:Nat):Prop:=∀i j,i<j->j<m->lt (p.getD j 0) (p.getD i 0)=Y
def Up.next(g:FP cmp lt n s)(h:Up lt p m)(f:1<=m)(a:lt (p.getD (m-1) 0) (p.getD m 0)=Y):Up lt p (m+1):=λi j b d=>by
 by_cases e:j=m
 .subst e;by_cases c:i=j-1
  .subst c;show a
  .show g.tr _ _ _ (h i (j-1) () ()) a
 .show h i j b ()
def Dn.next(g:FP cmp lt n s)(h:Dn lt p m)(f:1<=m)(a:lt (p.getD m 0) (p.getD (m-1) 0)=Y):Dn lt p (m+1):=λi j b d=>by
 by_cases e:j=m
 .subst e;by_cases c:i=j-1
  .subst c;show a
  .show g.tr _ _ _ a (h i (j-1) () ())
 .show h i j b ()
def vM(i:FP cmp lt n s)(r:Re n p):∀(f m:Nat),1<=m->m+f<=n->Up lt p m->(∀e,m<=e->e<=m+f->Up lt p e->(e=m+f\/lt (p.getD e 0) (p.getD (e-1) 0)=Y)->Q e s)->(kas_asc p f m).kasWp cmp Q s
 |0,m,g,h,u,q=>q m (Β _) (Β _) u (.inl U)
 |f+1,m,g,h,u,q=>by
  show i.ask _ _ _ (r.lt m ()) (r.lt (m-1) ()) (r.inj _ _ () () ()) ?_;cases c:lt (p.getD m 0) (p.getD (m-1) 0)with
  |true=>show q m (Β _) () u (.inr c)
  |false=>
   show vM i r f (m+1) () () (u.next i g (i.tot _ _ (r.lt m ()) (r.lt (m-1) ()) (r.inj _ _ () () ()) c)) λe a b c d=>q e () () c ?_;rcases d with d|d
   .show .inl ()
   .show .inr d
def yA(h:FP cmp lt n s)(r:Re n p):∀(f m:Nat),1<=m->m+f<=n->Dn lt p m->(∀d,m<=d->d<=m+f->Dn lt p d->Q (p,d,0) s)->(kas_desc f p m 0).kasWp cmp Q s
 |0,m,e,g,u,q=>q m (Β _) (Β _) u
 |f+1,m,e,g,u,q=>by
  show h.ask _ _ _ (r.lt m ()) (r.lt (m-1) ()) (r.inj _ _ () () ()) ?_;cases c:lt (p.getD m 0) (p.getD (m-1) 0)with
  |true=>show yA h r f (m+1) () () (u.next h e c) λd a b c=>q d () () c
  |false=>show h.ask _ _ _ (r.lt (m-1) ()) (r.lt m ()) (r.inj _ _ () () ()) ?_;rw[h.tot _ _ (r.lt m ()) (r.lt (m-1) ()) (r.inj _ _ () () ()) c];show q m (Β _) () u
def yl(d:m<=p.size):(kas_rev p 0 m).getD k 0=if k<m then p.getD (m-1-k) 0 else p.getD k 0:=by
 let b:∀(a:Array Nat)(i:Nat),a.getD i 0=(a[i]?).getD 0:=λa i=>by rw[C2]
 rw[b];unfold kas_rev;rw[(getElem?_mirror_all (i:=0) d k)];by_cases c:k<m
 .rw[Q5 c];simp only[b];rw[Q5 ()];congr 2;omega
 .rw[Q6 c];simp only[b];rw[Q6 ()]
def BL(r:Re n p):Re n (kas_rev p 0 m):=Re.of_perm ((mirror_perm p 0 m _).trans r.perm)
def DS(D:FP cmp lt n s)(r:Re n p)(g:2<=n)(q:∀m f,Re n f->1<=m->m<=n->Up lt f m->Q (m,f) s):(kas_count n p).kasWp cmp Q s:=by
 unfold kas_count;rw[N4];show vM D r (n-1) 1 (Β _) () (λi j d g=>by omega) λm a b u e=>?_;by_cases h:(m==n)=Y
 .rw[Q5 h];show q m p r a () u
 .rw[Q6 h];by_cases d:m>1
  .rw[Q5 d];show D.ask _ _ _ (r.lt 0 ()) (r.lt (m-1) ()) (r.inj _ _ () () ()) ?_;rw[u 0 (m-1) () ()];show q m p r a () u
  .rw[Q6 d]
   let t:m=1:=();subst t;let l:lt (p.getD 1 0) (p.getD 0 0)=Y:=by
    rcases e with e|e
    .omega
    .show e
   unfold kas_descPart;rw[N4];show yA D r (n-(1+1)) (1+1) () () (λi j d g=>?_) λc y B w=>?_
   .let:i=0:=();let:j=1:=()
    subst_vars
    show l
   .change(if (0:Nat)>0 then _ else kas_tail3 c n p).kasWp cmp Q s;rw[Q6 ()];unfold kas_tail3;rw[N4];let v:Up lt (kas_rev p 0 c) c:=λi j x C=>by rw[yl (by rw[r.size];omega),yl (by rw[r.size];omega),Q5 (),Q5 ()];show w _ _ () ()
    show vM D (BL r) (n-c) c () () v λo A z k _=>q o _ (BL r) () () k
def oo(x:FP cmp lt n s)(r:Re n p)(d:k<n)(u:Up lt p k)(q:∀l,l<=k->(∀i,i<l->lt (p.getD i 0) (p.getD k 0)=Y)->(∀i,l<=i->i<k->lt (p.getD k 0) (p.getD i 0)=Y)->Q l s):
  ∀(f l e:Nat),l<=e->e<=k->e-l<=f->(∀i,i<l->lt (p.getD i 0) (p.getD k 0)=Y)->(∀i,e<=i->i<k->lt (p.getD k 0) (p.getD i 0)=Y)->(kas_place p k f l e).kasWp cmp Q s
 |0,l,e,w,t,v,a,b=>q l () a λi j g=>b i () g
 |f+1,l,e,w,t,v,a,b=>by
  change(if l>=e then KasT.ret l else _).kasWp cmp Q s;by_cases h:l>=e
  .rw[Q5 h];show q l () a λi j g=>b i () g
  .rw[Q6 h];show x.ask _ _ _ (r.lt k d) (r.lt _ ()) (r.inj _ _ d () ()) ?_;cases c:lt (p.getD k 0) (p.getD ((l+e)/2) 0)with
   |true=>
    show oo x r d u q f l _ () () () a λi j g=>?_;by_cases m:i=(l+e)/2
    .subst m;show c
    .show x.tr _ _ _ c (u _ i () g)
   |false=>
    let o:=x.tot _ _ (r.lt k d) (r.lt _ ()) (r.inj _ _ d () ()) c;show oo x r d u q f _ e () t () (λi j=>?_) b;by_cases m:i=(l+e)/2
    .subst m;show o
    .show x.tr _ _ _ (u i _ () ()) o
def xY(f:k<p.size)(e:d<=k):(bubble p k d).getD j 0=if j<k-d\/k<j then p.getD j 0 else if j=k-d then p.getD k 0 else p.getD (j-1) 0:=by
 let c:∀(a:Array Nat)(i:Nat),a.getD i 0=(a[i]?).getD 0:=λa i=>by rw[C2]
 rw[c,(getElem?_bubble f d e j)];by_cases a:j=k-d
 .rw[Q5 a,Q6 (),Q5 a,c]
 .rw[Q6 a];by_cases b:k-d<j/\j<=k
  .rw[Q5 b,Q6 (),Q6 a,c]
  .rw[Q6 b,Q5 (),c]
def BW(z:FP cmp lt n s)(q:∀p,Re n p->Up lt p n->Q p s):∀(f k:Nat)(p:Array Nat),Re n p->1<=k->k+f=n->Up lt p k->(kas_bin f p k).kasWp cmp Q s
 |0,k,p,r,h,m,u=>q p r (by rw[<-m];show u)
 |f+1,k,p,r,h,m,u=>by
  change((kas_place p k k 0 k).bind λl=>kas_bin f (bubble p k (k-l)) (k+1)).kasWp cmp Q s;rw[N4];show oo z r () u (λl x a b=>?_) k 0 k (Τ _) (Β _) () (λi c=>by omega) (λi h w=>by omega);let d:k<p.size:=by rw[r.size];omega
  show BW z q f (k+1) _ (Re.of_perm ((bubble_perm p k _).trans r.perm)) () () λi j t y=>?_;rw[xY d (),xY d ()];let v:k-(k-l)=l:=();rw[v];by_cases c:i<l
  .rw[Q5 (.inl c)];by_cases o:j<l
   .rw[Q5 (.inl o)];show u i j t ()
   .rw[Q6 ()];by_cases e:j=l
    .rw[Q5 e];show a i c
    .rw[Q6 e];show u i (j-1) () ()
  .rw[Q6 ()];by_cases g:i=l
   .rw[Q5 g,Q6 (),Q6 ()];show b (j-1) () ()
   .rw[Q6 g,Q6 (),Q6 ()];show u (i-1) (j-1) () ()
def FZ(e:FP cmp lt n s)(b:2<=n)(q:∀p,Re n p->Up lt p n->Q p s):(kas_sort n).kasWp cmp Q s:=by
 unfold kas_sort;rw[N4];show DS e (Re.of_perm (Array.Perm.refl _)) b λm p r a d u=>?_;let c:max m 1=m:=();rw[c];by_cases h:m<n
 .rw[Q5 h];show BW e q (n-m) m p r a () u
 .rw[Q6 h];let:m=n:=();subst this;show q p r u
end
def oZ{prog:Θ}{w:Χ}{A:Ϛ}{E:θ->ρ->Prop}{st:ρ}{l:J}{us:List θ}{ep:Nat}{R:PySem.Fin->ρ->Prop}(a:st.heap.get? l=Z (seqObj "list" us.toArray ep))(i:us.length<2)
  (n:∀f p,(∀b o,b≠l->st.heap.get? b=Z o->f.get? b=Z o)->f.get? l=Z (seqObj "list" us.toArray p)->R (.done (.ret .none)) {st with heap:=f}):
  Ο (ϊ prog w) A (s_.«list.sort» {[.ref l],[]}) R E st:=by
 let c:us.toArray.size=us.length:=();let h:=Η a;let g:us.length<=Μ:=by rw[ι];omega
 rw[list_sort_plain];show η (listItems_at a U (η (listUpdate_at a U ?_ (by rw[c];show g) (Τ _))));let k:=get?_update_seq a (λ_=>(#[]:Array θ));show η (seqEpoch_at k U (η (wpAny_newTuple ?_ (by show g))));show η (wpAny_newList ?_ (Τ _));show u6 ?_;rw[Q5 (by rw[c];show i),Q5 (by rw[c];show i)];let d:(((st.heap.update l (F3 λ_=>(#[]:Array θ))).push (seqObj "tuple" us.toArray 0)).push (seqObj "list" #[] 0)).get? l=Z (seqObj "list" #[] (if ((#[]:Array θ).size==us.toArray.size)=Y then ep else ep+1)):=by rw[OH _ _ _ (by rw[size_push',OX];show xz h),OH _ _ _ (by rw[OX];show zp h)];show k
 let j:(arrOf (SortSt.mk' general' (us.toArray.zip us.toArray) #[] 7 χ)).map (·.2)=us.toArray:=by apply Array.ext';simp[List.map_snd_zip]
 show η (ω ?_);dsimp only;rw[StateT.run_pure];show η (ω ?_);dsimp only;show η (seqEpoch_at d U (η (listUpdate_at d U ?_ (Τ _) (by rw[j,c];omega))));simp only[bne_self_eq_false,Pz,if_false];rw[j];show ω (n _ _ (λb o m e=>?_) (get?_update_seq d (λ_=>us.toArray)));rw[ϖ.get?_update_ne _ _ _ _ m,OH _ _ _ (by rw[size_push',OX];show xz (Η e)),OH _ _ _ (by rw[OX];show zp (Η e)),ϖ.get?_update_ne _ _ _ _ m];show e
def Iq{h:ϖ}{a:J}{m b:Str->Option θ}(x:h.Ns a m)(y:h.Ns a b):m=b:=by ext(⟨o,l,ep,e,d,_,f⟩:x);ext(⟨k,j,i,c,d',_,g⟩:y);rw[e]at c;cases c;rw[d]at d';cases d';funext z;rw[<-f z,g z]
def EY{a b:List Nat}(h:¬ a<b)(d:a≠b):b<a:=by
 by_cases c:b<a
 .show c
 .show absurd (List.le_antisymm (List.not_lt.mp c) (List.not_lt.mp h)) d
def FG{a b:Str}(h:a.cps.toList=b.cps.toList):a=b:=by cases a;cases b;congr 1;show Array.ext' h
section
variable{X:Cx}{pins:List (J×Obj)}{σ:St}{H:Hp}{s:ρ}
abbrev TK:=J×Str×List V
def Gb(p q:TK):Prop:=p.2.1.cps.toList<q.2.1.cps.toList
def Fh(ps:List TK):∀(us:List θ),aE (ps.map λp=>V.ref p.1) us->us=ps.map λp=>Ψ p.1:=by
 induction ps with
 |nil=>intro us r;cases r;rfl
 |cons p ps b=>
  intro us r;rw[Υ]at r⊢;cases r with
  |cons r t=>rw[b _ t,show _=Ψ p.1 from r]
def kd(ps:List TK):aE (ps.map λp=>V.ref p.1) (ps.map λp=>Ψ p.1):=by
 induction ps with
 |nil=>show .nil
 |cons p ps b=>show .cons U b
def Cs(I:au X pins σ H s)(h:H a=Z (.tup (.str x::r))):∃(o:Obj) (us:List θ) (n:Nat) (t:Tok),s.heap.get? a=Z o/\o.cls=.type "tuple"/\o.data=.seq (G0 x t::us).toArray n:=by
 ext(⟨_,its,b,⟨o,e,c,n,d⟩,_⟩:(I.hok a _ h));cases b with
 |cons f g=>ext(⟨t,rfl⟩:f);show{o,0,n,t,e,c,d}
def Am{n:Nat}{p:Array Nat}{α:Type}{d:α}{ps:List α}(f:ps.length=n)(r:Re n p):(p.toList.map λi=>ps.getD i d).Perm ps:=by
 let c:p.toList.Perm (ϳ n):=↑(K7.mp r.perm)
 show(c.map _).trans ?_;let e:(ϳ n).map (λi=>ps.getD i d)=ps:=by
  apply P5;intro i;rw[ϐ];by_cases b:i<n
  .rw[List.getElem?_range b];simp[G7,show i<ps.length by omega]
  .rw[A6 (↑b),A6 ()];rfl
 rw[e]
def oU{n:Nat}{p:Array Nat}{α:Type}{d:α}{ps:List α}{R:α->α->Prop}{f:Nat->Nat->Bool}(m:∀i j,i<n->j<n->f i j=Y->R (ps.getD i d) (ps.getD j d))(r:Re n p)(u:Up f p n):(p.toList.map λi=>ps.getD i d).Pairwise R:=by
 rw[PQ];intro i j c b l;rw[ε,ύ,r.size]at c b;let e:∀k (g:k<n) h,(p.toList.map λi=>ps.getD i d)[k]'h=ps.getD (p.getD k 0) d:=λk g h=>by rw[List.getElem_map];congr 1;simp[Array.getD,r.size,g]
 rw[e i c,e j b];show m _ _ (r.lt i c) (r.lt j b) (u i j l b)
end
open PySem PySem.Spec PyProof.Rows
def KP(N:List Str)(b a:OA)(ix:List Nat):Bool:=
 decide (a.kind=.function)&&a.names.all (λy=>decide (y.2≠.cell))&&a.names.all (λy=>decide (y.2=.local->a.names.lookup y.1=Z .local)) &&
 a.names.all (λy=>decide (y.2=.free->b.names.lookup y.1=Z .cell\/b.names.lookup y.1=Z .free)) &&
 ix.all (λj=>decide (j<N.length)&&match N[j]? with|some x=>a.names.any (λy=>decide (y.1=x)&&decide (y.2=.free))&&decide (a.names.lookup x=Z .free)|none=>Α)
def dI.of(h:KP N sc scope ix=Y):dI N sc scope own ix:=by unfold KP at h;simp only[ψ,decide_eq_true_eq,A7]at h;ext(⟨⟨⟨⟨q,f⟩,p⟩,m⟩,b⟩:h);show{q,f,p,m,λj a x i=>?_,λj a=>(b j a).1};let:=(b j a).2;rw[i]at this;simp only[ψ,decide_eq_true_eq,n_]at this;ext(⟨⟨⟨n,k⟩,e,o,l⟩,g⟩:this);let c:n=x:=o;let d:k=.free:=l;subst c d;show{e,g}
def bp{l N:List Str}(h:l.Nodup)(e:N=l):N.Nodup:=by rw[e];show h
structure aS(P:Θ)(w:Χ)(K:ζ)(mg:Str->Option θ)(base:ϖ)(k:Nat)(x:Str)(ps:List Str)(sp:Sp):Prop where
 ex:∃f fd,ap P w K mg base aY k f fd ps sp/\bo K fd ps []/\ϥ K (.ref f)=Y/\mg x=Z (.ref f)
def aS.up{P:Θ}{w:Χ}{K:ζ}{a:Str->Option θ}{base:ϖ}{j k:Nat}{x:Str}{ps:List Str}{sp:Sp}(d:aS P w K a base j x ps sp)(h:j<=k):aS P w K a base k x ps sp:=
 let ⟨f,e,F,b,c,m⟩:=d.ex
 {f,e,F.mono h,b,c,m}
def pe_def{X:Cx}{k:Nat}{x:Str}{ps:List Str}{sp:Sp}{p pos:Pos}{e:ϲ}{a:List ϲ}{t:TA}(d:aS X.prog X.w X.K X.mg X.base k x ps sp)(j:bU k X.A)(n:Gl X x)(h:PA X (e::a) t)(g:autoParam ((x==("__debug__" : Str))=Α) yD._auto_1)
  (l:autoParam (Ϗ (e::a) X.env=(Α,eval e X.env)::Ϗ a X.env) yR._auto_1) (c:autoParam ((A5 pos (Ϗ a X.env)).any (·.1)=Α) yR._auto_1):PE X (.Call (.Name x p) (e::a) [] pos) (jk sp [] E0 t):=by
 ext(⟨f,o,F,b,i,m⟩:d.ex);show rg F j n m i b .nil gq h g l c
inductive Dv where
 |non|bl (b:Bool)|int (i:Int)|str (x:Str)|tup (xs:List Dv)|lst (xs:List Dv)|dct
mutual
noncomputable def ah(H:Hp):Dv->V->Prop
 |.non,v=>v=.non
 |.bl b,v=>v=.bl b
 |.int i,v=>v=.int i
 |.str x,v=>v=.str x
 |.tup ds,v=>∃a vs,v=.ref a/\H a=Z (.tup vs)/\Reps H ds vs
 |.lst ds,v=>∃a vs,v=.ref a/\H a=Z (.lst vs)/\Reps H ds vs
 |.dct,v=>∃a,v=.ref a/\H a=Z (.dK [])
noncomputable def Reps(H:Hp):List Dv->List V->Prop
 |[],vs=>vs=[]
 |d::ds,vs=>∃v r,vs=v::r/\ah H d v/\Reps H ds r
end
mutual
theorem ah.mono(s:ae H H'):∀{d:Dv}{v:V},ah H d v->ah H' d v
 |.non,_,h=>by simpa only[ah]using h
 |.bl b,_,h=>by simpa only[ah]using h
 |.int i,_,h=>by simpa only[ah]using h
 |.str x,_,h=>by simpa only[ah]using h
 |.tup ds,_,h=>by simp only[ah]at h⊢;ext(⟨a,vs,e,c,f⟩:h);show{a,vs,e,s _ _ c,Reps.mono s f}
 |.lst ds,_,h=>by simp only[ah]at h⊢;ext(⟨a,vs,e,c,f⟩:h);show{a,vs,e,s _ _ c,Reps.mono s f}
 |.dct,_,h=>by simp only[ah]at h⊢;ext(⟨a,e,c⟩:h);show{a,e,s _ _ c}
theorem Reps.mono(s:ae H H'):∀{ds:List Dv}{vs:List V},Reps H ds vs->Reps H' ds vs
 |[],_,h=>by simpa only[Reps]using h
 |d::ds,_,h=>by ext(⟨v,r,e,b,a⟩:h);show{v,r,e,ah.mono s b,Reps.mono s a}
end
def Reps.length:∀{ds:List Dv}{vs:List V},Reps H ds vs->vs.length=ds.length
 |[],_,h=>by simp only[Reps]at h;subst h;rfl
 |d::ds,_,h=>by ext(⟨v,r,e,b,a⟩:h);subst e;rw[Λ,Λ,Reps.length a]
def Reps.get:∀{ds:List Dv}{vs:List V},Reps H ds vs->∀{i:Nat}{v:V},vs[i]?=Z v->∃d,ds[i]?=Z d/\ah H d v
 |[],_,h,i,v,e=>by simp only[Reps]at h;subst h;simp at e
 |d::ds,_,h,i,v,e=>by
  ext(⟨b,r,g,j,f⟩:h);subst g;cases i with
  | zero => show{d, U, by let : b = v := (↑e);subst this;show j}
  |succ i=>obtain⟨d',c,a⟩:=Reps.get f (↑e);show{d',↑c,a}
def Dv.tn:Dv->String
 |.non=>"NoneType" |.bl _=>"bool" |.int _=>"int" |.str _=>"str" |.tup _=>"tuple" |.lst _=>"list" |.dct=>"dict"
def ah.ty{K:ζ}{H:Hp}{d:Dv}{v:V}(h:ah H d v):iu K H v (.type d.tn):=by
 cases d with
 |non=>simp only[ah]at h;subst h;show .non
 |bl b=>simp only[ah]at h;subst h;show .bl b
 |int i=>simp only[ah]at h;subst h;show .int i
 |str x=>simp only[ah]at h;subst h;show .str x
 |tup ds=>simp only[ah]at h;ext(⟨a,vs,rfl,h1,_⟩:h);show .tup h1
 |lst ds=>simp only[ah]at h;ext(⟨a,vs,rfl,h1,_⟩:h);show .lst h1
 |dct=>simp only[ah]at h;ext(⟨a,rfl,h1⟩:h);show .dK h1
def Kb(d:Dv)(n:String):Bool:=d.tn==n||(d.tn=="bool" && n=="int")
def Gx(K:ζ)(d:Dv):C9 K (.type d.tn) (.type "int")=Z (Kb d "int"):=by cases d<;>kernel_rfl
def vp(K:ζ)(d:Dv):C9 K (.type d.tn) (.type "bool")=Z (Kb d "bool"):=by cases d<;>kernel_rfl
def jh(K:ζ)(d:Dv):C9 K (.type d.tn) (.type "str")=Z (Kb d "str"):=by cases d<;>kernel_rfl
def dC(K:ζ)(d:Dv):C9 K (.type d.tn) (.type "tuple")=Z (Kb d "tuple"):=by cases d<;>kernel_rfl
def tH(K:ζ)(d:Dv):C9 K (.type d.tn) (.type "list")=Z (Kb d "list"):=by unfold C9 PySem.W.kitCls;cases d<;>kernel_rfl
section
variable{k:Nat}{ix:List Nat}{g:TG}{tt:TT}{te:TE}{σ:St}{H1:Hp}{Q:List V->Hp->Prop}
def mt(d:∀i ys,i<n->ys.length=i->eF k ix g tt te σ (f i) ys H1 λa H'=>a=ys++[F i]/\H'=H1)(c:Q ((ϳ n).map F) H1):Ck (JY f n) k ix g tt te σ H1 Q:=by
 show{λi m ys H=>m=n-i/\i<=n/\H=H1/\ys=(ϳ i).map F,{n,3,Τ _,11},2};ext i m ys H ⟨rfl,l,rfl,rfl⟩;by_cases b:i<n
 .show .inr {b,λa H'=>a=(ϳ i).map F++[F i]/\H'=H,λa H' ⟨j,h⟩=>{n-(i+1),31,b,h,by rw[j,List.range_succ,Ε];rfl},λx H' y=>?_};ext(⟨e,y⟩:y);subst e y;show d i _ b ()
 .let e:i=n:=();subst e;show .inl {1,c}
def ba(h:te ((eQ k ix σ).set i (Z x)) H λy a=>ys.length<Μ/\N (ys++[y]) a):eF k ix (dZ i) Cc te σ x ys H N:=by show aA (B:=N ys H) h
def eM{i j:Nat}{K:ζ}{a:J}{x y:V}{ys:List V}{H:Hp}{N:List V->Hp->Prop}(c:H a=Z (.tup [x,y]))(h:te (((eQ k ix σ).set i (Z x)).set j (Z y)) H λy b=>ys.length<Μ/\N (ys++[y]) b):
  eF k ix (Gd K 2 (kU (dZ i) (kU (dZ j) An))) Cc te σ (.ref a) ys H N:=by
 show{a,01,aq.of c,10010011,aA (B:=N ys H) h}
def Fz{f:Nat->V}{n:Nat}{g:TG}{tb:TS}{D:cV}{σ:St}{H:Hp}(a:Nat->St->Hp->Prop)(l:a 0 σ H)
  (o:∀i σ H,i<n->a i σ H->g (f i) σ H λb d=>tb {D with nx:=a (i+1),ct:=a (i+1),bk:=D.nx} b d) (j:∀σ H,a n σ H->D.nx σ H):
  ∃W:Nat->Nat->St->Hp->Prop,(∃m,W 0 m σ H)/\∀i m σ H,W i m σ H ->
   ((JY f n).stop i H/\D.nx σ H)\/((JY f n).go i H/\∃N:St->Hp->Prop,(∀σ' H',N σ' H'->∃h,h<m/\W (i+1) h σ' H')/\∀x H',(JY f n).yld i H x H'->g x σ H' λb d=>tb {D with nx:=N,ct:=N,bk:=D.nx} b d):=by
 show{λi m σ H=>m=n-i/\i<=n/\a i σ H,{n,3,Τ _,l},2};ext i m σ H ⟨rfl,r,p⟩;by_cases c:i<n
 .show .inr {c,a (i+1),λσ' H' q=>{n-(i+1),31,c,q},λx H' y=>?_};ext(⟨e,y⟩:y);subst e y;show o i σ _ c p
 .let e:i=n:=();subst e;show .inl {1,j σ H p}
def mL{K:ζ}{a:J}{xs:List V}{g:TG}{tb:TS}{D:cV}{σ:St}{H:Hp}(Pv:Nat->St->Hp->Prop)(h0:Pv 0 σ H)(hl:∀i σ H,i<=xs.length->Pv i σ H->aw K H a xs)
  (hs:∀i x σ H p,xs[i]?=Z x->Pv i σ H->H p=χ->g (.ref p) σ (upd H p (.tup [.int i,x])) λσ2 H2=>tb {D with nx:=Pv (i+1),ct:=Pv (i+1),bk:=D.nx} σ2 H2) (hd:∀σ H,Pv xs.length σ H->D.nx σ H):
  ∃W:Nat->Nat->St->Hp->Prop,(∃m,W 0 m σ H)/\∀i m σ H,W i m σ H ->
   ((Jo K a).stop i H/\D.nx σ H)\/((Jo K a).go i H/\∃N:St->Hp->Prop,(∀σ' H',N σ' H'->∃m',m'<m/\W (i+1) m' σ' H')/\∀x H',(Jo K a).yld i H x H'->g x σ H' λσ2 H2=>tb {D with nx:=N,ct:=N,bk:=D.nx} σ2 H2):=by
 show{λi m σ H=>m=xs.length-i/\i<=xs.length/\Pv i σ H,{xs.length,3,Τ _,h0},2};ext i m σ H ⟨rfl,hi,p⟩;let q:=hl i σ H hi p;by_cases hlt:i<xs.length
 .show .inr {{xs,xs[i],q,by simp[hlt]},Pv (i+1),λσ' H' p'=>{xs.length-(i+1),31,hlt,p'},λx H' y=>?_};ext(⟨b,y,hb,e1,e2,hy⟩:y);subst e1 e2;show hs i y σ H b (hy xs q) p hb
 .let e:i=xs.length:=();subst e;show .inl {{xs,q,Β _},hd σ H p}
end
mutual
noncomputable def Dv.small:Dv->Bool
 |.str x=>decide (x.cps.size<=5000)
 |.tup xs=>smalls xs&&decide (xs.length<=5000)
 |.lst xs=>smalls xs&&decide (xs.length<=5000)
 |_=>Y
noncomputable def smalls:List Dv->Bool
 |[]=>Y
 |d::ds=>d.small&&smalls ds
end
def eO:∀{ds:List Dv},smalls ds=Y->∀{i:Nat}{d:Dv},ds[i]?=Z d->d.small=Y
 |[],_,i,d,e=>by simp at e
 |x::ds,h,i,d,e=>by
  simp only[smalls,ψ]at h;cases i with
  |zero=>
   let a:x=d:=↑e
   subst a;show h.1
  |succ i=>show eO h.2 (↑e)
def Ah(h:n<=5000):n<Μ:=Nat.lt_of_le_of_lt h ()
def yL{x:Str}(h:x.cps.size<=5000):x.length<=Μ:=E7 (Ah h)
def ac(h:H p=χ)(o:HO):ae H (upd H p o):=λb u q=>by rw[ai (af q h)];show q
section
variable{X:Cx}
def uD(K:ζ)(h:X.K=K):JS X (Le K):=by subst h;show aF
def md(K:ζ)(h:X.K=K):JS X (zT K):=by subst h;show kf
inductive Hv (K:ζ) (x:V) (y:V) (H:Hp) (Q:VK):Prop|mk a b xs ys (_:x=.ref a) (_:y=.ref b) (_:aq K H a xs) (_:aq K H b ys) (_:xs.length+ys.length<=Μ) (_:(xs=[]->Q (.ref b) H)) (_:(ys=[]->Q (.ref a) H)) (_:(∀p,H p=χ->Q (.ref p) (upd H p (.tup (xs++ys)))))
def hJ:fQ X (K4 .Add) (Hv X.K):=by
 ext o s σ H x y v u Q I m k ⟨a,b,xs,ys,rfl,rfl,g,f,hz,G,A,B⟩;by_cases h:xs=[]
 .cases m;cases k;ext(⟨its,F,M,_⟩:I.tuple g);ext(⟨P,S,e,_⟩:I.tuple f);subst h;cases F;ext(⟨⟨cls,C,d,K⟩,j,E,n,z⟩:M);ext(⟨⟨R,q,N,r⟩,c,w,L,p⟩:e);subst E z w p;show concat_meets {0,j,1} {0,c,1} Qi seq_tuple_add OF N_ (M8 _ _) (tuple_addW0 a b _ _ n L C q K r U) {j,c,{.ref b,H,I,1,G U}}
 .show Fg o s σ H (.ref a) (.ref b) v u Q I m k {a,b,xs,ys,11,g,f,h,hz,A,λ_=>B}
end
section
variable{σ:St}{H:Hp}{d e:Dv}{ds es:List Dv}{ta tb:TE}{t:TA}
def Reps.append:∀{ds es:List Dv}{vs a:List V},Reps H ds vs->Reps H es a->Reps H (ds++es) (vs++a)
 |[],_,_,_,h,g=>by simp only[Reps]at h;subst h;show g
 |d::ds,es,vs,a,h,g=>by ext(⟨v,r,rfl,b,c⟩:h);show{v,r++a,1,b,Reps.append c g}
end
def bP(H:Hp)(l:J):Hp:=λb=>if b=l then χ else H b
def cr:ae (bP H l) H:=λb o h=>by
 unfold bP at h;by_cases e:b=l
 .rw[Q5 e]at h;cases h
 .rw[Q6 e]at h;show h
def ck(s:ae H H'):ae (bP H l) (bP H' l):=λb o h=>by
 unfold bP at h⊢;by_cases e:b=l
 .rw[Q5 e]at h;cases h
 .rw[Q6 e]at h⊢;show s b o h
def jy(s:ae H H')(a:H l=χ):ae H (bP H' l):=λb o h=>by unfold bP;rw[Q6 (af h a)];show s b o h
def zU(b:H l≠χ)(a:H p=χ):bP (upd H p o) l p=Z o/\ae (bP H l) (bP (upd H p o) l):=by let c:p≠l:=λe=>b (e▸a);show{2,ck (ac a o)};unfold bP;rw[Q6 c,aa]
section
variable{σ:St}{H:Hp}{d e:Dv}{ds es:List Dv}{ta tb:TE}{t:TA}{l:J}
variable{i:Nat}{u:TS}{D:cV}
end
section
variable{X:Cx}
end
section
variable{prog:Θ}{w:Χ}{K:Type}[DecidableEq K]{knd:PySem.KeyKind prog w K}{A:Ϛ}{R:QJ->ρ->Prop}{I d:J}{fp wr:List J}{n:Nat}{P:Nat->θ->Prop}{St:Nat->ϖ->Prop}
end
section
variable{prog:Θ}{w:Χ}{K:Type}[DecidableEq K]{knd:PySem.KeyKind prog w K}{A:Ϛ}{E:θ->ρ->Prop}{s:ρ}
end
section
variable{X:Cx}
end
open PySem PySem.Spec PyProof.Rows PySem.W
section
variable{X:Cx}{pins:List (J×Obj)}{σ:St}{H:Hp}{s:ρ}
def au.setList(I:au X pins σ H s)(x:s.heap.Ns X.env.locals m)(j:H D=Z (.lst ys0))(t:aE ys its)(hz:ys.length<=Μ)
  (F:h'.Ns X.env.locals m) (k:∀b o,b≠X.env.locals->b≠D->s.heap.get? b=Z o->h'.get? b=Z o) (e:h'.get? D=Z {cls:=.type "list",data:=.seq its.toArray c}):au X pins σ (upd H D (.lst ys)) {s with heap:=h'}:=by
 let l:∀b v,H b=Z v->b≠X.env.locals:=λb v q z=>by rw[z,I.free]at q;cases q
 let g:∀b,H b=χ->b≠D:=λb q z=>by rw[z,j]at q;cases q
 let f:∀b v,H b=Z v->v≠.lst ys0->b≠D:=λb v q n z=>by rw[z,j]at q;cases q;show n U
 show I.step (g':=s.gens) (d':=s.drawn) (t':=s.toks) (ch:=[]) (λb d=>by cases d) (λb o h _ _ q n=>k b o h (g b n) q) (λb o h _ _ q n=>{o.slots,k b o h (g b n) q}) (λb o _ q n=>by rw[ai (g b n)];show n) (λb o _ q=>?_)
  (λb xs q=>by rw[ai (f b _ q nofun)];show q) (λb o v q=>by rw[ai (f b _ q nofun)];show q) (λb ps q=>{#[],by rw[ai (f b _ q nofun),q];simp}) (λy r=>by rw[Iq r x];show F) (λb v q=>?_) I.bare
 .by_cases d:b=X.env.locals
  .subst d;ext(⟨w,_,_,a,_⟩:F);show{w,a}
  .by_cases i:b=D
   .subst i;show{0,e}
   .show{o,k b o d i q}
 .by_cases d:b=D
  .subst d;rw[aa]at q;cases q;show{hz,its,c,t,e}
  .rw[ai d]at q;show(I.hok b v q).stay (λc p u a=>?_) (λc a=>by rw[ai (f c _ a nofun)];show a) λc xs a=>by rw[ai (f c _ a nofun)];show a
   rcases u with z|z
   .subst z;show k c p (l c v q) d a
   .show k c p (l c _ z) (f c _ z nofun) a
def BU(I:au X pins σ H s)(y:H l=Z (.lst (ps.map λp=>V.ref p.1)))(L:∀p∈ps,H p.1=Z (.tup (.str p.2.1::p.2.2)))
  (nd:(ps.map (·.2.1)).Nodup) (b9:ps.length<64) (q:∀(r:List TK)(h':ϖ),r.Perm ps->r.Pairwise Gb->au X pins σ (upd H l (.lst (r.map λp=>V.ref p.1))) {s with heap:=h'}->Q .none {s with heap:=h'}):
  Ο (ϊ X.prog X.w) A (call (.builtin "list.sort") [.ref l]) Q E s:=by
 ext(⟨hz,its,n,rv,G⟩:(I.hok l _ y));let ei:=Fh ps its rv;subst ei;ext(⟨m,M,_⟩:I.loc);let nL:l≠X.env.locals:=λz=>by rw[z,I.free]at y;cases y
 let u4:∀p∈ps,p.1≠l/\p.1≠X.env.locals:=λp a=>by
  show{λz=>?_,λz=>?_}
  .let t:=L p a;rw[z,y]at t;cases t
  .let t:=L p a;rw[z,I.free]at t;cases t
 by_cases a9:ps.length<2
 .show y4 slot_list_sort {0,G,1} entry_list_sort (oZ G (↑a9) λa ep k2 u0=>{012}) (args_list_sort _);show q ps a (QC _) ?_ (I.setList M y (kd ps) hz (M.at' λo e=>k2 _ o (ϔ nL) e) (λb o _ hb z=>k2 b o hb z) u0);rcases ps with _|⟨p,_|⟨r,t⟩⟩
  .show .nil
  .show List.pairwise_singleton _ _
  .show absurd a9 (by change ¬ t.length+1+1<2;omega)
 .let P:(ps.map λp=>Ψ p.1).length=ps.length:=ε _;generalize hN:(mh (Att.noObjs s.heap) s.heap X.env.locals).filter (λp=>decide (p.1≠l))=W;let N0:News (Att.noObjs s.heap) X.env.locals s.heap W:=λp a=>by rw[<-hN]at a;show Dp p (J3.mp a).1
  let a8:∀p∈W,p.1≠l:=λp a=>by rw[<-hN]at a;show Q7 (J3.mp a).2
  show y4 slot_list_sort {0,G,1} entry_list_sort (kat_list_sort (Att.fr_all M) N0 G nL (Att.noObjs_get _ _) a8 (by rw[P];omega) (by rw[P];show b9) λe1 h' F' N'=>?_) (args_list_sort _);let a6:∀(g:ϖ)(x:Obj),News (Att.noObjs s.heap) X.env.locals g ((l,x)::W)->∀b o,b≠X.env.locals->b≠l->s.heap.get? b=Z o->g.get? b=Z o:=λg x N b o hb hl e=>
   (N (b,o) (ς _ (by rw[<-hN];show J3.mpr {tR hb (Att.noObjs_get _ _) e,Q9 hl}))).1
  let kp:=a6 h' _ N';let R:∀i,i<ps.length->(ps.map λp=>Ψ p.1).getD i .none=Ψ (ps.getD i (0,default,[])).1:=λi f=>by simp[G7,f]
  let a7:∀i,i<ps.length->∃(o:Obj) (us:List θ) (n:Nat) (t:Tok),h'.get? (ps.getD i (0,default,[])).1=Z o/\o.cls=.type "tuple"/\o.data=.seq (G0 (ps.getD i (0,default,[])).2.1 t::us).toArray n:=λi f=>by
   let S:ps.getD i (0,default,[])∈ps:=by
    let e:ps.getD i (0,default,[])=ps[i]:=by simp[G7,f]
    rw[e];show k_ f
   ext(⟨o,us,n,t,e,c,d⟩:Cs I (L _ S));show{o,us,n,t,kp _ o (u4 _ S).2 (u4 _ S).1 e,c,d}
  let b7:∀(r:List TK),(∀p∈r,p∈ps)->∃w:List θ,KatTups h' (r.map λp=>Ψ p.1) w/\w.length=r.length/\∀v∈w,∃x t,v=G0 x t:=by
   intro r;induction r with
   |nil=>intro _;show{[],KatTups.nil,13}
   |cons p r ih=>
    intro hs;obtain⟨w,u1,u2,t3⟩:=ih λx hx=>hs x (ς _ hx);let a:=hs p Γ;ext(⟨o,us,n,t,e,c,d⟩:Cs I (L _ a));show{G0 p.2.1 t::w,KatTups.cons (kp _ o (u4 _ a).2 (u4 _ a).1 e) c d () u1,by simp[u2],λv F=>?_};rcases ν.mp F with rfl|F
    .show{001}
    .show t3 v F
  obtain⟨w,u1,u2,t3⟩:=b7 ps λp a=>a;show kat_kind (T:=.type "str") u1 (by rw[u2];omega) (λv F=>?_) () ?_
  .ext(⟨x,t,rfl⟩:t3 v F);show Qx.of_pure U
  rw[P];let u3:FP (kas_ask X.prog X.w A.in1 (tuples' (K1 "str" != K1 "tuple")) (ps.map λp=>Ψ p.1)) (λi j=>decide ((ps.getD i (0,default,[])).2.1.cps.toList<(ps.getD j (0,default,[])).2.1.cps.toList)) ps.length {s with heap:=h'}:=by
   let a5:∀i j,i<ps.length->j<ps.length->i≠j->(ps.getD i (0,default,[])).2.1≠(ps.getD j (0,default,[])).2.1:=λi j f u B e=>by
    let ei:ps.getD i (0,default,[])=ps[i]:=by simp[G7,f]
    let ej:ps.getD j (0,default,[])=ps[j]:=by simp[G7,u]
    rw[ei,ej]at e;show B ((OV (h₀:=↑f) (h₁:=↑u) nd).mp (↑e))
   show{λi j C f u B hC=>?_,λi j k D K=>?_,λi j f u B D=>?_,λi j D=>?_}
   .change Ο _ _ (keyLt' _ _ _) C _ _;rw[R i f,R j u];ext(⟨o,us,n,t,e,c,d⟩:a7 i f);ext(⟨o2,d3,n2,d4,u0,c2,d2⟩:a7 j u);show kat_lt e d u0 d2 (kat_cons (wpAny_eqBool_str ?_));rw[Q8 (a5 i j f u B)];show kat_no (oneLt_str hC)
   .show Q9 (List.lt_trans (Q7 D) (Q7 K))
   .show Q9 (EY (of_decide_eq_false D) λe=>a5 i j f u B (FG e))
   .show Q8 (List.lt_asymm (Q7 D))
  show FZ u3 () λp re up=>?_;let b8:(p.toList.map λi=>(ps.map λp=>Ψ p.1).getD i .none)=(p.toList.map λi=>ps.getD i (0,default,[])).map λp=>Ψ p.1:=by rw[ϗ];show F_ λi f=>?_;show R i (G2.mp ((QR.mem_iff (↑(K7.mp re.perm))).mp f))
  rw[b8];show KasFin.intro F' N' (.head a8) λK c F2 N2=>?_;let pq:=Am (d:=(0,default,[])) U re;let I2:=I.setList M y (kd _) (by rw[ε,pq.length_eq];simpa using hz) F2.ns (a6 K _ N2) (N2 (l,_) Γ).1;show{01,q _ K pq (oU (λi j _ _ h=>(Q7 h:(ps.getD i (0,default,[])).2.1.cps.toList<(ps.getD j (0,default,[])).2.1.cps.toList)) re up) I2}
def vn(v d:J):HO:=.ext λh=>h.IsItemsView v d
def Bw:Et X "dict.items" (λx xs H Q=>∃d kvs,x=.ref d/\xs=[]/\H d=Z (.dK kvs)/\∀v,H v=χ->Q (.ref v) (upd H v (vn v d))):=by ext pins s σ H x xs u us Q I h f ⟨d,kvs,rfl,rfl,g,q⟩;cases h;cases f;ext(⟨z,c,vs,i,a⟩:Dt I.hok g);show call_meetsIn PySem.F.slot_dict_items a.typeIs PySem.F.entry_dict_items (PySem.F.args_dict_items_1 _) (meets_dict_items (bg X.prog X.w) d c) {{vs,a},{.ref s.heap.objs.size,0,I.laid (t':=s.toks) (λb u q=>π _ q) (Β _) ?_,1,q _ I.fresh}};show{{0,Ξ _ U,11},{0,Ξ _ U},λl j ⟨o,e,r⟩ k=>{o,k o e,r}}
def lays(H:Hp)(a:List TK):Hp:=λb=>match a.find? (λr=>decide (r.1=b))with|some r=>Z (.tup (.str r.2.1::r.2.2))|none=>H b
def mx(h:∀r∈a,r.1≠b):lays H a b=H b:=by unfold lays;rw[N9.mpr (λr c e=>h r c (Q7 e))]
def xM(d:(rs.map (·.1)).Nodup)(a:r∈rs):lays H rs r.1=Z (.tup (.str r.2.1::r.2.2)):=by
 unfold lays;cases e:rs.find? (λx=>decide (x.1=r.1))with
 |none=>show absurd (Q9 U) (N9.mp e r a)
 |some x=>have f:=Q7 (Qy (p:=λx:TK=>decide (x.1=r.1)) e);ext(⟨i,c,rfl⟩:F9 (L_ e));ext(⟨j,b,rfl⟩:F9 a);let:i=j:=(OV (h₀:=↑c) (h₁:=↑b) d).mp (↑f);subst this;rfl
def au.lays(I:au X pins σ H s)(k:∀b u,s.heap.get? b=Z u->h'.get? b=Z u)(i:(d.map (·.1)).Nodup)(j:∀r∈d,s.heap.objs.size<=r.1)
  (h:∀r∈d,bK X.prog X.w (L2.lays H d) h' r.1 (.tup (.str r.2.1::r.2.2))):au X pins σ (L2.lays H d) {s with heap:=h',toks:=tk}:=by
 let a:∀b,b<s.heap.objs.size->L2.lays H d b=H b:=λb g=>mx λr f e=>absurd g (PB.mpr (e▸j r f));show I.un (t':=tk) {λb u q _ _ _=>k b u q,λb u q _ _ _=>{u.slots,k b u q},λb u q n _=>by rw[a b (Η q)];show n,λb u q _=>{u,k b u q},λb xs q=>by rw[a b (I.hok.lt q)];show q,λb u xs q=>by rw[a b (I.hok.lt q)];show q,λb ps q=>{#[],by rw[a b (I.hok.lt q),q];simp}} λb u e=>?_
 by_cases g:∃r∈d,r.1=b
 .ext(⟨r,f,rfl⟩:g);rw[xM i f]at e;cases e;show h r f
 .rw[mx λr f z=>g {r,f,z}]at e;show(I.hok b u e).stay (λc v _ q=>k c v q) (λc q=>by rw[a c (I.hok.lt q)];show q) λc xs q=>by rw[a c (I.hok.lt q)];show q
def qU(hc:X.calm=Y):cS X (.builtin "sorted") (λxs H Q=>∃(v d:J) (m:List (Str×V)),xs=[.ref v]/\H v=Z (vn v d)/\H d=Z (.dK (m.map λp=>((ϱ p.1:cR),p.2)))/\m.length<64 /\
  ∀(H':Hp)(l:J)(t:List TK),ae H H'->H l=χ->(∀r∈t,H' r.1=Z (.tup (.str r.2.1::r.2.2))/\H r.1=χ)->H' l=Z (.lst (t.map λr=>V.ref r.1))->(t.map (·.2)).Perm (m.map λp=>(p.1,[p.2]))->t.Pairwise Gb->Q (.ref l) H'):=by
 intro pins s σ H xs us Q I r h;ext(⟨v,d,m,rfl,hv,hd,d5,q⟩:h);ext(⟨u,rfl,ru⟩:dg r);cases ru;ext(⟨vw,_,_⟩:(I.hok v _ hv));ext(⟨z,d7,vs,A,dd⟩:Dt I.hok hd);let d6:vs.length=m.length:=by let:=A.length;rw[ε]at this;show this.symm
 ext(⟨ep,W⟩:dd.dictAt);let D:(vs.map (·.1)).Nodup:=by ext(⟨_,_,_,_,_,_,_,nd⟩:W);show nd
 show Calls.call_function_entry kind_sorted plain_sorted entry_sorted (args_sorted1 _) ?_;show η (ω (η (kdx_collect (I.ok.hd hc) vw W (by rw[<-A.length];show z) λh' tk i hk hl E=>?_)));let a0:i.length=m.length:=();let w:((i.zip m).map λp=>((p.1,p.2.1,[p.2.2]):TK)).map (·.1)=i:=by rw[ϗ];let:((λx:TK=>x.1)∘λp:J×Str×V=>((p.1,p.2.1,[p.2.2]):TK))=Prod.fst:=U;rw[this,List.map_fst_zip ()]
 let F:((i.zip m).map λp=>((p.1,p.2.1,[p.2.2]):TK)).map (·.2)=m.map λp=>(p.1,[p.2]):=by rw[ϗ];let:((λx:TK=>x.2)∘λp:J×Str×V=>((p.1,p.2.1,[p.2.2]):TK))=(λp:Str×V=>(p.1,[p.2]))∘Prod.snd:=U;rw[this,<-ϗ,List.map_snd_zip ()]
 let e3:((i.zip m).map λp=>((p.1,p.2.1,[p.2.2]):TK)).map (λr=>V.ref r.1)=i.map V.ref:=by let:(λr:TK=>V.ref r.1)=V.ref∘(λr:TK=>r.1):=U;rw[this,<-ϗ,w]
 let N:∀r∈(i.zip m).map λp=>((p.1,p.2.1,[p.2.2]):TK),∃(x:Str) (y:V) (u n:θ),r.2=(x,[y])/\aI (.str x) u/\aI y n/\h'.get? r.1=Z {cls:=.type "tuple",data:=.seq #[u,n]}:=λr f=>by ext(⟨⟨a,x,y⟩,hp,rfl⟩:ϙ.mp f);ext(⟨j,hj⟩:List.getElem?_of_mem hp);ext(⟨ha,B⟩:List.getElem?_zip_eq_some.mp hj);ext(⟨a3,k,n,g1,g2,g3⟩:E.pairs j a ha);ext(⟨y',P,ry⟩:A.at g1);rw[ϐ,B]at P;let a5:((ϱ x:cR),y)=(k,y'):=Ϟ P;injection a5 with k1 k2;subst k1 k2;show{x,y,a3,n,1,Km g2,ry,g3}
 generalize u1:(i.zip m).map (λp=>((p.1,p.2.1,[p.2.2]):TK))=c at w F e3 N;let a2:c.length=m.length:=by rw[<-u1,ε,List.length_zip];omega
 let u3:(c.map (·.1)).Nodup:=by rw[w];show E.rise.imp λh=>Ϙ h
 let C:∀r∈c,s.heap.objs.size<=r.1:=λr f=>E7 (E.above r.1 (by rw[<-w];show j8 f));let a1:∀(T:Hp)(r:TK),r∈c->bK X.prog X.w T h' r.1 (.tup (.str r.2.1::r.2.2)):=λT r f=>by ext(⟨x,y,u,n,er,r1,r2,g⟩:N r f);rw[er];show{by change 2<=Μ;rw[ι];decide,[u,n],.cons r1 (.cons r2 .nil),{0,g,1,(0),1},{0,g,1}}
 let S:au X pins σ (lays H c) {s with heap:=h',toks:=tk}:=I.lays hk u3 C λr f=>a1 _ r f;let u0:ae H (lays H c):=λb o e=>by
  let ho:∀r∈c,r.1≠b:=λr f G=>by let R:=C r f;rw[G]at R;show absurd (I.hok.lt e) (PB.mpr R)
  rw[mx ho];show e
 show η (wpAny_newList ?_ (by rw[ε,a0,ι];omega));let u2:aE (c.map λr=>V.ref r.1) (i.map Ψ):=by
  let:=kd c;let e4:c.map (λp=>Ψ p.1)=i.map Ψ:=by rw[<-w,ϗ];rfl
  rwa[e4]at this
 let I2:=S.lnew (t':=tk) u2 (by rw[ε,a2,ι];omega);let u4:=S.fresh;let K:ae (lays H c) (upd (lays H c) h'.objs.size (.lst (c.map λr=>V.ref r.1))):=ac u4 _;let inr:∀r∈c,lays H c r.1=Z (.tup (.str r.2.1::r.2.2)):=λr f=>xM u3 f;let M:H h'.objs.size=χ:=by
  cases e:H h'.objs.size with
  |none=>rfl
  |some o=>have:=u0 _ _ e;rw[u4]at this;cases this
 let a4:(c.map (·.2.1)).Nodup:=by
  let e5:c.map (·.2.1)=m.map (·.1):=by let:=congrArg (QO Prod.fst) F;simpa[ϗ,Function.comp_def]using this
  let e6:(m.map (·.1)).map (ϱ:Str->cR)=vs.map (·.1):=by rw[<-A.keys,ϗ,ϗ];rfl
  rw[e5];rw[<-e6]at D;rw[List.Nodup,List.pairwise_map]at D;show D.imp λh e=>h (by rw[e])
 show η (u6 (BU I2 aa (λr f=>K _ _ (inr r f)) a4 () λt h2 L pw I3=>ω {01,.ref h'.objs.size,0,I3,1,q _ _ t (λb o e=>?_) M (λr f=>{2,I.hok.fresh (C r (L.mem_iff.mp f))}) aa (by rw[<-F];show L.map _) pw}))
 .let:=K _ _ (u0 _ _ e);rw[ai (λG=>by rw[G,M]at e;cases e)];show this
 .let B:=L.mem_iff.mp f;rw[ai (af (inr r B) u4)];show K _ _ (inr r B)
end
open PySem PySem.Spec PyProof.Rows
def JH(c:s.heap.IsTuple l items)(a:s.heap.IsTuple b items2)(hsz:items.size=items2.size)(f:A.units<B8)
  (d:∀j (i:j<items.size) (g:j<items2.size),Ϯ A.in1 s items[j] items2[j] Y):Ϯ A s (.ref l) (.ref b) Y:=by
 by_cases h:l=b
 .subst h;show E6 _
 .let r:=P6 c a f d;let e:((ϳ (min items.size items2.size)).all (λ_=>Y)&&items.size==items2.size)=Y:=by simp[hsz]
  rw[e]at r;show PC h r
def fD(n:Nat)(d:Dv):Prop:=∀(X:Cx)(pins:List (J×Obj))(σ:St)(H:Hp)(s:ρ),au X pins σ H s->∀(A:Ϛ)(v w:V)(a b:θ),A.units+n<B8->ah H d v->ah H d w->aI v a->aI w b->Ϯ A s a b Y
def fD.mono(h:fD m d)(l:m<=n):fD n d:=λX pins σ H s I A v w a b c=>h X pins σ H s I A v w a b ()
def oO:fD 0 (.int i):=λX pins σ H s I A v w a b h g f c d=>by subst g f;ext(⟨t,rfl⟩:(c));ext(⟨t',rfl⟩:(d));let e:=Pw (A:=A) (s:=s) i t i t';rwa[beq_self_eq_true]at e
def CD{x:Str}:fD 0 (.str x):=λX pins σ H s I A v w a b hu r1 r2 q1 q2=>by simp only[ah]at r1 r2;subst r1 r2;obtain⟨t,rfl⟩:=(show ∃t,a=G0 x t from q1);obtain⟨t',rfl⟩:=(show ∃t,b=G0 x t from q2);let e:=Px (A:=A) (s:=s) x t x t';rwa[beq_self_eq_true]at e
section
variable{X:Cx}{pins:List (J×Obj)}{σ:St}{H:Hp}{s:ρ}
def eR(I:au X pins σ H s)(h:∀d∈ds,fD n d)(v:A.units+n<B8)(c:Reps H ds vs)(f:Reps H ds ws)(g:aE vs its)(e:aE ws its2):
  its.toArray.size=its2.toArray.size/\∀j (m:j<its.toArray.size) (l:j<its2.toArray.size),Ϯ A s its.toArray[j] its2.toArray[j] Y:=by
 let D:=c.length;let F:=f.length;let E:=g.length;let C:=e.length;show{by simp;omega,λj m l=>?_};let o:j<its2.length:=↑l
 ext(⟨u,a,B⟩:aE.get (x:=vs[j]'()) g (Δ _));ext(⟨r,i,q⟩:aE.get (x:=ws[j]'()) e (Δ _));ext(⟨d,k,y⟩:c.get (Δ _));ext(⟨d2,b,p⟩:f.get (Δ _));rw[k]at b;cases b;let z:its.toArray[j]=u:=by rw[Δ (↑m)]at a;simpa using Ϟ a
 let t:its2.toArray[j]=r:=by rw[Δ o]at i;simpa using Ϟ i
 rw[z,t];show h d (Ν k) X pins σ H s I A _ _ _ _ v y p B q
end
def nI(h:∀d∈ds,fD n d):fD (n+1) (.tup ds):=λX pins σ H s I A v w a b y r p j k=>by
 ext(⟨l,vs,rfl,o,c⟩:r);ext(⟨C,B,rfl,m,f⟩:p);cases j;cases k;ext(⟨its,i,u,_⟩:I.tuple (aq.of o));ext(⟨x,e,t,_⟩:I.tuple (aq.of m));let g:A.in1.units+n<B8:=by change A.units+1+n<B8;omega
 ext(⟨z,q⟩:eR I h g c f i e);show JH u t z () q
section
variable{X:Cx}
end
structure AY(K:ζ)(x qual:Str)(st:ϯ)(f:J)(fd:ό)(dV:θ):Prop where
 ex:∃(oc:θ) (od:Option J) (kV doc pm:θ) (an:Option J) (cdv ct:θ) (osl:Array (Option θ)),
  fd=h_ x qual (bQ st) (bt st) (ax st) dV kV doc pm an cdv ct/\K.lookup f=Z ⟨oc,od,.func fd,osl⟩/\A0 K cdv qual=Y
section
variable{P:Θ}{w:Χ}{K:ζ}{mg:Str->Option θ}{base:ϖ}
def AY.ok{x qual:Str}{st:ϯ}{f:J}{b:ό}{l:θ}{N ps:List Str}{k:Nat}{sp:Sp}(F:AY K x qual st f b l)(S:ci N ps (ax st))(e:∀vs H Q E,sp vs H Q E->vs.length=ps.length)
  (c:∀(a:θ)(A:Ϛ)(outer:List Env)(s:ρ)(H:Hp)(vs:List V)(Q:VK)(E:XK),bU k (A.deeper (B9 qual (ax st) s.heap.objs.size f a))->sp vs H Q E ->
   ∃t,kl (be aY P w K mg base N qual (ax st) f a A outer s H E).nox (bt st) t/\t {nx:=λ_ H'=>Q .non H',rt:=Q} (gO N vs) H):ap P w K mg base aY (k+1) f b ps sp:=by
 ext(⟨y,v,o,n,u,p,a,r,m,rfl,i,d⟩:F.ex);show Bs i d S e λA outer s H vs Q E j g=>?_;ext(⟨t,h,q⟩:c a A outer s H vs Q E j g);show{t,h.nox,q}
def AY.binds{x qual:Str}{st:ϯ}{f T:J}{k:ό}{ps:List Str}{ds:List θ}{e:Obj}{its:Array θ}{n:Nat}(F:AY K x qual st f k (.ref T))(p:K.lookup T=Z e)(r:e.data=.seq its n)
  (h:∀(c b j:θ)(g:Option J)(a i:θ)(us:List θ),(us++ds).length=ps.length->∃d:Option (Array θ)->Sem (List (Str×θ)),bindArgs (h_ x qual (bQ st) (bt st) (ax st) (.ref T) c b j g a i) {us,[]}=seqItems? (.ref T)>>=d/\d (Z its)=pure (ps.zip (us++ds))):bo K k ps ds:=by
 ext(⟨z,y,c,b,j,g,a,i,u,rfl,v,t⟩:F.ex);intro s us l q;ext(⟨d,o,m⟩:h c b j g a i us q);show QG.of_defaults U (l T e p) r o m
end
open PySem PySem.Spec PyProof.Rows PySem.W
section
variable{X:Cx}{e st:ϲ}{te:TE}{ts:TO}{p2 pos:Pos}
end
section
variable{X:Cx}
end
def uo(t:B1)(n:Nat):(t.orStandIn n).led=t.led/\((t.orStandIn n).plain=Y->t.plain=Y):=by
 unfold B1.orStandIn;split
 .show{1,λh=>h}
 .show{1,λh=>by cases h}
def Ga(t:B1)(es:Array (Int×θ))(h:Int)(x:θ):(layNew t es h x).2.1.led=t.led/\((layNew t es h x).2.1.plain=Y->t.plain=Y):=by
 unfold layNew;set_option tactic.hygienic true in split
 .rename_i slot wd _;ext(⟨a,b⟩:uo (t.put slot).1 (B1.insertAt es (t.put slot).2 (h,x)).size);show{a,b}
 .show{1,λh=>by cases h}
def wE{t t':B1}{hs:Array Int}{n:Nat}{o:Array Nat}(h:t.relaid hs n=Z (t',o)):t'.led=t.led/\t'.plain=t.plain:=by
 unfold B1.relaid B1.laid at h;cases e:B1.layClean (B1.sizeAbove n-1) hs with
 |none=>rw[e]at h;cases h
 |some ow=>rw[e]at h;let h2:=Ϟ h;injection h2 with h3 h4;subst h3;show{11}
def AI(t:B1)(es:Array (Int×θ))(n:Nat):(relayAll t es n).2.1.led=t.led/\((relayAll t es n).2.1.plain=Y->t.plain=Y):=by
 unfold relayAll;set_option tactic.hygienic true in split
 .rename_i t' o h;ext(⟨a,b⟩:wE h);dsimp only;split
  .show{a,λz=>by rw[<-b];show z}
  .show{1,λz=>by cases z}
 .show{1,λz=>by cases z}
def lG(e:Int×θ):Str:=match e.2 with|.str x _=>x|_=>default
def eY(P:Θ)(w:Χ)(h:ϖ)(a:J)(xs:List Str):Prop:=
 ∃o es ep t,h.get? a=Z o/\o.ExactSet/\o.data=.set es ep t/\ElemsOf (l_ P w) es.toList/\es.size<C7/\t.fits es.size=Y/\t.led=(!w.params.followText "set-order")/\(t.plain=Y->es.size=0)/\(es.toList.map lG).Perm xs
section
variable{P:Θ}{w:Χ}{A:Ϛ}{E:θ->ρ->Prop}{s:ρ}
def qG{y:Str}{e:Int×θ}(h:(l_ P w).is y e.2=Y):lG e=y:=by ext(⟨t,ht⟩:θ.isStrOf_shape h);unfold lG;rw[ht]
def AJ{e:Int×θ}(h:∃k,(l_ P w).is k e.2=Y):(l_ P w).is (lG e) e.2=Y:=by ext(⟨k,hk⟩:h);rw[qG hk];show hk
def eY.put{h:ϖ}{a:J}{o:Obj}{es es':Array (Int×θ)}{ep:Nat}{t t':B1}{xs:List Str}(ho:h.get? a=Z o)(hex:o.ExactSet)(hd:o.data=.set es ep t)(hel:ElemsOf (l_ P w) es'.toList)
  (hb:es'.size<C7) (hf:t'.fits es'.size=Y) (hl:t'.led=(!w.params.followText "set-order")) (hp:t'.plain=Y->es'.size=0) (hx:(es'.toList.map lG).Perm xs):
  (h.update a (Qp es' t')).get? a=Z {o with data:=.set es' (ep+1) t'}/\eY P w (h.update a (Qp es' t')) a xs:=by
 let hg:(h.update a (Qp es' t')).get? a=Z {o with data:=.set es' (ep+1) t'}:=by let:=ϸ (Qp es' t') ho (by rw[putSet_of es' t' hd];rfl);rw[putSet_of es' t' hd]at this;show this
 show{hg,0,es',ep+1,t',hg,hex,1,hel,hb,hf,hl,hp,hx}
def tw{g:Bool->Sem Unit}(hg:∀(b:Bool)(s₁:ρ)(Q':Unit->ρ->Prop),Q' Unit.unit s₁->Ο (ϊ P w) A (g b) Q' E s₁){a:J}{o:Obj}{es es1:Array (Int×θ)}{ep:Nat}{t t2:B1}{xs:List Str}{wd:Bool}{R:Option Bool->ρ->Prop}
  (ho:s.heap.get? a=Z o) (hex:o.ExactSet) (hd:o.data=.set es ep t) (hel:ElemsOf (l_ P w) es1.toList) (hb:es1.size<C7) (hf:t2.fits es1.size=Y) (hl:t2.led=(!w.params.followText "set-order")) (hp:t2.plain=Α) (hx:(es1.toList.map lG).Perm xs)
  (h:∀h',B_ a s.heap h'->eY P w h' a xs->R (Z Y) {s with heap:=h'}):
  Ο (ϊ P w) A (do
    storeSet a es1 t2
    if (!wd && t2.tooFull) = Y then do
        g (relayAll t2 es1 (G8 es1.size)).2.2
        storeSet a (relayAll t2 es1 (G8 es1.size)).1 (relayAll t2 es1 (G8 es1.size)).2.1
        pure (Z Y)
     else pure (Z Y)) R E s:=by
 show η (wpAny_storeSet_of ho hd ?_ (fits_of_scanBound hb));obtain⟨ho1,hS1⟩:=eY.put (P:=P) (w:=w) ho hex hd hel hb hf hl (λz=>by rw[hp]at z;cases z) hx;let sb1:=M3 s.heap a (Qp es1 t2);split
 .let pm:=relayAll_perm t2 es1 (G8 es1.size);let ft:=relayAll_fits t2 es1 (G8 es1.size);let ld:=AI t2 es1 (G8 es1.size);generalize relayAll t2 es1 (G8 es1.size)=Rl at pm ft ld⊢;ext(⟨es2,t3,gave⟩:Rl);dsimp only at pm ft ld⊢;let sz:es2.size=es1.size:=by rw[<-ύ,pm.length_eq,ύ]
  show η (hg _ _ _ (η (wpAny_storeSet_of ho1 U ?_ (fits_of_scanBound (by rw[sz];show hb)))));obtain⟨_,hS2⟩:=eY.put (P:=P) (w:=w) (xs:=xs) ho1 hex U (hel.perm pm) (by rw[sz];show hb) ft (by rw[ld.1];show hl) (λz=>by let:=ld.2 z;rw[hp]at this;cases this) ((pm.map _).trans hx);show ω (h _ (sb1.trans (M3 _ a _)) hS2)
 .show ω (h _ sb1 hS1)
def ve{a:J}{xs:List Str}{y:Str}{tk:Tok}{Q:Bool->ρ->Prop}(hS:eY P w s.heap a xs)(hlen:xs.length+1<C7)
  (h:∀h' b,B_ a s.heap h'->eY P w h' a (if y∈xs then xs else xs++[y])->Q b {s with heap:=h'}):Ο (ϊ P w) A (setAddHashed a (.str y tk) ((l_ P w).hash y)) Q E s:=by
 ext(⟨o,es,ep,t,ho,hex,hd,hel,hb,hf,hl,hpl,hx⟩:hS);let hkey:(l_ P w).is y (.str y tk)=Y:=strKind_is _ _ _ _;let hsc:(G0 y tk).scannable=Y:=U;let sz:es.size=xs.length:=by rw[<-hx.length_eq,ε,ύ]
 unfold setAddHashed setAddHashedIn;show u6 (η (wpAny_setState_of ho hd hf ?_));dsimp only;rw[byScan_of hsc hb hel];simp only[↓reduceIte];unfold setAddByScan;show η (η (F4 (η (wpAny_setScan_of hkey ho hd hf hel ?_))));cases hr:List.findIdx? (λe=>(l_ P w).is y e.2) es.toList with
 |some j=>
  dsimp only;ext(⟨hj,hpj,_⟩:List.findIdx?_eq_some_iff_getElem.mp hr);let hy:y∈xs:=hx.mem_iff.mp (ϙ.mpr {es.toList[j],k_ hj,qG hpj});let e:s={s with heap:=s.heap}:=by cases s;rfl
  let q:=h s.heap Α (B_.refl a s.heap) (by rw[Q5 hy];show{o,es,ep,t,ho,hex,hd,hel,hb,hf,hl,hpl,hx});rw[<-e]at q;show ω (ω q)
 |none=>
  dsimp only;let hy:y∉xs:=λz=>by ext(⟨e,he,e1⟩:ϙ.mp (hx.mem_iff.mpr z));let:=List.findIdx?_eq_none_iff.mp hr e he;rw[<-e1,AJ (hel.keys e he)]at this;cases this
  rw[Q6 hy]at h;let hgw:∀(b:Bool){s₁:ρ}{Q':Unit->ρ->Prop},Q' Unit.unit s₁->Ο (ϊ P w) A (match b with|true=>rule "set.scan.the-table-gave-way" |false=>pure Unit.unit) Q' E s₁:=
   λb s₁ Q' hq=>by cases b<;>first|show ω hq|show F4 hq
  let pm:=layNew_perm t es ((l_ P w).hash y) (.str y tk);let ft:=layNew_fits t es ((l_ P w).hash y) (.str y tk);let ld:=Ga t es ((l_ P w).hash y) (.str y tk);generalize layNew t es ((l_ P w).hash y) (.str y tk)=L at pm ft ld⊢;ext(⟨es1,t1,wd,gave⟩:L);dsimp only at pm ft ld⊢;rw[Array.toList_push]at pm;let hel1:ElemsOf (l_ P w) es1.toList:=(hel.push hkey hsc).perm pm;let sz1:es1.size=es.size+1:=by rw[<-ύ,pm.length_eq,Ι,ύ];rfl
  let hb1:es1.size<C7:=by rw[sz1,sz];show hlen
  let hx1:(es1.toList.map lG).Perm (xs++[y]):=by show(pm.map lG).trans ?_;rw[Ε];show hx.append (QC _)
  show η (hgw _ ?_);split
  .show η ?_;rw[hashByValue_scannable 8 hsc];show ω ?_;show tw ?_ ho hex hd hel1 hb1 (t2:={t1 with plain:=Α}) (B1.fits_plain_off ft) (by rw[<-hl];show ld.1) U hx1 ?_
   .intro b s₁ Q' hq;cases b<;>first|show ω hq|show F4 hq
   .intro h' sb hS';dsimp only;show ω (h h' Y sb hS')
  .rename_i hnp;show η (ω ?_);simp only[↓reduceIte];show tw ?_ ho hex hd hel1 hb1 ft (by rw[<-hl];show ld.1) (by cases z:t1.plain with|false=>rfl|true=>show absurd z hnp) hx1 ?_
   .intro b s₁ Q' hq;cases b<;>first|show ω hq|show F4 hq
   .intro h' sb hS';dsimp only;show ω (h h' Y sb hS')
end
def uf(acc:List Str)(y:Str):List Str:=if y∈acc then acc else acc++[y]
def uq(val:Nat->Str)(i:Nat):List Str:=((ϳ i).map val).foldl uf []
def lX(val:Nat->Str)(i:Nat):uq val (i+1)=uf (uq val i) (val i):=by unfold uq;rw[List.range_succ,Ε,List.foldl_append];rfl
def rh(val:Nat->Str):∀i,(uq val i).length<=i
 |0=>Β _
 |i+1=>by
  let ih:=rh val i;rw[lX];unfold uf;split
  .omega
  .rw[Ι,j7];omega
def jr(val:Nat->Str):∀i,(uq val i).Nodup
 |0=>List.nodup_nil
 |i+1=>by
  rw[lX];unfold uf;split
  .show jr val i
  .rename_i h;show P7.mpr {jr val i,3,λa ha b hb e=>h (by rw[ξ.mp hb]at e;rw[<-e];show ha)}
def wK(val:Nat->Str)(x:Str):∀i,x∈uq val i↔∃j,j<i/\val j=x
 |0=>{(λh=>nomatch h),(λ⟨j,h,_⟩=>absurd h (Nat.not_lt_zero _))}
 |i+1=>by
  rw[lX];unfold uf;let ih:=wK val x i;constructor
  .intro h;split at h
   .ext(⟨j,hj,e⟩:ih.mp h);show{j,3,e}
   .rcases ϧ.mp h with h|h
    .ext(⟨j,hj,e⟩:ih.mp h);show{j,3,e}
    .show{i,3,(ξ.mp h).symm}
  .ext⟨j,hj,e⟩;split
   .rename_i h;by_cases hji:j=i
    .rw[<-e,hji];show h
    .show ih.mpr {j,3,e}
   .by_cases hji:j=i
    .rw[<-e,hji];show Ϫ _ (ξ.mpr U)
    .show g_ _ (ih.mpr {j,3,e})
section
variable{P:Θ}{w:Χ}{A:Ϛ}{R:QJ->ρ->Prop}{I:J}{fp wr:List J}{G:Array K2->Array K2->Prop}{n:Nat}{Pv:Nat->θ->Prop}{St:Nat->ρ->Prop}
def eY.at'{h h':ϖ}{a:J}{xs:List Str}(x:eY P w h a xs)(k:∀o,h.get? a=Z o->h'.get? a=Z o):eY P w h' a xs:=let ⟨o,es,ep,t,ho,r⟩:=x;{o,es,ep,t,k o ho,r}
def uv(W:WalksS P w A.in1 I fp wr G n Pv St)(S:J)(hSf:S∉fp)(val:Nat->Str)(hval:∀i v,Pv i v->∃t,v=.str (val i) t)(hb:n+1<C7):
  ∀(k i:Nat)(s:ρ),n-i=k->i<=n->St i s->eY P w s.heap S (uq val i)->(∀s',Moved (S::wr) G s s'->eY P w s'.heap S (uq val n)->R (.ok (.ret .none)) s') ->
   F7 (ϊ P w) A (.builtin "set.update.loop" {[.ref S,.ref I],[]}) R s:=by
 let hSw:S∉wr:=λh=>hSf (W.sub _ h);let more:∀b∈wr,b∈S::wr:=λb hb=>ς _ hb;intro k;induction k with
 |zero=>intro i s hk hi st hS fin;obtain rfl:i=n:=();show J6 F.entry_set_update_loop ?_;rw[O0 Oz _];change Ο _ A.in1 (QA (.ref I)>>=_) _ _ s;show η (W.done s _ _ st λs' hm=>?_);change Ο _ A.in1 (ret w_) _ _ s';show ω (fin s' (hm.mono more) (hS.at' λo e=>hm.heap S _ hSw e))
 |succ k ih=>
  intro i s hk hi st hS fin;let hlt:i<n:=();show J6 F.entry_set_update_loop ?_;rw[O0 Oz _];change Ο _ A.in1 (QA (.ref I)>>=_) _ _ s;show η (W.item i s _ _ hlt st λv s' hP st' hm=>?_);ext(⟨t,rfl⟩:hval i v hP);let hS':eY P w s'.heap S (uq val i):=hS.at' λo e=>hm.heap S _ hSw e;change Ο _ A.in1 (holding [G0 (val i) t] (setAdd S (.str (val i) t))>>=_) _ _ s';show η (u6 ?_);unfold setAdd;show u6 (η ((l_ P w).pyHash (k:=val i) (strKind_is _ _ _ _) ?_));let room:(uq val i).length+1<C7:=by let:=rh val i;omega
  show ve (s:={s' with toks:=s'.toks+1}) hS' room λh' b sb hS2=>?_;let hSi:eY P w h' S (uq val (i+1)):=by rw[lX];show hS2
  show ω {Qg Oz _,ih (i+1) _ () hlt (W.frame _ s' _ _ st' (x9 _) λb hb o e=>?_) hSi λs'' hm'' hS''=>?_}
  .rw[sb.2 b (λh:b=S=>hSf (by rw[<-h];show hb))];show e
  .show fin s'' (Moved.trans W.gtrans ((hm.mono more).then_heap (x9 _) λb o hb e=>?_) hm'') hS'';rw[sb.2 b (λh:b=S=>hb (by rw[h];show Γ))];show e
end
def bG(w:Χ):Obj:={cls:=.type "set",dict:=χ,data:=.set #[] 0 (.fresh 0 0 (!w.params.followText "set-order"))}
section
variable{P:Θ}{w:Χ}{A:Ϛ}{E:θ->ρ->Prop}{s:ρ}
def iE(a:θ){Q₁:θ->ρ->Prop}(h:Q₁ (.ref s.heap.objs.size) {s with heap:=s.heap.push (bG w)}):
  F7 (ϊ P w) A (.call (.builtin "set.__new__") {[.type "set",a],[]}) (wants Q₁ E) s:=by
 show O3 ?_;change Ο _ A.in1 (do y6 "set.__new__" {[.type "set",a],[]};again (.builtin "set.__new__" {[.type "set",a],[]})) _ _ s;show η (wpAny_of_eq (PySem.F.newCall_set_1 a) (ω {Qg PySem.F.plain_set_new _,J6 PySem.F.entry_set_new ?_}));rw[O0 PySem.F.plain_set_new _];unfold s_.«set.__new__» s_.Frozenset.newClass;let hsub:=sub_set_self;ext(⟨hp,g,d,tk,os⟩:s);dsimp only;wp_walk;show wpAny_askSetting (ω ?_);dsimp only;simp only[newObj];show η (wpAny_alloc (ω ?_));show ω h
def mX(h:ϖ):eY P w (h.push (bG w)) h.objs.size []:=
 {0,#[],(0),0,Ξ _ U,{111},1,λe he=>by simp at he,311,λ_=>U,QC _}
def oX{l:J}{items:Array θ}{ys:List Str}{Q:θ->ρ->Prop}(hh:A.handled=χ)(hl:s.heap.IsList l items)(hi:∀(i:Nat)(v:θ),items[i]?=Z v->∃t,v=.str (ys.getD i default) t)(hb:items.size+1<C7)
  (h:∀(h':ϖ)(tk:Nat),eY P w h' s.heap.objs.size (uq (λi=>ys.getD i default) items.size)->(∀b o,b<s.heap.objs.size->s.heap.get? b=Z o->h'.get? b=Z o)->Q (.ref s.heap.objs.size) {s with heap:=h',toks:=tk}):
  Ο (ϊ P w) A (call (.type "set") [.ref l]) Q E s:=by
 ext(⟨c,tl,hmro⟩:ϫ.mro);let hmade:=ϫ.made;let hsub:=ϫ.sub;show N7 (O3 ?_);change Ο _ _ (callAny (.type "set") _) _ _ _;show ω {J0 _ (),J6 PySem.F.entry_type_call ?_};rw[Ϛ.under_plain (weight_type_call_type "set" [.ref l] []) U];let h1:=ϫ.notType;let h2:=ϫ.canCreate;let hct:=PySem.F.typeCall_set_1 (.ref l);repeat (any_goals (first|assumption|wp_step))
 show C1 (iE (.ref l) (E:=E) (Q₁:=λobj s₁=>obj=.ref s.heap.objs.size/\s₁={s with heap:=s.heap.push (bG w)}) {11}) λr s₁ hr=>?_;cases r with
 |error e=>show hr
 |ok fl=>
  cases fl with
  |ret obj=>
   ext(⟨rfl,rfl⟩:hr);let hS:(s.heap.push (bG w)).get? s.heap.objs.size=Z (bG w):=Ξ _ U;let hT:ρ.TypeIs {s with heap:=s.heap.push (bG w)} (.ref s.heap.objs.size) "set":={0,hS,1};let hli:=ϫ.init.lookup;let hbi:=ϫ.init.bind (.ref s.heap.objs.size);repeat (any_goals (first|assumption|wp_step))
   show C1 (y7 (R:=wants (λr s₂=>r=.none/\∃h' tk,s₂={s with heap:=h',toks:=tk}/\eY P w h' s.heap.objs.size (uq (λi=>ys.getD i default) items.size)/\(∀b o,b<s.heap.objs.size->s.heap.get? b=Z o->h'.get? b=Z o)) E)
    ϫ.init.plain PySem.F.entry_set_init (check_set_init_1 hT ?_)) λr₂ s₂ hr₂=>?_
   .ext(⟨ol,hol,hcl,nl,hdl⟩:hl);ext(⟨ocls,odict,odata,oslots⟩:ol);simp only at hcl hdl;subst hcl;subst hdl;let hol':(s.heap.push (bG w)).get? l=Z {cls:=.type "list",dict:=odict,data:=.seq items nl,slots:=oslots}:=π _ hol;let hsls:=PySem.F.sub_list_set;let hslf:=PySem.F.sub_list_frozenset;let hne:(K1 "list" == K1 "dict")=Α:=();let hl1:(s.heap.push (bG w)).IsList l items:={0,hol',1,nl,1};unfold bG at hS hT hol' hl1⊢;unfold s_.«set.__init__» noKeywords O4;generalize hPI:pyIter=PI;wp_walk;subst hPI;show OC hl1 ?_;show η (wpAny_runValue ?_);let hlS:l<s.heap.objs.size:=Η hol;let hh3:A.in1.in1.in1.handled=χ:=by simp[hh]
    let hneI:l≠(s.heap.push (bG w)).objs.size:=by rw[Ϲ];show Ϙ (E9 hlS)
    let hSf:s.heap.objs.size∉[(s.heap.push (bG w)).objs.size,l]:=by rw[Ϲ];simp only[ν,ξ,ϵ,or_false,not_or];show{Ϙ (G4 _),u9 hlS}
    show uv ((Walks.list hh3 _ l hneI items).toS) s.heap.objs.size hSf (λi=>ys.getD i default) hi hb (items.size-0) 0 _ () (Τ _)
     {{0,Ξ _ U,11},(hl1.push _)} ?hS0 ?hR
    case hS0=>show(mX s.heap).at' λo e=>π _ e
    case hR=>
     intro s' hm hS';ext(⟨h',g',d',tk',os'⟩:s');let eg:g'=s.gens:=hm.gens;let ed:d'=s.drawn:=hm.drawn;let eo:os'=s.os:=hm.os;subst eg;subst ed;subst eo;change Ο _ _ _ _ _ _;show ω ?_;change Ο _ _ (ret w_) _ _ _;show ω {1,h',tk',1,hS',λb o hb e=>?_};let hb1:b≠s.heap.objs.size:=Ϙ hb;let hb2:b≠(s.heap.push (bG w)).objs.size:=by rw[Ϲ];show Ϙ (E9 hb)
     show hm.heap b o (by simp only[ν,ξ,ϵ,or_false,not_or];show{hb1,hb2}) (π _ (π _ e))
   .cases r₂ with
    |error e=>show hr₂
    |ok fl₂=>
     cases fl₂ with
     |ret r=>
      ext(⟨rfl,h',tk,rfl,hS',hk'⟩:hr₂);repeat (any_goals (first|assumption|wp_step))
      show h _ _ hS' hk'
     |_=>show hr₂.elim
  |_=>show hr.elim
end
section
variable{P:Θ}{w:Χ}{A:Ϛ}{E:θ->ρ->Prop}
variable{s:ρ}{it S:J}{o:Obj}{es:Array (Int×θ)}{ep n i:Nat}{t:B1}
end
section
variable{P:Θ}{w:Χ}{A:Ϛ}{E:θ->ρ->Prop}{s:ρ}{it S:J}{o:Obj}{es:Array (Int×θ)}{ep n i:Nat}{t:B1}
end
section
variable{P:Θ}{w:Χ}{A:Ϛ}{E:θ->ρ->Prop}{s:ρ}{it S tp:J}{o ot:Obj}{es:Array (Int×θ)}{ep n i m:Nat}{t:B1}{pl:Array θ}
end
section
variable{P:Θ}{w:Χ}{A:Ϛ}{E:θ->ρ->Prop}{s:ρ}{S:J}{o:Obj}{es:Array (Int×θ)}{ep:Nat}{t:B1}
end
section
variable{P:Θ}{w:Χ}{it S tp:J}{o ot:Obj}{es:Array (Int×θ)}{ep m:Nat}{t:B1}
end
section
variable{P:Θ}{w:Χ}{A:Ϛ}{E:θ->ρ->Prop}{s:ρ}{S:J}{xs:List Str}
variable{R:QJ->ρ->Prop}{it L:J}{fp:List J}{vs:List θ}{St:Nat->ϖ->Prop}
end
section
variable{P:Θ}{w:Χ}{A:Ϛ}{E:θ->ρ->Prop}{s:ρ}{S:J}{xs:List Str}
end
section
variable{X:Cx}{pins:List (J×Obj)}{σ:St}{H:Hp}{s:ρ}
def zE{ps:List Str}{its:List θ}(rv:aE (ps.map V.str) its)(i:Nat)(hi:i<ps.length):∃t,its.getD i .none=G0 (ps.getD i default) t:=by obtain⟨u,hu,ru⟩:=aE.get (i:=i) (x:=V.str ps[i]) rv (by rw[ϐ,Δ hi];rfl);obtain⟨t,rfl⟩:=(show ∃t,u=G0 ps[i] t from ru);show{t,by simp[G7,hu,hi]}
end
section
variable{X:Cx}
def sZ(P:Θ)(w:Χ)(a:J)(xs:List Str):HO:=.ext λh=>eY P w h a xs
def AQ(hc:X.calm=Y):cS X (.type "set") (λxs H Q=>∃(l:J) (ys:List Str),xs=[.ref l]/\aw X.K H l (ys.map V.str)/\ys.length<=1000 /\
  ∀(a:J)(zs:List Str),H a=χ->zs.Nodup->(∀x,x∈zs↔x∈ys)->zs.length<=ys.length->Q (.ref a) (upd H a (sZ X.prog X.w a zs))):=by
 intro pins s σ H xs us Q I r h;ext(⟨l,ys,rfl,hq,hy,q⟩:h);ext(⟨u,rfl,ru⟩:dg r);cases ru;ext(⟨its,rv,p,hz⟩:I.list hq);let li:its.length=ys.length:=by let:=rv.length;rw[ε]at this;show this.symm
 let hb:its.toArray.size+1<C7:=by rw[Κ,li];unfold C7;omega
 show oX (ys:=ys) (I.ok.hd hc) p.isList (λi v hv=>?_) hb λh' tk hS k=>?_
 .let hv':its[i]?=Z v:=↑hv
  let hi:i<ys.length:=by rw[<-li];show(Ζ.mp hv').1
  ext(⟨t,e⟩:zE rv i hi);show{t,2};rw[<-e];simp[G7,hv']
 .let sz:its.toArray.size=ys.length:=by rw[Κ,li]
  rw[sz]at hS;show{.ref s.heap.objs.size,0,I.laid (a:=s.heap.objs.size) (o:=sZ X.prog X.w s.heap.objs.size (uq (λi=>ys.getD i default) ys.length)) (t':=tk) (λb u e=>k b u (Η e) e) (Β _) ?_,1,q _ _ I.fresh (jr _ _) (λx=>?_) (rh _ _)}
  .show{hS,2,λh1 h2 x kk=>eY.at' x kk};ext(⟨o,_,_,_,ho,_⟩:hS);show{o,ho}
  .rw[wK];constructor
   .ext⟨j,hj,rfl⟩;let e:ys.getD j default=ys[j]:=by simp[G7,hj]
    rw[e];show k_ hj
   .intro hx;ext(⟨j,hj,rfl⟩:F9 hx);show{j,hj,by simp[G7,hj]}
def FK{j:Int}(b:0<j)(c:j<10^60):j.natAbs.log2<9000:=by let a:j.natAbs<2^200:=();let:=(Nat.log2_lt ()).mpr a;omega
def Kh(i j:Int):Prop:=0<j/\j<10^60
def uS:fQ X (K4 .FloorDiv) (rI Kh λi j=>.int (i/j)):=Mh λi j _ _ _ _ _ a q=>by let b:=a.1;show floordiv_int () (by rw[Int.fdiv_eq_ediv_of_nonneg i ()];show q) (.inl (PyProof.noPylong_of_log2 (FK a.1 a.2)))
end
def xO:∀{xs:List V}{us:List θ},xs.length=us.length->(∀(i:Nat)(x:V)(u:θ),xs[i]?=Z x->us[i]?=Z u->aI x u)->aE xs us
 |[],[],_,_=>.nil
 |[],_::_,h,_=>by cases h
 |_::_,[],h,_=>by cases h
 |x::xs,u::us,h,g=>.cons (g 0 x u U U) (xO (↑h) λi y v h1 h2=>g (i+1) y v h1 h2)
section
variable{X:Cx}
end
open PySem PySem.Spec PyProof.Rows
section
variable{prog:Θ}{w:Χ}{A:Ϛ}{E:θ->ρ->Prop}{s:ρ}
def dW(c:s.heap.IsTupleIter it t i)(j:s.heap.IsTuple t its)(g:its[i]?=Z x)
  (h:∀h',h'.IsTupleIter it t (i+1)->B_ it s.heap h'->Q x {s with heap:=h'}):Ο (ϊ prog w) A (r_ (.ref it)) Q E s:=by
 ext(⟨o,b,f,a⟩:id c);ext(⟨l,e,_,k,d⟩:j);show η (x_ c.typeIs D0 (y4 D0 c.typeIs Pf ?_ (O5 _)));change Ο _ _ (field (.ref it) 0>>=_) _ _ s;show η (b_ b a (x:=.ref t) U ?_);rw[Q6 (show ¬ ((Ψ t==w_)=Y)from ϋ)];show η (b_ b a U ?_);show η (B2 e d ?_);simp only[P4,g];show η (K8 b a () (ω {x,1,ω (h _ {0,ϸ _ b (J8 (A8 a _)),(Obj.cls_mapFields ..).trans f,by rw[A8 a];simp[M2]} (M3 ..))}))
def gM(d:A.handled=χ)(a:s.heap.IsTupleIter it t i)(k:s.heap.IsTuple t its)(j:its[i]?=χ)
  (h:∀h' e,QD it s.heap h'->(∃o,h'.get? e=Z o/\o.cls=.type "StopIteration")->E (.ref e) {s with heap:=h'}):Ο (ϊ prog w) A (r_ (.ref it)) Q E s:=by
 ext(⟨o,c,l,b⟩:id a);ext(⟨n,g,_,m,f⟩:k);show η (x_ a.typeIs D0 (y4 D0 a.typeIs Pf ?_ (O5 _)));change Ο _ _ (field (.ref it) 0>>=_) _ _ s;show η (b_ c b (x:=.ref t) U ?_);rw[Q6 (show ¬ ((Ψ t==w_)=Y)from ϋ)];show η (b_ c b U ?_);show η (B2 g f ?_);simp only[P4,j];show η (F4 (η (K8 c b () ?_)));change Ο _ _ (newExc (.type "StopIteration") []>>=_) _ _ _;show η ?_;simp only[newExc,newTuple];show η (i6 ?_ (by size_fits));show η (wpAny_of_eq (by first|rfl|(simp only[firstArgMember];rfl)) (i6 ?_ (by size_fits)));simp only[raiseNew];show η (wpAny_handled ?_);first|rw[show A.in1.handled=χ from d]|rw[d]
 show η (ω (wpAny_throw (h _ _ (((M3 ..).extBut.push _).push _) {0,Ξ _ U,1})))
end
section
variable{X:Cx}
end
open PySem PySem.Spec PyProof.Rows PySem.W
section
variable{X:Cx}
variable{tg:ϲ}
end
noncomputable def gB(p:Prop):Bool:=@decide p (Classical.propDecidable p)
def eL:gB p=Y↔p:=by unfold gB;show @decide_eq_true_iff p (Classical.propDecidable p)
def fj{p:Prop}{b:Bool}(h:b=Y↔p):b=gB p:=by rw[B5,eL];show h
def dS{p:Prop}(h:¬ p):Α=gB p:=fj {λz=>(nomatch z),λz=>absurd z h}
mutual
theorem ah.inj{H:Hp}:∀(d e:Dv)(v:V),ah H d v->ah H e v->d=e
 |.tup ds,e,v,h1,h2=>by
  simp only[ah]at h1;ext(⟨a,vs,rfl,ha,rs⟩:h1);cases e with
  |tup es=>simp only[ah]at h2;ext(⟨b,ws,eb,hb,rs2⟩:h2);cases eb;rw[ha]at hb;cases hb;rw[Reps.inj ds es vs rs rs2]
  |lst es=>simp only[ah]at h2;ext(⟨b,ws,eb,hb,rs2⟩:h2);cases eb;rw[ha]at hb;cases hb
  |dct=>simp only[ah]at h2;ext(⟨b,eb,hb⟩:h2);cases eb;rw[ha]at hb;cases hb
  |_=>simp only[ah]at h2;cases h2
 |.lst ds,e,v,h1,h2=>by
  simp only[ah]at h1;ext(⟨a,vs,rfl,ha,rs⟩:h1);cases e with
  |lst es=>simp only[ah]at h2;ext(⟨b,ws,eb,hb,rs2⟩:h2);cases eb;rw[ha]at hb;cases hb;rw[Reps.inj ds es vs rs rs2]
  |tup es=>simp only[ah]at h2;ext(⟨b,ws,eb,hb,rs2⟩:h2);cases eb;rw[ha]at hb;cases hb
  |dct=>simp only[ah]at h2;ext(⟨b,eb,hb⟩:h2);cases eb;rw[ha]at hb;cases hb
  |_=>simp only[ah]at h2;cases h2
 |.dct,e,v,h1,h2=>by
  simp only[ah]at h1;ext(⟨a,rfl,ha⟩:h1);cases e with
  |dct=>rfl
  |tup es=>simp only[ah]at h2;ext(⟨b,ws,eb,hb,rs2⟩:h2);cases eb;rw[ha]at hb;cases hb
  |lst es=>simp only[ah]at h2;ext(⟨b,ws,eb,hb,rs2⟩:h2);cases eb;rw[ha]at hb;cases hb
  |_=>simp only[ah]at h2;cases h2
 |.non,e,v,h1,h2=>by
  simp only[ah]at h1;subst h1;cases e with
  |non=>rfl
  |tup es=>simp only[ah]at h2;ext(⟨b,ws,eb,_⟩:h2);cases eb
  |lst es=>simp only[ah]at h2;ext(⟨b,ws,eb,_⟩:h2);cases eb
  |dct=>simp only[ah]at h2;ext(⟨b,eb,_⟩:h2);cases eb
  |_=>simp only[ah]at h2;cases h2
 |.bl _,e,v,h1,h2=>by
  simp only[ah]at h1;subst h1;cases e with
  |bl b=>simp only[ah]at h2;cases h2;rfl
  |tup es=>simp only[ah]at h2;ext(⟨b,ws,eb,_⟩:h2);cases eb
  |lst es=>simp only[ah]at h2;ext(⟨b,ws,eb,_⟩:h2);cases eb
  |dct=>simp only[ah]at h2;ext(⟨b,eb,_⟩:h2);cases eb
  |_=>simp only[ah]at h2;cases h2
 |.int _,e,v,h1,h2=>by
  simp only[ah]at h1;subst h1;cases e with
  |int b=>simp only[ah]at h2;cases h2;rfl
  |tup es=>simp only[ah]at h2;ext(⟨b,ws,eb,_⟩:h2);cases eb
  |lst es=>simp only[ah]at h2;ext(⟨b,ws,eb,_⟩:h2);cases eb
  |dct=>simp only[ah]at h2;ext(⟨b,eb,_⟩:h2);cases eb
  |_=>simp only[ah]at h2;cases h2
 |.str _,e,v,h1,h2=>by
  simp only[ah]at h1;subst h1;cases e with
  |str b=>simp only[ah]at h2;cases h2;rfl
  |tup es=>simp only[ah]at h2;ext(⟨b,ws,eb,_⟩:h2);cases eb
  |lst es=>simp only[ah]at h2;ext(⟨b,ws,eb,_⟩:h2);cases eb
  |dct=>simp only[ah]at h2;ext(⟨b,eb,_⟩:h2);cases eb
  |_=>simp only[ah]at h2;cases h2
theorem Reps.inj{H:Hp}:∀(ds a:List Dv)(vs:List V),Reps H ds vs->Reps H a vs->ds=a
 |[],a,vs,c,b=>by
  simp only[Reps]at c;subst c;cases a with
  |nil=>rfl
  |cons e a=>simp only[Reps]at b;ext(⟨v,r,f,_⟩:b);cases f
 |d::ds,a,vs,c,b=>by
  ext(⟨v,r,rfl,i,g⟩:c);cases a with
  |nil=>simp only[Reps]at b;cases b
  |cons e a=>ext(⟨k,l,f,j,h⟩:b);cases f;rw[ah.inj d e v i j,Reps.inj ds a r g h]
end
inductive Pl:Nat->Dv->Prop
 |int {n:Nat} {i:Int}:Pl n (.int i)
 |str {n:Nat} {x:Str}:Pl n (.str x)
 |non {n:Nat}:Pl n .non
 |tup {n:Nat} {ds:List Dv}:(∀d∈ds,Pl n d)->Pl (n+1) (.tup ds)
def Pl.up(h:Pl m d):m<=n->Pl n d:=by
 induction h generalizing n with
 |int=>intro _;show .int
 |str=>intro _;show .str
 |non=>intro _;show .non
 |tup _ ih=>intro l;obtain⟨k,rfl⟩:∃k,n=k+1:={n-1,3};show .tup λd hd=>ih d hd ()
def wn{ds a:List Dv}:((ϳ (min ds.length a.length)).all (λj=>gB (ds[j]?=a[j]?))&&ds.length==a.length)=gB (Dv.tup ds=.tup a):=by
 show fj ?_;rw[ψ,A7,beq_iff_eq];constructor
 .ext⟨h,c⟩;congr 1;show P5 λj=>?_;by_cases b:j<ds.length
  .show eL.mp (h j (G2.mpr ()))
  .rw[A6 (),A6 ()]
 .intro h;cases h;show{λj _=>eL.mpr U,1}
section
variable{X:Cx}{pins:List (J×Obj)}{σ:St}{H:Hp}{s:ρ}
def wR(I:au X pins σ H s){A:Ϛ}{n:Nat}{ds f:List Dv}{vs g:List V}{its c:List θ}
  (h:∀d∈ds,∀e∈f,∀(v w:V)(a b:θ),ah H d v->ah H e w->aI v a->aI w b->Ϯ A s a b (gB (d=e))) (l:Reps H ds vs) (o:Reps H f g) (p:aE vs its) (m:aE g c):
  its.toArray.size=ds.length/\c.toArray.size=f.length/\∀j (y:j<its.toArray.size) (t:j<c.toArray.size),Ϯ A s its.toArray[j] c.toArray[j] (gB (ds[j]?=f[j]?)):=by
 let R:=l.length;let Q:=o.length;let P:=p.length;let N:=m.length;show{by simp;omega,by simp;omega,λj y t=>?_};let M:j<its.length:=↑y
 let B:j<c.length:=↑t
 ext(⟨u,i,L⟩:aE.get (x:=vs[j]'()) p (Δ _));ext(⟨E,q,D⟩:aE.get (x:=g[j]'()) m (Δ _));ext(⟨d,r,G⟩:l.get (Δ _));ext(⟨d2,k,C⟩:o.get (Δ _));let K:its.toArray[j]=u:=by rw[Δ M]at i;simpa using Ϟ i
 let F:c.toArray[j]=E:=by rw[Δ B]at q;simpa using Ϟ q
 rw[K,F,r,k];let T:gB (Z d=Z d2)=gB (d=d2):=fj (by rw[eL];show{Ϟ,λz=>by rw[z]});rw[T];show h d (Ν r) d2 (Ν k) _ _ _ _ G C L D
def Fl(I:au X pins σ H s){n:Nat}{d:Dv}(h:Pl n d):∀{e:Dv},Pl n e->∀{A:Ϛ}{v w:V}{a b:θ},A.units+n<B8->ah H d v->ah H e w->aI v a->aI w b->Ϯ A s a b (gB (d=e)):=by
 induction h with
 | @int n i=>
  intro e he A v w a b hu r1 r2 q1 q2;simp only[ah]at r1;subst r1;ext(⟨t,rfl⟩:(q1));cases he with
  | @int _ j=>simp only[ah]at r2;subst r2;ext(⟨u,rfl⟩:(q2));rw[<-fj (b:=(i==j)) (by rw[beq_iff_eq];show{λz=>by rw[z],λz=>Dv.int.inj z})];show Pw i t j u
  | @str _ x=>simp only[ah]at r2;subst r2;ext(⟨u,rfl⟩:(q2));rw[<-dS nofun];show Pj i t x u
  |non=>simp only[ah]at r2;subst r2;cases q2;rw[<-dS nofun];show Ϯ.int_none i t
  | @tup n es _=>simp only[ah]at r2;ext(⟨l,ws,rfl,hl,_⟩:r2);cases q2;ext(⟨its,_,p,_⟩:I.tuple (aq.of hl));rw[<-dS nofun];show Ϯ.int_tuple i t p ()
 | @str n x=>
  intro e he A v w a b hu r1 r2 q1 q2;simp only[ah]at r1;subst r1;ext(⟨t,rfl⟩:(q1));cases he with
  | @int _ j=>simp only[ah]at r2;subst r2;ext(⟨u,rfl⟩:(q2));rw[<-dS nofun];show Pk x t j u
  | @str _ y=>simp only[ah]at r2;subst r2;ext(⟨u,rfl⟩:(q2));rw[<-fj (b:=(x==y)) (by rw[beq_iff_eq];show{λz=>by rw[z],λz=>Dv.str.inj z})];show Px x t y u
  |non=>simp only[ah]at r2;subst r2;cases q2;rw[<-dS nofun];show Ϯ.str_none x t
  | @tup n es _=>simp only[ah]at r2;ext(⟨l,ws,rfl,hl,_⟩:r2);cases q2;ext(⟨its,_,p,_⟩:I.tuple (aq.of hl));rw[<-dS nofun];show Ϯ.str_tuple x t p ()
 | @non n=>
  intro e he A v w a b hu r1 r2 q1 q2;simp only[ah]at r1;subst r1;cases q1;cases he with
  | @int _ j=>simp only[ah]at r2;subst r2;ext(⟨u,rfl⟩:(q2));rw[<-dS nofun];show Ϯ.none_int j u
  | @str _ y=>simp only[ah]at r2;subst r2;ext(⟨u,rfl⟩:(q2));rw[<-dS nofun];show Ϯ.none_str y u
  |non=>simp only[ah]at r2;subst r2;cases q2;rw[<-fj {λ_=>U,λ_=>U}];show E6 _
  | @tup n es _=>simp only[ah]at r2;ext(⟨l,ws,rfl,hl,_⟩:r2);cases q2;ext(⟨its,_,p,_⟩:I.tuple (aq.of hl));rw[<-dS nofun];show Ϯ.none_tuple p ()
 | @tup n ds hds ih=>
  intro e he A v w a b hu r1 r2 q1 q2;let r1':=r1;simp only[ah]at r1;ext(⟨l,vs,rfl,h1,rs1⟩:r1);cases q1;ext(⟨its,rv1,p1,_⟩:I.tuple (aq.of h1));cases he with
  | @int _ j=>simp only[ah]at r2;subst r2;ext(⟨u,rfl⟩:(q2));rw[<-dS nofun];show Ϯ.tuple_int j u p1 ()
  | @str _ y=>simp only[ah]at r2;subst r2;ext(⟨u,rfl⟩:(q2));rw[<-dS nofun];show Ϯ.tuple_str y u p1 ()
  |non=>simp only[ah]at r2;subst r2;cases q2;rw[<-dS nofun];show Ϯ.tuple_none p1 ()
  | @tup _ es hes=>
   let r2':=r2;ext(⟨b',ws,rfl,h2,rs2⟩:r2);cases q2;ext(⟨its2,rv2,p2,_⟩:I.tuple (aq.of h2));let hu':A.in1.units+n<B8:=by change A.units+1+n<B8;omega
   obtain⟨z1,z2,q⟩:=wR I (n:=n) (λd hd e he v w a b r1 r2 q1 q2=>ih d hd (hes e he) hu' r1 r2 q1 q2) rs1 rs2 rv1 rv2;by_cases hlb:l=b'
   .subst hlb;rw[<-fj {λ_=>ah.inj _ _ _ r1' r2',λ_=>U}];show E6 _
   .let r:=P6 p1 p2 () q;rw[z1,z2,wn]at r;show PC hlb r
end
section
variable{X:Cx}
end
def gX(a:bU k A):A.units+150<B8:=by let:=a.un;omega
section
variable{X:Cx}{k:Nat}{f:J}{fd:ό}{ps:List Str}{sp:Sp}{x:Str}{p pos:Pos}{e:ϲ}{es:List ϲ}{t:TA}
def Ib(f:J)(i:Nat)(sp:Sp)(t:TA):TE:=λσ H Q=>σ[i]?=Z (Z (.ref f))/\t σ H λvs a=>sp (vs++[]) a Q E0
def pe_callV(i:Nat)(F:ap X.prog X.w X.K X.mg X.base aY k f fd ps sp)(D:bU k X.A)(L:ϥ X.K (.ref f)=Y)(h:bo X.K fd ps [])(m:PA X (e::es) t)(z:autoParam (X.N[i]?=Z x) yR._auto_1)
  (G:autoParam (JT X.env.scope x) yF._auto_1) (j:autoParam ((x==("__debug__" : Str))=Α) yD._auto_1) (d:autoParam ((x==("__classdict__" : Str))=Α) yD._auto_1)
  (E:autoParam (Ϗ (e::es) X.env=(Α,eval e X.env)::Ϗ es X.env) yR._auto_1) (g:autoParam ((A5 pos (Ϗ es X.env)).any (·.1)=Α) yR._auto_1):PE X (.Call (.Name x p) (e::es) [] pos) (Ib f i sp t):=by
 ext a s σ H Q I ⟨y,o⟩;show m8 (bn (CG z G j d a s σ H (λv H'=>v=.ref f/\H'=H) I {0,y,11}) λu K ⟨v,l,c,B,C,n⟩=>?_);subst C n;cases B;show C_ c.ok.mod.kin L (bn (m pos a K σ _ _ c o) λus N ⟨vs,M,b,r,q⟩=>{b.kIn,oP F D h .nil gq b r q}) E g
end
section
variable{prog:Θ}{w:Χ}{A:Ϛ}{E:θ->ρ->Prop}{s:ρ}{r l S:J}{items:Array θ}
def Ak:Ps (.type "list_reverseiterator") "__len__"=pure χ:=by rw[typeLookup_type,builtinLookup_eq_fast];kernel_rfl
def DL:Ps (.type "list_reverseiterator") "__length_hint__"=pure (Z (.builtin "list_reverseiterator.__length_hint__")):=by rw[typeLookup_type,builtinLookup_eq_fast];kernel_rfl
def Ct{Q:Bool->ρ->Prop}(hT:s.TypeIs (.ref r) "list_reverseiterator")(h:∀b,Q b s):Ο (ϊ prog w) A (Ph (.ref r)) Q E s:=by unfold Ph;show η (Qu hT Ak ?_);change Ο _ A (specialOf (Ψ r) (O "__length_hint__")>>=_) _ _ _;show η (Qu hT DL ?_);generalize hid:("list_reverseiterator.__length_hint__" : String)=id0;wp_delta;rw[show splitId id0=Z ("list_reverseiterator","__length_hint__")from by subst hid;decide +kernel];subst hid;show η (wpAny_isInstance (b:=Y) hT (by rw[isSubtype_type];kernel_rfl) ?_);show ω (h _)
def wz{R:QJ->ρ->Prop}(hh:A.handled=χ)(hr:s.heap.IsRevIter r l ((items.size:Int)-1))(hl:s.heap.IsList l items)(hlr:l≠r)(hSr:S≠r)(hSl:S≠l)(res:θ)(c₀:Nat)(hS:s.heap.get? S=Z {cls:=.type "list",data:=.seq #[] c₀})
  (hR:∀h' tk acc' c',(∀b o,b≠S->b≠r->s.heap.get? b=Z o->h'.get? b=Z o)->h'.get? S=Z {cls:=.type "list",dict:=χ,data:=.seq acc' c',slots:=#[]}->ItemsOf (λi v=>items[items.size-1-i]?=Z v) acc' items.size->R (.ok (.ret res)) {s with heap:=h',toks:=tk}) (hn:items.size<=Μ):
  Ο (ϊ prog w) A.in1 (C3 (.ref S) (.ref r) res) (λfin s'=>match fin with|.done f=>R (.ok f) s'|.again c'=>c'.quiet=Y/\F7 (ϊ prog w) A c' R s') (λe s'=>R (.error e) s') s:=by
 let W:=Walks.listRev (prog:=prog) (w:=w) (A:=A.in1) hh r l hlr items;let hSf:S∉[r,l]:=by simp only[ν,ϵ,or_false,not_or];show{hSr,hSl}
 let e0:(items.size:Int)-1-((0:Nat):Int)=(items.size:Int)-1:=();let key:∀(h:ϖ)(c₁ tk:Nat),(∀b o,b≠S->s.heap.get? b=Z o->h.get? b=Z o)->h.get? S=Z {cls:=.type "list",data:=.seq #[] c₁}->F7 (ϊ prog w) A (.builtin "list.extend.loop" {[.ref S,.ref r,res],[]}) R {s with heap:=h,toks:=tk}:=by
  intro h c₁ tk hk hS₁;show codeAny_extend_loopS W.toS hn S hSf res items.size 0 _ #[] c₁ U (Τ _) {Τ _,by rw[e0];show hr.at λo e=>hk r o (ϔ hSr) e,hl.at λo e=>hk l o (ϔ hSl) e} hS₁ (ItemsOf.nil _) λs' acc' c' hm hS' hacc=>?_;rw[Moved.eq_with hm];show hR s'.heap s'.toks acc' c' (λb o hb hbr e=>hm.heap b o (λz=>?_) (hk b o hb e)) hS' hacc;rcases ν.mp z with z|z
  .show hb z
  .show hbr (ξ.mp z)
 unfold C3;show η (Pd (T:="list_reverseiterator") hr.typeIs ?_);let h1:s_.List.listSameRef (.ref S) (.ref r)=Α:=by simp[s_.List.listSameRef,hSr]
 rw[Q6 (by rw[h1];decide)];show η (wpAny_pyIter_revIter hr ?_);show η (u6 (Ct hr.typeIs λb=>?_));show wpAny_ite_split (λ_=>?_) (λ_=>ω {Qg PR _,key _ c₀ _ (λb o _ e=>e) hS});show η (F4 (η ?_));change Ο _ _ (updateSeq S (·.push .none)>>=λ_=>updateSeq S (·.pop)) _ _ _;show η (O6 hS U ?_);let hS₂:=ϸ (F3 (·.push w_)) hS U;show O6 (hz:=by seq_fits) hS₂ U ?_;let hS₃:=ϸ (F3 (·.pop)) hS₂ U;show ω {Qg PR _,key _ _ _ (λb o hb e=>(ϝ _ _ (ϔ hb)).trans ((ϝ _ _ (ϔ hb)).trans e)) hS₃}
def Dd{R:QJ->ρ->Prop}(hh:A.handled=χ)(hr:s.heap.IsRevIter r l ((items.size:Int)-1))(hl:s.heap.IsList l items)(hlr:l≠r)(hSr:S≠r)(hSl:S≠l)(hS:s.heap.get? S=Z {cls:=.type "list",data:=.seq #[]})
  (hR:∀h' tk acc' c',(∀b o,b≠S->b≠r->s.heap.get? b=Z o->h'.get? b=Z o)->h'.get? S=Z {cls:=.type "list",dict:=χ,data:=.seq acc' c',slots:=#[]}->ItemsOf (λi v=>items[items.size-1-i]?=Z v) acc' items.size->R (.ok (.ret .none)) {s with heap:=h',toks:=tk}) (hn:items.size<=Μ):
  Ο (ϊ prog w) A.in1 (s_.«list.__init__» {[.ref S,.ref r],[]}) (λfin s'=>match fin with|.done f=>R (.ok f) s'|.again c'=>c'.quiet=Y/\F7 (ϊ prog w) A c' R s') (λe s'=>R (.error e) s') s:=by
 change Ο _ _ (do let old <-s_.List.listItems (.ref S);s_.List.listUpdate (.ref S) (λ_=>#[]);letGo old.toList.reverse;C3 (.ref S) (.ref r) .none) _ _ s;show η ?_;unfold s_.List.listItems;show η (B2 hS U (ω ?_));change Ο _ _ (updateSeq S (λ_=>#[])>>=λ_=>letGo (#[]:Array θ).toList.reverse>>=λ_=>C3 (.ref S) (.ref r) .none) _ _ s;show η (O6 hS U ?_);let hS₂:=ϸ (F3 (λ_=>(#[]:Array θ))) hS U;let oth:∀b o,b≠S->s.heap.get? b=Z o->(s.heap.update S (F3 (λ_=>(#[]:Array θ)))).get? b=Z o:=λb o hb e=>(ϝ _ _ (ϔ hb)).trans e;show η (QE (wz hh (hr.at λo e=>oth r o (ϔ hSr) e) (hl.at λo e=>oth l o (ϔ hSl) e) hlr hSr hSl .none _ hS₂ (λh' tk acc' c' hk hS' hacc=>?_) hn));show hR h' tk acc' c' (λb o hb hbr e=>hk b o hb hbr (oth b o hb e)) hS' hacc
def Cg{Q:θ->ρ->Prop}(hh:A.handled=χ)(hr:s.heap.IsRevIter r l ((items.size:Int)-1))(hl:s.heap.IsList l items)(hlr:l≠r)(hn:items.size<=Μ)
  (hQ:∀h' tk acc' c',(∀b o,b≠r->s.heap.get? b=Z o->h'.get? b=Z o)->h'.get? s.heap.objs.size=Z {cls:=.type "list",dict:=χ,data:=.seq acc' c',slots:=#[]}->ItemsOf (λi v=>items[items.size-1-i]?=Z v) acc' items.size->Q (.ref s.heap.objs.size) {s with heap:=h',toks:=tk}):
  Ο (ϊ prog w) A (call (.type "list") [.ref r]) Q E s:=by
 show callType_codes (Q₁:=λobj s₁=>obj=.ref s.heap.objs.size/\s₁={s with heap:=s.heap.push {cls:=.type "list",data:=.seq #[]} }) PySem.F.called_list (PySem.F.typeCall_list_1 _) PySem.F.entry_list_init (code_list_new _ {11}) λobj s₁ h₁=>?_;ext(⟨rfl,rfl⟩:h₁);let hS:(s.heap.push {cls:=.type "list",data:=.seq #[]}).get? s.heap.objs.size=Z {cls:=.type "list",data:=.seq #[]}:=Ξ _ U;let hr':r<s.heap.objs.size:=let ⟨o,ho,_⟩:=hr;Η ho
 let hl':l<s.heap.objs.size:=let ⟨o,ho,_⟩:=hl;Η ho
 show{{0,hS,1},PySem.F.args_list_init_2 _ _,Dd (A:=A.in1) hh (hr.at λo e=>π _ e) (hl.at λo e=>π _ e) hlr (u9 hr') (u9 hl') hS (λh' tk acc' c' hk hS' hacc=>?_) hn};show{1,hQ h' tk acc' c' (λb o hb e=>hk b o (Ϙ (Η e)) hb (π _ e)) hS' hacc}
end
section
variable{X:Cx}{e:ϲ}{te:TE}{p p1 pos pos1:Pos}
inductive wJ (K:ζ) (Q:VK) (x:V) (H1:Hp):Prop|mk l ys (_:x=.ref l) (_:aw K H1 l ys) (_:∀a,H1 a=χ->Q (.ref a) (upd H1 a (.lst ys.reverse)))
def Dk(K:ζ)(te:TE):TE:=λσ H Q=>te σ H (wJ K Q)
def pe_listrev(hg:Gl X "list")(hm:X.mg "list"=χ)(hg':Gl X "reversed")(hm':X.mg "reversed"=χ)(hc:X.calm=Y)(he:PE X e te)
  (hs:Ϗ [e] X.env=[(Α,eval e X.env)]:=by rfl) (hs2:Ϗ [.Call (.Name "reversed" p1) [e] [] pos1] X.env=[(Α,eval (.Call (.Name "reversed" p1) [e] [] pos1) X.env)]:=by rfl):
  PE X (.Call (.Name "list" p) [.Call (.Name "reversed" p1) [e] [] pos1] [] pos) (Dk X.K te):=by
 intro pins s σ H Q I h;show m8 (fE I hg hm (u:=.type "list") () ?_);show i9 ?_ hs2 U;rw[hs2];change Ο _ _ (spliced ((Α,eval (.Call (.Name "reversed" p1) [e] [] pos1) X.env)::A5 pos [])) _ _ s;show Pp (m8 (fE I hg' hm' (u:=.type "reversed") () (i9 ?_ hs U)));rw[hs];change Ο _ _ (spliced ((Α,eval e X.env)::A5 pos1 [])) _ _ s;show Pp (bn (he pins s σ H _ I h) λu s1 ⟨x,H1,I1,r1,l,ys,ex,hq,q⟩=>P2 ?_);subst ex;cases r1;ext(⟨its,rv,pl,hz⟩:I1.list hq);let li:its.length=ys.length:=rv.length.symm;let hl':l<s1.heap.objs.size:=let ⟨o,ho,_⟩:=pl.isList;Η ho
 show call_reversed_list pl.isList (P2 ?_);show Cg (A:=X.A) (s:={s1 with heap:=s1.heap.push (revObj l ((its.toArray.size:Int)-1))}) (I1.ok.hd hc) {0,Ξ _ U,11} (pl.isList.at λo e=>π _ e) (Ϙ hl') (by simp;omega) λh' tk acc c k hS it=>?_;let k1:∀b o,s1.heap.get? b=Z o->h'.get? b=Z o:=λb o e=>k b o (Ϙ (Η e)) (π _ e);let rv':aE ys.reverse acc.toList:=by
  show xO (by let h1:=it.1;let h2:acc.toList.length=acc.size:=ύ;rw[M4,h2,h1];simpa using li.symm) λi x u h1 h2=>?_;let hi:i<ys.length:=by let:=(Ζ.mp h1).1;rwa[M4]at this
  rw[List.getElem?_reverse hi]at h1;let h3:=it.2 i u (by rw[<-OS];show h2);let h4:its[ys.length-1-i]?=Z u:=by simpa[li]using h3
  ext(⟨u',hu',ru⟩:rv.get h1);rw[h4]at hu';cases hu';show ru
 let hz2:(s1.heap.push (revObj l ((its.toArray.size:Int)-1))).objs.size=s1.heap.objs.size+1:=Ϲ ..;show{.ref (s1.heap.push (revObj l ((its.toArray.size:Int)-1))).objs.size,0,I1.laid (t':=tk) (a:=(s1.heap.push (revObj l ((its.toArray.size:Int)-1))).objs.size) k1 (by rw[hz2];show x9 _) (show bK X.prog X.w _ h' _ (.lst ys.reverse)from{by rw[M4];show hz,acc.toList,c,rv',↑hS}),1,q _ (I1.hok.fresh (by rw[hz2];show x9 _))}
end
def JV(K:ζ)(a b:J):It:=
 {λi H=>∃xs ys x y,aw K H a xs/\aw K H b ys/\xs[i]?=Z x/\ys[i]?=Z y,λi H z H'=>∃p x y,H p=χ/\H'=upd H p (.tup [x,y])/\z=.ref p/\(∀xs,aw K H a xs->xs[i]?=Z x)/\∀ys,aw K H b ys->ys[i]?=Z y,λi H=>∃xs ys,aw K H a xs/\aw K H b ys/\(xs.length<=i\/ys.length<=i)}
def bf{h:ϖ}{a b:J}{o u:Obj}(h1:h.get? a=Z o)(h2:h.get? b=Z u)(n:o.cls≠u.cls):a≠b:=λz=>by subst z;rw[h1]at h2;cases h2;show n U
def Dz{P:Θ}{w:Χ}{K:ζ}{elts:List ϲ}{x1}{tp:Pos}(a b z TI TO i1 i2:J)(D1:TI≠z/\TO≠z/\i1≠z/\i2≠z/\TI≠TO/\TI≠i1/\TI≠i2/\TO≠i1/\TO≠i2/\i1≠i2):
  mY P w K (.Tuple elts x1 tp) (JV K a b) [z,TI,TO,i1,i2] z (λi h=>QI h z TI TO .none/\G9 h TI (.ref i1) (.ref i2)/\(∃u v,G9 h TO u v)/\h.IsListIter i1 a i/\h.IsListIter i2 b i) where
 mem:=()
 obj:=λi h st c hc=>by
  ext(⟨hz,hTI,⟨u,v,hTO⟩,⟨o1,e1,c1,d1⟩,⟨o2,e2,c2,d2⟩⟩:st);simp only[ν,ϵ,or_false]at hc;rcases hc with rfl|rfl|rfl|rfl|rfl
  .show{0,hz,λv z=>by let z':QB _=OW v:=z;cases z'}
  .show{0,hTI,λv z=>by let z':QN _ _=OW v:=z;cases z'}
  .show{0,hTO,λv z=>by let z':QN _ _=OW v:=z;cases z'}
  .show{o1,e1,λv z=>by rw[d1]at z;cases z}
  .show{o2,e2,λv z=>by rw[d2]at z;cases z}
 keep:=λi h h' st k=>by ext(⟨hz,hTI,⟨u,v,hTO⟩,h1,h2⟩:st);show{k z () _ hz,k TI () _ hTI,{u,v,k TO () _ hTO},h1.at λo e=>k i1 () o e,h2.at λo e=>k i2 () o e}
 item:=by
  intro X hP hw hK hc i pins s σ H E I hf st hg;subst hP hw hK;ext(⟨xs,ys,x,y,hq1,hq2,hx,hy⟩:hg);ext(⟨its1,rv1,p1,_⟩:I.list hq1);ext(⟨its2,rv2,p2,_⟩:I.list hq2);ext(⟨u1,hu1,ru1⟩:rv1.get hx);ext(⟨u2,hu2,ru2⟩:rv2.get hy);ext(⟨hz,hTI,⟨u,v,hTO⟩,h1,h2⟩:st);ext(⟨d1,d2,d3,d4,d5,d6,d7,d8,d9,d10⟩:D1);let L1:=p1.isList;let L2:=p2.isList;let D:PD z TI TO i1 i2 a b:=by
   ext(⟨o1,e1,c1,_⟩:id L1);ext(⟨o2,e2,c2,_⟩:id L2);ext(⟨o3,e3,c3,_⟩:id h1);ext(⟨o4,e4,c4,_⟩:id h2);show{d1,d2,d3,d4,d5,d6,d7,d8,d9,d10,bf e1 hz (by rw[c1];exactλz=>absurd (Ϭ z) ()),bf e1 hTO (by rw[c1];exactλz=>absurd (Ϭ z) ()),bf e1 e3 (by rw[c1,c3];exactλz=>absurd (Ϭ z) ()),bf e1 e4 (by rw[c1,c4];exactλz=>absurd (Ϭ z) ()),bf e2 hz (by rw[c2];exactλz=>absurd (Ϭ z) ()),bf e2 hTO (by rw[c2];exactλz=>absurd (Ϭ z) ()),bf e2 e3 (by rw[c2,c3];exactλz=>absurd (Ϭ z) ()),bf e2 e4 (by rw[c2,c4];exactλz=>absurd (Ϭ z) ())}
  show wpAny_pyNext_zip_item D hz hTI hTO h1 h2 L1 L2 (x:=u1) (y:=u2) (↑hu1) (↑hu2) λh3 a1 a2 a3 a4 a5 a6 hk=>?_;show{01,PU a1 λh4 hz4 hs4=>?_};let hzl:z<s.heap.objs.size:=Η hz;let hn:H s.heap.objs.size=χ:=I.hok.fresh (Β _);let keep:∀c o,c≠z->c≠TO->c≠i1->c≠i2->s.heap.get? c=Z o->h4.get? c=Z o:=λc o c1 c2 c3 c4 q=>(hs4.2 c c1).trans (hk c o c1 c2 c3 c4 q);let tup:h4.get? s.heap.objs.size=Z {cls:=.type "tuple",data:=.seq #[u1,u2]}:=(hs4.2 _ (Ml hzl)).trans a5;let fpn:∀c∈[z,TI,TO,i1,i2],H c=χ:=λc hc=>(hf c hc).1;let nit:∀c v,H c=Z v->c≠z/\c≠TO/\c≠i1/\c≠i2:=λc v q=>{(λe=>by rw[e,fpn z ()]at q;cases q),(λe=>by rw[e,fpn TO ()]at q;cases q),(λe=>by rw[e,fpn i1 ()]at q;cases q),(λe=>by rw[e,fpn i2 ()]at q;cases q)};let kch:∀c o,c∉[z,TO,i1,i2]->s.heap.get? c=Z o->h4.get? c=Z o:=λc o hc q=>keep c o (λe=>hc (by simp[e])) (λe=>hc (by simp[e])) (λe=>hc (by simp[e])) (λe=>hc (by simp[e])) q;let I2:au X pins σ (upd H s.heap.objs.size (.tup [x,y])) {s with heap:=h4,toks:=s.toks}:=by
   show I.step (g':=s.gens) (d':=s.drawn) (ch:=[z,TO,i1,i2]) (λc hc=>?_) (λc o _ _ hc' q _=>kch c o hc' q) (λc o _ _ hc' q _=>{o.slots,kch c o hc' q}) (λc o _ q n=>by rw[ai (zp (Η q))];show n) (λc o hc' q=>{o,kch c o hc' q})
    (λc xs q=>by rw[ai (af q hn)];show q) (λc o v q=>by rw[ai (af q hn)];show q) (λc ps q=>{#[],by rw[ai (af q hn),q];simp}) (λm hm=>?_) (λc v q=>?_) I.bare
   .let hc':c∈[z,TI,TO,i1,i2]:=by
     simp only[ν,ϵ,or_false]at hc⊢;rcases hc with e|e|e|e<;>simp[e]
    ext(⟨f0,f1,f2,f3,f4,f5⟩:hf c hc');show{f3,f1,f4,f5}
   .ext(⟨o,es,ep,ho,r⟩:hm);show{o,es,ep,keep _ o (ϔ (hf z ()).2.1) (ϔ (hf TO ()).2.1) (ϔ (hf i1 ()).2.1) (ϔ (hf i2 ()).2.1) ho,r}
   .by_cases hb:c=s.heap.objs.size
    .subst hb;rw[aa]at q;cases q;show{(show 2<=Μ by rw[ι];decide),[u1,u2],.cons ru1 (.cons ru2 .nil),{0,tup,1,(0),1},0,tup,1}
    .rw[ai hb]at q;show(I.hok c v q).stay (λc' w' hc' q'=>?_) (λc' q'=>by rw[ai (af q' hn)];show q') λc' xs q'=>by rw[ai (af q' hn)];show q'
     rcases hc' with e|e
     .subst e;ext(⟨n1,n2,n3,n4⟩:nit c' v q);show keep c' w' n1 n2 n3 n4 q'
     .ext(⟨n1,n2,n3,n4⟩:nit c' _ e);show keep c' w' n1 n2 n3 n4 q'
  show{.ref s.heap.objs.size,0,I2,1,{0,x,y,hn,11,λxs' h'=>by rw[I.list_inj h' hq1];show hx,λys' h'=>by rw[I.list_inj h' hq2];show hy},2,λc hc=>?_}
  .show{hz4,hs4.extBut _ _ d1 (hk TI _ d1 d5 d6 d7 hTI),{00,hs4.extBut _ _ d2 a2},a3.at λo e=>hs4.extBut _ _ d3 e,a4.at λo e=>hs4.extBut _ _ d4 e}
  .let hb':c<s.heap.objs.size:=by
    simp only[ν,ϵ,or_false]at hc;ext(⟨o3,e3,_⟩:h1);ext(⟨o4,e4,_⟩:h2);rcases hc with e|e|e|e|e
    .rw[e];show hzl
    .rw[e];show Η hTI
    .rw[e];show Η hTO
    .rw[e];show Η e3
    .rw[e];show Η e4
   rw[ai (zp hb')];show fpn c hc
 done:=by
  intro X hP hw hK hc i pins s σ H E I hf st hg;subst hP hw hK;ext(⟨xs,ys,hq1,hq2,hend⟩:hg);ext(⟨its1,rv1,p1,_⟩:I.list hq1);ext(⟨its2,rv2,p2,_⟩:I.list hq2);ext(⟨hz,hTI,⟨u,v,hTO⟩,h1,h2⟩:st);ext(⟨d1,d2,d3,d4,d5,d6,d7,d8,d9,d10⟩:D1);let L1:=p1.isList;let L2:=p2.isList;let D:PD z TI TO i1 i2 a b:=by
   ext(⟨o1,e1,c1,_⟩:id L1);ext(⟨o2,e2,c2,_⟩:id L2);ext(⟨o3,e3,c3,_⟩:id h1);ext(⟨o4,e4,c4,_⟩:id h2);show{d1,d2,d3,d4,d5,d6,d7,d8,d9,d10,bf e1 hz (by rw[c1];exactλz=>absurd (Ϭ z) ()),bf e1 hTO (by rw[c1];exactλz=>absurd (Ϭ z) ()),bf e1 e3 (by rw[c1,c3];exactλz=>absurd (Ϭ z) ()),bf e1 e4 (by rw[c1,c4];exactλz=>absurd (Ϭ z) ()),bf e2 hz (by rw[c2];exactλz=>absurd (Ϭ z) ()),bf e2 hTO (by rw[c2];exactλz=>absurd (Ϭ z) ()),bf e2 e3 (by rw[c2,c3];exactλz=>absurd (Ϭ z) ()),bf e2 e4 (by rw[c2,c4];exactλz=>absurd (Ϭ z) ())}
  let l1:=rv1.length;let l2:=rv2.length;let fpn:∀c∈[z,TI,TO,i1,i2],H c=χ:=λc hc=>(hf c hc).1;show wpAny_pyNext_zip_end (I.ok.hd hc) D hz hTI hTO h1 h2 L1 L2 (hend.imp (λh=>by simp;omega) λh=>by simp;omega) λh4 hk=>{12};let nit:∀c v,H c=Z v->c≠z/\c≠TO/\c≠i1/\c≠i2:=λc v q=>{(λe=>by rw[e,fpn z ()]at q;cases q),(λe=>by rw[e,fpn TO ()]at q;cases q),(λe=>by rw[e,fpn i1 ()]at q;cases q),(λe=>by rw[e,fpn i2 ()]at q;cases q)};let kch:∀c o,c∉[z,TO,i1,i2]->s.heap.get? c=Z o->h4.get? c=Z o:=λc o hc q=>hk c o (λe=>hc (by simp[e])) (λe=>hc (by simp[e])) (λe=>hc (by simp[e])) (λe=>hc (by simp[e])) q;show I.step (t':=s.toks) (g':=s.gens) (d':=s.drawn) (ch:=[z,TO,i1,i2]) (λc hc=>?_) (λc o _ _ hc' q _=>kch c o hc' q) (λc o _ _ hc' q _=>{o.slots,kch c o hc' q}) (λc o _ q n=>n) (λc o hc' q=>{o,kch c o hc' q})
   (λc xs q=>q) (λc o v q=>q) (λc ps q=>{#[],by rw[q];simp}) (λm hm=>?_) (λc v q=>?_) I.bare
  .let hc':c∈[z,TI,TO,i1,i2]:=by
    simp only[ν,ϵ,or_false]at hc⊢;rcases hc with e|e|e|e<;>simp[e]
   ext(⟨f0,f1,f2,f3,f4,f5⟩:hf c hc');show{f3,f1,f4,f5}
  .ext(⟨o,es,ep,ho,r⟩:hm);show{o,es,ep,hk _ o (ϔ (hf z ()).2.1) (ϔ (hf TO ()).2.1) (ϔ (hf i1 ()).2.1) (ϔ (hf i2 ()).2.1) ho,r}
  .show(I.hok c v q).stay (λc' w' hc' q'=>?_) (λc' q'=>q') λc' xs q'=>q';rcases hc' with e|e
   .subst e;ext(⟨n1,n2,n3,n4⟩:nit c' v q);show hk c' w' n1 n2 n3 n4 q'
   .ext(⟨n1,n2,n3,n4⟩:nit c' _ e);show hk c' w' n1 n2 n3 n4 q'
 self:=λA i s Q E st h=>wpAny_pyIter_zip st.1 h
section
variable{X:Cx}
inductive Ie (K:ζ) (R:It->Hp->Prop) (vs:List V) (H1:Hp):Prop|mk a b (_:vs=[.ref a,.ref b]) (_:(∃xs,aw K H1 a xs)) (_:(∃ys,aw K H1 b ys)) (_:R (JV K a b) H1)
def Mu(K:ζ)(ta:TA):TI:=λσ H R=>ta σ H (Ie K R)
def pi_zip{a b:ϲ}{ta:TA}{p pos:Pos}{elts:List ϲ}{x1}{tp:Pos}(hg:Gl X "zip")(hm:X.mg "zip"=χ)(ha:PA X [a,b] ta)(hs:Ϗ [a,b] X.env=(Α,eval a X.env)::Ϗ [b] X.env:=by rfl)(hpl:(A5 pos (Ϗ [b] X.env)).any (·.1)=Α:=by rfl):
  PI X (.Tuple elts x1 tp) (.Call (.Name "zip" p) [a,b] [] pos) (Mu X.K ta):=by
 intro pins s σ H R I h;show Call_ (fE I hg hm (u:=.type "zip") () (i9 (bn (ha pos pins s σ H _ I h) λus s1 ⟨vs,H1,I1,r1,q1⟩=>?_) hs hpl));ext(⟨l,m,e,⟨xs,hq1⟩,⟨ys,hq2⟩,q⟩:q1);subst e;ext(⟨u,w',rfl,ru,rw'⟩:pQ r1);cases ru;cases rw';ext(⟨its1,rv1,p1,_⟩:I1.list hq1);ext(⟨its2,rv2,p2,_⟩:I1.list hq2);show call_zip_2 p1.isList p2.isList λh' hz hTI hTO hi1 hi2 hsz kp=>?_;let I2:au X pins σ H1 {s1 with heap:=h'}:=I1.kept (t':=s1.toks) kp;let add:∀(n i j:Nat),i≠j->n+i≠n+j:=λn i j h z=>h (Nat.add_left_cancel z);let T:mY X.prog X.w X.K (.Tuple elts x1 tp) (JV X.K l m) [s1.heap.objs.size+4,s1.heap.objs.size+2,s1.heap.objs.size+3,s1.heap.objs.size,s1.heap.objs.size+1] (s1.heap.objs.size+4) _:=
  Dz l m (s1.heap.objs.size+4) (s1.heap.objs.size+2) (s1.heap.objs.size+3) s1.heap.objs.size (s1.heap.objs.size+1)
   {add _ 2 4 (),add _ 3 4 (),add _ 0 4 (),add _ 1 4 (),add _ 2 3 (),add _ 2 0 (),add _ 2 1 (),add _ 3 0 (),add _ 3 1 (),add _ 0 1 ()}
 show T.self X.A 0 {s1 with heap:=h'} _ _ {hz,hTI,{00,hTO},hi1,hi2} ?_;show{s1.heap.objs.size+4,000,H1,1,I2,T,{hz,hTI,{00,hTO},hi1,hi2},λb hb=>?_,q};let hb':s1.heap.objs.size<=b:=by
  simp only[ν,ϵ,or_false]at hb;rcases hb with e|e|e|e|e
  .rw[e];show q_ _ _
  .rw[e];show q_ _ _
  .rw[e];show q_ _ _
  .rw[e];show Β _
  .rw[e];show q_ _ _
 ext(⟨f0,f1⟩:I1.fpOk hb' (I1.hok.fresh hb'));show{f0,f1}
def EH{K:ζ}{a b:J}{xs ys:List V}{g:TG}{tb:TS}{D:cV}{σ:St}{H:Hp}(Pv:Nat->St->Hp->Prop)(h0:Pv 0 σ H)(hl:∀i σ H,Pv i σ H->aw K H a xs/\aw K H b ys)
  (hs:∀i x y σ H p,xs[i]?=Z x->ys[i]?=Z y->Pv i σ H->H p=χ->g (.ref p) σ (upd H p (.tup [x,y])) λσ2 H2=>tb {D with nx:=Pv (i+1),ct:=Pv (i+1),bk:=D.nx} σ2 H2) (hd:∀σ H,Pv (min xs.length ys.length) σ H->D.nx σ H):
  ∃W:Nat->Nat->St->Hp->Prop,(∃m,W 0 m σ H)/\∀i m σ H,W i m σ H ->
   ((JV K a b).stop i H/\D.nx σ H)\/((JV K a b).go i H/\∃N:St->Hp->Prop,(∀σ' H',N σ' H'->∃m',m'<m/\W (i+1) m' σ' H')/\∀x H',(JV K a b).yld i H x H'->g x σ H' λσ2 H2=>tb {D with nx:=N,ct:=N,bk:=D.nx} σ2 H2):=by
 show{λi m σ H=>m=min xs.length ys.length-i/\i<=min xs.length ys.length/\Pv i σ H,{min xs.length ys.length,3,Τ _,h0},2};ext i m σ H ⟨rfl,hi,p⟩;ext(⟨q1,q2⟩:hl i σ H p);by_cases hlt:i<min xs.length ys.length
 .let h1:i<xs.length:=();let h2:i<ys.length:=();show .inr {{xs,ys,xs[i],ys[i],q1,q2,by simp[h1],by simp[h2]},Pv (i+1),λσ' H' p'=>{min xs.length ys.length-(i+1),31,hlt,p'},λz H' y=>?_};ext(⟨c,x,y,hb,e1,e2,hx,hy⟩:y);subst e1 e2;show hs i x y σ H c (hx xs q1) (hy ys q2) p hb
 .let e:i=min xs.length ys.length:=();subst e;show .inl {{xs,ys,q1,q2,3},hd σ H p}
end
section
variable{X:Cx}{pins:List (J×Obj)}{s:ρ}{σ:St}{H:Hp}
end
section
variable{X:Cx}
end
section
end
section
variable{prog:Θ}{w:Χ}{A:Ϛ}{E:θ->ρ->Prop}{s:ρ}
end
section
variable{X:Cx}{tg e:ϲ}{ta:TA}{p pos:Pos}
end
section
variable{X:Cx}
end
open PySem PySem.Spec PyProof.Rows
def pe_def0{X:Cx}{k:Nat}{x:Str}{ps:List Str}{sp:Sp}{p pos:Pos}(d:aS X.prog X.w X.K X.mg X.base k x ps sp)(h:bU k X.A)(g:Gl X x)(a:autoParam ((x==("__debug__" : Str))=Α) yD._auto_1):PE X (.Call (.Name x p) [] [] pos) (jk sp [] E0 pc):=by ext(⟨f,j,F,b,c,m⟩:d.ex);show Bt F h g m c b .nil gq a
section
variable{σ:St}{H:Hp}{d e:Dv}{ds es:List Dv}{ta tb:TE}{t:TA}{l:J}
variable{i:Nat}{u:TS}{D:cV}
end
open PySem PySem.Spec PyProof.Rows PySem.W
abbrev TF:=St->Hp->Str->(Str->Hp->Prop)->Prop
section
variable{X:Cx}
def PF(X:Cx)(e:List ϲ)(t:TF):Prop:=∀(a:List (J×Obj))(s:ρ)(σ:St)(H:Hp)(b:Str)(Q:Str->Hp->Prop),au X a σ H s->t σ H b Q->Joins (ϊ X.prog X.w) X.A X.xe (evalEach e X.env) b (λc d=>∃H',au X a σ H' d/\Q c H') s
def KL:TF:=λ_ H a Q=>Q a H
inductive Ep (t:TF) (σ:St) (acc:Str) (Q:Str->Hp->Prop) (x:V) (H1:Hp):Prop|mk y (_:x=.str y) (_:(acc++y).length<=Μ) (_:t σ H1 (acc++y) Q)
def IV(b:TE)(t:TF):TF:=λσ H a Q=>b σ H (Ep t σ a Q)
inductive Lg  (Q:VK) (x:V) (H1:Hp):Prop|mk y (_:x=.str y) (_:y.length<=Μ) (_:Q (.str y) H1)
def NY(a:TE):TE:=λσ H Q=>a σ H (Lg Q)
def Oy(t:TF):TE:=λσ H Q=>t σ H p0 λa H'=>a.length<=Μ/\Q (.str a) H'
def pf_nil:PF X [] KL:=λa s σ H b Q I h=>{H,I,h}
def pf_cons{e:ϲ}{c:List ϲ}{b:TE}{t:TF}(m:PE X e b)(j:PF X c t):PF X (e::c) (IV b t):=λa s σ H d Q I h=>
 bn (m a s σ H _ I h) λv o ⟨x,l,f,i,y,n,g,q⟩=>by subst n;ext(⟨k,rfl⟩:i);show{y,k,1,g,j a o σ l (d++y) Q f q}
def pe_fv{e:ϲ}{a:TE}{pos:Pos}(i:PE X e a):PE X (.FormattedValue e (-1) χ pos) (NY a):=λd s σ H Q I h=>
 PH (bn (i d s σ H _ I h) λv l ⟨x,c,b,g,y,j,f,q⟩=>by subst j;ext(⟨k,rfl⟩:g);show wpAny_formatField_str {.str y,c,b,{k,1},q} {.str y,c,b.tok _,{01},q} f)
def qL:∀{c:List (Sem θ)}{a:Str}{Q b:Str->ρ->Prop}{s:ρ},(∀o d,Q o d->b o d)->Joins M A E c a Q s->Joins M A E c a b s
 |[],_,_,_,_,h,j=>h _ _ j
 |x::c,a,Q,b,s,h,j=>i7 j (λv i ⟨y,k,e,f,g⟩=>{y,k,e,f,qL h g}) λ_ _ e=>e
def pe_fstr{a b:ϲ}{c:List ϲ}{t:TF}{pos:Pos}(h:PF X (a::b::c) t):PE X (.JoinedStr (a::b::c) pos) (Oy t):=λd s σ H Q I q=>
 wpAny_JoinedStr (qL (λo i ⟨H',e,f,g⟩=>{f,.str o,H',e.tok _,{01},g}) (h d s σ H _ _ I q))
end
section
variable{prog:Θ}{w:Χ}{A:Ϛ}{E:θ->ρ->Prop}{s:ρ}
def vP{t d:J}{items:Array θ}{lo st:Int}{n:Nat}{Q:θ->ρ->Prop}(a:IsTup s.heap t items)(f:s.TypeIs (.ref d) "slice")
  (g:∀{i:Ϛ}{h:θ->ρ->Prop}{e:Int×Int×Nat->ρ->Prop},e (lo,st,n) s->Ο (ϊ prog w) i (Pt (.ref d) (pure (items.size:Int))) e h s)
  (j:(lo==0&&st==1&&n==items.size)=Y->Q (.ref t) s)
  (b:Q (.ref s.heap.objs.size) {s with heap:=s.heap.push {cls:=.type "tuple",data:=.seq ((ϳ n).filterMap λ(k:Nat)=>items[(lo+(k:Int)*st).toNat]?).toArray} })
  (hsz:((ϳ n).filterMap λ(k:Nat)=>items[(lo+(k:Int)*st).toNat]?).toArray.size<=Μ):Ο (ϊ prog w) A (getItem (.ref t) (.ref d)) Q E s:=by
 unfold getItem;try with_reducible show u6 ?_
 (first|show η (ω ?_)|skip);show η (wpAny_sequenceKey a.typeIs () ?_)
 show η (x_ a.typeIs i_ (y4 i_ a.typeIs entry_tuple_getitem ?_ (args_tuple_getitem _ _)));change Ο _ _ (Pu (.ref t)>>=_) _ _ s;show η (tupleItemsOf_ a ?_);show η (Pd f ?_);rw[Q5 ()];show η (g ?_);change Ο _ _ (if (lo==0&&st==1&&n==items.size)=Y then _ else _) _ _ s;by_cases c:(lo==0&&st==1&&n==items.size)=Y
 .rw[Q5 c];show η ?_;show η (Pd a.typeIs (ω ?_));rw[Q5 ()];show η (F4 (η (ω (ω {01,ω (j c)}))))
 .rw[Q6 c];first
   |show η (i6 (ω ⟨_,rfl,ω b⟩) hsz)
   |show η (i6 (η (ω (ω ⟨_,rfl,ω b⟩))) hsz)
   |show η (η (i6 (ω (ω ⟨_,rfl,ω b⟩)) hsz))
   |show η (η (i6 (ω ⟨_,rfl,ω b⟩) hsz))
end
section
variable{X:Cx}
inductive LE (K:ζ) (x:V) (lo:Option Int) (hi:Option Int) (H:Hp) (Q:VK):Prop|mk a xs (_:x=.ref a) (_:aq K H a xs) (_:(db xs lo hi=xs->Q (.ref a) H)) (_:∀p,H p=χ->Q (.ref p) (upd H p (.tup (db xs lo hi))))
def im:KM X (LE X.K):=by
 ext j s σ H x v n m lo d t Q I u e pl g ⟨a,xs,rfl,h,z,q⟩;cases u;by_cases c:HT.sIx xs.length 0 lo=0/\HT.sIx xs.length xs.length d=xs.length
 .ext(⟨its,r,i,hz⟩:I.tuple h);let f:its.toArray.size=xs.length:=by rw[Κ];show r.length.symm
  let p:db xs lo d=xs:=by unfold db;rw[c.1,c.2];simp
  ext(⟨o,l,k,B⟩:id e);show{"tuple",0,i_.lookup,i.typeIs,vP i {o,l,k} (λy=>HT.sliceApplied_gen e pl g y) (λ_=>{.ref a,H,I,1,z p}) ?_ ?_}
  .rw[HT.pick_gen,f];show{.ref s.heap.objs.size,0,I.laid (t':=s.toks) (λb C q=>π _ q) (Β _) ?_,1,q _ (I.hok.fresh (Β _))};show{ϩ (gG xs lo d) hz,0,(r.drop (HT.sIx xs.length 0 lo)).take (HT.sIx xs.length xs.length d-HT.sIx xs.length 0 lo),QH _ _,Gs.new _ U}
  .rw[HT.pick_gen,Κ,Ω,k7];let:its.toArray.toList.length=xs.length:=↑f
   omega
 .show IL j s σ H (.ref a) (.ref a) n m lo d t Q I U e pl g {a,xs,1,h,c,q}
end
section
variable{prog:Θ}{w:Χ}{A:Ϛ}{E:θ->ρ->Prop}{s:ρ}
end
section
variable{X:Cx}
end
def look(kvs:List (Str×J))(k:Str):Option J:=(kvs.find? λp=>decide (p.1=k)).map (·.2)
structure FD(P:Θ)(w:Χ)(K:ζ)(a:J)(kvs:List (Str×J)):Prop where
 nd:(kvs.map (·.1)).Nodup
 lo:(a==C8)=Α
 ex:∃o es ep,K.lookup a=Z o/\o.ExactDict/\o.data=.dict es ep/\KeysOf (bg P w) es/\Pairs (bg P w) es.toList (kvs.map λp=>((ϱ p.1:cR),Ψ p.2))
def oM(kvs:List (Str×J))(k:Str):valueAt (kvs.map λp=>((ϱ p.1:cR),Ψ p.2)) (ϱ k)=(look kvs k).map Ψ:=by
 unfold valueAt look;induction kvs with
 |nil=>rfl
 |cons p kvs b=>
  rw[Υ,q9,q9];by_cases h:p.1=k
  .rw[Q9 h,show decide ((ϱ p.1:cR)=ϱ k)=Y from Q9 (by rw[h])];rfl
  .rw[Q8 h,show decide ((ϱ p.1:cR)=ϱ k)=Α from Q8 (λz=>h (by injection z))];show b
section
variable{X:Cx}{pins:List (J×Obj)}{s:ρ}{σ:St}{H:Hp}{a:J}{kvs:List (Str×J)}
def FD.of(f:FD X.prog X.w X.K a kvs)(I:au X pins σ H s):s.heap.DictOf (bg X.prog X.w) a (kvs.map λp=>((ϱ p.1:cR),Ψ p.2)):=by
 ext(⟨o,g,ep,d,k,c,j,i⟩:f.ex);show{o,g,ep,I.kIn a o d,k,c,j,i,2};let e:(kvs.map λp=>((ϱ p.1:cR),Ψ p.2)).map (·.1)=(kvs.map (·.1)).map ϱ:=by rw[ϗ,ϗ];rfl
 rw[e];show List.Pairwise.map ϱ (λa b h z=>h (by injection z)) f.nd
inductive Ky (a:J) (kvs:List (Str×J)) (neg:Bool) (x:V) (y:V) (H:Hp) (Q:VK):Prop|mk k (_:x=.str k) (_:y=.ref a) (_:Q (.bl (xor neg (look kvs k).isSome)) H)
def IC(f:FD X.prog X.w X.K a kvs):fQ X (ϻ .In) (Ky a kvs Α):=by ext pins s σ H x y v u Q I c b ⟨k,rfl,rfl,q⟩;cases b;show wpAny_in_of (oN (k:=ϱ k) c) f.lo (f.of I).mapOf ?_;rw[oM,E8];show{.bl (look kvs k).isSome,H,I.tok _,1,↑q}
def qb(f:FD X.prog X.w X.K a kvs):fQ X (ϻ .NotIn) (Ky a kvs Y):=by ext pins s σ H x y v u Q I c b ⟨k,rfl,rfl,q⟩;cases b;show wpAny_notIn_of (oN (k:=ϱ k) c) f.lo (f.of I).mapOf ?_;rw[oM,E8];show{.bl (!(look kvs k).isSome),H,I.tok _,1,↑q}
inductive GH (a:J) (kvs:List (Str×J)) (Q:VK) (x:V) (y:V) (H2:Hp):Prop|mk k b (_:x=.ref a) (_:y=.str k) (_:look kvs k=Z b) (_:Q (.ref b) H2)
def Ld(a:J)(kvs:List (Str×J))(b d:TE):TE:=λσ H Q=>b σ H λx c=>d σ c (GH a kvs Q x)
def pe_getF{o i:ϲ}{d e:TE}{pos:Pos}(f:FD X.prog X.w X.K a kvs)(r:PE X o d)(m:PE X i e)(p:La i):PE X (.Subscript o i pos) (Ld a kvs d e):=by intro pins s σ H Q I h;show Gw PySem.F.slot_dict_getitem.lookup p (bn (r pins s σ H _ I h) λu A ⟨x,v,g,B,j⟩=>bn (m pins A σ v _ g j) λD C ⟨y,n,c,w,k,b,z,t,q,l⟩=>?_);subst z t;obtain rfl:u=Ψ a:=B;show{(f.of c).typeIs,wpAny_getItem_of (oN (k:=ϱ k) w) (f.of c).mapOf (by rw[oM,q];rfl) {.ref b,n,c.tok _,1,l}}
end
def sN(c:Bool):String:=cond c "list" "tuple"
def iN(c:Bool):String:=cond c "list_iterator" "tuple_iterator"
def Bg(c:Bool)(h:ϖ)(a:J)(items:Array θ):Prop:=∃o,h.get? a=Z o/\o.cls=.type (sN c)/\∃n,o.data=.seq items n
def dP(c:Bool)(h:ϖ)(a l:J)(i:Nat):Prop:=∃o,h.get? a=Z o/\o.cls=.type (iN c)/\o.data=.fields #[.ref l,.int (i:Nat) 0]
def Ev(c:Bool)(K:ζ)(H:Hp)(a:J)(xs:List V):Prop:=match c with|true=>aw K H a xs|false=>aq K H a xs
def dP.at:dP c h a l i->(∀o,h.get? a=Z o->h'.get? a=Z o)->dP c h' a l i:=λ⟨o,e,r⟩ k=>{o,k _ e,r}
def dP.extBut(x:dP c h a l i)(e:QD b h h')(n:a≠b):dP c h' a l i:=x.at λo q=>e _ o n q
def Bg.extBut:Bg c h a its->QD b h h'->a≠b->Bg c h' a its:=λ⟨o,x,r⟩ e n=>{o,e _ o n x,r}
def kT(h:a≠b):K1 a≠.type b:=λz=>h (Ϭ z)
def lJ(c:Bool):sN c≠"zip"/\sN c≠"tuple_iterator"/\∀d,sN c≠iN d:=by cases c<;>decide
abbrev rl(h:ϖ)(a:J):ϖ:=h.push {cls:=.type "tuple_iterator",data:=.fields #[.ref a,.int 0 0]}
abbrev rN(c:Bool)(h:ϖ)(a b:J):ϖ:=(rl h a).push {cls:=.type (iN c),data:=.fields #[.ref b,.int 0 0]}
abbrev rk(c:Bool)(h:ϖ)(a b:J):ϖ:=(rN c h a b).push {cls:=.type "tuple",data:=.seq #[.ref h.objs.size,.ref (rl h a).objs.size]}
abbrev qN(c:Bool)(h:ϖ)(a b:J):ϖ:=(rk c h a b).push {cls:=.type "tuple",data:=.seq #[.none,.none]}
abbrev kh(c:Bool)(h:ϖ)(a b:J):ϖ:=(qN c h a b).push {cls:=.type "zip",data:=.fields #[.none,.bool Α,.bool Α,.ref (rN c h a b).objs.size,.ref (rk c h a b).objs.size]}
section
variable{prog:Θ}{w:Χ}{A:Ϛ}{E:θ->ρ->Prop}{s:ρ}
def wT(a:dP c s.heap it t i)(e:Bg c s.heap t its)(d:its[i]?=Z x)(b:∀h',dP c h' it t (i+1)->B_ it s.heap h'->Q x {s with heap:=h'}):Ο (ϊ prog w) A (r_ (.ref it)) Q E s:=by
 cases c
 .show dW a e d b
 .show wpAny_nextOf_list_item a e d b
def Av(d:A.handled=χ)(a:dP c s.heap it t i)(g:Bg c s.heap t its)(f:its[i]?=χ)(b:∀h' e,QD it s.heap h'->(∃o,h'.get? e=Z o/\o.cls=.type "StopIteration")->E (.ref e) {s with heap:=h'}):Ο (ϊ prog w) A (r_ (.ref it)) Q E s:=by
 cases c
 .show gM d a g f b
 .show wpAny_nextOf_list_end d a g f b
def vT{c:Bool}{z j d f g m u:J}{t C:Nat}{xs ys:Array θ}{x y a b:θ}{Q:θ->ρ->Prop}(D:PD z j d f g m u)(hz:QI s.heap z j d .none)(W:G9 s.heap j (.ref f) (.ref g))(R:G9 s.heap d a b)
  (h1:s.heap.IsTupleIter f m t) (h2:dP c s.heap g u C) (T:s.heap.IsTuple m xs) (u1:Bg c s.heap u ys) (hx:xs[t]?=Z x) (hy:ys[C]?=Z y)
  (hQ:∀h',QI h' z j d (M2 s.heap.objs.size)->G9 h' d x y->h'.IsTupleIter f m (t+1)->dP c h' g u (C+1)->G9 h' s.heap.objs.size x y->(∀c o,c≠z->c≠d->c≠f->c≠g->s.heap.get? c=Z o->h'.get? c=Z o)->Q (.ref s.heap.objs.size) {s with heap:=h'}):
  Ο (ϊ prog w) A (s_.«zip.__next__» {[.ref z],[]}) (λX s'=>∃v,X=.done (.ret v)/\Q v s') E s:=by
 change Ο _ _ (field (.ref z) 2>>=_) _ _ _;show η (b_ hz U (x:=.bool Α) U ?_);change Ο _ _ (field (.ref z) 3>>=_) _ _ _;show η (b_ hz U (x:=.ref j) U ?_);show η (B2 W U ?_);change Ο _ _ (u8 (.ref z)>>=_) _ _ _;show η ?_;unfold u8;show η (b_ hz U (x:=.none) U (ω ?_));simp only[if_true];show η (F4 ?_);show η (b_ hz U (x:=.ref d) U ?_);show η (D_ hz () λg1 z1 i=>?_);show η ?_;simp only[List.zipIdx_cons,List.zipIdx_nil,Qw,List.forIn_nil];show η (η (OZ ?_));change Ο _ _ (r_ (.ref f)>>=_) _ _ _;show η (dW (h1.extBut i.extBut D.i1z) (T.extBut i.extBut D.l1z) hx λg2 S k=>ω ?_);let H:G9 g2 d a b:=k.extBut _ _ D.TOi1 (i.extBut _ _ D.TOz R);show η (B2 H U ?_);show η (O1 H λg3 t3 l=>?_);show η (QE (ω ?_));show η (η (OZ ?_));change Ο _ _ (r_ (.ref g)>>=_) _ _ _;show η (wT (((h2.extBut i.extBut D.i2z).extBut k.extBut D.i12.symm).extBut l.extBut D.TOi2.symm) (((u1.extBut i.extBut D.l2z).extBut k.extBut D.l2i1).extBut l.extBut D.l2TO) hy λg4 V p=>ω ?_);let I:G9 g4 d x b:=p.extBut _ _ D.TOi2 t3;show η (B2 I U ?_);show η (O1 I λh r n=>?_);replace r:G9 h d x y:=r;show η (QE (ω (ω ?_)));show η (B2 r U ?_);show η (wpAny_newTuple ?_);let u2:h.objs.size=s.heap.objs.size:=by rw[n.1,p.1,l.1,k.1,i.1]
 let K:QI h z j d .ellipsis:=n.extBut _ _ D.TOz.symm (p.extBut _ _ D.i2z.symm (l.extBut _ _ D.TOz.symm (k.extBut _ _ D.i1z.symm z1)));let k5:∀c o,c≠z->c≠d->c≠f->c≠g->s.heap.get? c=Z o->h.get? c=Z o:=λc o d1 d2 B F e=>n.extBut _ _ d2 (p.extBut _ _ F (l.extBut _ _ d2 (k.extBut _ _ B (i.extBut _ _ d1 e))));let u0:h.IsTupleIter f m (t+1):=((S.extBut l.extBut D.TOi1.symm).extBut p.extBut D.i12).extBut n.extBut D.TOi1.symm;let j2:=V.extBut n.extBut D.TOi2.symm;let G:=Η K;show η ?_;unfold s_.SmallTypes.ownedTupleHandOut;let z6:QI (h.push {cls:=.type "tuple",data:=.seq #[x,y]}) z j d .ellipsis:=π _ K;show η (D_ z6 () λg7 z7 P=>?_);show D_ z7 () λL u3 M=>?_;let q:∀c o,c≠z->h.get? c=Z o->L.get? c=Z o:=λc o d1 e=>M.extBut _ _ d1 (P.extBut _ _ d1 (π _ e));let N:=M.extBut _ _ (u9 G) (P.extBut _ _ (u9 G) (Ξ _ U));rw[u2]at u3 N;show ω {012};rw[u2];show hQ L u3 (q _ _ D.TOz r) (u0.at λo e=>q _ o D.i1z e) (j2.at λo e=>q _ o D.i2z e) N λc o d1 d2 B F e=>q c o d1 (k5 c o d1 d2 B F e)
def AO{c:Bool}{z m j l k n y:J}{v u2:Nat}{xs ys:Array θ}{a b:θ}{Q:Fin->ρ->Prop}(F:A.handled=χ)(D:PD z m j l k n y)(hz:QI s.heap z m j .none)(S:G9 s.heap m (.ref l) (.ref k))(R:G9 s.heap j a b)
  (K:s.heap.IsTupleIter l n v) (X:dP c s.heap k y u2) (B:s.heap.IsTuple n xs) (T:Bg c s.heap y ys) (P:xs[v]?=χ\/ys[u2]?=χ)
  (L:∀h' e,(∀c o,c≠z->c≠j->c≠l->c≠k->s.heap.get? c=Z o->h'.get? c=Z o)->(∃o,h'.get? e=Z o/\o.cls=.type "StopIteration")->E (.ref e) {s with heap:=h'}):Ο (ϊ prog w) A (s_.«zip.__next__» {[.ref z],[]}) Q E s:=by
 change Ο _ _ (field (.ref z) 2>>=_) _ _ _;show η (b_ hz U (x:=.bool Α) U ?_);change Ο _ _ (field (.ref z) 3>>=_) _ _ _;show η (b_ hz U (x:=.ref m) U ?_);show η (B2 S U ?_);change Ο _ _ (u8 (.ref z)>>=_) _ _ _;show η ?_;unfold u8;show η (b_ hz U (x:=.none) U (ω ?_));simp only[if_true];show η (F4 ?_);show η (b_ hz U (x:=.ref j) U ?_);show η (D_ hz () λg1 N d=>?_);show η ?_;simp only[List.zipIdx_cons,List.zipIdx_nil,Qw,List.forIn_nil];show η (η (OZ ?_));cases r:xs[v]? with
 |none=>
  show η (gM F (K.extBut d.extBut D.i1z) (B.extBut d.extBut D.l1z) r λu0 e f ⟨t,g,i⟩=>?_);let u3:=f _ _ D.i1z.symm N;let u:e≠z:=λq=>by subst q;rw[u3]at g;cases g;simp at i
  show D_ u3 () λM _ h=>L M e (λc o d1 _ p _ q=>h.extBut _ _ d1 (f _ _ p (d.extBut _ _ d1 q))) {t,h.extBut _ _ u g,i}
 |some x=>
  let V:=P.resolve_left (by rw[r];show nofun);show η (dW (K.extBut d.extBut D.i1z) (B.extBut d.extBut D.l1z) r λu0 a0 f=>ω ?_);let C:=f.extBut _ _ D.TOi1 (d.extBut _ _ D.TOz R);show η (B2 C U ?_);show η (O1 C λM t3 h=>?_);show η (QE (ω ?_));show η (η (OZ ?_));show η (Av F (((X.extBut d.extBut D.i2z).extBut f.extBut D.i12.symm).extBut h.extBut D.TOi2.symm) (((T.extBut d.extBut D.l2z).extBut f.extBut D.l2i1).extBut h.extBut D.l2TO) V λg4 e I ⟨t,g,i⟩=>?_);let H:=I _ _ D.i2z.symm (h.extBut _ _ D.TOz.symm (f.extBut _ _ D.i1z.symm N));let u:e≠z:=λq=>by subst q;rw[H]at g;cases g;simp at i
  show D_ H () λW _ G=>L W e (λc o d1 d2 p u1 q=>G.extBut _ _ d1 (I _ _ u1 (h.extBut _ _ d2 (f.extBut _ _ p (d.extBut _ _ d1 q))))) {t,G.extBut _ _ u g,i}
def vy{c:Bool}{z h d f e g i:J}{k j:Nat}{xs ys:Array θ}{x y a b:θ}{Q:Option θ->ρ->Prop}(D:PD z h d f e g i)(hz:QI s.heap z h d .none)(p:G9 s.heap h (.ref f) (.ref e))(m:G9 s.heap d a b)
  (v:s.heap.IsTupleIter f g k) (u:dP c s.heap e i j) (n:s.heap.IsTuple g xs) (q:Bg c s.heap i ys) (G:xs[k]?=Z x) (B:ys[j]?=Z y)
  (C:∀h',QI h' z h d (M2 s.heap.objs.size)->G9 h' d x y->h'.IsTupleIter f g (k+1)->dP c h' e i (j+1)->G9 h' s.heap.objs.size x y->(∀c o,c≠z->c≠d->c≠f->c≠e->s.heap.get? c=Z o->h'.get? c=Z o)->Q (Z (.ref s.heap.objs.size)) {s with heap:=h'}):
  Ο (ϊ prog w) A (QA (.ref z)) Q E s:=by
 let l:s.TypeIs (.ref z) "zip":={0,hz,1};unfold QA;show η (wpAny_attempt (x_ l O7 (y4 O7 l F.entry_zip_next (vT D hz p m v u n q G B λh' M H r t K I=>ω (C h' M H r t K I)) (F.args_zip_next_1 _))))
def wh{c:Bool}{z i f g d h j:J}{m k:Nat}{xs ys:Array θ}{a b:θ}{Q:Option θ->ρ->Prop}(u:A.handled=χ)(D:PD z i f g d h j)(hz:QI s.heap z i f .none)(r:G9 s.heap i (.ref g) (.ref d))(p:G9 s.heap f a b)
  (x:s.heap.IsTupleIter g h m) (v:dP c s.heap d j k) (q:s.heap.IsTuple h xs) (t:Bg c s.heap j ys) (n:xs[m]?=χ\/ys[k]?=χ)
  (B:∀h',(∀c o,c≠z->c≠f->c≠g->c≠d->s.heap.get? c=Z o->h'.get? c=Z o)->Q χ {s with heap:=h'}):Ο (ϊ prog w) A (QA (.ref z)) Q E s:=by
 let l:s.TypeIs (.ref z) "zip":={0,hz,1};unfold QA;show η (wpAny_attempt (x_ l O7 (y4 O7 l F.entry_zip_next (AO u D hz r p x v q t n λh' e G ⟨o,C,y⟩=>?_) (F.args_zip_next_1 _))));show η (wpAny_isInstance {o,C,y} isSubtype_stop (ω (B _ G)))
def uu(c:Bool)(a b:J)(xs ys:Array θ)(p:Nat)(q:Option J)(t:Array (Option θ)):
  Meets (s_.«zip.__new__» {[.type "zip",.ref a,.ref b],[]}) (λ_ R s=>s.heap.get? a=Z {cls:=.type "tuple",dict:=q,data:=.seq xs p,slots:=t}/\Bg c s.heap b ys /\
   R (.ok (.ret (.ref (qN c s.heap a b).objs.size))) {s with heap:=kh c s.heap a b}):=
 .of_wp λprog w A R s h=>by
  ext(⟨f,g,d,tk,k⟩:s);ext(⟨i,e,h⟩:h);let B:=sub_zip;let m:ϖ.IsTuple (ρ.heap {f,g,d,tk,k}) a xs:={0,i,1,p,1};cases c with
  |true=>
   let j:ϖ.IsList (ρ.heap {f.push {cls:=.type "tuple_iterator",data:=.fields #[.ref a,.int 0 0]},g,d,tk,k}) b ys:=let ⟨o,z,r⟩:=e;{o,π _ z,r}
   wp_walk using I_ m,OC j,B0 i;show{01,h}
  |false=>ext(⟨⟨c,v,C,u⟩,e,y,n,x⟩:e);subst y x;let l:(f.push {cls:=.type "tuple_iterator",data:=.fields #[.ref a,.int 0 0]}).get? b=Z {cls:=.type "tuple",dict:=v,data:=.seq ys n,slots:=u}:=π _ e;let j:ϖ.IsTuple (ρ.heap {f.push {cls:=.type "tuple_iterator",data:=.fields #[.ref a,.int 0 0]},g,d,tk,k}) b ys:={0,l,1,n,1};wp_walk using I_ m,I_ j,B0 i,B0 l;show{01,h}
def vU(t:s.heap.IsTuple l1 xs)(v:Bg c s.heap l2 ys)
  (h:∀h',QI h' (s.heap.objs.size+4) (s.heap.objs.size+2) (s.heap.objs.size+3) .none->G9 h' (s.heap.objs.size+2) (.ref s.heap.objs.size) (.ref (s.heap.objs.size+1))->G9 h' (s.heap.objs.size+3) .none .none->h'.IsTupleIter s.heap.objs.size l1 0->dP c h' (s.heap.objs.size+1) l2 0 ->
   (∀c o,s.heap.get? c=Z o->h'.get? c=Z o)->Q (.ref (s.heap.objs.size+4)) {s with heap:=h'}):Ο (ϊ prog w) A (call (.type "zip") [.ref l1,.ref l2]) Q E s:=by
 ext(⟨⟨C,l,B,u⟩,m,n,z,x⟩:t);subst n x;show callType_new F.called_zip () (F.typeCall_zip_2 _ _) (F.newCall_zip_2 _ _) (λr=>F.args_object_init_3 r _ _) F.entry_zip_new (uu c l1 l2 xs ys z l u) {m,v,2};let b:(rl s.heap l1).objs.size=s.heap.objs.size+1:=Ϲ ..;let f:(rN c s.heap l1 l2).objs.size=s.heap.objs.size+2:=by rw[Ϲ,b]
 let d:(rk c s.heap l1 l2).objs.size=s.heap.objs.size+3:=by rw[Ϲ,f]
 let j:(qN c s.heap l1 l2).objs.size=s.heap.objs.size+4:=by rw[Ϲ,d]
 let a:∀{h:ϖ}{o:Obj}{c:J}{p:Obj},h.get? c=Z p->(h.push o).get? c=Z p:=λq=>π _ q;let e:(kh c s.heap l1 l2).get? (qN c s.heap l1 l2).objs.size=Z _:=Ξ _ U;let i:(kh c s.heap l1 l2).get? (rk c s.heap l1 l2).objs.size=Z _:=a (Ξ _ U);let k:(kh c s.heap l1 l2).get? (rN c s.heap l1 l2).objs.size=Z _:=a (a (Ξ _ U));let g:(kh c s.heap l1 l2).get? (rl s.heap l1).objs.size=Z _:=a (a (a (Ξ _ U)));let y:(kh c s.heap l1 l2).get? s.heap.objs.size=Z _:=a (a (a (a (Ξ _ U))));rw[f,d,j]at e;rw[b,f]at k;rw[d]at i;rw[b]at g;rw[j];show{{0,e,1},h _ e k i {0,y,11} {0,g,11} λc o q=>a (a (a (a (a q))))}
end
def au.sqB(I:au X pins σ H s)(h:Ev c X.K H a xs):∃its,aE xs its/\Bg c s.heap a its.toArray:=by
 cases c
 .ext(⟨its,b,p,_⟩:I.tuple h);show{its,b,p}
 .ext(⟨its,b,p,_⟩:I.list h);show{its,b,p.isList}
def au.sqB_inj(I:au X pins σ H s)(h:Ev c X.K H a xs)(g:Ev c X.K H a ys):xs=ys:=by
 cases c
 .show I.tuple_inj h g
 .show I.list_inj h g
def xu(c:Bool)(K:ζ)(a b:J):It:=
 {λi H=>∃xs ys x y,aq K H a xs/\Ev c K H b ys/\xs[i]?=Z x/\ys[i]?=Z y,λi H z H'=>∃p x y,H p=χ/\H'=upd H p (.tup [x,y])/\z=.ref p/\(∀xs,aq K H a xs->xs[i]?=Z x)/\∀ys,Ev c K H b ys->ys[i]?=Z y,λi H=>∃xs ys,aq K H a xs/\Ev c K H b ys/\(xs.length<=i\/ys.length<=i)}
def wm{c:Bool}{P:Θ}{w:Χ}{K:ζ}{elts:List ϲ}{x1}{tp:Pos}(a b z TI TO i1 i2:J)(D1:TI≠z/\TO≠z/\i1≠z/\i2≠z/\TI≠TO/\TI≠i1/\TI≠i2/\TO≠i1/\TO≠i2/\i1≠i2)(D2:a≠TO/\b≠TO):
  mY P w K (.Tuple elts x1 tp) (xu c K a b) [z,TI,TO,i1,i2] z (λi h=>QI h z TI TO .none/\G9 h TI (.ref i1) (.ref i2)/\(∃u v,G9 h TO u v)/\h.IsTupleIter i1 a i/\dP c h i2 b i) where
 mem:=()
 obj:=λi h st c hc=>by
  ext(⟨hz,hTI,⟨u,v,hTO⟩,⟨o1,e1,c1,d1⟩,⟨o2,e2,c2,d2⟩⟩:st);simp only[ν,ϵ,or_false]at hc;rcases hc with rfl|rfl|rfl|rfl|rfl
  .show{_,hz,λv z=>by let z':QB _=OW v:=z;cases z'}
  .show{_,hTI,λv z=>by let z':QN _ _=OW v:=z;cases z'}
  .show{_,hTO,λv z=>by let z':QN _ _=OW v:=z;cases z'}
  .show{o1,e1,λv z=>by rw[d1]at z;cases z}
  .show{o2,e2,λv z=>by rw[d2]at z;cases z}
 keep:=λi h h' st k=>by ext(⟨hz,hTI,⟨u,v,hTO⟩,h1,h2⟩:st);show{k z () _ hz,k TI () _ hTI,{u,v,k TO () _ hTO},h1.at λo e=>k i1 () o e,h2.at λo e=>k i2 () o e}
 item:=by
  intro X hP hw hK hc i pins s σ H E I hf st hg;subst hP hw hK;ext(⟨xs,ys,x,y,hq1,hq2,hx,hy⟩:hg);ext(⟨its1,rv1,p1,_⟩:I.tuple hq1);ext(⟨its2,rv2,L2⟩:I.sqB hq2);ext(⟨u1,hu1,ru1⟩:rv1.get hx);ext(⟨u2,hu2,ru2⟩:rv2.get hy);ext(⟨hz,hTI,⟨u,v,hTO⟩,h1,h2⟩:st);ext(⟨d1,d2,d3,d4,d5,d6,d7,d8,d9,d10⟩:D1);let L1:s.heap.IsTuple a its1.toArray:=p1;let D:PD z TI TO i1 i2 a b:=by
   ext(⟨o1,e1,c1,_⟩:id L1);ext(⟨o2,e2,c2,_⟩:id L2);ext(⟨o3,e3,c3,_⟩:id h1);ext(⟨o4,e4,c4,_⟩:id h2);show{d1,d2,d3,d4,d5,d6,d7,d8,d9,d10,bf e1 hz (by rw[c1];exactλz=>absurd (Ϭ z) ()),D2.1,bf e1 e3 (by rw[c1,c3];exactλz=>absurd (Ϭ z) ()),bf e1 e4 (by rw[c1,c4];show kT ((lJ Α).2.2 c)),bf e2 hz (by rw[c2];show kT (lJ c).1),D2.2,bf e2 e3 (by rw[c2,c3];show kT (lJ c).2.1),bf e2 e4 (by rw[c2,c4];show kT ((lJ c).2.2 c))}
  show vy D hz hTI hTO h1 h2 L1 L2 (x:=u1) (y:=u2) (↑hu1) (↑hu2) λh3 a1 a2 a3 a4 a5 hk=>{01,PU a1 λh4 hz4 hs4=>?_};let hzl:z<s.heap.objs.size:=Η hz;let hn:H s.heap.objs.size=χ:=I.hok.fresh (Β _);let keep:∀c o,c≠z->c≠TO->c≠i1->c≠i2->s.heap.get? c=Z o->h4.get? c=Z o:=λc o c1 c2 c3 c4 q=>(hs4.2 c c1).trans (hk c o c1 c2 c3 c4 q);let tup:h4.get? s.heap.objs.size=Z {cls:=.type "tuple",data:=.seq #[u1,u2]}:=(hs4.2 _ (Ml hzl)).trans a5;let fpn:∀c∈[z,TI,TO,i1,i2],H c=χ:=λc hc=>(hf c hc).1;let nit:∀c v,H c=Z v->c≠z/\c≠TO/\c≠i1/\c≠i2:=λc v q=>{(λe=>by rw[e,fpn z ()]at q;cases q),(λe=>by rw[e,fpn TO ()]at q;cases q),(λe=>by rw[e,fpn i1 ()]at q;cases q),(λe=>by rw[e,fpn i2 ()]at q;cases q)};let kch:∀c o,c∉[z,TO,i1,i2]->s.heap.get? c=Z o->h4.get? c=Z o:=λc o hc q=>keep c o (λe=>hc (by simp[e])) (λe=>hc (by simp[e])) (λe=>hc (by simp[e])) (λe=>hc (by simp[e])) q;let I2:au X pins σ (upd H s.heap.objs.size (.tup [x,y])) {s with heap:=h4,toks:=s.toks}:=by
   show I.step (g':=s.gens) (d':=s.drawn) (ch:=[z,TO,i1,i2]) (λc hc=>?_) (λc o _ _ hc' q _=>kch c o hc' q) (λc o _ _ hc' q _=>{o.slots,kch c o hc' q}) (λc o _ q n=>by rw[ai (zp (Η q))];show n) (λc o hc' q=>{o,kch c o hc' q})
    (λc xs q=>by rw[ai (af q hn)];show q) (λc o v q=>by rw[ai (af q hn)];show q) (λc ps q=>{#[],by rw[ai (af q hn),q];simp}) (λm hm=>?_) (λc v q=>?_) I.bare
   .let hc':c∈[z,TI,TO,i1,i2]:=by
     simp only[ν,ϵ,or_false]at hc⊢;rcases hc with e|e|e|e<;>simp[e]
    ext(⟨f0,f1,f2,f3,f4,f5⟩:hf c hc');show{f3,f1,f4,f5}
   .ext(⟨o,es,ep,ho,r⟩:hm);show{o,es,ep,keep _ o (ϔ (hf z ()).2.1) (ϔ (hf TO ()).2.1) (ϔ (hf i1 ()).2.1) (ϔ (hf i2 ()).2.1) ho,r}
   .by_cases hb:c=s.heap.objs.size
    .subst hb;rw[aa]at q;cases q;show{(show 2<=Μ by rw[ι];decide),[u1,u2],.cons ru1 (.cons ru2 .nil),{0,tup,1,(0),1},0,tup,1}
    .rw[ai hb]at q;show(I.hok c v q).stay (λc' w' hc' q'=>?_) (λc' q'=>by rw[ai (af q' hn)];show q') λc' xs q'=>by rw[ai (af q' hn)];show q'
     rcases hc' with e|e
     .subst e;ext(⟨n1,n2,n3,n4⟩:nit c' v q);show keep c' w' n1 n2 n3 n4 q'
     .ext(⟨n1,n2,n3,n4⟩:nit c' _ e);show keep c' w' n1 n2 n3 n4 q'
  show{.ref s.heap.objs.size,0,I2,1,{0,x,y,hn,11,λxs' h'=>by rw[I.tuple_inj h' hq1];show hx,λys' h'=>by rw[I.sqB_inj h' hq2];show hy},2,λc hc=>?_}
  .show{hz4,hs4.extBut _ _ d1 (hk TI _ d1 d5 d6 d7 hTI),{00,hs4.extBut _ _ d2 a2},a3.at λo e=>hs4.extBut _ _ d3 e,a4.at λo e=>hs4.extBut _ _ d4 e}
  .let hb':c<s.heap.objs.size:=by
    simp only[ν,ϵ,or_false]at hc;ext(⟨o3,e3,_⟩:h1);ext(⟨o4,e4,_⟩:h2);rcases hc with e|e|e|e|e
    .rw[e];show hzl
    .rw[e];show Η hTI
    .rw[e];show Η hTO
    .rw[e];show Η e3
    .rw[e];show Η e4
   rw[ai (zp hb')];show fpn c hc
 done:=by
  intro X hP hw hK hc i pins s σ H E I hf st hg;subst hP hw hK;ext(⟨xs,ys,hq1,hq2,hend⟩:hg);ext(⟨its1,rv1,p1,_⟩:I.tuple hq1);ext(⟨its2,rv2,L2⟩:I.sqB hq2);ext(⟨hz,hTI,⟨u,v,hTO⟩,h1,h2⟩:st);ext(⟨d1,d2,d3,d4,d5,d6,d7,d8,d9,d10⟩:D1);let L1:s.heap.IsTuple a its1.toArray:=p1;let D:PD z TI TO i1 i2 a b:=by
   ext(⟨o1,e1,c1,_⟩:id L1);ext(⟨o2,e2,c2,_⟩:L2);ext(⟨o3,e3,c3,_⟩:h1);ext(⟨o4,e4,c4,_⟩:h2);show{d1,d2,d3,d4,d5,d6,d7,d8,d9,d10,bf e1 hz (by rw[c1];exactλz=>absurd (Ϭ z) ()),D2.1,bf e1 e3 (by rw[c1,c3];exactλz=>absurd (Ϭ z) ()),bf e1 e4 (by rw[c1,c4];show kT ((lJ Α).2.2 c)),bf e2 hz (by rw[c2];show kT (lJ c).1),D2.2,bf e2 e3 (by rw[c2,c3];show kT (lJ c).2.1),bf e2 e4 (by rw[c2,c4];show kT ((lJ c).2.2 c))}
  let l1:=rv1.length;let l2:=rv2.length;let fpn:=λc hc=>(hf c hc).1;show wh (I.ok.hd hc) D hz hTI hTO h1 h2 L1 L2 (hend.imp (λh=>by simp;omega) λh=>by simp;omega) λh4 hk=>{12};let nit:∀c v,H c=Z v->c≠z/\c≠TO/\c≠i1/\c≠i2:=λc v q=>{(λe=>by rw[e,fpn z ()]at q;cases q),(λe=>by rw[e,fpn TO ()]at q;cases q),(λe=>by rw[e,fpn i1 ()]at q;cases q),(λe=>by rw[e,fpn i2 ()]at q;cases q)};let kch:∀c o,c∉[z,TO,i1,i2]->s.heap.get? c=Z o->h4.get? c=Z o:=λc o hc q=>hk c o (λe=>hc (by simp[e])) (λe=>hc (by simp[e])) (λe=>hc (by simp[e])) (λe=>hc (by simp[e])) q;show I.step (t':=s.toks) (g':=s.gens) (d':=s.drawn) (λc hc=>?_) (λc o _ _ hc' q _=>kch c o hc' q) (λc o _ _ hc' q _=>{o.slots,kch c o hc' q}) (λc o _ q n=>n) (λc o hc' q=>{o,kch c o hc' q})
   (λc xs q=>q) (λc o v q=>q) (λc ps q=>{#[],by rw[q];simp}) (λm hm=>?_) (λc v q=>?_) I.bare
  .let hc':c∈[z,TI,TO,i1,i2]:=by
    simp only[ν,ϵ,or_false]at hc⊢;rcases hc with e|e|e|e<;>simp[e]
   ext(⟨f0,f1,f2,f3,f4,f5⟩:hf c hc');show{f3,f1,f4,f5}
  .ext(⟨o,es,ep,ho,r⟩:hm);show{o,es,ep,hk _ o (ϔ (hf z ()).2.1) (ϔ (hf TO ()).2.1) (ϔ (hf i1 ()).2.1) (ϔ (hf i2 ()).2.1) ho,r}
  .show(I.hok c v q).stay (λc' w' hc' q'=>?_) (λc' q'=>q') λc' xs q'=>q';rcases hc' with e|e
   .subst e;ext(⟨n1,n2,n3,n4⟩:nit c' v q);show hk c' w' n1 n2 n3 n4 q'
   .ext(⟨n1,n2,n3,n4⟩:nit c' _ e);show hk c' w' n1 n2 n3 n4 q'
 self:=λA i s Q E st h=>wpAny_pyIter_zip st.1 h
def De(p:Bg c h a its):a<h.objs.size:=by ext(⟨o,e,_⟩:p);show Η e
section
variable{X:Cx}
inductive Fn (c:Bool) (K:ζ) (R:It->Hp->Prop) (vs:List V) (H1:Hp):Prop|mk a b (_:vs=[.ref a,.ref b]) (_:(∃xs,aq K H1 a xs)) (_:(∃ys,Ev c K H1 b ys)) (_:R (xu c K a b) H1)
def Lh(c:Bool)(K:ζ)(a:TA):TI:=λσ H R=>a σ H (Fn c K R)
def pi_zip2{c:Bool}{a b:ϲ}{F:TA}{p pos:Pos}{k:List ϲ}{x1}{B:Pos}(u1:Gl X "zip")(hm:X.mg "zip"=χ)(u2:PA X [a,b] F)(E:autoParam (Ϗ [a,b] X.env=(Α,eval a X.env)::Ϗ [b] X.env) yR._auto_1)(K:autoParam ((A5 pos (Ϗ [b] X.env)).any (·.1)=Α) yR._auto_1):
  PI X (.Tuple k x1 B) (.Call (.Name "zip" p) [a,b] [] pos) (Lh c X.K F):=by
 intro G s σ H R I h;show Call_ (fE I u1 hm (u:=.type "zip") () (i9 (bn (u2 pos G s σ H _ I h) λus d ⟨vs,V,g,S,N⟩=>?_) E K));ext(⟨l,m,e,⟨xs,M⟩,⟨ys,L⟩,q⟩:N);subst e;ext(⟨u,w',rfl,W,u3⟩:pQ S);cases W;cases u3;ext(⟨a2,a4,D,_⟩:g.tuple M);ext(⟨a1,a3,C⟩:g.sqB L);show vU D C λh' hz v o t x Q=>?_;let f:∀(n i j:Nat),i≠j->n+i≠n+j:=λn i j h z=>h (Nat.add_left_cancel z);let T:mY X.prog X.w X.K (.Tuple k x1 B) (xu c X.K l m) [d.heap.objs.size+4,d.heap.objs.size+2,d.heap.objs.size+3,d.heap.objs.size,d.heap.objs.size+1] (d.heap.objs.size+4) _:=
  wm l m (d.heap.objs.size+4) (d.heap.objs.size+2) (d.heap.objs.size+3) d.heap.objs.size (d.heap.objs.size+1)
   {f _ 2 4 (),f _ 3 4 (),f _ 0 4 (),f _ 1 4 (),f _ 2 3 (),f _ 2 0 (),f _ 2 1 (),f _ 3 0 (),f _ 3 1 (),f _ 0 1 ()} {Ϙ (Nat.lt_add_right 3 (De (c:=Α) D)),Ϙ (Nat.lt_add_right 3 (De C))}
 show T.self X.A 0 {d with heap:=h'} _ _ {hz,v,{00,o},t,x} ?_;show{d.heap.objs.size+4,000,V,1,(g.kept (t':=d.toks) Q),T,{hz,v,{00,o},t,x},λb y=>?_,q};let r:d.heap.objs.size<=b:=by
  simp only[ν,ϵ,or_false]at y;rcases y with e|e|e|e|e
  .rw[e];show q_ _ _
  .rw[e];show q_ _ _
  .rw[e];show q_ _ _
  .rw[e];show Β _
  .rw[e];show q_ _ _
 ext(⟨P,u0⟩:g.fpOk r (g.hok.fresh r));show{P,u0}
def zj{c:Bool}{k:Nat}{ix:List Nat}{g:TG}{n:TT}{m:TE}{σ:St}{o:Hp}{Q:List V->Hp->Prop}{K:ζ}{a b:J}{xs ys:List V}(e:Nat->List V->Hp->Prop)(z:e 0 [] o)(l:∀i d H,e i d H->aq K H a xs/\Ev c K H b ys)
  (C:∀i d H x y p,xs[i]?=Z x->ys[i]?=Z y->e i d H->H p=χ->eF k ix g n m σ (.ref p) d (upd H p (.tup [x,y])) (e (i+1))) (t:∀d H,e (min xs.length ys.length) d H->Q d H):Ck (xu c K a b) k ix g n m σ o Q:=by
 show vm e z (λi d H h p=>?_) (λd H p=>?_) (λi d H x H' h p y=>?_) t
 .ext(⟨f,j⟩:l i d H p);show{xs,ys,xs[i]'(),ys[i]'(),f,j,33}
 .ext(⟨f,j⟩:l _ d H p);show{xs,ys,f,j,3}
 .ext(⟨f,j⟩:l i d H p);ext(⟨c,q,B,r,F,u,D,v⟩:y);subst F u;show C i d H q B c (D xs f) (v ys j) p r
def Eh{c:Bool}{K:ζ}{a b:J}{xs ys:List V}{g:TG}{tb:TS}{D:cV}{σ:St}{H:Hp}(d:Nat->St->Hp->Prop)(v:d 0 σ H)(F:∀i σ H,d i σ H->aq K H a xs/\Ev c K H b ys)
  (B:∀i x y σ H p,xs[i]?=Z x->ys[i]?=Z y->d i σ H->H p=χ->g (.ref p) σ (upd H p (.tup [x,y])) λf k=>tb {D with nx:=d (i+1),ct:=d (i+1),bk:=D.nx} f k) (o:∀σ H,d (min xs.length ys.length) σ H->D.nx σ H):
  ∃W:Nat->Nat->St->Hp->Prop,(∃m,W 0 m σ H)/\∀i m σ H,W i m σ H ->
   ((xu c K a b).stop i H/\D.nx σ H)\/((xu c K a b).go i H/\∃N:St->Hp->Prop,(∀σ' H',N σ' H'->∃l,l<m/\W (i+1) l σ' H')/\∀x H',(xu c K a b).yld i H x H'->g x σ H' λf k=>tb {D with nx:=N,ct:=N,bk:=D.nx} f k):=by
 show{λi m σ H=>m=min xs.length ys.length-i/\i<=min xs.length ys.length/\d i σ H,{min xs.length ys.length,3,Τ _,v},2};ext i m σ H ⟨rfl,s,p⟩;ext(⟨h,j⟩:F i σ H p);by_cases n:i<min xs.length ys.length
 .let t:i<xs.length:=();show .inr {{xs,ys,xs[i],ys[i],h,j,by simp[t],by simp[()]},d (i+1),λσ' H' I=>{min xs.length ys.length-(i+1),31,n,I},λz H' y=>?_};ext(⟨c,x,y,q,G,r,C,u⟩:y);subst G r;show B i x y σ H c (C xs h) (u ys j) p q
 .let e:i=min xs.length ys.length:=();subst e;show .inl {{xs,ys,h,j,3},o σ H p}
end
def uK(l:J)(items:Array θ)(n:Nat)(b:J)(a:Array θ)(m:Nat)(i:Option J)(e:Array (Option θ))(p:¬(!items.isEmpty&&A_ (items.size+a.size))=Y)(o:items.size<=Μ)(f:items.size+a.size<=Μ+1):
  Meets (s_.«list.extend» {[.ref l,.ref b],[]}) (λ_ R s=>s.heap.get? l=Z {cls:=.type "list",data:=.seq items n}/\s.heap.get? b=Z {cls:=.type "tuple",dict:=i,data:=.seq a m,slots:=e}/\R (.ok (.ret w_)) {s with heap:=s.heap.update l (F3 λx=>x++a),toks:=s.toks}):=
 .of_wp λprog w A R s h=>by
  ext(⟨q,g,d,tk,r⟩:s);ext(⟨c,k,h⟩:h);let j:(items++a).size<=Μ+1:=by rw[Array.size_append];show f
  wp_walk using(O6 c U (_hz':=j)),B0 c,B0 k;show{01,h}
section
variable{X:Cx}
inductive Kv (K:ζ) (x:V) (vs:List V) (H:Hp) (Q:VK):Prop|mk l b xs zs (_:x=.ref l) (_:vs=[.ref b]) (_:H l=Z (.lst xs)) (_:aq K H b zs) (_:xs.length+zs.length<=Μ) (_:Q .non (upd H l (.lst (xs++zs))))
def Ff:Ms X "list.extend" (Kv X.K):=by
 ext A s σ H x vs v us Q I y g ⟨l,b,xs,D,rfl,rfl,d,m,hz,q⟩;cases y;ext(⟨u,rfl,o⟩:g.one);cases o;ext(⟨z,its,n,r,E,e⟩:I.lstM d);ext(⟨a,c,⟨⟨cls,j,B,p⟩,i,k,w,h⟩,_⟩:I.tuple m);subst k h;let C:=c.length;let hsz:its.toArray.size+a.toArray.size<=Μ:=by rw[Κ,Κ];omega
 let f:¬ (!its.toArray.isEmpty&&A_ (its.toArray.size+a.toArray.size))=Y:=by rw[uV hsz,Py];show ϋ
 show K6 F.slot_list_extend {0,e,1} F.entry_list_extend (F.args_list_extend_2 _ _)
  (uK l its.toArray n b a.toArray w j p f (by rw[Κ];omega) ()) {e,i,2}
 show{.non,0,I.lset (its':=its++a) d e () (r.append c) ?_,1,q};rw[Ι];omega
def rY(c:X.A.units<B8):fQ X (ϻ .Eq) (λx y H Q=>∃(l b:J) (xs:List V),x=.ref l/\y=.ref b/\aw X.K H l xs/\aw X.K H b []/\Q (.bl xs.isEmpty) H):=by
 ext r s σ H x y v u Q I o n ⟨l,b,xs,rfl,rfl,m,g,q⟩;cases o;cases n;ext(⟨its,k,f,_⟩:I.list m);ext(⟨w,i,d,_⟩:I.list g);let a:=k.length;let p:=i.length;cases xs with
 |nil=>
  show Qj (e:=λ_=>Y) f.isList d.isList (by simp;omega) c (λj h z=>?_) X.prog X.w X.xe _ ?_
  .let:j<its.length:=↑h
   simp at a;omega
  .let e:((ϳ its.toArray.size).all λ_=>Y)=Y:=();rw[e];show{.bl Y,H,I,1,q}
 |cons x xs=>show SeqAt.RcAt.lists_lengths f.isList d.isList ?_ c X.prog X.w X.xe _ {.bl Α,H,I,1,q};rw[Λ]at a;rw[A3]at p;rw[Κ,Κ,bne_iff_ne];omega
end
section
variable{prog:Θ}{w:Χ}{A:Ϛ}{E:θ->ρ->Prop}{s:ρ}
end
section
variable{X:Cx}
end
section
variable{prog:Θ}{w:Χ}{A:Ϛ}{E:θ->ρ->Prop}
end
section
variable{X:Cx}{pos:Pos}
end
end L2
namespace KB
open PySem L2
abbrev Pr:=Str×Int
def LG(p q:Pr):Prop:=p.1.cps.toList<q.1.cps.toList
structure oQ(ps:List Pr):Prop where
 pw:ps.Pairwise LG
 ge:∀p∈ps,1<=p.2
def gv(kvs:List Pr)(x:Str)(n:Int):List Pr:=if (kvs.any λp=>decide (p.1=x))=Y then kvs.map (λp=>if p.1=x then (p.1,n)else p)else kvs++[(x,n)]
def dD(x:Str):Bool:=decide (1<=x.cps.size)&&decide (x.cps.size<=8)&&x.cps.toList.all λc=>decide (97<=c)&&decide (c<=122)
def Bi(c:Nat):Bool:=decide (97<=c)&&decide (c<=122)
def ah.tup_inv(h:ah H (.tup ds) v):∃a vs,v=.ref a/\H a=Z (.tup vs)/\Reps H ds vs:=by simpa only[ah]using h
def Reps.two(h:Reps H [d,e] vs):∃x y,vs=[x,y]/\ah H d x/\ah H e y:=by ext(⟨x,r,rfl,b,y,c,rfl,a,rfl⟩:h);show{x,y,1,b,a}
def dk(kvs:List (Str×Int)):List (cR×V):=kvs.map λp=>(ϱ p.1,V.int p.2)
def cw(c:Int)(ps:List (Str×Int)):Dv:=.tup [.int c,.tup (ps.map λp=>.tup [.str p.1,.int p.2])]
def Ed(r:TK):Str×Int:=(r.2.1,match r.2.2 with| [.int n]=>n|_=>0)
def qE:∀{a:List TK},(∀r∈a,H r.1=Z (.tup [.str (Ed r).1,.int (Ed r).2]))->Reps H ((a.map Ed).map λp=>Dv.tup [.str p.1,.int p.2]) (a.map λr=>V.ref r.1)
 |[],_=>by simp[Reps]
 |r::a,h=>by show{0012,qE λx b=>h x (ς _ b)};show{r.1,01,h r Γ,001100111}
def rV{k:Nat}{ix:List Nat}{i:Nat}{tt:TT}{te:TE}{σ:St}{x:V}{ys:List V}{H:Hp}{N:List V->Hp->Prop}(h:tt ((eQ k ix σ).set i (Z x)) H λc H3=>if c=Y then te ((eQ k ix σ).set i (Z x)) H3 λy H4=>ys.length<Μ/\N (ys++[y]) H4 else N ys H3):
  eF k ix (dZ i) tt te σ x ys H N:=h
def zr:((ϱ a:cR)=ϱ b)↔a=b:={λh=>by injection h,λh=>by rw[h]}
def Ik(kvs:List (Str×Int))(x:Str)(n:Int):dk (gv kvs x n)=gl (dk kvs) (ϱ x) (.int n):=by
 unfold gv gl dk;let e:((kvs.map λp=>((ϱ p.1:cR),V.int p.2)).any λa=>decide (a.1=ϱ x))=kvs.any λp=>decide (p.1=x):=by rw[List.any_map];congr 1;funext p;simp[Function.comp]
 rw[e];split
 .rw[ϗ,ϗ];show F_ λp _=>?_;simp only[Function.comp];by_cases h:p.1=x
  .rw[Q5 h,Q5 (zr.mpr h)]
  .rw[Q6 h,Q6 (λz=>h (zr.mp z))]
 .rw[Ε];rfl
def AR(c:(kvs.map (·.1)).Nodup):((gv kvs x n).map (·.1)).Nodup:=by
 unfold gv;split
 .let e:(kvs.map (λp=>if p.1=x then (p.1,n)else p)).map (·.1)=kvs.map (·.1):=by
   rw[ϗ];show F_ λp _=>?_;simp only[Function.comp];split<;>rfl
  rw[e];show c
 .rename_i h;rw[Ε,P7];show{c,3,λa i b g=>?_};let d:b=x:=↑g
  subst d;intro e;subst e;ext(⟨p,f,e⟩:ϙ.mp i);show h (n_.mpr {p,f,Q9 e})
def BS(kvs:List (Str×Int))(x:Str)(n:Int):(gv kvs x n).length<=kvs.length+1:=by
 unfold gv;split
 .rw[ε];omega
 .rw[Ι];simp
def Dy{R:Str×Int->Prop}{kvs:List (Str×Int)}{x:Str}{n:Int}(h:∀p∈kvs,R p)(b:R (x,n)):∀p∈gv kvs x n,R p:=by
 intro p a;unfold gv at a;split at a
 .ext(⟨q,c,e⟩:ϙ.mp a);by_cases z:q.1=x
  .rw[Q5 z]at e;rw[<-e,z];show b
  .rw[Q6 z]at e;rw[<-e];show h q c
 .rcases ϧ.mp a with a|a
  .show h p a
  .rw[ξ.mp a];show b
abbrev aJ(ps:List Pr):List Dv:=ps.map λp=>.tup [.str p.1,.int p.2]
def mi{H:Hp}{ps:List Pr}{us:List V}(k:Reps H (aJ ps) us){i:Nat}{x:V}(j:us[i]?=Z x):∃p b,ps[i]?=Z p/\x=.ref b/\H b=Z (.tup [.str p.1,.int p.2]):=by
 ext(⟨d,a,h⟩:k.get j);rw[ϐ]at a;cases e:ps[i]? with
 |none=>rw[e]at a;cases a
 |some p=>rw[e]at a;obtain rfl:Dv.tup [.str p.1,.int p.2]=d:=Ϟ a;ext(⟨b,m,rfl,c,f⟩:ah.tup_inv h);ext(⟨y,z,rfl,l,g⟩:Reps.two f);subst l g;show{p,b,11,c}
def sQ(R:ah H (cw c ps) v):∃a b us,v=.ref a/\H a=Z (.tup [.int c,.ref b])/\H b=Z (.tup us)/\Reps H (aJ ps) us/\us.length=ps.length:=by ext(⟨a,j,rfl,i,h⟩:ah.tup_inv R);ext(⟨x,y,rfl,e,f⟩:Reps.two h);subst e;ext(⟨b,us,rfl,g,d⟩:ah.tup_inv f);let:=d.length;rw[ε]at this;show{a,b,us,1,i,g,d,this}
def FJ(d:H a=Z (.tup [.int c,.ref b]))(e:H b=Z (.tup us))(f:Reps H (aJ ps) us):ah H (cw c ps) (.ref a):=by show{a,01,d,0011001,{b,us,1,e,f},1}
def Oo(h:decide (V.int i=V.int j)=Y):i=j:=by let:=Q7 h;injection this
def z2:2<=Μ:=by rw[ι];decide
def z1:1<=Μ:=by rw[ι];decide
def z3:3<=Μ:=by rw[ι];decide
def BM(h:x∉kvs.map (·.1)):gv kvs x n=kvs++[(x,n)]:=by unfold gv;rw[Q6];intro e;rw[n_]at e;ext(⟨p,a,e⟩:e);show h (ϙ.mpr {p,a,Q7 e})
def qw(h:x∈kvs.map (·.1)):(gv kvs x n).map (·.1)=kvs.map (·.1):=by unfold gv;ext(⟨p,a,rfl⟩:ϙ.mp h);rw[Q5 (n_.mpr {p,a,Q9 U}),ϗ];show F_ λr _=>?_;change(if r.1=p.1 then (r.1,n)else r).1=r.1;split<;>rfl
section
variable{K:ζ}
end
def dR(h:D.nx σ H):yw D σ H:=h
def GT{a:List Int}{k:Int}(c:0<=k)(h:k<(a.length:Int)):∃v:Int,jX (a.map V.int) k=Z (.int v):=by let q:jX (a.map V.int) ((k.toNat:Nat):Int)=Z (.int a[k.toNat]):=ad (by rw[ϐ,Δ ()]<;>rfl);let b:k=((k.toNat:Nat):Int):=();rw[<-b]at q;show{0,q}
def oC(n:Int)(h:0<n):0<=a%n/\a%n<n:={Int.emod_nonneg _ (),Int.emod_lt_of_pos _ h}
def ao(a:J)(H H':Hp):Prop:=∀g o,g≠a->H g=Z o->H' g=Z o
def ao.refl(a:J)(H:Hp):ao a H H:=λ_ _ _ e=>e
def ao.trans(s:ao a H H1)(t:ao a H1 H2):ao a H H2:=λg o b e=>t g o b (s g o b e)
def ae.b(a:J)(s:ae H H'):ao a H H':=λg o _ e=>s g o e
def ao.upd(H:Hp)(a:J)(o:HO):ao a H (upd H a o):=λg u b e=>by rw[ai b];show e
def ao.same(h:H a=χ)(s:ae H H1)(t:ao a H1 H2):ae H H2:=λg o e=>t g o (af e h) (s g o e)
def gz(H H':Hp):Prop:=∀b a,H b=Z (.tup a)->H' b=Z (.tup a)
def ae.tups{H H':Hp}(s:ae H H'):gz H H':=λb zs e=>s b _ e
def gz.trans{H H1 H2:Hp}(s:gz H H1)(t:gz H1 H2):gz H H2:=λb zs e=>t b zs (s b zs e)
def ao.tups(s:ao a H H')(h:H a=Z (.lst xs)):gz H H':=λb c e=>s b _ (λz=>by rw[z,h]at e;cases e) e
def ao.tupsD{a:J}{H H':Hp}{m:List (cR×V)}(s:ao a H H')(h:H a=Z (.dK m)):gz H H':=λb zs e=>s b _ (λz=>by rw[z,h]at e;cases e) e
def bH:∀{ds:List Dv}{vs:List V},(∀d∈ds,∀v,ah H d v->ah H' d v)->Reps H ds vs->Reps H' ds vs
 |[],vs,_,h=>by simpa only[Reps]using h
 |d::ds,vs,f,h=>by ext(⟨v,r,rfl,c,b⟩:h);show{v,r,1,f d Γ v c,bH (λe a=>f e (ς _ a)) b}
def bD(t:gz H H')(h:L2.Pl n d):∀{v:V},ah H d v->ah H' d v:=by
 induction h with
 |int=>intro v r;simpa only[ah]using r
 |str=>intro v r;simpa only[ah]using r
 |non=>intro v r;simpa only[ah]using r
 |tup _ ih=>intro v r;ext(⟨a,vs,rfl,ha,rs⟩:r);show{a,vs,1,t _ _ ha,bH (λd hd v r=>ih d hd r) rs}
def sY(c:Int)(ps:List Pr):L2.Pl 3 (cw c ps):=.tup λd b=>by
 rcases ν.mp b with rfl|b
 .show .int
 .rw[ξ.mp b];show .tup λe h=>?_;ext(⟨p,_,rfl⟩:ϙ.mp h);show .tup λg f=>?_;rcases ν.mp f with rfl|f
  .show .str
  .rw[ξ.mp f];show .int
def xN(d:Nat->St->Hp->Prop)(m:Nat)(h:d m σ H)
  (i:∀m σ H,d m σ H->c σ H λb a=>if b=Y then tb {D with nx:=λσ' H'=>∃e,e<m/\d e σ' H',ct:=λσ' H'=>∃e,e<m/\d e σ' H',bk:=D.nx} σ a else D.nx σ a)
  (g:∀σ H Q f,(∀b a,Q b a->f b a)->c σ H Q->c σ H f):wc c tb D σ H:=by
 show{d,{m,h},λm σ H p=>g σ H _ _ (λb a q=>?_) (i m σ H p)};cases b with
 |true=>show{0,λσ' H' j=>j,q}
 |false=>show q
def iU:∀σ H (Q a:Bool->Hp->Prop),(∀b c,Q b c->a b c)->(λ(σ:St) (H:Hp) (Q:Bool->Hp->Prop)=>km i σ H λx H'=>∃k,Gm K x H' k/\Q k H') σ H Q->(λ(σ:St) (H:Hp) (Q:Bool->Hp->Prop)=>km i σ H λx H'=>∃k,Gm K x H' k/\Q k H') σ H a:=by ext σ H Q a h ⟨v,e,k,t,q⟩;show{v,e,k,t,h _ _ q}
inductive Kd where
 |whole
 |place (c:Int) (ps:List Pr)
 |row (c:Int) (ps:List Pr) (k:Kd)
 |pair (k j:Kd)
def Kd.dv:Kd->Dv
 |.whole=>.tup [.str "whole"]
 |.place c ps=>.tup [.str "place",cw c ps]
 |.row c ps k=>.tup [.str "row",cw c ps,k.dv]
 |.pair k j=>.tup [.str "pair",k.dv,j.dv]
def Kd.size:Kd->Nat
 |.whole=>1
 |.place _ _=>1
 |.row _ _ k=>k.size+1
 |.pair k j=>k.size+j.size+1
def Kd.size_pos:∀k:Kd,1<=k.size
 |.whole=>Β _
 |.place _ _=>Β _
 |.row _ _ k=>by change 1<=k.size+1;omega
 |.pair k j=>by change 1<=k.size+j.size+1;omega
def Kd.pl:∀k:Kd,L2.Pl (k.size+3) k.dv
 |.whole=>.tup λd a=>by rw[ξ.mp a];show .str
 |.place c ps=>.tup λd a=>by
  rcases ν.mp a with rfl|a
  .show .str
  .rw[ξ.mp a];show sY c ps
 |.row c ps k=>.tup λd a=>by
  rcases ν.mp a with rfl|a
  .show .str
  rcases ν.mp a with rfl|a
  .show(sY c ps).up (by change 3<=k.size+3;omega)
  .rw[ξ.mp a];show k.pl
 |.pair k j=>.tup λd a=>by
  rcases ν.mp a with rfl|a
  .show .str
  rcases ν.mp a with rfl|a
  .show k.pl.up (by change k.size+3<=k.size+j.size+3;omega)
  .rw[ξ.mp a];show j.pl.up (by change j.size+3<=k.size+j.size+3;omega)
def Kd.word:Kd->Str
 |.whole=>"whole"
 |.place _ _=>"place"
 |.row _ _ _=>"row"
 |.pair _ _=>"pair"
def Kd.kids:Kd->List Kd
 |.row _ _ k=>[k]
 |.pair k j=>[k,j]
 |_=>[]
def Kd.len?:Kd->Option (Int×List Pr)
 |.place c ps=>Z (c,ps)
 |.row c ps _=>Z (c,ps)
 |_=>χ
def Kd.size_kids(k:Kd):k.size=1+(k.kids.map Kd.size).sum:=by
 cases k with
 |whole=>rfl
 |place c ps=>rfl
 |row c ps k=>simp[Kd.size,Kd.kids];omega
 |pair k j=>simp[Kd.size,Kd.kids];omega
def Kd.All(P:Int->List Pr->Prop):Kd->Prop
 |.whole=>True
 |.place c ps=>P c ps
 |.row c ps k=>P c ps/\k.All P
 |.pair k j=>k.All P/\j.All P
def Kd.tupS{H H':Hp}(t:gz H H'){k:Kd}{v:V}(r:ah H k.dv v):ah H' k.dv v:=bD t k.pl r
def Kd.inv{H:Hp}{k:Kd}{v:V}(r:ah H k.dv v):∃a vs,v=.ref a/\H a=Z (.tup (.str k.word::vs)) /\
  (match k with
   |.whole=>vs=[]
   |.place c ps=>∃l,vs=[l]/\ah H (cw c ps) l
   |.row c ps j=>∃l u,vs=[l,u]/\ah H (cw c ps) l/\ah H j.dv u
   |.pair i j=>∃u w,vs=[u,w]/\ah H i.dv u/\ah H j.dv w):=by
 cases k with
 |whole=>ext(⟨a,vs,rfl,ha,x,r1,rfl,rfl,rfl⟩:r);show{a,[],1,ha,1}
 |place c ps=>rw[Kd.dv,ah]at r;ext(⟨a,vs,rfl,ha,rs⟩:r);simp only[Reps]at rs;ext(⟨x,r1,rfl,hx,y,r2,rfl,hy,rfl⟩:rs);simp only[ah]at hx;subst hx;show{a,01,ha,y,1,hy}
 |row c ps j=>rw[Kd.dv,ah]at r;ext(⟨a,vs,rfl,ha,rs⟩:r);simp only[Reps]at rs;ext(⟨x,r1,rfl,hx,y,r2,rfl,hy,z,r3,rfl,hz,rfl⟩:rs);simp only[ah]at hx;subst hx;show{a,01,ha,y,z,1,hy,hz}
 |pair i j=>rw[Kd.dv,ah]at r;ext(⟨a,vs,rfl,ha,rs⟩:r);simp only[Reps]at rs;ext(⟨x,r1,rfl,hx,y,r2,rfl,hy,z,r3,rfl,hz,rfl⟩:rs);simp only[ah]at hx;subst hx;show{a,01,ha,y,z,1,hy,hz}
def AL(h:H a=Z (.tup [.str "whole"])):ah H Kd.whole.dv (.ref a):=by show{a,01,h,00111}
def AW(h:H a=Z (.tup [.str "place",l]))(r:ah H (cw c ps) l):ah H (Kd.place c ps).dv (.ref a):=by rw[Kd.dv,ah];show{a,01,h,2};show{001,by simp only[ah],001,r,1}
def Fc(h:H a=Z (.tup [.str "row",l,u]))(r:ah H (cw c ps) l)(b:ah H k.dv u):ah H (Kd.row c ps k).dv (.ref a):=by rw[Kd.dv,ah];show{a,01,h,2};show{001,by simp only[ah],001,r,001,b,1}
def CO(h:H a=Z (.tup [.str "pair",l,u]))(r:ah H j.dv l)(b:ah H k.dv u):ah H (Kd.pair j k).dv (.ref a):=by rw[Kd.dv,ah];show{a,01,h,2};show{001,by simp only[ah],001,r,001,b,1}
def tZ{G c:Hp}{kvs:List Pr}{a:List TK}(q:∀r∈a,c r.1=Z (.tup (.str r.2.1::r.2.2))/\G r.1=χ)(g:(a.map (·.2)).Perm ((kvs.map λp=>(p.1,V.int p.2)).map λp=>(p.1,[p.2])))(l:a.Pairwise Gb)(j:∀p∈kvs,1<=p.2):
  (a.map Ed).Perm kvs/\oQ (a.map Ed)/\∀t,c t=χ->ah (upd c t (.tup (a.map λr=>V.ref r.1))) (.tup (aJ (a.map Ed))) (.ref t):=by
 let i:∀r∈a,∃p∈kvs,r.2=(p.1,[V.int p.2]):=λr b=>by let:=g.mem_iff.mp (j8 b);rw[ϗ]at this;ext(⟨p,d,e⟩:ϙ.mp this);show{p,d,e.symm}
 let tk:∀r∈a,r.2.1=(Ed r).1/\r.2.2=[V.int (Ed r).2]:=λr b=>by ext(⟨p,_,e⟩:i r b);unfold Ed;rw[e];show{11}
 let f:(a.map Ed).Perm kvs:=by
  let o:a.map Ed=(a.map (·.2)).map λz=>(z.1,match z.2 with| [.int n]=>n|_=>0):=by rw[ϗ];rfl
  let k:kvs=((kvs.map λp=>(p.1,V.int p.2)).map λp=>(p.1,[p.2])).map λz=>(z.1,match z.2 with| [.int n]=>n|_=>0):=by rw[ϗ,ϗ];show(List.map_id kvs).symm
  rw[o];rw[k];show g.map _
 show{f,{List.pairwise_map.mpr (l.imp λ{x y} h=>h),λp d=>j p (f.mem_iff.mp d)},λt m=>?_};show{t,01,aa,qE λr b=>?_};let:=(q r b).1;rw[(tk r b).1,(tk r b).2]at this;show ac m _ _ _ this
def Cq(a:H p=Z (.tup [.int c,w]))(R:ah H (.tup (aJ ps)) w):ah H (cw c ps) (.ref p):=by ext(⟨b,us,rfl,d,e⟩:ah.tup_inv R);show FJ a d e
def il:∀{ds:List Dv}{d:Dv}{vs:List V},Reps H (ds++[d]) vs->∃a v,vs=a++[v]/\Reps H ds a/\ah H d v
 |[],d,vs,h=>by ext(⟨v,r,rfl,b,rfl⟩:h);show{[],v,1,by simp only[Reps],b}
 |e::ds,d,vs,h=>by ext(⟨v,r,rfl,b,f⟩:h);ext(⟨a,u,rfl,g,c⟩:il f);show{v::a,u,U,by simp only[Reps];show{v,a,1,b,g},c}
def aO(h:ah H d v):Reps H [d] [v]:=by simp only[Reps];show{v,[],1,h,1}
def mE(vs:List V)(v:V):(vs++[v])[(vs++[v]).length-1]?=Z v:=()
def yK(C:Prop)(b:C->Q Y H)(a:Q Α H)(f:(C->Q Y H)->Q Α H->Ic t1 t2 σ H Q):Ic t1 t2 σ H Q:=f b a
def rc:∀{l:List α},l≠[]->∃a x,l=a++[x]:=λ{l} h=>by
 rcases List.eq_nil_or_concat l with e|⟨a,x,e⟩
 .show absurd e h
 .show{a,x,by rw[e];simp}
def dm(h:N (σ.set i (Z x)) H):dZ i x σ H N:=h
def NA{A B:Prop}(h:if Y=Y then A else B):A:=by rwa[Q5 U]at h
def NM{A B:Prop}(h:if Α=Y then A else B):B:=by rwa[Q6 ϋ]at h
def Ac:Option (Int×List Pr)->Dv
 |some p=>cw p.1 p.2
 |none=>.non
def JC:¬ (O "whole"=O "place"):=()
def Ig:¬ (O "whole"=O "row"):=()
def Kx:¬ (O "whole"=O "pair"):=()
def JO:¬ (O "place"=O "row"):=()
def Ih:¬ (O "place"=O "pair"):=()
def IT:¬ (O "row"=O "pair"):=()
def tf(h:¬ x=y):¬ V.str x=V.str y:=λe=>h (V.str.inj e)
end KB
namespace L2
open PySem PySem.Spec PyProof.Rows PySem.W
section
variable{X:Cx}
end
end L2
namespace KB
open PySem L2
def bZ{H:Hp}{α:Type}{f:α->Dv}{xs:List α}{us:List V}{i:Nat}{u:V}(R:Reps H (xs.map f) us)(h:us[i]?=Z u):∃x,xs[i]?=Z x/\ah H (f x) u:=by ext(⟨d,hd,Rd⟩:R.get h);rw[ϐ]at hd;ext(⟨x,hx,rfl⟩:Ϣ.mp hd);show{x,hx,Rd}
def By{H:Hp}{x:Option (Int×List Pr)}{u:V}(R:ah H (Ac x) u):(x=χ/\u=.non)\/∃p ds,x=Z p/\Ac x=.tup ds/\ah H (.tup ds) u:=by
 cases x with
 |none=>show .inl {1,by simpa only[Ac,ah]using R}
 |some p=>show .inr {p,011,R}
def KE{H:Hp}{k:Kd}{v:V}(R:ah H k.dv v):∃a vs,v=.ref a/\H a=Z (.tup (.str k.word::vs)):=by ext(⟨a,vs,e,ha,_⟩:Kd.inv R);show{a,vs,e,ha}
def Jk{t1 t2:TS}{D:cV}{σ:St}{H:Hp}(M:St->Hp->Prop)(h2:∀σ' H',M σ' H'->t2 D σ' H')(f:(∀σ' H',M σ' H'->t2 D σ' H')->iJ t1 t2 D σ H):iJ t1 t2 D σ H:=f h2
end KB
namespace L2
open PySem PySem.Spec PyProof.Rows PySem.W
section
variable{P:Θ}{w:Χ}{A:Ϛ}{E:θ->ρ->Prop}{s:ρ}
def nu{l:J}{items:Array θ}{ys:List Str}{Q:θ->ρ->Prop}(hh:A.handled=χ)(hl:s.heap.IsTuple l items)(hi:∀(i:Nat)(v:θ),items[i]?=Z v->∃t,v=.str (ys.getD i default) t)(hb:items.size+1<C7)
  (h:∀(h':ϖ)(tk:Nat),eY P w h' s.heap.objs.size (uq (λi=>ys.getD i default) items.size)->(∀b o,b<s.heap.objs.size->s.heap.get? b=Z o->h'.get? b=Z o)->Q (.ref s.heap.objs.size) {s with heap:=h',toks:=tk}):
  Ο (ϊ P w) A (call (.type "set") [.ref l]) Q E s:=by
 ext(⟨c,tl,hmro⟩:ϫ.mro);let hmade:=ϫ.made;let hsub:=ϫ.sub;show N7 (O3 ?_);change Ο _ _ (callAny (.type "set") _) _ _ _;show ω {J0 _ (),J6 PySem.F.entry_type_call ?_};rw[Ϛ.under_plain (weight_type_call_type "set" [.ref l] []) U];let h1:=ϫ.notType;let h2:=ϫ.canCreate;let hct:=PySem.F.typeCall_set_1 (.ref l);repeat (any_goals (first|assumption|wp_step))
 show C1 (iE (.ref l) (E:=E) (Q₁:=λobj s₁=>obj=.ref s.heap.objs.size/\s₁={s with heap:=s.heap.push (bG w)}) {11}) λr s₁ hr=>?_;cases r with
 |error e=>show hr
 |ok fl=>
  cases fl with
  |ret obj=>
   ext(⟨rfl,rfl⟩:hr);let hS:(s.heap.push (bG w)).get? s.heap.objs.size=Z (bG w):=Ξ _ U;let hT:ρ.TypeIs {s with heap:=s.heap.push (bG w)} (.ref s.heap.objs.size) "set":={0,hS,1};let hli:=ϫ.init.lookup;let hbi:=ϫ.init.bind (.ref s.heap.objs.size);repeat (any_goals (first|assumption|wp_step))
   show C1 (y7 (R:=wants (λr s₂=>r=.none/\∃h' tk,s₂={s with heap:=h',toks:=tk}/\eY P w h' s.heap.objs.size (uq (λi=>ys.getD i default) items.size)/\(∀b o,b<s.heap.objs.size->s.heap.get? b=Z o->h'.get? b=Z o)) E)
    ϫ.init.plain PySem.F.entry_set_init (check_set_init_1 hT ?_)) λr₂ s₂ hr₂=>?_
   .ext(⟨ol,hol,hcl,nl,hdl⟩:hl);ext(⟨ocls,odict,odata,oslots⟩:ol);simp only at hcl hdl;subst hcl;subst hdl;let hol':(s.heap.push (bG w)).get? l=Z {cls:=.type "tuple",dict:=odict,data:=.seq items nl,slots:=oslots}:=π _ hol;let hsls:=PySem.F.sub_tuple_set;let hslf:=PySem.F.sub_tuple_frozenset;let hne:(K1 "tuple" == K1 "dict")=Α:=();let hl1:(s.heap.push (bG w)).IsTuple l items:={0,hol',1,nl,1};unfold bG at hS hT hol' hl1⊢;unfold s_.«set.__init__» noKeywords O4;generalize hPI:pyIter=PI;wp_walk;subst hPI;show I_ hl1 ?_;show η (wpAny_runValue ?_);let hlS:l<s.heap.objs.size:=Η hol;let hh3:A.in1.in1.in1.handled=χ:=by simp[hh]
    let hneI:l≠(s.heap.push (bG w)).objs.size:=by rw[Ϲ];show Ϙ (E9 hlS)
    let hSf:s.heap.objs.size∉[(s.heap.push (bG w)).objs.size,l]:=by rw[Ϲ];simp only[ν,ξ,ϵ,or_false,not_or];show{Ϙ (G4 _),u9 hlS}
    show uv ((Walks.tuple hh3 _ l hneI items).toS) s.heap.objs.size hSf (λi=>ys.getD i default) hi hb (items.size-0) 0 _ () (Τ _)
     {{0,Ξ _ U,11},(hl1.push _)} ?hS0 ?hR
    case hS0=>show(mX s.heap).at' λo e=>π _ e
    case hR=>
     intro s' hm hS';ext(⟨h',g',d',tk',os'⟩:s');let eg:g'=s.gens:=hm.gens;let ed:d'=s.drawn:=hm.drawn;let eo:os'=s.os:=hm.os;subst eg;subst ed;subst eo;change Ο _ _ _ _ _ _;show ω ?_;change Ο _ _ (ret w_) _ _ _;show ω {1,h',tk',1,hS',λb o hb e=>?_};let hb1:b≠s.heap.objs.size:=Ϙ hb;let hb2:b≠(s.heap.push (bG w)).objs.size:=by rw[Ϲ];show Ϙ (E9 hb)
     show hm.heap b o (by simp only[ν,ξ,ϵ,or_false,not_or];show{hb1,hb2}) (π _ (π _ e))
   .cases r₂ with
    |error e=>show hr₂
    |ok fl₂=>
     cases fl₂ with
     |ret r=>
      ext(⟨rfl,h',tk,rfl,hS',hk'⟩:hr₂);repeat (any_goals (first|assumption|wp_step))
      show h _ _ hS' hk'
     |_=>show hr₂.elim
  |_=>show hr.elim
end
section
variable{X:Cx}
def Au(hc:X.calm=Y):cS X (.type "set") (λxs H Q=>∃(l:J) (ys:List Str),xs=[.ref l]/\(aw X.K H l (ys.map V.str)\/aq X.K H l (ys.map V.str))/\ys.length<=1000 /\
  ∀(a:J)(zs:List Str),H a=χ->zs.Nodup->(∀x,x∈zs↔x∈ys)->zs.length<=ys.length->Q (.ref a) (upd H a (sZ X.prog X.w a zs))):=by
 intro pins s σ H xs us Q I r h;ext(⟨l,ys,rfl,hq|hq,hy,q⟩:h)
 .show AQ hc pins s σ H _ us Q I r {l,ys,1,hq,hy,q}
 ext(⟨u,rfl,ru⟩:dg r);cases ru;ext(⟨its,rv,p,hz⟩:I.tuple hq);let li:its.length=ys.length:=by let:=rv.length;rw[ε]at this;show this.symm
 let hb:its.toArray.size+1<C7:=by rw[Κ,li];unfold C7;omega
 show nu (ys:=ys) (I.ok.hd hc) p (λi v hv=>?_) hb λh' tk hS k=>?_
 .let hv':its[i]?=Z v:=↑hv
  let hi:i<ys.length:=by rw[<-li];show(Ζ.mp hv').1
  ext(⟨t,e⟩:zE rv i hi);show{t,2};rw[<-e];simp[G7,hv']
 .let sz:its.toArray.size=ys.length:=by rw[Κ,li]
  rw[sz]at hS;show{.ref s.heap.objs.size,0,I.laid (a:=s.heap.objs.size) (o:=sZ X.prog X.w s.heap.objs.size (uq (λi=>ys.getD i default) ys.length)) (t':=tk) (λb u e=>k b u (Η e) e) (Β _) ?_,1,q _ _ I.fresh (jr _ _) (λx=>?_) (rh _ _)}
  .show{hS,2,λh1 h2 x kk=>eY.at' x kk};ext(⟨o,_,_,_,ho,_⟩:hS);show{o,ho}
  .rw[wK];constructor
   .ext⟨j,hj,rfl⟩;let e:ys.getD j default=ys[j]:=by simp[G7,hj]
    rw[e];show k_ hj
   .intro hx;ext(⟨j,hj,rfl⟩:F9 hx);show{j,hj,by simp[G7,hj]}
def Ar:cS X (.builtin "len") (λxs H Q=>∃(a:J) (zs:List Str),xs=[.ref a]/\H a=Z (sZ X.prog X.w a zs)/\Q (.int (zs.length:Nat)) H):=by
 intro pins s σ H xs us Q I r h;ext(⟨a,zs,rfl,ha,q⟩:h);ext(⟨u,rfl,ru⟩:dg r);cases ru;obtain⟨hS,_,_⟩:=(show bK X.prog X.w H s.heap a (sZ X.prog X.w a zs)from I.hok a _ ha);ext(⟨o,es,ep,t,ho,hex,hd,_,hb,hf,_,_,hp⟩:hS);let e:es.size=zs.length:=by let:=hp.length_eq;rw[ε,ύ]at this;show this
 show call_len_set ho hex hd hf (by unfold C7 at hb;omega) {.int (zs.length:Nat),H,I.tok _,{0,by rw[e]},q}
def BC{x y:V}{u:θ}(h:aI x u)(g:aI y u):x=y:=by cases x<;>cases y<;>simp only[aI]at h g<;>first|(ext(⟨_,rfl⟩:h);ext(⟨_,g⟩:g);cases g;rfl)|(ext(⟨_,rfl⟩:h);ext(⟨_,g⟩:g);cases g;done)|(ext(⟨_,rfl⟩:h);cases g;done)|(subst h;ext(⟨_,g⟩:g);cases g;done)|(subst h;cases g;rfl)|(subst h;cases g;done)|rfl
def uN{H:Hp}:∀{ds:List Dv}{vs:List V}{us:List θ},Reps H ds vs->aE vs us->∀u∈us,∃d v,d∈ds/\ah H d v/\aI v u
 |_,_,_,R,.nil,u,hu=>nomatch hu
 |[],_,_,R,.cons _ _,_,_=>by simp[Reps]at R
 |d::ds,_,_,R,.cons r t,u,hu=>by
  simp only[Reps]at R;ext(⟨v,vs,e,R1,R2⟩:R);cases e;rcases ν.mp hu with rfl|hu
  .show{d,0,Γ,R1,r}
  .ext(⟨d',v',h1,h2,h3⟩:uN R2 t u hu);show{d',v',ς _ h1,h2,h3}
def uO{H:Hp}:∀{ds:List Dv}{vs:List V}{us:List θ},Reps H ds vs->aE vs us->∀d∈ds,∃u v,u∈us/\ah H d v/\aI v u
 |[],_,_,_,_,d,hd=>nomatch hd
 |_::_,_,_,R,.nil,_,_=>by simp[Reps]at R
 |d::ds,_,_,R,.cons r t,e,he=>by
  simp only[Reps]at R;ext(⟨v,vs,e1,R1,R2⟩:R);cases e1;rcases ν.mp he with rfl|he
  .show{00,Γ,R1,r}
  .ext(⟨u',v',h1,h2,h3⟩:uO R2 t e he);show{u',v',ς _ h1,h2,h3}
inductive Nk (K:ζ) (x:V) (y:V) (H:Hp) (Q:VK):Prop|mk (p:J) (xs:List V) (n:Nat) (d:Dv) (ds:List Dv) (_:y=.ref p) (_:aw K H p xs) (_:Reps H ds xs) (_:(∀e∈ds,Pl n e)) (_:Pl n d) (_:n<=140) (_:ah H d x) (_:∀b:Bool,(b=Y↔d∈ds)->Q (.bl b) H)
def IR(hu:X.A.units+150<B8):fQ X (ϻ .In) (Nk X.K):=by
 intro pins s σ H x y v u Q I rx ry h;ext(⟨p,xs,n,d,ds,rfl,hq,R,hp,hd,hn,Rx,q⟩:h);cases ry;ext(⟨its,r,pl,hz⟩:I.list hq);let f:∀w∈its,∃e∈ds,Ϯ X.A.in1 s w v (gB (∃z,aI z w/\ah H d z))/\(gB (∃z,aI z w/\ah H d z)=Y↔e=d):=λw hw=>by ext(⟨e,y,he,Re,ry⟩:uN R r w hw);let E:=Fl I (hp e he) hd (A:=X.A.in1) (by change X.A.units+1+n<B8;omega) Re Rx ry rx;let iff:(∃z,aI z w/\ah H d z)↔e=d:={λ⟨z,h1,h2⟩=>ah.inj _ _ _ Re (BC h1 ry▸h2),λz=>{y,ry,z▸Re}};let e2:gB (∃z,aI z w/\ah H d z)=gB (e=d):=fj (by rw[eL];show iff);show{e,he,e2▸E,by rw[eL];show iff}
 show SeqAt.in_listAt (λw=>gB (∃z,aI z w/\ah H d z)) pl.isList (λw hw=>(f w (↑hw)).choose_spec.2.1) {.bl _,H,I,1,q _ ?_};rw[show its.toArray.any (λw=>gB (∃z,aI z w/\ah H d z))=its.any (λw=>gB (∃z,aI z w/\ah H d z)) by simp,n_];constructor
 .ext⟨w,hw,e⟩;ext(⟨e',he,_,i⟩:f w hw);rw[<-i.mp e];show he
 .intro hm;ext(⟨w,y,hw,Ry,ry⟩:uO R r d hm);show{w,hw,eL.mpr {y,ry,Ry}}
inductive KI (neg:Bool) (y:V) (x:V) (H:Hp) (Q:VK):Prop|mk a o (_:x=.ref a) (_:wb H a y o) (_:Q (.bl (if neg then !o.isSome else o.isSome)) H)
def IO(hu:X.A.units+1<B8):fQ X (ϻ .In) (KI Α):=by intro pins s σ H y x iv u Q I ry rx h;ext(⟨a,ov,rfl,g,q⟩:h);obtain rfl:u=Ψ a:=rx;show Nt hu I g ry λs3 I3=>{.bl ov.isSome,H,I3,1,q}
def AZ(hu:X.A.units+1<B8):fQ X (ϻ .NotIn) (KI Y):=by intro pins s σ H y x iv u Q I ry rx h;ext(⟨a,ov,rfl,g,q⟩:h);obtain rfl:u=Ψ a:=rx;show Gh hu I g ry λs3 I3=>{.bl (!ov.isSome),H,I3,1,q}
def Ai:cS X (.builtin "len") (λvs H Q=>∃d m,vs=[V.ref d]/\H d=Z (.dK m)/\Q (.int m.length) H):=λpins s σ H vs us Q I r h=>by ext(⟨d,m,rfl,hd,q⟩:h);ext(⟨u,rfl,ru⟩:dg r);cases ru;show Lz I (.inl hd) λt _ a=>{.int m.length,H,a,{t,1},q}
end
section
variable{prog:Θ}{w:Χ}{A:Ϛ}{E:θ->ρ->Prop}{s:ρ}{r l:J}{items:Array θ}
end
section
variable{X:Cx}{e:ϲ}{te:TE}{p p1 pos pos1:Pos}
end
section
variable{X:Cx}
inductive Iz  (Q:VK) (x:V) (H1:Hp):Prop|mk (i:Int) (_:x=.int i) (_:i.natAbs.log2<1920) (_:Q (.str (toString i)) H1)
def Np(a:TE):TE:=λσ H Q=>a σ H (Iz Q)
def IF(g:PE X e te):PE X (.FormattedValue e (-1) χ pos) (Np te):=λa s σ H Q I h=>
 PH (bn (g a s σ H _ I h) λv l ⟨x,f,c,d,i,j,b,q⟩=>by subst j;ext(⟨k,rfl⟩:d);show wpAny_formatField_int b {.str (toString i),f,c.tok _,{01},q})
def xt:Et X "str.startswith" (λx xs H Q=>∃(a b:Str) (i:Int),x=.str a/\xs=[.str b,.int i]/\Q (.bl (Txt.startswith3 a b i)) H):=by
 ext g s σ H x xs v us Q I f r ⟨a,b,i,rfl,rfl,q⟩;ext(⟨t,rfl⟩:f);cases r with
 |cons e c=>
  cases c with
  |cons d c=>cases c;ext(⟨j,rfl⟩:e);ext(⟨h,rfl⟩:d);show SC.startswith3 {.bl _,H,I,1,q}
def pG:cS X (.type "int") (λxs H Q=>∃(a:Str) (n:Int),xs=[.str a]/\PySem.intText? a=Z n/\a.length<=640/\Q (.int n) H):=by ext d s σ H xs us Q I r ⟨a,n,rfl,b,c,q⟩;ext(⟨u,rfl,t,rfl⟩:dg r);show KIN.call_text b c {.int n,H,I.tok _,{01},q}
def mG:∀l:List (Str×Tok),aE ((l.map (·.1)).map V.str) (strValues l)
 |[]=>.nil
 |(x,t)::l=>.cons {t,1} (mG l)
def eU:Et X "str.split" (λx xs H Q=>∃a b:Str,x=.str a/\xs=[.str b]/\(b.length==0)=Α/\a.length<=Μ/\(Txt.split a b).length<=Μ/\∀p,H p=χ->Q (.ref p) (upd H p (.lst ((Txt.split a b).map V.str)))):=by
 ext j s σ H x xs v us Q I m r ⟨a,b,rfl,rfl,h,k,hz,q⟩;ext(⟨t,rfl⟩:m);ext(⟨u,rfl,g,rfl⟩:dg r);let f:∀(l:List (Str×Tok))(tk:Nat),l.map (·.1)=Txt.split a b->EP X j σ Q (.ref s.heap.objs.size) {s with heap:=s.heap.push {cls:=.type "list",data:=.seq (strValues l).toArray},toks:=tk}:=λl tk e=>by show{.ref _,0,I.laid (t':=tk) (λb o q=>π _ q) (Β _) ?_,1,q _ (I.hok.fresh (Β _))};show{by rw[ε];show hz,strValues l,(0),2,Ξ _ U};rw[<-e];show mG l
 cases c:(decide (a.length<b.length)||decide (s_.Str.strKind a<s_.Str.strKind b))
 .cases d:(G_ a b 0 a.length (a.length+1)).isEmpty
  .let i:Txt.split a b=s_.Str.partsBetween a (G_ a b 0 a.length (a.length+1)) b.length:=(Q6 (ne_true_of_eq_false c)).trans (Q6 (ne_true_of_eq_false d));show K6 Qk (N8 _ _ _) P8 (PJ _ _) (meets_str_split_sep a b t g c h d k (by rw[<-i];show hz)) ?_;rw[strsFrom_eq];show f (numbered s.toks _) _ ((numbered_texts _ _).trans i.symm)
  .show K6 Qk (N8 _ _ _) P8 (PJ _ _) (meets_str_split_not_found a b t g c h d) (f [(a,t)] s.toks ((Q6 (ne_true_of_eq_false c)).trans (Q5 d)).symm)
 .show K6 Qk (N8 _ _ _) P8 (PJ _ _) (meets_str_split_cannot_occur a b t g c) (f [(a,t)] s.toks (Q5 c).symm)
def Be(K:ζ)(h:X.K=K):cS X (.type "tuple") (λxs H Q=>∃p ys,xs=[.ref p]/\((aw K H p ys/\∀l,H l=χ->Q (.ref l) (upd H l (.tup ys)))\/(aq K H p ys/\Q (.ref p) H))):=by subst h;show aH
def ID{o e:ϲ}{a:List ϲ}{d:TE}{t:TA}{name:Str}{c b:Pos}{T id:String}{r:V->List V->Hp->VK->Prop}(K:ζ)(h:X.K=K)(m:PlainAttrs T)(j:Slot T name id)(l:typeOf (.builtin id)=pure (.type "method_descriptor"))(s:Et X id r)(q:PE X o d)(n:PA X (e::a) t)
  (i:autoParam (M6 o name X.env (eval o X.env)=eval o X.env) yR._auto_1)
  (k:autoParam (((A5 b (Ϗ (e::a) X.env)).all (λx=>!x.1)&&(backToKw b (P3 [] X.env)).all (λx=>x.1.isSome)
   && decide ((e::a).length+([]:List Keyword).length+(if ([]:List Keyword).isEmpty then 0 else 1)<30))=Y) yR._auto_1)
  (g:autoParam ((c.endLine==b.line)=Y) yR._auto_1) (p:autoParam (Ϗ (e::a) X.env=(Α,eval e X.env)::Ϗ a X.env) yR._auto_1) (f:autoParam ((A5 b (Ϗ a X.env)).any (·.1)=Α) yR._auto_1):
  PE X (.Call (.Attribute o name c) (e::a) [] b) (NH K T r d t):=by
 subst h;show pe_bm m j l s q n i k g p f
def lP(x y:Str)(t u:Tok):Meets (s_.«str.count» {[.str x t,.str y u],[]}) (λ_ R s=>(Made.int (Txt.count x y)).post (λv a=>R (.ok (.ret v)) a) s):=
 λprog w A R s h=>gives_str_count x y t u prog w A R s h
def kg:Et X "str.count" (λx xs H Q=>∃a b:Str,x=.str a/\xs=[.str b]/\Q (.int (Txt.count a b)) H):=by ext e s σ H x xs v us Q I d r ⟨a,b,rfl,rfl,q⟩;ext(⟨t,rfl⟩:d);ext(⟨u,rfl,c,rfl⟩:dg r);show K6 F.slot_str_count (N8 _ _ _) F.entry_str_count (F.args_str_count_2 _ _) (lP a b t c) ?_;rw[Made.post];show{.int _,H,I.tok _,{01},q}
def fY:Et X "str.partition" (λx xs H Q=>∃a b:Str,x=.str a/\xs=[.str b]/\(b.length==0)=Α/\a.length<=Μ/\∀p,H p=χ->Q (.ref p) (upd H p (.tup [.str (Txt.partition a b).1,.str (Txt.partition a b).2.1,.str (Txt.partition a b).2.2]))):=by
 intro g s σ H x xs v us Q I m r h;ext(⟨a,b,rfl,rfl,j,k,q⟩:h);ext(⟨t,rfl⟩:m);ext(⟨u,rfl,c,rfl⟩:dg r);let d:∀(c e f:Tok)(tk:Nat),EP X g σ Q (.ref s.heap.objs.size) {s with heap:=s.heap.push {cls:=.type "tuple",data:=.seq #[.str (Txt.partition a b).1 c,.str (Txt.partition a b).2.1 e,.str (Txt.partition a b).2.2 f]},toks:=tk}:=λc e f tk=>by show{.ref _,0,I.laid (t':=tk) (λb n q=>π _ q) (Β _) ?_,1,q _ (I.hok.fresh (Β _))};show{by rw[ι];change 3<=16777216;decide,0,.cons {c,1} (.cons {e,1} (.cons {f,1} .nil)),QH _ _,Gs.new _ U}
 show K6 F.slot_str_partition (N8 _ _ _) F.entry_str_partition (F.args_str_partition_2 _ _) (meets_str_partition a b t c j k) ?_;unfold Txt.partition at d;cases h:G_ a b 0 a.length 1 with
 |nil=>rw[h]at d;show d t s.toks s.toks _
 |cons i l=>rw[h]at d;show d _ c _ _
def pJ:Et X "str.startswith" (λx xs H Q=>∃a b:Str,x=.str a/\xs=[.str b]/\Q (.bl (Txt.startswith a b)) H):=by ext d s σ H x xs v us Q I c r ⟨a,b,rfl,rfl,q⟩;ext(⟨t,rfl⟩:c);ext(⟨u,rfl,e,rfl⟩:dg r);show SC.startswith {.bl _,H,I,1,q}
end
end L2
namespace XB
open PySem L2 KB
inductive So|n|x|l|k|w|f|y|e|a|r
deriving DecidableEq
def fH:So->Str
 |.n=>"number"
 |.x=>"name"
 |.l=>"length"
 |.k=>"kind"
 |.w=>"reckon"
 |.f=>"def"
 |.y=>"name"
 |.e=>"part"
 |.a=>"args"
 |.r=>"things"
abbrev Wd:=Str×Str×List So
def WT:List Wd:=[("number","n",[.n]),("name","x",[.x]),("length","l",[.l]),("none","k",[.k]),("place","ll",[.l,.l]),("reckon","wee",[.w,.e,.e]),
 ("if","eee",[.e,.e,.e]),("let","xee",[.x,.e,.e]),("call","fa",[.f,.a]),("pair","ee",[.e,.e]),("first","e",[.e]),("second","e",[.e]),
 ("row","r",[.r]),("join","ee",[.e,.e]),("take","le",[.l,.e]),("drop","le",[.l,.e]),("zip","ee",[.e,.e]),("turn","e",[.e]),
 ("get","ee",[.e,.e]),("value","e",[.e]),("up","le",[.l,.e]),("wide","le",[.l,.e]),("mirror","e",[.e]),("fork","lexee",[.l,.e,.x,.e,.e]),
 ("when","elxee",[.e,.l,.x,.e,.e]),("loop","xle",[.x,.l,.e]),("fold","xlyee",[.x,.l,.y,.e,.e])]
def ST:List Wd:=[("number","n",[.n]),("name","x",[.x]),("length","l",[.l]),("reckon","wee",[.w,.e,.e]),("if","eee",[.e,.e,.e]),("let","xee",[.x,.e,.e]),
 ("call","fa",[.f,.a]),("pair","ee",[.e,.e]),("first","e",[.e]),("second","e",[.e]),("row","r",[.r]),("none","k",[.k]),
 ("join","ee",[.e,.e]),("take","le",[.l,.e]),("drop","le",[.l,.e]),("zip","ee",[.e,.e]),("turn","e",[.e]),("get","ee",[.e,.e]),
 ("place","ll",[.l,.l]),("value","e",[.e]),("up","le",[.l,.e]),("wide","le",[.l,.e]),("mirror","e",[.e]),("fork","lexee",[.l,.e,.x,.e,.e]),
 ("when","elxee",[.e,.l,.x,.e,.e]),("loop","xle",[.x,.l,.e]),("fold","xlyee",[.x,.l,.y,.e,.e])]
instance:DecidableEq Wd:=inferInstance
def Hj:∀p∈WT,p∈ST:=()
def Hz:(ST.map (·.1)).Nodup:=()
def GZ:(WT.map (·.1)).Nodup:=()
def JM:∀p∈ST,p.2.2.length<=5:=()
def gk:∀p∈WT,p.2.2.length<=5:=()
def ky(ss:List So):Nat:=(ss.map λ| .e=>1|.a=>4|.r=>4|_=>0).sum
def EB:∀p∈WT,ky p.2.2<=4:=()
def yX:∀s:So,V.str (fH s)=V.str "part"↔s=.e:=by intro s;cases s<;>simp only[V.str.injEq,fH]<;>decide +kernel
def uJ:∀s:So,V.str (fH s)=V.str "args"↔s=.a:=by intro s;cases s<;>simp only[V.str.injEq,fH]<;>decide +kernel
def tN:∀s:So,V.str (fH s)=V.str "things"↔s=.r:=by intro s;cases s<;>simp only[V.str.injEq,fH]<;>decide +kernel
def Hd:∀s:So,V.str (fH s)=V.str "number"↔s=.n:=by intro s;cases s<;>simp only[V.str.injEq,fH]<;>decide +kernel
def qk:∀s:So,V.str (fH s)=V.str "length"↔s=.l:=by intro s;cases s<;>simp only[V.str.injEq,fH]<;>decide +kernel
def qB:∀s:So,V.str (fH s)=V.str "kind"↔s=.k:=by intro s;cases s<;>simp only[V.str.injEq,fH]<;>decide +kernel
def Hy:∀s:So,V.str (fH s)=V.str "reckon"↔s=.w:=by intro s;cases s<;>simp only[V.str.injEq,fH]<;>decide +kernel
def HR:∀s:So,V.str (fH s)=V.str "def"↔s=.f:=by intro s;cases s<;>simp only[V.str.injEq,fH]<;>decide +kernel
def tD:∀s:So,V.str (fH s)=V.str "name"↔(s=.x\/s=.y):=by intro s;cases s<;>simp only[V.str.injEq,fH]<;>decide +kernel
def zh{α:Type}{l:List α}{f:α->Str}(b:(l.map f).Nodup){p:α}(a:p∈l):l.find? (λq=>decide (f q=f p))=Z p:=by
 induction l with
 |nil=>cases a
 |cons q l c=>
  rw[Υ,u_]at b;rw[q9];rcases ν.mp a with rfl|a
  .simp
  .rw[show decide (f q=f p)=Α from Q8 λe=>b.1 (by rw[e];show j8 a)];show c b.2 a
structure Shp(P:Θ)(w:Χ)(K:ζ)(g:J):Prop where
 ex:∃kvs,FD P w K g kvs/\(∀p∈WT,∃b,look kvs p.1=Z b/\∀H,aq K H b (p.2.2.map λs=>V.str (fH s)))/\∀x,(look kvs x).isSome=WT.any λp=>decide (p.1=x)
def IU:QF->Str×J
 |⟨_,.str x _,.ref b⟩=>(x,b)
 |_=>("",0)
inductive Ents (w:Χ):List QF->Prop
 |nil:Ents w []
 |cons {x:Str} {t:Tok} {b:J} {es:List QF}:Ents w es->Ents w (⟨PyData.keyHash w.params x,.str x t,.ref b⟩::es)
inductive AreS:List θ->List Str->Prop
 |nil:AreS [] []
 |cons {x:Str} {t:Tok} {us:List θ} {xs:List Str}:AreS us xs->AreS (.str x t::us) (x::xs)
def AreS.vals(h:AreS us xs):aE (xs.map V.str) us:=by
 induction h with
 |nil=>show .nil
 | @cons x t us xs _ a=>show .cons {t,1} a
inductive TupsK (K:ζ):List (Str×J)->List Wd->Prop
 |nil:TupsK K [] []
 |cons {x z:Str} {b:J} {kvs:List (Str×J)} {ss:List So} {ps:List Wd} {od:Option J} {its:List θ} {n:Nat} {sl:Array (Option θ)} :
  K.lookup b=Z ⟨.type "tuple",od,.seq its.toArray n,sl⟩->AreS its (ss.map fH)->TupsK K kvs ps->TupsK K ((x,b)::kvs) ((x,z,ss)::ps)
def TupsK.keys(h:TupsK K kvs ps):kvs.map (·.1)=ps.map (·.1):=by
 induction h with
 |nil=>rfl
 |cons _ _ _ a=>rw[Υ,Υ,a]
def TupsK.look(h:TupsK K kvs ps)(g:∀p∈ps,p.2.2.length<=5):(ps.map (·.1)).Nodup->∀p∈ps,∃b,L2.look kvs p.1=Z b/\∀H,aq K H b (p.2.2.map λs=>V.str (fH s)):=by
 induction h with
 |nil=>intro _ p a;cases a
 | @cons x z b kvs ss ps o its n m j f _ i=>
  intro c p a;rw[Υ,u_]at c;unfold L2.look;rw[q9];rcases ν.mp a with rfl|d
  .rw[Q9 U];show{b,1,λH=>.inr {000,j,1122}}
   .let l:ss.length<=5:=g _ Γ;let:=f.vals.length;rw[ε,ε]at this;rw[Κ,ι];omega
   .let:=f.vals;rw[ϗ]at this;show this
  .rw[Q8 (λe:x=p.1=>c.1 (by rw[show(x,z,ss).1=p.1 from e];show j8 d))];show i (λq k=>g q (ς _ k)) c.2 p d
def Ents.pairs(h:Ents w a):Pairs (bg P w) a ((a.map IU).map λp=>((ϱ p.1:cR),Ψ p.2)):=by
 induction h with
 |nil=>show .nil
 | @cons x t b a _ c=>show .cons (gK P w x t) U c
def Ents.keys(h:Ents w c):∀e∈c,∃k,(bg P w).is k e.key=Y/\e.hash=(bg P w).hash k:=by
 induction h with
 |nil=>intro e a;cases a
 | @cons x t b c _ d=>
  intro e a;rcases ν.mp a with rfl|a
  .show{ϱ x,gK P w x t,1}
  .show d e a
def Ab(kvs:List (Str×J))(x:Str):(L2.look kvs x).isSome=(kvs.map (·.1)).any λy=>decide (y=x):=by
 unfold L2.look;rw[E8];induction kvs with
 |nil=>rfl
 |cons p kvs a=>
  rw[q9,Υ,M7];by_cases h:p.1=x
  .rw[Q9 h];rfl
  .rw[Q8 h,Qc];show a
def Lm:∀p∈ST,p∈WT:=()
def IW(x:Str):(ST.map (·.1)).any (λy=>decide (y=x))=WT.any λp=>decide (p.1=x):=by
 rw[B5,n_,n_];constructor
 .ext⟨y,hy,h⟩;ext(⟨p,hp,rfl⟩:ϙ.mp hy);show{p,Lm p hp,h}
 .ext⟨p,hp,h⟩;show{p.1,j8 (Hj p hp),h}
def shp_mk(hl:K.lookup g=Z {.type "dict",χ,.dict es.toArray ep,#[]})(lo:(g==C8)=Α)(he:Ents w es)(ht:TupsK K (es.map IU) ST):Shp P w K g:=by show{es.map IU,{by rw[ht.keys];show Hz,lo,000,hl,{111},1,λe hm=>he.keys e (↑hm),↑he.pairs},λp hp=>ht.look JM Hz p (Hj p hp),λx=>by rw[Ab,ht.keys,IW]}
inductive F2 (R:So->Dv->Prop):List So->List Dv->Prop
 |nil:F2 R [] []
 |cons {s:So} {d:Dv} {ss:List So} {ds:List Dv}:R s d->F2 R ss ds->F2 R (s::ss) (d::ds)
def F2.length(h:F2 R ss ds):ds.length=ss.length:=by
 induction h with
 |nil=>rfl
 |cons _ _ a=>rw[Λ,Λ,a]
def F2.get{R:So->Dv->Prop}{ss:List So}{ds:List Dv}(h:F2 R ss ds){i:Nat}{s:So}(a:ss[i]?=Z s):∃d,ds[i]?=Z d/\R s d:=by
 induction h generalizing i with
 |nil=>cases a
 |cons h _ b=>
  cases i with
  |zero=>cases a;show{01,h}
  |succ i=>show b a
def MH(E:Dv->Prop)(L:So->Dv->Prop):So->Dv->Prop
 |.e,d=>E d
 |.a,d=>∃a,d=.tup a/\a.length<=4/\∀e∈a,E e
 |.r,d=>∃a,d=.tup a/\1<=a.length/\a.length<=4/\∀e∈a,E e
 |s,d=>L s d
def DY:Dv->List Dv
 |.tup ds=>ds
 |_=>[]
def nJ:So->Dv->List Dv
 |.e,d=>[d]
 |.a,d=>DY d
 |.r,d=>DY d
 |_,_=>[]
def bA:List So->List Dv->List Dv
 |s::ss,d::ds=>nJ s d++bA ss ds
 |_,_=>[]
def Gu(w:Str):List So:=match WT.find? (λq=>decide (q.1=w))with
 |some p=>p.2.2
 |none=>[]
def EN{p:Wd}(a:p∈WT):Gu p.1=p.2.2:=by unfold Gu;rw[zh GZ a]
def dX:Dv->List Dv
 |.tup (.str w::ds)=>bA (Gu w) ds
 |_=>[]
def parts_of(a:p∈WT)(ds:List Dv):dX (.tup (.str p.1::ds))=bA p.2.2 ds:=by change bA (Gu p.1) ds=_;rw[EN a]
def Fq(h:F2 (MH E L) ss ds):(∀e∈bA ss ds,E e)/\(bA ss ds).length<=ky ss:=by
 induction h with
 |nil=>show{λe b=>by simp[bA]at b,by simp[bA]}
 | @cons s d ss ds h _ i=>
  ext(⟨k,m⟩:i);let j:ky (s::ss)=ky [s]+ky ss:=by simp[ky]
  rw[j];let g:(∀e∈nJ s d,E e)/\(nJ s d).length<=ky [s]:=by
   cases s with
   |e=>show{λe b=>by rw[ξ.mp b];show h,Β _}
   |a=>ext(⟨l,rfl,f,c⟩:h);show{c,f}
   |r=>ext(⟨l,rfl,n,f,c⟩:h);show{c,f}
   |_=>show{λe b=>by simp[nJ]at b,by simp[nJ,ky]}
  change(∀e∈nJ s d++bA ss ds,E e)/\(nJ s d++bA ss ds).length<=_;show{λe b=>?_,by rw[Ι];omega};rcases ϧ.mp b with b|b
  .show g.1 e b
  .show k e b
def pK(ss:List So)(ds:List Dv)(i:Nat)(b:ss[i]?=Z s)(a:ds[i]?=Z d):bA (ss.take (i+1)) (ds.take (i+1))=bA (ss.take i) (ds.take i)++nJ s d:=by
 induction i generalizing ss ds with
 |zero=>
  cases ss with
  |nil=>cases b
  |cons c ss=>
   cases ds with
   |nil=>cases a
   |cons d' ds=>cases b;cases a;simp[bA]
 |succ i e=>
  cases ss with
  |nil=>cases b
  |cons c ss=>
   cases ds with
   |nil=>cases a
   |cons d' ds=>simp only[M5,bA];rw[e ss ds b a,OI]
def cU(xs:List V)(n:Nat):db xs (Z (n:Int)) χ=xs.drop n:=by
 unfold db;let b:HT.sIx xs.length 0 (Z (n:Int))=min n xs.length:=HT.sIx_nat _ _ _;let a:HT.sIx xs.length xs.length χ=xs.length:=U;rw[b,a];rcases Nat.le_total n xs.length with h|h
 .rw[O8 h,C4 (by rw[k7];show Β _)]
 .rw[Nat.min_eq_right h,Nat.sub_self,List.take_zero,List.drop_of_length_le h]
def IQ(q:Q Y H)(f:Q Y H->MC t1 t2 σ H Q):MC t1 t2 σ H Q:=f q
def io(a:H g=Z (.tup us))(k:∀H' p,ae H H'->H' p=Z (.tup (db us lo hi))->Q (.ref p) H'):LE K (.ref g) lo hi H Q:=
 {g,us,1,aq.of a,λe=>k H g (ae.refl _) (by rw[e];show a),λp b=>k _ p (ac b _) aa}
def Im(d:Dv):Prop:=∃(p:Wd) (ds:List Dv),p∈WT/\d=.tup (.str p.1::ds)/\F2 (MH (λ_=>True) (λ_ _=>True)) p.2.2 ds
def Al{H:Hp}{ds:List Dv}{vs:List V}(h:Reps H ds vs){i:Nat}{d:Dv}(a:ds[i]?=Z d):∃v,vs[i]?=Z v/\ah H d v:=by
 let b:i<vs.length:=by rw[h.length];show(Ζ.mp a).1
 ext(⟨e,c,r⟩:h.get (Δ b));rw[a]at c;cases c;show{0,Δ b,r}
def cb(h:Reps H (d::ds) vs):∃v a,vs=v::a/\ah H d v/\Reps H ds a:=by simpa only[Reps]using h
def yb(M:St->Hp->Prop)(a:∀σ' H',M σ' H'->t2 D σ' H')(f:∀N:St->Hp->Prop,(∀σ' H',M σ' H'->N σ' H')->t1 {D with nx:=N} σ H):iJ t1 t2 D σ H:=f (t2 D) a
def aG(f:∀N:St->Hp->Prop,(∀σ' H',t2 D σ' H'->N σ' H')->t1 {D with nx:=N} σ H):iJ t1 t2 D σ H:=f (t2 D) λ_ _ h=>h
def zW{f:Nat->V}{n:Nat}{g:TG}{tb:TS}{D:cV}{σ:St}{H:Hp}(a:Nat->St->Hp->Prop)(k:a 0 σ H)
  (l:∀i σ H (b:cV),(∀σ' H',a (i+1) σ' H'->b.nx σ' H')->i<n->a i σ H->g (f i) σ H λc j=>tb b c j) (d:∀σ H,a n σ H->D.nx σ H):=Fz (f:=f) (n:=n) (g:=g) (tb:=tb) (D:=D) (σ:=σ) (H:=H) a k (λi σ H e p=>l i σ H _ (λ_ _ h=>h) e p) d
def fk{lo:Int}{n:Nat}{g:TG}{tb:TS}{D:cV}{σ:St}{H:Hp}(a:Nat->St->Hp->Prop)(j:a 0 σ H)
  (k:∀i σ H (b:cV),(∀σ' H',a (i+1) σ' H'->b.nx σ' H')->i<n->a i σ H->g (.int (lo+i)) σ H λc f=>tb b c f) (d:∀σ H,a n σ H->D.nx σ H):=pO (lo:=lo) (n:=n) (g:=g) (tb:=tb) (D:=D) (σ:=σ) (H:=H) a j (λi σ H e p=>k i σ H _ (λ_ _ h=>h) e p) d
def kR{K:ζ}{a b:J}{xs ys:List V}{g:TG}{tb:TS}{D:cV}{σ:St}{H:Hp}(d:Nat->St->Hp->Prop)(m:d 0 σ H)(r:∀i σ H,d i σ H->aq K H a xs/\aq K H b ys)
  (n:∀i x y σ H p (e:cV),(∀v H,D.rt v H->e.rt v H)->(∀σ' H',d (i+1) σ' H'->e.nx σ' H')->xs[i]?=Z x->ys[i]?=Z y->d i σ H->H p=χ->g (.ref p) σ (upd H p (.tup [x,y])) λf k=>tb e f k) (j:∀σ H,d (min xs.length ys.length) σ H->D.nx σ H):=
 Eh (c:=Α) (K:=K) (a:=a) (b:=b) (xs:=xs) (ys:=ys) (g:=g) (tb:=tb) (D:=D) (σ:=σ) (H:=H) d m r (λi x y σ H p o l q s=>n i x y σ H p _ (λ_ _ h=>h) (λ_ _ h=>h) o l q s) j
def wH{K:ζ}{a:J}{xs:List V}{g:TG}{tb:TS}{D:cV}{σ:St}{H:Hp}(b:Nat->St->Hp->Prop)(j:b 0 σ H)(m:∀i σ H,i<=xs.length->b i σ H->aw K H a xs)
  (k:∀i x σ H (c:cV),(∀σ' H',b (i+1) σ' H'->c.nx σ' H')->xs[i]?=Z x->b i σ H->g x σ H λd f=>tb c d f) (e:∀σ H,b xs.length σ H->D.nx σ H):=
 jD (K:=K) (a:=a) (xs:=xs) (g:=g) (tb:=tb) (D:=D) (σ:=σ) (H:=H) b j m (λi x σ H l q=>k i x σ H _ (λ_ _ h=>h) l q) e
def tV(d:Nat->St->Hp->Prop)(m:Nat)(j:d m σ H)
  (k:∀m σ H (f:cV),(∀v H,D.rt v H->f.rt v H)->(∀e σ' H',e<m->d e σ' H'->f.nx σ' H')->d m σ H->c σ H λb a=>if b=Y then tb f σ a else D.nx σ a)
  (i:∀σ H Q g,(∀b a,Q b a->g b a)->c σ H Q->c σ H g):wc c tb D σ H:=
 xN d m j (λm σ H p=>k m σ H _ (λ_ _ h=>h) (λe _ _ l q=>{e,l,q}) p) i
end XB
namespace L2.EX
open PySem PySem.Spec PyProof.Rows PySem.W
section
variable{P:Θ}{w:Χ}{A:Ϛ}{R:QJ->ρ->Prop}{E:θ->ρ->Prop}{h:ϖ}{g:Array K2}{d:QL}{t:Nat}{os:Qq}
variable{nm q:Str}{C N:J}{bs bm:List θ}{hdct:Bool}{sn:List Str}{sub:List θ}{ab:Bool}{col:Option Bool}{dd:Option J}{k0 k1 k2 k3 k5:Option θ}{B newId inN:String}{bmN:List θ}
structure bW(B:String)(bm:List θ):Prop where
 is:bm.contains (.type B)=Y
 attr:bm.contains (.type "AttributeError")=Α
 name:bm.contains (.type "NameError")=Α
def bW.up(e:bm.contains (.type X)=b):(Ψ a::bm).contains (.type X)=b:=by rw[PK,e];cases b<;>rfl
def jj(C:J)(t:J):Obj:={cls:=.ref C,data:=.fields #[.ref t,.none,.none,.none,.bool Α,.none]}
def qC(vs:List θ):Obj:={cls:=.type "tuple",data:=.seq vs.toArray}
def JD(F:Pi B newId inN bmN)(j:bW B bm)(b:h.get? C=Z (ϭ nm q C N bs bm hdct sn sub ab col dd k0 k1 k2 k3 k5 newId))(f:vs.length<=Μ)
  (c:R (.ok (.ret (.ref (h.objs.size+1)))) {(h.push (qC vs)).push (jj C h.objs.size),g,d,t,os}):
  F7 (ϊ P w) A (.builtin newId {.ref C::vs,[]}) R {h,g,d,t,os}:=by
 let i:=F.ends;show codeAny_builtinAt F.entry ?_;show PySem.wpAt_bind (PySem.wpAt_bind (PySem.wpAt_stack λp e=>PySem.wpAt_of_wpAny ?_));wp_walk;show PySem.wpAt_of_wpAny ?_;rw[F.owner];repeat (first
  |with_reducible show wpAny_madeHere_exc F.canon b ?_
  |with_reducible show ϓ b ?_
  |(with_reducible show f_ b ?_;first|rw[(bW.up (a:=C) j.is)]|rw[(bW.up (a:=C) j.attr)]|rw[(bW.up (a:=C) j.name)])
  |wp_step)
 rw[Ϲ];show c
def rT(F:Pi B newId inN bmN)(f:bW B bm)(b:h.get? C=Z (ϭ nm q C N bs bm hdct sn sub ab col dd k0 k1 k2 k3 k5 newId))(c:Q Unit.unit {h,g,d,t,os}):
  Ο (ϊ P w) A (y6 newId {.ref C::vs,[]}) Q E {h,g,d,t,os}:=by
 let e:=F.noStar;simp only[y6,F.newKind,F.newSplit,F.newRow];repeat (first
  |show ϓ b ?_
  |(show f_ b ?_;rw[(bW.up (a:=C) f.is)])
  |show wpAny_staticBase_exc b ?_
  |show wpAny_madeBy_exc b ?_
  |simp only[bne_self_eq_false,Pz,if_false]
  |wp_step)
 show c
end
section
variable{P:Θ}{w:Χ}{A:Ϛ}{E:θ->ρ->Prop}{h:ϖ}{g:Array K2}{d:QL}{t:Nat}{os:Qq}
variable{nm q:Str}{C N fI:J}{bs bm:List θ}{hdct:Bool}{sn:List Str}{sub:List θ}{ab:Bool}{col:Option Bool}{dd:Option J}{k0 k1 k2 k3 k5:Option θ}{B newId inN:String}{bmN:List θ}
def Gn(F:Pi B newId inN bmN)(D:bW B bm)(a:h.get? C=Z (ϭ nm q C N bs bm hdct sn sub ab col dd k0 k1 k2 k3 k5 newId))(u:vs.length<=Μ)(k:h.get? fI=Z oI)(m:oI.cls=.type "function")
  (j:∀{A:Ϛ}{E:θ->ρ->Prop}{Q:Option θ->ρ->Prop}{s:ρ},(∀b o,h.get? b=Z o->s.heap.get? b=Z o)->Q (Z (.ref fI)) s->Ο (ϊ P w) A (Ps (.ref C) "__init__") Q E s)
  (v:Ο (ϊ P w) (A.under (.builtin "type.__call__" {.ref C::vs,[]})) (call (.ref fI) (.ref (h.objs.size+1)::vs)) (λr f=>r=.none/\Q (.ref (h.objs.size+1)) f) E {(h.push (qC vs)).push (jj C h.objs.size),g,d,t,os}):
  Ο (ϊ P w) A (call (.ref C) vs) Q E {h,g,d,t,os}:=by
 let z:=tc_lookup;let y:=tc_bind (.ref C);let c:∀b o,h.get? b=Z o->((h.push (qC vs)).push (jj C h.objs.size)).get? b=Z o:=λb o e=>π _ (π _ e);let i:((h.push (qC vs)).push (jj C h.objs.size)).get? (h.objs.size+1)=Z (jj C h.objs.size):=ϖ.get?_push_at (by simp only[Ϲ]) U;let l:(Ψ C::bm).contains (.ref C)=Y:=();show N7 (O3 ?_);repeat (any_goals (first|assumption|with_reducible show ϓ a ?_|wp_step))
 show{1,codeAny_call_builtin_at (J0 _ ()) entry_typeCall (wpAny_check_type_call_sub a ?_)};repeat (first|with_reducible show ϓ a ?_|with_reducible show wpAny_madeBy_exc a ?_|wp_step)
 show codeAny_call_builtin_code (J0 _ F.quiet) (rT F D a (JD F D a u ?_));repeat (first|with_reducible show ϓ i ?_|wp_step)
 show f_ (c _ _ a) ?_;rw[l];repeat (first|with_reducible show ϓ i ?_|wp_step)
 show j c (u6 (η ?_));show η (Pd {0,(c _ _ k),m} ?_);rw[Q5 ()];show ω (η (i7 v (λr f p=>?_) λ_ _ x=>x));ext(⟨rfl,n⟩:p);wp_walk;show n
end
open PySem PySem.Spec PyProof.Rows PySem.W
section
variable{P:Θ}{w:Χ}{A:Ϛ}{E:θ->ρ->Prop}{h:ϖ}{g:Array K2}{d:QL}{t:Nat}{os:Qq}
variable{nm q:Str}{C N fI:J}{bs bm:List θ}{hdct:Bool}{sn:List Str}{sub:List θ}{ab:Bool}{col:Option Bool}{dd:Option J}{k0 k1 k2 k3 k5:Option θ}{B newId nid initId:String}{bmB:List θ}
def oV(F:Pi B nid initId bmB)(l:bW B bm)(c:h.get? C=Z (ϭ nm q C N bs bm hdct sn sub ab col dd k0 k1 k2 k3 k5 newId))(j:h.get? e=Z oe)(f:oe.cls=.ref C)(i:Q Unit.unit {h,g,d,t,os}):
  Ο (ϊ P w) A (y6 initId {.ref e::vs,[]}) Q E {h,g,d,t,os}:=by
 let k:=F.noStar;simp only[y6,F.initKind,F.initSplit,F.initRow];repeat (first
  |(with_reducible show ϓ j ?_;rw[f])
  |with_reducible show ϓ c ?_
  |(with_reducible show f_ c ?_;rw[(bW.up (a:=C) l.is)])
  |wp_step)
 show OZ ?_;let z:∀(a b:String)(n:Nat),Bind.check {.positional,"*",B,.self,[{"args",.varPos,Α}]} a b n (QO (λx=>x.fst) ({pos:=Ψ e::vs}:Args).kw)=pure Unit.unit:=λa b n=>check_star_args _ _ _ _ _ _;rw[z];show ω i
def Ly(a:J):Data:=.fields #[.ref a,.none,.none,.none,.bool Α,.none]
def GB(F:Pi B nid initId bmB)(s:bW B bm)(j:h.get? C=Z (ϭ nm q C N bs bm hdct sn sub ab col dd k0 k1 k2 k3 k5 newId))(a:h.get? e=Z oe)(i:oe.cls=.ref C)(c:oe.data=Ly a0)(n:vs.length<=Μ)
  (k:∀h',(∀b o,b≠e->h.get? b=Z o->h'.get? b=Z o)->h'.get? e=Z {oe with data:=Ly h.objs.size}->h'.get? h.objs.size=Z (qC vs)->Q .none {h',g,d,t,os}):
  Ο (ϊ P w) A (call (.builtin initId) (.ref e::vs)) Q E {h,g,d,t,os}:=by
 ext(⟨r,p,l,m⟩:oe);subst i;subst c;show N7 (y7 F.init.plain F.initEntry (oV F s j a U ?_));wp_walk;show k _ (λb o f z=>?_) ?_ ?_
 .rw[ϝ _ _ (ϔ f)];show π _ z
 .rw[ϸ _ (π _ a) U];rfl
 .rw[ϝ _ _ (Ϙ (Η a))];show Ξ _ U
end
open PySem PySem.Spec PyProof.Rows PySem.W
def Nm[Decidable c](b:c->Ο M A x Q E s)(a:¬ c->Ο M A y Q E s):Ο M A (if c then x else y) Q E s:=by
 split
 .next h=>show b h
 .next h=>show a h
section
variable{P:Θ}{w:Χ}{A:Ϛ}{E:θ->ρ->Prop}{h:ϖ}{g:Array K2}{d:QL}{t:Nat}{os:Qq}
variable{nm q:Str}{C D N x:J}{bs bmB:List θ}{sn:List Str}{sub:List θ}{ab:Bool}{col:Option Bool}{dd:Option J}{k0 k1 k2 k3 k5:Option θ}{B newId sa owner:String}{name:Str}{v:θ}{tk:Tok}
def dy(P:Θ)(w:Χ)(h:ϖ)(C:J)(name:Str)(y:Option θ):Prop:=
 ∀{A:Ϛ}{E:θ->ρ->Prop}{Q:Option θ->ρ->Prop}{s:ρ},(∀b o,h.get? b=Z o->s.heap.get? b=Z o)->Q y s->Ο (ϊ P w) A (Ps (.ref C) name) Q E s
def vh(u0:StoreFacts B bmB sa owner)(u2:h.get? C=Z (ϭ nm q C N bs (.ref D::bmB) Y sn sub ab col dd k0 k1 k2 k3 k5 newId))(V:dy P w h C name χ)(a:h.get? x=Z o)(L:o.cls=.ref C)(F:o.data=Ly a0)(u:o.dict=χ)
  (u1:∀h' p,(∀b o,b≠x->h.get? b=Z o->h'.get? b=Z o)->h'.get? x=Z {o with dict:=Z h.objs.size}->h'.Ns1 h.objs.size (λy=>if y=name then Z v else χ)->Q (.done (.ret .none)) {h',g,d,p,os}):
  Ο (ϊ P w) A (s_.«object.__setattr__» {[.ref x,.str name tk,v],[]}) Q E {h,g,d,t,os}:=by
 ext(⟨oc,od,a3,I⟩:o);subst L;repeat (first
  |rw[refuse_eq]
  |(rw[refuseLoop_ref,refuseLoop_ref,(u0.passes (.ref x))])
  |with_reducible show ϓ a ?_
  |with_reducible show wpAny_mroOf_exc u2 ?_
  |wp_step)
 show V (λ_ _ z=>z) ?_;repeat (first|with_reducible show ϓ a ?_|wp_step)
 subst F;subst u;let j:=Ϙ (Η a);let i:=π {cls:=.type "dict",data:=.dict #[]} a;show Nm (λz=>absurd z (by simp[typeHasDict])) λ_=>η (wpAny_alloc' (η (wpAny_update' i (ω ?_))));let l:((h.push {cls:=.type "dict",data:=.dict #[]}).update x λo=>{cls:=o.cls,dict:=Z h.objs.size,data:=o.data,slots:=o.slots}).get? h.objs.size=Z {cls:=.type "dict",data:=.dict #[]}:=by rw[ϝ _ _ j];show Ξ _ U
 let k:((h.push {cls:=.type "dict",data:=.dict #[]}).update x λo=>{cls:=o.cls,dict:=Z h.objs.size,data:=o.data,slots:=o.slots}).get? x=Z {cls:=.ref C,dict:=Z h.objs.size,data:=Ly a0,slots:=I}:=ϸ _ i U;let n:∀b o,b≠x->h.get? b=Z o->((h.push {cls:=.type "dict",data:=.dict #[]}).update x λo=>{cls:=o.cls,dict:=Z h.objs.size,data:=o.data,slots:=o.slots}).get? b=Z o:=λb o c z=>by rw[ϝ _ _ (ϔ c)];show π _ z
 generalize ((h.push {cls:=.type "dict",data:=.dict #[]}).update x λo=>{cls:=o.cls,dict:=Z h.objs.size,data:=o.data,slots:=o.slots})=K at l k n⊢;let H:K.Ns h.objs.size (λ_=>χ):={0,#[],0,l,1,λe X=>absurd X (),λ_=>U};show η (ω (η (wpAny_nsSet1 (ϖ.Ns1.of_empty H) λh' f m=>?_)));ext(⟨oD,a1,a2,G,r,s⟩:f.count (Within.cons name v Within.nil));show η (wpAny_lookBehind G (by rw[r];show pastItsLine_dict (ϩ s (by rw[ι];change 1<=_;omega))) ?_);wp_walk;show u1 h' _ (λb o c z=>?_) ((m.2 x j).trans k) ?_
 .show(m.2 b (Ϙ (Η z))).trans (n b o c z)
 .ext(⟨R,W,ep,T,u4,u3,M,S⟩:f);show{R,W,ep,T,u4,u3,M,λy=>by rw[S y]}
end
open PySem PySem.Spec PyProof.Rows PySem.W
section
variable{P:Θ}{w:Χ}{A:Ϛ}{E:θ->ρ->Prop}{h:ϖ}{g:Array K2}{d:QL}{t:Nat}{os:Qq}
variable{nm q:Str}{C D N x:J}{bs bmB:List θ}{sn:List Str}{sub:List θ}{ab:Bool}{col:Option Bool}{dd:Option J}{k0 k1 k2 k3 k5:Option θ}{B newId sa owner:String}{name:Str}{v:θ}
def ri(b:StoreFacts B bmB sa owner)(j:h.get? C=Z (ϭ nm q C N bs (.ref D::bmB) Y sn sub ab col dd k0 k1 k2 k3 k5 newId))(l:h.get? x=Z o)(k:o.cls=.ref C)(c:Q Unit.unit {h,g,d,t,os}):
  Ο (ϊ P w) A (y6 sa {[.ref x,u,v],[]}) Q E {h,g,d,t,os}:=by
 let e:=b.args (.ref x) u v;simp only[y6,b.kind,b.split];show η ?_;repeat (first
  |(with_reducible show ϓ l ?_;rw[k])
  |(with_reducible show f_ j ?_;rw[(bW.up (a:=C) (bW.up (a:=D) b.hasOwner))])
  |wp_step)
 cases f:Manifest.signature? sa with
 |none=>show ω c
 |some i=>simp only[argsOk,f]at e;change Ο (ϊ P w) A (Bind.checkArgs sa i {[.ref x,u,v],[]}) Q E _;rw[e];show ω c
def AT(a:StoreFacts B bmB sa owner)(i:h.get? C=Z (ϭ nm q C N bs (.ref D::bmB) Y sn sub ab col dd k0 k1 k2 k3 k5 newId))(l:dy P w h C "__setattr__" (Z (.builtin sa)))(m:dy P w h C name χ)(f:h.get? x=Z o)(e:o.cls=.ref C)(k:o.data=Ly a0)(j:o.dict=χ)
  (n:∀h' c,(∀b o,b≠x->h.get? b=Z o->h'.get? b=Z o)->h'.get? x=Z {o with dict:=Z h.objs.size}->h'.Ns1 h.objs.size (λy=>if y=name then Z v else χ)->Q Unit.unit {h',g,d,c,os}):
  Ο (ϊ P w) A (setAttr (.ref x) name v) Q E {h,g,d,t,os}:=by
 let p:=a.slot.bind (.ref x);repeat (any_goals (first|assumption|(with_reducible show ϓ f ?_;rw[e])|wp_step))
 show l (λ_ _ z=>z) ?_;repeat (any_goals (first|assumption|wp_step))
 show y7 a.slot.plain a.entry (ri a i f e (vh a i m f e k j λh' c k1 k2 k3=>?_));repeat (any_goals (first|assumption|wp_step))
 show n h' c k1 k2 k3
end
open PySem PySem.Spec PyProof.Rows PySem.W
section
variable{P:Θ}{w:Χ}{A:Ϛ}{E:θ->ρ->Prop}{h:ϖ}{g:Array K2}{d:QL}{t:Nat}{os:Qq}
variable{nm q:Str}{C D N x dx a0:J}{bs bmB:List θ}{sn:List Str}{sub:List θ}{ab:Bool}{col:Option Bool}{dd:Option J}{k0 k1 k2 k3 k5:Option θ}{B newId:String}{name:Str}{v:θ}{tk:Tok}{mA:Str->Option θ}{sl:Array (Option θ)}{ws:Array θ}
def jB(l:P9 B bmB)(b:h.get? C=Z (ϭ nm q C N bs (.ref D::bmB) Y sn sub ab col dd k0 k1 k2 k3 k5 newId))(j:h.get? x=Z o)(c:o.cls=.ref C)(f:Q Unit.unit {h,g,d,t,os}):
  Ο (ϊ P w) A (y6 "BaseException.__getattribute__" {[.ref x,u],[]}) Q E {h,g,d,t,os}:=by
 let k:builtinKind "BaseException.__getattribute__"=Z .slot:=();let i:splitId "BaseException.__getattribute__"=Z ("BaseException","__getattribute__"):=();let e:=bW.up (a:=C) (bW.up (a:=D) l.hasBase);let m:=F.args_bexc_ga (.ref x) u;simp only[y6,k,i];show η ?_;unfold isInstance;repeat (first
  |(with_reducible show ϓ j ?_;rw[c])
  |(with_reducible show f_ b ?_;rw[e])
  |wp_step)
 show f
def zY(b:h.get? C=Z (ϭ nm q C N bs (.ref D::bmB) Y sn sub ab col dd k0 k1 k2 k3 k5 newId))(i:dy P w h C name χ)(a:h.get? x=Z {cls:=.ref C,dict:=Z dx,data:=.fields ws,slots:=sl})(c:h.Ns1 dx mA)(e:mA name=Z v)(f:Q (.done (.ret v)) {h,g,d,t,os}):
  Ο (ϊ P w) A (s_.«object.__getattribute__» {[.ref x,.str name tk],[]}) Q E {h,g,d,t,os}:=by
 unfold s_.«object.__getattribute__»;repeat (first|with_reducible show ϓ a ?_|wp_step)
 show i (λ_ _ z=>z) ?_;repeat (first|(with_reducible show wpAny_nsGet c.ns ?_;rw[e])|with_reducible show ϓ a ?_|with_reducible show ϓ b ?_|wp_step)
 show f
def IG(b:P9 B bmB)(c:h.get? C=Z (ϭ nm q C N bs (.ref D::bmB) Y sn sub ab col dd k0 k1 k2 k3 k5 newId))(i:dy P w h C "__getattribute__" (Z (.builtin "BaseException.__getattribute__")))(j:dy P w h C "__getattr__" χ)(n:dy P w h C name χ)
  (a:h.get? x=Z {cls:=.ref C,dict:=Z dx,data:=.fields ws,slots:=sl}) (k:h.Ns1 dx mA) (l:mA name=Z v) (m:handedOut v=pure v) (r:Q v {h,g,d,t+1,os}):
  Ο (ϊ P w) A (getAttr (.ref x) name expr) Q E {h,g,d,t,os}:=by
 let o:=b.ga.bind (.ref x);let p:(expr&&onTheHeap (C6 "BaseException.__getattribute__"))=Α:=by cases expr<;>rfl
 let f:(C6 "BaseException.__getattribute__" == C6 "object.__getattribute__")=Α:=();let e:(onTheHeap (Ψ C)&&C6 "BaseException.__getattribute__" == C6 "object.__getattribute__")=Α:=by rw[f];rfl
 unfold getAttr getAttrBy;repeat (any_goals (first|assumption|with_reducible show ϓ a ?_|wp_step))
 show i (λ_ _ z=>z) ?_;dsimp only;rw[e];repeat (any_goals (first|assumption|with_reducible show ϓ a ?_|wp_step))
 show j (λ_ _ z=>z) ?_;repeat (any_goals (first|assumption|wp_step))
 show y7 b.ga.plain F.entry_bexc_ga (jB b c a U (zY c n a k l ?_));repeat (any_goals (first|assumption|(rw[m])|wp_step))
end
open PySem PySem.Spec PyProof.Rows PySem.W
structure Mv(fs ex:List J)(h h':ϖ):Prop where
 keep:∀b o,b∉fs->b∉ex->h.get? b=Z o->h'.get? b=Z o
 slot:∀b o,b∉ex->h.get? b=Z o->∃sl,h'.get? b=Z {o with slots:=sl}
def Mv.trans(a:Mv fs ex h h1)(b:Mv fs ex h1 h2):Mv fs ex h h2:=
 {λc o f d e=>b.keep c o f d (a.keep c o f d e),λc o n e=>by ext(⟨k,j⟩:a.slot c o n e);ext(⟨g,i⟩:b.slot c _ n j);show{g,i}}
def Mv.mono(a:Mv i f h h')(g:∀b∈i,b∈fs')(d:∀b∈f,b∈ex'):Mv fs' ex' h h':=
 {λc o k j e=>a.keep c o (λz=>k (g c z)) (λz=>j (d c z)) e,λc o n e=>a.slot c o (λz=>n (d c z)) e}
def Mv.hok(m:Mv g d h h')(x:gC P w H h)(f:∀b∈g,H b=χ)(i:∀b∈d,H b=χ):gC P w H h':=λa o e=>
 (x a o e).stay (λb u c q=>m.keep b u (λz=>by
   let:=f b z;rcases c with rfl|c
   .rw[e]at this;cases this
   .rw[c]at this;cases this) (λz=>by
   let:=i b z;rcases c with rfl|c
   .rw[e]at this;cases this
   .rw[c]at this;cases this) q) (λ_ q=>q) λ_ _ q=>q
def Mv.un{g j p i:List J}{H H':Hp}{h l k:ϖ}(m:Mv j i l k)(u:Un g p H H' h l)(v:∀b∈j,b∈g\/h.get? b=χ)(f:∀b∈i,h.get? b=χ):Un g p H H' h k where
 keep:=λb o q n a c=>m.keep b o (λz=>(v b z).elim a λy=>by rw[q]at y;cases y) (λz=>by let y:=f b z;rw[q]at y;cases y) (u.keep b o q n a c)
 slot:=λb o q n a c=>by ext(⟨w,e⟩:u.slot b o q n a c);obtain⟨r,d⟩:=m.slot b _ (λz=>by let y:=f b z;rw[q]at y;cases y) e;show{r,d}
 free:=u.free
 there:=λb o q n=>by ext(⟨t,e⟩:u.there b o q n);obtain⟨w,d⟩:=m.slot b t (λz=>by let y:=f b z;rw[q]at y;cases y) e;show{0,d}
 tups:=u.tups
 frzs:=u.frzs
 tbls:=u.tbls
structure ph(h:ϖ)(e T:J)(cls:θ)(dx:Option J)(fl:θ):Prop where
 obj:∃oe vs,h.get? e=Z oe/\oe.cls=cls/\oe.dict=dx/\oe.data=.fields vs/\vs[1]?=Z (.ref T)/\vs[2]?=Z .none
 tb:∃oT ts,h.get? T=Z oT/\oT.data=.fields ts/\ts[3]?=Z fl
 ne:T≠e
def NB(h:ϖ)(e:J)(cls:θ)(dx:Option J):Prop:=∃a vs,h.get? e=Z a/\a.cls=cls/\a.dict=dx/\a.data=.fields vs/\vs[1]?=Z .none/\vs[2]?=Z .none
section
variable{M:Model}{A:Ϛ}{E:θ->ρ->Prop}{s:ρ}{base:ϖ}{env:Env}{outer:List Env}{L e T:J}{cls:θ}{dx:Option J}
def mr(t:A.frames=Z (env::outer))(l:s.heap.FunFrames base (env::outer))(C:env.frame=Z L)
  (p:s.heap.get? e=Z oe) (x:oe.cls=cls) (v:oe.dict=dx) (f:oe.data=.fields vs) (hsz:1<vs.size) (w:vs[2]?=Z .none)
  (h:∀h' T,s.heap.objs.size<=T->Mv (gx (env::outer)) [e] s.heap h'->ph h' e T cls dx (M2 L)->Q Unit.unit {s with heap:=h'}):
  Ο M A (do let a <-frameOf env;let pl <-entryPlaceOf L hadNext;let b <-EntryCells.newEntry head a .none (M2 L) .none pl;setField (.ref e) 1 b) Q E s:=by
 let r:e∉gx (env::outer):=λG=>by ext(⟨_,o,c,u⟩:l.mem G);rw[p]at c;cases c;show u vs f
 show η (wpAny_frameOf_fun t l C λh₁ d=>η (wpAny_entryPlaceOf λpl g=>?_));show η (i6 ?_ (g.sizeOk5 _ _ _ _ _));let m:=(d.2.1 e r).trans p;generalize c:({cls:=.type "traceback",dict:=χ,data:=.fields ([head,.ref L,.none,M2 L,.none]++(if pl.isEmpty then y_ 6 w_ else pl)).toArray}:Obj)=oT;let j:=π oT m;let i:=u9 (Η m);let k:=A8 f (·.setIfInBounds 1 (Ψ h₁.objs.size));show K8 j f hsz (h _ h₁.objs.size (by rw[d.1];show Β _) {λb o y F z=>?_,λb o n z=>?_} {{00,ϸ _ j (J8 k),by rw[Obj.cls_mapFields];show x,2,k,by simp[hsz],by rw[Array.getElem?_setIfInBounds_ne ()];show w},{oT,02,by rw[<-c],2},i})
 .rw[ϝ _ _ (λq=>F (by rw[<-q];simp))];show π _ ((d.2.1 b y).trans z)
 .ext(⟨D,q⟩:d.2.2 b o z);show{D,2};rw[ϝ _ _ (λq=>n (by rw[<-q];simp))];show π _ q
 .rw[<-v];ext(⟨I,K,B,H⟩:oe);cases B<;>rfl
 .rw[ϝ _ _ (ϔ i)];show Ξ _ (by rw[<-c];rfl)
 .first|(simp;done)|(rcases g with rfl|⟨_,_,_,_,_,_,_,rfl⟩<;>simp)
def wF(g:A.frames=Z (env::outer))(j:s.heap.FunFrames base (env::outer))(b:env.frame=Z L)(x:NB s.heap e cls dx)
  (h:∀h' T,s.heap.objs.size<=T->Mv (gx (env::outer)) [e] s.heap h'->ph h' e T cls dx (M2 L)->Q Unit.unit {s with heap:=h'}):Ο M A (noteFrame (.ref e) env) Q E s:=by
 ext(⟨l,vs,c,i,f,a,d,k⟩:x);unfold noteFrame;simp only[b];show η (b_ c a d ?_);rw[Q6 ()];show mr g j b c i f a (l7.mp d).1 k h
def pY(t:A.frames=Z (env::outer))(B:s.heap.FunFrames base (env::outer))(r:env.frame=Z L)(x:ph s.heap e T cls dx .none)
  (h:∀h' c,s.heap.objs.size<=c->Mv (gx (env::outer)) [e,T] s.heap h'->ph h' e c cls dx (M2 L)->Q Unit.unit {s with heap:=h'}):Ο M A (noteFrame (.ref e) env) Q E s:=by
 ext(⟨⟨G,vs,p,y,v,i,k,w⟩,⟨F,ts,g,f,j⟩,D⟩:x);unfold noteFrame;simp only[r];show η (b_ p i k ?_);rw[Q5 ()];show η (b_ g f j ?_);rw[Q6 (by simp[M2])];show η (K8 g f (l7.mp j).1 ?_);let d:∀b,b≠T->(s.heap.update T (M_ (·.setIfInBounds 3 w_))).get? b=s.heap.get? b:=λb a=>ϝ _ _ (ϔ a);let C:Mv (gx (env::outer)) [e,T] s.heap (s.heap.update T (M_ (·.setIfInBounds 3 w_))):={λb o _ n z=>(d b λq=>n (by rw[q];simp)).trans z,λb o n z=>{o.slots,(d b λq=>n (by rw[q];simp)).trans z}};show mr t (B.of_keeps λb o a u=>{o,(d b λq=>?_).trans a,1}) r ((d e (ϔ D)).trans p) y v i (l7.mp k).1 w λh' c l m x=>h h' c (by let e:=l;simpa using e) (C.trans (m.mono (λ_ z=>z) λb z=>ν.mpr (.inl (ξ.mp z)))) x;rw[q,g]at a;cases a;show u ts f
def wO(d:env.frame=Z L)(x:ph s.heap e T cls dx (M2 L))(h:Q Unit.unit s):Ο M A (noteFrame (.ref e) env) Q E s:=by ext(⟨⟨l,vs,f,m,j,b,i,o⟩,⟨k,ts,c,a,g⟩,n⟩:x);show wpAny_noteFrame_inFlight d f b i c a g h
def eB(x:ph s.heap e T cls dx fl)(h:∀h',Mv [] [T] s.heap h'->ph h' e T cls dx .none->Q Unit.unit {s with heap:=h'}):Ο M A (setFlight (.ref e) χ) Q E s:=by ext(⟨⟨u,vs,j,t,l,d,f,p⟩,⟨v,ts,i,a,r⟩,k⟩:x);let g:=(l7.mp r).1;let c:∀b,b≠T->(s.heap.update T (M_ (·.setIfInBounds 3 w_))).get? b=s.heap.get? b:=λb m=>ϝ _ _ (ϔ m);show wpAny_setFlight_none j d f i a g (h _ {λb o _ n z=>(c b λq=>n (by rw[q];simp)).trans z,λb o n z=>{o.slots,(c b λq=>n (by rw[q];simp)).trans z}} {{u,vs,(c e (ϔ k)).trans j,t,l,d,f,p},{00,ϸ _ i (J8 (A8 a _)),A8 a _,by simp[g]},k})
def vq(a:A.frames=Z (env::outer))(g:s.heap.FunFrames base (env::outer))(j:env.frame=Z L)(x:NB s.heap e cls dx)
  (h:∀h' T,s.heap.objs.size<=T->Mv (gx (env::outer)) [e,T] s.heap h'->ph h' e T cls dx .none->Q Unit.unit {s with heap:=h'}):Ο M A (leaving env (.ref e)) Q E s:=by
 show η (wF a g j x λm T l i d=>eB d λc f k=>h c T l ((i.mono (λ_ z=>z) λb z=>ν.mpr (.inl (ξ.mp z))).trans (f.mono (λ_ z=>absurd z ()) λb z=>ς _ z)) k)
def ww(c:A.frames=Z (env::outer))(i:s.heap.FunFrames base (env::outer))(k:env.frame=Z L)(x:ph s.heap e T cls dx .none)
  (h:∀h' a,s.heap.objs.size<=a->Mv (gx (env::outer)) [e,T,a] s.heap h'->ph h' e a cls dx .none->Q Unit.unit {s with heap:=h'}):Ο M A (leaving env (.ref e)) Q E s:=by
 show η (pY c i k x λn a l j f=>eB f λd g m=>h d a l ((j.mono (λ_ z=>z) λb z=>?_).trans (g.mono (λ_ z=>absurd z ()) λb z=>?_)) m)
 .rcases ν.mp z with z|z
  .show ν.mpr (.inl z)
  .show ς _ (ν.mpr (.inl (ξ.mp z)))
 .show ς _ (ς _ z)
end
open PySem PySem.Spec PyProof.Rows PySem.W
section
variable{P:Θ}{w:Χ}{A:Ϛ}{E:θ->ρ->Prop}{h:ϖ}{g:Array K2}{d:QL}{t:Nat}{os:Qq}
variable{nm q:Str}{C D N e:J}{bs bmB:List θ}{sn:List Str}{sub:List θ}{ab:Bool}{col:Option Bool}{dd:Option J}{k0 k1 k2 k3 k5:Option θ}{B newId:String}{oe:Obj}
def GI:(".".intercalate ("object.__class__".cutAt '.').dropLast)="object":=()
def JL(f:h.get? C=Z (ϭ nm q C N bs (.ref D::bmB) Y sn sub ab col dd k0 k1 k2 k3 k5 newId))(c:h.get? e=Z oe)(b:oe.cls=.ref C)(i:bmB.contains (.type "object")=Y)(j:R (.ok (.ret (.ref C))) {h,g,d,t,os}):
  F7 (ϊ P w) A (.call (.builtin "getset_descriptor.__get__") {[.builtin "object.__class__",.ref e,.ref C],[]}) R {h,g,d,t,os}:=by
 show y7 F.slot_gs_get.plain F.entry_gs_get (F.slot_gs_get.check _ _ _ _ _ _ _ _ F.typeOf_object_class (F.args_gs_get _ _ _) ?_);repeat (any_goals (first|assumption|(with_reducible show ϓ c ?_;rw[b])|(rw[GI];with_reducible show f_ f ?_;rw[(bW.up (a:=C) (bW.up (a:=D) i))])|wp_step))
 show{J0 _ (),J6 F.entry_object_class ?_};repeat (any_goals (first|assumption|(with_reducible show ϓ c ?_;rw[b])|wp_step))
variable{tk:Tok}
def Er(c:h.get? C=Z (ϭ nm q C N bs (.ref D::bmB) Y sn sub ab col dd k0 k1 k2 k3 k5 newId))(b:h.get? e=Z oe)(a:oe.cls=.ref C)(f:bmB.contains (.type "object")=Y)(i:dy P w h C "__class__" (Z (.builtin "object.__class__")))(k:Q (.done (.ret (.ref C))) {h,g,d,t,os}):
  Ο (ϊ P w) A (s_.«object.__getattribute__» {[.ref e,.str "__class__" tk],[]}) Q E {h,g,d,t,os}:=by
 let l:=F.typeOf_object_class;let m:=F.slot_gs_get.lookup;let j:=F.slot_gs_set.lookup;repeat (first|(with_reducible show ϓ b ?_;rw[a])|wp_step)
 show i (λ_ _ z=>z) ?_;repeat (any_goals (first|assumption|(with_reducible show ϓ b ?_;rw[a])|wp_step))
 show JL c b a f ?_;repeat (any_goals (first|assumption|wp_step))
def Lu(c:P9 B bmB)(f:h.get? C=Z (ϭ nm q C N bs (.ref D::bmB) Y sn sub ab col dd k0 k1 k2 k3 k5 newId))(b:h.get? e=Z oe)(a:oe.cls=.ref C)(m:bmB.contains (.type "object")=Y)(n:dy P w h C "__class__" (Z (.builtin "object.__class__")))
  (k:dy P w h C "__getattribute__" (Z (.builtin "BaseException.__getattribute__"))) (l:dy P w h C "__getattr__" χ) (p:Q (.ref C) {h,g,d,t,os}):
  Ο (ϊ P w) A (getAttrBy (.ref e) (.str "__class__" tk) Α) Q E {h,g,d,t,os}:=by
 let o:=c.ga.bind (.ref e);let j:(C6 "BaseException.__getattribute__" == C6 "object.__getattribute__")=Α:=();let i:(onTheHeap (Ψ C)&&C6 "BaseException.__getattribute__" == C6 "object.__getattribute__")=Α:=by rw[j];rfl
 repeat (any_goals (first|assumption|(with_reducible show ϓ b ?_;rw[a])|wp_step))
 show k (λ_ _ z=>z) ?_;dsimp only;rw[i];repeat (any_goals (first|assumption|(with_reducible show ϓ b ?_;rw[a])|wp_step))
 show l (λ_ _ z=>z) ?_;repeat (any_goals (first|assumption|wp_step))
 show y7 c.ga.plain F.entry_bexc_ga (jB c f b a (Er f b a m n ?_));repeat (any_goals (first|assumption|wp_step))
def Fj(l:P9 B bmB)(a:h.get? C=Z (ϭ nm q C N bs (.ref D::bmB) Y sn sub ab col dd k0 k1 k2 k3 k5 newId))(k:h.get? e=Z oe)(f:oe.cls=.ref C)(i:bmB.contains (.type "object")=Y)(j:dy P w h C "__class__" (Z (.builtin "object.__class__")))
  (b:dy P w h C "__getattribute__" (Z (.builtin "BaseException.__getattribute__"))) (c:dy P w h C "__getattr__" χ) (m:Q (Z (.ref C)) {h,g,d,t+1,os}):
  Ο (ϊ P w) A (getAttr? (.ref e) "__class__") Q E {h,g,d,t,os}:=by
 repeat (any_goals (first|assumption|with_reducible apply Lu l a k f i j b c|wp_step))
def xi(b:h.get? e=Z oe)(a:oe.cls=.ref C):Qx M h (typeOf (.ref e)) (.ref C):=λA Q E s k q=>by show η (Po (k _ _ b) (ω (by rw[a];show q)))
def He(a:h.get? C=Z (ϭ nm q C N bs (.ref D::bmB) Y sn sub ab col dd k0 k1 k2 k3 k5 newId))(f:(Ψ C::.ref D::bmB).contains c=b):Qx M h (isSubtype (.ref C) c) b:=λA Q E s k q=>by ext(⟨h',g',d',t',i⟩:s);show f_ (k _ _ a) (by rw[f];show q)
def HQ(a:h.get? C=Z (ϭ nm q C N bs (.ref D::bmB) Y sn sub ab col dd k0 k1 k2 k3 k5 newId)):Qx M h (isType (.ref C)) Y:=λA Q E s k q=>by show η (Po (k _ _ a) (ω q))
def Gp(x:P9 B bmB)(a:h.get? C=Z (ϭ nm q C N bs (.ref D::bmB) Y sn sub ab col dd k0 k1 k2 k3 k5 newId))(k:h.get? e=Z oe)(j:oe.cls=.ref C)(u:bmB.contains (.type "object")=Y)(v:dy P w h C "__class__" (Z (.builtin "object.__class__")))
  (o:dy P w h C "__getattribute__" (Z (.builtin "BaseException.__getattribute__"))) (r:dy P w h C "__getattr__" χ) (m:(Ψ C==c)=Α) (s:(Ψ C::.ref D::bmB).contains c=Α) (n:Qx (ϊ P w) h (typeOf c) (.type "type")) (l:Qx (ϊ P w) h (isType c) Y)
  (b:Q (.bool Α) {h,g,d,t+1,os}):Ο (ϊ P w) A (call (.builtin "isinstance") [.ref e,c]) Q E {h,g,d,t,os}:=by
 let f:=xi (M:=ϊ P w) k j;let i:=He (M:=ϊ P w) a s;let p:Qx (ϊ P w) h (isInstance (.ref e) c) Α:=f.andThen i;show PL ?_ (by intro z;cases z);show η (f.at ?_);rw[Q6 (λz=>by rw[m]at z;cases z)];show η (n.at ?_);rw[Q5 (beq_self_eq_true _)]
 k_delta "plainIsInstance"
 show η (η (l.at ?_));rw[Q6 ()];show η (p.at ?_);rw[Q6 ()];show η (Fj x a k j u v o r (η ((HQ a).at ?_)));rw[Q6 ()];show η (F4 (i.at ?_));first|show ω b|show ω (ω b)|show η (ω (ω b))
def DA(c:h.get? e=Z oe)(a:oe.cls=.ref C)(b:Q (.bool Y) {h,g,d,t,os}):Ο (ϊ P w) A (call (.builtin "isinstance") [.ref e,.ref C]) Q E {h,g,d,t,os}:=by
 show PL ?_ (by intro z;cases z);show η ((xi c a).at ?_);rw[Q5 (beq_self_eq_true _)];repeat (first|show ω ?_|show F4 ?_|show η ?_)
 show b
def Bb(k:h.get? C=Z (ϭ nm q C N bs (.ref D::bmB) Y sn sub ab col dd k0 k1 k2 k3 k5 newId))(o:h.get? e=Z oe)(m:oe.cls=.ref C)(i:(Ψ C==c)=Α)(n:(Ψ C::.ref D::bmB).contains c=Y)(j:Qx (ϊ P w) h (typeOf c) (.type "type"))(f:Qx (ϊ P w) h (isType c) Y)
  (a:Q (.bool Y) {h,g,d,t,os}):Ο (ϊ P w) A (call (.builtin "isinstance") [.ref e,c]) Q E {h,g,d,t,os}:=by
 let b:=xi (M:=ϊ P w) o m;let l:Qx (ϊ P w) h (isInstance (.ref e) c) Y:=b.andThen (He k n);show PL ?_ (by intro z;cases z);show η (b.at ?_);rw[Q6 (λz=>by rw[i]at z;cases z)];show η (j.at ?_);rw[Q5 (beq_self_eq_true _)]
 k_delta "plainIsInstance"
 show η (η (f.at ?_));rw[Q6 ()];show η (l.at ?_);rw[Q5 U];first|show ω a|show ω (ω a)|show η (ω (ω a))
end
open PySem PySem.Spec PyProof.Rows PySem.W
abbrev AA:List θ:=[.type "ValueError",.type "Exception",.type "BaseException",.type "object"]
structure eT(K:Frag)(D fI C:J):Prop where
 obj:∃nm q N bs sn sub ab col dd k0 k1 k2 k3 k5,K.lookup C=Z (ϭ nm q C N bs (.ref D::AA) Y sn sub ab col dd k0 k1 k2 k3 k5 "ValueError.__new__")
 init:findIn K (.ref C) "__init__"=Z (Z (.ref fI))
 fn:typeIn K (.ref fI)=Z (.type "function")
 sa:findIn K (.ref C) "__setattr__"=Z (Z (.builtin "object.__setattr__"))
 pl:findIn K (.ref C) "place"=Z χ
 ga:findIn K (.ref C) "__getattribute__"=Z (Z (.builtin "BaseException.__getattribute__"))
 gh:findIn K (.ref C) "__getattr__"=Z χ
 cl:findIn K (.ref C) "__class__"=Z (Z (.builtin "object.__class__"))
 kp:keepIn K (.ref C)=Y
 ne:C≠D
structure AU(K:Frag)(D:J):Prop where
 obj:∃nm q N bs sn sub ab col dd k0 k1 k2 k3 k5,K.lookup D=Z (ϭ nm q D N bs AA Y sn sub ab col dd k0 k1 k2 k3 k5 "ValueError.__new__")
def Ei(D:J):bW "ValueError" (.ref D::AA):={bW.up (),bW.up (),bW.up ()}
def Xr(C t a:J):HO:=.ext λh=>h.get? a=Z (jj C t)
def Xo(C t dx a:J):HO:=.ext λh=>h.get? a=Z {jj C t with dict:=Z dx}
section
variable{X:Cx}{pins:List (J×Obj)}{σ:St}{H:Hp}{s:ρ}{C D fI t dx a:J}
def jd{K:Frag}{P:Θ}{w:Χ}{h:ϖ}{x:Str}{y:Option θ}(k:K.In h)(e:findIn K (.ref C) x=Z y):dy P w h C x y:=λ{A E Q s} b q=>looks_findIn k e A Q E s b q
def Xr.at_(I:au X pins σ H s)(e:H a=Z (Xr C t a)):s.heap.get? a=Z (jj C t):=(I.hok a _ e).1
def Xo.at_(I:au X pins σ H s)(e:H a=Z (Xo C t dx a)):s.heap.get? a=Z {jj C t with dict:=Z dx}:=(I.hok a _ e).1
def Hx(e:h.get? a=Z (jj C t)):bK P w H h a (Xr C t a):={e,{0,e},λ_ _ p k=>k _ p}
def Kn(e:h.get? a=Z {jj C t with dict:=Z dx}):bK P w H h a (Xo C t dx a):={e,{0,e},λ_ _ p k=>k _ p}
def EI(I:au X pins σ H s):au X pins σ (upd H (s.heap.objs.size+1) (Xr C s.heap.objs.size (s.heap.objs.size+1))) {s with heap:=(s.heap.push (qC us)).push (jj C s.heap.objs.size)}:=
 I.laid (t':=s.toks) (λb u q=>π _ (π _ q)) (x9 _) (Hx (ϖ.get?_push_at (by simp only[Ϲ]) U))
variable{k:Nat}{fd:ό}{ps:List Str}{sp:Sp}{Q:VK}{us:List θ}{vs:List V}
def EZ{R:J->Hp->Prop}{QQ:θ->ρ->Prop}(c:eT X.K D fI C)(FI:ap X.prog X.w X.K X.mg X.base aY k fI fd ps sp)(hr:bU (k+1) X.A)(hb:bo X.K fd ps [])(I:au X pins σ H s)(r:aE vs us)(hz:vs.length<=Μ)
  (h:∀e t,H e=χ->sp (.ref e::vs) (upd H e (Xr C t e)) (λv H2=>v=.non/\R e H2) E0) (hq:∀e s' H2,X.s₀.heap.objs.size<=e->H e=χ->au X pins σ H2 s'->R e H2->QQ (.ref e) s'):
  Ο (ϊ X.prog X.w) X.A (call (.ref C) us) QQ X.xe s:=by
 ext(⟨nm,q,N,bs,sn,sub,ab,col,dd,k0,k1,k2,k3,k5,lk⟩:c.obj);ext(⟨oI,lI,cI⟩:Ϣ.mp (c.fn));let KX:=I.kIn;let I2:=EI (C:=C) (us:=us) I;let fr:=I.hok.fresh (x9 _);let hs:=h (s.heap.objs.size+1) s.heap.objs.size fr;let r2:aE (V.ref (s.heap.objs.size+1)::vs) (Ψ (s.heap.objs.size+1)::us):=.cons U r;let hl:(Ψ (s.heap.objs.size+1)::us++[]).length=ps.length:=by rw[ϣ,<-r2.length];show FI.len _ _ _ _ hs
 ext(⟨hh,g,d,tk,os⟩:s);show Gn F.excBase_ValueError (Ei D) (KX _ _ lk) (by rw[<-r.length];show hz) (KX _ _ lI) cI (jd KX c.init) (N7 (C1 (FI.run _ X.stack _ _ {Ψ (hh.objs.size+1)::us,[]} (Ψ (hh.objs.size+1)::us++[]) _ _ E0 (hr.make C us []) (I2.env0.make C us []) (hb _ (Ψ (hh.objs.size+1)::us) I2.kIn hl) (by rw[ϣ];show r2) hs) λz s' hq'=>?_));cases z with
 |error e=>show j9 hq'
 |ok fl=>
  cases fl with
  |ret u=>ext(⟨v,H',I3,rv,ev,q3⟩:I2.after hq');subst ev;show{rv,hq _ s' H' (ϩ I.sz (x9 _)) fr I3 q3}
  |next=>show j9 hq'
  |brk=>show j9 hq'
  |cont=>show j9 hq'
end
open PySem PySem.Spec PyProof.Rows PySem.W
def dq(P:Θ)(w:Χ):vK:=λouter H s E b a=>∃e T C dx H',b=.ref e/\a.os=s.os/\Pc a.gens/\Un (gx outer) [] H H' s.heap a.heap/\gC P w H' a.heap /\
 ph a.heap e T (.ref C) (Z dx) .none/\s.heap.get? e=χ/\s.heap.get? T=χ/\H' e=χ/\H' T=χ/\E (.ref C) (Z dx) H'
def Bm(X:Cx)(E:XK):Prop:=∀(a:List (J×Obj))(σ:St)(H:Hp)(s:ρ)(e C t dx:J),au X a σ H s->H e=Z (Xo C t dx e)->X.s₀.heap.objs.size<=e->E (.ref C) (Z dx) (λb=>if b=e then χ else H b)->X.xe (.ref e) s
def FW(u:Un fs ex H0 H h0 h)(a:H e=Z (.ext φ))(c:h0.get? e=χ):Un fs ex H0 (λb=>if b=e then χ else H b) h0 h where
 keep:=u.keep
 slot:=u.slot
 free:=λb o q n x=>by
  split
  .rfl
  .show u.free b o q n x
 there:=u.there
 tups:=λb xs q=>by let z:=u.tups b xs q;rw[Q6 (λy=>by rw[y,a]at z;cases z)];show z
 frzs:=λb o v q=>by let z:=u.frzs b o v q;rw[Q6 (λy=>by rw[y,a]at z;cases z)];show z
 tbls:=λb ps q=>by ext(⟨m,z⟩:u.tbls b ps q);show{m,2};rw[Q6 (λy=>by rw[y,a]at z;cases z)];show z
def CW(x:gC P w H h)(c:H e=Z (.ext φ)):gC P w (λb=>if b=e then χ else H b) h:=λa o q=>by
 let d:H a=Z o:=by
  by_cases z:a=e
  .simp only[z,if_true]at q;cases q
  .simpa only[z,if_false]using q
 show(x a o d).stay (λ_ _ _ z=>z) (λb z=>?_) λb xs z=>?_
 .change(if b=e then χ else H b)=_;rw[Q6 (λy=>by rw[y,c]at z;cases z)];show z
 .change(if b=e then χ else H b)=_;rw[Q6 (λy=>by rw[y,c]at z;cases z)];show z
section
variable{P:Θ}{w:Χ}{K:Frag}{mg:Str->Option θ}{base:ϖ}{N:List Str}{qual:Str}{scope:OA}{f:J}{cd:θ}{A:Ϛ}{outer:List Env}{s0:ρ}{H0:Hp}{E:XK}
def dA:Bm (be (dq P w) P w K mg base N qual scope f cd A outer s0 H0 E) E:=by
 intro l σ H s e C t dx I g hz i;let h:=a_ hz;show vq I.ok.frames I.stack U {00,(Xo.at_ I g),11111} λh' T d m x=>?_;let j:=λb a=>by change (if b=e then χ else H b)=χ;rw[I.stkFree b a];split<;>rfl
 let c:=λb a=>by
  change(if b=e then χ else H b)=χ;split
  .rfl
  .rcases ν.mp a with z|z
   .contradiction
   .rw[ξ.mp z];show I.hok.fresh d
 show{e,T,C,dx,01,I.os,I.bare,m.un (FW I.base g h) (λb a=>?_) (λb a=>?_),m.hok (CW I.hok g) j c,x,h,2,c e (),c T (),i}
 .rcases ν.mp (I.stkSub b a)with z|z
  .show .inr (by rw[z];show a_ (Β _))
  .show .inl z
 .rcases ν.mp a with z|z
  .rw[z];show h
  .rw[ξ.mp z];show a_ (ϩ I.sz d)
 .show a_ (ϩ I.sz d)
def Fo:dh (dq P w) (be (dq P w) P w K mg base N qual scope f cd A outer s0 H0 E) E:=by
 intro u σ H s k G I g;ext(⟨e,T,C,dx,H',rfl,t,j,F,h,B,M,v,p,L,q⟩:g);let c:au (be (dq P w) P w K mg base N qual scope f cd A outer s0 H0 E) u σ H' G:=I.call' t F h j λb z=>absurd z ();let l:∀b:J,s.heap.get? b=χ->s0.heap.get? b=χ:=λb a=>by
  cases z:s0.heap.get? b with
  |none=>rfl
  |some o=>obtain⟨Q,r⟩:=I.base.there b o z (λy=>absurd (show b∈([]:List J)from y) ());rw[a]at r;cases r
 show ww c.ok.frames c.stack U B λh' d n m x=>?_;let g:∀b∈[e,T,d],H' b=χ:=λb a=>by
  rcases ν.mp a with z|a
  .rw[z];show p
  .rcases ν.mp a with z|z
   .rw[z];show L
   .rw[ξ.mp z];show h.fresh n
 let i:∀b∈[e,T,d],s0.heap.get? b=χ:=λb a=>by
  rcases ν.mp a with z|a
  .rw[z];show l e M
  .rcases ν.mp a with z|z
   .rw[z];show l T v
   .rw[ξ.mp z];show a_ (ϩ c.sz n)
 show{e,d,C,dx,H',1,c.os,j,m.un c.base (λb a=>?_) i,m.hok h c.stkFree g,x,i e (),i d (),p,g d (),q};rcases ν.mp (c.stkSub b a)with z|z
 .show .inr (by rw[z];show a_ (Β _))
 .show .inl z
end
inductive Ds (C:J) (E:XK)  (vs:List V) (H1:Hp):Prop|mk v (_:vs=[v]) (_:∀dx,H1 dx=χ->E (.ref C) (Z dx) (upd H1 dx (.xd [("place",v)])))
def Js(C:J)(E:XK)(a:TA):TS:=λ_ σ H=>a σ H (Ds C E)
def fX(K:Frag)(D fI:J):Sp:=λvs H Q _=>∃e C t v,vs=[.ref e,v]/\H e=Z (Xr C t e)/\eT K D fI C/\∀dx t',H dx=χ->dx≠e->Q .non (upd (upd H dx (.xd [("place",v)])) e (Xo C t' dx e))
def Jj(B:A.handled=χ)
  (h:Ο M A x (λv a=>∃e C D y q N bs z b r c m k0 u n l j i t dx,v=.ref e/\a.heap.get? C=Z (ϭ y q C N bs (.ref D::AA) Y z b r c m k0 u n l j i)/\a.heap.get? e=Z {jj C t with dict:=Z dx}/\E (.ref e) a) E s):
  Ο M A (raiseStmt env (Z x) χ) Q E s:=by
 show η (i7 h (λv a h₁=>?_) λ_ _ x=>x);ext(⟨e,C,D,y,q,N,bs,z,b,r,c,m,k0,u,n,l,j,i,t,dx,rfl,p,o,F⟩:h₁);ext(⟨H,g,d,tk,I⟩:a);let G:(Ψ C::.ref D::AA).contains (.type "BaseException")=Y:=bW.up (bW.up ());unfold jj at o;repeat (first|with_reducible show ϓ o ?_|with_reducible show ϓ p ?_|(with_reducible show f_ p ?_;rw[G])|wp_step)
 show wpAny_raiseNew_none B F
section
variable{X:Cx}{D fI C:J}{x:Str}{np cpos pos:Pos}{e:ϲ}{es:List ϲ}{t:TA}{E:XK}{k:Nat}{fd:ό}{ps:List Str}
def ps_raise(c:eT X.K D fI C)(FI:ap X.prog X.w X.K X.mg X.base aY k fI fd ps (fX X.K D fI))(u:bU (k+1) X.A)(d:bo X.K fd ps [])(hg:Gl X x)(hm:X.mg x=Z (.ref C))(hR:Bm X E)(f:PA X (e::es) t)
  (u1:autoParam ((x==("__debug__" : Str))=Α) yD._auto_1) (he:autoParam (Ϗ (e::es) X.env=(Α,eval e X.env)::Ϗ es X.env) yR._auto_1) (u2:autoParam ((A5 cpos (Ϗ es X.env)).any (·.1)=Α) yR._auto_1):
  PS X (.Raise (Z (.Call (.Name x np) (e::es) [] cpos)) χ pos) (Js C E t):=by
 intro m s σ H Dn I h;ext(⟨nm,q,N,bs,S,L,ab,M,u0,k0,k1,k2,W,T,V⟩:c.obj);rw[arm_exec_Raise];show η (OY (Jj u.hd (η (i7 (Q:=λv B=>∃e a dx t',v=.ref e/\au X m σ a B/\a e=Z (Xo C t' dx e)/\X.s₀.heap.objs.size<=e/\E (.ref C) (Z dx) (λb=>if b=e then χ else a b)) (m8 (gm I hg hm ?_ u1)) (λv F G=>η (OY (ω ?_))) λ_ _ x=>x))))
 .show C_ I.ok.mod.kin c.kp (bn (f cpos m s σ H _ I h) λus s1 ⟨vs,l,p,r,v,ev,q⟩=>{p.kIn,2}) he u2;subst ev;show EZ (R:=λe a=>∃dx t t',l dx=χ/\dx≠e/\a=upd (upd (upd l e (Xr C t e)) dx (.xd [("place",v)])) e (Xo C t' dx e)) c FI u d p r (by rw[ι];change 1<=_;omega) (λe t z=>{e,C,t,v,1,aa,c,λdx t' j i=>{1,dx,t,t',2,i,1}}) λe s' a n z g ⟨dx,t,t',j,i,eH⟩=>?_
  .rw[ai i]at j;show j
  .subst eH
   show{e,0,dx,t',1,g,aa,n,2};let y:(λb=>if b=e then χ else upd (upd (upd l e (Xr C t e)) dx (.xd [("place",v)])) e (Xo C t' dx e) b)=upd l dx (.xd [("place",v)]):=by
    funext b;by_cases d:b=e
    .rw[Q5 d,d,ai (ϔ i),z]
    .rw[Q6 d,ai d];unfold upd;split
     .rfl
     .first|rfl|rw[Q6 d]
   rw[y];show(q dx j)
 .ext(⟨e,a,dx,t',rfl,g,o,n,P⟩:G);show{e,C,D,nm,q,N,bs,S,L,ab,M,u0,k0,k1,k2,W,T,0,t',dx,1,g.kIn _ _ V,Xo.at_ g o,hR m σ a F e C t' dx g o n P}
end
open PySem PySem.Spec PyProof.Rows PySem.W
inductive Kg (K:Frag) (D fI:J) (Q:VK) (vs:List V) (H1:Hp):Prop|mk e C t0 v (_:vs=[.ref e,v]) (_:H1 e=Z (Xr C t0 e)) (_:eT K D fI C) (_:∀t',Q .non (upd H1 e (Xr C t' e)))
def NV(K:Frag)(D fI:J)(t:TA):TE:=λσ H Q=>t σ H (Kg K D fI Q)
def Gz{K:Frag}:findCls K (.type "ValueError") (.type "type") "__init__"=Z (.val (.builtin "ValueError.__init__")):=by kernel_rfl
def yJ:typeOf (.type "ValueError")=pure (.type "type"):=by kernel_rfl
def FF:handedIn (.builtin "ValueError.__init__")=Y:=by kernel_rfl
def Fv:Manifest.isStub "ValueError"=Α:=()
section
variable{X:Cx}{D fI C:J}{x:Str}{np apos cpos pos pos':Pos}{e o value:ϲ}{es:List ϲ}{t:TA}{ta tv:TE}{pl:Sem Bool}
def pe_vinit(hg:Gl X "ValueError")(hm:X.mg "ValueError"=χ)(hv:L5 "ValueError"=Z (.type "ValueError"))(ha:PA X (e::es) t)
  (ht:autoParam (eval (.Call (.Attribute (.Name "ValueError" np) "__init__" apos) (e::es) [] pos) X.env=(do
   let ov <-eval (.Name "ValueError" np) X.env
   standAt apos.atName
   let (f,first) <-holding [ov] (getMethod ov "__init__" pl)
   callWith pos f first (A5 pos (Ϗ (e::es) X.env)) (backToKw pos (P3 [] X.env)))) yR._auto_1)
  (hs:autoParam (Ϗ (e::es) X.env=(Α,eval e X.env)::Ϗ es X.env) yR._auto_1) (hpl:autoParam ((A5 pos (Ϗ es X.env)).any (·.1)=Α) yR._auto_1):
  PE X (.Call (.Attribute (.Name "ValueError" np) "__init__" apos) (e::es) [] pos) (NV X.K D fI t):=by
 intro pins s σ H Q I h;show OR (fE I hg hm hv ?_ () ()) ht;ext(⟨m,Fr0⟩:I.fr);show method_type Fr0 I.ok.mod.kin yJ Fv (Gz) FF ?_;let hA:=ha pos pins _ σ H _ (I.tok (s.toks+1)) h;rw[hs]at hA⊢;show OG (by change(Α||(A5 pos (Ϗ es X.env)).any (·.1))=Α;rw[hpl]<;>rfl) (Calls.evalArgs_plain (bn hA λus s2 ⟨vs,H2,I2,r2,e,C,t0,v,ev,he,c,q⟩=>?_));subst ev;obtain⟨u0,u1,rfl,ru0,ru1⟩:∃u0 u1,us=[u0,u1]/\aI (.ref e) u0/\aI v u1:=by
  cases r2 with
  |cons a r=>
   cases r with
   |cons b r=>cases r with|nil=>show{001,a,b}
 obtain rfl:u0=Ψ e:=ru0;ext(⟨nm,q',N,bs,sn,sub,ab,col,dd,k0,k1,k2,k3,k5,lk⟩:c.obj);let mu:JU (H2 e):=by rw[he];show B6
 ext(⟨hh,g,d,tk,os⟩:s2);show GB F.excBase_ValueError (Ei D) (I2.kIn _ _ lk) (Xr.at_ I2 he) U U (by rw[ι];change 1<=_;omega) λh' k1 k2 _=>?_;show{.non,0,I2.write (t':=tk) mu (.inl U) k1 {0,k2} (Hx k2),1,q _}
inductive Kw (K:Frag) (D fI:J) (Dn:cV) (σ:St) (y:V) (x:V) (H2:Hp):Prop|mk e C t (_:x=.ref e) (_:H2 e=Z (Xr C t e)) (_:eT K D fI C) (_:∀dx,H2 dx=χ->dx≠e->Dn.nx σ (upd (upd H2 dx (.xd [("place",y)])) e (Xo C t dx e)))
def Od(K:Frag)(D fI:J)(ta tv:TE):TS:=λa σ H=>tv σ H λy b=>ta σ b (Kw K D fI a σ y)
def ps_xset(P:PE X o ta)(W:PE X value tv)(S:autoParam (swapsWith value (Z (.Attribute o "place" pos')) pos.line X.env=pure Α) yR._auto_1):PS X (.Assign [.Attribute o "place" pos'] value pos) (Od X.K D fI ta tv):=by
 intro E s σ H Dn I h;show OP (bn (W E s σ H _ I h) λu u1 ⟨y,u0,M,V,q⟩=>bn (P E u1 σ u0 _ M q) λov T ⟨x,R,l,rx,e,C,t,u2,i,c,u3⟩=>?_) S;subst u2;obtain rfl:ov=Ψ e:=rx;ext(⟨nm,q',N,bs,sn,a2,ab,a3,dd,k0,m,r,G,k5,Q⟩:c.obj);let B:=l.kIn;ext(⟨k,g,d,tk,os⟩:T);show AT F.store_ValueError (B _ _ Q) (jd B c.sa) (jd B c.pl) (Xr.at_ l i) U U U λh' u4 m r G=>?_;let j:=l.hok.fresh (Β _);let L:k.objs.size≠e:=λz=>by rw[z,i]at j;cases j
 let K:∀b o,k.get? b=Z o->b≠k.objs.size:=λb o z=>Ϙ (Η z);show{σ,0,l.un (t':=u4) (H':=upd (upd R k.objs.size (.xd [("place",y)])) e (Xo C t k.objs.size e)) {λb o z n _ _=>m b o (λw=>by rw[w,i]at n;cases n) z,λb o z n _ _=>{o.slots,m b o (λw=>by rw[w,i]at n;cases n) z},λb o z n _=>?_,λb o z _=>?_,λb xs z=>?_,λb o v z=>?_,λb ps z=>{#[],2}} (λb v z=>?_),u3 _ j L}
 .rw[ai (λw=>by rw[w,i]at n;cases n),ai (K b o z)];show n
 .by_cases w:b=e
  .rw[w];show{0,r}
  .show{o,m b o w z}
 .rw[ai (λw=>by rw[w,i]at z;cases z),ai (λw=>by rw[w,j]at z;cases z)];show z
 .rw[ai (λw=>by rw[w,i]at z;cases z),ai (λw=>by rw[w,j]at z;cases z)];show z
 .rw[ai (λw=>by rw[w,i]at z;cases z),ai (λw=>by rw[w,j]at z;cases z),z];simp
 .by_cases w:b=e
  .rw[w,aa]at z;cases z;rw[w];show Kn r
  .rw[ai w]at z;by_cases p:b=k.objs.size
   .rw[p,aa]at z;cases z;rw[p];show{0,G,λf=>?_};by_cases A:f="place"
    .rw[A];show V
    .rw[Q6 A,ϰ,beq_false_of_ne A];show B6
   .rw[ai p]at z;show(l.hok b v z).stay (λc o a y=>m c o (λw=>?_) y) (λc a=>?_) λc xs a=>?_
    .rcases a with a|a
     .show absurd (a.symm.trans w) (by assumption)
     .rw[w,i]at a;cases a
    .rw[ai (λw=>by rw[w,i]at a;cases a),ai (λw=>by rw[w,j]at a;cases a)];show a
    .rw[ai (λw=>by rw[w,i]at a;cases a),ai (λw=>by rw[w,j]at a;cases a)];show a
end
open PySem PySem.Spec PyProof.Rows PySem.W
abbrev sP(X:Cx)(e:J):Cx:={X with A:=X.A.mark (Z (.ref e)),calm:=Α,xe:=λ_ _=>False}
section
variable{X:Cx}{pins:List (J×Obj)}{σ:St}{H:Hp}{s:ρ}{h':ϖ}{e:J}
def FA(a:X.Ok)(e:J):(sP X e).Ok:=
 {a.mod,a.kind,a.glob,a.blt,a.above,a.inj,a.has,a.cab,λz=>(ϋ z).elim,a.frames,a.stk,a.exf,a.bs,a.bsz,a.noex,a.exfs,a.funs,a.frf}
def vg(I:au X pins σ H s)(e:J):au (sP X e) pins σ H s:={FA I.ok e,I.os,I.bare,I.base,I.loc,I.cell,I.free,I.freeC,I.pin,I.hok,I.len}
def vX(a:X.Ok)(I:au (sP X e) pins σ H s):au X pins σ H s:={a,I.os,I.bare,I.base,I.loc,I.cell,I.free,I.freeC,I.pin,I.hok,I.len}
def DR(I:au X pins σ H s)(m:Mv (gx X.stack) g s.heap h')(L:∀b∈g,X.s₀.heap.get? b=χ)(K:∀b∈g,H b=χ)(G:∀b∈g,b≠X.env.locals)(f:∀b∈g,∀x c,X.env.cells.lookup x=Z c->c≠b)(e:∀b∈g,∀p∈X.pn++pins,p.1≠b):
  au X pins σ H {s with heap:=h'}:=by
 let B:∀x c,X.env.cells.lookup x=Z c->∀v,s.heap.IsCell c v->h'.IsCell c v:=λx c q v ⟨o,h,E⟩=>by obtain⟨Q,z⟩:=m.slot c o (λy=>f c y x c q U) h;show{0,z,E}
 ext(⟨R,⟨o,es,ep,h,r⟩,M⟩:I.loc);obtain⟨Q,N⟩:=m.slot _ o (λy=>G _ y U) h;show{I.ok,I.os,I.bare,m.un I.base (λb F=>?_) L,{R,{0,es,ep,N,r},λi x v a b c=>?_},λx c q=>?_,I.free,I.freeC,λp A=>?_,m.hok I.hok I.stkFree K,I.len}
 .rcases ν.mp (I.stkSub b F)with z|z
  .show .inr (by rw[z];show a_ I.ok.above)
  .show .inl z
 .ext(⟨u,P,l⟩:M i x v a b c);show{u,P,2};rcases l with l|⟨k,j,q,z⟩
  .show .inl l
  .show .inr {k,j,q,B x j q _ z}
 .ext(⟨v,z⟩:I.cell x c q);show{v,B x c q v z}
 .ext(⟨q,n,C,w,d⟩:I.pin p A);show{m.keep _ _ (λy=>(ν.mp (I.stkSub _ y)).elim C w) (λy=>e _ y p A U) q,n,C,w,d}
def Do(I:au X pins σ H s)(G:X.N.Nodup)(F:X.N[i]?=Z n)(h:B_ X.env.locals s.heap h')(N:h'.Ns X.env.locals (λx=>if x=n then v else m x))
  (e:∀(j:Nat)(x:Str)(w:V),X.N[j]?=Z x->σ[j]?=Z (Z w)->JT X.env.scope x->∃u,aI w u/\KS X.env s.heap m x u):au X pins (σ.set i χ) H {s with heap:=h',toks:=t'}:=by
 let C:Mv [] [X.env.locals] s.heap h':={λb o _ q z=>(h.2 b λy=>q (by rw[y];simp)).trans z,λb o q z=>{o.slots,(h.2 b λy=>q (by rw[y];simp)).trans z}};show{I.ok,I.os,I.bare,C.un I.base (λb g=>absurd g ()) (λb g=>by rw[ξ.mp g];show a_ I.ok.above),{0,N,λj x w a b c=>?_},λx c q=>?_,I.free,I.freeC,λp L=>?_,C.hok I.hok (λb g=>absurd g ()) (λb g=>by rw[ξ.mp g];show I.free),↑I.len}
 .by_cases r:j=i
  .subst r;let:j<σ.length:=by rw[I.len];show(Ζ.mp a).1
   rw[OB this]at b;cases b
  .rw[K3 (ϔ r)]at b;ext(⟨u,M,l⟩:e j x w a b c);show{u,M,2};rcases l with ⟨k,q⟩|⟨k,A,q,z⟩
   .let E:x≠n:=λq=>r (mH G a (q▸F));show .inl {k,(Q6 E).trans q}
   .show .inr {k,A,q,z.sameBut h (I.cne x A q)}
 .ext(⟨w,z⟩:I.cell x c q);show{w,z.sameBut h (I.cne x c q)}
 .ext(⟨q,n,B,K,d⟩:I.pin p L);show{(h.2 p.1 B).trans q,n,B,K,d}
end
def AH(I:au X pins σ H s)(E:H a=χ)(w:X.s₀.heap.get? a=χ)(m:a≠X.env.locals)(r:∀x c,X.env.cells.lookup x=Z c->c≠a)(B:∀p∈X.pn++pins,p.1≠a)(l:bK X.prog X.w (upd H a o) s.heap a o):
  au X pins σ (upd H a o) s:=by
 let st:∀b u,H b=Z u->upd H a o b=Z u:=λb u q=>by rw[ai (λz=>by rw[z,E]at q;cases q)];show q
 show{I.ok,I.os,I.bare,{I.base.keep,I.base.slot,λb g q n x=>?_,I.base.there,λb xs q=>st _ _ (I.base.tups b xs q),λb g v q=>st _ _ (I.base.frzs b g v q),λb ps q=>?_},I.loc,I.cell,(ai (ϔ m)).trans I.free,λx c q=>(ai (r x c q)).trans (I.freeC x c q),λp h=>?_,λb u q=>?_,I.len}
 .rw[ai (λz=>by rw[z,w]at q;cases q)];show I.base.free b g q n x
 .ext(⟨j,z⟩:I.base.tbls b ps q);show{j,st _ _ z}
 .ext(⟨q,n,C,A,d⟩:I.pin p h);show{q,(ai (B p h)).trans n,C,A,d}
 .by_cases z:b=a
  .rw[z,aa]at q;cases q;rw[z];show l
  .rw[ai z]at q;show(I.hok b u q).stay (λ_ _ _ y=>y) (λc y=>st _ _ y) λc xs y=>st _ _ y
def Xh(C dx a:J):HO:=.ext λh=>∃b c,h.get? a=Z {cls:=.ref C,dict:=Z dx,data:=.fields b,slots:=c}/\b[2]?=Z .none
def Ks(x:ph h a T (.ref C) (Z dx) fl):bK P w H h a (Xh C dx a):=by ext(⟨⟨⟨o,r,u,q⟩,vs,b,j,d,c,_,g⟩,_⟩:x);subst j;subst d;subst c;show{{00,b,g},{0,b},λ_ _ ⟨m,l,p,z⟩ k=>{m,l,k _ p,z}}
def CP{M:Model}{A:Ϛ}{E:θ->ρ->Prop}{h:ϖ}{g:Array K2}{d:QL}{t:Nat}{c:Qq}{C D e N T:J}{b:Obj}{nm q w q':Str}{bs v p j:List θ}{G u:List Str}{n o:Bool}{y l:Option Bool}{s r:Option J}{k0 k i L I S F x K j5:Option θ}{z m:String}{Q:Bool->ρ->Prop}
  (W:h.get? C=Z (ϭ nm q C N bs (.ref D::AA) Y G v n y s k0 k i L I z)) (a:h.get? D=Z (ϭ w q' D T p AA Y u j o l r S F x K j5 m)) (V:h.get? e=Z b) (R:b.cls=.ref C) (hq:Q Y {h,g,d,t,c}):
  Ο M A (excMatches (.ref e) (.ref D)) Q E {h,g,d,t,c}:=by
 let P:(Ψ D::AA).contains (.type "BaseException")=Y:=bW.up ();let B:(Ψ C::.ref D::AA).contains (.ref D)=Y:=();let f:=tc_notTuple;repeat (first|(with_reducible show ϓ V ?_;rw[R])|with_reducible show ϓ a ?_|(with_reducible show f_ a ?_;rw[P])|(with_reducible show f_ W ?_;rw[B])|wp_step)
 show hq
section
variable{X:Cx}{D fI f:J}{x xD n:Str}{np cpos epos tp hpos pos:Pos}{e:ϲ}{es:List ϲ}{t:TA}{k i:Nat}{fd:ό}{ps:List Str}{sp:Sp}{b₀:ϯ}{suite:List ϯ}{ts:J->TS}
end
open PySem PySem.Spec PyProof.Rows PySem.W
structure LK(K:Frag)(D C:J):Prop where
 obj:∃nm q N bs sn sub ab col dd k0 k1 k2 k3 k5,K.lookup C=Z (ϭ nm q C N bs (.ref D::AA) Y sn sub ab col dd k0 k1 k2 k3 k5 "ValueError.__new__")
 ne:C≠D
def eT.sub{K:Frag}{D fI C:J}(c:eT K D fI C):LK K D C:={c.obj,c.ne}
section
variable{X:Cx}{D fI:J}
def LB:Qx M h (isType (.type "ValueError")) Y:=λA Q E s k q=>ω q
def jS:cS X (.builtin "isinstance") (λxs H Q=>∃a C dx c,xs=[.ref a,c]/\H a=Z (Xh C dx a)/\eT X.K D fI C/\((∃f b,c=.ref f/\LK X.K D f/\decide (f=C)=b/\Q (.bl b) H)\/(c=.ty "ValueError"/\Q (.bl Y) H))):=by
 intro M s σ H xs us Q I r h;ext(⟨a,C,dx,c0,rfl,G,c,h⟩:h);ext(⟨u,v,rfl,K,n⟩:pQ r);obtain rfl:u=Ψ a:=K;ext(⟨⟨ws,sl,j,_⟩,_⟩:I.hok a _ G);ext(⟨nm,q',N,bs,sn,W,ab,o,dd,k0,k1,k2,k3,k5,t⟩:c.obj);let i:=I.kIn;let B:=I.tok (s.toks+1);ext(⟨m,g,d,tk,os⟩:s);rcases h with ⟨f,b,rfl,p,rfl,q⟩|⟨rfl,q⟩
 .obtain rfl:v=Ψ f:=n;ext(⟨u0,S,N',T,e,u1,R,P,V,j0,j1,j2,j3,j5,y⟩:p.obj);let l:m.get? f=_:=i _ _ y;by_cases z:f=C
  .subst z;rw[Q9 U]at q;show DA j U {.bl Y,H,I,1,q}
  .rw[Q8 z]at q;let x:Qx (ϊ X.prog X.w) m (typeOf (.ref f)) (.type "type"):=λA Q E s k q=>by show η (Po (k _ _ l) (ω q))
   show Gp F.attrBase_ValueError (i _ _ t) j U () (jd i c.cl) (jd i c.ga) (jd i c.gh) (by simp[ϔ z]) ?_ x (HQ l) {.bl Α,H,B,1,q};rw[PK,PK];let L:(Ψ f==Ψ C)=Α:=by simp[z]
   let u2:(Ψ f==Ψ D)=Α:=by simp[p.ne]
   rw[L,u2];rfl
 .obtain rfl:v=K1 "ValueError":=n;show Bb (i _ _ t) j U U (bW.up (bW.up ())) (Qx.of_pure yJ) LB {.bl Y,H,I,1,q}
variable{o:ϲ}{to:TE}{pos:Pos}
inductive Kc (K:Frag) (D fI:J) (Q:VK) (x:V) (H1:Hp):Prop|mk a C dx v (_:x=.ref a) (_:H1 a=Z (Xh C dx a)) (_:eT K D fI C) (_:H1 dx=Z (.xd [("place",v)])) (_:Q v H1)
def Oe(K:Frag)(D fI:J)(to:TE):TE:=λσ H Q=>to σ H (Kc K D fI Q)
def pe_xfld(G:PE X o to)(r:autoParam (M6 o "place" X.env (eval o X.env)=eval o X.env) yR._auto_1):PE X (.Attribute o "place" pos) (Oe X.K D fI to):=by
 intro l s σ H Q I h;show zn r (bn (G l s σ H _ I h) λu k ⟨x,B,f,M,a,C,dx,v,u0,t,c,p,q⟩=>?_);subst u0;obtain rfl:u=Ψ a:=M;ext(⟨⟨V,sl,z,_⟩,_⟩:f.hok a _ t);ext(⟨L,K,m⟩:f.hok dx _ p);ext(⟨nm,q',N,bs,sn,E,w,P,e,k0,k1,W,T,S,y⟩:c.obj);let b:=m "place";let i:=f.kIn;let n:=f.tok (k.toks+1);ext(⟨R,g,d,tk,A⟩:k);cases j:L "place" with
 |none=>rw[j]at b;show b.elim
 |some u=>rw[j]at b;let b:=b;show IG F.attrBase_ValueError (i _ _ y) (jd i c.ga) (jd i c.gh) (jd i c.pl) z K j (by rw[handedOut_of (qJ b)]) {v,B,n,b,q}
end
section
variable{prog:Θ}{w:Χ}{A:Ϛ}{E:θ->ρ->Prop}{s:ρ}{e:J}
end
open PySem PySem.Spec PyProof.Rows PySem.W
section
variable{P:Θ}{w:Χ}{K:Frag}{mg:Str->Option θ}{base:ϖ}
def Jw{x qual:Str}{st:ϯ}{f:J}{b:ό}{N ps:List Str}{k:Nat}{sp:Sp}(F:Fun K x qual st f b)(S:ci N ps (ax st))(g:∀vs H Q E,sp vs H Q E->vs.length=ps.length)
  (c:∀(a:θ)(A:Ϛ)(outer:List Env)(s:ρ)(H:Hp)(vs:List V)(Q:VK)(E:XK),bU k (A.deeper (envOfC qual (ax st) s.heap.objs.size f a))->sp vs H Q E ->
   ∃t,kl (be (dq P w) P w K mg base N qual (ax st) f a A outer s H E) (bt st) t/\t {nx:=λ_ H'=>Q .non H',rt:=Q} (gO N vs) H):ap P w K mg base (dq P w) (k+1) f b ps sp:=by
 ext(⟨v,u,n,m,r,o,a,q,l,rfl,i,d⟩:F.ex);show Bs i d S g λA outer s H vs Q E j h=>c a A outer s H vs Q E j h
structure lV(P:Θ)(w:Χ)(K:Frag)(mg:Str->Option θ)(base:ϖ)(k:Nat)(x:Str)(ps:List Str)(sp:Sp):Prop where
 ex:∃f fd,ap P w K mg base (dq P w) k f fd ps sp/\bo K fd ps []/\keepIn K (.ref f)=Y/\mg x=Z (.ref f)
def lV.up{j k:Nat}{x:Str}{ps:List Str}{sp:Sp}(d:lV P w K mg base j x ps sp)(h:j<=k):lV P w K mg base k x ps sp:=
 let ⟨f,fd,F,b,kp,m⟩:=d.ex
 {f,fd,F.mono h,b,kp,m}
variable{N:List Str}{qual:Str}{scope:OA}{f0:J}{cd:θ}{A:Ϛ}{outer:List Env}{s0:ρ}{H0:Hp}{E:XK}{k:Nat}{x:Str}{ps:List Str}{sp:Sp}{p pos:Pos}{e:ϲ}{es:List ϲ}{t:TA}
def pe_defX(d:lV P w K mg base k x ps sp)(i:bU k (A.deeper (envOfC qual scope s0.heap.objs.size f0 cd)))(h:Gl (be (dq P w) P w K mg base N qual scope f0 cd A outer s0 H0 E) x)(j:PA (be (dq P w) P w K mg base N qual scope f0 cd A outer s0 H0 E) (e::es) t)(a:autoParam ((x==("__debug__" : Str))=Α) yD._auto_1)
  (l:autoParam (Ϗ (e::es) (be (dq P w) P w K mg base N qual scope f0 cd A outer s0 H0 E).env=(Α,eval e (be (dq P w) P w K mg base N qual scope f0 cd A outer s0 H0 E).env)::Ϗ es (be (dq P w) P w K mg base N qual scope f0 cd A outer s0 H0 E).env) yR._auto_1)
  (c:autoParam ((A5 pos (Ϗ es (be (dq P w) P w K mg base N qual scope f0 cd A outer s0 H0 E).env)).any (·.1)=Α) yR._auto_1):PE (be (dq P w) P w K mg base N qual scope f0 cd A outer s0 H0 E) (.Call (.Name x p) (e::es) [] pos) (jk sp [] E t):=by
 ext(⟨f,n,F,b,g,m⟩:d.ex);show rg F i h m g b .nil Fo j a l c
end
open PySem PySem.Spec PyProof.Rows PySem.W
def XE(X:Cx)(pins:List (J×Obj))(σ:St)(E:XK)(ev:θ)(s':ρ):Prop:=
 ∃a T C dx H',ev=.ref a/\au X pins σ H' s'/\ph s'.heap a T (.ref C) (Z dx) .none/\(H' a=χ/\H' T=χ)/\(X.s₀.heap.get? a=χ/\X.s₀.heap.get? T=χ)/\((∀p∈X.pn++pins,p.1≠a)/\∀p∈X.pn++pins,p.1≠T)/\E (.ref C) (Z dx) H'
section
variable{X:Cx}{D fI f:J}{x xD n:Str}{np cpos epos tp hpos pos:Pos}{e:ϲ}{es:List ϲ}{t:TA}{k i:Nat}{fd:ό}{ps:List Str}{sp:Sp}{b₀:ϯ}{suite:List ϯ}{ts:J->TS}{tb tu:TB}{body other:List ϯ}
end
open PySem PySem.Spec PyProof.Rows PySem.W
section
variable{P:Θ}{w:Χ}{K:Frag}{mg:Str->Option θ}{base:ϖ}{e:J}
end
section
variable{X:Cx}{k:Nat}{f a:J}{fd:ό}{ps:List Str}{sp:Sp}{x:Str}{p pos:Pos}{e:ϲ}{es:List ϲ}{t:TA}
end
open PySem PySem.Spec PyProof.Rows PySem.W
section
variable{prog:Θ}{w:Χ}{A:Ϛ}{E:θ->ρ->Prop}{s:ρ}{e:J}
end
section
variable{X:Cx}{tg:ϲ}{e:J}
end
section
variable{X:Cx}{pins:List (J×Obj)}{σ:St}{H:Hp}{s:ρ}{scope:OA}{own:List Str}{ix:List Nat}{fp:List J}
end
open PySem PySem.Spec PyProof.Rows PySem.W
def xR:fD 0 (.bl x):=λX g σ H s I A v w a b h e d c f=>by subst e d;obtain rfl:a=N5 x:=c;obtain rfl:b=N5 x:=f;show E6 _
section
variable{X:Cx}
end
end L2.EX
namespace L2
open PySem PySem.Spec PyProof.Rows
end L2
namespace L2.EX
open PySem PySem.Spec PyProof.Rows PySem.W
section
variable{M:Model}{A:Ϛ}{E:θ->ρ->Prop}{s:ρ}{base:ϖ}{env:Env}{outer:List Env}{L e T:J}{cls fl:θ}{dx:Option J}
def wI(x:ph s.heap e T cls dx fl)(h:∀h',Mv [] [T] s.heap h'->ph h' e T cls dx (fr.elim .none λf=>M2 f)->Q Unit.unit {s with heap:=h'}):Ο M A (setFlight (.ref e) fr) Q E s:=by ext(⟨⟨y,vs,l,v,p,d,i,t⟩,⟨B,ts,k,a,u⟩,m⟩:x);let j:=(l7.mp u).1;let c:∀b,b≠T->(s.heap.update T (M_ (·.setIfInBounds 3 (fr.elim .none λf=>M2 f)))).get? b=s.heap.get? b:=λb r=>ϝ _ _ (ϔ r);show η (b_ l d i ?_);rw[Q5 ()];show K8 k a j (h _ {λb o _ n z=>(c b λq=>n (by rw[q];simp)).trans z,λb o n z=>{o.slots,(c b λq=>n (by rw[q];simp)).trans z}} {{y,vs,(c e (ϔ m)).trans l,v,p,d,i,t},{00,ϸ _ k (J8 (A8 a _)),A8 a _,by simp[j]},m})
def nt(v:A.frames=Z (env::outer))(F:s.heap.FunFrames base (env::outer))(u:env.frame=Z L)(x:ph s.heap e T cls dx fl)(g:fl≠M2 L)
  (h:∀h' c,s.heap.objs.size<=c->Mv (gx (env::outer)) [e,T] s.heap h'->ph h' e c cls dx (M2 L)->Q Unit.unit {s with heap:=h'}):Ο M A (noteFrame (.ref e) env) Q E s:=by
 ext(⟨⟨R,vs,t,D,B,k,r,C⟩,⟨f,ts,j,i,p⟩,I⟩:x);unfold noteFrame;simp only[u];show η (b_ t k r ?_);rw[Q5 ()];show η (b_ j i p ?_);rw[Q6 (↑g)];show η (K8 j i (l7.mp p).1 ?_);let d:∀b,b≠T->(s.heap.update T (M_ (·.setIfInBounds 3 w_))).get? b=s.heap.get? b:=λb a=>ϝ _ _ (ϔ a);let G:Mv (gx (env::outer)) [e,T] s.heap (s.heap.update T (M_ (·.setIfInBounds 3 w_))):={λb o _ n z=>(d b λq=>n (by rw[q];simp)).trans z,λb o n z=>{o.slots,(d b λq=>n (by rw[q];simp)).trans z}};show mr v (F.of_keeps λb o a y=>{o,(d b λq=>?_).trans a,1}) u ((d e (ϔ I)).trans t) D B k (l7.mp r).1 C λh' c l m x=>h h' c (by let e:=l;simpa using e) (G.trans (m.mono (λ_ z=>z) λb z=>ν.mpr (.inl (ξ.mp z)))) x;rw[q,j]at a;cases a;show y ts i
def Bf(k:A.frames=Z (env::outer))(p:s.heap.FunFrames base (env::outer))(i:env.frame=Z L)(x:ph s.heap e T cls dx fl)
  (h:∀h' a,a=T\/s.heap.objs.size<=a->Mv (gx (env::outer)) [e,T,a] s.heap h'->ph h' e a cls dx .none->Q Unit.unit {s with heap:=h'}):Ο M A (leaving env (.ref e)) Q E s:=by
 by_cases j:fl=M2 L
 .subst j;show η (wO i x (eB x λd m c=>h d T (.inl U) (m.mono (λ_ z=>absurd z ()) λb z=>by rw[ξ.mp z];simp) c))
 .show η (nt k p i x j λd a l q c=>eB c λn o r=>h n a (.inr l) ((q.mono (λ_ z=>z) λb z=>?_).trans (o.mono (λ_ z=>absurd z ()) λb z=>?_)) r)
  .rcases ν.mp z with z|z
   .show ν.mpr (.inl z)
   .show ς _ (ν.mpr (.inl (ξ.mp z)))
  .rw[ξ.mp z];simp
end
def Du(x:ph h e T cls dx fl)(k:∀b o,b=e\/b=T->h.get? b=Z o->h'.get? b=Z o):ph h' e T cls dx fl:=by ext(⟨⟨c,vs,l,r⟩,⟨a,ts,d,i⟩,j⟩:x);show{{c,vs,k e c (.inl U) l,r},{a,ts,k T a (.inr U) d,i},j}
section
variable{P:Θ}{w:Χ}{K:Frag}{mg:Str->Option θ}{base:ϖ}{N:List Str}{qual:Str}{sc scope:OA}{f:J}{cd:θ}{A:Ϛ}{outer:List Env}{s0:ρ}{H0:Hp}{E:XK}{N':List Str}{fp:List J}{pins:List (J×Obj)}{σ:St}{H:Hp}{s:ρ}{Q:θ->ρ->Prop}{acc:θ}
def Bc(I:au (be (dq P w) P w K mg base N qual sc f cd A outer s0 H0 E) pins σ H s)(G:∀b∈fp,lW (be (dq P w) P w K mg base N qual sc f cd A outer s0 H0 E) pins H b):
  dh (dq P w) (((be (dq P w) P w K mg base N qual sc f cd A outer s0 H0 E).comp N' scope fp s H).wish (notedBy (ϊ P w) (be (dq P w) P w K mg base N qual sc f cd A outer s0 H0 E).A ((be (dq P w) P w K mg base N qual sc f cd A outer s0 H0 E).comp N' scope fp s H).env
   λe s'=>compPost (ϊ P w) (be (dq P w) P w K mg base N qual sc f cd A outer s0 H0 E).A (be (dq P w) P w K mg base N qual sc f cd A outer s0 H0 E).xe χ Q acc (s.heap.objs.size+1) (.error e) s')) E:=by
 intro pins' σ' H1 s1 ev X I1 j;ext(⟨e,T,C,dx,D,rfl,os,M,un,u1,xo,ne,nT,ue,uT,q⟩:j);let V:=I1.unwish.call' os un u1 M λb z=>absurd z ();let d:=I.call' V.os V.base u1 M λb a=>by ext(⟨f0,f1,f2,x,f4,f5⟩:G b a);grind
 let b7:∀(b:J),s0.heap.get? b≠χ->∃o,s.heap.get? b=Z o/\b∉fp:=λb a=>by
  cases z:s0.heap.get? b with
  |none=>show absurd z a
  |some o=>
   obtain⟨F,k⟩:=I.base.there b o z (λy=>absurd (show b∈([]:List J)from y) ());show{F,k,λj=>?_};ext(⟨_,_,_,x,_⟩:G b j);rcases x with x|x
   .show absurd (show b∈([]:List J)from x) ()
   .show absurd (Η z) (PB.mpr x)
 let R:∀b:J,s1.heap.get? b=χ->s0.heap.get? b=χ:=λb a=>PV λz=>by ext(⟨F,k,nf⟩:b7 b z);ext(⟨o2,z2⟩:I1.unwish.base.there b F k nf);rw[a]at z2;cases z2
 let b6:∀(b:J)(h:ϖ),Un (gx outer) [] H0 D s0.heap h->h.objs.size<=b->s0.heap.get? b=χ:=λb h u l=>by
  cases z:s0.heap.get? b with
  |none=>rfl
  |some o=>ext(⟨F,k⟩:u.there b o z ());show absurd (Η k) (PB.mpr l)
 let nC:=PV λz=>by ext(⟨F,k,_⟩:b7 _ z);show absurd (Η k) (PB.mpr (x9 _))
 let fr:∀b∈gx (be (dq P w) P w K mg base N qual sc f cd A outer s0 H0 E).stack,b<s.heap.objs.size/\b<X.heap.objs.size/\b≠e/\b≠T:=λb a=>by
  ext(⟨_,o,i,p⟩:d.stack.mem a);ext(⟨_,o',d0,_⟩:I.stack.mem a);ext(⟨⟨oe,vs,B,_,_,de,_⟩,⟨oT,ts,g,dT,_⟩,_⟩:xo);show{Η d0,Η i,λz=>?_,λz=>?_}
  .rw[z,B]at i;cases i;show p _ de
  .rw[z,g]at i;cases i;show p _ dT
 let b8:∀b∈gx (be (dq P w) P w K mg base N qual sc f cd A outer s0 H0 E).stack,b∈gx outer\/s0.heap.get? b=χ:=λb a=>by
  rcases ν.mp (d.stkSub b a)with z|z
  .show .inr (by rw[z];show a_ (Β _))
  .show .inl z
 let ff:∀{h h':ϖ}{fs u2:List J}{l:List Env},h.FunFrames base l->Mv fs u2 h h'->(∀b∈gx l,b∉u2)->h'.FunFrames base l:=λ{h h' fs u2 l} hl m j=>by
  induction l with
  |nil=>trivial
  |cons env b3 ih=>
   ext(⟨hk,⟨L,o,G,t,i,p⟩,hr⟩:hl);let u2:gx (env::b3)=L::gx b3:=by unfold gx;rw[B7,G]
   rw[u2]at j;ext(⟨sl,e'⟩:m.slot L o (j L Γ) i);show{hk,{L,0,G,t,e',p},ih hr λb a=>j b (ς _ a)}
 ext(⟨mm,a3,_⟩:V.loc);let eC:e≠s.heap.objs.size+1/\T≠s.heap.objs.size+1:=by
  ext(⟨W,es,ep,t,u0,_⟩:a3);ext(⟨⟨oe,vs,B,_,_,de,_⟩,⟨oT,ts,g,dT,_⟩,_⟩:xo);show{λz=>?_,λz=>?_}
  .rw[z]at B;let:Z oe=Z W:=B.symm.trans t;cases this;rw[de]at u0;cases u0
  .rw[z]at g;let:Z oT=Z W:=g.symm.trans t;cases this;rw[dT]at u0;cases u0
 change Ο _ _ (noteFrame (.ref e) (be (dq P w) P w K mg base N qual sc f cd A outer s0 H0 E).env) _ _ X;show nt d.ok.frames d.stack U xo (by simp[M2]) λh3 c l3 m3 x3=>?_;let d2:s.heap.objs.size+1<c:=Ϝ a3.lt l3;show{mm,2,λh4 s4 f8 _=>?_}
 .ext(⟨W,es,ep,t,r⟩:a3);show{W,es,ep,m3.keep _ _ (λz=>absurd (fr _ z).1 (PB.mpr (x9 _))) (λz=>by
   rcases ν.mp z with z|z
   .show eC.1 z.symm
   .show eC.2 (ξ.mp z).symm) t,r}
 let m4:Mv [] [s.heap.objs.size+1] h3 h4:={λb o _ n z=>s4.extBut b o (λq=>n (by rw[q];simp)) z,λb o n z=>{o.slots,s4.extBut b o (λq=>n (by rw[q];simp)) z}};let x4:=Du x3 λb o a z=>s4.extBut b o (a.elim (λa=>a▸eC.1) λa=>a▸u9 d2) z;ext(⟨oe,vs,B,hc,f9,p,h1,h2⟩:x4.obj);show η (b_ B p h1 ?_);rw[Q6 ()];show η (wI x4 λh5 m5 x5=>wpAny_throw ?_);let a0:Mv (gx (be (dq P w) P w K mg base N qual sc f cd A outer s0 H0 E).stack) [e,T,s.heap.objs.size+1,c] X.heap h5:=
  (m3.mono (λ_ z=>z) λb z=>by grind).trans ((m4.mono (λ_ z=>absurd z ()) λb z=>by grind).trans (m5.mono (λ_ z=>absurd z ()) λb z=>by grind))
 let a2:∀b∈[e,T,s.heap.objs.size+1,c],D b=χ:=λb a=>by
  rcases ν.mp a with z|a
  .rw[z];show ue
  rcases ν.mp a with z|a
  .rw[z];show uT
  rcases ν.mp a with z|a
  .rw[z];show V.free
  .rw[ξ.mp a];show u1.fresh l3
 let a1:∀b∈[e,T,s.heap.objs.size+1,c],s0.heap.get? b=χ:=λb a=>by
  rcases ν.mp a with z|a
  .rw[z];show R e ne
  rcases ν.mp a with z|a
  .rw[z];show R T nT
  rcases ν.mp a with z|a
  .rw[z];show nC
  .rw[ξ.mp a];show b6 c X.heap d.base l3
 let b5:=a0.un d.base b8 a1;let b4:=a0.hok u1 d.stkFree a2;let d3:∀b∈gx (be (dq P w) P w K mg base N qual sc f cd A outer s0 H0 E).stack,b∉[e,T,s.heap.objs.size+1,c]:=λb a z=>by ext(⟨a1,a2,a3,a4⟩:fr b a);grind
 show Bf d.ok.frames (ff d.stack a0 d3) U x5 λh6 v l6 m6 x6=>?_;let S:D v=χ/\s0.heap.get? v=χ:=by
  rcases l6 with z|z
  .rw[z];show{a2 c (),a1 c ()}
  .show{b4.fresh z,b6 v h5 b5 z}
 let c9:∀b∈[e,c,v],D b=χ:=λb a=>by
  rcases ν.mp a with z|a
  .rw[z];show ue
  rcases ν.mp a with z|a
  .rw[z];show a2 c ()
  .rw[ξ.mp a];show S.1
 let d1:∀b∈[e,c,v],s0.heap.get? b=χ:=λb a=>by
  rcases ν.mp a with z|a
  .rw[z];show R e ne
  rcases ν.mp a with z|a
  .rw[z];show a1 c ()
  .rw[ξ.mp a];show S.2
 show{e,v,C,dx,D,1,d.os,M,m6.un b5 b8 d1,m6.hok b4 d.stkFree c9,x6,R e ne,S.2,ue,S.1,q}
variable{own:List Str}{ix:List Nat}{elt tg iter:ϲ}{ifs:List ϲ}{pos:Pos}{wi:TI}{g:TG}{tt:TT}{te:TE}
def Jq(p:PI (be (dq P w) P w K mg base N qual sc f cd A outer s0 H0 E) tg iter wi)(L:dI N sc scope own ix)
  (M:∀fp s H,PG ((be (dq P w) P w K mg base N qual sc f cd A outer s0 H0 E).comp (iH N own ix) scope fp s H) tg g) (u2:GW own.length g)
  (z:∀fp s H,Jl ((be (dq P w) P w K mg base N qual sc f cd A outer s0 H0 E).comp (iH N own ix) scope fp s H) ifs tt)
  (G:∀fp s H i,dh (dq P w) (((be (dq P w) P w K mg base N qual sc f cd A outer s0 H0 E).comp (iH N own ix) scope fp s H).wish i) E->PE (((be (dq P w) P w K mg base N qual sc f cd A outer s0 H0 E).comp (iH N own ix) scope fp s H).wish i) elt te)
  (y:autoParam (∀x,foldedSetIterable iter (be (dq P w) P w K mg base N qual sc f cd A outer s0 H0 E).env x=pure x) yI._auto_1):PE (be (dq P w) P w K mg base N qual sc f cd A outer s0 H0 E) (.ListComp elt [{tg,iter,ifs,(0)}] scope pos) (Mg wi own.length ix g tt te):=by
 intro pins s σ H Q I h;rw[eval_ListComp];show M9 U y (I.clos L) L.kind L.names (bn (p pins s σ H _ I h) λv s1 t=>bn t ?_);ext u1 s2 ⟨it,fp,tn,u3,u0,rfl,a,T,j,c,W⟩;show nQ (C:=λX=>X.calm=Y) L U M u2 z (G _ _ _ _ (Bc a c)) a T j c W ?_;intro D C B ys H' m V F R S r n d u q;show{m,V,λh' k=>{.ref D,0,u.turned (t':=B.toks) (λb o l e=>k.extBut b o l e) n F (.inr S) R r,1,q D d}}
def ES(d:lV X.prog X.w X.K X.mg X.base k x ps sp)(j:bU k X.A)(i:Gl X x)(l:dh (dq X.prog X.w) X E)(n:PA X (e::es) t)(a:autoParam ((x==("__debug__" : Str))=Α) yD._auto_1)
  (o:autoParam (Ϗ (e::es) X.env=(Α,eval e X.env)::Ϗ es X.env) yR._auto_1) (c:autoParam ((A5 pos (Ϗ es X.env)).any (·.1)=Α) yR._auto_1):PE X (.Call (.Name x p) (e::es) [] pos) (jk sp [] E t):=by
 ext(⟨f,q,F,b,h,m⟩:d.ex);show rg F j i m h b .nil l n a o c
end
open PySem PySem.Spec PyProof.Rows PySem.W
abbrev JW:=VK->XK->St->Hp->Prop
def Mb(X:Cx)(e:ϲ)(t:JW):Prop:=∀(pins:List (J×Obj))(s:ρ)(σ:St)(H:Hp)(Q:VK)(E:XK),au X pins σ H s->t Q E σ H->Ο (ϊ X.prog X.w) X.A (eval e X.env) (EP X pins σ Q) (XE X pins σ E) s
abbrev Ma:=(St->Hp->Prop)->XK->St->Hp->Prop
def NG(X:Cx)(body:List ϯ)(t:Ma):Prop:=∀(pins:List (J×Obj))(s:ρ)(σ:St)(H:Hp)(N:St->Hp->Prop)(E:XK),au X pins σ H s->t N E σ H ->
 Ο (ϊ X.prog X.w) X.A (execs body X.env) (λf s1=>f=.next/\∃σ' H',au X pins σ' H' s1/\N σ' H') (XE X pins σ E) s
def Cb(sp:Sp)(t:TA):JW:=λQ E σ H=>t σ H λvs H1=>sp vs H1 Q E
def KK(r:R2)(t:JW)(u:TE):JW:=λQ E σ H=>t (λx H1=>u σ H1 λy H2=>r x y H2 Q) E σ H
def Ii(i:Nat)(t:JW):Ma:=λN E σ H=>t (λv H1=>N (σ.set i (Z v)) H1) E σ H
def Ce(K:Frag)(D fI:J)(i:Nat)(tb:Ma)(ts:J->TS):TS:=λDn σ H=>tb Dn.nx (λcv dxo H2=>∃C dx v,cv=.ref C/\dxo=Z dx/\eT K D fI C/\H2 dx=Z (.xd [("place",v)]) /\
 ∀e,H2 e=χ->ts e {nx:=λσ' H'=>Dn.nx (σ'.set i χ) H',rt:=Dn.rt,bk:=λσ' H'=>Dn.bk (σ'.set i χ) H',ct:=λσ' H'=>Dn.ct (σ'.set i χ) H'} (σ.set i (Z (.ref e))) (upd H2 e (Xh C dx e))) σ H
section
variable{X:Cx}{D fI f:J}{x xD n:Str}{np cpos epos tp hpos pos:Pos}{e:ϲ}{es:List ϲ}{t:TA}{k i:Nat}{fd:ό}{ps:List Str}{sp:Sp}{b₀:ϯ}{suite:List ϯ}{ts:J->TS}{tb tu:Ma}{te:JW}{body other:List ϯ}
def uZ(hx0:∀v s,X.xe v s->False)(hex:X.ex=[])(F:ap X.prog X.w X.K X.mg X.base (dq X.prog X.w) k f fd ps sp)(hr:bU k X.A)(hg:Gl X x)(hm:X.mg x=Z (.ref f))(hk:keepIn X.K (.ref f)=Y)(hb:bo X.K fd ps [])(ha:PA X (e::es) t)
  (hdb:(x==("__debug__" : Str))=Α:=by decide) (he:Ϗ (e::es) X.env=(Α,eval e X.env)::Ϗ es X.env:=by rfl) (hpl:(A5 cpos (Ϗ es X.env)).any (·.1)=Α:=by rfl):
  Mb X (.Call (.Name x np) (e::es) [] cpos) (Cb sp t):=by
 intro pins s σ H Q E I h;show m8 (gm I hg hm ?_ hdb);show C_ (h₀:=X.base) I.ok.mod.kin hk (i7 (ha cpos pins s σ H _ I h) (λus s1 ⟨vs,H1,I1,r,q⟩=>{I1.kIn,2}) λv s' z=>(hx0 v s' z).elim) he hpl;let hl:(us++[]).length=ps.length:=by rw[ϣ,<-r.length];show F.len _ _ _ _ q
 show N7 (C1 (F.run X.A X.stack s1 H1 {us,[]} (us++[]) vs _ _ hr I1.env0 (hb s1 us I1.kIn hl) (by rw[ϣ];show r) q) λz s' hq=>?_);cases z with
 |ok fl=>
  cases fl with
  |ret u=>ext(⟨v,H2,I2,rv,q2⟩:I1.after hq);show{v,H2,I2,rv,q2}
  |next=>show j9 hq
  |brk=>show j9 hq
  |cont=>show j9 hq
 |error ev=>
  ext(⟨a,T,C0,dx0,H',rfl,os,bare,un,hok,xo,ne,nT,ue,uT,q2⟩:hq);let I2:au X pins σ H' s':=I1.call' (ch:=[]) os un hok bare λb z=>absurd z ();let old:∀b:J,s1.heap.get? b=χ->X.s₀.heap.get? b=χ:=λb hb=>by
   cases z:X.s₀.heap.get? b with
   |none=>rfl
   |some o=>obtain⟨o',z'⟩:=I1.base.there b o z (by rw[hex];simp);rw[hb]at z';cases z'
  let pin1:∀b,s1.heap.get? b=χ->∀p∈X.pn++pins,p.1≠b:=λb hb p hp z=>by let y:=(I1.pin p hp).1;rw[z,hb]at y;cases y
  show{a,T,C0,dx0,H',1,I2,xo,{ue,uT},{old a ne,old T nT},{pin1 a ne,pin1 T nT},q2}
def Eu{a b:ϲ}{op:QP}{r:R2}{tb:TE}(hx0:∀v s,X.xe v s->False)(ho:fQ X (ϻ op) r)(ha:Mb X a te)(hb:PE X b tb)(hm:behindInMarks op b=Α):Mb X (.Compare a [op] [b] pos) (KK r te tb):=by intro pins s σ H Q E I h;show wpAny_Compare1 (bn (ha pins s σ H _ E I h) λv s1 ⟨x,H1,I1,r1,q1⟩=>?_) hm;show i7 (hb pins s1 σ H1 _ I1 q1) (λu s2 ⟨y,H2,I2,r2,q2⟩=>?_) λv s' z=>(hx0 v s' z).elim;show i7 (ho pins s2 σ H2 x y v u Q I2 r1 r2 q2) (λ_ _ z=>z) λv s' z=>(hx0 v s' z).elim
def ye{pos':Pos}{e:ϲ}(hN:X.N.Nodup)(hi:X.N[i]?=Z x)(hx:Hm X.env.scope x)(he:Mb X e te)(hs:swapsWith e (Z (.Name x pos')) pos.line X.env=pure Α:=by rfl)(hf:X.fn x=Y\/X.env.scope.names.lookup x=Z .local:=by first|show .inl rfl|show .inr rfl|assumption):NG X [.Assign [.Name x pos'] e pos] (Ii i te):=by intro pins s σ H N E I h;show Qh (wpAny_Assign_Name (bn (he pins s σ H _ E I h) λv s1 ⟨y,H1,I1,r1,q1⟩=>?_) hs);show gT I1 hN hi hx r1 (λs2 I2=>J4 {10,H1,I2,q1}) hf
def xL(hB:NG X body tb)(hx0:∀v s,X.xe v s->False)
  (hT:AU X.K D) (hgD:Gl X xD) (hmD:X.mg xD=Z (.ref D)) (hst:X.stack=X.env::X.outer) (hfr:X.env.frame=Z X.env.locals) (hN:X.N.Nodup) (hi:X.N[i]?=Z n) (hloc:X.env.scope.names.lookup n=Z .local)
  (hsu:∀e,kl (sP X e) (b₀::suite) (ts e)) (hdD:(xD==("__debug__" : Str))=Α:=by decide):
  PS X (.Try body [.ExceptHandler (Z (.Name xD tp)) (Z n) (b₀::suite) hpos] [] [] pos) (Ce X.K D fI i tb ts):=by
 intro pins s σ H Dn I h;show wpAny_Try_except (i7 (hB pins s σ H _ _ I h) (λfl s1 ⟨e1,σ2,H2,I2,q2⟩=>?_) λev s' hq=>?_)
 .subst e1;show J4 {σ2,H2,I2,q2}
 .ext(⟨a,T,C0,dx0,H',rfl,I2,xo,⟨ue,uT⟩,⟨oa,oT⟩,⟨pa,pT⟩,C,dx,v,ec,ed,c,hdx,q2⟩:hq);cases ec;cases ed;let hfr':X.A.frames=Z (X.env::X.outer):=by rw[<-hst];show I2.ok.frames
  let hfun:s'.heap.FunFrames X.base (X.env::X.outer):=hst▸I2.stack;let flds:∀b o vs,s'.heap.get? b=Z o->o.data=.fields vs->b≠X.env.locals/\∀x c,X.env.cells.lookup x=Z c->c≠b:=λb o vs q hd=>by
   show{λz=>?_,λx c qc z=>?_}
   .ext(⟨m,⟨o',es,ep,ho',hd',_⟩,_⟩:I2.loc);rw[<-z,q]at ho';cases ho';rw[hd]at hd';cases hd'
   .ext(⟨v,o',ho',hd'⟩:I2.cell x c qc);rw[z,q]at ho';cases ho';rw[hd]at hd';cases hd'
  let fe:=let ⟨⟨oe,vs,he,_,_,hd,_⟩,_,_⟩:=xo;flds a oe vs he hd
  let fT:=let ⟨_,⟨oT,ts,hT,hd,_⟩,_⟩:=xo;flds T oT ts hT hd
  show pY (base:=X.base) (L:=X.env.locals) hfr' hfun hfr xo λh1 T1 l1 m1 x1=>?_;show eB (s:={s' with heap:=h1}) x1 λh2 m2 x2=>?_;let mm:Mv (gx X.stack) [a,T,T1] s'.heap h2:=by
   rw[hst];show(m1.mono (λ_ z=>z) λb z=>?_).trans (m2.mono (λ_ z=>absurd z ()) λb z=>?_)
   .rcases ν.mp z with z|z
    .show ν.mpr (.inl z)
    .show ς _ (ν.mpr (.inl (ξ.mp z)))
   .show ς _ (ς _ z)
  let all3:∀{p:J->Prop},p a->p T->p T1->∀b∈[a,T,T1],p b:=λp1 p2 p3 b hb=>by
   rcases ν.mp hb with z|hb
   .rw[z];show p1
   .rcases ν.mp hb with z|z
    .rw[z];show p2
    .rw[ξ.mp z];show p3
  let lt1:∀b o,s'.heap.get? b=Z o->b≠T1:=λb o q=>Ϙ (Ϝ (Η q) l1);let g0:=all3 (p:=λb=>X.s₀.heap.get? b=χ) oa oT (a_ (ϩ I2.sz l1));let g1:=all3 (p:=λb=>H' b=χ) ue uT (I2.hok.fresh l1);let g2:=all3 (p:=λb=>b≠X.env.locals) fe.1 fT.1 (u9 (Ϝ I2.lt l1));let g3:=all3 (p:=λb=>∀x c,X.env.cells.lookup x=Z c->c≠b) fe.2 fT.2 λx c q=>let ⟨_,o,z,_⟩:=I2.cell x c q;lt1 c o z
  let g4:=all3 (p:=λb=>∀p∈X.pn++pins,p.1≠b) pa pT λp hp=>lt1 _ _ (I2.pin p hp).1;let I3:au X pins σ H' {s' with heap:=h2}:=DR I2 mm g0 g1 g2 g3 g4;ext(⟨nm,q',N,bs,sn,sub,ab,col,dd,k0,k1,k2,k3,k5,lk⟩:c.obj);ext(⟨nm',q'',N',bs',sn',sub',ab',col',dd',j0,j1,j2,j3,j5,lkD⟩:hT.obj);show wpAny_handleBy_cons (codeAny_handlers_test (gm (X:=sP X a) (vg I3 a) hgD hmD ?_ hdD)) (by intro z;cases z);ext(⟨oe,vs,he2,hc2,hd2,_⟩:x2.obj);ext(⟨hp0,g,dr,tk,os0⟩:s');show CP (I3.kIn _ _ lk) (I3.kIn _ _ lkD) he2 hc2 ?_;show codeAny_handlers_suite_as (eB (s:={h2,g,dr,tk,os0}) x2 λh3 m3 x3=>?_);let I4:au X pins σ H' {h3,g,dr,tk,os0}:=DR I3 ((m3.mono (λ_ z=>absurd z ()) λb z=>ς _ (ς _ z)):Mv (gx X.stack) [a,T,T1] h2 h3) g0 g1 g2 g3 g4;let I5:=AH (o:=Xh C0 dx0 a) I4 ue oa fe.1 fe.2 pa (Ks x3);show gT (X:=sP X a) (vg I5 a) hN hi (.inl hloc) (v:=.ref a) U (λs6 I6=>?_) (.inr hloc);show i7 (hsu a pins s6 _ _ _ I6 (q2 a ue)) (λfl s7 h7=>?_) λ_ _ z=>z.elim;let goes:∀(σ':St)(H7:Hp)(Q:ρ->Prop),au (sP X a) pins σ' H7 s7->(∀s8,au X pins (σ'.set i χ) H7 s8->Q s8)->Ο (ϊ X.prog X.w) X.A (do bindName X.env n .none;unbindBehindTheSuite X.env n hpos) (λ_ s8=>Q s8) X.xe s7:=λσ' H7 Q I7 hQ=>by let I7':=vX I.ok I7;ext(⟨m7,hn7,hl7⟩:id I7'.loc);show wpAny_nameGoes_keeps hloc hn7 (by rw[I.ok.kind];rfl) λh8 v8 n8 s8=>hQ _ (Do I7' hN hi s8 n8 hl7)
  cases fl with
  |next=>ext(⟨σ',H7,I7,z⟩:h7);show goes σ' H7 _ I7 λs8 I8=>{0,H7,I8,z}
  |brk=>ext(⟨σ',H7,I7,z⟩:h7);show goes σ' H7 _ I7 λs8 I8=>{0,H7,I8,z}
  |cont=>ext(⟨σ',H7,I7,z⟩:h7);show goes σ' H7 _ I7 λs8 I8=>{0,H7,I8,z}
  |ret u=>ext(⟨v,σ',H7,I7,rv,z⟩:h7);show goes σ' H7 _ I7 λs8 I8=>{v,0,H7,I8,rv,z}
def Ex{j:Nat}{y:Str}{py:Pos}(F:ap X.prog X.w X.K X.mg X.base (dq X.prog X.w) k f fd ps sp)(hr:bU k X.A)(hg:Gl X x)(hm:X.mg x=Z (.ref f))(hk:keepIn X.K (.ref f)=Y)(hb:bo X.K fd ps [])(ha:PA X (e::es) t)(hx0:∀v s,X.xe v s->False)(hex:X.ex=[])
  (hT:AU X.K D) (hgD:Gl X xD) (hmD:X.mg xD=Z (.ref D)) (hst:X.stack=X.env::X.outer) (hfr:X.env.frame=Z X.env.locals) (hN:X.N.Nodup) (hi:X.N[i]?=Z n) (hloc:X.env.scope.names.lookup n=Z .local)
  (hsu:∀e,kl (sP X e) (b₀::suite) (ts e))
  (hj:X.N[j]?=Z y) (hy:Hm X.env.scope y) (hfy:X.fn y=Y\/X.env.scope.names.lookup y=Z .local) (hdD:(xD==("__debug__" : Str))=Α:=by decide) (hdb:(x==("__debug__" : Str))=Α:=by decide) (he:Ϗ (e::es) X.env=(Α,eval e X.env)::Ϗ es X.env:=by rfl) (hpl:(A5 cpos (Ϗ es X.env)).any (·.1)=Α:=by rfl) (hs:swapsWith (.Call (.Name x np) (e::es) [] cpos) (Z (.Name y py)) epos.line X.env=pure Α:=by rfl):
  PS X (.Try [.Assign [.Name y py] (.Call (.Name x np) (e::es) [] cpos) epos] [.ExceptHandler (Z (.Name xD tp)) (Z n) (b₀::suite) hpos] [] [] pos) (Ce X.K D fI i (Ii j (Cb sp t)) ts):=
 xL (ye hN hj hy (uZ hx0 hex F hr hg hm hk hb ha hdb he hpl) hs hfy) hx0 hT hgD hmD hst hfr hN hi hloc hsu hdD
def GJ{j:Nat}{y:Str}{py cp:Pos}{b:ϲ}{op:QP}{r:R2}{ub:TE}(ho:fQ X (ϻ op) r)(hbb:PE X b ub)(F:ap X.prog X.w X.K X.mg X.base (dq X.prog X.w) k f fd ps sp)(hr:bU k X.A)(hg:Gl X x)(hm:X.mg x=Z (.ref f))(hk:keepIn X.K (.ref f)=Y)(hb:bo X.K fd ps [])(ha:PA X (e::es) t)(hx0:∀v s,X.xe v s->False)(hex:X.ex=[])
  (hT:AU X.K D) (hgD:Gl X xD) (hmD:X.mg xD=Z (.ref D)) (hst:X.stack=X.env::X.outer) (hfr:X.env.frame=Z X.env.locals) (hN:X.N.Nodup) (hi:X.N[i]?=Z n) (hloc:X.env.scope.names.lookup n=Z .local)
  (hsu:∀e,kl (sP X e) (b₀::suite) (ts e))
  (hj:X.N[j]?=Z y) (hy:Hm X.env.scope y) (hfy:X.fn y=Y\/X.env.scope.names.lookup y=Z .local) (hdD:(xD==("__debug__" : Str))=Α:=by decide) (hdb:(x==("__debug__" : Str))=Α:=by decide) (he:Ϗ (e::es) X.env=(Α,eval e X.env)::Ϗ es X.env:=by rfl) (hpl:(A5 cpos (Ϗ es X.env)).any (·.1)=Α:=by rfl) (hm2:behindInMarks op b=Α:=by first|show Ef _ () () |rfl) (hs:swapsWith (.Compare (.Call (.Name x np) (e::es) [] cpos) [op] [b] cp) (Z (.Name y py)) epos.line X.env=pure Α:=by rfl):
  PS X (.Try [.Assign [.Name y py] (.Compare (.Call (.Name x np) (e::es) [] cpos) [op] [b] cp) epos] [.ExceptHandler (Z (.Name xD tp)) (Z n) (b₀::suite) hpos] [] [] pos) (Ce X.K D fI i (Ii j (KK r (Cb sp t) ub)) ts):=
 xL (ye hN hj hy (Eu hx0 ho (uZ hx0 hex F hr hg hm hk hb ha hdb he hpl) hbb hm2) hs hfy) hx0 hT hgD hmD hst hfr hN hi hloc hsu hdD
end
open PySem PySem.Spec PyProof.Rows PySem.W
def jK:fD 0 .non:=λX pins σ H s I A v w a b hu r1 r2 q1 q2=>by simp only[ah]at r1 r2;subst r1 r2;obtain rfl:a=w_:=q1;obtain rfl:b=w_:=q2;show E6 _
def DI{n:Nat}{ds:List Dv}(h:∀d∈ds,fD n d):fD (n+1) (.lst ds):=λX pins σ H s I A v w a b hu r1 r2 q1 q2=>by
 simp only[ah]at r1 r2;ext(⟨l,vs,rfl,h1,rs1⟩:r1);ext(⟨b',ws,rfl,h2,rs2⟩:r2);cases q1;cases q2;by_cases e:l=b'
 .subst e;show E6 _
 ext(⟨its,rv1,p1,_⟩:I.list (aw.of h1));ext(⟨its2,rv2,p2,_⟩:I.list (aw.of h2));let hu':A.in1.units+n<B8:=by change A.units+1+n<B8;omega
 ext(⟨z,q⟩:eR I (A:=A.in1) h hu' rs1 rs2 rv1 rv2);let r:=Qj (e:=λ_=>Y) p1.isList p2.isList z () q;let t:(ϳ its.toArray.size).all (λ_=>Y)=Y:=();show PC e (t▸r)
def FX{n:Nat}{d:Dv}(h:L2.Pl n d):fD n d:=by
 induction h with
 |int=>show oO.mono (Τ _)
 |str=>show CD.mono (Τ _)
 |non=>show jK.mono (Τ _)
 |tup _ ih=>show nI ih
section
variable{X:Cx}
def wP(hu:X.A.units+150<B8):fQ X (ϻ .Eq) (λx y H Q=>∃ds:List Dv,((ah H (.tup ds) x/\ah H (.tup ds) y)\/(ah H (.lst ds) x/\ah H (.lst ds) y))/\(∀d∈ds,fD 140 d)/\Q (.bl Y) H):=by
 intro pins s σ H x y v u Q I rx ry h;ext(⟨ds,r,hd,q⟩:h);let hu':X.A.in1.units+140<B8:=by change X.A.units+1+140<B8;omega
 rcases r with ⟨r1,r2⟩|⟨r1,r2⟩
 .simp only[ah]at r1 r2;ext(⟨l,vs,rfl,h1,rs1⟩:r1);ext(⟨b',ws,rfl,h2,rs2⟩:r2);cases rx;cases ry;ext(⟨its,rv1,p1,_⟩:I.tuple (aq.of h1));ext(⟨its2,rv2,p2,_⟩:I.tuple (aq.of h2));ext(⟨z,w⟩:eR I (A:=X.A.in1) hd hu' rs1 rs2 rv1 rv2);show P6 (e:=λ_=>Y) p1 p2 () w X.prog X.w X.xe _ ?_;show{.bl Y,H,I,2,q};change N5 _=N5 Y;simp[z]
 .simp only[ah]at r1 r2;ext(⟨l,vs,rfl,h1,rs1⟩:r1);ext(⟨b',ws,rfl,h2,rs2⟩:r2);cases rx;cases ry;ext(⟨its,rv1,p1,_⟩:I.list (aw.of h1));ext(⟨its2,rv2,p2,_⟩:I.list (aw.of h2));ext(⟨z,w⟩:eR I (A:=X.A.in1) hd hu' rs1 rs2 rv1 rv2);show Qj (e:=λ_=>Y) p1.isList p2.isList z () w X.prog X.w X.xe _ ?_;show{.bl Y,H,I,2,q};change N5 _=N5 Y;simp[z]
def BK(hu:X.A.units+150<B8):fQ X (ϻ .NotEq) (λx y H Q=>∃ds:List Dv,ah H (.tup ds) x/\ah H (.tup ds) y/\(∀d∈ds,fD 140 d)/\Q (.bl Α) H):=by
 intro pins s σ H x y v u Q I rx ry h;ext(⟨ds,r1,r2,hd,q⟩:h);simp only[ah]at r1 r2;ext(⟨l,vs,rfl,h1,rs1⟩:r1);ext(⟨b',ws,rfl,h2,rs2⟩:r2);cases rx;cases ry;ext(⟨its,rv1,p1,_⟩:I.tuple (aq.of h1));ext(⟨its2,rv2,p2,_⟩:I.tuple (aq.of h2));let hu':X.A.in1.units+140<B8:=by change X.A.units+1+140<B8;omega
 ext(⟨z,w⟩:eR I (A:=X.A.in1) hd hu' rs1 rs2 rv1 rv2);show SeqAt.RcNeAt.tuples (e:=λ_=>Y) p1 p2 () w X.prog X.w X.xe _ ?_;let e:(!((ϳ (min its.toArray.size its2.toArray.size)).all (λ_=>Y)&&its.toArray.size==its2.toArray.size))=Α:=by simp[z]
 rw[e];show{.bl Α,H,I,1,q}
end
end L2.EX
namespace WR
open PySem L2 L2.EX
structure Bx(p:Prop):Prop where
 h:p
def zK(h:1=1:=by decide +kernel):True:=trivial
def zJ(h:1=1:=by intro _ _;rfl):True:=trivial
def zA(h:1=1:=by assumption):True:=trivial
def zN(h:1=1:=by first|show DU _|with_unfolding_all rfl):True:=trivial
def Mc(N:List Str)(sc:OA)(i:Nat)(x:Str):Bool:=decide (N[i]?=Z x)&&((sc.names.lookup x==Z .local||sc.names.lookup x==Z .cell||sc.names.lookup x==Z .free)&&(x==("__debug__" : Str)||x==("__classdict__" : Str))==Α)
def wv{X:Cx}(i:Nat){x:Str}{pos:Pos}(h:Mc X.N X.env.scope i x=Y:=by rfl):Bx (PE X (.Name x pos) (km i)):=by simp only[Mc,ψ,Bool.or_eq_true,decide_eq_true_eq,beq_iff_eq]at h;ext(⟨a,b,c⟩:h);let c1:=Bool.or_eq_false_iff.mp c;show{pv i a (by rcases b with (b|b)|b;show .inl b;show .inr (.inl b);show .inr (.inr b)) c1.1 c1.2}
def iz:=λ{v0 v1 v2} (v3:Bx _)=>Bx.mk (@L2.PW.pt v0 v1 v2 v3.h)
def Ku:=λ{v0 v1 v2 v3 v4 v5 v6 v7} (v8:Bx _) (v9:Bx _) (v10:Bx _)=>Bx.mk (@L2.pe_ifExp v0 v1 v2 v3 v4 v5 v6 v7 v8.h v9.h v10.h)
def ay:=λ{v0 v1 v2 v3 v4} (v5:Bx _) (v6:Bx _) (v7:autoParam _ yR._auto_1)=>Bx.mk (@L2.pa_cons v0 v1 v2 v3 v4 v5.h v6.h v7)
def pZ:=λ{v0}=>Bx.mk (@L2.pa_nil v0)
def iV:=λ{v0 v1 v2 v3 v4 v5 v6} (v7:Bx _) (v8:Bx _)=>Bx.mk (@L2.pe_and v0 v1 v2 v3 v4 v5 v6 v7.h v8.h)
def gA:=λ{v0 v1 v2 v3}=>Bx.mk (@L2.pe_bl v0 v1 v2 v3)
def vB:=λ{v0 v1 v3 v4} v2 v6 v8 (v5:autoParam _ yR._auto_1) (v7:autoParam _ zK._auto_1) (v9:autoParam _ yD._auto_1) (v10:autoParam _ yD._auto_1)=>Bx.mk (@L2.pe_bltn v0 v1 v3 v2 v4 v5 v6 v7 v8 v9 v10)
def fv:=λ{v0 v1 v2 v3 v4 v5 v6 v7 v8 v9 v10 v11} v12 v13 v14 v15 (v16:Bx _) (v17:Bx _) (v18:autoParam _ yR._auto_1) (v19:autoParam _ yR._auto_1) (v20:autoParam _ yR._auto_1) (v21:autoParam _ yR._auto_1) (v22:autoParam _ yR._auto_1)=>Bx.mk (@L2.pe_bm v0 v1 v2 v3 v4 v5 v6 v7 v8 v9 v10 v11 v12 v13 v14 v15 v16.h v17.h v18 v19 v20 v21 v22)
def LW:=λ{v0 v1 v2 v3 v4 v5 v6 v7 v8} v9 v10 v11 v12 (v13:Bx _) (v14:autoParam _ yR._auto_1) (v15:autoParam _ yR._auto_1)=>Bx.mk (@L2.pe_bm0 v0 v1 v2 v3 v4 v5 v6 v7 v8 v9 v10 v11 v12 v13.h v14 v15)
def cn:=λ{v0 v1 v2 v3 v4 v5 v6 v7 v8} v9 v11 (v13:Bx _) (v10:autoParam _ yR._auto_1) (v12:autoParam _ zK._auto_1) (v14:autoParam _ yD._auto_1) (v15:autoParam _ yD._auto_1) (v16:autoParam _ yR._auto_1) (v17:autoParam _ yR._auto_1)=>Bx.mk (@L2.pe_callB v0 v1 v2 v3 v4 v5 v6 v7 v8 v9 v10 v11 v12 v13.h v14 v15 v16 v17)
def kZ:=λ{v0 v1 v2 v3 v4 v5 v6 v7 v8} v9 v11 (v13:Bx _) (v10:autoParam _ yR._auto_1) (v12:autoParam _ zK._auto_1) (v14:autoParam _ yD._auto_1) (v15:autoParam _ yD._auto_1) (v16:autoParam _ yR._auto_1) (v17:autoParam _ yR._auto_1)=>Bx.mk (@L2.pe_callTy v0 v1 v2 v3 v4 v5 v6 v7 v8 v9 v10 v11 v12 v13.h v14 v15 v16 v17)
def Md:=λ{v0 v1 v2 v3 v4 v5 v6 v7 v8 v9 v10 v11} v12 v13 v14 v15 v16 (v17:Bx _) (v18:autoParam _ yR._auto_1) (v19:autoParam _ yF._auto_1) (v20:autoParam _ yD._auto_1) (v21:autoParam _ yD._auto_1) (v22:autoParam _ yR._auto_1) (v23:autoParam _ yR._auto_1)=>Bx.mk (@L2.pe_callV v0 v1 v2 v3 v4 v5 v6 v7 v8 v9 v10 v11 v12 v13 v14 v15 v16 v17.h v18 v19 v20 v21 v22 v23)
def Mf:=λ{v0 v1 v2 v3 v4 v5 v6 v7 v8 v9 v10 v11} v12 v13 (v14:Bx _) (v15:Bx _) (v16:Bx _) (v17:autoParam _ yU._auto_1)=>Bx.mk (@L2.pe_chain v0 v1 v2 v3 v4 v5 v6 v7 v8 v10 v9 v11 v12 v13 v14.h v15.h v16.h v17)
def jO:=λ{v0 v1 v2 v3 v4 v5 v6 v7} v8 (v9:Bx _) (v10:Bx _) (v11:autoParam _ zN._auto_1)=>Bx.mk (@L2.pe_cmpR v0 v1 v2 v3 v4 v5 v6 v7 v8 v9.h v10.h v11)
def aL:=λ{v0 v1 v2 v3 v4 v5 v6 v7 v8 v9} v10 (v13:Bx _) (v11:autoParam _ zA._auto_1) (v12:autoParam _ yR._auto_1) (v14:autoParam _ yD._auto_1) (v15:autoParam _ yR._auto_1) (v16:autoParam _ yR._auto_1)=>Bx.mk (@L2.pe_def v0 v1 v2 v3 v4 v5 v6 v7 v8 v9 v10 v11 v12 v13.h v14 v15 v16)
def Oq:=λ{v0 v1 v2 v3 v4 v5 v6} v7 (v8:autoParam _ zA._auto_1) (v9:autoParam _ yR._auto_1) (v10:autoParam _ yD._auto_1)=>Bx.mk (@L2.pe_def0 v0 v1 v2 v3 v4 v5 v6 v7 v8 v9 v10)
def LQ:=λ{v0 v1 v2 v3 v4 v5} (v6:Bx _)=>Bx.mk (@L2.pe_fstr v0 v1 v2 v3 v4 v5 v6.h)
def Fb:=λ{v0 v1 v2 v3} (v4:Bx _)=>Bx.mk (@L2.pe_fv v0 v1 v2 v3 v4.h)
def uE:=λ{v0 v1 v2 v3 v4} (v5:Bx _) (v6:Bx _)=>Bx.mk (@L2.pf_cons v0 v1 v2 v3 v4 v5.h v6.h)
def KD:=λ{v0}=>Bx.mk (@L2.pf_nil v0)
def Nd:=λ{v0 v1}=>Bx.mk (@L2.pe_dnewK v0 v1)
def vE:=λ{v0 v1 v3 v4} v2 v6 (v5:autoParam _ yR._auto_1) (v7:autoParam _ yR._auto_1) (v8:autoParam _ yD._auto_1)=>Bx.mk (@L2.pe_glob v0 v1 v3 v2 v4 v5 v6 v7 v8)
def az:=λ{v0 v1 v2 v3}=>Bx.mk (@L2.pe_int v0 v1 v2 v3)
def eh:=λ{v0 v1 v2 v3 v4 v5 v6} v7 (v8:Bx _) (v9:Bx _) (v10:autoParam _ zJ._auto_1)=>Bx.mk (@L2.pe_ix v0 v1 v2 v3 v4 v5 v6 v7 v8.h v9.h v10)
def lT:=λ{v0 v1 v4 v5 v6 v7 v8 v9 v10 v11 v12} v2 v3 (v13:Bx _) v14 v15 (v16:∀x0 x1 x2,Bx _) v17 (v18:∀x0 x1 x2,Bx _) (v19:∀x0 x1 x2,Bx _) (v20:autoParam _ yI._auto_1)=>Bx.mk (@L2.pe_lc v0 v1 v2 v3 v4 v5 v6 v7 v8 v9 v10 v11 v12 v13.h v14 v15 (λx0 x1 x2=>(v16 x0 x1 x2).h) v17 (λx0 x1 x2=>(v18 x0 x1 x2).h) (λx0 x1 x2=>(v19 x0 x1 x2).h) v20)
def Ob:=λ{v0 v1 v2 v3 v4 v5 v6} v7 v8 v9 v10 v11 (v12:Bx _) (v13:autoParam _ yR._auto_1) (v14:autoParam _ yR._auto_1)=>Bx.mk (@L2.pe_listrev v0 v1 v2 v3 v4 v5 v6 v7 v8 v9 v10 v11 v12.h v13 v14)
def FE:=λ{v0 v1 v2 v3 v4} (v5:Bx _) (v6:autoParam _ yR._auto_1)=>Bx.mk (@L2.pe_fld v0 v1 v2 v3 v4 v5.h v6)
def NT:=λ{v0 v1 v2 v3 v4 v5 v6 v7} (v8:Bx _) (v9:Bx _) v10=>Bx.mk (@L2.ps_fld v0 v1 v2 v3 v4 v5 v6 v7 v8.h v9.h v10)
def NQ:=λ{v0 v1 v2 v3 v4 v5 v6 v7 v8 v9} (v10:Bx _) (v11:Bx _) v12=>Bx.mk (@L2.ps_fldaug v0 v1 v2 v3 v4 v5 v6 v7 v8 v9 v10.h v11.h v12)
def Jb:=λ{v0 v1 v2 v3 v4 v5 v6 v7 v8 v9 v10 v11 v12 v13 v14 v15 v16 v17 v18 v19} (v20:Bx _) v21 v22 v23 v24 v25 v26 v27 (v28:Bx _) (v29:autoParam _ yR._auto_1) (v30:autoParam _ yR._auto_1) (v31:autoParam _ yR._auto_1)=>Bx.mk (@L2.pe_meth v0 v1 v2 v3 v4 v5 v6 v7 v8 v9 v10 v11 v12 v13 v14 v15 v16 v17 v18 v19 v20.h v21 v22 v23 v24 v25 v26 v27 v28.h v29 v30 v31)
def Oi:=λ{v0 v1 v2 v3 v4 v5 v6 v7 v8 v9 v10 v11 v12 v13 v14 v15 v16} v17 v18 v19 v20 v21 v22 v23 v24 (v25:Bx _) (v26:autoParam _ yD._auto_1) (v27:autoParam _ yR._auto_1) (v28:autoParam _ yR._auto_1)=>Bx.mk (@L2.pe_make v0 v1 v2 v3 v4 v5 v6 v7 v8 v9 v10 v11 v12 v13 v14 v15 v16 v17 v18 v19 v20 v21 v22 v23 v24 v25.h v26 v27 v28)
def Oh:=λ{v0 v1 v2 v3 v4 v5 v6 v7 v8 v9 v10 v11 v12 v13 v14 v15 v16} (v17:Bx _) v18 v19 v20 v21 v22 v23 v24 (v25:autoParam _ yR._auto_1)=>Bx.mk (@L2.pe_meth0 v0 v1 v2 v3 v4 v5 v6 v7 v8 v9 v10 v11 v12 v13 v14 v15 v16 v17.h v18 v19 v20 v21 v22 v23 v24 v25)
def fu:=λ{v0 v1 v2 v3} (v4:Bx _)=>Bx.mk (@L2.pe_lst v0 v1 v2 v3 v4.h)
def oR:=λ{v0 v1 v2}=>Bx.mk (@L2.pe_non v0 v1 v2)
def Om:=λ{v0 v1 v2 v3} (v4:Bx _)=>Bx.mk (@L2.pe_not v0 v1 v2 v3 v4.h)
def nO:=λ{v0 v1 v2 v3 v4} (v5:Bx _)=>Bx.mk (@L2.pe_one v0 v1 v2 v4 v3 v5.h)
def bh:=λ{v0 v1 v2 v3 v4 v5 v6 v7} v8 (v9:Bx _) (v10:Bx _)=>Bx.mk (@L2.pe_op v0 v1 v2 v3 v4 v5 v6 v7 v8 v9.h v10.h)
def NI:=λ{v0 v1 v2 v3 v4 v5 v6} (v7:Bx _) (v8:Bx _)=>Bx.mk (@L2.pe_or v0 v1 v2 v3 v4 v5 v6 v7.h v8.h)
def gp:=λ{v0 v1 v2 v3 v4 v5 v6 v7 v8 v9} v10 (v11:Bx _) (v12:Bx _) (v13:Bx _)=>Bx.mk (@L2.pe_slice v0 v1 v2 v3 v4 v5 v6 v7 v8 v9 v10 v11.h v12.h v13.h)
def aP:=λ{v0 v1 v2 v3}=>Bx.mk (@L2.pe_str v0 v1 v2 v3)
def cy:=λ{v0 v1 v2 v3 v4} (v5:Bx _)=>Bx.mk (@L2.pe_tup v0 v1 v2 v3 v4 v5.h)
def Mq:=λ{v0 v1 v2 v3 v4 v5} v6 (v7:Bx _)=>Bx.mk (@L2.pe_un v0 v1 v2 v3 v4 v5 v6 v7.h)
def eX:=λ{v0 v1 v3} v2 (v4:autoParam _ zA._auto_1) (v5:autoParam _ yR._auto_1) (v6:autoParam _ yF._auto_1) (v7:autoParam _ yF._auto_1)=>Bx.mk (@L2.pg_name v0 v1 v2 v3 v4 v5 v6 v7)
def MV:=λ{v0 v1 v2 v3 v4 v5 v6} (v7:Bx _) (v8:Bx _) v9 (v10:autoParam _ yI._auto_1)=>Bx.mk (@L2.pg_sub v0 v1 v2 v4 v3 v5 v6 v7.h v8.h v9 v10)
def uX:=λ{v0 v1 v2 v3 v4 v5} (v7:Bx _) (v6:autoParam _ yR._auto_1) (v8:autoParam _ yR._auto_1) (v9:autoParam _ yR._auto_1)=>Bx.mk (@L2.pg_tup v0 v1 v2 v4 v5 v3 v6 v7.h v8 v9)
def gE:=λ{v0 v1 v2 v3 v4} (v5:Bx _) (v6:Bx _) (v7:autoParam _ yR._auto_1)=>Bx.mk (@L2.pgs_cons v0 v1 v3 v2 v4 v5.h v6.h v7)
def tq:=λ{v0}=>Bx.mk (@L2.pgs_nil v0)
def Mi:=λ{v0 v1 v2 v3 v4 v5 v6 v7} v8 v9 (v10:Bx _) (v11:autoParam _ yR._auto_1)=>Bx.mk (@L2.pi_enum v0 v1 v2 v3 v4 v5 v6 v7 v8 v9 v10.h v11)
def vC:=λ{v0 v1 v2 v3} (v4:Bx _)=>Bx.mk (@L2.pi_list v0 v1 v2 v3 v4.h)
def Jp:=λ{v0 v1 v2 v3 v4 v5} v7 (v8:Bx _) (v6:autoParam _ yR._auto_1) (v9:autoParam _ yR._auto_1)=>Bx.mk (@L2.pi_range1 v0 v1 v2 v3 v4 v5 v6 v7 v8.h v9)
def MB:=λ{v0 v1 v2 v3} (v4:Bx _)=>Bx.mk (@L2.pi_str v0 v1 v2 v3 v4.h)
def Bj:=λ{v0 v1 v2 v3} (v4:Bx _)=>Bx.mk (@L2.pi_tup v0 v1 v2 v3 v4.h)
def Ol:=λ{v0 v1 v2 v3 v4 v5 v6 v7 v8} v9 v10 (v11:Bx _) (v12:autoParam _ yR._auto_1) (v13:autoParam _ yR._auto_1)=>Bx.mk (@L2.pi_zip v0 v1 v2 v3 v4 v5 v6 v7 v8 v9 v10 v11.h v12 v13)
def MD:=λ{v0 v1 v2 v3 v4 v5 v6 v7 v8} v9 v10 (v11:Bx _) (v12:autoParam _ yR._auto_1) (v13:autoParam _ yR._auto_1)=>Bx.mk (@L2.pi_zip2 v0 Α v1 v2 v3 v4 v5 v6 v7 v8 v9 v10 v11.h v12 v13)
def Mt:=λ{v0 v1 v2 v3 v4 v5 v6 v7} v8 (v9:Bx _) (v10:Bx _) (v11:autoParam _ zJ._auto_1)=>Bx.mk (@L2.pe_getF v0 v1 v2 v3 v4 v5 v6 v7 v8 v9.h v10.h v11)
def lF:=λ{v0}=>Bx.mk (@L2.pif_nil v0)
def ib:=λ{v0}=>Bx.mk (@L2.po_none v0)
def fG:=λ{v0 v1 v2} (v3:Bx _)=>Bx.mk (@L2.po_some v0 v1 v2 v3.h)
def Bn:=λ{v0 v1 v2 v3 v4 v5} (v6:Bx _) (v7:Bx _) (v8:autoParam _ yR._auto_1) (v9:autoParam _ yR._auto_1) (v10:autoParam _ yR._auto_1)=>Bx.mk (@L2.ps_asg v0 v1 v3 v4 v2 v5 v6.h v7.h v8 v9 v10)
def NJ:=λ{v0 v1 v3 v4 v5 v6 v7 v8} v2 v9 v10 v11 (v12:Bx _) v13 (v14:autoParam _ yF._auto_1)=>Bx.mk (@L2.ps_aug v0 v1 v2 v3 v4 v5 v6 v7 v8 v9 v10 v11 v12.h v13 v14)
def LS:=λ{v0 v1 v2 v3 v4 v5 v6 v7 v8} v9 (v10:Bx _) (v11:Bx _) (v12:Bx _) v13=>Bx.mk (@L2.ps_dput v0 v1 v2 v3 v4 v5 v6 v7 v8 v9 v10.h v11.h v12.h v13)
def oF:=λ{v0 v1 v2 v3} (v4:Bx _) (v5:autoParam _ yR._auto_1)=>Bx.mk (@L2.ps_expr v0 v1 v2 v3 v4.h v5)
def qO:=λ{v0 v1 v2 v3 v4 v5 v6 v7} v8 v9 (v10:Bx _) (v11:Bx _) (v12:Bx _) (v13:autoParam _ yI._auto_1)=>Bx.mk (@L2.ps_for v0 v1 v2 v4 v5 v3 v6 v7 v8 v9 v10.h v11.h v12.h v13)
def Ap:=λ{v0 v1 v2 v3 v4 v5 v6 v7} (v8:Bx _) (v9:Bx _) (v10:Bx _)=>Bx.mk (@L2.ps_if v0 v1 v2 v3 v4 v7 v5 v6 v8.h v9.h v10.h)
def NR:=λ{v0 v1 v4 v5 v6 v7 v8 v9 v10 v11 v12 v13 v14 v16} v2 v3 v15 v17 v18 v19 (v20:Bx _) v21 v22 (v23:∀x0 x1 x2,Bx _) v24 (v25:∀x0 x1 x2,Bx _) (v26:∀x0 x1 x2,Bx _) (v27:autoParam _ yR._auto_1) (v28:autoParam _ yI._auto_1)=>Bx.mk (@L2.ps_lc v0 v1 v2 v3 v4 v5 v6 v7 v8 v9 v10 v11 v12 v13 v14 v15 v16 v17 v18 v19 v20.h v21 v22 (λx0 x1 x2=>(v23 x0 x1 x2).h) v24 (λx0 x1 x2=>(v25 x0 x1 x2).h) (λx0 x1 x2=>(v26 x0 x1 x2).h) v27 v28)
def Ov:=λ{v0 v1 v2 v3} (v4:Bx _)=>Bx.mk (@L2.ps_ret v0 v1 v2 v3 v4.h)
def aV:=λ{v0 v1 v3 v4 v5 v6} v2 (v10:Bx _) (v7:autoParam _ zA._auto_1) (v8:autoParam _ yR._auto_1) (v9:autoParam _ yF._auto_1) (v11:autoParam _ yR._auto_1) (v12:autoParam _ yF._auto_1)=>Bx.mk (@L2.ps_set v0 v1 v2 v3 v4 v5 v6 v7 v8 v9 v10.h v11 v12)
def Lv:=λ{v0 v1 v2 v3 v4 v5} v6 (v7:Bx _) (v8:Bx _)=>Bx.mk (@L2.ps_while v0 v1 v2 v3 v4 v5 v6 v7.h v8.h)
def aQ:=λ{v0 v1 v2 v3 v4} (v5:Bx _) (v6:Bx _)=>Bx.mk (@L2.pss_cons v0 v1 v2 v3 v4 v5.h v6.h)
def Bh:=λ{v0}=>Bx.mk (@L2.pss_nil v0)
def cX:=λ{v0 v1 v2} (v3:Bx _)=>Bx.mk (@L2.pss_one v0 v1 v2 v3.h)
def Nz:=λ{v0 v1 v2 v3 v4 v5 v6 v7 v8 v9 v10 v11} v12 v13 (v14:Bx _) (v15:Bx _) (v16:Bx _) (v17:autoParam _ yU._auto_1)=>Bx.mk (@L2.pt_chain v0 v1 v2 v3 v4 v5 v6 v7 v8 v10 v9 v11 v12 v13 v14.h v15.h v16.h v17)
def aU:=λ{v0 v1 v2 v3 v4 v5 v6 v7} v8 (v9:Bx _) (v10:Bx _) (v11:autoParam _ zN._auto_1)=>Bx.mk (@L2.pt_cmpR v0 v1 v2 v3 v4 v5 v6 v7 v8 v9.h v10.h v11)
def jP:=λ{v0 v1 v2 v3} (v4:Bx _)=>Bx.mk (@L2.pt_not v0 v1 v2 v3 v4.h)
def MR:=λ{v0 v1 v2} (v3:Bx _) v4=>Bx.mk (@L2.pt_truth v0 v1 v2 v3.h v4)
def ii:=λ{v0 v1 v2} (v3:Bx _) (v4:autoParam _ yI._auto_1)=>Bx.mk (@L2.pt_val v0 v1 v2 v3.h v4)
def Bl:=λ{v0 v1 v2 v3 v4 v5 v6} (v7:Bx _) (v8:Bx _)=>Bx.mk (@L2.pw_and v0 v1 v2 v3 v4 v5 v6 v7.h v8.h)
def Bk:=λ{v0 v1 v2 v3} (v4:Bx _)=>Bx.mk (@L2.pw_and1 v0 v1 v2 v3 v4.h)
def me:=λ{v0 v1 v2 v3 v4 v5 v6} (v7:Bx _) (v8:Bx _)=>Bx.mk (@L2.pw_or v0 v1 v2 v3 v4 v5 v6 v7.h v8.h)
def qu:=λ{v0 v1 v2 v3} (v4:Bx _)=>Bx.mk (@L2.pw_or1 v0 v1 v2 v3 v4.h)
def IJ:=λ{v0 v1 v2 v3 v4 v5 v6 v7 v8 v9 v10 v11 v12 v13 v14} v15 v16 v17 v18 v19 v20 v21 (v22:Bx _) (v23:autoParam _ yD._auto_1) (v24:autoParam _ yR._auto_1) (v25:autoParam _ yR._auto_1)=>Bx.mk (@L2.EX.ps_raise v0 v1 v2 v3 v4 v5 v6 v7 v8 v9 v10 v11 v12 v13 v14 v15 v16 v17 v18 v19 v20 v21 v22.h v23 v24 v25)
def LX:=λ{v0 v1 v2 v3 v4 v5 v6 v7 v8 v9 v10 v11 v12 v13 v14 v15 v16 v17 v18 v19 v20 v21 v22 v23} v24 v25 v26 (v27:Bx _) (v28:autoParam _ yD._auto_1) (v29:autoParam _ yR._auto_1) (v30:autoParam _ yR._auto_1)=>Bx.mk (@L2.EX.pe_defX v0 v1 v2 v3 v4 v5 v6 v7 v8 v9 v10 v11 v12 v13 v14 v15 v16 v17 v18 v19 v20 v21 v22 v23 v24 v25 v26 v27.h v28 v29 v30)
def Ox:=λ{v0 v3 v4 v5 v6 v7 v8 v9} v1 v2 v10 v11 v12 (v13:Bx _) (v14:autoParam _ yR._auto_1) (v15:autoParam _ yR._auto_1) (v16:autoParam _ yR._auto_1)=>Bx.mk (@L2.EX.pe_vinit v0 v1 v2 v3 v4 v5 v6 v7 v8 v9 v10 v11 v12 v13.h v14 v15 v16)
def Of:=λ{v0 v3 v4 v5 v6 v7 v8} v1 v2 (v9:Bx _) (v10:Bx _) (v11:autoParam _ yR._auto_1)=>Bx.mk (@L2.EX.ps_xset v0 v1 v2 v3 v4 v5 v6 v7 v8 v9.h v10.h v11)
def NX:=λ{v0 v3 v4 v5} v1 v2 (v6:Bx _) (v7:autoParam _ yR._auto_1)=>Bx.mk (@L2.EX.pe_xfld v0 v1 v2 v3 v4 v5 v6.h v7)
def un{X:Cx}{b:List ϯ}{t:TS}(h:Bx (kl X b t)):kl X b t:=h.h
def zS(h:1=1:=by show{1113133}):True:=trivial
def zL(h:1=1:=by intro _ _ _ _ h;first|(cases h;subst_vars;rfl)|(set_option tactic.hygienic true in cases h<;>(rename_i h;cases h;subst_vars;rfl))):True:=trivial
def _root_.L2.Fun.okA{P:Θ}{w:Χ}{K:ζ}{mg:Str->Option θ}{base:ϖ}{x qual:Str}{st:ϯ}{f:J}{fd:ό}{N ps:List Str}{k:Nat}{sp:Sp}(F:Fun K x qual st f fd)
  (hbody:∀(cdv:θ)(A:Ϛ)(outer:List Env)(s:ρ)(H:Hp)(vs:List V)(Q:VK)(E:XK),bU k (A.deeper (B9 qual (ax st) s.heap.objs.size f cdv))->N.Nodup->sp vs H Q E ->
   ∃t,Bx (kl (be aY P w K mg base N qual (ax st) f cdv A outer s H E).nox (bt st) t)/\t {nx:=λ_ H'=>Q .non H',rt:=Q} (gO N vs) H)
  (S:autoParam (ci N ps (ax st)) zS._auto_1) (len:autoParam (∀vs H Q E,sp vs H Q E->vs.length=ps.length) zL._auto_1):ap P w K mg base aY (k+1) f fd ps sp:=
 F.ok S len λcdv A outer s H vs Q E hr h=>let ⟨t,b,q⟩:=hbody cdv A outer s H vs Q E hr S.nd h;{t,b.h,q}
def bc{X:Cx}(i:Nat){x:Str}{p q r:Pos}{n:Int}{t:Nat}(h:Mc X.N X.env.scope i x=Y:=by rfl):Bx (PE X (.Subscript (.Name x p) (.Constant (.int n) t q) r) (Es (zT X.K) (km i) (tC (.int n)))):=eh kf (wv i h) az
def ar{X:Cx}{e:ϲ}{t:TE}(a:Bx (PE X e t))(h:Ϗ [e] X.env=(Α,eval e X.env)::Ϗ [] X.env:=by rfl):Bx (PA X [e] (mR t pc)):=ay a pZ h
def aK{X:Cx}(i:Nat){x:Str}{p:Pos}(h:Mc X.N X.env.scope i x=Y:=by rfl)(g:Ϗ [.Name x p] X.env=(Α,eval (.Name x p) X.env)::Ϗ [] X.env:=by rfl):Bx (PA X [.Name x p] (mR (km i) pc)):=ay (wv i h) pZ g
def bI{X:Cx}{e:ϲ}{t:TE}{p:Pos}(a:Bx (PE X e t)):Bx (kl X [.Return (Z e) p] (CZ t)):=cX (Ov a)
def kW{X:Cx}{c:ϲ}{tc:TT}{p:Pos}{bs ss:List ϯ}{tb ts:TS}(a:Bx (PT X c tc))(b:Bx (kl X bs tb))(k:Bx (kl X ss ts)):Bx (kl X (.If c bs [] p::ss) (iJ (Gy tc tb yw) ts)):=aQ (Ap a b Bh) k
def bV{X:Cx}{c e:ϲ}{tc:TT}{t:TE}{p q:Pos}{ss:List ϯ}{ts:TS}(a:Bx (PT X c tc))(b:Bx (PE X e t))(k:Bx (kl X ss ts)):Bx (kl X (.If c [.Return (Z e) p] [] q::ss) (iJ (Gy tc (CZ t) yw) ts)):=kW a (bI b) k
end WR
namespace L2
open PySem PySem.Spec PyProof.Rows PySem.W
section
variable{X:Cx}
def MN(hu:X.A.units+150<B8):fQ X (ϻ .NotEq) (λx y H Q=>∃(a:J) (vs:List V),x=.non/\y=.ref a/\H a=Z (.tup vs)/\Q (.bl Y) H):=by intro pins s σ H x y v u Q I rx ry h;ext(⟨a,vs,rfl,rfl,h2,q⟩:h);cases rx;cases ry;ext(⟨its,rv,p,_⟩:I.tuple (aq.of h2));show SeqAt.RcNeAt.none_tuple p () X.prog X.w X.xe _ {.bl _,H,I,1,q}
end
end L2
namespace K66
open PySem L2 KB XB WR
local macro_rules|`(())=>`(by first|omega|(rw[ι];omega)|decide +kernel|trivial|(simp only[ah];done)|(simp only[Reps];done)|(intro _;rfl)|simp)
def yE(h:∃a b xs ys,x=.ref a/\y=.ref b/\aq K H a xs/\aq K H b ys/\xs.length+ys.length<=Μ/\(xs=[]->Q (.ref b) H)/\(ys=[]->Q (.ref a) H)/\(∀p,H p=χ->Q (.ref p) (upd H p (.tup (xs++ys))))):Hv K x y H Q:=by ext(⟨a,b,xs,ys,i,g,f,c,d,k,j,e⟩:h);show{a,b,xs,ys,i,g,f,c,d,k,j,e}
def ke{α:Type}{l:List α}(h:l.length=2):∃a b,l=[a,b]:=by ext(⟨a,r,rfl⟩:List.exists_cons_of_length_eq_add_one h);ext(⟨b,rfl⟩:List.length_eq_one_iff.mp (Nat.succ.inj h));show{a,b,1}
def bT (i : Nat) : ϯ := PySem.Challenge.pw_indexwise_k66_whole_read_is_what_is_writ.main.body.getD i (.Pass {(0),(0),(0),(0)})
def tQ:List Str:=["plus","minus","times","less","same"]
structure Txt(K:ζ)(mg:Str->Option θ):Prop where
 len:mg "len"=χ
 isinstance:mg "isinstance"=χ
 int:mg "int"=χ
 bool:mg "bool"=χ
 str:mg "str"=χ
 tuple:mg "tuple"=χ
 all:mg "all"=χ
 zip:mg "zip"=χ
 range:mg "range"=χ
 max:mg "max"=χ
 min:mg "min"=χ
 dict:mg "dict"=χ
 sorted:mg "sorted"=χ
 list:mg "list"=χ
 enumerate:mg "enumerate"=χ
 reversed:mg "reversed"=χ
 set:mg "set"=χ
 ValueError:mg "ValueError"=χ
 lLONGEST_NAME:∃t,mg "LONGEST_NAME"=Z (.int 8 t)
 lGREATEST_SIZE:∃t,mg "GREATEST_SIZE"=Z (.int 12 t)
 lGREATEST_NUMBER:∃t,mg "GREATEST_NUMBER"=Z (.int 99 t)
 lWHOLE_BOUND:∃t,mg "WHOLE_BOUND"=Z (.int 1000000000000 t)
 lMOST_NODES:∃t,mg "MOST_NODES"=Z (.int 40 t)
 lMOST_ABOVE:∃t,mg "MOST_ABOVE"=Z (.int 7 t)
 lMOST_THINGS:∃t,mg "MOST_THINGS"=Z (.int 4 t)
 lMOST_FIGURES:∃t,mg "MOST_FIGURES"=Z (.int 60 t)
 lMOST_BRACKETS:∃t,mg "MOST_BRACKETS"=Z (.int 20 t)
 lMOST_ROWS:∃t,mg "MOST_ROWS"=Z (.int 12 t)
def Txt.g_MOST_ROWS(T:Txt X.K X.mg)(a:Gl X "MOST_ROWS"):PE X (.Name "MOST_ROWS" pos) (tC (.int 12)):=by ext(⟨t,e⟩:T.lMOST_ROWS);show pe_glob a e {t,1}
def Txt.g_LONGEST_NAME(T:Txt X.K X.mg)(a:Gl X "LONGEST_NAME"):PE X (.Name "LONGEST_NAME" pos) (tC (.int 8)):=by ext(⟨t,e⟩:T.lLONGEST_NAME);show pe_glob a e {t,1}
def Txt.g_GREATEST_SIZE(T:Txt X.K X.mg)(a:Gl X "GREATEST_SIZE"):PE X (.Name "GREATEST_SIZE" pos) (tC (.int 12)):=by ext(⟨t,e⟩:T.lGREATEST_SIZE);show pe_glob a e {t,1}
def Txt.g_GREATEST_NUMBER(T:Txt X.K X.mg)(a:Gl X "GREATEST_NUMBER"):PE X (.Name "GREATEST_NUMBER" pos) (tC (.int 99)):=by ext(⟨t,e⟩:T.lGREATEST_NUMBER);show pe_glob a e {t,1}
def Txt.g_WHOLE_BOUND(T:Txt X.K X.mg)(a:Gl X "WHOLE_BOUND"):PE X (.Name "WHOLE_BOUND" pos) (tC (.int 1000000000000)):=by ext(⟨t,e⟩:T.lWHOLE_BOUND);show pe_glob a e {t,1}
def Txt.g_MOST_NODES(T:Txt X.K X.mg)(a:Gl X "MOST_NODES"):PE X (.Name "MOST_NODES" pos) (tC (.int 40)):=by ext(⟨t,e⟩:T.lMOST_NODES);show pe_glob a e {t,1}
def Txt.g_MOST_ABOVE(T:Txt X.K X.mg)(a:Gl X "MOST_ABOVE"):PE X (.Name "MOST_ABOVE" pos) (tC (.int 7)):=by ext(⟨t,e⟩:T.lMOST_ABOVE);show pe_glob a e {t,1}
def Txt.g_MOST_THINGS(T:Txt X.K X.mg)(a:Gl X "MOST_THINGS"):PE X (.Name "MOST_THINGS" pos) (tC (.int 4)):=by ext(⟨t,e⟩:T.lMOST_THINGS);show pe_glob a e {t,1}
def Txt.g_MOST_FIGURES(T:Txt X.K X.mg)(a:Gl X "MOST_FIGURES"):PE X (.Name "MOST_FIGURES" pos) (tC (.int 60)):=by ext(⟨t,e⟩:T.lMOST_FIGURES);show pe_glob a e {t,1}
def Txt.g_MOST_BRACKETS(T:Txt X.K X.mg)(a:Gl X "MOST_BRACKETS"):PE X (.Name "MOST_BRACKETS" pos) (tC (.int 20)):=by ext(⟨t,e⟩:T.lMOST_BRACKETS);show pe_glob a e {t,1}
abbrev nb:ϯ:=bT 8
abbrev pW:ϯ:=bT 9
abbrev pS:ϯ:=bT 10
abbrev kS:ϯ:=bT 11
abbrev lC:ϯ:=bT 12
def cQ:Dv->Bool
 |.int _=>Y
 |_=>Α
def bO:Dv->Bool
 |.str x=>dD x
 |_=>Α
def Iv(k:Int):Dv->Bool
 |.int i=>decide (k<=i)
 |_=>Α
def gJ:Dv->Bool
 |.tup [a,b]=>bO a&&(cQ b&&Iv 1 b)
 |_=>Α
def headD:Dv->Str
 |.tup (.str x::_)=>x
 |_=>""
def sL(a:Str):List Dv->Bool
 |[]=>Y
 |p::r=>gJ p&&(decide (a.cps.toList<(headD p).cps.toList)&&sL (headD p) r)
def mO:Dv->Bool
 |.tup xs=>sL "" xs
 |_=>Α
def px:Dv->Bool
 |.tup [a,b]=>cQ a&&(Iv 0 a&&mO b)
 |_=>Α
inductive HW (f:Dv->Bool) (vs:List V) (H:Hp) (Q:VK) (u3_:XK):Prop|mk v d (_:vs=[v]) (_:ah H d v) (_:∀H',ae H H'->Q (.bl (f d)) H')
section
variable{P:Θ}{w:Χ}{K:ζ}{mg:Str->Option θ}{base:ϖ}
def vj(F:Fun K "is_whole" "is_whole" nb f fd)(T:Txt K mg):ap P w K mg base aY 1 f fd ["thing"] (HW cQ):=by
 show F.okA (N:=["thing"]) λcdv A outer s H vs Q E hr nd h=>?_;ext(⟨v,d,rfl,R,q⟩:h);show{0,bI (iV (cn bu T.isinstance (ay (wv 0) (ar (vB (.ty "int") T.int U)))) (nO (Om (cn bu T.isinstance (ay (wv 0) (ar (vB (.ty "bool") T.bool U))))))),{01,v,0001,R.ty,Gx K d,012}};cases d with
 |int i=>show aA {01,v,0001,R.ty,vp K _,01,q H (ae.refl H)}
 |bl b=>show aA {01,v,0001,R.ty,vp K _,01,q H (ae.refl H)}
 |_=>show aD (q H (ae.refl H))
end
inductive ir (f:Dv->Bool) (vs:List V) (H:Hp) (Q:VK) (u3_:XK):Prop|mk v d (_:vs=[v]) (_:ah H d v) (_:d.small=Y) (_:∀H',ae H H'->Q (.bl (f d)) H')
section
variable{P:Θ}{w:Χ}{K:ζ}{mg:Str->Option θ}{base:ϖ}
def si(a b:Nat):decide (([a]:List Nat)<[b])=decide (a<b):=by
 by_cases h:a<b
 .rw[Q9 h];show Q9 (List.cons_lt_cons_iff.mpr (.inl h))
 .rw[Q8 h];show Q8 λz=>by
   rcases List.cons_lt_cons_iff.mp z with z|⟨_,z⟩
   .show h z
   .show List.not_lt_nil _ z
def IZ(x:Str):((ϳ x.cps.size).map λi=>Bi (x.cps.getD i 0)).all id=x.cps.toList.all Bi:=by
 let e:(ϳ x.cps.size).map (λi=>Bi (x.cps.getD i 0))=x.cps.toList.map Bi:=by
  apply P5;intro i;rw[ϐ,ϐ];by_cases a:i<x.cps.size
  .rw[List.getElem?_range a];simp[a]
  .rw[A6 (↑a),A6 (↑a)];rfl
 rw[e,OJ];rfl
def vS(F:Fun K "is_name" "is_name" pW f fd)(T:Txt K mg):ap P w K mg base aY 1 f fd ["thing"] (ir bO):=by
 show F.okA (N:=["thing"]) λcdv A outer s H vs Q E hr nd h=>?_;ext(⟨v,d,rfl,R,hsm,q⟩:h);show{0,bV (iz (me (jP (ii (cn bu T.isinstance (ay (wv 0) (ar (vB (.ty "str") T.str U)))))) (qu (jP (Nz iX iX az (cn bX T.len (aK 0)) {T.g_LONGEST_NAME U}))))) gA (bI (cn (eG U) T.all (ar (lT ["sign"] [] (MB (wv 0)) (.of U) U (λ_ _ _=>{pg_name (i:=0) (bp (l:=["sign"]) (()) U) U (m_ U)}) (aZ ()) (λ_ _ _=>lF) (λ_ _ _=>(Mf fW fW aP (wv 0) aP)))))),{01,v,0001,R.ty,jh K d,012}};cases d with
 |str x=>
  obtain rfl:v=.str x:=R;show aD {01,x,1,yL (by simpa[Dv.small]using hsm),0011012};let no:dD x=Α->Q (.bl Α) H:=λe=>by let:=q H (ae.refl H);rwa[show bO (.str x)=Α from e]at this
  show aj (λh1=>?_) (λh1=>?_)
  .show{0011012};let h1':1<=x.cps.size:=by let:=Q7 h1;let e:x.length=x.cps.size:=U;omega
   by_cases h8:x.cps.size<=8
   .rw[show decide (((x.length:Nat):Int)<=8)=Y from Q9 (by let e:x.length=x.cps.size:=U;omega)];show aD {01,x,1,mt (F:=λi=>V.bl (Bi (x.cps.getD i 0))) (λi ys hi hl=>?_) λa ha=>{a,(ϳ x.cps.size).map λi=>Bi (x.cps.getD i 0),1,aw.of ?_,2}}
    .show ba {010011012};let e1:decide (({#[x.cps.getD i 0]}:Str).cps.toList<(O "a").cps.toList)=decide (x.cps.getD i 0<97):=si _ _;let e2:decide ((O "z").cps.toList<({#[x.cps.getD i 0]}:Str).cps.toList)=decide (122<x.cps.getD i 0):=si _ _;rw[e1];by_cases c1:x.cps.getD i 0<97
     .rw[Q9 c1];show aD {by rw[hl,ι];omega,21};unfold Bi;rw[Q8 ()];rfl
     .rw[Q8 c1];show aA {0011,{by rw[hl,ι];omega,21}};rw[e2];unfold Bi;rw[Q9 (show 97<=x.cps.getD i 0 by omega)];by_cases c2:122<x.cps.getD i 0
      .rw[Q9 c2,Q8 ()];rfl
      .rw[Q8 c2,Q9 ()];rfl
    .rw[aa,ϗ];rfl
    .rw[IZ];let:=q _ (ac ha (.lst ((ϳ x.cps.size).map λi=>V.bl (Bi (x.cps.getD i 0)))));rwa[show bO (.str x)=x.cps.toList.all Bi by change dD x=_;unfold dD;rw[Q9 h1',Q9 h8];rfl]at this
   .rw[show decide (((x.length:Nat):Int)<=8)=Α from Q8 (by let e:x.length=x.cps.size:=U;omega)];show aA (no ?_);unfold dD;rw[Q8 h8,Py,j_]
  .show{01,aA (no ?_)};let h1':¬ 1<=x.cps.size:=by let:=of_decide_eq_false (B3.mpr h1);let e:x.length=x.cps.size:=U;omega
   unfold dD;rw[Q8 h1',j_,j_]
 |_=>show aA (aA (q H (ae.refl H)))
def xj(ds:List Dv):(∃a b,ds=[a,b])\/(∀a b,ds≠[a,b]):=by
 match ds with
 |[]=>show .inr λa b e=>nomatch e
 |[_]=>show .inr λa b e=>nomatch e
 |[a,b]=>show .inl {a,b,1}
 |_::_::_::_=>show .inr λa b e=>nomatch e
def rM(h:∀a b,ds≠[a,b]):ds.length≠2:=λe=>by
 match ds,e with
 |[a,b],_=>show h a b U
def En(h:∀a b,ds≠[a,b]):gJ (.tup ds)=Α:=by
 match ds with
 |[]=>rfl
 |[_]=>rfl
 |[a,b]=>show absurd U (h a b)
 |_::_::_::_=>rfl
def Ez(h:∀a b,ds≠[a,b]):px (.tup ds)=Α:=by
 match ds with
 |[]=>rfl
 |[_]=>rfl
 |[a,b]=>show absurd U (h a b)
 |_::_::_::_=>rfl
def yk(h:cQ d=Y):∃i,d=.int i/\Iv k d=decide (k<=i):=by
 cases d with
 |int i=>show{i,11}
 |_=>cases h
def sM(h:(Dv.tup [a,b]).small=Y):a.small=Y/\b.small=Y:=by simp only[Dv.small,smalls,ψ]at h;show{h.1.1,h.1.2.1}
def vQ(F:Fun K "is_part" "is_part" pS f fd)(T:Txt K mg)(Dis_whole:aS P w K mg base k "is_whole" ["thing"] (HW cQ))(Dis_name:aS P w K mg base k "is_name" ["thing"] (ir bO)):
  ap P w K mg base aY (k+1) f fd ["thing"] (ir gJ):=by
 show F.okA (N:=["thing"]) λcdv A outer s H vs Q E hr nd h=>?_;ext(⟨v,d,rfl,R,hsm,q⟩:h);show{0,bV (iz (me (jP (ii (cn bu T.isinstance (ay (wv 0) (ar (vB (.ty "tuple") T.tuple U)))))) (qu (aU eV (cn am T.len (aK 0)) az)))) gA (bI (iV (aL Dis_name (ar (bc 0))) (iV (aL Dis_whole (ar (bc 0))) (nO (jO Db (bc 0) az))))),{01,v,0001,R.ty,dC K d,012}};cases d with
 |tup ds=>
  ext(⟨a,vs,rfl,ha,rs⟩:ah.tup_inv R);let hl:=rs.length;show aD {01,a,vs,1,.inr (aq.of ha),1012};rcases xj ds with ⟨d0,d1,rfl⟩|no
  .ext(⟨x,y,rfl,R0,R1⟩:Reps.two rs);ext(⟨z0,z1⟩:sM hsm);show GY U ?_;let qe:∀c H',ae H H'->gJ (.tup [d0,d1])=c->Q (.bl c) H':=λc H' s1 e=>e▸q H' s1;show{01,a,0,(0),x,11,aq.of ha,ad U,x,d0,1,R0,z0,λH1 s1=>{012}};cases c0:bO d0 with
   |false=>show aD (qe _ H1 s1 (by change(bO d0&&_)=Α;rw[c0];rfl))
   |true=>
    show aA {01,a,0,(1),y,11,aq.of (s1 _ _ ha),ad U,y,d1,1,R1.mono s1,λH2 s2=>{012}};cases c1:cQ d1 with
    |false=>show aD (qe _ H2 (s1.trans s2) (by change(bO d0&&(cQ d1&&_))=Α;rw[c0,c1];rfl))
    |true=>ext(⟨i,rfl,e⟩:yk c1);obtain rfl:y=.int i:=R1;show aA {01,a,0,(1),.int i,11,aq.of (s2 _ _ (s1 _ _ ha)),ad U,0011,qe _ H2 (s1.trans s2) ?_};change(bO d0&&(cQ (.int i)&&Iv 1 (.int i)))=_;rw[c0,c1,e];rfl
  .let hn:¬ (V.int ((vs.length:Nat):Int)=V.int 2):=λe=>rM no (by injection e with e;omega);rw[Q8 hn];show aA ?_;let:=q H (ae.refl H);rwa[En no]at this
 |_=>show aA (aA (q H (ae.refl H)))
def qV(F:Fun K "is_length" "is_length" lC f fd)(T:Txt K mg)(Dis_whole:aS P w K mg base k "is_whole" ["thing"] (HW cQ))(Dare_parts:aS P w K mg base k "are_parts" ["thing"] (ir mO)):
  ap P w K mg base aY (k+1) f fd ["thing"] (ir px):=by
 show F.okA (N:=["thing"]) λcdv A outer s H vs Q E hr nd h=>?_;ext(⟨v,d,rfl,R,hsm,q⟩:h);show{0,bV (iz (me (jP (ii (cn bu T.isinstance (ay (wv 0) (ar (vB (.ty "tuple") T.tuple U)))))) (qu (aU eV (cn am T.len (aK 0)) az)))) gA (bI (iV (aL Dis_whole (ar (bc 0))) (iV (jO Db (bc 0) az) (nO (aL Dare_parts (ar (bc 0))))))),{01,v,0001,R.ty,dC K d,012}};cases d with
 |tup ds=>
  ext(⟨a,vs,rfl,ha,rs⟩:ah.tup_inv R);let hl:=rs.length;show aD {01,a,vs,1,.inr (aq.of ha),1012};rcases xj ds with ⟨d0,d1,rfl⟩|no
  .ext(⟨x,y,rfl,R0,R1⟩:Reps.two rs);ext(⟨z0,z1⟩:sM hsm);show GY U ?_;let qe:∀c H',ae H H'->px (.tup [d0,d1])=c->Q (.bl c) H':=λc H' s1 e=>e▸q H' s1;show{01,a,0,(0),x,11,aq.of ha,ad U,x,d0,1,R0,λH1 s1=>{012}};cases c0:cQ d0 with
   |false=>show aD (qe _ H1 s1 (by change(cQ d0&&_)=Α;rw[c0];rfl))
   |true=>
    ext(⟨i,rfl,e⟩:yk c0);obtain rfl:x=.int i:=R0;show aA {01,a,0,(0),.int i,11,aq.of (s1 _ _ ha),ad U,0011012};by_cases c1:0<=i
    .rw[Q9 c1];show aA {01,a,0,(1),y,11,aq.of (s1 _ _ ha),ad U,y,d1,1,R1.mono s1,z1,λH2 s2=>qe _ H2 (s1.trans s2) ?_};change(cQ (.int i)&&(Iv 0 (.int i)&&mO d1))=_;rw[c0,e,Q9 c1];rfl
    .rw[Q8 c1];show aD (qe _ H1 s1 ?_);change(cQ (.int i)&&(Iv 0 (.int i)&&mO d1))=_;rw[c0,e,Q8 c1];rfl
  .let hn:¬ (V.int ((vs.length:Nat):Int)=V.int 2):=λe=>rM no (by injection e with e;omega);rw[Q8 hn];show aA ?_;let:=q H (ae.refl H);rwa[Ez no]at this
 |_=>show aA (aA (q H (ae.refl H)))
def oH(h:gJ d=Y):∃nm b,d=.tup [.str nm,.int b]/\headD d=nm/\dD nm=Y/\1<=b:=by
 match d,h with
 |.tup [a,b],h=>
  simp only[gJ,ψ]at h;ext(⟨h1,h2,h3⟩:h);cases a with
  |str x=>
   cases b with
   |int i=>show{x,i,11,h1,Q7 h3}
   |_=>cases h2
  |_=>cases h1
def rQ(F:Fun K "are_parts" "are_parts" kS f fd)(T:Txt K mg)(Dis_part:aS P w K mg base k "is_part" ["thing"] (ir gJ)):
  ap P w K mg base aY (k+1) f fd ["thing"] (ir mO):=by
 show F.okA (N:=["thing","last","part"]) λcdv A outer s H vs Q E hr nd h=>?_;ext(⟨v,d,rfl,R,hsm,q⟩:h);show{0,bV (jP (ii (cn bu T.isinstance (ay (wv 0) (ar (vB (.ty "tuple") T.tuple U)))))) gA (aQ (aV 1 aP) (aQ (qO Ϩ U (Bj (wv 0)) (eX 2) (bV (iz (me (jP (ii (aL Dis_part (aK 2)))) (qu (aU fW (bc 2) (wv 1))))) gA (cX (aV 1 (bc 2))))) (bI gA))),{01,v,0001,R.ty,dC K d,012}};cases d with
 |tup ds=>
  ext(⟨a,vs,rfl,ha,rs⟩:ah.tup_inv R);let hds:smalls ds=Y:=by simp only[Dv.small,ψ]at hsm;show hsm.1
  show aD ?_;show{01,a,1,{vs,aq.of ha},sV (λi σ H'=>∃(last:Str) (pv:Option V),σ=[Z (.ref a),Z (.str last),pv]/\ae H H'/\sL last (ds.drop i)=sL "" ds)
   {"",χ,1,ae.refl H,1} (λi σ H' _ ⟨_,_,_,s1,_⟩=>aq.of (s1 _ _ ha)) ?_ ?_}
  .ext i x σ H1 hi ⟨last,pv,rfl,s1,hg⟩;ext(⟨d,hd,Rd⟩:rs.get hi);let hdi:ds.drop i=d::ds.drop (i+1):=by ext(⟨h1,h2⟩:Ζ.mp hd);rw[E4 h1,h2]
   rw[hdi]at hg;show{01,x,d,1,Rd.mono s1,(eO hds hd),λH2 s2=>{012}};let no:sL last (d::ds.drop (i+1))=Α->∀H',ae H H'->Q (.bl Α) H':=λe H' s'=>by let:=q H' s';rwa[show mO (.tup ds)=Α by change sL "" ds=Α;rw[<-hg,e]]at this
   cases c:gJ d with
   |false=>show aA (aA (no ?_ H2 (s1.trans s2)));simp only[sL,c,j_]
   |true=>
    ext(⟨nm,b,rfl,hh,_⟩:oH c);ext(⟨p,us,rfl,hp,ru⟩:ah.tup_inv Rd);ext(⟨y,z,rfl,R0,R1⟩:Reps.two ru);obtain rfl:y=.str nm:=R0;let hp2:=s2 _ _ (s1 _ _ hp);show aD {01,p,0,(0),.str nm,11,aq.of hp2,ad U,010011012};by_cases lt:last.cps.toList<nm.cps.toList
    .rw[Q9 lt];show aD {01,p,0,(0),.str nm,11,aq.of hp2,ad U,nm,01,s1.trans s2,2};rw[<-hg];simp only[sL,c,hh,o9];rw[Q9 lt,o9]
    .rw[Q8 lt];show aA (no ?_ H2 (s1.trans s2));simp only[sL,c,hh,o9];rw[Q8 lt,j_]
  .ext σ H1 ⟨last,pv,rfl,s1,hg⟩;let:=q H1 s1;rw[show mO (.tup ds)=Y by change sL "" ds=Y;rw[<-hg,rs.length,Ql];rfl]at this;show this
 |_=>show aA (q H (ae.refl H))
end
abbrev og:ϯ:=bT 17
abbrev ni:ϯ:=bT 18
abbrev mV:ϯ:=bT 19
abbrev kP:ϯ:=bT 20
def gj:Dv->Int
 |.tup [_,.int n]=>n
 |_=>0
def Na:Dv->Int
 |.tup (.int c::_)=>c
 |_=>0
def Fy:Dv->List Dv
 |.tup [_,.tup ps]=>ps
 |_=>[]
def iK(d:Dv):Bool:=px d&&(decide (Na d<=99)&&(Fy d).all λp=>decide (gj p<=99))
def gU:Dv->Bool
 |.tup (.str _::_)=>Y
 |_=>Α
def cP:Dv->Bool
 |.tup [.str x]=>decide (x="whole")
 |.tup [.str x,l]=>decide (x="place")&&iK l
 |.tup [.str x,a,_]=>(decide (x="row")&&iK a)||decide (x="pair")
 |_=>Α
def kids(x:Str)(r:List α):List α:=if x="row" then r.drop 1 else if x="pair" then r else []
def qt(h:px d=Y):∃c ps,d=.tup [.int c,.tup ps]/\0<=c/\sL "" ps=Y:=by
 match d,h with
 |.tup [a,b],h=>
  simp only[px,ψ]at h;ext(⟨h1,h2,h3⟩:h);cases a with
  |int i=>
   cases b with
   |tup ps=>show{i,ps,1,Q7 h2,h3}
   |_=>cases h3
  |_=>cases h1
def tO:∀{l:Str}{ps:List Dv},sL l ps=Y->∀p∈ps,gJ p=Y
 |_,[],_,p,a=>by cases a
 |l,x::ps,h,p,a=>by
  simp only[sL,ψ]at h;rcases ν.mp a with rfl|a
  .show h.1
  .show tO h.2.2 p a
inductive BD (vs:List V) (H:Hp) (Q:VK) (u3_:XK):Prop|mk (a:J) (x:Str) (us:List V) (_:vs=[.ref a]) (_:H a=Z (.tup (.str x::us))) (_:(x="row"->us.length=2)) (_:(x="pair"->us.length=2)) (_:∀(l:J),H l=χ->Q (.ref l) (upd H l (.lst (kids x us))))
def dJ(x y:Str):decide (V.str x=V.str y)=decide (x=y):=by
 by_cases h:x=y
 .rw[Q9 h,Q9 (by rw[h])]
 .rw[Q8 h,Q8 (λz=>h (by injection z))]
section
variable{P:Θ}{w:Χ}{K:ζ}{mg:Str->Option θ}{base:ϖ}
def tU(F:Fun K "is_small_length" "is_small_length" og f fd)(T:Txt K mg)(I:aS P w K mg base k "is_length" ["thing"] (ir px)):
  ap P w K mg base aY (k+1) f fd ["thing"] (ir iK):=by
 show F.okA (N:=["thing"]) λa2 A a1 s H vs Q E hr nd h=>?_;ext(⟨v,d,rfl,R,n,q⟩:h);show{0,bV (iz (me (jP (ii (aL I (aK 0)))) (qu (aU fh (bc 0) {T.g_GREATEST_NUMBER U})))) gA (bI (cn (eG U) T.all (ar (lT (["name","times"]) [] (Bj (bc 0)) (.of U) U (λ_ _ _=>{pg_tup U (pgs_cons (pg_name (i:=0) (bp (l:=["name","times"]) (()) U) U (m_ U)) (pgs_cons (pg_name (i:=1) (bp (l:=["name","times"]) (()) U) U (m_ U)) pgs_nil))}) (iP () ()) (λ_ _ _=>lF) (λ_ _ _=>(jO iX (wv 1) {T.g_GREATEST_NUMBER U})))))),2};show{01,v,d,1,R,n,λg e=>{012}};cases j:px d with
 |false=>show aA ?_;let:=q g e;rwa[show iK d=Α by unfold iK;rw[j];rfl]at this
 |true=>
  show aD ?_;ext(⟨c,ps,rfl,hc,L⟩:qt j);ext(⟨a,vs,rfl,D,u2⟩:ah.tup_inv R);ext(⟨x,y,rfl,u3,G⟩:Reps.two u2);obtain rfl:x=.int c:=u3;ext(⟨b,us,rfl,M,X⟩:ah.tup_inv G);let a3:ps.length<=5000:=by let:=(sM n).2;simp only[Dv.small,ψ,decide_eq_true_eq]at this;show this.2
  let u:iK (.tup [.int c,.tup ps])=(decide (c<=99)&&ps.all λp=>decide (gj p<=99)):=by unfold iK;rw[j];rfl
  show{01,a,0,(0),.int c,11,aq.of (e _ _ D),ad U,001101,aj (λh=>?_) (λh=>?_)}
  .let h':99<c:=Q7 h;let:=q g e;rw[u,Q8 (),j_]at this;show this
  let h':c<=99:=by let:=of_decide_eq_false (B3.mpr h);omega
  let o:=e _ _ M;show{01,a,0,(1),.ref b,11,aq.of (e _ _ D),ad U,b,1,{us,aq.of o},gi (λi ys H'=>H'=g/\ys=(ps.take i).map λp=>V.bl (decide (gj p<=99))) {11} (λi ys H' _ p=>by rw[p.1];show aq.of o) ?_ ?_}
  .ext i ys H' x S ⟨rfl,rfl⟩;ext(⟨d,m,W⟩:X.get S);ext(⟨hi,ed⟩:Ζ.mp m);ext(⟨nm,t,rfl,hh,_⟩:oH (tO L d (Ν m)));ext(⟨p,zs,rfl,u1,B⟩:ah.tup_inv W);ext(⟨y,z,rfl,u0,u4⟩:Reps.two B);obtain rfl:y=.str nm:=u0;obtain rfl:z=.int t:=u4;show eM (e _ _ u1) {010011212}
   .rw[ε,Ω,ι];omega
   .rw[ϛ,m,Ε];rfl
  .ext ys H' ⟨rfl,rfl⟩ r C;rw[X.length,Ϥ];show{r,ps.map λp=>decide (gj p<=99),1,aw.of (by rw[aa,ϗ];rfl),2};let:=q _ (e.trans (ac C (.lst (ps.map λp=>V.bl (decide (gj p<=99))))));rw[u,Q9 h',o9]at this;rw[OJ];show this
def uH(F:Fun K "has_word" "has_word" ni f fd)(T:Txt K mg):ap P w K mg base aY 1 f fd ["thing"] (HW gU):=by
 show F.okA (N:=["thing"]) λcdv A outer s H vs Q E hr nd h=>?_;ext(⟨v,d,rfl,R,q⟩:h);show{0,bI (iV (cn bu T.isinstance (ay (wv 0) (ar (vB (.ty "tuple") T.tuple U)))) (iV (jO fh (cn am T.len (aK 0)) az) (nO (cn bu T.isinstance (ay (bc 0) (ar (vB (.ty "str") T.str U))))))),2};show{01,v,0001,R.ty,dC K d,012};cases d with
 |tup ds=>
  ext(⟨a,vs,rfl,ha,rs⟩:ah.tup_inv R);show aA {01,a,vs,1,.inr (aq.of ha),0011012};cases ds with
  |nil=>simp only[Reps]at rs;subst rs;show aD (q H (ae.refl H))
  |cons d0 ds=>simp only[Reps]at rs;ext(⟨x,r,rfl,R0,rr⟩:rs);rw[show decide (((0:Int))<(((x::r).length:Nat):Int))=Y from Q9 (by rw[Λ];omega)];show aA {01,a,0,(0),x,11,aq.of ha,ad U,x,0001,R0.ty,jh K d0,2};let:=q H (ae.refl H);cases d0<;>show this
 |_=>show aD (q H (ae.refl H))
def iR(h:gU d=Y):∃x r,d=.tup (.str x::r):=by
 match d,h with
 |.tup (.str x::r),_=>show{x,r,1}
def wN(h:gU d=Α):cP d=Α:=by
 match d,h with
 |.tup [.str x],h=>cases h
 |.tup [.str x,l],h=>cases h
 |.tup [.str x,a,b],h=>cases h
 |.tup (.str x::a::b::c::r),h=>cases h
 |.tup [],_=>rfl
 |.tup (.non::r),_=>rfl
 |.tup (.bl _::r),_=>rfl
 |.tup (.int _::r),_=>rfl
 |.tup (.tup _::r),_=>rfl
 |.tup (.lst _::r),_=>rfl
 |.tup (.dct::r),_=>rfl
 |.non,_=>rfl
 |.bl _,_=>rfl
 |.int _,_=>rfl
 |.str _,_=>rfl
 |.lst _,_=>rfl
 |.dct,_=>rfl
def w1:(O "whole")≠(O "place"):=()
def w2:(O "whole")≠(O "row"):=()
def w3:(O "whole")≠(O "pair"):=()
def w4:(O "place")≠(O "row"):=()
def w5:(O "place")≠(O "pair"):=()
def w6:(O "row")≠(O "pair"):=()
def GA:cP (.tup (.str "whole" :: r))=decide (r.length=0):=by
 match r with
 |[]=>change decide (O "whole"=O "whole")=_;rw[Q9 U];rfl
 |[l]=>change(decide (O "whole"=O "place")&&iK l)=_;rw[Q8 w1];rfl
 |[a,b]=>change((decide (O "whole"=O "row")&&iK a)||decide (O "whole"=O "pair"))=_;rw[Q8 w2,Q8 w3];rfl
 |a::b::c::r=>rfl
def yp:cP (.tup (.str "place" :: r))=(decide (r.length=1)&&iK (r.headD .non)):=by
 match r with
 |[]=>change decide (O "place"=O "whole")=_;rw[Q8 (ϔ w1)];rfl
 |[l]=>change(decide (O "place"=O "place")&&iK l)=_;rw[Q9 U];rfl
 |[a,b]=>change((decide (O "place"=O "row")&&iK a)||decide (O "place"=O "pair"))=_;rw[Q8 w4,Q8 w5];rfl
 |a::b::c::r=>rw[Q8 ()];rfl
def Hw:cP (.tup (.str "row" :: r))=(decide (r.length=2)&&iK (r.headD .non)):=by
 match r with
 |[]=>change decide (O "row"=O "whole")=_;rw[Q8 (ϔ w2)];rfl
 |[l]=>change(decide (O "row"=O "place")&&iK l)=_;rw[Q8 (ϔ w4)];rfl
 |[a,b]=>change((decide (O "row"=O "row")&&iK a)||decide (O "row"=O "pair"))=_;rw[Q9 U,Q8 w6,Qd];rfl
 |a::b::c::r=>rw[Q8 ()];rfl
def Jv{x:Str}{r:List Dv}(d:x≠"whole")(e:x≠"place")(f:x≠"row"):cP (.tup (.str x::r))=(decide (r.length=2)&&decide (x="pair")):=by
 match r with
 |[]=>change decide (x="whole")=_;rw[Q8 d];rfl
 |[l]=>change(decide (x="place")&&iK l)=_;rw[Q8 e];rfl
 |[a,b]=>change((decide (x="row")&&iK a)||decide (x="pair"))=_;rw[Q8 f,j_,Qc];rfl
 |a::b::c::r=>rw[Q8 ()];rfl
def hU{vs:List V}{r:List Dv}{x:V}(h:vs.length=r.length)(n m:Nat)(e:m=n+1):decide (V.int (((x::vs).length:Nat):Int)=V.int (m:Int))=decide (r.length=n):=by
 by_cases z:r.length=n
 .rw[Q9 z,Q9 (by rw[Λ,h,z,e])]
 .rw[Q8 z,Q8 (λy=>z (by injection y with y;rw[Λ,h]at y;omega))]
def uz{f:J}{G:ό}{k:Nat}(F:Fun K "is_point" "is_point" mV f G)(T:Txt K mg)(B:aS P w K mg base k "has_word" ["thing"] (HW gU))(M:aS P w K mg base k "is_small_length" ["thing"] (ir iK)):
  ap P w K mg base aY (k+1) f G ["thing"] (ir cP):=by
 show F.okA (N:=["thing"]) λu2 A u3 s H vs Q E hr u1 h=>?_;ext(⟨v,d,rfl,R,n,q⟩:h);show{0,bV (jP (ii (aL B (aK 0)))) gA (bV (aU av (bc 0) aP) (jO av (cn am T.len (aK 0)) az) (bV (aU av (bc 0) aP) (iV (jO av (cn am T.len (aK 0)) az) (nO (aL M (ar (bc 0))))) (bV (aU av (bc 0) aP) (iV (jO av (cn am T.len (aK 0)) az) (nO (aL M (ar (bc 0))))) (bI (iV (jO av (cn am T.len (aK 0)) az) (nO (jO av (bc 0) aP))))))),2};show{01,v,d,1,R,λj c=>{012}};cases L:gU d with
 |false=>show aA ?_;let:=q j c;rwa[wN L]at this
 |true=>
  show aD ?_;ext(⟨x,r,rfl⟩:iR L);ext(⟨a,vs,rfl,b,W⟩:ah.tup_inv (R.mono c));ext(⟨y,us,rfl,S,e⟩:W);obtain rfl:y=.str x:=S;let o:=e.length;show{01,a,0,(0),.str x,11,aq.of b,ad U,1012};rw[dJ];by_cases I:x="whole"
  .subst I;rw[Q9 U];show aA {01,a,01,.inr (aq.of b),12};let:=q j c;rw[GA,<-hU o 0 1 U]at this;show this
  rw[Q8 I];show aD {01,a,0,(0),.str x,11,aq.of b,ad U,1012};rw[dJ];by_cases X:x="place"
  .subst X;rw[Q9 U];show aA {01,a,01,.inr (aq.of b),1012};change if decide (V.int _=V.int ((2:Nat):Int))=Y then _ else _
   rw[hU o 1 2 U];by_cases z:r.length=1
   .rw[Q9 z];match r,us,z,e with
    |[l],us,_,e=>ext(⟨u,u4,rfl,D,rfl⟩:e);show aA {01,a,0,(1),u,11,aq.of b,ad U,u,l,1,D,eO (i:=1) (by simp only[Dv.small,ψ]at n;show n.1) U,λp t=>?_};let:=q p (c.trans t);rw[yp]at this;show this
   .rw[Q8 z];show aD ?_;let:=q j c;rw[yp,Q8 z]at this;show this
  rw[Q8 X];show aD {01,a,0,(0),.str x,11,aq.of b,ad U,1012};rw[dJ];by_cases C:x="row"
  .subst C;rw[Q9 U];show aA {01,a,01,.inr (aq.of b),1012};change if decide (V.int _=V.int ((3:Nat):Int))=Y then _ else _
   rw[hU o 2 3 U];by_cases z:r.length=2
   .rw[Q9 z];match r,us,z,e with
    |[l,m],us,_,e=>ext(⟨u,u',rfl,D,u0⟩:Reps.two e);show aA {01,a,0,(1),u,11,aq.of b,ad U,u,l,1,D,eO (i:=1) (by simp only[Dv.small,ψ]at n;show n.1) U,λp t=>?_};let:=q p (c.trans t);rw[Hw]at this;show this
   .rw[Q8 z];show aD ?_;let:=q j c;rw[Hw,Q8 z]at this;show this
  rw[Q8 C];show aD {01,a,01,.inr (aq.of b),1012};change if decide (V.int _=V.int ((3:Nat):Int))=Y then _ else _
  rw[hU o 2 3 U];let g:=q j c;rw[Jv I X C]at g;by_cases z:r.length=2
  .rw[Q9 z]at g⊢;show aA {01,a,0,(0),.str x,11,aq.of b,ad U,12};rw[o9,<-dJ]at g;show g
  .rw[Q8 z]at g⊢;show aD g
def mT(F:Fun K "things_of" "things_of" kP f fd)(T:Txt K mg):ap P w K mg base aY 1 f fd ["point"] BD:=by
 show F.okA (N:=["point"]) λm A k s H vs Q E o n h=>?_;ext(⟨a,x,us,rfl,c,j,i,q⟩:h);show{0,bV (aU av (bc 0) aP) (fu (ar (bc 0))) (bV (aU av (bc 0) aP) (fu (ay (bc 0) (ar (bc 0)))) (bI (fu pZ))),2};show{01,a,0,(0),.str x,11,aq.of c,ad U,1012};rw[dJ];by_cases g:x="row"
 .subst g;let b:=j U;ext(⟨u,d,rfl⟩:ke b)
  .rw[Q9 U];show aA {01,a,0,(2),d,11,aq.of c,ad U,z1,λl b=>q l b}
 rw[Q8 g];show aD {01,a,0,(0),.str x,11,aq.of c,ad U,1012};rw[dJ];by_cases e:x="pair"
 .subst e;let b:=i U;ext(⟨u,d,rfl⟩:ke b)
  .rw[Q9 U];show aA {01,a,0,(1),u,11,aq.of c,ad U,01,a,0,(2),d,11,aq.of c,ad U,z2,λl b=>?_};let:=q l b;rw[show kids (O "pair") [u,d]=[u,d] by unfold kids;rw[Q6 (ϔ w6),Q5 U]]at this;show this
 rw[Q8 e];show aD {Τ _,λl b=>?_};let:=q l b;rw[show kids x us=[] by unfold kids;rw[Q6 g,Q6 e]]at this;show this
end
abbrev qr:ϯ:=bT 22
def xX:Dv->List Dv
 |.tup (.str x::r)=>kids x r
 |_=>[]
def BG(h:e∈kids x r):e∈r:=by
 unfold kids at h;split at h
 .show K9 h
 .split at h
  .show h
  .cases h
def DB(h:e∈xX d):sizeOf e<sizeOf d:=by
 unfold xX at h;split at h
 .let:=List.sizeOf_lt_of_mem (BG h);simp;omega
 .cases h
def bE(d:Dv):Nat:=if cP d=Y then 1+((xX d).attach.map λe=>bE e.1).sum else 99
termination_by sizeOf d
decreasing_by show DB e.2
def size_eq(d:Dv):bE d=if cP d=Y then 1+((xX d).map bE).sum else 99:=by rw[bE];simp
def ie(h:cP d=Α):bE d=99:=by rw[size_eq,h];rfl
def kQ(h:cP d=Y):∃x r,d=.tup (.str x::r)/\(x="row"->r.length=2)/\(x="pair"->r.length=2)/\bE d=1+((kids x r).map bE).sum:=by
 match d,h with
 |.tup [.str x],h=>have h':x="whole":=Q7 h;subst h';show{001,λz=>absurd z w2,λz=>absurd z w3,by rw[size_eq,Q5 h];rfl}
 |.tup [.str x,l],h=>have h':(decide (x="place")&&iK l)=Y:=h;rw[ψ]at h';let e:=Q7 h'.1;subst e;show{001,λz=>absurd z w4,λz=>absurd z w5,by rw[size_eq,Q5 h];rfl}
 |.tup [.str x,a,b],h=>show{x,01,λ_=>U,λ_=>U,by rw[size_eq,Q5 h];rfl}
def size_pos(d:Dv):1<=bE d:=by
 cases h:cP d with
 |false=>rw[ie h];decide
 |true=>ext(⟨x,r,_,_,_,e⟩:kQ h);rw[e];omega
def AF(h:Reps H r us):Reps H (kids x r) (kids x us):=by
 unfold kids;split
 .match r,us,h with
  |[],us,h=>simp only[Reps]at h;subst h;simp only[List.drop_nil,Reps]
  |d::r,us,h=>simp only[Reps]at h;ext(⟨v,q,rfl,_,a⟩:h);show a
 .split
  .show h
  .simp only[Reps]
def wV(h:smalls r=Y):smalls (kids x r)=Y:=by
 unfold kids;split
 .match r,h with
  |[],_=>rfl
  |d::r,h=>simp only[smalls,ψ]at h;show h.2
 .split
  .show h
  .rfl
def uR{α:Type}{x:Str}{r:List α}(a:x="row"->r.length=2)(b:x="pair"->r.length=2):(kids x r).length<=2:=by
 unfold kids;split
 .rename_i e;rw[k7,a e];decide
 .split
  .rename_i e;rw[b e];show Β _
  .show Τ _
def mN:∀{xs ys:List Dv},smalls xs=Y->smalls ys=Y->smalls (xs++ys)=Y
 |[],_,_,h=>h
 |x::xs,ys,g,h=>by simp only[smalls,ψ,A9]at g⊢;show{g.1,mN g.2 h}
def ku:∀{xs:List Dv}{y:Dv},smalls (xs++[y])=Y->smalls xs=Y/\y.small=Y
 |[],y,h=>by simpa[smalls]using h
 |x::xs,y,h=>by simp only[smalls,ψ,A9]at h⊢;let:=ku h.2;show{{h.1,this.1},this.2}
def qM:ae (bP H l) (bP (upd H l o) l):=λb u h=>by
 unfold bP at h⊢;split at h
 .cases h
 .rename_i e;rw[Q6 e,ai e];show h
def nc:Sp:=ir λd=>decide (bE d<=12)
section
variable{P:Θ}{w:Χ}{K:ζ}{mg:Str->Option θ}{base:ϖ}
def vG{f:J}{u0:ό}{k:Nat}(F:Fun K "is_kind" "is_kind" qr f u0)(T:Txt K mg)(b1:aS P w K mg base k "is_point" ["thing"] (ir cP))(b0:aS P w K mg base k "things_of" ["point"] BD):
  ap P w K mg base aY (k+1) f u0 ["thing"] nc:=by
 show F.okA (N:=["thing","size","waiting","point"]) λc7 A c6 s H vs Q E hr nd h=>?_;ext(⟨v,d,rfl,R,b4,q⟩:h);show{0,aQ (aV 1 az) (aQ (aV 2 (fu (aK 0))) (aQ (Lv Ϩ (MR (wv 2) (λ_=>U)) (aQ (aV 3 (LW ϑ OT OU wt (wv 2))) (aQ (NJ 1 nd U (m_ U) az DX) (bV (iz (me (aU fh (wv 1) {T.g_GREATEST_SIZE U}) (qu (jP (ii (aL b1 (aK 3))))))) gA (cX (oF (fv ϑ F5 F6 ka (wv 2) (ar (aL b0 (aK 3)))))))))) (bI gA))),2};show{01,z1,λb S=>?_};let q1:=ac S (.lst [v]);show tV (λm σ H'=>∃(o3:Option V) (g:Nat) (n:List Dv) (vs:List V),σ=[Z v,Z (.int g),Z (.ref b),o3]/\ae H (bP H' b)/\H' b=Z (.lst vs)/\Reps (bP H' b) n vs/\smalls n=Y/\(g+(n.map bE).sum<=12↔bE d<=12)/\m=12-g/\g<=12/\n.length<=1+g) 12
  {0,(0),[d],[v],1,jy q1 S,aa,aO (R.mono (jy q1 S)),by simp only[smalls,b4,Bool.and_self],313,Β _} ?_ iU
 ext m σ X D1 gR gD ⟨o3,g,n,vs,rfl,L,B,u2,sm,o,rfl,b2,lw⟩;show{010,.inl {vs,aw.of B,1},2};by_cases ne:n=[]
 .subst ne;let e:vs=[]:=by simpa only[Reps]using u2
  subst e;show aD ?_;let:=q X (L.trans cr);rw[Q9 (o.mp (↑b2))]at this;show this
 .ext(⟨w0,x,rfl⟩:rc ne);ext(⟨i,u,rfl,u1,Ru⟩:il u2);let e:(!(i++[u]).isEmpty)=Y:=();rw[e];show aA ?_;rw[Ε,n9,Υ,ϴ,c_,J1]at o;rw[Ι,j7]at lw;ext(⟨b3,C⟩:ku sm);show{01,.inl {10,aw.of B},b,0011,B,mE _ _,2};rw[K_];let t:ae (bP X b) (bP (upd X b (.lst i)) b):=qM;let w2:upd X b (.lst i) b=Z (.lst i):=aa;let M:=L.trans (t.trans cr);generalize upd X b (.lst i)=H2 at t w2 M⊢;let xp:=size_pos x;show{010011,{010011012}};show aj (λh=>?_) (λh=>?_)
  .let h':(12:Int)<(g:Int)+1:=Q7 h;let:=q H2 M;rw[Q8 (λz=>by let:=o.mpr z;omega)]at this;show aA (gR _ _ this)
  let h':g+1<=12:=by let z:=of_decide_eq_false (B3.mpr h);omega
  show{01,u,x,1,Ru.mono (t.trans cr),C,λu3 D=>{012}};cases c:cP x with
  |false=>have:=q u3 (M.trans D);rw[Q8 (λz=>by let:=o.mpr z;rw[ie c]at this;omega)]at this;show aA (gR _ _ this)
  |true=>
   show aD ?_;ext(⟨j,r,rfl,G,W,es⟩:kQ c);ext(⟨a,us,rfl,ha,rs⟩:ah.tup_inv (Ru.mono (t.trans (ck D))));ext(⟨y,p,rfl,R0,ru⟩:rs);obtain rfl:y=.str j:=R0;let I:=ru.length;let w3:=D _ _ w2;let lk:=uR (λz=>by rw[I];show G z) (λz=>by rw[I];show W z);let lv:i.length<=12:=by rw[u1.length];omega
   show{01,.inl {10,aw.of w3},01,a,j,p,1,cr _ _ ha,λz=>by rw[I];show G z,λz=>by rw[I];show W z,λl b5=>?_};let q4:=ac b5 (.lst (kids j p));show{b,l,0011,q4 _ _ w3,aa,32};let t5:ae (bP u3 b) (bP (upd (upd u3 l (.lst (kids j p))) b (.lst (i++kids j p))) b):=(ck q4).trans qM;let u4:=t.trans ((ck D).trans t5);show gD (12-(g+1)) _ _ () {0,g+1,w0++kids j r,i++kids j p,1,L.trans u4,aa,Reps.append (u1.mono u4) ((AF ru).mono t5),mN b3 (wV (by simp only[Dv.small,smalls,ψ]at C;show C.1.2)),21,h',2}
   .rw[<-o,es,Ε,n9];constructor<;>intro z<;>omega
   .let:=uR G W;rw[Ι];omega
end
abbrev mw:ϯ:=bT 25
abbrev iC:ϯ:=bT 33
abbrev um:ϯ:=bT 34
abbrev BJ:ϯ:=bT 35
def jV(b:Int):Dv->Bool
 |.int i=>decide (0<=i)&&decide (i<b)
 |_=>Α
def fA(b:Int):Dv->Bool
 |.tup ds=>decide (b<=(ds.length:Int))&&decide ((ds.length:Int)<=4)
 |_=>Α
def dz(x:Str):Bool:=Me (.str x) (tQ.map V.str)
def cZ(x:Str):Bool:=WT.any λp=>decide (p.1=x)
def oB:Dv->Bool
 |.str x=>dD x&&(!cZ x && !dz x)
 |_=>Α
def DW:Dv->Bool
 |.str x=>dz x
 |_=>Α
def lS:So->Dv->Bool
 |.n,d=>jV 1000000000000 d
 |.x,d=>bO d
 |.y,d=>bO d
 |.l,d=>iK d
 |.k,d=>decide (bE d<=12)
 |.w,d=>DW d
 |.f,d=>oB d
 |.a,d=>fA 0 d
 |.r,d=>fA 1 d
 |.e,_=>Y
inductive xK (vs:List V) (H:Hp) (Q:VK) (u3_:XK):Prop|mk (v:V) (d:Dv) (b:Int) (_:vs=[v,.int b]) (_:ah H d v) (_:∀H',ae H H'->Q (.bl (jV b d)) H')
inductive xH (vs:List V) (H:Hp) (Q:VK) (u3_:XK):Prop|mk (v:V) (d:Dv) (b:Int) (_:vs=[v,.int b]) (_:ah H d v) (_:∀H',ae H H'->Q (.bl (fA b d)) H')
inductive BT (vs:List V) (H:Hp) (Q:VK) (u3_:XK):Prop|mk (s:So) (v:V) (d:Dv) (_:vs=[.str (fH s),v]) (_:ah H d v) (_:d.small=Y) (_:∀H',ae H H'->Q (.bl (lS s d)) H')
section
variable{P:Θ}{w:Χ}{K:ζ}{mg:Str->Option θ}{base:ϖ}
def va(F:Fun K "is_below" "is_below" mw f fd)(T:Txt K mg)(Dis_whole:aS P w K mg base k "is_whole" ["thing"] (HW cQ)):ap P w K mg base aY (k+1) f fd ["thing","bound"] xK:=by
 show F.okA (N:=["thing","bound"]) λcdv A outer s H vs Q E hr nd h=>?_;ext(⟨v,d,b,rfl,R,q⟩:h);show{0,bI (iV (aL Dis_whole (aK 0)) (nO (Mf iX jE az (wv 0) (wv 1)))),{01,v,d,1,R,λH1 s1=>{012}}};let qq:=q H1 s1;cases d with
 |int i=>
  obtain rfl:v=.int i:=R;show aA {010011012};let qq':Q (.bl (decide (0<=i)&&decide (i<b))) H1:=qq;by_cases h:0<=i
  .rw[Q9 h]at qq'⊢;show aA {010011,qq'}
  .rw[Q8 h]at qq'⊢;show aD qq'
 |_=>show aD qq
def AV(F:Fun K "is_few" "is_few" um f fd)(T:Txt K mg):ap P w K mg base aY 1 f fd ["thing","least"] xH:=by
 show F.okA (N:=["thing","least"]) λcdv A outer s H vs Q E hr nd h=>?_;ext(⟨v,d,b,rfl,R,q⟩:h);show{0,bI (iV (cn bu T.isinstance (ay (wv 0) (ar (vB (.ty "tuple") T.tuple U)))) (nO (Mf iX iX (wv 1) (cn am T.len (aK 0)) {T.g_MOST_THINGS U}))),2};let qq:=q H (ae.refl H);show{01,v,0001,R.ty,dC K d,012};cases d with
 |tup ds=>
  ext(⟨a,vs,rfl,ha,rs⟩:ah.tup_inv R);show aA {0101,a,vs,1,.inr (aq.of ha),0011012};let qq':Q (.bl (decide (b<=(ds.length:Int))&&decide ((ds.length:Int)<=4))) H:=qq;rw[<-rs.length]at qq';by_cases h:b<=(vs.length:Int)
  .rw[Q9 h]at qq'⊢;show aA {0011,qq'}
  .rw[Q8 h]at qq'⊢;show aD qq'
 |_=>show aD qq
def oG(F:Fun K "is_def_name" "is_def_name" iC f fd)(T:Txt K mg)(S:Shp P w K gS)(GS:mg "SHAPES"=Z (.ref gS))(GR:mg "RECKONS"=Z (.ref gR))(hR:∀H,aq K H gR (tQ.map V.str))(Dis_name:aS P w K mg base k "is_name" ["thing"] (ir bO)):ap P w K mg base aY (k+1) f fd ["thing"] (ir oB):=by
 show F.okA (N:=["thing"]) λcdv A outer s H vs Q E hr nd h=>?_;ext(⟨v,d,rfl,R,sm,q⟩:h);ext(⟨kvs,FS,_,hS⟩:S.ex);show{0,bI (iV (aL Dis_name (aK 0)) (iV (jO (qb FS) (wv 0) (vE (.ref gS) GS)) (nO (jO iZ (wv 0) (vE (.ref gR) GR))))),{01,v,d,1,R,sm,λH1 s1=>{012}}};let qq:=q H1 s1;cases d with
 |str x=>
  obtain rfl:v=.str x:=R;let qq':Q (.bl (dD x&&(!cZ x && !dz x))) H1:=qq;change if dD x=Y then _ else _
  cases hn:dD x with
  |false=>rw[hn]at qq';show aD qq'
  |true=>
   rw[hn]at qq';show aA {01,x,11012};rw[hS x];change if xor Y (cZ x)=Y then _ else _
   cases hw:cZ x with
   |true=>rw[hw]at qq';show aD qq'
   |false=>rw[hw]at qq';show aA {01,gR,01,.inr (hR _),13,qq'}
 |_=>show aD qq
def Fw(F:Fun K "fits" "fits" BJ f fd)(T:Txt K mg)(GR:mg "RECKONS"=Z (.ref gR))(hR:∀H,aq K H gR (tQ.map V.str))(Dis_below:aS P w K mg base k "is_below" ["thing","bound"] xK)(Dis_name:aS P w K mg base k "is_name" ["thing"] (ir bO))(Dis_small_length:aS P w K mg base k "is_small_length" ["thing"] (ir iK))(Dis_kind:aS P w K mg base k "is_kind" ["thing"] nc)(Dis_def_name:aS P w K mg base k "is_def_name" ["thing"] (ir oB))(Dis_few:aS P w K mg base k "is_few" ["thing","least"] xH):ap P w K mg base aY (k+1) f fd ["sort","thing"] BT:=by
 show F.okA (N:=["sort","thing"]) λcdv A outer s H vs Q E hr nd h=>?_;ext(⟨so,v,d,rfl,R,sm,q⟩:h);show{0,bV (aU av (wv 0) aP) (aL Dis_below (ay (wv 1) (ar {T.g_WHOLE_BOUND U}))) (bV (aU av (wv 0) aP) (aL Dis_name (aK 1)) (bV (aU av (wv 0) aP) (aL Dis_small_length (aK 1)) (bV (aU av (wv 0) aP) (aL Dis_kind (aK 1)) (bV (aU av (wv 0) aP) (iV (cn bu T.isinstance (ay (wv 1) (ar (vB (.ty "str") T.str U)))) (nO (jO qA (wv 1) (vE (.ref gR) GR)))) (bV (aU av (wv 0) aP) (aL Dis_def_name (aK 1)) (bV (aU av (wv 0) aP) (aL Dis_few (ay (wv 1) (ar az))) (bV (aU av (wv 0) aP) (aL Dis_few (ay (wv 1) (ar az))) (bI gA)))))))),{01101,aj (λh=>?_) (λh1=>?_)}}
 .let e:=(Hd so).mp (Q7 h);subst e;show{01,v,d,01,R,q}
 show{01101,aj (λh=>?_) (λh2=>?_)}
 .rcases(tD so).mp (Q7 h)with e|e
  .subst e;show{01,v,d,1,R,sm,q}
  .subst e;show{01,v,d,1,R,sm,q}
 show{01101,aj (λh=>?_) (λh3=>?_)}
 .let e:=(qk so).mp (Q7 h);subst e;show{01,v,d,1,R,sm,q}
 show{01101,aj (λh=>?_) (λh4=>?_)}
 .let e:=(qB so).mp (Q7 h);subst e;show{01,v,d,1,R,sm,q}
 show{01101,aj (λh=>?_) (λh5=>?_)}
 .let e:=(Hy so).mp (Q7 h);subst e;show{01,v,0001,R.ty,jh K d,012};let qq:=q H (ae.refl H);cases d with
  |str x=>obtain rfl:v=.str x:=R;show aA {01,gR,01,.inr (hR _),13,qq}
  |_=>show aD qq
 show{01101,aj (λh=>?_) (λh6=>?_)}
 .let e:=(HR so).mp (Q7 h);subst e;show{01,v,d,1,R,sm,q}
 show{01101,aj (λh=>?_) (λh7=>?_)}
 .let e:=(uJ so).mp (Q7 h);subst e;show{01,v,d,01,R,q}
 show{01101,aj (λh=>?_) (λh8=>?_)}
 .let e:=(tN so).mp (Q7 h);subst e;show{01,v,d,01,R,q}
 let e:so=.e:=by
  cases so with
  |e=>rfl
  |n=>show absurd (Q9 ((Hd .n).mpr U)) h1
  |x=>show absurd (Q9 ((tD .x).mpr (.inl U))) h2
  |y=>show absurd (Q9 ((tD .y).mpr (.inr U))) h2
  |l=>show absurd (Q9 ((qk .l).mpr U)) h3
  |k=>show absurd (Q9 ((qB .k).mpr U)) h4
  |w=>show absurd (Q9 ((Hy .w).mpr U)) h5
  |f=>show absurd (Q9 ((HR .f).mpr U)) h6
  |a=>show absurd (Q9 ((uJ .a).mpr U)) h7
  |r=>show absurd (Q9 ((tN .r).mpr U)) h8
 subst e;show q H (ae.refl H)
end
abbrev qF:ϯ:=bT 36
abbrev mS:ϯ:=bT 37
inductive ze (vs:List V) (H:Hp) (Q:VK) (u3_:XK):Prop|mk (v:V) (d:Dv) (G:Hp) (_:vs=[v]) (_:ae G H) (_:ah G d v) (_:Im d) (_:∀(H':Hp)(l:J)(us:List V),ae H H'->H l=χ->H' l=Z (.lst us)->Reps G (dX d) us->Q (.ref l) H')
def pB:List So->List Dv->Bool
 |[],[]=>Y
 |s::ss,d::ds=>lS s d&&pB ss ds
 |_,_=>Α
def kJ:List Dv->Bool
 |.str x::_::.str y::_=>decide (x≠y)
 |_=>Α
def fJ:Dv->Bool
 |.tup (.str w::ds)=>match WT.find? (λq=>decide (q.1=w))with
  |some p=>pB p.2.2 ds&&(decide (w≠"fold")||kJ ds)
  |none=>Α
 |_=>Α
def Aw(h:gU d=Α):fJ d=Α:=by
 match d,h with
 |.tup (.str x::r),h=>cases h
 |.tup [],_=>rfl
 |.tup (.non::r),_=>rfl
 |.tup (.bl _::r),_=>rfl
 |.tup (.int _::r),_=>rfl
 |.tup (.tup _::r),_=>rfl
 |.tup (.lst _::r),_=>rfl
 |.tup (.dct::r),_=>rfl
 |.non,_=>rfl
 |.bl _,_=>rfl
 |.int _,_=>rfl
 |.str _,_=>rfl
 |.lst _,_=>rfl
 |.dct,_=>rfl
def zO(h:cZ x=Α):fJ (.tup (.str x::ds))=Α:=by
 let e:WT.find? (λq=>decide (q.1=x))=χ:=by rw[N9];intro p a;let:=OD.mp h p a;show this
 change(match WT.find? (λq=>decide (q.1=x))with|some b=>pB b.2.2 ds&&(decide (x≠"fold")||kJ ds)|none=>Α)=_;rw[e]
def rj(h:cZ x=Y):∃p∈WT,p.1=x:=by ext(⟨p,hp,e⟩:n_.mp h);show{p,hp,Q7 e}
def bR(a:p∈WT)(ds:List Dv):fJ (.tup (.str p.1::ds))=(pB p.2.2 ds&&(decide (p.1≠"fold")||kJ ds)):=by change(match WT.find? (λq=>decide (q.1=p.1))with|some b=>pB b.2.2 ds&&(decide (p.1≠"fold")||kJ ds)|none=>Α)=_;rw[zh GZ a]
def sv:∀{ss:List So}{ds:List Dv},pB ss ds=Y->ds.length=ss.length
 |[],[],_=>rfl
 |s::ss,d::ds,h=>by simp only[pB,ψ]at h;rw[Λ,Λ,sv h.2]
 |[],_::_,h=>by cases h
 |_::_,[],h=>by cases h
def DK{ss:List So}{ds:List Dv}{i:Nat}{s:So}{d:Dv}(c:ss[i]?=Z s)(e:ds[i]?=Z d):pB (ss.drop i) (ds.drop i)=(lS s d&&pB (ss.drop (i+1)) (ds.drop (i+1))):=by ext(⟨a,rfl⟩:Ζ.mp c);ext(⟨b,rfl⟩:Ζ.mp e);rw[E4 a,E4 b];rfl
def yS(h:fA b d=Y):∃es,d=.tup es/\b<=(es.length:Int)/\es.length<=4:=by
 cases d with
 |tup es=>simp only[fA,ψ,decide_eq_true_eq]at h;show{es,1,h.1,3}
 |_=>cases h
def DH:∀{ss:List So}{ds:List Dv},pB ss ds=Y->F2 (MH (λ_=>True) (λ_ _=>True)) ss ds
 |[],[],_=>.nil
 |s::ss,d::ds,h=>by
  simp only[pB,ψ]at h;show .cons ?_ (DH h.2);cases s with
  |a=>ext(⟨b,rfl,_,c⟩:yS h.1);show{b,1,c,λ_ _=>trivial}
  |r=>ext(⟨b,rfl,f,c⟩:yS h.1);show{b,13,c,λ_ _=>trivial}
  |e=>trivial
  |_=>trivial
 |[],_::_,h=>by cases h
 |_::_,[],h=>by cases h
def Ba(h:fJ d=Y):Im d:=by
 match d,h with
 |.tup (.str x::ds),h=>
  cases hw:cZ x with
  |false=>rw[zO hw]at h;cases h
  |true=>ext(⟨p,hp,rfl⟩:rj hw);rw[bR hp,ψ]at h;show{p,ds,hp,1,DH h.1}
 |.tup [],h=>cases h
 |.tup (.non::r),h=>cases h
 |.tup (.bl _::r),h=>cases h
 |.tup (.int _::r),h=>cases h
 |.tup (.tup _::r),h=>cases h
 |.tup (.lst _::r),h=>cases h
 |.tup (.dct::r),h=>cases h
 |.non,h=>cases h
 |.bl _,h=>cases h
 |.int _,h=>cases h
 |.str _,h=>cases h
 |.lst _,h=>cases h
 |.dct,h=>cases h
def Nf(h:ds.length=5):∃a b c d e,ds=[a,b,c,d,e]:=by
 match ds,h with
 |[a,b,c,d,e],_=>show{a,b,c,d,e,1}
def yt:∀p∈WT,p.1="fold"->p.2.2=[.x,.l,.y,.e,.e]:=()
def ur(h:bO d=Y):∃x,d=.str x:=by
 cases d with
 |str x=>show{x,1}
 |_=>cases h
section
variable{P:Θ}{w:Χ}{K:ζ}{mg:Str->Option θ}{base:ϖ}
def uI(F:Fun K "parts_of" "parts_of" mS f fd)(T:Txt K mg)(S:Shp P w K gS)(GS:mg "SHAPES"=Z (.ref gS)):ap P w K mg base aY 1 f fd ["node"] ze:=by
 show F.okA (N:=["node","parts","sort","given"]) λf3 A e8 s H vs Q E hr nd h=>?_;ext(⟨v,d,G,rfl,sG,R,⟨p,ds,hp,rfl,hf⟩,q⟩:h);ext(⟨f1,FS,hS,_⟩:S.ex);ext(⟨a,vs,rfl,c7,rs⟩:ah.tup_inv R);ext(⟨v0,I,rfl,R0,b3⟩:cb rs);let ha:=sG _ _ c7;obtain rfl:v0=.str p.1:=R0;ext(⟨b,hb,b1⟩:hS p hp);let d0:=hf.length;let e9:=b3.length;let h5:=gk p hp;show{0,aQ (aV 1 (fu pZ)) (aQ (qO Ϩ U (MD U T.zip (ay (Mt FS (vE (.ref gS) GS) (bc 0)) (ar (gp im (wv 0) (fG az) ib)))) (uX (gE (eX 2) (gE (eX 3) tq))) (kW (aU av (wv 2) aP) (cX (oF (fv ϑ Ϡ ϡ bq (wv 1) (aK 3)))) (cX (Ap (iz (me (aU av (wv 2) aP) (qu (aU av (wv 2) aP)))) (cX (oF (fv ϑ F5 F6 Ff (wv 1) (aK 3)))) Bh)))) (bI (wv 1))),2};show{Τ _,λl hl=>?_};let u0:=ac hl (.lst []);let l1:upd H l (.lst []) l=Z (.lst []):=aa;generalize upd H l (.lst [])=H1 at u0 l1⊢;show dm ?_;show{01,a,0,(0),.str p.1,11,aq.of (u0 _ _ ha),ad U,p.1,b,11,hb,{01,(1),12}};show io (u0 _ _ ha) λH2 t s2 ht=>?_;let ec:db (V.str p.1::I) (Z 1) χ=I:=cU (V.str p.1::I) 1;rw[ec]at ht;let l2:=s2 _ _ l1;show{b,t,1,{0,b1 _},{0,aq.of ht},kR (D:={nx:=CZ (km 1) {nx:=λx H'=>Q V.non H',rt:=Q},rt:=Q}) (λi σ H'=>∃(z X:Option V) (us:List V),σ=[Z (.ref a),Z (.ref l),z,X]/\ae H H'/\H' t=Z (.tup I)/\H' l=Z (.lst us)/\Reps G (bA (p.2.2.take i) (ds.take i)) us/\us.length<=4*i) {00,[],1,(u0.trans s2),ht,l2,by simp[bA,Reps],Β _} (λi σ H' ⟨_,_,_,_,_,h,_⟩=>{b1 _,aq.of h}) ?T1 ?_}
 case T1=>
  ext i x y σ u1 u4 D1 gR gD hx hy ⟨z,X,us,rfl,s3,b4,l3,S,lu⟩ c9;rw[ϐ]at hx;ext(⟨c,u3,rfl⟩:Ϣ.mp hx);let hi:=(Ζ.mp u3).1;ext(⟨d,hd,b2⟩:hf.get u3);ext(⟨y',a9,Ry⟩:Al b3 hd);rw[hy]at a9;cases a9;let q4:=ac c9 (.tup [.str (fH c),y]);let b0:upd u1 u4 (.tup [.str (fH c),y]) u4=Z (.tup [.str (fH c),y]):=aa;let u2:=s3.trans q4;let u:=q4 _ _ l3;let L:=q4 _ _ b4;generalize upd u1 u4 (.tup [.str (fH c),y])=C at b0 u2 u L⊢;show{u4,01,aq.of b0,100100112};let W:∀(k:List V),Reps G (nJ c d) k->k.length<=4->(∃(z X:Option V) (n:List V),[Z (V.ref a),Z (.ref l),Z (.str (fH c)),Z y]=[Z (.ref a),Z (.ref l),z,X]/\ae H (upd C l (.lst (us++k)))/\upd C l (.lst (us++k)) t=Z (.tup I)/\upd C l (.lst (us++k)) l=Z (.lst n)/\Reps G (bA (p.2.2.take (i+1)) (ds.take (i+1))) n/\n.length<=4*(i+1)):=λk Ru f0=>by
   show{00,us++k,1,λg o e=>?_,2,aa,2,by rw[Ι];omega}
   .rw[ai (af e hl)];show u2 g o e
   .rw[ai (λe=>by rw[e,u]at L;cases L)];show L
   .rw[pK _ _ _ u3 hd];show Reps.append S Ru
  let a0:nJ c d=[]->(∃(z X:Option V) (n:List V),[Z (V.ref a),Z (.ref l),Z (.str (fH c)),Z y]=[Z (.ref a),Z (.ref l),z,X]/\ae H C/\C t=Z (.tup I)/\C l=Z (.lst n)/\Reps G (bA (p.2.2.take (i+1)) (ds.take (i+1))) n/\n.length<=4*(i+1)):=λe=>by show{00,us,1,u2,L,u,23};rw[pK _ _ _ u3 hd,e,ϣ];show S
  replace W:=λk B j=>gD _ _ (W k B j);replace a0:=λe=>gD _ _ (a0 e);show{01101,aj (λh=>?_) (λh=>?_)}
  .let e:=(yX c).mp (Q7 h);subst e;show{01,.inl {10,aw.of u},01,l,0011,u,32};let c8:=W [y] (aO Ry) (by change 1<=4;decide);show{01101,aj (λj=>absurd ((uJ .e).mp (Q7 j)) ()) (λ_=>{011012})};rw[show decide (V.str (fH .e)=V.str "things")=Α from Q8 λj=>absurd ((tN .e).mp j) ()];show aD c8
  .let ne:=λe=>h (Q9 ((yX c).mpr e));by_cases M:c=.a\/c=.r
   .obtain⟨m,rfl,f2⟩:∃m,d=.tup m/\m.length<=4:=by
     rcases M with e|e
     .subst e;ext(⟨m,B,j,_⟩:b2);show{m,B,j}
     .subst e;ext(⟨m,B,_,j,_⟩:b2);show{m,B,j}
    let ek:nJ c (.tup m)=m:=by rcases M with e|e<;>subst e<;>rfl
    ext(⟨b2,zs,rfl,d1,rz⟩:ah.tup_inv Ry);let lz:=rz.length;show dR ?_;dsimp only;show IQ (aA ?_) λqT=>?_
    .show{01,.inl {10,aw.of u},01,l,b2,0,zs,11,u,aq.of (u2 _ _ (sG _ _ d1)),3,W zs (by rw[ek];show rz) ()}
    .rcases M with e|e
     .show{01101,aj (λ_=>qT) (λj=>absurd (Q9 ((uJ c).mpr e)) j)}
     .show{01101,aj (λ_=>qT) (λ_=>{011012})};rw[Q9 ((tN c).mpr e)];show qT
   .let na:=λe=>M (.inl e);let nr:=λe=>M (.inr e);show dR {01101,aj (λj=>absurd ((uJ c).mp (Q7 j)) na) (λ_=>{011012})};rw[show decide (V.str (fH c)=V.str "things")=Α from Q8 λj=>nr ((tN c).mp j)];show aD (a0 ?_);cases c with
    |e=>show absurd U ne
    |a=>show absurd U na
    |r=>show absurd U nr
    |_=>rfl
 ext σ u1 ⟨z,X,us,rfl,s3,b4,l3,S,lu⟩;show{01,q u1 l us s3 hl l3 ?_};rw[ε,O8 (),Ϥ,<-d0,Ϥ]at S;rw[parts_of hp];show S
def vR{f gS:J}{fd:ό}{k:Nat}(F:Fun K "is_node" "is_node" qF f fd)(T:Txt K mg)(S:Shp P w K gS)(GS:mg "SHAPES"=Z (.ref gS))(Dhas_word:aS P w K mg base k "has_word" ["thing"] (HW gU))(Dfits:aS P w K mg base k "fits" ["sort","thing"] BT):ap P w K mg base aY (k+1) f fd ["thing"] (ir fJ):=by
 show F.okA (N:=["thing","shape","sort","given"]) λcdv A outer s H vs Q E hr nd h=>?_;ext(⟨v,d,rfl,R,hsm,q⟩:h);ext(⟨kvs,FS,hS,hS2⟩:S.ex);show{0,bV (iz (me (jP (ii (aL Dhas_word (aK 0)))) (qu (aU (qb FS) (bc 0) (vE (.ref gS) GS))))) gA (aQ (aV 1 (Mt FS (vE (.ref gS) GS) (bc 0))) (bV (aU eV (cn am T.len (aK 0)) (bh bj (cn am T.len (aK 1)) az)) gA (aQ (qO Ϩ U (MD U T.zip (ay (wv 1) (ar (gp im (wv 0) (fG az) ib)))) (uX (gE (eX 2) (gE (eX 3) tq))) (cX (Ap (jP (ii (aL Dfits (ay (wv 2) (aK 3))))) (bI gA) Bh))) (bI (NI (jO eV (bc 0) aP) (nO (jO eV (bc 0) (bc 0)))))))),2};show{01,v,d,1,R,λH1 s1=>{012}};cases c0:gU d with
 |false=>show aA (aA ?_);let:=q H1 s1;rwa[Aw c0]at this
 |true=>
  show aD ?_;ext(⟨x,ds,rfl⟩:iR c0);ext(⟨a,vs,rfl,ha,rs⟩:ah.tup_inv (R.mono s1));ext(⟨y,ws,rfl,R0,ru⟩:cb rs);obtain rfl:y=.str x:=R0;let lws:=ru.length;let hds:smalls ds=Y:=by simp only[Dv.small,smalls,ψ]at hsm;show hsm.1.2
  show{01,a,0,(0),.str x,11,aq.of ha,ad U,x,11012};rw[hS2 x];change if xor Y (cZ x)=Y then _ else _
  cases hw:cZ x with
  |false=>show aA ?_;let:=q H1 s1;rwa[zO hw]at this
  |true=>
   show aD ?_;ext(⟨p,hp,rfl⟩:rj hw);ext(⟨b,hb,hbT⟩:hS p hp);show{01,a,0,(0),.str p.1,11,aq.of ha,ad U,p.1,b,11,hb,{01,a,01,.inr (aq.of ha),01,b,01,.inr (hbT _),00111012}};by_cases hl:ds.length=p.2.2.length
   .rw[show(!decide (V.int (((V.str p.1::ws).length:Nat):Int)=V.int ((((p.2.2.map λs=>V.str (fH s)).length:Nat):Int)+1)))=Α by
     rw[Λ,lws,hl,ε,show((p.2.2.length+1:Nat):Int)=(p.2.2.length:Int)+1 by omega,Q9 U];rfl]
    show aD {0101,(1),12};show io ha λH2 t s2 ht=>?_;let ec:db (V.str p.1::ws) (Z 1) χ=ws:=cU (V.str p.1::ws) 1;rw[ec]at ht;show{b,t,1,{0,hbT _},{0,aq.of ht},kR (D:={nx:=CZ (Li (Es MQ (Es (zT K) (km 0) (tC (V.int 0))) (tC (V.str (O "fold")))) (Es MQ (Es (zT K) (km 0) (tC (V.int 1))) (Es (zT K) (km 0) (tC (V.int 3))))) {nx:=λx H'=>Q V.non H',rt:=Q},rt:=Q}) (λi σ H'=>∃(o2 o3:Option V),σ=[Z (.ref a),Z (.ref b),o2,o3]/\ae H2 H'/\pB p.2.2 ds=pB (p.2.2.drop i) (ds.drop i)) {001,ae.refl _,1} (λi σ H' ⟨_,_,_,h,_⟩=>{hbT _,aq.of (h _ _ ht)}) ?T1 ?_}
    case T1=>
     ext i x y σ H3 t3 D1 gR gD hx hy ⟨o2,o3,rfl,s3,ok3⟩ hp3;rw[ϐ]at hx;ext(⟨so,hso,rfl⟩:Ϣ.mp hx);ext(⟨d,hd,Ry⟩:ru.get hy);let q4:=ac hp3 (.tup [.str (fH so),y]);let ht4:upd H3 t3 (.tup [.str (fH so),y]) t3=Z (.tup [.str (fH so),y]):=aa;let s4:=s2.trans (s3.trans q4);let s24:=s3.trans q4;generalize upd H3 t3 (.tup [.str (fH so),y])=H4 at ht4 s4 s24⊢;show{t3,01,aq.of ht4,100100112};show{0101,so,y,d,1,Ry.mono s4,eO hds hd,λH5 s5=>{012}};rw[DK hso hd]at ok3;cases hfit:lS so d with
     |false=>show aA ?_;let:=q H5 (s1.trans (s4.trans s5));rw[bR hp,ok3,hfit]at this;show gR _ _ this
     |true=>show aD (gD _ _ {001,s24.trans s5,2});rw[ok3,hfit,o9]
    ext σ H3 ⟨o2,o3,rfl,s3,ok3⟩;let okk:pB p.2.2 ds=Y:=by rw[ok3,ε,O8 (),Ql,<-hl,Ql];rfl
    let s23:=s2.trans s3;let qq:=q H3 (s1.trans s23);rw[bR hp,okk,o9]at qq;show{01,a,0,(0),.str p.1,11,aq.of (s23 _ _ ha),ad U,1012};rw[dJ];by_cases hf:p.1="fold"
    .rw[Q9 hf];show aD ?_;let hss:=yt p hp hf;rw[hss]at okk;let l5:ds.length=5:=by rw[hl,hss];rfl
     ext(⟨d1,d2,d3,d4,d5,rfl⟩:Nf l5)
     .simp only[pB,lS,ψ]at okk
      ext(⟨x1,rfl⟩:ur okk.1);ext(⟨x3,rfl⟩:ur okk.2.2.1);ext(⟨u1,r1,rfl,R1,ru⟩:cb ru);ext(⟨u2,r2,rfl,R2,ru⟩:cb ru);ext(⟨u3,r3,rfl,R3,ru⟩:cb ru);obtain rfl:u1=.str x1:=R1;obtain rfl:u3=.str x3:=R3;show{01,a,0,(1),.str x1,11,aq.of (s23 _ _ ha),ad U,01,a,0,(3),.str x3,11,aq.of (s23 _ _ ha),ad U,12};rw[dJ];rw[show decide (p.1≠"fold")=Α from Q8 (λz=>z hf),Qc]at qq;let e:kJ [.str x1,d2,.str x3,d4,d5]=!decide (x1=x3):=by
       change decide (x1≠x3)=_;by_cases h:x1=x3
       .rw[Q9 h,Q8 (λz=>z h)];rfl
       .rw[Q8 h,Q9 h];rfl
      rw[e]at qq;show qq
    .rw[Q8 hf];show aA ?_;rw[Q9 hf,Bool.true_or]at qq;show qq
   .rw[show(!decide (V.int (((V.str p.1::ws).length:Nat):Int)=V.int ((((p.2.2.map λs=>V.str (fH s)).length:Nat):Int)+1)))=Y by
     rw[Q8 λz=>hl (by injection z with z;rw[Λ,lws,ε]at z;omega)];rfl]
    show aA ?_;let:=q H1 s1;rw[bR hp]at this;cases ho:pB p.2.2 ds with
    |true=>show absurd (sv ho) hl
    |false=>rw[ho]at this;show this
end
abbrev qz:ϯ:=bT 38
def cY:Nat->Dv->Nat
 |0,_=>99
 |n+1,d=>if fJ d=Y then 1+((dX d).map (cY n)).sum else 99
def oA:Sp:=ir λd=>decide (cY 8 d<=40)
def yC(n:Nat)(d:Dv):1<=cY n d:=by
 cases n with
 |zero=>change 1<=99;decide
 |succ n=>unfold cY;split<;>omega
def Mr(p:Dv×Nat):Dv:=.tup [p.1,.int p.2]
def mW(a:List (Dv×Nat)):Nat:=(a.map λp=>cY (8-p.2) p.1).sum
def vc(xs ys:List (Dv×Nat)):mW (xs++ys)=mW xs+mW ys:=by unfold mW;rw[Ε,n9]
def wB(h:smalls ds=Y):∀d∈ds,d.small=Y:=by
 induction ds with
 |nil=>intro d a;cases a
 |cons x ds b=>
  simp only[smalls,ψ]at h;intro d a;rcases ν.mp a with rfl|a
  .show h.1
  .show b h.2 d a
def eK(h:(Dv.tup ds).small=Y):∀d∈ds,d.small=Y:=by simp only[Dv.small,ψ]at h;show wB h.1
def kH(h:d.small=Y):∀e∈DY d,e.small=Y:=by
 cases d with
 |tup ds=>show eK h
 |_=>intro e he;cases he
def qv:∀(ss:List So)(ds:List Dv),(∀d∈ds,d.small=Y)->∀e∈bA ss ds,e.small=Y
 |[],_,_,e,c=>by simp[bA]at c
 |_::_,[],_,e,c=>by simp[bA]at c
 |s::ss,d::ds,h,e,c=>by
  rcases ϧ.mp (show e∈nJ s d++bA ss ds from c)with b|b
  .cases s with
   |e=>rw[ξ.mp b];show h d Γ
   |a=>show kH (h d Γ) e b
   |r=>show kH (h d Γ) e b
   |_=>cases b
  .show qv ss ds (λx f=>h x (ς _ f)) e b
def uk(h:d.small=Y):∀e∈dX d,e.small=Y:=by
 match d,h with
 |.tup (.str w::ds),h=>show qv _ ds λx b=>eK h x (ς _ b)
 |.tup [],_=>intro e a;cases a
 |.tup (.non::r),_=>intro e a;cases a
 |.tup (.bl _::r),_=>intro e a;cases a
 |.tup (.int _::r),_=>intro e a;cases a
 |.tup (.tup _::r),_=>intro e a;cases a
 |.tup (.lst _::r),_=>intro e a;cases a
 |.tup (.dct::r),_=>intro e a;cases a
 |.non,_=>intro e a;cases a
 |.bl _,_=>intro e a;cases a
 |.int _,_=>intro e a;cases a
 |.str _,_=>intro e a;cases a
 |.lst _,_=>intro e a;cases a
 |.dct,_=>intro e a;cases a
def ud(h:Im d):(dX d).length<=4:=by ext(⟨p,ds,a,rfl,b⟩:h);rw[XB.parts_of a];show ϩ (Fq b).2 (EB p a)
section
variable{P:Θ}{w:Χ}{K:ζ}{mg:Str->Option θ}{base:ϖ}
def xq(F:Fun K "is_expression" "is_expression" qz f fd)(T:Txt K mg)(c9:aS P w K mg base k "is_node" ["thing"] (ir fJ))(c8:aS P w K mg base k "parts_of" ["node"] ze):ap P w K mg base aY (k+1) f fd ["thing"] oA:=by
 show F.okA (N:=["thing","count","waiting","found","node","above"]) λf9 A f7 s H vs Q E hr nd h=>?_;ext(⟨v,d,rfl,R,d7,q⟩:h);show{0,aQ (aV 1 az) (aQ (aV 2 (fu (ar (cy (ay (wv 0) (ar az)))))) (aQ (Lv Ϩ (MR (wv 2) (λ_=>U)) (aQ (aV 3 (LW ϑ OT OU wt (wv 2))) (aQ (aV 4 (bc 3)) (aQ (aV 5 (bc 3)) (aQ (NJ 1 nd U (m_ U) az DX) (bV (iz (me (aU fh (wv 1) {T.g_MOST_NODES U}) (me (aU fh (wv 5) {T.g_MOST_ABOVE U}) (qu (jP (ii (aL c9 (aK 4)))))))) gA (cX (oF (fv ϑ F5 F6 ka (wv 2) (ar (lT ["part"] [5] (vC (aL c8 (aK 4))) (.of U) U (λ_ _ _=>{pg_name (i:=0) (bp (l:=["part","above"]) (()) U) U (m_ U)}) (aZ ()) (λ_ _ _=>lF) (λ_ _ _=>(cy (ay (wv 0) (ar (bh bj (wv 1) az)))))))))))))))) (bI gA))),2};show{01,z2,λS d6=>{z1,λa hW=>?_}};let q0:=ac d6 (.tup [v,.int 0]);let q1:=ac hW (.lst [.ref S]);let r0:ah (upd H S (.tup [v,.int 0])) (Mr (d,0)) (.ref S):=by unfold Mr;rw[ah];show{S,01,aa,by simp only[Reps];show{001,R.mono q0,001,by simp only[ah];rfl,1}}
 show tV (λm σ H'=>∃(o3 o4 o5:Option V) (b:Nat) (X:List (Dv×Nat)) (vs:List V),σ=[Z v,Z (.int b),Z (.ref a),o3,o4,o5]/\ae H (bP H' a)/\H' a=Z (.lst vs)/\Reps (bP H' a) (X.map Mr) vs/\(∀p∈X,p.1.small=Y/\p.2<=8)/\(b+mW X<=40↔cY 8 d<=40)/\m=40-b/\b<=40/\X.length<=1+4*b) 40
  {000,(0),[(d,0)],[.ref S],1,q0.trans (jy q1 hW),aa,aO (r0.mono (jy q1 hW)),λp I=>by rw[ξ.mp I];show{d7,Τ _},by simp[mW],13,Β _} ?_ iU
 ext m σ B D1 u0 gD ⟨o3,o4,o5,b,X,vs,rfl,s1,w1,u4,sm,n,rfl,d1,lw⟩;show{010,.inl {vs,aw.of w1,1},2};by_cases ne:X=[]
 .subst ne;let e:vs=[]:=by simpa only[ϴ,Reps]using u4
  subst e;show aD ?_;let:=q B (s1.trans cr);rw[Q9 (n.mp (by simpa[mW]using d1))]at this;show this
 .ext(⟨w0,x,rfl⟩:rc ne);rw[Ε]at u4;ext(⟨o,u,rfl,Ra,Ru⟩:il u4);let e:(!(o++[u]).isEmpty)=Y:=();rw[e];show aA ?_;rw[vc]at n;let wx:mW [x]=cY (8-x.2) x.1:=by simp[mW]
  rw[wx]at n;rw[Ι,j7]at lw;ext(⟨a5,x8⟩:sm x ());show{01,.inl {10,aw.of w1},a,0011,w1,mE _ _,2};rw[K_];let L:ae (bP B a) (bP (upd B a (.lst o)) a):=qM;let w2:upd B a (.lst o) a=Z (.lst o):=aa;let W:=s1.trans (L.trans cr);generalize upd B a (.lst o)=H2 at L w2 W⊢;ext(⟨t,us,rfl,ht,ru⟩:ah.tup_inv (Ru));ext(⟨y,z,rfl,Ry,Rz⟩:Reps.two ru);obtain rfl:z=.int x.2:=Rz;let a8:=cr _ _ (L _ _ ht);let xp:=yC (8-x.2) x.1;show{01,t,0,(0),y,11,aq.of a8,ad U,2};show{01,t,0,(1),.int x.2,11,aq.of a8,ad U,2};show{0100112};show{010011012};show aj (λh=>?_) (λh=>?_)
  .let h':(40:Int)<(b:Int)+1:=Q7 h;let:=q H2 W;rw[Q8 (λz=>by let:=n.mpr z;omega)]at this;show aA (u0 _ _ this)
  let h':b+1<=40:=by let z:=of_decide_eq_false (B3.mpr h);omega
  show{010011012};show aj (λu1=>?_) (λu1=>?_)
  .let d3:(7:Int)<(x.2:Int):=Q7 u1;let:=q H2 W;rw[Q8 (λz=>by let:=n.mpr z;rw[show 8-x.2=0 by omega]at this;let d4:cY 0 x.1=99:=U;omega)]at this;show aA (u0 _ _ this)
  let d3:x.2<=7:=by let z:=of_decide_eq_false (B3.mpr u1);omega
  obtain⟨j,hj⟩:∃j,8-x.2=j+1:={7-x.2,3};show{01,y,x.1,1,Ry.mono (L.trans cr),a5,λH3 u2=>{012}};let d8:=W.trans u2;cases c:fJ x.1 with
  |false=>
   let:=q H3 d8;rw[Q8 (λz=>by
    let:=n.mpr z;let d4:cY (8-x.2) x.1=99:=by rw[hj];unfold cY;rw[c];rfl
    omega)]at this
   show aA (u0 _ _ this)
  |true=>
   show aD ?_;let G:=u2 _ _ w2;let t3:=L.trans (ck u2);let f8:H3 a≠χ:=by rw[G];show nofun
   let nn:=Ba c;let p4:=ud nn;let d0:cY (8-x.2) x.1=1+((dX x.1).map (cY j)).sum:=by rw[hj];change(if fJ x.1=Y then _ else _)=_;rw[c];rfl
   show dR {01,.inl {10,aw.of G},01,y,x.1,bP H3 a,1,cr,Ry.mono t3,nn,λH4 l ks M hl h4 R4=>{l,1,{0,aw.of h4},eq (λi ys H'=>ae H4 H'/\Reps (bP H' a) (((dX x.1).take i).map λe=>Mr (e,x.2+1)) ys) {ae.refl _,by simp[Reps]} (λi ys H' _ p=>aw.of (p.1 _ _ h4)) ?_ ?_}}
   .ext i ys C pv d5 ⟨g,D⟩;ext(⟨e,u3,Re⟩:R4.get d5);let hi:=(Ζ.mp u3).1;show ba {01010011,z2,λp I=>{2,g.trans (ac I _),2}}
    .rw[D.length,ε,Ω,ι];omega
    .let a7:C a≠χ:=by rw[g _ _ (M _ _ G)];show nofun
     ext(⟨e1,e2⟩:zU a7 I);rw[ϛ,u3,Ε];show Reps.append (D.mono e2) ?_;show aO (show ah _ (.tup [e,.int ((x.2+1:Nat):Int)]) (.ref p)from ?_);rw[ah];show{p,01,e1,2};simp only[Reps];show{001,(Re.mono (ck (M.trans g))).mono e2,001,by simp only[ah];rfl,1}
   .ext ys C ⟨g,D⟩ r d2;let q6:=ac d2 (.lst ys);let lk:=R4.length;rw[lk,Ϥ]at D;let d9:=D.length;rw[ε]at d9;let w5:=q6 _ _ (g _ _ (M _ _ G));let lv:=Ra.length;rw[ε]at lv;show{a,r,0011,w5,aa,32};let a7:C a≠χ:=by rw[g _ _ (M _ _ G)];show nofun
    let t6:ae (bP C a) (bP (upd (upd C r (.lst ys)) a (.lst (o++ys))) a):=(ck q6).trans qM;let a6:=t3.trans ((ck (M.trans g)).trans t6);show gD (40-(b+1)) _ _ () {000,b+1,w0++(dX x.1).map λe=>(e,x.2+1),o++ys,1,s1.trans a6,aa,2221,h',2}
    .rw[Ε];show Reps.append (Ra.mono a6) ?_;rw[ϗ];show D.mono t6
    .intro p I;rcases ϧ.mp I with h1|h1
     .show sm p (g_ _ h1)
     .ext(⟨e,u3,rfl⟩:ϙ.mp h1);show{uk a5 e u3,3}
    .rw[<-n,vc,d0];let e7:mW ((dX x.1).map λe=>(e,x.2+1))=((dX x.1).map (cY j)).sum:=by unfold mW;rw[ϗ];congr 1;show F_ λe _=>?_;change cY (8-(x.2+1)) e=cY j e;rw[show 8-(x.2+1)=j by omega]
     rw[e7];constructor<;>intro z<;>omega
    .rw[Ι,ε];omega
end
def Lr:bE (.tup [.str x])=if x="whole" then 1 else 99:=by
 by_cases h:x="whole"
 .rw[Q5 h,size_eq,Q5 (show cP (.tup [.str x])=Y from Q9 h)];change 1+((kids x []).map bE).sum=1;rw[h];unfold kids;rw[Q6 w2,Q6 w3];rfl
 .rw[Q6 h];show ie (Q8 h)
def Kt:bE (.tup [.str x,l])=if x="place"/\iK l=Y then 1 else 99:=by
 by_cases h:x="place"/\iK l=Y
 .rw[Q5 h,size_eq,Q5 (show cP (.tup [.str x,l])=Y by change(decide (x="place")&&iK l)=Y;rw[Q9 h.1,h.2];rfl)];change 1+((kids x [l]).map bE).sum=1;rw[h.1];unfold kids;rw[Q6 w4,Q6 w5];rfl
 .rw[Q6 h];show ie (B3.mpr λz=>h (by let z:(decide (x="place")&&iK l)=Y:=z;rw[ψ,decide_eq_true_eq]at z;show z))
def Gq:bE (.tup [.str x,a,b])=if x="pair" then 1+bE a+bE b else if x="row"/\iK a=Y then 1+bE b else 99:=by
 rw[size_eq];change(if ((decide (x="row")&&iK a)||decide (x="pair"))=Y then 1+((kids x [a,b]).map bE).sum else 99)=_;by_cases h:x="pair"
 .subst h;rw[Q5 (),Q5 U];unfold kids;rw[Q6 (ϔ w6),Q5 U];simp[Nat.add_assoc]
 rw[Q6 h,Q8 h,Qd];by_cases g:x="row"/\iK a=Y
 .rw[Q5 (by rw[Q9 g.1,g.2];rfl),Q5 g];unfold kids;rw[Q5 g.1];simp
 .rw[Q6 (λz=>g (by rw[ψ,decide_eq_true_eq]at z;show z)),Q6 g]
def SL(c:Int)(ps:List Pr):Prop:=iK (cw c ps)=Y/\(cw c ps).small=Y
def vx:∀{ps:List Pr}{l:Str},ps.Pairwise (λp q=>p.1.cps.toList<q.1.cps.toList)->(∀p∈ps,1<=p.2)->(∀p∈ps,dD p.1=Y)->(∀p∈ps,l.cps.toList<p.1.cps.toList)->sL l (aJ ps)=Y
 |[],_,_,_,_,_=>rfl
 |p::ps,l,h1,h2,h3,h4=>by let e:aJ (p::ps)=.tup [.str p.1,.int p.2]::aJ ps:=U;rw[e,sL];let b:=List.pairwise_cons.mp h1;change(gJ _&&(decide (l.cps.toList<p.1.cps.toList)&&sL p.1 (aJ ps)))=Y;rw[vx b.2 (λq a=>h2 q (ς _ a)) (λq a=>h3 q (ς _ a)) (λq a=>b.1 q a)];change((dD p.1&&(Y&&decide (1<=p.2)))&&(decide (l.cps.toList<p.1.cps.toList)&&Y))=Y;rw[h3 p Γ,Q9 (h2 p Γ),Q9 (h4 p Γ)];rfl
def jL:∀{ps:List Pr},(∀p∈ps,p.1.cps.size<=8)->smalls (aJ ps)=Y
 |[],_=>rfl
 |p::ps,h=>by simp only[aJ,Υ,smalls,Dv.small,ψ,decide_eq_true_eq];show{{{by let:=h p Γ;omega,trivial,trivial},3},jL λq a=>h q (ς _ a)}
def aX(h:dD x=Y):1<=x.cps.size/\x.cps.size<=8:=by unfold dD at h;simp only[ψ,decide_eq_true_eq]at h;show h.1
def Eg(h:dD x=Y):(O "").cps.toList<x.cps.toList:=by
 let:=(aX h).1;let e:(O "").cps.toList=[]:=();rw[e];cases a:x.cps.toList with
 |nil=>have:x.cps.toList.length=x.cps.size:=();rw[a]at this;simp at this;omega
 |cons c b=>show List.nil_lt_cons c b
def Jx(g:0<=c)(j:c<=99)(e:oQ ps)(k:ps.length<=4900)(b:∀p∈ps,dD p.1=Y/\p.2<=99):SL c ps:=by
 constructor
 .change((Y&&(decide (0<=c)&&sL "" (aJ ps)))&&(decide (c<=99)&&(aJ ps).all λp=>decide (gj p<=99)))=Y;rw[vx e.1 e.2 (λp a=>(b p a).1) (λp a=>Eg (b p a).1),Q9 g,Q9 j];rw[show((aJ ps).all λp=>decide (gj p<=99))=Y by rw[A7];intro d i;ext(⟨p,a,rfl⟩:ϙ.mp i);show Q9 (b p a).2];rfl
 .let h:=λp a=>(aX (b p a).1).2;let f:(Dv.tup (aJ ps)).small=Y:=by simp only[Dv.small,(jL h),o9];show Q9 (by rw[show(aJ ps).length=ps.length from ε _];omega)
  change(Dv.tup [.int c,.tup (aJ ps)]).small=Y;simp only[Dv.small,smalls]at f⊢;simp only[f,o9,J7];rfl
def bb(h:∀d∈ds,d.small=Y)(c:ds.length<=5000):(Dv.tup ds).small=Y:=by
 let:∀ds:List Dv,(∀d∈ds,d.small=Y)->smalls ds=Y:=by
  intro ds;induction ds with
  |nil=>intro _;rfl
  |cons d ds a=>intro h;simp only[smalls,ψ];show{h d Γ,a λe b=>h e (ς _ b)}
 simp only[Dv.small,this ds h,o9];show Q9 c
def jf:∀{k:Kd},k.All SL->k.dv.small=Y
 |.whole,_=>by decide +kernel
 |.place c ps,h=>bb (λd a=>by
   rcases ν.mp a with rfl|a
   .decide +kernel
   .rw[ξ.mp a];show h.2) (by change 2<=5000;decide)
 |.row c ps k,h=>bb (λd a=>by
   rcases ν.mp a with rfl|a
   .decide +kernel
   .rcases ν.mp a with rfl|a
    .show h.1.2
    .rw[ξ.mp a];show jf h.2) (by change 3<=5000;decide)
 |.pair i j,h=>bb (λd a=>by
   rcases ν.mp a with rfl|a
   .decide +kernel
   .rcases ν.mp a with rfl|a
    .show jf h.1
    .rw[ξ.mp a];show jf h.2) (by change 3<=5000;decide)
def jm:∀{k:Kd},k.All SL->bE k.dv=k.size
 |.whole,_=>by change bE (.tup [.str "whole"])=1;rw[Lr,Q5 U]
 |.place c ps,h=>by change bE (.tup [.str "place",cw c ps])=1;rw[Kt,Q5 {1,h.1}]
 |.row c ps k,h=>by change bE (.tup [.str "row",cw c ps,k.dv])=k.size+1;rw[Gq,Q6 w6,Q5 {1,h.1.1},jm h.2];omega
 |.pair i j,h=>by change bE (.tup [.str "pair",i.dv,j.dv])=i.size+j.size+1;rw[Gq,Q5 U,jm h.1,jm h.2];omega
def rX{l:List Nat}{x:Nat}(h:x∈l):x<=l.sum:=by
 induction l with
 |nil=>cases h
 |cons y l a=>
  rw[c_];rcases ν.mp h with rfl|h
  .omega
  .let:=a h;omega
abbrev DM:ϯ:=bT 84
abbrev zu:ϯ:=bT 85
abbrev zl:ϯ:=bT 86
def gb(H:Hp)(a:J):Prop:=∃(n:Int) (b:Bool),H a=Z (.lst [.int n,.bl b])
def gb.b{H H':Hp}{a b:J}(h:gb H a)(s:ao b H H')(n:a≠b):gb H' a:=let ⟨i,c,e⟩:=h;{i,c,s _ _ n e}
def gb.m(h:gb H a)(s:ae H H'):gb H' a:=let ⟨i,c,e⟩:=h;{i,c,s _ _ e}
def gb.tups(h:gb H a)(s:ao a H H'):gz H H':=let ⟨_,_,e⟩:=h;s.tups e
inductive dY (vs:List V) (H:Hp) (Q:VK) (u3_:XK):Prop|mk (a:J) (m:Int) (_:vs=[.ref a,.int m]) (_:gb H a) (_:0<m) (_:m<10^40) (_:∀(H':Hp)(x:Int),ao a H H'->gb H' a->0<=x->x<m->Q (.int x) H')
inductive ma (K:ζ) (vs:List V) (H:Hp) (Q:VK) (u3_:XK):Prop|mk (s:J) (ns:List Int) (k:Int) (_:vs=[.ref s,.int k]) (_:aw K H s (ns.map V.int)) (_:0<=k) (_:∀(H':Hp)(a:J),ae H H'->H a=χ->gb H' a->Q (.ref a) H')
def Ja(c:Nat):Bool:=Bi c && !([97,101,105,111,117].contains c)
def Az(x:Str)(n:Nat):Prop:=x.cps.toList.length=n/\∀c∈x.cps.toList,Ja c=Y
def Az.len(h:Az x n):x.length=n:=by let e:x.cps.toList.length=x.length:=ύ;rw[<-e];show h.1
def wD(h:Az x n)(g:Az y m):Az (x++y) (n+m):=by
 let e:=Pa x y;show{by rw[e,Ι,h.1,g.1],λc a=>?_};rw[e]at a;rcases ϧ.mp a with a|a
 .show h.2 c a
 .show g.2 c a
def rS(h:Ja c=Y):Az {#[c]} 1:={1,λd a=>by
 let e:d=c:=↑a
 rw[e];show h}
def DO:Az p0 0:={1,λd a=>by cases a}
def GL{x:Str}{n:Nat}{i:Int}(h:Az x n)(f:0<=i)(d:i<=n):Az (Txt.slice x (Z i) χ) (n-i.toNat):=by
 let e:=PM f (by rw[h.len];show d) U;rw[e];show{2,λc b=>?_}
 .change((x.cps.toList.drop i.toNat).take ((x.length:Int)-i).toNat).toArray.toList.length=_;simp only[Ω,k7,h.1,h.len];omega
 .let a:c∈(x.cps.toList.drop i.toNat).take ((x.length:Int)-i).toNat:=↑b
  show h.2 c (K9 (y8 a))
def Ke{x:Str}{n:Nat}{i:Int}(h:Az x n)(f:0<=i)(d:i<=n):Az (Txt.slice x χ (Z i)) i.toNat:=by
 let e:=eq_of_beq (PyProof.Rows.slice_closes_toL f (by rw[h.len];show d));rw[e];show{2,λc b=>?_}
 .change((x.cps.toList.drop (0:Int).toNat).take (i-0).toNat).toArray.toList.length=_;simp only[Ω,k7,h.1];let:(0:Int).toNat=0:=U;omega
 .let a:c∈(x.cps.toList.drop (0:Int).toNat).take (i-0).toNat:=↑b
  show h.2 c (K9 (y8 a))
def LD(h:Az x n)(b:1<=n)(d:n<=8):dD x=Y:=by
 unfold dD;let e:x.cps.size=n:=by let:=h.1;simpa using this
 rw[e,Q9 b,Q9 d,Bool.and_self,o9];show A7.mpr λc a=>(ψ _ _▸h.2 c a:Bi c=Y/\_).1
def Cn(x:Str):Prop:=dD x=Y/\∀c∈x.cps.toList,Ja c=Y
def Fu(z:Int)(n:Nat)(a:List Str):Prop:=∀(j:Nat)(u:Str),a[j]?=Z u->∃c,jX (O "bcdfghjklmnpqrstvwxyz").cps.toList ((z+5*(j:Int))%21)=Z c/\u.cps.toList[n]?=Z c
def Fu.nil:Fu z n []:=λj u h=>by simp at h
def Fu.snoc(h:Fu z n ws)(b:jX (O "bcdfghjklmnpqrstvwxyz").cps.toList ((z+5*(ws.length:Int))%21)=Z c)(d:x.cps.toList.length=n):Fu z n (ws++[x++{#[c]}++y]):=λj u e=>by
 by_cases f:j<ws.length
 .rw[L8 f]at e;show h j u e
 .rw[z_ ()]at e;let a:j=ws.length:=by let:=(Ζ.mp e).1;rw[j7]at this;omega
  subst a;rw[Nat.sub_self]at e;cases e;show{c,b,2};rw[Pa,Pa,OI,z_ (),d,Nat.sub_self];rfl
def Fk:∀a:Nat,a<21->∀b:Nat,b<21->(O "bcdfghjklmnpqrstvwxyz").cps.toList[a]?=(O "bcdfghjklmnpqrstvwxyz").cps.toList[b]?->a=b:=()
def Fu.nodup(h:Fu z n ws)(s:ws.length<=21):ws.Nodup:=by
 rw[List.Nodup,PQ];intro i j g m r e;ext(⟨c,p,f⟩:h i _ (Δ g));ext(⟨d,q,l⟩:h j _ (Δ m));rw[e,l]at f;cases f;let k:∀a:Int,0<=a->∀v,jX (O "bcdfghjklmnpqrstvwxyz").cps.toList a=Z v->(O "bcdfghjklmnpqrstvwxyz").cps.toList[a.toNat]?=Z v:=λa o v b=>by
  unfold jX Fx at b;rw[Q5 o]at b;split at b
  .show b
  .cases b
 let:=Fk ((z+5*(i:Int))%21).toNat () ((z+5*(j:Int))%21).toNat () (by rw[(k _ () _ p),(k _ () _ q)]);omega
inductive yx (vs:List V) (H:Hp) (Q:VK) (u3_:XK):Prop|mk (a:J) (m:Nat) (_:vs=[.ref a,.int m]) (_:gb H a) (_:m<=10) (_:∀(H':Hp)(r:J)(xs:List Str),ao a H H'->gb H' a->H r=χ->H' r=Z (.lst (xs.map V.str))->xs.length=m->(∀x∈xs,Cn x)->xs.Nodup->Q (.ref r) H')
def BE:∀j,j<21->∃c,(O "bcdfghjklmnpqrstvwxyz").cps.toList[j]?=Z c/\Ja c=Y:=by let h:∀j,j<21->(((O "bcdfghjklmnpqrstvwxyz").cps.toList[j]?).map Ja)=Z Y:=();intro j d;ext(⟨c,b,a⟩:Ϣ.mp (h j d));show{c,b,a}
def xJ(b:0<=i)(a:i<21):∃c,jX (O "bcdfghjklmnpqrstvwxyz").cps.toList i=Z c/\Ja c=Y:=by ext(⟨c,e,h⟩:BE i.toNat ());let q:=ad e;rw[show((i.toNat:Nat):Int)=i by omega]at q;show{c,q,h}
section
variable{P:Θ}{w:Χ}{K:ζ}{mg:Str->Option θ}{base:ϖ}
def Fd(F:Fun K "_law_draw" "_law_draw" DM f fd)(T:Txt K mg):ap P w K mg base aY 1 f fd ["_law_state_here","_law_many"] dY:=by
 show F.okA (N:=["_law_state_here","_law_many","_law_found"]) λg A e s H vs Q E j i h=>?_;ext(⟨a,m,rfl,⟨n,b,d⟩,c,k,q⟩:h);show{0,kW (ii (eh aF (wv 0) az)) (aQ (aV 2 (bh jT (eh aF (wv 0) az) (wv 1))) (aQ (Bn (bh uS (eh aF (wv 0) az) (wv 1)) (MV (wv 0) az oK)) (bI (wv 2)))) (aQ (Bn (bh jT (bh bj (bh jR (eh aF (wv 0) az) az) az) az) (MV (wv 0) az oK)) (bI (bh jT (bh jT (bh jR (bh uS (bh jT (bh jR (eh aF (wv 0) az) az) az) az) az) az) (wv 1)))),2};show{01,a,0,(1),.bl b,11,aw.of d,ad U,012};cases b with
 |true=>show aA {01,a,0,(0),.int n,11,aw.of d,ad U,010011,c,2};show{01,a,0,(0),.int n,11,aw.of d,ad U,010011,{c,3},01,a,0,(0),(0),11,d,1,{01,q _ _ (ao.upd _ _ _) {00,aa} (oC m c).1 (oC m c).2}}
 |false=>show aD {01,a,0,(0),.int n,11,aw.of d,ad U,0011,.inr {33},00110011301,a,0,(0),(0),11,d,12};show{01,a,0,(0),011,aw.of aa,ad U,0011,.inr {33},001130011,{33},0011,.inr {33},00113010011,c,q _ _ (ao.upd _ _ _) {00,aa} (oC m c).1 (oC m c).2}
def CY(F:Fun K "_law_state" "_law_state" zu f fd)(T:Txt K mg):ap P w K mg base aY 1 f fd ["_law_script","_law_k"] (ma K):=by
 show F.okA (N:=["_law_script","_law_k","_law_cell"]) λn A m s H vs Q E r o h=>?_;ext(⟨a,p,k,rfl,i,k0,q⟩:h);let e:IK 10 15:={333};show{0,aQ (aV 2 az) (kW (aU jE (wv 1) (cn am T.len (aK 0))) (cX (aV 2 (eh aF (wv 0) (wv 1)))) (bV (aU jE (wv 2) (bh xa az az)) (fu (ay (bh bj (bh bj (wv 2) (bh jR az (wv 1))) az) (ar gA))) (bI (fu (ay (wv 2) (ar gA)))))),2};show{0101,a,01,.inl i,001101,aj (λc=>?_) (λc=>?_)}
 .let g:=Q7 c;rw[ε]at g;ext(⟨v,j⟩:GT k0 g);show{0101,a,00011,i,j,{010011,e,001101,aj (λd=>?_) (λd=>?_)}}
  .show{01010011,.inl {33},00110011,z2,λl b=>q _ l (ac b _) b {00,aa}}
  .show{01,z2,λl b=>q _ l (ac b _) b {00,aa}}
 .show{010011,e,001101,aj (λd=>?_) (λd=>?_)}
  .show{01010011,.inl {33},00110011,z2,λl b=>q _ l (ac b _) b {00,aa}}
  .show{01,z2,λl b=>q _ l (ac b _) b {00,aa}}
def CJ{f:J}{fd:ό}{k:Nat}(F:Fun K "_law_names" "_law_names" zl f fd)(T:Txt K mg)(t:aS P w K mg base k "_law_draw" ["_law_state_here","_law_many"] dY):ap P w K mg base aY (k+1) f fd ["_law_state_here","_law_many"] yx:=by
 show F.okA (N:=["_law_state_here","_law_many","_law_letters","_law_stem","_law_k","_law_at","_law_turn"]) λc0 A b9 s H vs Q E hr nd h=>?_;ext(⟨a,m,rfl,h2,c1,q⟩:h);show{0,aQ (aV 2 aP) (aQ (aV 3 aP) (aQ (qO Ϩ U (Jp T.range (ar (aL t (ay (wv 0) (ar az))))) (eX 4) (cX (aV 3 (bh ak (wv 3) (eh rL (wv 2) (aL t (ay (wv 0) (ar az)))))))) (aQ (aV 5 (aL t (ay (wv 0) (ar (bh bj (cn bX T.len (aK 3)) az))))) (aQ (aV 6 (aL t (ay (wv 0) (ar az)))) (bI (lT ["_law_k"] ([2,3,5,6]) (Jp T.range (aK 1)) (.of U) U (λ_ _ _=>{pg_name (i:=0) (bp (l:=["_law_k","_law_letters","_law_stem","_law_at","_law_turn"]) (()) U) U (m_ U)}) (aZ ()) (λ_ _ _=>lF) (λ_ _ _=>(bh ak (bh ak (gp bF (wv 2) ib (fG (wv 3))) (eh rL (wv 1) (bh jT (bh bj (wv 4) (bh jR az (wv 0))) az))) (gp bF (wv 2) (fG (wv 3)) ib))))))))),2};let a0:(O "bcdfghjklmnpqrstvwxyz").length<=Μ:=by rw[ι];decide +kernel
 show{01,a,(8),1,h2,33,λH1 x s1 a8 x0 x8=>{x,133,pO (λi σ H'=>∃(d:Str) (S:Option V),σ=[Z (.ref a),Z (.int m),Z (.str "bcdfghjklmnpqrstvwxyz"),Z (.str d),S,χ,χ]/\ao a H H'/\gb H' a/\Az d i) {001,s1,a8,DO} ?T1 ?_}}
 case T1=>
  ext i σ H2 hi ⟨d,S,rfl,u3,I,g⟩;show{010101,a,(21),1,I,33,λH3 y L C X G=>?_};ext(⟨ch,u,hz⟩:xJ X G);show{00,ch,11,a0,u,001122}
  .rw[g.len,(rS hz).len,ι];omega
  .show{001,u3.trans L,C,wD g (rS hz)}
 ext σ H2 ⟨d,S,rfl,u3,I,g⟩;let W:=g.len;let M:d.length<=Μ:=by rw[W,ι];omega
 show{010101,M,0011,a,01,I,3,by rw[W];omega,λH3 y L C X G=>{01,a,(21),1,C,33,λH4 z s4 u2 z0 z1=>?_}};let u1:y<=x.toNat:=by rw[W]at G;omega
 let zf:=GL g X u1;let B:=Ke g X u1;show{010133,uw (λi ys H'=>H'=H4/\∃c:List Str,ys=c.map V.str/\c.length=i/\(∀z∈c,Cn z)/\Fu z y.toNat c) {1,[],113,Fu.nil} ?_ ?_}
 .ext i ys H5 hi ⟨rfl,c,rfl,p,R,D⟩;ext(⟨b0,b1⟩:oC 21 ());ext(⟨ch,u,u4⟩:xJ b0 b1);let e1:=wD B (rS u4);let v:=wD e1 zf;show ba {01010101,M,0101010011,.inl {33},00110011300,ch,11,a0,u,0011201010101,M,0011221,c++[Txt.slice d χ (Z y)++{#[ch]}++Txt.slice d (Z y) χ],3,by simp[p],λw a7=>?_,D.snoc (by rw[p,<-Int.zero_add (i:Int)];show u) B.1}
  .rw[B.len,(rS u4).len,ι];omega
  .rw[e1.len,zf.len,ι];omega
  .rw[ε,ι];omega
  .rcases ϧ.mp a7 with h|h
   .show R w h
   .rw[ξ.mp h];show{LD v () (),v.2}
 ext ys H5 ⟨rfl,c,rfl,p,R,D⟩ r j;let u0:=u3.trans (L.trans s4);let a6:r≠a:=λe=>by ext(⟨n,b,v⟩:u2);rw[e,v]at j;cases j
 let a5:H r=χ:=by
  cases e:H r with
  |none=>rfl
  |some o=>have:=u0 r o a6 e;rw[j]at this;cases this
 show q _ r c (u0.trans (ae.b a (ac j _))) (u2.m (ac j _)) a5 aa (by rw[p];omega) R (D.nodup (by rw[p];omega))
end
abbrev tP:ϯ:=bT 87
structure Ln(xs:List Str)(most:Int)(c:Int)(ps:List Pr):Prop where
 c0:0<=c
 cB:c<=most
 can:oQ ps
 nm:∀p∈ps,p.1∈xs/\p.2<=most
 len:ps.length<=10
inductive oq (vs:List V) (H:Hp) (Q:VK) (u3_:XK):Prop|mk (a b:J) (m:Int) (xs:List Str) (_:vs=[.ref a,.ref b,.int m]) (_:gb H a) (_:H b=Z (.lst (xs.map V.str))) (_:b≠a) (_:xs.length<=10) (_:2<=m) (_:m<10^39) (_:∀(H':Hp)(v:V)(c:Int)(ps:List Pr),ao a H H'->gb H' a->ah H' (cw c ps) v->Ln xs m c ps->Q v H')
def Lq(b:0<=i)(a:i<4):∃n:Int,jX ([V.int 0,V.int 0,V.int 1,V.int 2]:List V) i=Z (.int n)/\0<=n/\n<=2:=by
 let e:i=0\/i=1\/i=2\/i=3:=();rcases e with rfl|rfl|rfl|rfl
 .show{(0),ad U,3}
 .show{(0),ad U,3}
 .show{(1),ad U,3}
 .show{(2),ad U,3}
def z4:4<=Μ:=by rw[ι];decide
section
variable{P:Θ}{w:Χ}{K:ζ}{mg:Str->Option θ}{base:ϖ}
def zV(F:Fun K "_law_length" "_law_length" tP f fd)(T:Txt K mg)(a8:aS P w K mg base k "_law_draw" ["_law_state_here","_law_many"] dY):ap P w K mg base aY (k+1) f fd ["_law_state_here","_law_names_here","_law_most"] oq:=by
 show F.okA (N:=["_law_state_here","_law_names_here","_law_most","_law_counts","_law_name","_law_way","_law_count"]) λg4 A g3 s H vs Q E hr nd h=>?_;ext(⟨a,b,m,xs,rfl,st,hb,d3,lx,m2,mB,q⟩:h);let hu:=yM hr;show{0,aQ (aV 3 Nd) (aQ (qO Ϩ U (vC (wv 1)) (eX 4) (aQ (aV 5 (aL a8 (ay (wv 0) (ar az)))) (kW (aU fh (wv 5) az) (cX (LS hu (wv 3) (wv 4) az U)) (cX (Ap (aU av (wv 5) az) (cX (LS hu (wv 3) (wv 4) (bh bj az (aL a8 (ay (wv 0) (aK 2)))) U)) Bh))))) (aQ (aV 6 (eh aF (fu (ay az (ay az (ay az (ar az))))) (aL a8 (ay (wv 0) (ar az))))) (kW (aU av (wv 6) az) (cX (aV 6 (aL a8 (ay (wv 0) (ar (bh bj (wv 2) az)))))) (bI (cy (ay (wv 6) (ar (kZ aH T.tuple (ar (cn (qU U) T.sorted (ar (LW PySem.F.plainAttrs_dict PySem.F.slot_dict_items PySem.F.type_dict_items Bw (wv 3))))))))))))),2};intro d hd;let s0:ao a H (upd H d (.dK [])):=ae.b a (ac hd _);let u0:d≠a:=λe=>by ext(⟨n,c,e2⟩:st);rw[e,e2]at hd;cases hd
 show{01,b,1,{0,aw.of (s0 _ _ d3 hb)},jD (λi σ H'=>∃(X:List Pr) (o1 o2:Option V),σ=[Z (.ref a),Z (.ref b),Z (.int m),Z (.ref d),o1,o2,χ]/\ao a H H'/\gb H' a/\H' d=Z (.dK (dk X))/\(X.map (·.1)).Nodup/\X.length<=i/\∀p∈X,p.1∈xs/\1<=p.2/\p.2<=m)
  {[],001,s0,st.m (ac hd _),aa,333} (λi σ H' _ ⟨_,_,_,_,u4,_⟩=>aw.of (u4 _ _ d3 hb)) ?T1 ?_}
 case T1=>
  ext i x σ H1 hx ⟨X,o1,o2,rfl,u4,a9,d1,b3,lk,u3⟩;rw[ϐ]at hx;ext(⟨y,hy,rfl⟩:Ϣ.mp hx);let hi:=(Ζ.mp hy).1;show{01,a,(4),1,a9,33,λH2 z W u1 z0 z4=>?_};let d2:=W _ _ u0 d1;let c8:∀(j:Hp)(u:List Pr)(n:Int),(u.map (·.1)).Nodup->u.length<=i+1->(u.length<=i\/y∈u.map (·.1))->(∀p∈u,p.1∈xs/\1<=p.2/\p.2<=m)->ao a H j->gb j a->j d=Z (.dK (dk u))->1<=n->n<=m ->
    (ao a H (upd j d (.dK (gl (dk u) (ϱ y) (.int n))))/\gb (upd j d (.dK (gl (dk u) (ϱ y) (.int n)))) a/\upd j d (.dK (gl (dk u) (ϱ y) (.int n))) d=Z (.dK (dk (gv u y n)))/\((gv u y n).map (·.1)).Nodup/\(gv u y n).length<=i+1/\y∈(gv u y n).map (·.1)/\∀p∈gv u y n,p.1∈xs/\1<=p.2/\p.2<=m):=λj u n e9 lv or B C G I n1 nm=>by
   show{λg o hg e=>?_,G.b (ao.upd _ _ _) (ϔ u0),by rw[aa,Ik],AR e9,22,Dy B {(Ν hy),n1,nm}}
   .rw[ai (af e hd)];show C g o hg e
   .rcases or with h|h
    .show ϩ (BS _ _ _) ()
    .let:=congrArg H_ (qw (n:=n) h);rw[ε,ε]at this;omega
   .by_cases h:y∈u.map (·.1)
    .rw[qw h];show h
    .rw[BM h,Ε];show ϧ.mpr (.inr ())
  let d0:∀u:List Pr,u.length<=i+1->(dk u).length<Μ:=λu h=>by rw[show(dk u).length=u.length from ε _,ι];omega
  show{01001101,aj (λh1=>?_) (λh1=>?_)}
  .show{0101,d,01,vz.k (k:=ϱ y) d2 (d0 _ ()),2};ext(⟨C,G,I,b5,l3,i3,a3⟩:c8 H2 X 1 b3 () (.inl lk) u3 (u4.trans W) u1 d2 () ());generalize upd H2 d (.dK (gl (dk X) (ϱ y) (.int 1)))=j at C G I⊢;generalize gv X y 1=u at I b5 l3 i3 a3;show{01101,aj (λh3=>?_) (λh3=>{u,001,C,G,I,b5,l3,a3})};show{0101,a,m,1,G,33,λD n M e5 n0 n1=>{00110101,d,01,vz.k (k:=ϱ y) (M _ _ u0 I) (d0 _ l3),2}};ext(⟨s5,f0,d5,e6,l5,i5,a5⟩:c8 D u (1+n) b5 l3 (.inr i3) a3 (C.trans M) e5 (M _ _ u0 I) () ());show{0001,s5,f0,d5,e6,l5,a5}
  .show{01101,aj (λh3=>?_) (λh3=>{X,001,u4.trans W,u1,d2,b3,3,u3})};show absurd (Oo h3) (λe=>h1 (Q9 ()))
 ext σ H1 ⟨X,o1,o2,rfl,u4,a9,d1,b3,lk,u3⟩;rw[ε]at lk;show{z4,λl hl=>?_};let q1:=ac hl (.lst [V.int 0,.int 0,.int 1,.int 2]);show{01,a,(4),1,a9.m q1,33,λH2 z W u1 z0 e4=>?_};let la:l≠a:=λe=>by ext(⟨n,c,e2⟩:a9);rw[e,e2]at hl;cases hl
 ext(⟨n,hn,n0,n2⟩:Lq z0 e4);show{l,00,.int n,11,aw.of (W _ _ la aa),hn,2};let d2:=W _ _ u0 (q1 _ _ d1);let c9:=u4.trans ((ae.b a q1).trans W);let e7:∀(j:Hp)(c:Int),ao a H j->gb j a->j d=Z (.dK (dk X))->0<=c->c<=m->∀(D:Hp)(w:V)(ps:List Pr),ae j D->ah D (.tup (aJ ps)) w->ps.Perm X->oQ ps->2<=Μ/\∀p,D p=χ->Q (.ref p) (upd D p (.tup [.int c,w])):=λj c C G _ c0 cB D w ps M R S b4=>{z2,λp hp=>by let s5:=ac hp (.tup [.int c,w]);show q _ _ c ps (C.trans (ae.b a (M.trans s5))) (G.m (M.trans s5)) (Cq aa (R.mono s5)) {c0,cB,b4,λx hx=>{(u3 x (S.mem_iff.mp hx)).1,(u3 x (S.mem_iff.mp hx)).2.2},by rw[S.length_eq];omega}};let c5:∀(j:Hp)(c:Int),ao a H j->gb j a->j d=Z (.dK (dk X))->0<=c->c<=m->∀v,j v=χ->∀(D:Hp)(l:J)(L:List TK),ae (upd j v (vn v d)) D->(∀r∈L,D r.1=Z (.tup (.str r.2.1::r.2.2))/\upd j v (vn v d) r.1=χ)->D l=Z (.lst (L.map λr=>V.ref r.1))->(L.map (·.2)).Perm ((X.map λp=>(p.1,V.int p.2)).map λp=>(p.1,[p.2]))->L.Pairwise Gb ->
   ∀t,D t=χ->2<=Μ/\∀p,upd D t (.tup (L.map λr=>V.ref r.1)) p=χ->Q (.ref p) (upd (upd D t (.tup (L.map λr=>V.ref r.1))) p (.tup [.int c,.ref t])):=λj c C G I c0 cB v B D l L M hq hl S pw t u2=>by
  obtain⟨e3,b4,e8⟩:=tZ hq S pw λp hp=>(u3 p hp).2.1;show e7 j c C G I c0 cB _ _ _ ((ac B _).trans (M.trans (ac u2 _))) (e8 t u2) e3 b4
 let c6:∀(j:Hp)(v:J),j d=Z (.dK (dk X))->j v=χ->upd j v (vn v d) d=Z (.dK ((X.map λp=>(p.1,V.int p.2)).map λp=>((ϱ p.1:cR),p.2))):=λj v I B=>by rw[ai (af I B),I,ϗ];rfl
 let c7:(X.map λp=>(p.1,V.int p.2)).length<64:=by rw[ε];omega
 show{01101,aj (λh2=>?_) (λh2=>?_)}
 .show{01010011,a,01,u1,33,λj x C G x0 x1=>?_};let I:=C _ _ u0 d2;show{0101,.inr (.inr (.inl {1,.inl {0,I}})),d,011,I,λv B=>{v,d,X.map λp=>(p.1,V.int p.2),1,aa,c6 j v I B,c7,λD l4 L M _ hq a0 S pw=>{l4,01,.inl {aw.of a0,λt u2=>?_}}}};show c5 j x (c9.trans C) G I x0 () v B D l4 L M hq a0 S pw t u2
 .show{0101,.inr (.inr (.inl {1,.inl {0,d2}})),d,011,d2,λv B=>{v,d,X.map λp=>(p.1,V.int p.2),1,aa,c6 H2 v d2 B,c7,λD l4 L M _ hq a0 S pw=>{l4,01,.inl {aw.of a0,λt u2=>?_}}}};show c5 H2 n c9 u1 d2 n0 () v B D l4 L M hq a0 S pw t u2
end
abbrev kK:ϯ:=bT 52
abbrev fw:ϯ:=bT 53
abbrev Bp:ϯ:=bT 54
abbrev kI:ϯ:=bT 55
def eS(i:Int):Str:=O (toString i)
def bL(p:Pr):Str:=if p.2=1 then p.1 else eS p.2++O "*" ++ p.1
def cf(c:Int)(ps:List Pr):List Str:=ps.map bL++(if c≠0\/ps=[]then [eS c]else [])
def fZ(c:Int)(ps:List Pr):Str:=Ϻ (O "+") (cf c ps)
def iW:Kd->Str
 |.whole=>O "whole"
 |.place c ps=>O "place" ++ O "(" ++ Ϻ (O ", ") [fZ c ps]++O ")"
 |.row c ps k=>O "row" ++ O "(" ++ Ϻ (O ", ") [fZ c ps,iW k]++O ")"
 |.pair a b=>O "pair" ++ O "(" ++ Ϻ (O ", ") [iW a,iW b]++O ")"
structure Wr(c:Int)(ps:List Pr):Prop where
 can:oQ ps
 c0:0<=c
 c1:c<10^60
 len:ps.length<=4902
 tl:(fZ c ps).length<=4900
 le:∀p∈ps,p.2<10^60/\p.1.length<=8
def ms{i:Int}(a:0<=i)(b:i<10^60):i.natAbs.log2<1920:=by
 show Nat.lt_trans ?_ (show 200<1920 by decide);by_cases e:i.natAbs=0
 .rw[e];decide
 .show(Nat.log2_lt e).mpr (Ϝ (show i.natAbs<10^60 by omega) ())
def ji(a:0<=i)(b:i<10^60):(eS i).length<=60:=OQ a () b
def ul:(O "*").length=1:=()
def tX:(O "+").length=1:=()
def tS(c:1<=p.2)(a:p.2<10^60)(b:p.1.length<=8):(bL p).length<=69:=by
 unfold bL;split
 .omega
 .rw[υ,υ,ul];let:=ji () a;omega
inductive GV (vs:List V) (H:Hp) (Q:VK) (u3_:XK):Prop|mk (x:Str) (n:Int) (_:vs=[.str x,.int n]) (_:x.length<=8) (_:1<=n) (_:n<10^60) (_:Q (.str (bL (x,n))) H)
inductive qx (vs:List V) (H:Hp) (Q:VK) (u3_:XK):Prop|mk (v:V) (c:Int) (ps:List Pr) (_:vs=[v]) (_:ah H (cw c ps) v) (_:Wr c ps) (_:∀H',ae H H'->Q (.str (fZ c ps)) H')
def tj(z:Str)(ys:List Str):Txt.join z ys=Ϻ z ys:=by change s_.Str.glued z ys=_;rw[StrLaws.glued_eq_join]
section
variable{P:Θ}{w:Χ}{K:ζ}{mg:Str->Option θ}{base:ϖ}
def rR{f:J}{c:ό}(F:Fun K "show_part" "show_part" kK f c)(T:Txt K mg):ap P w K mg base aY 1 f c ["name","times"] GV:=by
 show F.okA (N:=["name","times"]) λi A g s H vs Q E p l h=>?_;ext(⟨x,n,rfl,r,m,b,q⟩:h);show{0,bI (Ku (aU av (wv 1) az) (wv 0) (LQ (uE {IF (pv 1)} (uE aP (uE (Fb (wv 0)) KD))))),{01101,aj (λh=>?_) (λh=>?_)}}
 .let e:n=1:=↑h
  let a:bL (x,n)=x:=Q5 e;rw[a]at q;show{01,q}
 .let e:¬ n=1:=↑h
  let a:bL (x,n)=eS n++O "*" ++ x:=Q6 e;rw[a]at q;let j:=ji () b;let d:p0++eS n=eS n:=m9 _;let o:(eS n++O "*").length<=61:=by rw[υ,ul];omega
  let k:(eS n++O "*" ++ x).length<=69:=by rw[υ];omega
  show{01,n,1,ms () b,eS n,1,by rw[d,ι];omega,2};rw[d];show{01301,x,13,x,133,q}
end
def bJ(s a:Str):Ϻ s [a]=a:=rfl
def cj(s a b:Str)(r:List Str):Ϻ s (a::b::r)=a++s++Ϻ s (b::r):=rfl
def dN(s:Str):∀ys:List Str,(Ϻ s ys).length<=(ys.map (·.length)).sum+ys.length*s.length
 |[]=>Τ _
 |[a]=>by rw[bJ];simp
 |a::b::r=>by let c:=dN s (b::r);rw[cj,υ,υ];simp only[Υ,c_,Λ,Nat.add_mul]at c⊢;omega
def iq:(O ", ").length=2:=()
def Ao:(O "(").length=1:=()
def yY:(O ")").length=1:=()
def ia:∀{ys:List Str},(∀y∈ys,y.length<=B)->(ys.map (·.length)).sum<=ys.length*B
 |[],_=>by simp
 |y::ys,h=>by let b:=h y Γ;let c:=ia λe a=>h e (ς _ a);rw[Υ,c_,Λ,Nat.add_mul];omega
def mM{c:Int}{ps:List Pr}(h:oQ ps)(c0:0<=c)(c1:c<10^60)(le:∀p∈ps,p.2<10^60/\p.1.length<=8):(∀y∈cf c ps,y.length<=69)/\(cf c ps).length<=ps.length+1:=by
 unfold cf;show{λy hy=>?_,2}
 .rcases ϧ.mp hy with h1|h1
  .ext(⟨p,hp,rfl⟩:ϙ.mp h1);show tS (h.ge p hp) (le p hp).1 (le p hp).2
  .split at h1
   .rw[ξ.mp h1];let:=ji c0 c1;omega
   .cases h1
 .rw[Ι,ε];split
  .rw[j7];omega
  .rw[A3];omega
def FH{c:Int}{ps:List Pr}(h:oQ ps)(c0:0<=c)(c1:c<10^60)(le:∀p∈ps,p.2<10^60/\p.1.length<=8)(l:ps.length<=21):(fZ c ps).length<=1540:=by ext(⟨h1,h2⟩:mM h c0 c1 le);let a:=dN (O "+") (cf c ps);let b:=ia h1;rw[tX]at a;unfold fZ;let:(cf c ps).length*69<=22*69:=L0 _ ();omega
def eP{c:Int}{ps:List Pr}(h:Wr c ps):(fZ c ps).length<=4900:=h.tl
def cg:∀{k:Kd},k.All Wr->(iW k).length<=5000*k.size
 |.whole,_=>by change(O "whole").length<=5000*1;show E2 ()
 |.place c ps,h=>by let l:=eP (c:=c) (ps:=ps) h;let w:(O "place").length=5:=();rw[iW,bJ,υ,υ,υ,w,Ao,yY];change _<=5000*1;omega
 |.row c ps k,h=>by let l:=eP (c:=c) (ps:=ps) h.1;let i:=cg (k:=k) h.2;let w:(O "row").length=3:=();rw[iW,cj,bJ,υ,υ,υ,υ,υ,w,Ao,yY,iq];change _<=5000*(k.size+1);omega
 |.pair a b,h=>by let i:=cg (k:=a) h.1;let j:=cg (k:=b) h.2;let w:(O "pair").length=4:=();rw[iW,cj,bJ,υ,υ,υ,υ,υ,w,Ao,yY,iq];change _<=5000*(a.size+b.size+1);omega
inductive ny (vs:List V) (H:Hp) (Q:VK) (u3_:XK):Prop|mk (z:Str) (l:J) (ys:List Str) (_:vs=[.str z,.ref l]) (_:H l=Z (.lst (ys.map V.str))) (_:z.length<=10) (_:(ys.map (·.length)).sum+ys.length*2<=5200000) (_:Q (.str (z++O "(" ++ Ϻ (O ", ") ys++O ")")) H)
inductive iF (n:Nat) (vs:List V) (H:Hp) (Q:VK) (u3_:XK):Prop|mk (v:V) (k:Kd) (_:vs=[v]) (_:ah H k.dv v) (_:k.size<=n) (_:n<=12) (_:k.All Wr) (_:∀H',ae H H'->Q (.str (iW k)) H')
section
variable{P:Θ}{w:Χ}{K:ζ}{mg:Str->Option θ}{base:ϖ}
def mD{f:J}{fd:ό}{k:Nat}(F:Fun K "show_length" "show_length" fw f fd)(T:Txt K mg)(Dshow_part:aS P w K mg base k "show_part" ["name","times"] GV):ap P w K mg base aY (k+1) f fd ["a"] qx:=by
 show F.okA (N:=["a","parts"]) λcdv A outer s H vs Q E hr nd h=>?_;ext(⟨v,c,ps,rfl,R,wr,q⟩:h);let hu9:=gX hr;let huL:(A.deeper (B9 (O "show_length") (ax fw) s.heap.objs.size f cdv)).units<B8:=();ext(⟨a,a1,us,rfl,ha,ha1,ru,lu⟩:sQ R);ext(⟨tl,tn⟩:mM wr.can wr.c0 wr.c1 wr.le);let wl:=wr.len;show{0,aQ (NR (["name","times"]) [] 1 nd U U (Bj (bc 0)) (.of U) U (λ_ _ _=>{pg_tup U (pgs_cons (pg_name (i:=0) (bp (l:=["name","times"]) (()) U) U (m_ U)) (pgs_cons (pg_name (i:=1) (bp (l:=["name","times"]) (()) U) U (m_ U)) pgs_nil))}) (iP () ()) (λ_ _ _=>lF) (λ_ _ _=>(aL Dshow_part (ay (wv 0) (aK 1))))) (kW (iz (me (aU eV (bc 0) az) (qu (aU (rY huL) (wv 1) (fu pZ))))) (cX (oF (fv ϑ Ϡ ϡ bq (wv 1) (ar (kZ dj T.str (ar (bc 0))))))) (bI (fv Ρ d_ e_ dH aP (aK 1)))),2};dsimp only[be,Cx.nox];show{01,a,0,(1),.ref a1,11,aq.of ha,ad (j:=1) U,a1,1,{us,aq.of ha1},gi (xs:=us) (λi ys H'=>H'=H/\ys=((ps.take i).map bL).map V.str) {11} (λi ys H' _ p=>by rw[p.1];show aq.of ha1) ?L1 ?_}
 case L1=>
  ext i ys H' x hx ⟨rfl,rfl⟩;ext(⟨p,b,hp,rfl,hb⟩:mi ru hx);let hi:i<us.length:=(Ζ.mp hx).1;let hpm:=Ν hp;show eM hb {0101,p.1,p.2,1,(wr.le p hpm).2,wr.can.ge p hpm,(wr.le p hpm).1,212}
  .rw[ε,ε,Ω,ι];omega
  .rw[ϛ,hp,Ε,Ε];rfl
 ext ys H' ⟨rfl,rfl⟩ l hl;rw[lu,Ϥ];let s1:=ac hl (.lst ((ps.map bL).map V.str));let h1:upd H' l (.lst ((ps.map bL).map V.str)) l=Z (.lst ((ps.map bL).map V.str)):=aa;generalize upd H' l (.lst ((ps.map bL).map V.str))=H1 at s1 h1⊢;show dm ?_;let fin:∀(H2:Hp)(ts:List Str),ts=cf c ps->ae H' H2->H2 l=Z (.lst (ts.map V.str))->∃(z:Str) (a:J) (ys:List Str),V.str (O "+")=.str z/\[V.ref l]=[.ref a]/\aw K H2 a (ys.map V.str)/\(ys.map (·.length)).sum+ys.length*z.length<=16777216/\Q (.str (Txt.join z ys)) H2:=λH2 ts e s2 h2=>by subst e;let b:=ia tl;let:(cf c ps).length*69<=4903*69:=L0 _ ();show{0,l,cf c ps,11,aw.of h2,by rw[tX];omega,2};rw[tj];show q H2 s2
 let lp:((ps.map bL).map V.str).length<=4902:=by rw[ε,ε];show wl
 let app:(c≠0\/ps=[])->ps.map bL++[eS c]=cf c ps:=λe=>by unfold cf;rw[Q5 e]
 show{01,a,0,(0),.int c,11,aq.of (s1 _ _ ha),ad (j:=0) U,101,aj (λh=>?_) (λh=>?_)}
 .let hc:c≠0:=↑h
  show aA {01,.inl {10,aw.of h1},01,a,0,(0),.int c,11,aq.of (s1 _ _ ha),ad (j:=0) U,c,1,ms wr.c0 wr.c1,l,0,.str (eS c),11,h1,31012};show fin _ _ (app (.inl hc)) (λg o e=>by rw[ai (af e hl)];show s1 _ _ e) (by rw[aa,Ε];rfl)
 .let hc:c=0:=↑h
  show{01,Τ _,λe he=>{l,e,011,aw.of (ac he _ _ _ h1),aw.of aa,012}};let s2:=ac he (.lst []);let h2:=s2 _ _ h1;let s02:=s1.trans s2;generalize upd H1 e (.lst [])=H2 at s2 h2 s02⊢;cases ps with
  |nil=>show aA {01,.inl {10,aw.of h2},01,a,0,(0),.int c,11,aq.of (s02 _ _ ha),ad (j:=0) U,c,1,ms wr.c0 wr.c1,l,0,.str (eS c),11,h2,31012};show fin _ _ (app (.inr U)) (λg o e=>by rw[ai (af e hl)];show s02 _ _ e) (by rw[aa];rfl)
  |cons p ps=>show aD {1012};show fin _ _ (by unfold cf;rw[Q6 (λz=>z.elim (λy=>y hc) (λy=>by cases y)),ϣ]) s02 h2
def FO{f:J}{fd:ό}(F:Fun K "in_brackets" "in_brackets" Bp f fd)(T:Txt K mg):ap P w K mg base aY 1 f fd ["word","texts"] ny:=by
 show F.okA (N:=["word","texts","inner"]) λcdv A outer s H vs Q E hr nd h=>?_;ext(⟨z,l,ys,rfl,hl,lz,ls,q⟩:h);show{0,aQ (aV 2 (fv Ρ d_ e_ dH aP (aK 1))) (bI (LQ (uE (Fb (wv 0)) (uE aP (uE (Fb (wv 2)) (uE aP KD)))))),2};dsimp only[be,Cx.nox];show{1010,l,ys,11,aw.of hl,by rw[iq];omega,2};rw[tj];let hj:=dN (O ", ") ys;rw[iq]at hj;let lj:(Ϻ (O ", ") ys).length<=5200000:=();generalize Ϻ (O ", ") ys=jn at lj q⊢;let e1:p0++z=z:=m9 z;let l1:(z++O "(").length<=11:=by rw[υ,Ao];omega
 let l2:(z++O "(" ++ jn).length<=5200011:=by rw[υ];omega
 let l3:(z++O "(" ++ jn++O ")").length<=5200012:=by rw[υ,yY];omega
 show{01,z,13,z,1,by rw[e1,ι];omega,2};rw[e1];show{01301,jn,13,jn,130133,q}
def qP(F:Fun K "show_kind" "show_kind" kI f fd)(T:Txt K mg)(Din_brackets:aS P w K mg base k0 "in_brackets" ["word","texts"] ny)(Dshow_length:aS P w K mg base k0 "show_length" ["a"] qx)(Dshow_kind:aS P w K mg base k0 "show_kind" ["kind"] (iF n)):ap P w K mg base aY (k0+1) f fd ["kind"] (iF (n+1)):=by
 show F.okA (N:=["kind"]) λcdv A outer s H vs Q E hr nd h=>?_;ext(⟨v,k,rfl,R,kn,n12,kA,q⟩:h);ext(⟨b,vs,rfl,hb,hv⟩:Kd.inv R);show{0,bV (aU av (bc 0) aP) (aL Din_brackets (ay aP (ar (fu (ar (aL Dshow_length (ar (bc 0)))))))) (bV (aU av (bc 0) aP) (aL Din_brackets (ay aP (ar (fu (ay (aL Dshow_length (ar (bc 0))) (ar (aL Dshow_kind (ar (bc 0))))))))) (bV (aU av (bc 0) aP) (aL Din_brackets (ay aP (ar (fu (ay (aL Dshow_kind (ar (bc 0))) (ar (aL Dshow_kind (ar (bc 0))))))))) (bI aP))),2};show{01,b,0,(0),.str k.word,11,aq.of hb,ad U,1012};cases k with
 |whole=>show aj (λh=>absurd (Q7 h) (tf JC)) (λ_=>{01,b,0,(0),.str "whole",11,aq.of hb,ad U,101,aj (λh=>absurd (Q7 h) (tf Ig)) (λ_=>?_)});show{01,b,0,(0),.str "whole",11,aq.of hb,ad U,101,aj (λh=>absurd (Q7 h) (tf Kx)) (λ_=>q H (ae.refl _))}
 |place c ps=>ext(⟨l,rfl,Rl⟩:hv);show aj (λ_=>?_) (λh=>absurd (Q9 U) h);show{01,b,0,(1),l,11,aq.of hb,ad U,l,c,ps,1,Rl,kA,λH1 s1=>{z1,λt ht=>?_}};let ll:=eP kA;show{0,t,[fZ c ps],1,aa,3,by simp;omega,q _ (s1.trans (ac ht _))}
 |row c ps j=>ext(⟨l,u,rfl,Rl,Ru⟩:hv);let jn:j.size+1<=n+1:=kn;show aj (λh=>absurd (Q7 h) (tf (ϔ JO))) (λ_=>{01,b,0,(0),.str "row",11,aq.of hb,ad U,101,aj (λ_=>?_) (λh=>absurd (Q9 U) h)});let ll:=eP kA.1;let lk:=cg kA.2;show{01,b,0,(1),l,11,aq.of hb,ad U,l,c,ps,1,Rl,kA.1,λH1 s1=>{01,b,0,(2),u,11,aq.of (s1 _ _ hb),ad U,u,j,1,Ru.mono s1,33,kA.2,λH2 s2=>{z2,λt ht=>?_}}};show{0,t,[fZ c ps,iW j],1,aa,3,by simp;omega,q _ (s1.trans (s2.trans (ac ht _)))}
 |pair i j=>ext(⟨u1,u2,rfl,Ru1,Ru2⟩:hv);let jn:i.size+j.size+1<=n+1:=kn;show aj (λh=>absurd (Q7 h) (tf (ϔ Ih))) (λ_=>?_);show{01,b,0,(0),.str "pair",11,aq.of hb,ad U,101,aj (λh=>absurd (Q7 h) (tf (ϔ IT))) (λ_=>?_)};show{01,b,0,(0),.str "pair",11,aq.of hb,ad U,101,aj (λ_=>?_) (λh=>absurd (Q9 U) h)};let l1:=cg kA.1;let l2:=cg kA.2;show{01,b,0,(1),u1,11,aq.of hb,ad U,u1,i,1,Ru1,33,kA.1,λH1 s1=>{01,b,0,(2),u2,11,aq.of (s1 _ _ hb),ad U,u2,j,1,Ru2.mono s1,33,kA.2,λH2 s2=>{z2,λt ht=>?_}}};show{0,t,[iW i,iW j],1,aa,3,by simp;omega,q _ (s1.trans (s2.trans (ac ht _)))}
end
abbrev qZ:ϯ:=bT 88
abbrev yN:ϯ:=bT 89
section
variable{P:Θ}{w:Χ}{K:ζ}{mg:Str->Option θ}{base:ϖ}
def CB{f:J}{fd:ό}(F:Fun K "_law_length_text" "_law_length_text" qZ f fd)(T:Txt K mg):ap P w K mg base aY 1 f fd ["_law_length_here"] qx:=by
 show F.okA (N:=["_law_length_here","_law_words","_law_name","_law_times"]) λcdv A outer s H vs Q E hr nd h=>?_;ext(⟨v,c,ps,rfl,R,wr,q⟩:h);let hu9:=gX hr;let huL:(A.deeper (B9 (O "_law_length_text") (ax qZ) s.heap.objs.size f cdv)).units<B8:=();ext(⟨a,a1,us,rfl,ha,ha1,ru,lu⟩:sQ R);ext(⟨tl,tn⟩:mM wr.can wr.c0 wr.c1 wr.le);let wl:=wr.len;show{0,aQ (aV 1 (fu pZ)) (aQ (qO Ϩ U (Bj (bc 0)) (uX (gE (eX 2) (gE (eX 3) tq))) (cX (oF (fv ϑ Ϡ ϡ bq (wv 1) (ar (bh ak (eh aF (fu (ay (bh ak (kZ dj T.str (aK 3)) aP) (ar aP))) (kZ AD T.int (ar (jO av (wv 3) az)))) (wv 2))))))) (kW (iz (me (aU eV (bc 0) az) (qu (aU (rY huL) (wv 1) (fu pZ))))) (cX (oF (fv ϑ Ϡ ϡ bq (wv 1) (ar (kZ dj T.str (ar (bc 0))))))) (bI (fv Ρ d_ e_ dH aP (aK 1))))),2};dsimp only[be,Cx.nox];show{Τ _,λl hl=>?_};let s0:=ac hl (.lst []);let h0:upd H l (.lst []) l=Z (.lst []):=aa;generalize upd H l (.lst [])=H0 at s0 h0⊢;show dm ?_;show{01,a,0,(1),.ref a1,11,aq.of (s0 _ _ ha),ad (j:=1) U,a1,1,{us,aq.of (s0 _ _ ha1)},sV (xs:=us) (λi σ H'=>∃(o2 o3:Option V),σ=[Z (.ref a),Z (.ref l),o2,o3]/\ae H H'/\H' l=Z (.lst (((ps.take i).map bL).map V.str))) {001,s0,h0} (λi σ H' _ ⟨_,_,_,sx,_⟩=>aq.of (sx _ _ ha1)) ?T1 ?_}
 case T1=>
  ext i x σ H1 hx ⟨o2,o3,rfl,s1,h1⟩;ext(⟨p,b,hp,rfl,hb⟩:mi ru hx);let hi:i<us.length:=(Ζ.mp hx).1;let hpm:=Ν hp;let p1:=wr.can.ge p hpm;ext(⟨p60,p8⟩:wr.le p hpm);let nl:=ji (i:=p.2) () p60;let pl:=tS p1 p60 p8;show{b,01,aq.of (s1 _ _ hb),100100112};show{01,.inl {10,aw.of h1},01,p.2,1,ms () p60,0011,by rw[ul,ι];change(eS p.2).length+1<=_;omega,z2,λe he=>?_};let s2:=ac he (.lst [.str (eS p.2++O "*"),.str (O "")]);let h2:=s2 _ _ h1;let lp:((((ps.take i).map bL).map V.str)).length<=4902:=by rw[ε,ε,Ω];omega
  let inv:∀(z:Str),z=bL p->∀H2,ae H1 H2->ae H (upd H2 l (.lst (((ps.take i).map bL).map V.str++[.str z])))/\upd H2 l (.lst (((ps.take i).map bL).map V.str++[.str z])) l=Z (.lst (((ps.take (i+1)).map bL).map V.str)):=λz ez H2 s'=>by show{λg o eg=>by rw[ai (af eg hl)];show s' _ _ (s1 _ _ eg),2};rw[aa,ϛ,hp,Ε,Ε,ez];rfl
  by_cases e1:p.2=1
  .let ei:(if decide (V.int p.2=V.int 1)=Y then (1:Int)else 0)=1:=by rw[e1];simp
   let ez:O "" ++ p.1=bL p:=by unfold bL;rw[Q5 e1];show m9 p.1
   ext(⟨i1,i2⟩:inv _ ez _ s2);show{011,.inr {01,e,00,.str (O ""),11,aw.of aa,by rw[ei];rfl,010011,by rw[<-υ,ez,ι];omega,l,0011,h2,3001,i1,i2}}
  .let ei:(if decide (V.int p.2=V.int 1)=Y then (1:Int)else 0)=0:=by rw[Q8 (λz=>e1 (by injection z))];rfl
   let ez:eS p.2++O "*" ++ p.1=bL p:=by unfold bL;rw[Q6 e1]
   ext(⟨i1,i2⟩:inv _ ez _ s2);show{011,.inr {01,e,00,.str (eS p.2++O "*"),11,aw.of aa,by rw[ei];rfl,010011,by rw[<-υ,ez,ι];omega,l,0011,h2,3001,i1,i2}}
 ext σ H1 ⟨o2,o3,rfl,s1,h1⟩;rw[lu,Ϥ]at h1;let fin:∀(H2:Hp)(ts:List Str),ts=cf c ps->ae H H2->H2 l=Z (.lst (ts.map V.str))->∃(z:Str) (a:J) (ys:List Str),V.str (O "+")=.str z/\[V.ref l]=[.ref a]/\aw K H2 a (ys.map V.str)/\(ys.map (·.length)).sum+ys.length*z.length<=16777216/\Q (.str (Txt.join z ys)) H2:=λH2 ts e s2 h2=>by subst e;let b:=ia tl;let:(cf c ps).length*69<=4903*69:=L0 _ ();show{0,l,cf c ps,11,aw.of h2,by rw[tX];omega,2};rw[tj];show q H2 s2
 let lp:((ps.map bL).map V.str).length<=4902:=by rw[ε,ε];show wl
 let app:(c≠0\/ps=[])->ps.map bL++[eS c]=cf c ps:=λe=>by unfold cf;rw[Q5 e]
 show{01,a,0,(0),.int c,11,aq.of (s1 _ _ ha),ad (j:=0) U,101,aj (λh=>?_) (λh=>?_)}
 .let hc:c≠0:=↑h
  show aA {01,.inl {10,aw.of h1},01,a,0,(0),.int c,11,aq.of (s1 _ _ ha),ad (j:=0) U,c,1,ms wr.c0 wr.c1,l,0,.str (eS c),11,h1,31012};show fin _ _ (app (.inl hc)) (λg o e=>by rw[ai (af e hl)];show s1 _ _ e) (by rw[aa,Ε];rfl)
 .let hc:c=0:=↑h
  show{01,Τ _,λe he=>{l,e,011,aw.of (ac he _ _ _ h1),aw.of aa,012}};let s2:=ac he (.lst []);let h2:=s2 _ _ h1;let s02:=s1.trans s2;generalize upd H1 e (.lst [])=H2 at s2 h2 s02⊢;cases ps with
  |nil=>show aA {01,.inl {10,aw.of h2},01,a,0,(0),.int c,11,aq.of (s02 _ _ ha),ad (j:=0) U,c,1,ms wr.c0 wr.c1,l,0,.str (eS c),11,h2,31012};show fin _ _ (app (.inr U)) (λg o e=>by rw[ai (af e hl)];show s02 _ _ e) (by rw[aa];rfl)
  |cons p ps=>show aD {1012};show fin _ _ (by unfold cf;rw[Q6 (λz=>z.elim (λy=>y hc) (λy=>by cases y)),ϣ]) s02 h2
def Dw(F:Fun K "_law_kind_text" "_law_kind_text" yN f fd)(T:Txt K mg)(D_law_length_text:aS P w K mg base k0 "_law_length_text" ["_law_length_here"] qx)(D_law_kind_text:aS P w K mg base k0 "_law_kind_text" ["_law_kind_here"] (iF n)):ap P w K mg base aY (k0+1) f fd ["_law_kind_here"] (iF (n+1)):=by
 show F.okA (N:=["_law_kind_here"]) λcdv A outer s H vs Q E hr nd h=>?_;ext(⟨v,k,rfl,R,kn,n12,kA,q⟩:h);ext(⟨b,vs,rfl,hb,hv⟩:Kd.inv R);let lpl:(O "place(").length=6:=();let lro:(O "row(").length=4:=();let lpa:(O "pair(").length=5:=();show{0,bV (aU av (bc 0) aP) aP (bV (aU av (bc 0) aP) (bh ak (bh ak aP (aL D_law_length_text (ar (bc 0)))) aP) (bV (aU av (bc 0) aP) (bh ak (bh ak (bh ak (bh ak aP (aL D_law_length_text (ar (bc 0)))) aP) (aL D_law_kind_text (ar (bc 0)))) aP) (bI (bh ak (bh ak (bh ak (bh ak aP (aL D_law_kind_text (ar (bc 0)))) aP) (aL D_law_kind_text (ar (bc 0)))) aP)))),2};show{01,b,0,(0),.str k.word,11,aq.of hb,ad U,1012};cases k with
 |whole=>show aj (λ_=>?_) (λh=>absurd (Q9 U) h);show q H (ae.refl _)
 |place c ps=>
  ext(⟨l,rfl,Rl⟩:hv);let ll:=eP kA;show aj (λh=>absurd (Q7 h) (tf (ϔ JC))) (λ_=>{01,b,0,(0),.str "place",11,aq.of hb,ad U,101,aj (λ_=>?_) (λh=>absurd (Q9 U) h)});show{01,b,0,(1),l,11,aq.of hb,ad U,l,c,ps,1,Rl,kA,λH1 s1=>{0011,by rw[lpl,ι];omega,0011,by rw[υ,lpl,yY,ι];omega,2}};let e:O "place(" ++ fZ c ps++O ")"=iW (.place c ps):=by rw[iW,bJ,show O "place("=O "place" ++ O "(" by decide +kernel]
  rw[e];show q H1 s1
 |row c ps j=>
  ext(⟨l,u,rfl,Rl,Ru⟩:hv);let jn:j.size+1<=n+1:=kn;let ll:=eP kA.1;let lk:=cg kA.2;show aj (λh=>absurd (Q7 h) (tf (ϔ Ig))) (λ_=>{01,b,0,(0),.str "row",11,aq.of hb,ad U,101,aj (λh=>absurd (Q7 h) (tf (ϔ JO))) (λ_=>?_)});show{01,b,0,(0),.str "row",11,aq.of hb,ad U,101,aj (λ_=>?_) (λh=>absurd (Q9 U) h)};show{01,b,0,(1),l,11,aq.of hb,ad U,l,c,ps,1,Rl,kA.1,λH1 s1=>{0011,by rw[lro,ι];omega,0011,by rw[υ,lro,iq,ι];omega,01,b,0,(2),u,11,aq.of (s1 _ _ hb),ad U,u,j,1,Ru.mono s1,33,kA.2,λH2 s2=>{0011,by rw[υ,υ,lro,iq,ι];omega,0011,by rw[υ,υ,υ,lro,iq,yY,ι];omega,2}}};let e:O "row(" ++ fZ c ps++O ", " ++ iW j++O ")"=iW (.row c ps j):=by rw[iW,cj,bJ,show O "row("=O "row" ++ O "(" by decide +kernel];simp only[OK]
  rw[e];show q H2 (s1.trans s2)
 |pair i j=>
  ext(⟨u1,u2,rfl,Ru1,Ru2⟩:hv);let jn:i.size+j.size+1<=n+1:=kn;let l1:=cg kA.1;let l2:=cg kA.2;show aj (λh=>absurd (Q7 h) (tf (ϔ Kx))) (λ_=>?_);show{01,b,0,(0),.str "pair",11,aq.of hb,ad U,101,aj (λh=>absurd (Q7 h) (tf (ϔ Ih))) (λ_=>?_)};show{01,b,0,(0),.str "pair",11,aq.of hb,ad U,101,aj (λh=>absurd (Q7 h) (tf (ϔ IT))) (λ_=>?_)};show{01,b,0,(1),u1,11,aq.of hb,ad U,u1,i,1,Ru1,33,kA.1,λH1 s1=>{0011,by rw[lpa,ι];omega,0011,by rw[υ,lpa,iq,ι];omega,01,b,0,(2),u2,11,aq.of (s1 _ _ hb),ad U,u2,j,1,Ru2.mono s1,33,kA.2,λH2 s2=>{0011,by rw[υ,υ,lpa,iq,ι];omega,0011,by rw[υ,υ,υ,lpa,iq,yY,ι];omega,2}}};let e:O "pair(" ++ iW i++O ", " ++ iW j++O ")"=iW (.pair i j):=by rw[iW,cj,bJ,show O "pair("=O "pair" ++ O "(" by decide +kernel];simp only[OK]
  rw[e];show q H2 (s1.trans s2)
end
open PySem L2 KB XB PySem.NumText WR
abbrev lO:ϯ:=bT 67
def zZ(c:Nat):Bool:=decide (48<=c)&&decide (c<=57)
def vA(x:Str):Bool:=decide (1<=x.cps.size)&&decide (x.cps.size<=60)&&x.cps.toList.all zZ
def oY(x:Str):V:=if vA x=Y then .int ((digitsVal x.cps.toList:Nat):Int)else .non
def IB(x:Str):((ϳ x.cps.size).map λi=>zZ (x.cps.getD i 0)).all id=x.cps.toList.all zZ:=by
 let e:(ϳ x.cps.size).map (λi=>zZ (x.cps.getD i 0))=x.cps.toList.map zZ:=by
  apply List.ext_getElem
  .simp
  .intro i a b;simp[Array.getD,(↑a)]
 rw[e,OJ];rfl
def sX(h:vA x=Y):AllDigits x.cps.toList/\1<=x.cps.size/\x.cps.size<=60:=by unfold vA at h;simp only[ψ,decide_eq_true_eq,A7]at h;show{λc a=>?_,h.1.1,h.1.2};let:=h.2 c a;unfold zZ at this;simpa using this
def EU(h:vA x=Y):PySem.intText? x=Z ((digitsVal x.cps.toList:Nat):Int)/\x.length<=640:=by ext(⟨a,c,d⟩:sX h);let e:x.length=x.cps.size:=U;show{intText_digits a (λz=>by let b:x.cps.toList.length=x.cps.size:=ύ;rw[z,A3]at b;omega) (),3}
inductive yo (vs:List V) (H:Hp) (Q:VK) (u3_:XK):Prop|mk (x:Str) (_:vs=[.str x]) (_:x.cps.size<=5000) (_:∀H',ae H H'->Q (oY x) H')
section
variable{P:Θ}{w:Χ}{K:ζ}{mg:Str->Option θ}{base:ϖ}
def sr(F:Fun K "number_of" "number_of" lO f fd)(T:Txt K mg):ap P w K mg base aY 1 f fd ["word"] yo:=by
 show F.okA (N:=["word"]) λD A X s H vs Q E M I h=>?_;ext(⟨x,rfl,t,q⟩:h);show{0,bV (jP (Nz iX iX az (cn bX T.len (aK 0)) {T.g_MOST_FIGURES U})) oR (bV (jP (ii (cn (eG U) T.all (ar (lT ["sign"] [] (MB (wv 0)) (.of U) U (λ_ _ _=>{pg_name (i:=0) (bp (l:=["sign"]) (()) U) U (m_ U)}) (aZ ()) (λ_ _ _=>lF) (λ_ _ _=>(Mf fW fW aP (wv 0) aP))))))) oR (bI (kZ pG T.int (aK 0)))),2};let C:x.length=x.cps.size:=U;let d:vA x=Α->∀H',ae H H'->Q .non H':=λe H' y=>by let:=q H' y;unfold oY at this;rwa[Q6 (by rw[e];decide)]at this
 show{01,x,1,yL t,001101,aj (λg=>?_) (λg=>?_)}
 .show{0011012};let c:1<=x.cps.size:=by let:=Q7 g;omega
  by_cases n:x.cps.size<=60
  .rw[show decide (((x.length:Nat):Int)<=60)=Y from Q9 ()];show aD {01,x,1,mt (F:=λi=>V.bl (zZ (x.cps.getD i 0))) (λi ys R m=>?_) λa v=>{a,(ϳ x.cps.size).map λi=>zZ (x.cps.getD i 0),1,aw.of ?_,012}}
   .show ba {010011012};let u:decide (({#[x.cps.getD i 0]}:Str).cps.toList<(O "0").cps.toList)=decide (x.cps.getD i 0<48):=si _ _;let r:decide ((O "9").cps.toList<({#[x.cps.getD i 0]}:Str).cps.toList)=decide (57<x.cps.getD i 0):=si _ _;rw[u];by_cases o:x.cps.getD i 0<48
    .rw[Q9 o];show aD {by rw[m,ι];omega,21};unfold zZ;rw[Q8 ()];rfl
    .rw[Q8 o];show aA {0011,{by rw[m,ι];omega,21}};rw[r];unfold zZ;rw[Q9 (show 48<=x.cps.getD i 0 by omega)];by_cases k:57<x.cps.getD i 0
     .rw[Q9 k,Q8 ()];rfl
     .rw[Q8 k,Q9 ()];rfl
   .rw[aa,ϗ];rfl
   .rw[IB];let j:=ac v (.lst ((ϳ x.cps.size).map λi=>V.bl (zZ (x.cps.getD i 0))));let b:vA x=x.cps.toList.all zZ:=by unfold vA;rw[Q9 c,Q9 n];rfl
    cases e:x.cps.toList.all zZ with
    |false=>show aA (d (by rw[b,e]) _ j)
    |true=>rw[e]at b;ext(⟨z,p⟩:EU b);show aD {01,x,01,z,p,2};let:=q _ j;unfold oY at this;rwa[Q5 b]at this
  .rw[show decide (((x.length:Nat):Int)<=60)=Α from Q8 ()];show aA (d ?_ H (ae.refl _));unfold vA;rw[Q8 n,Py,j_]
 .show{01,aA (d ?_ H (ae.refl _))};let c:¬ 1<=x.cps.size:=by let:=of_decide_eq_false (B3.mpr g);omega
  unfold vA;rw[Q8 c,j_,j_]
end
open PySem L2 KB XB WR
abbrev qa:ϯ:=bT 68
abbrev lH:ϯ:=bT 69
abbrev lL:ϯ:=bT 71
def jw{a b:Str}(h:a.cps.toList=b.cps.toList):a=b:=by cases a;cases b;congr;show Array.ext' h
def eZ(a b:Str):(a++b).cps.toList=a.cps.toList++b.cps.toList:=by change(a.cps++b.cps).toList=_;rw[Array.toList_append]
def Dj:∀{a d r b:List Nat},c∉a->c∉d->a++c::r=d++c::b->a=d/\r=b
 |[],[],r,b,_,_,h=>↑h
 |[],y::d,r,b,_,h2,h=>by simp only[v_,A9,Qz]at h;show absurd (ν.mpr (.inl h.1)) h2
 |y::a,[],r,b,h1,_,h=>by simp only[v_,A9,Qz]at h;show absurd (ν.mpr (.inl h.1.symm)) h1
 |y::a,z::d,r,b,h1,h2,h=>by simp only[A9,Qz]at h;obtain⟨f,e⟩:=Dj (λm=>h1 (ς _ m)) (λm=>h2 (ς _ m)) h.2;show{by rw[h.1,f],e}
def tY(c:Nat):∀{A B:List Str},A≠[]->B≠[]->(∀p∈A,c∉p.cps.toList)->(∀p∈B,c∉p.cps.toList)->Ϻ {#[c]} A=Ϻ {#[c]} B->A=B
 |[],_,h,_,_,_,_=>absurd U h
 |_,[],_,h,_,_,_=>absurd U h
 |[a],[b],_,_,_,_,h=>by rw[bJ,bJ]at h;rw[h]
 |[a],b::d::r,_,_,h1,_,h=>by rw[bJ,cj]at h;let:=congrArg (λz:Str=>z.cps.toList) h;simp only[eZ]at this;show absurd (by rw[this];simp) (h1 a Γ)
 |a::d::r,[b],_,_,_,h2,h=>by rw[bJ,cj]at h;let:=congrArg (λz:Str=>z.cps.toList) h;simp only[eZ]at this;show absurd (by rw[<-this];simp) (h2 b Γ)
 |a::d::r,b::e::t,_,_,h1,h2,h=>by rw[cj,cj]at h;let:=congrArg (λz:Str=>z.cps.toList) h;simp only[eZ,OI,List.singleton_append]at this;ext(⟨i,g⟩:Dj (h1 a Γ) (h2 b Γ) this);rw[jw i,tY c () () (λp f=>h1 p (ς _ f)) (λp f=>h2 p (ς _ f)) (jw g)]
def eJ(x y:Str):Txt.split x y≠[]:=by
 unfold Txt.split;split
 .simp
 .split
  .simp
  .rw[StrLaws.partsBetween_eq];ext(⟨p,r,e⟩:StrLaws.partsFrom_ne x y.length 0 (G_ x y 0 x.length (x.length+1)));rw[e];simp
def vZ(c:Nat)(h:A≠[])(a:∀p∈A,c∉p.cps.toList):Txt.split (Ϻ {#[c]} A) {#[c]}=A:=
 tY c (eJ _ _) h (StrLaws.split_free _ c) a (J2 _ _)
def Wn(ps:List Pr):Prop:=∀p∈ps,dD p.1=Y
section
variable{P:Θ}{w:Χ}{K:ζ}{mg:Str->Option θ}{base:ϖ}
end
def Ge(ys:List α)(z:α):jX (ys++[z]) (-1)=Z z:=by unfold jX Fx;rw[Q6 (),Q5 (by rw[Ι,j7];omega)];rw[show((-1:Int)+((ys++[z]).length:Int)).toNat=ys.length by rw[Ι,j7];omega];simp
def Dg(ys:List V)(z:V):db (ys++[z]) χ (Z (-1))=ys:=by
 let h:HT.sIx (ys++[z]).length (ys++[z]).length (Z (-1))=ys.length:=by unfold HT.sIx;simp;omega
 let a:HT.sIx (ys++[z]).length 0 χ=0:=U;unfold db;rw[h,a,PN,Nat.sub_zero,List.take_left'];rfl
def ux:cf c ps≠[]:=by
 unfold cf;split
 .simp
 .next h=>intro e;rw[ϣ,List.map_eq_nil_iff]at e;show h (.inr e)
section
variable{P:Θ}{w:Χ}{K:ζ}{mg:Str->Option θ}{base:ϖ}
end
abbrev qg:ϯ:=bT 72
def Bz(x:Str):Dv:=.tup [.str x,.non]
def Wa(c:Int)(ps:List Pr):Prop:=Wr c ps/\Wn ps
def BP(R:ah H (Bz x) v):∃a,v=.ref a/\H a=Z (.tup [.str x,.non]):=by ext(⟨a,vs,rfl,e,b⟩:ah.tup_inv R);ext(⟨f,g,rfl,c,d⟩:Reps.two b);subst c d;show{a,1,e}
def eu(h:Reps H [d] vs):∃x,vs=[x]/\ah H d x:=by ext(⟨v,r,rfl,a,rfl⟩:h);show{v,1,a}
def CV(R:ah H (.tup [.str w,.lst ds]) v):∃a l us,v=.ref a/\H a=Z (.tup [.str w,.ref l])/\H l=Z (.lst us)/\Reps H ds us:=by ext(⟨a,vs,rfl,d,b⟩:ah.tup_inv R);ext(⟨h,i,rfl,c,e⟩:Reps.two b);ext(⟨l,us,rfl,f,g⟩:e);subst c;show{a,l,us,1,d,f,g}
section
variable{P:Θ}{w:Χ}{K:ζ}{mg:Str->Option θ}{base:ϖ}
end
abbrev DF:ϯ:=bT 91
inductive nX (n:Nat) (vs:List V) (H:Hp) (Q:VK) (u3_:XK):Prop|mk (a b:J) (rm:Int) (xs:List Str) (_:vs=[.ref a,.ref b,.int rm]) (_:1<=rm) (_:rm<=n) (_:n<=12) (_:gb H a) (_:H b=Z (.lst (xs.map V.str))) (_:b≠a) (_:xs.length<=10) (_:∀(H':Hp)(v:V)(k:Kd),ao a H H'->gb H' a->ah H' k.dv v->k.All (Ln xs 99)->(k.size:Int)<=rm->Q v H')
section
variable{P:Θ}{w:Χ}{K:ζ}{mg:Str->Option θ}{base:ϖ}
def EO(F:Fun K "_law_kind" "_law_kind" DF f fd)(T:Txt K mg)(u3:aS P w K mg base k0 "_law_draw" ["_law_state_here","_law_many"] dY)(a0:aS P w K mg base k0 "_law_length" ["_law_state_here","_law_names_here","_law_most"] oq)(R:aS P w K mg base k0 "_law_kind" ["_law_state_here","_law_names_here","_law_room"] (nX n)):ap P w K mg base aY (k0+1) f fd ["_law_state_here","_law_names_here","_law_room"] (nX (n+1)):=by
 show F.okA (N:=["_law_state_here","_law_names_here","_law_room","_law_way","_law_share","_law_one","_law_length_here"]) λb3 A b1 s H vs Q E hr nd h=>?_;ext(⟨a,b,e,xs,rfl,r1,rn,b2,st,hb,g,z,q⟩:h);show{0,aQ (aV 3 (aL u3 (ay (wv 0) (ar az)))) (kW (iz (Bl (aU fh (wv 2) az) (Bk (aU av (wv 3) az)))) (aQ (aV 4 (bh bj az (aL u3 (ay (wv 0) (ar (bh da (wv 2) az)))))) (aQ (aV 5 (aL R (ay (wv 0) (ay (wv 1) (aK 4))))) (bI (cy (ay aP (ay (wv 5) (ar (aL R (ay (wv 0) (ay (wv 1) (ar (bh da (bh da (wv 2) az) (wv 4))))))))))))) (bV (aU av (wv 3) az) (cy (ar aP)) (aQ (aV 6 (aL a0 (ay (wv 0) (ay (wv 1) (ar az))))) (bV (iz (Bl (aU fh (wv 2) az) (Bk (aU jE (wv 3) az)))) (cy (ay aP (ay (wv 6) (ar (aL R (ay (wv 0) (ay (wv 1) (ar (bh da (wv 2) az))))))))) (bI (cy (ay aP (aK 6)))))))),{01,a,(5),1,st,33,λH1 x X I x0 x5=>?_}};let V:=X _ _ g hb;show dm ?_;dsimp only;show yK (2<e/\x=0) ?A ?B (λG m=>{01001101,aj (λM=>{01101,aj (λh2=>NA (G {Q7 M,↑h2})) (λ_=>NM m)}) (λ_=>m)})
 case A=>
  ext⟨pr,hx⟩;show aA {01010011,a,e-2,1,I,33,λH2 y i k y0 y1=>{00112}};show dm ?_;let v:=i _ _ g V;let p:=X.trans i;show{010101,a,b,1+y,xs,1333,k,v,g,z,λH3 W o l r L S a2=>dm ?_};show{010101010011010011,a,b,e-1-(1+y),xs,1333,r,(l _ _ g v),g,z,λH4 v4 u2 d a1 R4 A4 z4=>{z3,λt j=>?_}};let u:=ac j (.tup [.str "pair",W,v4]);show q _ _ (.pair o u2) (p.trans (l.trans (d.trans (ae.b a u)))) (a1.m u) (CO aa ((Kd.tupS (r.tups d) L).mono u) (R4.mono u)) {S,A4} ?_;change((o.size+u2.size+1:Nat):Int)<=e;omega
 case B=>
  show aD (dR ?_);dsimp only;show{01101,aj (λ_=>{z1,λt j=>?_}) (λ_=>?_)}
  .let i:=ac j (.tup [.str "whole"]);show q _ _ .whole (X.trans (ae.b a i)) (I.m i) (AL aa) trivial (by change(1:Int)<=e;omega)
  show{0101,a,b,(99),xs,1,I,V,g,z,33,λH2 u4 c ps i k u1 u0=>dm ?_};dsimp only;let v:=i _ _ g V;let p:=X.trans i;show yK (1<e) ?C ?D (λG m=>{01001101,aj (λM=>{01001101,aj (λ_=>NA (G (Q7 M))) (λ_=>NM m)}) (λ_=>m)})
  case C=>
   intro r2;show aA {010101010011,a,b,e-1,xs,1333,k,v,g,z,λH3 W o l r L S a2=>{z3,λt j=>?_}};let t3:=k.tups l;let d:=ac j (.tup [.str "row",u4,W]);show q _ _ (.row c ps o) (p.trans (l.trans (ae.b a d))) (r.m d) (Fc aa ((bD t3 (sY c ps) u1).mono d) (L.mono d)) {u0,S} ?_;change((o.size+1:Nat):Int)<=e;omega
  case D=>
   show aD {01,z2,λt j=>?_};let d:=ac j (.tup [.str "place",u4]);show q _ _ (.place c ps) (p.trans (ae.b a d)) (k.m d) (AW aa (u1.mono d)) u0 (by change(1:Int)<=e;omega)
end
def uU(s:ϯ)(i:Nat):ϯ:=match s with|.ClassDef _ _ _ a _ _ _ _ _ _ _=>a.getD i (.Pass {(0),(0),(0),(0)})|_=>.Pass {(0),(0),(0),(0)}
abbrev jG:ϯ:=uU (bT 65) 0
abbrev vr:ϯ:=uU (bT 65) 1
abbrev dM:ϯ:=uU (bT 65) 2
abbrev hD:ϯ:=uU (bT 65) 3
def Sg(C:J)(H:Hp)(a:J)(x:Str)(i:Nat):Prop:=∃b,H a=Z (.ins C b [(O "text",.str x),(O "at",.int i)])
def Ls:(O "at" == O "text")=Α:=()
def jo(x:Str)(i:Int):j6 (O "text") [(O "text",V.str x),(O "at",V.int i)]=Z (.str x):=by rw[ϰ,beq_self_eq_true]
def kO(x:Str)(i:Int):j6 (O "at") [(O "text",V.str x),(O "at",V.int i)]=Z (.int i):=by rw[ϰ,Ls,ϰ,beq_self_eq_true]
def Dq(x:Str)(i j:Int):fO (O "at") (.int j) [(O "text",V.str x),(O "at",V.int i)]=[(O "text",V.str x),(O "at",V.int j)]:=by let h:¬ O "text"=O "at":=();simp[fO,h]
inductive HU (C:J) (vs:List V) (H:Hp) (Q:VK) (u3_:XK):Prop|mk (a:J) (x y:Str) (i:Nat) (_:vs=[.ref a,.str y]) (_:Sg C H a x i) (_:y.length<=10) (_:(Txt.startswith3 x y i=Α->Q (.bl Α) H)) (_:(Txt.startswith3 x y i=Y->∀H',ao a H H'->Sg C H' a x (i+y.length)->Q (.bl Y) H'))
section
variable{P:Θ}{w:Χ}{K:ζ}{mg:Str->Option θ}{base:ϖ}
def Iw(F:Fun K "met" "Signs.met" vr f fd)(T:Txt K mg)(d:uG K C)(j:dF K C "text")(g:dF K C "at"):ap P w K mg base aY 1 f fd ["self","signs"] (HU C):=by
 show F.okA (N:=["self","signs"]) λn A m s H vs Q E q p h=>?_;ext(⟨a,x,y,i,rfl,⟨b,c⟩,o,k,l⟩:h);show{0,bV (jP (ii (fv Ρ J_ K0 xt (FE (wv 0)) (ay (wv 1) (ar (FE (wv 0))))))) gA (aQ (NQ (wv 0) (cn bX T.len (aK 1)) BN) (bI gA)),2};show{01,a,C,b,0,.str x,1,c,d,j,jo _ _,10101,a,C,b,0,.int i,1,c,d,g,kO _ _,x,y,i,11012};cases e:Txt.startswith3 x y i with
 |false=>show aA (k e)
 |true=>
  show aD {01,a,C,b,0,.int i,1,c,d,g,kO _ _,01,y,12,i,y.length,11,b,0,c,E2 U,2}
  .rw[ι];omega
  .show l e _ (ao.upd _ _ _) {b,2};rw[aa,Dq];rfl
inductive zm (C:J) (vs:List V) (H:Hp) (Q:VK) (u3_:XK):Prop|mk (a dx:J) (x:Str) (_:vs=[.ref a,.str x]) (_:H a=Z (.ins C dx [])) (_:∀H',ao a H H'->Sg C H' a x 0->Q .non H')
def DG(F:Fun K "__init__" "Signs.__init__" jG f fd)(T:Txt K mg)(c:uG K C)(d:dF K C "text")(e:dF K C "at"):ap P w K mg base aY 1 f fd ["self","text"] (zm C):=by show F.okA (N:=["self","text"]) λj A i s H vs Q E l k h=>?_;ext(⟨a,b,x,rfl,g,q⟩:h);show{0,aQ (NT (wv 0) (wv 1) U) (cX (NT (wv 0) az U)),2};show{0101,a,C,b,01,g,c,d,E2 U,{01,a,C,b,01,aa,c,e,E2 U,2}};show q _ ((ao.upd _ _ _).trans (ao.upd _ _ _)) {b,2};rw[aa];let h:¬ O "text"=O "at":=();simp[fO,h]
def fV(c:Nat):Bool:=c==40||c==44||c==41
def EC(c:Nat):Me (.str {#[c]}) [.str (O "("),.str (O ","),.str (O ")")]=fV c:=by
 let b:O "("={#[40]}:=();let a:O ","={#[44]}:=();let e:O ")"={#[41]}:=();let h:∀d:Nat,(({#[d]}:Str)=={#[c]})=(c==d):=λd=>by
  rw[B5,beq_iff_eq,beq_iff_eq];constructor
  .intro z;injection z with z;injection z with z;injection z with z _;show z.symm
  .intro z;rw[z]
 rw[b,a,e];change((({#[40]}:Str)=={#[c]})||(((⟨#[44]⟩:Str)==⟨#[c]⟩)||(((⟨#[41]⟩:Str)==⟨#[c]⟩)||false)))=fV c;rw[h,h,h,Qd];unfold fV;rw[Bool.or_assoc]
inductive BB (C:J) (vs:List V) (H:Hp) (Q:VK) (u3_:XK):Prop|mk (a:J) (x:Str) (i j:Nat) (_:vs=[.ref a]) (_:Sg C H a x i) (_:x.length<=2600000) (_:i<=j) (_:j<=x.length) (_:(∀m,i<=m->m<j->∃c,x.cps.toList[m]?=Z c/\fV c=Α)) (_:(j<x.length->∃c,x.cps.toList[j]?=Z c/\fV c=Y)) (_:∀H',ao a H H'->Sg C H' a x j->Q (.str (Txt.slice x (Z i) (Z j))) H')
def sW(F:Fun K "next_word" "Signs.next_word" dM f fd)(T:Txt K mg)(d:uG K C)(v:dF K C "text")(r:dF K C "at"):ap P w K mg base aY 1 f fd ["self"] (BB C):=by
 show F.okA (N:=["self","start"]) λa5 A a4 s H vs Q E hr nd h=>?_;ext(⟨a,x,i,j,rfl,⟨G,B⟩,lx,u4,hj,S,u3,q⟩:h);show{0,aQ (aV 1 (FE (wv 0))) (aQ (Lv Ϩ (iz (Bl (aU jE (FE (wv 0)) (cn bX T.len (ar (FE (wv 0))))) (Bk (aU iZ (eh rL (FE (wv 0)) (FE (wv 0))) (cy (ay aP (ay aP (ar aP)))))))) (cX (NQ (wv 0) az BN))) (bI (gp bF (FE (wv 0)) (fG (wv 1)) (fG (FE (wv 0)))))),2};show{01,a,C,G,0,.int i,1,B,d,r,kO _ _,dm ?_};let y:x.length<=Μ:=()
 show{λm σ H'=>∃p:Nat,m=j-p/\i<=p/\p<=j/\σ=[Z (.ref a),Z (.int i)]/\ao a H H'/\Sg C H' a x p,{0,i,1,Β _,u4,1,ao.refl _ _,G,B},2};ext m σ R ⟨p,rfl,ip,pj,rfl,L,b,g⟩;let M:∀k,ao a R k->p=j->k a=Z (.ins C b [(O "text",.str x),(O "at",.int (p:Int))])->Q (.str (Txt.slice x (Z (i:Int)) (Z (p:Int)))) k:=λk o e D=>by subst e;show q k (L.trans o) {b,D}
 show{01,a,C,b,0,.int p,1,g,d,r,kO _ _,01,a,C,b,0,.str x,1,g,d,v,jo _ _,x,1,y,001101,aj (λI=>?_) (λI=>?_)}
 .let W:p<x.length:=by let:=Q7 I;omega
  let V:p<x.cps.toList.length:=by rw[ύ];show W
  show{01,a,C,b,0,.str x,1,g,d,v,jo _ _,01,a,C,b,0,.int p,1,g,d,r,kO _ _,x,p,011,y,(ad (Δ V)),z3,λt u1=>{t,01,.inr (aq.of aa),11012}};let o:=ac u1 (.tup [.str "(",.str ",",.str ")"]);let n:=o _ _ g;generalize upd R t (.tup [.str "(",.str ",",.str ")"])=k at o n⊢;rw[EC];by_cases e:p=j
  .ext(⟨c,u,X⟩:u3 ());rw[<-e,Δ V]at u;cases u;rw[X];show aD {01,a,C,b,0,.str x,1,n,d,v,jo _ _,010101,a,C,b,0,.int p,1,n,d,r,kO _ _,01,x,1,y,M k (ae.b a o) e n}
  .ext(⟨c,u,X⟩:S p ip ());rw[Δ V]at u;cases u;rw[X];show aA {λσ' H'=>∃l:Nat,j-l<j-p/\i<=l/\l<=j/\σ'=[Z (.ref a),Z (.int i)]/\ao a H H'/\Sg C H' a x l,λσ' H' ⟨l,h1,D,h3,u0,h5,u2⟩=>{j-l,h1,l,1,D,h3,u0,h5,u2},{01,a,C,b,0,.int p,1,n,d,r,kO _ _,p,(1),11,b,0,n,E2 U,p+1,3331,L.trans ((ae.b a o).trans (ao.upd _ _ _)),b,2}};rw[aa,Dq];rfl
 .let e:p=j:=by
   let:¬ (p:Int)<x.length:=λz=>I (Q9 z);omega
  show{01,a,C,b,0,.str x,1,g,d,v,jo _ _,010101,a,C,b,0,.int p,1,g,d,r,kO _ _,01,x,1,y,M R (ao.refl _ _) e g}
end
def kr{x y:Str}{i:Nat}(c:i<=x.length):Txt.startswith3 x y (i:Int)=((x.cps.toList.drop i).take y.length==y.cps.toList):=by
 let a:fromIndex x.length (i:Int)=i:=by unfold fromIndex;rw[Q6 ()];omega
 unfold Txt.startswith3;rw[a,StrLaws.subAt_eq];by_cases h:i+y.length<=x.length
 .rw[Q9 h,o9]
 .rw[Q8 h,j_,eq_comm,beq_eq_false_iff_ne];intro e;let:=congrArg H_ e;rw[Ω,k7,ύ,ύ]at this;let d:x.length=x.cps.size:=U;let b:y.length=y.cps.size:=U;omega
inductive Br|leaf (w:Str)|nd (w:Str) (ts:List Br)
mutual
noncomputable def du:Br->Str
 |.leaf w=>w
 |.nd w ts=>w++O "(" ++ Ϻ (O ", ") (brTs ts)++O ")"
noncomputable def brTs:List Br->List Str
 |[]=>[]
 |t::ts=>du t::brTs ts
end
mutual
noncomputable def cz:Br->Dv
 |.leaf w=>Bz w
 |.nd w ts=>.tup [.str w,.lst (brDvs ts)]
noncomputable def brDvs:List Br->List Dv
 |[]=>[]
 |t::ts=>cz t::brDvs ts
end
mutual
noncomputable def dw:Br->Nat
 |.leaf _=>0
 |.nd _ ts=>brDps ts+1
noncomputable def brDps:List Br->Nat
 |[]=>0
 |t::ts=>max (dw t) (brDps ts)
end
mutual
noncomputable def Nb:Br->Prop
 |.leaf w=>(∀c∈w.cps.toList,fV c=Α)/\1<=w.cps.size
 |.nd w ts=>(∀c∈w.cps.toList,fV c=Α)/\ts.length<=8/\brOks ts
noncomputable def brOks:List Br->Prop
 |[]=>True
 |t::ts=>Nb t/\brOks ts
end
def gW:∀ts,brTs ts=ts.map du
 |[]=>rfl
 |t::ts=>by rw[brTs,gW ts];rfl
def eA:∀ts,brDvs ts=ts.map cz
 |[]=>rfl
 |t::ts=>by rw[brDvs,eA ts];rfl
def nh:∀{ts:List Br}{u},u∈ts->dw u<=brDps ts
 |t::ts,u,h=>by
  rw[brDps];rcases ν.mp h with rfl|h
  .omega
  .let:=nh h;omega
def zG(b:(m==O "text")=Α)(a:(m==O "at")=Α)(x:Str)(i:Int):j6 m [(O "text",V.str x),(O "at",V.int i)]=χ:=by rw[ϰ,b,ϰ,a];rfl
def nw(H H':Hp):Hp:=λb=>match H b with|none=>H' b|some _=>χ
def yu(h:∀b o,H b=χ->H1 b=Z o->H2 b=Z o):ae (nw H H1) (nw H H2):=λb o e=>by
 unfold nw at e⊢;cases a:H b with
 |none=>rw[a]at e;show h b o a e
 |some _=>rw[a]at e;cases e
def yO(h:∀b,H1 b=χ->H b=χ):ae (nw H1 H2) (nw H H2):=λb o e=>by
 unfold nw at e⊢;cases a:H1 b with
 |none=>rw[a]at e;rw[h b a];show e
 |some _=>rw[a]at e;cases e
def qY(s:ao a H1 H2)(g:Sg C H2 a x p)(h:H2 b=χ):H1 b=χ:=by
 let n:b≠a:=λz=>by ext(⟨_,e⟩:g);rw[z,e]at h;cases h
 cases e:H1 b with
 |none=>rfl
 |some o=>rw[s b o n e]at h;cases h
section
variable{P:Θ}{w:Χ}{K:ζ}{mg:Str->Option θ}{base:ϖ}
end
def oS:Kd->Br
 |.whole=>.leaf (O "whole")
 |.place c ps=>.nd (O "place") [.leaf (fZ c ps)]
 |.row c ps k=>.nd (O "row") [.leaf (fZ c ps),oS k]
 |.pair a b=>.nd (O "pair") [oS a,oS b]
def iI:∀k,du (oS k)=iW k
 |.whole=>by rw[oS,du,iW]
 |.place c ps=>by rw[oS,du,iW,brTs,brTs,du]
 |.row c ps k=>by rw[oS,du,iW,brTs,brTs,brTs,du,iI k]
 |.pair a b=>by rw[oS,du,iW,brTs,brTs,brTs,iI a,iI b]
def Sm(c:Int)(ps:List Pr):Prop:=Wa c ps/\SL c ps
def dc(h:∀c ps,p c ps->q c ps):∀{k:Kd},k.All p->k.All q
 |.whole,_=>trivial
 |.place _ _,a=>h _ _ a
 |.row _ _ _,a=>{h _ _ a.1,dc h a.2}
 |.pair _ _,a=>{dc h a.1,dc h a.2}
def Ag(R:Dv->Br->Prop):So->Dv->Br->Prop
 |.e,d,b=>R d b
 |.l,d,b=>∃c ps,d=cw c ps/\b=.leaf (fZ c ps)/\Sm c ps
 |.k,d,b=>∃k:Kd,d=k.dv/\b=oS k/\k.All Sm/\k.size<=12
 |.x,d,b=>∃y,d=.str y/\b=.leaf y/\dD y=Y
 |.y,d,b=>∃y,d=.str y/\b=.leaf y/\dD y=Y
 |_,_,_=>False
inductive pM (R:Dv->Br->Prop):List So->List Dv->List Br->Prop
 |nil:pM R [] [] []
 |cons {s:So} {d:Dv} {b:Br} {ss:List So} {ds:List Dv} {bs:List Br}:Ag R s d b->pM R ss ds bs->pM R (s::ss) (d::ds) (b::bs)
inductive pX (R:Dv->Br->Prop):List Dv->List Br->Prop
 |nil:pX R [] []
 |cons {d:Dv} {b:Br} {ds:List Dv} {bs:List Br}:R d b->pX R ds bs->pX R (d::ds) (b::bs)
def JA(x:Str):Bool:=decide (x≠"number")&&(decide (x≠"name")&&(decide (x≠"call")&&(decide (x≠"reckon")&&decide (x≠"row"))))
def iA:Wd:=("call","fa",[.f,.a])
def kX:Wd:=("reckon","wee",[.w,.e,.e])
def rF:Wd:=("row","r",[.r])
def Ek:Wd:=("number","n",[.n])
def xb:Wd:=("name","x",[.x])
def pH:iA∈WT/\kX∈WT/\rF∈WT/\Ek∈WT/\xb∈WT:=()
def Wx:Nat->Dv->Br->Prop
 |0,_,_=>False
 |n+1,d,b=>
  (∃i:Int,0<=i/\i<10^12/\d=.tup [.str (O "number"),.int i]/\b=.leaf (eS i)) \/
  (∃y,dD y=Y/\d=.tup [.str (O "name"),.str y]/\b=.leaf y) \/
  (∃f ds bs,dD f=Y/\cZ f=Α/\dz f=Α/\ds.length<=4/\pX (Wx n) ds bs/\d=.tup [.str (O "call"),.str f,.tup ds]/\b=.nd f bs) \/
  (∃r d1 d2 a c,dz r=Y/\Wx n d1 a/\Wx n d2 c/\d=.tup [.str (O "reckon"),.str r,d1,d2]/\b=.nd r [a,c]) \/
  (∃ds bs,1<=ds.length/\ds.length<=4/\pX (Wx n) ds bs/\d=.tup [.str (O "row"),.tup ds]/\b=.nd (O "row") bs) \/
  (∃p ds bs,p∈WT/\JA p.1=Y/\pM (Wx n) p.2.2 ds bs/\(p.1≠"fold"\/kJ ds=Y)/\d=.tup (.str p.1::ds)/\b=.nd p.1 bs)
def pX.len(h:pX R ds bs):bs.length=ds.length:=by
 induction h with
 |nil=>rfl
 |cons _ _ a=>rw[Λ,Λ,a]
def pX.mem(h:pX R ds bs):(∀d∈ds,∃b∈bs,R d b)/\∀b∈bs,∃d∈ds,R d b:=by
 induction h with
 |nil=>show{nofun,nofun}
 |cons a _ f=>
  show{λd e=>?_,λb c=>?_}
  .rcases ν.mp e with rfl|e
   .show{0,Γ,a}
   .ext(⟨b,c,r⟩:f.1 d e);show{b,ς _ c,r}
  .rcases ν.mp c with rfl|c
   .show{0,Γ,a}
   .ext(⟨d,e,r⟩:f.2 b c);show{d,ς _ e,r}
def pM.len(h:pM R ss ds bs):bs.length=ss.length/\ds.length=ss.length:=by
 induction h with
 |nil=>show{11}
 |cons _ _ a=>show{by rw[Λ,Λ,a.1],by rw[Λ,Λ,a.2]}
def CF:∀p∈WT,dD p.1=Y:=()
def lZ:∀r∈tQ,dD r=Y/\cZ r=Α:=()
def gF(h:dz r=Y):r∈tQ:=by let:=n_.mp h;ext(⟨v,b,e⟩:this);ext(⟨y,a,rfl⟩:ϙ.mp b);rw[<-(Q7 e)];show a
def DZ{n:Nat}:∀{bs:List Br},(∀b∈bs,dw b<=n)->brDps bs<=n
 |[],_=>Τ _
 |b::bs,h=>by rw[brDps];let:=h b Γ;let:=DZ λc hc=>h c (ς _ hc);omega
def Cd(i:∀d b,R d b->d.small=Y):∀{s:So}{d:Dv}{b:Br},Ag R s d b->lS s d=Y/\d.small=Y
 |.e,d,b,h=>{1,i _ _ h}
 |.l,_,_,h=>by ext(⟨c,ps,rfl,_,f⟩:h);show{f.2.1,f.2.2}
 |.k,_,_,h=>by ext(⟨k,rfl,_,g,j⟩:h);let a:=dc (λ_ _ h=>h.2) g;show{Q9 (by rw[jm a];omega),jf a}
 |.x,_,_,h=>by ext(⟨y,rfl,_,e⟩:h);show{e,Q9 (by let:=(aX e).2;omega)}
 |.y,_,_,h=>by ext(⟨y,rfl,_,e⟩:h);show{e,Q9 (by let:=(aX e).2;omega)}
def Gv(f:∀d b,R d b->d.small=Y)(h:pM R ss ds bs):pB ss ds=Y/\∀d∈ds,d.small=Y:=by
 induction h with
 |nil=>show{1,nofun}
 |cons a _ e=>
  show{by rw[pB,(Cd f a).1,e.1];rfl,λd c=>?_};rcases ν.mp c with rfl|c
  .show(Cd f a).2
  .show e.2 d c
def jH(h:dD x=Y):(Dv.str x).small=Y:=Q9 (by let:=(aX h).2;omega)
def Dc(h:m<=ds.length)(a:ds.length<=4):fA m (.tup ds)=Y:=by change(decide (m<=(ds.length:Int))&&decide ((ds.length:Int)<=4))=Y;rw[Q9 h,Q9 ()];rfl
def dE(b:dD x=Y)(h:∀d∈ds,d.small=Y)(c:ds.length<=10):(Dv.tup (.str x::ds)).small=Y:=
 bb (λd a=>by
  rcases ν.mp a with rfl|a
  .show jH b
  .show h d a) (by rw[Λ];omega)
def cH:∀{n:Nat}{d:Dv}{b:Br},Wx n d b->fJ d=Y/\d.small=Y
 |n+1,d,b,h=>by
  let j:∀d b,Wx n d b->d.small=Y:=λd b h=>(cH h).2;rw[Wx]at h;rcases h with ⟨i,H,t,rfl,rfl⟩|⟨y,q,rfl,rfl⟩|⟨f,ds,bs,s,u,k,m,c,rfl,rfl⟩|⟨r,d1,d2,z,X,k,w,v,rfl,rfl⟩|⟨ds,bs,Q,m,c,rfl,rfl⟩|⟨p,ds,bs,o,_,c,g,rfl,rfl⟩
  .let e:=bR pH.2.2.2.1 [.int i];show{e.trans ?_,dE () (λd a=>by rw[ξ.mp a];rfl) ()};change((jV 1000000000000 (.int i)&&Y)&&_)=Y;rw[show jV 1000000000000 (.int i)=Y from by unfold jV;simp;omega];rw[show decide (Ek.1≠O "fold")=Y from by decide +kernel];rfl
  .let e:=bR pH.2.2.2.2 [.str y];show{e.trans ?_,dE () (λd a=>by rw[ξ.mp a];show jH q) ()};change((dD y&&Y)&&_)=Y;rw[q];rw[show decide (xb.1≠O "fold")=Y from by decide +kernel];rfl
  .let e:=bR pH.1 [.str f,.tup ds];let l:∀d∈ds,d.small=Y:=λd a=>by ext(⟨b,_,r⟩:c.mem.1 d a);show j d b r
   show{e.trans ?_,dE () (λd a=>?_) ()}
   .change((oB (.str f)&&(fA 0 (.tup ds)&&Y))&&_)=Y;rw[Dc () m,show oB (.str f)=Y from by unfold oB;simp[s,u,k]];rw[show decide (iA.1≠O "fold")=Y from by decide +kernel];rfl
   .rcases ν.mp a with rfl|a
    .show jH s
    .rw[ξ.mp a];show bb l ()
  .let e:=bR pH.2.1 [.str r,d1,d2];show{e.trans ?_,dE () (λd a=>?_) ()}
   .change((DW (.str r)&&(Y&&(Y&&Y)))&&_)=Y;rw[show DW (.str r)=Y from k];rw[show decide (kX.1≠O "fold")=Y from by decide +kernel];rfl
   .rcases ν.mp a with rfl|a
    .show jH (lZ r (gF k)).1
    .rcases ν.mp a with rfl|a
     .show j _ _ w
     .rw[ξ.mp a];show j _ _ v
  .let e:=bR pH.2.2.1 [.tup ds];let l:∀d∈ds,d.small=Y:=λd a=>by ext(⟨b,_,r⟩:c.mem.1 d a);show j d b r
   show{e.trans ?_,dE () (λd a=>by rw[ξ.mp a];show bb l ()) ()};change((fA 1 (.tup ds)&&Y)&&_)=Y;rw[Dc () m];rw[show decide (rF.1≠O "fold")=Y from by decide +kernel];rfl
  .ext(⟨t,x⟩:Gv j c);show{(bR o ds).trans ?_,dE (CF p o) x (by rw[c.len.2];let:=gk p o;omega)};rw[t];rcases g with g|g
   .rw[Q9 g];rfl
   .rw[g,Bool.or_true];rfl
def bl(b:Br):Nat:=(du b).length
def Mo:So->Nat
 |.l=>4900
 |.k=>60000
 |.x=>8
 |.y=>8
 |_=>0
def JP:∀p∈WT,(p.2.2.map Mo).sum<=60000/\p.1.length<=8:=()
def rA(w:Str)(bs:List Br):bl (.nd w bs)<=w.length+2+(bs.map bl).sum+bs.length*2:=by change(du (.nd w bs)).length<=w.length+2+(bs.map bl).sum+bs.length*2;rw[du,υ,υ,υ,Ao,yY,gW];let:=dN (O ", ") (bs.map du);rw[iq,ε,ϗ]at this;let e:((λx:Str=>x.length)∘du)=bl:=U;rw[e]at this;omega
def hV(s:Str):∀ys:List Str,(ys.map (·.length)).sum<=(Ϻ s ys).length
 |[]=>Τ _
 |[a]=>by rw[bJ];simp
 |a::b::r=>by let c:=hV s (b::r);rw[cj,υ,υ];simp only[Υ,c_]at c⊢;omega
def uL(w:Str)(bs:List Br):(bs.map bl).sum<=bl (.nd w bs):=by change(bs.map bl).sum<=(du (.nd w bs)).length;rw[du,υ,υ,υ,gW];let:=hV (O ", ") (bs.map du);rw[ϗ]at this;let e:((λx:Str=>x.length)∘du)=bl:=U;rw[e]at this;omega
def uh{bs:List Br}{b:Br}(h:b∈bs):bl b<=(bs.map bl).sum:=rX (j8 h)
def Ir{n:Nat}{R:Dv->Br->Prop}(hR:∀d b,R d b->bl b<=64000*cY n d):∀{s:So}{d:Dv}{b:Br},Ag R s d b->bl b<=Mo s+64000*((nJ s d).map (cY n)).sum
 |.e,d,b,h=>by let:=hR _ _ h;change bl b<=0+64000*(cY n d+0);omega
 |.l,_,_,h=>by ext(⟨c,ps,_,rfl,sm⟩:h);let:=sm.1.1.tl;unfold bl;rw[du];change _<=4900+_;omega
 |.k,_,_,h=>by ext(⟨k,_,rfl,kA,k6⟩:h);let:=cg (dc (q:=Wr) (λ_ _ h=>h.1.1) kA);unfold bl;rw[iI];change _<=60000+_;omega
 |.x,_,_,h=>by ext(⟨y,_,rfl,hy⟩:h);let:=(aX hy).2;unfold bl;rw[du];change y.cps.size<=8+_;omega
 |.y,_,_,h=>by ext(⟨y,_,rfl,hy⟩:h);let:=(aX hy).2;unfold bl;rw[du];change y.cps.size<=8+_;omega
def zd{n:Nat}{R:Dv->Br->Prop}(hR:∀d b,R d b->bl b<=64000*cY n d){ss:List So}{ds:List Dv}{bs:List Br}(h:pM R ss ds bs):(bs.map bl).sum<=(ss.map Mo).sum+64000*((bA ss ds).map (cY n)).sum:=by
 induction h with
 |nil=>show Τ _
 | @cons s d b ss ds bs a _ ih=>have:=Ir hR a;rw[show bA (s::ss) (d::ds)=nJ s d++bA ss ds from U,Ε,n9];simp only[Υ,c_];omega
def za{n:Nat}{R:Dv->Br->Prop}(hR:∀d b,R d b->bl b<=64000*cY n d){ds:List Dv}{bs:List Br}(h:pX R ds bs):(bs.map bl).sum<=64000*(ds.map (cY n)).sum:=by
 induction h with
 |nil=>show Τ _
 | @cons d b ds bs a _ ih=>have:=hR _ _ a;simp only[Υ,c_];omega
def gu(a:p∈WT)(h:fJ (.tup (.str p.1::ds))=Y):cY (n+1) (.tup (.str p.1::ds))=1+((bA p.2.2 ds).map (cY n)).sum:=by rw[cY,Q5 h,parts_of a]
def xr:∀{n:Nat}{d:Dv}{b:Br},Wx n d b->bl b<=64000*cY n d
 |n+1,d,b,h=>by
  let hR:∀d b,Wx n d b->bl b<=64000*cY n d:=λd b h=>xr h;let hn:=(cH h).1;let c1:=yC (n+1) d;rw[Wx]at h;rcases h with ⟨i,h0,h1,rfl,rfl⟩|⟨y,hy,rfl,rfl⟩|⟨f,ds,bs,hf,hw,hr,l4,ha,rfl,rfl⟩|⟨r,d1,d2,b1,b2,hr,w1,w2,rfl,rfl⟩|⟨ds,bs,l1,l4,ha,rfl,rfl⟩|⟨p,ds,bs,hp,_,ha,fo,rfl,rfl⟩
  .let:=ji (i:=i) h0 ();unfold bl;rw[du];omega
  .let e:y.length=y.cps.size:=U;let:=(aX hy).2;unfold bl;rw[du];omega
  .let e:=gu (n:=n) (p:=iA) pH.1 hn;let e2:bA iA.2.2 [.str f,.tup ds]=ds:=by change []++(ds++[])=ds;rw[ϣ,v_]
   rw[e2]at e;let h1:=rA f bs;let h2:=za hR ha;let h3:=ha.len;let h4:f.length=f.cps.size:=U;let h5:=(aX hf).2;change _<=64000*cY (n+1) (.tup (.str iA.1::[.str f,.tup ds]));rw[e];omega
  .let e:=gu (n:=n) (p:=kX) pH.2.1 hn;let h1:=rA r [b1,b2];let h2:=hR _ _ w1;let h3:=hR _ _ w2;let h4:r.length=r.cps.size:=U;let h5:=(aX (lZ r (gF hr)).1).2;let e2:((bA kX.2.2 [.str r,d1,d2]).map (cY n)).sum=cY n d1+(cY n d2+0):=U;rw[e2]at e;simp only[Υ,ϴ,c_,J1,Λ,A3]at h1;change _<=64000*cY (n+1) (.tup (.str kX.1::[.str r,d1,d2]));rw[e];omega
  .let e:=gu (n:=n) (p:=rF) pH.2.2.1 hn;let e2:bA rF.2.2 [.tup ds]=ds:=by change ds++[]=ds;rw[ϣ]
   rw[e2]at e;let h1:=rA (O "row") bs;let h2:=za hR ha;let h3:=ha.len;let h4:(O "row").length=3:=();change _<=64000*cY (n+1) (.tup (.str rF.1::[.tup ds]));rw[e];omega
  .let e:=gu (n:=n) hp hn;let h1:=rA p.1 bs;let h2:=zd hR ha;let h3:=ha.len.1;let h4:=gk p hp;let h5:=JP p hp;rw[e];omega
abbrev iy:ϯ:=bT 56
abbrev oi:ϯ:=bT 57
abbrev fb:ϯ:=bT 58
def pX.get(h:pX R ds bs):∀{i:Nat}{d:Dv},ds[i]?=Z d->∃b,bs[i]?=Z b/\R d b:=by
 induction h with
 |nil=>intro i d e;cases e
 |cons a _ c=>
  intro i d e;cases i with
  |zero=>cases e;show{01,a}
  |succ i=>show c e
def bv(b:Br):V:=.str (du b)
inductive uF (n:Nat) (vs:List V) (H:Hp) (Q:VK) (u3_:XK):Prop|mk (v:V) (d:Dv) (b:Br) (_:vs=[v]) (_:ah H d v) (_:Wx n d b) (_:bl b<=2600000) (_:∀H',ae H H'->Q (bv b) H')
inductive Hb (n:Nat) (vs:List V) (H:Hp) (Q:VK) (u3_:XK):Prop|mk (a:J) (us:List V) (ds:List Dv) (bs:List Br) (_:vs=[.ref a]) (_:H a=Z (.tup us)) (_:Reps H ds us) (_:pX (Wx n) ds bs) (_:ds.length<=4) (_:(bs.map bl).sum<=2600000) (_:∀(H':Hp)(l:J),ae H H'->H l=χ->H' l=Z (.lst (bs.map bv))->Q (.ref l) H')
inductive Hq (n:Nat) (vs:List V) (H:Hp) (Q:VK) (u3_:XK):Prop|mk (s:So) (v:V) (d:Dv) (b:Br) (_:vs=[.str (fH s),v]) (_:ah H d v) (_:Ag (Wx n) s d b) (_:bl b<=2600000) (_:∀H',ae H H'->Q (bv b) H')
section
variable{P:Θ}{w:Χ}{K:ζ}{mg:Str->Option θ}{base:ϖ}
def tW(F:Fun K "show_all" "show_all" oi f fd)(T:Txt K mg)(u:aS P w K mg base k "show_expression" ["expression"] (uF n)):ap P w K mg base aY (k+1) f fd ["expressions"] (Hb n):=by
 show F.okA (N:=["expressions"]) λC A I s H vs Q E W M h=>?_;ext(⟨a,us,ds,bs,rfl,t,r,m,L,B,q⟩:h);let S:=r.length;let V:=m.len;show{0,bI (lT ["each"] [] (Bj (wv 0)) (.of U) U (λ_ _ _=>{pg_name (i:=0) (bp (l:=["each"]) (()) U) U (m_ U)}) (aZ ()) (λ_ _ _=>lF) (λ_ _ _=>(aL u (aK 0)))),{01,a,1,{us,aq.of t},gi (λi ys H'=>ae H H'/\ys=(bs.take i).map bv) {ae.refl _,1} (λi ys H' _ p=>aq.of (p.1 _ _ t)) ?_ ?_}}
 .ext i ys v x y ⟨c,rfl⟩;ext(⟨d,D,z⟩:r.get y);ext(⟨b,j,R⟩:m.get D);let:=uh (Ν j);show ba {01,x,d,b,1,z.mono c,R,3,λG X=>{2,c.trans X,2}}
  .rw[ε,Ω,ι];omega
  .rw[ϛ,j,Ε];rfl
 .ext ys v ⟨c,rfl⟩ l g;rw[show us.length=bs.length by omega,Ϥ];show q _ l (c.trans (ac g _)) (by
   cases e:H l with
   |none=>rfl
   |some o=>rw[c l o e]at g;cases g) aa
def nF(F:Fun K "show_behind" "show_behind" iy f fd)(T:Txt K mg)(o:aS P w K mg base k "show_length" ["a"] qx)(p:aS P w K mg base k "show_kind" ["kind"] (iF 12))(m:aS P w K mg base k "show_expression" ["expression"] (uF n)):ap P w K mg base aY (k+1) f fd ["sort","given"] (Hq n):=by
 show F.okA (N:=["sort","given"]) λG A M s H vs Q E W L h=>?_;ext(⟨s,v,d,b,rfl,R,g,C,q⟩:h);show{0,bV (aU av (wv 0) aP) (aL o (aK 1)) (bV (aU av (wv 0) aP) (aL p (aK 1)) (bV (aU av (wv 0) aP) (aL m (aK 1)) (bI (wv 1)))),{01101,aj (λh=>?_) (λh=>?_)}}
 .cases(qk s).mp (Q7 h);ext(⟨c,ps,rfl,rfl,u⟩:g);show{01,v,c,ps,1,R,u.1.1,λj i=>?_};let:=q j i;unfold bv at this;rwa[du]at this
 let V:=λz=>h (Q9 ((qk s).mpr z));show{01101,aj (λh=>?_) (λh=>?_)}
 .cases(qB s).mp (Q7 h);ext(⟨k,rfl,rfl,X,B⟩:g);show{01,v,k,1,R,33,dc (λ_ _ h=>h.1.1) X,λj i=>?_};let:=q j i;unfold bv at this;rwa[iI]at this
 let I:=λz=>h (Q9 ((qB s).mpr z));show{01101,aj (λh=>?_) (λh=>?_)}
 .cases(yX s).mp (Q7 h);show{01,v,d,b,1,R,g,C,q}
 let D:=λz=>h (Q9 ((yX s).mpr z));let t:∃y,d=.str y/\b=.leaf y/\dD y=Y:=by
  cases s with
  |x=>show g
  |y=>show g
  |l=>show absurd U V
  |k=>show absurd U I
  |e=>show absurd U D
  |n=>show g.elim
  |w=>show g.elim
  |f=>show g.elim
  |a=>show g.elim
  |r=>show g.elim
 ext(⟨y,rfl,rfl,S⟩:t);obtain rfl:v=.str y:=R;let:=q H (ae.refl _);unfold bv at this;rw[du]at this;show{01,this}
end
def pM.get(h:pM R ss ds bs):∀{i:Nat}{s:So}{d:Dv},ss[i]?=Z s->ds[i]?=Z d->∃b,bs[i]?=Z b/\Ag R s d b:=by
 induction h with
 |nil=>intro i s d e;cases e
 |cons a _ f=>
  intro i s d e c;cases i with
  |zero=>cases e;cases c;show{01,a}
  |succ i=>show f e c
def BQ(h:JA x=Y):x≠"number"/\x≠"name"/\x≠"call"/\x≠"reckon"/\x≠"row":=by unfold JA at h;simp only[ψ,decide_eq_true_eq]at h;show h
def sy{x y:Str}(h:x≠y){α:Prop}(e:decide (V.str x=V.str y)=Y):α:=(h (V.str.inj (Q7 e))).elim
def zb{z:Str}{l:J}{bs:List Br}{H:Hp}{Q:V->Hp->Prop}{E:XK}(hl:H l=Z (.lst (bs.map bv)))(hz:dD z=Y)(h8:bs.length<=8)(lb:bl (.nd z bs)<=2600000)(q:Q (bv (.nd z bs)) H):ny [.str z,.ref l] H Q E:=by
 let h1:=uL z bs;let h2:=(aX hz).2;show{z,l,bs.map du,1,by rw[hl,ϗ];rfl,by change z.cps.size<=10;omega,22}
 .rw[ϗ,ε];change(bs.map bl).sum+_<=_;omega
 .let e:bv (.nd z bs)=.str (z++O "(" ++ Ϻ (O ", ") (bs.map du)++O ")"):=by
   unfold bv;rw[du,gW]
  rw[<-e];show q
section
variable{P:Θ}{w:Χ}{K:ζ}{mg:Str->Option θ}{base:ϖ}
def iT{f u4:J}{fd:ό}{k n:Nat}(F:Fun K "show_expression" "show_expression" fb f fd)(T:Txt K mg)(S:Shp P w K u4)(GS:mg "SHAPES"=Z (.ref u4))(M:aS P w K mg base k "in_brackets" ["word","texts"] ny)(W:aS P w K mg base k "show_all" ["expressions"] (Hb n))(b6:aS P w K mg base k "show_behind" ["sort","given"] (Hq n)):ap P w K mg base aY (k+1) f fd ["expression"] (uF (n+1)):=by
 show F.okA (N:=["expression","word"]) λe5 A e1 s H vs Q E hr nd h=>?_;ext(⟨v,d,b,rfl,R,wx,B,q⟩:h);ext(⟨e4,FS,hS,e2⟩:S.ex);show{0,aQ (aV 1 (bc 0)) (bV (aU av (wv 1) aP) (kZ dj T.str (ar (bc 0))) (bV (aU av (wv 1) aP) (bc 0) (bV (aU av (wv 1) aP) (aL M (ay (bc 0) (ar (aL W (ar (bc 0)))))) (bV (aU av (wv 1) aP) (aL M (ay (bc 0) (ar (aL W (ar (gp im (wv 0) (fG az) ib)))))) (bV (aU av (wv 1) aP) (aL M (ay aP (ar (aL W (ar (bc 0)))))) (bI (aL M (ay (wv 1) (ar (lT (["sort","given"]) [] (MD U T.zip (ay (Mt FS (vE (.ref u4) GS) (wv 1)) (ar (gp im (wv 0) (fG az) ib)))) (.of U) U (λ_ _ _=>{pg_tup U (pgs_cons (pg_name (i:=0) (bp (l:=["sort","given"]) (()) U) U (m_ U)) (pgs_cons (pg_name (i:=1) (bp (l:=["sort","given"]) (()) U) U (m_ U)) pgs_nil))}) (iP () ()) (λ_ _ _=>lF) (λ_ _ _=>(aL b6 (ay (wv 0) (aK 1)))))))))))))),2};rw[Wx]at wx;rcases wx with ⟨i,h0,G,rfl,rfl⟩|⟨y,hy,rfl,rfl⟩|⟨f,ds,bs,u1,hw,a3,u0,o,rfl,rfl⟩|⟨r,d1,d2,b1,b2,a3,w1,w2,rfl,rfl⟩|⟨ds,bs,l1,u0,o,rfl,rfl⟩|⟨p,ds,bs,hp,u1,o,fo,rfl,rfl⟩;all_goals ext(⟨a,vs,rfl,c,rs⟩:ah.tup_inv R)
 all_goals ext(⟨D,j,rfl,X,u⟩:cb rs)
 .obtain rfl:D=_:=X;ext(⟨x,rfl,rx⟩:eu u);obtain rfl:x=.int i:=rx;show{01,a,0,(0),011,aq.of c,ad U,2};show dm {01101,aj (λh=>?_) (λh=>absurd (Q9 U) h)};let:=ms h0 ();show{01,a,0,(1),.int i,11,aq.of c,ad U,i,1,this,by let:=q H (ae.refl _);unfold bv at this;rwa[du]at this}
 .obtain rfl:D=_:=X;ext(⟨x,rfl,rx⟩:eu u);obtain rfl:x=.str y:=rx;show{01,a,0,(0),011,aq.of c,ad U,2};show dm ?_;show{01101,aj (sy ()) (λ_=>?_)};show{01101,aj (λ_=>?_) (λh=>absurd (Q9 U) h)};show{01,a,0,(1),.str y,11,aq.of c,ad U,by let:=q H (ae.refl _);unfold bv at this;rwa[du]at this}
 .obtain rfl:D=_:=X;ext(⟨L,x2,rfl,I,r2⟩:Reps.two u);obtain rfl:L=.str f:=I;ext(⟨t,us,rfl,e,u2⟩:ah.tup_inv r2);show{01,a,0,(0),011,aq.of c,ad U,2};show dm ?_;show{01101,aj (sy ()) (λ_=>?_)};show{01101,aj (sy ()) (λ_=>?_)};show{01101,aj (λ_=>?_) (λh=>absurd (Q9 U) h)};let G:=uL f bs;show{01,a,0,(1),.str f,11,aq.of c,ad U,01,a,0,(2),.ref t,11,aq.of c,ad U,t,us,ds,bs,1,e,u2,o,u0,3,λS l m hn z=>zb z u1 (by rw[o.len];omega) B (q _ m)}
 .obtain rfl:D=_:=X;ext(⟨L,j,rfl,I,b9⟩:cb u);obtain rfl:L=.str r:=I;show{01,a,0,(0),011,aq.of c,ad U,2};show dm ?_;show{01101,aj (sy ()) (λ_=>?_)};show{01101,aj (sy ()) (λ_=>?_)};show{01101,aj (sy ()) (λ_=>?_)};show{01101,aj (λ_=>?_) (λh=>absurd (Q9 U) h)};let G:=uL r [b1,b2];show{01,a,0,(1),.str r,11,aq.of c,ad U,{01,(2),12}};dsimp only[cO];show io c λS t m e=>?_;let u3:db (V.str (O "reckon")::V.str r::j) (Z 2) χ=j:=cU (V.str (O "reckon")::V.str r::j) 2;rw[u3]at e;show{t,j,[d1,d2],[b1,b2],1,e,b9.mono m,.cons w1 (.cons w2 .nil),33,λH2 l C hn z=>zb z (lZ r (gF a3)).1 () B (q _ (m.trans C))}
 .obtain rfl:D=_:=X;ext(⟨L,rfl,I⟩:eu u);ext(⟨t,us,rfl,e,u2⟩:ah.tup_inv I);show{01,a,0,(0),011,aq.of c,ad U,2};show dm ?_;show{01101,aj (sy ()) (λ_=>?_)};show{01101,aj (sy ()) (λ_=>?_)};show{01101,aj (sy ()) (λ_=>?_)};show{01101,aj (sy ()) (λ_=>?_)};show{01101,aj (λ_=>?_) (λh=>absurd (Q9 U) h)};let G:=uL (O "row") bs;show{01,a,0,(1),.ref t,11,aq.of c,ad U,t,us,ds,bs,1,e,u2,o,u0,3,λS l m hn z=>zb z () (by rw[o.len];omega) B (q _ m)}
 .obtain rfl:D=_:=X;ext(⟨n1,n2,n3,n4,n5⟩:BQ u1);ext(⟨g,hg,a2⟩:hS p hp);let h5:=gk p hp;let G:=uL p.1 bs;ext(⟨lB,lD⟩:o.len);let e3:=u.length;show{01,a,0,(0),011,aq.of c,ad U,2};show dm ?_;show{01101,aj (sy n1) (λ_=>?_)};show{01101,aj (sy n2) (λ_=>?_)};show{01101,aj (sy n3) (λ_=>?_)};show{01101,aj (sy n4) (λ_=>?_)};show{01101,aj (sy n5) (λ_=>?_)};show{0101,p.1,g,11,hg,01,(1),12};dsimp only[cO];show io c λS t m e=>?_;let u3:db (V.str p.1::j) (Z 1) χ=j:=cU (V.str p.1::j) 1;rw[u3]at e;show{g,t,1,{0,a2 _},{0,aq.of e},zj (λi ys H'=>ae S H'/\ys=(bs.take i).map bv) {ae.refl _,1} (λi zs H' p=>{a2 _,aq.of (p.1 _ _ e)}) ?_ ?_}
  .ext i zs H2 x y p2 hx hy ⟨C,rfl⟩ b8;rw[ϐ]at hx;ext(⟨so,b7,rfl⟩:Ϣ.mp hx);ext(⟨d,hd,Ry⟩:u.get hy);ext(⟨b,hb,ag⟩:o.get b7 hd);let:=uh (Ν hb);let s3:=C.trans (ac b8 (.tup [.str (fH so),y]));show eM aa {0101,so,y,d,b,1,Ry.mono (m.trans s3),ag,3,λH4 s4=>{2,s3.trans s4,2}}
   .rw[ε,Ω,ι];omega
   .rw[ϛ,hb,Ε];rfl
  .ext zs H2 ⟨C,rfl⟩ l z;rw[show min (p.2.2.map λs=>V.str (fH s)).length j.length=bs.length by rw[ε];omega,Ϥ];show zb aa (CF p hp) () B (q _ (m.trans (C.trans (ac z _))))
end
abbrev je:ϯ:=bT 70
abbrev mJ:ϯ:=bT 73
abbrev qH:ϯ:=bT 74
abbrev gr:ϯ:=bT 75
section
variable{P:Θ}{w:Χ}{K:ζ}{mg:Str->Option θ}{base:ϖ}
end
def z3:3<=Μ:=by rw[ι];decide
def gs{a:St->Hp->Prop}{t u:TS}{D:cV}{i:Nat}{x:V}{σ:St}{H:Hp}(e:∀σ' H',iJ t u D σ' H'->a σ' H')(h:∀X:St->Hp->Prop,(∀σ' H',u D σ' H'->X σ' H')->t {D with nx:=X} (σ.set i (Z x)) H):dZ i x σ H a:=e _ _ (h _ λ_ _ z=>z)
def bC{c:TT}{t u:TS}{D:cV}{σ:St}{H:Hp}(h:∀d a:Hp->Prop,(∀H',t D σ H'->d H')->(∀H',u D σ H'->a H')->c σ H λb H1=>if b=Y then d H1 else a H1):Gy c t u D σ H:=h _ _ (λ_ z=>z) λ_ z=>z
section
variable{P:Θ}{w:Χ}{K:ζ}{mg:Str->Option θ}{base:ϖ}
end
abbrev lc:ϯ:=bT 66
abbrev gt:ϯ:=bT 79
abbrev ki:ϯ:=bT 80
def Ia:ae (nw H H') H':=λb o e=>by
 unfold nw at e;split at e
 .show e
 .cases e
inductive BR (W:Dv->Str->Prop) (vs:List V) (H:Hp) (Q:VK) (u3_:XK):Prop|mk (v:V) (x:Str) (d:Dv) (_:vs=[v]) (_:ah H d v) (_:W d x) (_:∀H',ae H H'->Q (.str x) H')
def KN(x:Str):Kb (.str x) "str"=Y:=by change("str" == "str" || "str" == "bool" && "str" == "int")=Y;decide +kernel
section
variable{P:Θ}{w:Χ}{K:ζ}{mg:Str->Option θ}{base:ϖ}
def nv:ci ["text","reader","is_one","shower","place","thing"] ["text","reader","is_one","shower","place"] (ax ki):=()
end
abbrev BF:ϯ:=bT 90
abbrev zi:ϯ:=bT 92
def Wk(K:ζ)(H:Hp)(a b:J)(c:List Int)(i m:Int):Prop:=H a=Z (.lst [.ref b,.int i,.int m])/\(∀H',ao a H H'->aw K H' b (c.map V.int))/\0<=i/\i<10^15
inductive BX (K:ζ) (vs:List V) (H:Hp) (Q:VK) (u3_:XK):Prop|mk (a sc:J) (ns:List Int) (i m:Int) (_:vs=[.ref a]) (_:Wk K H a sc ns i m) (_:ns.length<10^15) (_:∀(H':Hp)(r:J),ao a H H'->H' a=Z (.lst [.ref sc,.int (i+1),.int m])->H r=χ->gb H' r->Q (.ref r) H')
def FM:List (Str×Str):=([("number",""),("name",""),("length","L"),("if","eee"),("let","xee"),("pair","ee"),("first","e"),("second","e"),("none","K"),("join","ee"),("take","Le"),("drop","Le"),("zip","ee"),("turn","e"),("get","ee"),("place","LL"),("value","e"),("up","Le"),("wide","Le"),("mirror","e"),("fork","Lexee"),("when","eLxee"),("loop","xLe"),("fold","xLxee"),("reckon","ee"),("reckon","ee"),("row","e"),("row","ee"),("row","eee"),("row","eeee"),("call",""),("call","e"),("call","ee"),("call","eee"),("call","eeee")]:List (String×String)).map λp=>(O p.1,O p.2)
def JX(p:Str×Str):Dv:=.tup [.str p.1,.str p.2]
def zy:Sp:=λvs H Q _=>vs=[]/\∀(H':Hp)(l:J)(us:List V),ae H H'->H l=χ->H' l=Z (.lst us)->Reps H' (FM.map JX) us->Q (.ref l) H'
def WS:Str:=O "number: name: length:L if:eee let:xee pair:ee first:e second:e none:K join:ee take:Le drop:Le" ++ O " zip:ee turn:e get:ee place:LL value:e up:Le wide:Le mirror:e fork:Lexee when:eLxee" ++ O " loop:xLe fold:xLxee reckon:ee reckon:ee row:e row:ee row:eee row:eeee" ++ O " call: call:e call:ee call:eee call:eeee"
def Hn(p:Str×Str):Str:=p.1++O ":" ++ p.2
def uC:Txt.split WS (O " ")=FM.map Hn:=()
def Cm:∀p∈FM,Txt.split (Hn p) (O ":")=[p.1,p.2]/\(Hn p).length<=100:=()
def Io:WS.length<=300:=()
section
variable{P:Θ}{w:Χ}{K:ζ}{mg:Str->Option θ}{base:ϖ}
def Fm(F:Fun K "_law_next" "_law_next" BF f fd)(T:Txt K mg)(o:aS P w K mg base k "_law_state" ["_law_script","_law_k"] (ma K)):ap P w K mg base aY (k+1) f fd ["_law_walk"] (BX K):=by
 show F.okA (N:=["_law_walk","_law_at"]) λy A x s H vs Q E b X h=>?_;ext(⟨a,c,v,i,m,rfl,⟨n,u,t,R⟩,D,q⟩:h);show{0,aQ (aV 1 (eh aF (wv 0) az)) (aQ (Bn (bh bj (wv 1) az) (MV (wv 0) az oK)) (bV (aU jE (wv 1) (eh aF (wv 0) az)) (aL o (ay (eh aF (wv 0) az) (aK 1))) (bI (fu (ay (bh bj (bh bj (bh jR az (wv 1)) (cn am T.len (ar (eh aF (wv 0) az)))) az) (ar gA)))))),{01,a,0,(1),.int i,11,aw.of n,ad U,2}};show dm {01001101,a,0,(1),(1),11,n,12};let e:=ao.upd H a (.lst [.ref c,.int (i+1),.int m]);let d:upd H a (.lst [.ref c,.int (i+1),.int m]) a=Z (.lst [.ref c,.int (i+1),.int m]):=aa;let g:=u _ e;let j:∀r,upd H a (.lst [.ref c,.int (i+1),.int m]) r=χ->H r=χ:=λr b=>by
  let:r≠a:=λz=>by rw[z,aa]at b;cases b
  rwa[ai this]at b
 show{0101,a,0,(2),.int m,11,aw.of d,ad U,001101,aj (λ_=>?_) (λ_=>?_)}
 .show{01,a,0,(0),.ref c,11,aw.of d,ad U,01,c,v,i,1,g,t,λp r l b st=>q p r (e.trans (ae.b a l)) (l _ _ d) (j r b) st}
 .show{010011,.inl {33},01,a,0,(0),.ref c,11,aw.of d,ad U,c,01,.inl g,00110011,z2,λr b=>q _ r (e.trans (ae.b a (ac b _))) (ac b _ _ _ d) (j r b) {00,aa}}
def Cf(F:Fun K "_law_forms" "_law_forms" zi f fd)(T:Txt K mg):ap P w K mg base aY 1 f fd [] zy:=by
 show F.okA (N:=["_law_words"]) λcdv A outer s H vs Q E hr nd h=>?_;ext(⟨rfl,q⟩:h);show{0,aQ (aV 0 aP) (aQ (aV 0 (bh ak (wv 0) aP)) (aQ (aV 0 (bh ak (wv 0) aP)) (aQ (aV 0 (bh ak (wv 0) aP)) (bI (lT ["_law_word"] [] (vC (fv Ρ r6 r9 eU (wv 0) (ar aP))) (.of U) U (λ_ _ _=>{pg_name (i:=0) (bp (l:=["_law_word"]) (()) U) U (m_ U)}) (aZ ()) (λ_ _ _=>lF) (λ_ _ _=>(kZ (Be K U) T.tuple (ar {ID K U Ρ r6 r9 eU (pv 0) (pa_cons pe_str pa_nil)})))))))),2};let len2:∀{m:Nat},m<=1000->m<=Μ:=λh=>by rw[ι];omega
 show dm ?_;show{010011,len2 (),2};show dm ?_;show{010011,len2 (),2};show dm ?_;show{010011,len2 (),2};show dm ?_;let wl:=Io;show{011,WS,O " ",113,len2 (),len2 (by rw[uC];decide +kernel),λl hl=>?_};rw[uC];let s1:=ac hl (.lst ((FM.map Hn).map V.str));let h1:upd H l (.lst ((FM.map Hn).map V.str)) l=Z (.lst ((FM.map Hn).map V.str)):=aa;generalize upd H l (.lst ((FM.map Hn).map V.str))=H1 at s1 h1⊢;show{l,1,{0,aw.of h1},eq (λi ys H'=>ae H1 H'/\Reps H' ((FM.take i).map JX) ys) {ae.refl _,by simp[Reps]} (λi ys H' _ p=>aw.of (p.1 _ _ h1)) ?_ ?_}
 .ext i ys H3 x hx ⟨s3,R3⟩;rw[ϗ,ϐ]at hx;ext(⟨p,hp,rfl⟩:Ϣ.mp hx);ext(⟨e1,e2⟩:Cm p (Ν hp));let h35:FM.length=35:=();show ba {011,Hn p,O ":",113,len2 (),len2 (by rw[e1];simp),λr hr'=>?_};rw[e1];let s4:=ac hr' (.lst ([p.1,p.2].map V.str));show{r,01,.inl {aw.of aa,λt ht=>{2,s3.trans (s4.trans (ac ht _)),2}}}
  .rw[R3.length,ε,Ω];show len2 ()
  .rw[ϛ,hp,Ε];show Reps.append (R3.mono (s4.trans (ac ht (.tup ([p.1,p.2].map V.str))))) (aO ?_);change ah _ (.tup [.str p.1,.str p.2]) _;rw[ah];show{t,01,aa,by simp only[Reps,Υ,ϴ];show{001300131}}
 .ext ys H3 ⟨s3,R3⟩ r hr';rw[ε,ε,Ϥ]at R3;let s4:=ac hr' (.lst ys);show q _ r ys (s1.trans (s3.trans s4)) (by
   cases e:H r with
   |none=>rfl
   |some o=>rw[s3 r o (s1 r o e)]at hr';cases hr') aa (R3.mono s4)
end
abbrev zF:ϯ:=bT 93
def DD{xs:List Str}{c:Int}{ps:List Pr}(h:Ln xs 99 c ps)(hn:∀x∈xs,dD x=Y):Sm c ps:=by let n1:∀p∈ps,dD p.1=Y:=λp hp=>hn _ (h.nm p hp).1;show{{{h.can,h.c0,by let:=h.cB;omega,by let:=h.len;omega,ϩ (FH h.can h.c0 (by let:=h.cB;omega) (λp hp=>{by let:=(h.nm p hp).2;omega,(aX (n1 p hp)).2}) (by let:=h.len;omega)) (),λp hp=>{by let:=(h.nm p hp).2;omega,(aX (n1 p hp)).2}},n1},Jx h.c0 h.cB h.can (by let:=h.len;omega) λp hp=>{n1 p hp,(h.nm p hp).2}}
structure Wo(H:Hp)(g r1 r2:J)(xs ys:List Str):Prop where
 hg:H g=Z (.tup [.ref r1,.ref r2])
 h1:H r1=Z (.lst (xs.map V.str))
 h2:H r2=Z (.lst (ys.map V.str))
 l1:xs.length=12
 nd:xs.Nodup
 n1:∀x∈xs,dD x=Y
 l2:1<=ys.length/\ys.length<=5
 n2:∀y∈ys,dD y=Y/\cZ y=Α/\dz y=Α
def Wo.ne(w:Wo H g r1 r2 xs ys)(h:gb H a):g≠a/\r1≠a/\r2≠a:=by
 ext(⟨n,b,e⟩:h);show{λz=>?_,λz=>?_,λz=>?_}
 .let:=w.hg;rw[z,e]at this;cases this
 .let c:=w.h1;rw[z,e]at c;injection c with c;injection c with c;cases xs with
  |nil=>cases w.l1
  |cons x xs=>injection c with c;cases c
 .let d:=w.h2;let f:=w.l2.1;rw[z,e]at d;injection d with d;injection d with d;cases ys with
  |nil=>simp at f
  |cons x xs=>injection d with d;cases d
def Wo.b(w:Wo H g r1 r2 xs ys)(n:g≠a/\r1≠a/\r2≠a)(s:ao a H H'):Wo H' g r1 r2 xs ys:=
 {s _ _ n.1 w.hg,s _ _ n.2.1 w.h1,s _ _ n.2.2 w.h2,w.l1,w.nd,w.n1,w.l2,w.n2}
def lt:So->Str
 |.e=>"e"
 |.l=>"L"
 |.k=>"K"
 |_=>"x"
inductive xI (vs:List V) (H:Hp) (Q:VK) (u3_:XK):Prop|mk (s:So) (a g r1 r2:J) (xs ys:List Str) (_:vs=[.str (lt s),.ref a,.ref g]) (_:(s=.l\/s=.k\/s=.x\/s=.y)) (_:gb H a) (_:Wo H g r1 r2 xs ys) (_:∀(H':Hp)(v:V)(d:Dv)(b:Br),ao a H H'->gb H' a->ah H' (.tup [d,.str (du b)]) v->(∀R,Ag R s d b)->bl b<=30000->((s=.x\/s=.y)->∃y∈xs,d=.str y/\b=.leaf y)->Q v H')
def jp(xs:List V)(n:Nat):db xs χ (Z (n:Int))=xs.take n:=by
 unfold db;let b:HT.sIx xs.length xs.length (Z (n:Int))=min n xs.length:=HT.sIx_nat _ _ _;let a:HT.sIx xs.length 0 χ=0:=U;rw[b,a,PN,Nat.sub_zero];rcases Nat.le_total n xs.length with h|h
 .rw[O8 h]
 .rw[Nat.min_eq_right h,Ϥ,C4 h]
def Eo(xs:List Str):db (xs.map V.str) χ (Z 4)=(xs.take 4).map V.str:=by rw[List.map_take];show jp _ 4
section
variable{P:Θ}{w:Χ}{K:ζ}{mg:Str->Option θ}{base:ϖ}
def CL(F:Fun K "_law_inner" "_law_inner" zF f fd)(T:Txt K mg)(a1:aS P w K mg base k "_law_draw" ["_law_state_here","_law_many"] dY)(a0:aS P w K mg base k "_law_length" ["_law_state_here","_law_names_here","_law_most"] oq)(u0:aS P w K mg base k "_law_length_text" ["_law_length_here"] qx)(a2:aS P w K mg base k "_law_kind" ["_law_state_here","_law_names_here","_law_room"] (nX 12))(u1:aS P w K mg base k "_law_kind_text" ["_law_kind_here"] (iF 12)):ap P w K mg base aY (k+1) f fd ["_law_letter","_law_node","_law_world_here"] xI:=by
 show F.okA (N:=["_law_letter","_law_node","_law_world_here","_law_length_here","_law_kind_here","_law_name"]) λb2 A b1 s H vs Q E hr nd h=>?_;ext(⟨s,a,g,n,r2,xs,ys,rfl,hs,st,d,q⟩:h);ext(⟨ng,n1,n2⟩:d.ne st);show{0,kW (aU av (wv 0) aP) (aQ (aV 3 (aL a0 (ay (wv 1) (ay (gp dG (bc 2) ib (fG az)) (ar az))))) (bI (cy (ay (wv 3) (ar (aL u0 (aK 3))))))) (kW (aU av (wv 0) aP) (aQ (aV 4 (aL a2 (ay (wv 1) (ay (gp dG (bc 2) ib (fG az)) (ar az))))) (bI (cy (ay (wv 4) (ar (aL u1 (aK 4))))))) (aQ (aV 5 (eh aF (bc 2) (aL a1 (ay (wv 1) (ar az))))) (bI (cy (ay (wv 5) (aK 5)))))),2};let u3:∀x∈xs.take 4,dD x=Y:=λx I=>d.n1 x (y8 I);let L:∀{l:J},H l=χ->ao a H (upd H l (.lst ((xs.take 4).map V.str)))/\gb (upd H l (.lst ((xs.take 4).map V.str))) a/\l≠a/\upd H l (.lst ((xs.take 4).map V.str)) l=Z (.lst ((xs.take 4).map V.str)):=λ{l} m=>by let p:=ac m (.lst ((xs.take 4).map V.str));show{ae.b a p,st.m p,(λz=>by ext(⟨_,_,e⟩:st);rw[z,e]at m;cases m),aa}
 show{011012};rcases hs with rfl|rfl|I
 .show aj (λ_=>?_) (λh=>absurd (Q9 U) h);show{0101,g,0,(0),.ref n,11,aq.of d.hg,ad U,2};dsimp only[cO];show{(4),1,n,01,aw.of d.h1,λl m=>?_};rw[Eo];ext(⟨p,C,G,M⟩:L m);show{a,l,(99),xs.take 4,1,C,M,G,by rw[Ω];omega,33,λu2 v c ps r u D ln=>?_};let o:=DD ln u3;show dm {0101,v,c,ps,1,D,o.1.1,λH3 j=>{z2,λt X=>?_}};let b:=ac X (.tup [v,.str (fZ c ps)]);let ll:=eP o.1.1;show q _ _ (cw c ps) (.leaf (fZ c ps)) (p.trans (r.trans (ae.b a (j.trans b)))) (u.m (j.trans b)) ?_ (λR=>{c,ps,11,o}) (by unfold bl;rw[du];omega) (λz=>by rcases z with z|z<;>cases z);rw[du,ah];show{t,01,aa,by simp only[Reps];show{001,D.mono (j.trans b),00131}}
 .show aj (λh=>absurd h ()) (λ_=>{01101,aj (λ_=>?_) (λh=>absurd (Q9 U) h)});show{0101,g,0,(0),.ref n,11,aq.of d.hg,ad U,2};dsimp only[cO];show{(4),1,n,01,aw.of d.h1,λl m=>?_};rw[Eo];ext(⟨p,C,G,M⟩:L m);show{a,l,(6),xs.take 4,1333,C,M,G,by rw[Ω];omega,λu2 v k r u D kA k6=>?_};let o:=dc (λ_ _ h=>DD h u3) kA;let W:=dc (λ_ _ h=>h.1.1) o;show dm {0101,v,k,1,D,33,W,λH3 j=>{z2,λt X=>?_}};let b:=ac X (.tup [v,.str (iW k)]);let ll:=cg W;show q _ _ k.dv (oS k) (p.trans (r.trans (ae.b a (j.trans b)))) (u.m (j.trans b)) ?_ (λR=>{k,11,o,3}) (by unfold bl;rw[iI];omega) (λz=>by rcases z with z|z<;>cases z);rw[iI,ah];show{t,01,aa,by simp only[Reps];show{001,D.mono (j.trans b),00131}}
 .let el:lt s=O "x":=by rcases I with rfl|rfl<;>rfl
  rw[el];show aj (λh=>absurd h ()) (λ_=>{01101,aj (λh=>absurd h ()) (λ_=>?_)});show{01,g,0,(0),.ref n,11,aq.of d.hg,ad U,01,a,(12),1,st,33,λu2 i r u i0 i1=>?_};obtain⟨y,S,he⟩:∃y,y∈xs/\jX (xs.map V.str) i=Z (.str y):=by
   let u4:i.toNat<xs.length:=by rw[d.l1];omega
   show{xs[i.toNat],k_ u4,2};let e:=ad (xs:=xs.map V.str) (by rw[ϐ,Δ u4];rfl);rwa[show((i.toNat:Nat):Int)=i by omega]at e
  show{n,0,i,.str y,11,aw.of (r _ _ n1 d.h1),he,dm ?_};show{0101,z2,λt X=>?_};let B:=d.n1 y S;let b:=ac X (.tup [.str y,.str y]);show q _ _ (.str y) (.leaf y) (r.trans (ae.b a b)) (u.m b) ?_ (λR=>by rcases I with rfl|rfl<;>show⟨y,rfl,rfl,B⟩) (by unfold bl;rw[du];let:=(aX B).2;change y.cps.size<=_;omega) (λ_=>{y,S,11});rw[du,ah];show{t,01,aa,by simp only[Reps];show{001300131}}
end
abbrev zx:ϯ:=bT 94
def HM(e:15<=m)(a:∀d b,R d b->L2.Pl m d):∀{s:So}{d:Dv}{b:Br},Ag R s d b->L2.Pl m d
 |.e,_,_,h=>a _ _ h
 |.l,_,_,h=>by ext(⟨c,ps,rfl,_,_⟩:h);show(sY c ps).up ()
 |.k,_,_,h=>by ext(⟨k,rfl,_,_,f⟩:h);show k.pl.up ()
 |.x,_,_,h=>by ext(⟨y,rfl,_,_⟩:h);show .str
 |.y,_,_,h=>by ext(⟨y,rfl,_,_⟩:h);show .str
def vI(f:15<=m)(g:∀d b,R d b->L2.Pl m d)(h:pM R ss ds bs):∀d∈ds,L2.Pl m d:=by
 induction h with
 |nil=>show nofun
 |cons a _ e=>
  intro d c;rcases ν.mp c with rfl|c
  .show HM f g a
  .show e d c
def ik(h:∀d∈ds,L2.Pl m d):L2.Pl (m+1) (.tup (.str x::ds)):=.tup λd a=>by
 rcases ν.mp a with rfl|a
 .show .str
 .show h d a
def oj:∀{n:Nat}{d:Dv}{b:Br},Wx n d b->L2.Pl (2*n+15) d
 |n+1,d,b,h=>by
  let e:∀d b,Wx n d b->L2.Pl (2*n+15) d:=λd b h=>oj h;rw[Wx]at h;rcases h with ⟨i,t,H,rfl,rfl⟩|⟨y,s,rfl,rfl⟩|⟨f,ds,bs,u,m,l,k,c,rfl,rfl⟩|⟨r,d1,d2,o,x,l,j,g,rfl,rfl⟩|⟨ds,bs,v,k,c,rfl,rfl⟩|⟨p,ds,bs,z,_,c,q,rfl,rfl⟩
  .show ik λd a=>by rw[ξ.mp a];show .int
  .show ik λd a=>by rw[ξ.mp a];show .str
  .show ik λd a=>by
    rcases ν.mp a with rfl|a
    .show .str
    .rw[ξ.mp a];show .tup λd a=>by ext(⟨b,_,r⟩:c.mem.1 d a);show e d b r
  .show ik λd a=>by
    rcases ν.mp a with rfl|a
    .show .str
    .rcases ν.mp a with rfl|a
     .show(e _ _ j).up ()
     .rw[ξ.mp a];show(e _ _ g).up ()
  .show ik λd a=>by rw[ξ.mp a];show .tup λd a=>by ext(⟨b,_,r⟩:c.mem.1 d a);show e d b r
  .show ik λd a=>(vI () e c d a).up ()
def Lo(b:0<=i)(a:i<5):∃r:Str,dz r=Y/\jX ([V.str (O "plus"),V.str (O "minus"),V.str (O "times"),V.str (O "less"),V.str (O "same")]:List V) i=Z (.str r):=by
 let e:i=0\/i=1\/i=2\/i=3\/i=4:=();rcases e with rfl|rfl|rfl|rfl|rfl
 .show{03,ad U}
 .show{03,ad U}
 .show{03,ad U}
 .show{03,ad U}
 .show{03,ad U}
def JK(R:Dv->Br->Prop)(xs:List Str)(w:Str)(ds:List Dv)(bs:List Br)(a:List Dv):Prop:=
 (w="reckon"/\pX R ds bs/\ds.length=2/\a=ds)\/(w="row"/\pX R ds bs/\1<=ds.length/\ds.length<=4/\a=ds)\/(w="call"/\pX R ds bs/\ds.length<=4/\a=ds) \/
 (∃p∈WT,w=p.1/\JA p.1=Y/\pM R p.2.2 ds bs/\a=bA p.2.2 ds/\∀y,ds[0]?=Z (.str y)->y∈xs)
def Kr(h:JK (Wx n) xs w ds bs sub):∀d∈ds,L2.Pl (2*n+15) d:=by
 let c:∀d b,Wx n d b->L2.Pl (2*n+15) d:=λd b h=>oj h;let a:pX (Wx n) ds bs->∀d∈ds,L2.Pl (2*n+15) d:=λf d e=>by ext(⟨b,_,r⟩:f.mem.1 d e);show c d b r
 rcases h with ⟨_,h,_⟩|⟨_,h,_⟩|⟨_,h,_⟩|⟨p,_,_,_,h,_⟩
 .show a h
 .show a h
 .show a h
 .show vI () c h
inductive ya (vs:List V) (H:Hp) (Q:VK) (u3_:XK):Prop|mk (n:Nat) (w:Str) (lp lt a g r1 r2:J) (us:List V) (ds sub:List Dv) (bs:List Br) (xs ys:List Str) (_:vs=[.str w,.ref lp,.ref lt,.ref a,.ref g]) (_:H lp=Z (.lst us)) (_:Reps H ds us) (_:H lt=Z (.lst (bs.map bv))) (_:lp≠a) (_:lt≠a) (_:gb H a) (_:Wo H g r1 r2 xs ys) (_:JK (Wx n) xs w ds bs sub) (_:(bs.map bl).sum<=2700000) (_:∀(H':Hp)(v:V)(d:Dv)(b:Br),ao a H H'->gb H' a->ah H' (.tup [d,.str (du b)]) v->Wx (n+1) d b->cY (n+1) d=1+(sub.map (cY n)).sum->Q v H')
def zz(h:∀X:St->Hp->Prop,(∀σ' H',u D σ' H'->X σ' H')->t {D with nx:=X} σ H):iJ t u D σ H:=h _ λ_ _ z=>z
def MX(h:∀b a e d c f:St->Hp->Prop,(∀σ H,r D σ H->f σ H)->(∀σ H,i4 {D with nx:=f} σ H->c σ H)->(∀σ H,k {D with nx:=c} σ H->d σ H)->(∀σ H,i {D with nx:=d} σ H->e σ H)->(∀σ H,l {D with nx:=e} σ H->a σ H)->(∀σ H,g {D with nx:=a} σ H->b σ H)->j {D with nx:=b} σ H):
  iJ j (iJ g (iJ l (iJ i (iJ k (iJ i4 r))))) D σ H:=h _ _ _ _ _ _ (λ_ _ z=>z) (λ_ _ z=>z) (λ_ _ z=>z) (λ_ _ z=>z) (λ_ _ z=>z) λ_ _ z=>z
def rV(h:tt ((eQ k ix σ).set i (Z x)) H λc a=>if c=Y then te ((eQ k ix σ).set i (Z x)) a λy b=>ys.length<Μ/\N (ys++[y]) b else N ys a):
  eF k ix (dZ i) tt te σ x ys H N:=h
def Ey{xs:List Str}{y:Str}(a:xs.Nodup)(h:y∈xs):(xs.filter λz=>decide (z≠y)).length+1=xs.length:=by
 induction xs with
 |nil=>cases h
 |cons x xs b=>
  rw[u_]at a;by_cases e:x=y
  .subst e;rw[List.filter_cons_of_neg (),Λ];let:xs.filter (λz=>decide (z≠x))=xs:=List.filter_eq_self.mpr λz c=>Q9 λq=>a.1 (q▸c);rw[this]
  .rw[List.filter_cons_of_pos (↑e),Λ,Λ];let:=b a.2 ((ν.mp h).resolve_left (λq=>e q.symm));omega
section
variable{P:Θ}{w:Χ}{K:ζ}{mg:Str->Option θ}{base:ϖ}
def CC{f:J}{fd:ό}{k:Nat}(F:Fun K "_law_whole" "_law_whole" zx f fd)(T:Txt K mg)(D_law_draw:aS P w K mg base k "_law_draw" ["_law_state_here","_law_many"] dY):ap P w K mg base aY (k+1) f fd ["_law_word","_law_parts","_law_texts","_law_node","_law_world_here"] ya:=by
 show F.okA (N:=["_law_word","_law_parts","_law_texts","_law_node","_law_world_here","_law_told","_law_one","_law_other"]) λcdv A outer s H vs Q E hr nd h=>?_;ext(⟨n,w,lp,lt,a,g,r1,r2,us,ds,sub,bs,xs,ys,rfl,hlp,ru,hlt,nlp,zp,st,wo,fm,lb,q⟩:h);show{0,aQ (aV 5 (wv 0)) (aQ (aV 6 (bh hJ (cy (aK 0)) (kZ aH T.tuple (aK 1)))) (kW (aU av (wv 0) aP) (aQ (aV 5 (eh aF (fu (ay aP (ay aP (ay aP (ay aP (ar aP)))))) (aL D_law_draw (ay (wv 3) (ar az))))) (cX (aV 6 (bh hJ (cy (ay (wv 0) (aK 5))) (kZ aH T.tuple (aK 1)))))) (kW (aU av (wv 0) aP) (cX (aV 6 (cy (ay (wv 0) (ar (kZ aH T.tuple (aK 1))))))) (kW (aU av (wv 0) aP) (aQ (aV 5 (eh aF (bc 4) (aL D_law_draw (ay (wv 3) (ar (cn am T.len (ar (bc 4)))))))) (cX (aV 6 (cy (ay (wv 0) (ay (wv 5) (ar (kZ aH T.tuple (aK 1))))))))) (kW (iz (Bl (aU av (wv 0) aP) (Bk (aU av (eh aF (wv 1) az) (eh aF (wv 1) az))))) (aQ (aV 7 (eh aF (lT ["_law_name"] [1] (vC (bc 4)) (.of U) U (λ_ _ _=>{pg_name (i:=0) (bp (l:=["_law_name","_law_parts"]) (()) U) U (m_ U)}) (aZ ()) (λ_ _ _=>{zI (pt_cmpR eV (pv 0) (pe_ix (uD K U) (pv 1) pe_int (λ_ _=>U)) (DU _))}) (λ_ _ _=>(wv 0))) (aL D_law_draw (ay (wv 3) (ar az))))) (aQ (aV 6 (bh hJ (bh hJ (gp im (wv 6) ib (fG az)) (cy (aK 7))) (gp im (wv 6) (fG az) ib))) (cX (aV 2 (bh iQ (bh iQ (gp dG (wv 2) ib (fG az)) (fu (aK 7))) (gp dG (wv 2) (fG az) ib)))))) (bI (cy (ay (wv 6) (ar (bh ak (bh ak (bh ak (wv 5) aP) (fv Ρ d_ e_ dH aP (aK 2))) aP)))))))))),2};let lu:=ru.length;let l8:ds.length<=8:=by
  rcases fm with ⟨_,_,h,_⟩|⟨_,_,_,h,_⟩|⟨_,_,h,_⟩|⟨p,hp,_,_,h,_⟩
  .omega
  .omega
  .omega
  .let:=gk p hp;rw[h.len.2];omega
 dsimp only[be,Cx.nox];show MX λY1 Y2 Y3 Y4 Y5 Y6 h7 h6 h5 h4 h3 h2=>{01,dm (h2 _ _ ?_)};let fin:∀(H3:Hp)(z:Str)(l:J)(o7:Option V)(bs':List Br)(d:Dv)(v:V),ao a H H3->gb H3 a->ah H3 d v->H3 l=Z (.lst (bs'.map bv))->dD z=Y->(bs'.map bl).sum<=2700008->bs'.length<=8->Wx (n+1) d (.nd z bs')->cY (n+1) d=1+(sub.map (cY n)).sum->Y6 [Z (.str w),Z (.ref lp),Z (.ref l),Z (.ref a),Z (.ref g),Z (.str z),Z v,o7] H3:=λH3 z l o7 bs' d v s3 st3 R3 hl nz lb' l8' wx ex=>by let lj:=dN (O ", ") (bs'.map du);rw[iq,ε,ϗ]at lj;let eb:((bs'.map ((λx:Str=>x.length)∘du)).sum)=(bs'.map bl).sum:=U;rw[eb]at lj;let lw:z.length<=8:=(aX nz).2;show h7 _ _ {01010011,by rw[ι,Ao];omega,1010,l,bs'.map du,11,aw.of (by rw[hl,ϗ];rfl),by rw[ϗ,ε,iq,eb];omega,2};rw[tj];show{0011,by rw[ι,υ,Ao];omega,0011,by rw[ι,υ,υ,Ao,yY];omega,z2,λm hm=>?_};let s4:=ac hm (.tup [v,.str (z++O "(" ++ Ϻ (O ", ") (bs'.map du)++O ")")]);show q _ _ d (.nd z bs') (s3.trans (ae.b a s4)) (st3.m s4) ?_ wx ex;rw[du,gW,ah];show{m,01,aa,by simp only[Reps];show{001,R3.mono s4,00131}}
 let p4:∀{τ:St}{H3:Hp},w≠O "fold"->Y6 (Z (.str w)::τ) H3->Y5 (Z (.str w)::τ) H3:=λne y=>h6 _ _ {01101,aj (sy ne) (λ_=>aD (dR y))};let p3:∀{τ:St}{H3:Hp},w≠O "call"->Y5 (Z (.str w)::τ) H3->Y4 (Z (.str w)::τ) H3:=λne y=>h5 _ _ {01101,aj (sy ne) (λ_=>dR y)};let p2:∀{τ:St}{H3:Hp},w≠O "row"->Y4 (Z (.str w)::τ) H3->Y3 (Z (.str w)::τ) H3:=λne y=>h4 _ _ {01101,aj (sy ne) (λ_=>dR y)};let p1:∀{τ:St}{H3:Hp},w≠O "reckon"->Y3 (Z (.str w)::τ) H3->Y2 (Z (.str w)::τ) H3:=λne y=>h3 _ _ {01101,aj (sy ne) (λ_=>dR y)};let key:∀(H2:Hp)(t:J),ae H H2->H2 t=Z (.tup (.str w::us))->Y2 [Z (.str w),Z (.ref lp),Z (.ref lt),Z (.ref a),Z (.ref g),Z (.str w),Z (.ref t),χ] H2:=λH2 t s2 ht=>by
  let ruB:∀{H3:Hp},ao a H H3->Reps H3 ds us:=λ{H3} s3=>bH (λd hd v r=>bD (st.tups s3) (Kr fm d hd) r) ru;rcases fm with ⟨rfl,al,l2,rfl⟩|⟨rfl,al,l1,l4,rfl⟩|⟨rfl,al,l4,rfl⟩|⟨pw,hpw,rfl,hf,ag,rfl,hx⟩
  .show h3 _ _ {01101,aj (λ_=>zz λX hX=>?_) (λh=>absurd (Q9 U) h)};show{by rw[ι];decide,λl5 hl5=>?_};let s3:=ac hl5 (.lst [.str (O "plus"),.str (O "minus"),.str (O "times"),.str (O "less"),.str (O "same")]);let h5:upd H2 l5 (.lst [.str (O "plus"),.str (O "minus"),.str (O "times"),.str (O "less"),.str (O "same")]) l5=Z _:=aa;let s23:=s2.trans s3;let l5a:l5≠a:=λz=>by ext(⟨_,_,e⟩:st);rw[z,s2 _ _ e]at hl5;cases hl5
   generalize upd H2 l5 (.lst [.str (O "plus"),.str (O "minus"),.str (O "times"),.str (O "less"),.str (O "same")])=H3 at s23 h5⊢;show{01,a,(5),1,st.m s23,33,λH4 i s4 st4 i0 i1=>?_};ext(⟨r,hr',hat⟩:Lo i0 i1);show{l5,0,i,.str r,11,aw.of (s4 _ _ l5a h5),hat,dm (hX _ _ ?_)};let s04:ao a H H4:=(ae.b a s23).trans s4;let nr:=(lZ r (gF hr')).1;show{0101,z2,λt5 ht5=>?_};let s5:=ac ht5 (.tup [.str (O "reckon"),.str r]);show{01,lp,01,.inl {aw.of (s5 _ _ (s04 _ _ nlp hlp)),λt6 ht6=>?_}};let s6:=ac ht6 (.tup us);let h56:=s6 _ _ (aa (H:=H4) (a:=t5) (o:=.tup [.str (O "reckon"),.str r]));show{t5,t6,0011,aq.of h56,aq.of aa,by rw[ι];simp;omega,nofun,(λe=>by let:=congrArg H_ e;rw[lu,l2]at this;cases this),λp hp=>?_};let s7:=ac hp (.tup ([V.str (O "reckon"),V.str r]++us));let s47:=s5.trans (s6.trans s7);let s07:ao a H _:=s04.trans (ae.b a s47);obtain⟨d1,d2,rfl⟩:∃d1 d2,sub=[d1,d2]:=by
    match sub,l2 with
    |[d1,d2],_=>show{d1,d2,1}
   obtain⟨b1,b2,w1,w2,rfl⟩:∃b1 b2,Wx n d1 b1/\Wx n d2 b2/\bs=[b1,b2]:=by
    cases al with
    |cons a1 al=>
     cases al with
     |cons a2 al=>cases al;show{00,a1,a2,1}
   let ru7:Reps (upd (upd (upd H4 t5 (.tup [.str (O "reckon"),.str r])) t6 (.tup us)) p (.tup ([V.str (O "reckon"),V.str r]++us))) [d1,d2] us:=ruB s07;let R7:ah (upd (upd (upd H4 t5 (.tup [.str (O "reckon"),.str r])) t6 (.tup us)) p (.tup ([V.str (O "reckon"),V.str r]++us))) (.tup [.str (O "reckon"),.str r,d1,d2]) (.ref p):=by rw[ah];show{p,01,aa,Reps.append (ds:=[.str (O "reckon"),.str r]) ?_ ru7};simp only[Reps];show{001300131}
   let st7:=st4.m s47;generalize upd (upd (upd H4 t5 (.tup [.str (O "reckon"),.str r])) t6 (.tup us)) p (.tup ([V.str (O "reckon"),V.str r]++us))=H7 at s07 R7 st7⊢;let wx:Wx (n+1) (.tup [.str (O "reckon"),.str r,d1,d2]) (.nd r [b1,b2]):=by rw[Wx];show .inr (.inr (.inr (.inl {r,d1,d2,b1,b2,hr',w1,w2,11})))
   let ex:=gu (n:=n) (p:=kX) pH.2.1 (ds:=[.str r,d1,d2]) (cH wx).1;let hlt7:=s07 _ _ zp hlt;show dm (p2 () (p3 () (p4 () (fin _ _ _ _ _ _ _ s07 st7 R7 hlt7 nr () (by change 2<=8;decide) wx ex))))
  .show p1 () (h4 _ _ {01101,aj (λ_=>?_) (λh=>absurd (Q9 U) h)});show{0101,lp,01,.inl {aw.of (s2 _ _ hlp),λt3 ht3=>{z2,λt4 ht4=>?_}}};let s3:=ac ht3 (.tup us);let s4:=ac ht4 (.tup [.str (O "row"),.ref t3]);let s24:=s2.trans (s3.trans s4);let R4:ah (upd (upd H2 t3 (.tup us)) t4 (.tup [.str (O "row"),.ref t3])) (.tup [.str (O "row"),.tup sub]) (.ref t4):=by rw[ah];show{t4,01,aa,2};simp only[Reps];show{001300121};rw[ah];show{t3,us,1,s4 _ _ aa,ru.mono s24}
   generalize upd (upd H2 t3 (.tup us)) t4 (.tup [.str (O "row"),.ref t3])=H4 at s24 R4⊢;let wx:Wx (n+1) (.tup [.str (O "row"),.tup sub]) (.nd (O "row") bs):=by rw[Wx];show .inr (.inr (.inr (.inr (.inl {sub,bs,l1,l4,al,11}))))
   let ex:=gu (n:=n) (p:=rF) pH.2.2.1 (ds:=[.tup sub]) (cH wx).1;rw[show bA rF.2.2 [.tup sub]=sub by change sub++[]=sub;rw[ϣ]]at ex;let hlt4:=s24 _ _ hlt;let la:=al.len;show dm (p3 () (p4 () (fin _ _ _ _ _ _ _ (ae.b a s24) (st.m s24) R4 hlt4 () () () wx ex)))
  .show p1 () (p2 () (h5 _ _ {01101,aj (λ_=>zz λX hX=>?_) (λh=>absurd (Q9 U) h)}));ext(⟨ng,n1,n2⟩:wo.ne st);let wg:=s2 _ _ wo.hg;let w2:=s2 _ _ wo.h2;let ly:=wo.l2;show{01,g,0,(1),.ref r2,11,aq.of wg,ad (j:=1) U,0101,g,0,(1),.ref r2,11,aq.of wg,ad (j:=1) U,r2,01,.inl (aw.of w2),a,01,st.m s2,by rw[ε];omega,by rw[ε];omega,λH4 i s4 st4 i0 i1=>?_};rw[ε]at i1;obtain⟨y,hy,hat⟩:∃y,y∈ys/\jX (ys.map V.str) i=Z (.str y):=by let hi:i.toNat<ys.length:=();show{ys[i.toNat],k_ hi,2};let e:=ad (xs:=ys.map V.str) (j:=i.toNat) (v:=.str ys[i.toNat]) (by rw[ϐ,Δ hi];rfl);rwa[show((i.toNat:Nat):Int)=i by omega]at e
   ext(⟨y1,y2,y3⟩:wo.n2 y hy);show{r2,0,i,.str y,11,aw.of (s4 _ _ n2 w2),hat,dm (hX _ _ ?_)};let s04:ao a H H4:=(ae.b a s2).trans s4;show{010101,lp,01,.inl {aw.of (s04 _ _ nlp hlp),λt5 ht5=>{z3,λt6 ht6=>?_}}};let s5:=ac ht5 (.tup us);let s6:=ac ht6 (.tup [.str (O "call"),.str y,.ref t5]);let s46:=s5.trans s6;let s06:ao a H _:=s04.trans (ae.b a s46);let R6:ah (upd (upd H4 t5 (.tup us)) t6 (.tup [.str (O "call"),.str y,.ref t5])) (.tup [.str (O "call"),.str y,.tup sub]) (.ref t6):=by rw[ah];show{t6,01,aa,2};simp only[Reps];show{0013001300121};rw[ah];show{t5,us,1,s6 _ _ aa,ruB s06}
   let st6:=st4.m s46;generalize upd (upd H4 t5 (.tup us)) t6 (.tup [.str (O "call"),.str y,.ref t5])=H6 at s06 R6 st6⊢;let wx:Wx (n+1) (.tup [.str (O "call"),.str y,.tup sub]) (.nd y bs):=by rw[Wx];show .inr (.inr (.inl {y,sub,bs,y1,y2,y3,l4,al,11}))
   let ex:=gu (n:=n) (p:=iA) pH.1 (ds:=[.str y,.tup sub]) (cH wx).1;rw[show bA iA.2.2 [.str y,.tup sub]=sub by change []++(sub++[])=sub;rw[ϣ,v_]]at ex;let hlt6:=s06 _ _ zp hlt;let la:=al.len;show dm (p4 () (fin _ _ _ _ _ _ _ s06 st6 R6 hlt6 y1 () () wx ex))
  .ext(⟨m1,m2,m3,m4,m5⟩:BQ hf);show p1 m4 (p2 m5 (p3 m3 ?_));let Rt:ah H2 (.tup (.str pw.1::ds)) (.ref t):=by rw[ah];show{t,01,ht,by simp only[Reps];show{0013,ru.mono s2}}
   let la:=ag.len;let h5:=gk pw hpw;let nw:=CF pw hpw;let lw:pw.1.length<=8:=(aX nw).2;let plain:(pw.1≠"fold"\/kJ ds=Y)->Wx (n+1) (.tup (.str pw.1::ds)) (.nd pw.1 bs):=λfo=>by rw[Wx];show .inr (.inr (.inr (.inr (.inr {pw,ds,bs,hpw,hf,ag,fo,11}))))
   by_cases ef:pw.1="fold"
   .let ess:=yt pw hpw ef;let hsub:bA pw.2.2 ds=bA [.x,.l,.y,.e,.e] ds:=by rw[ess]
    obtain⟨y0,dl,y2,d3,d4,b1,b3,b4,u1,u3,u4,hds,hbs,hus,ny0,agl,ny2,w3,w4⟩:∃y0 dl y2 d3 d4 b1 b3 b4 u1 u3 u4,ds=[.str y0,dl,.str y2,d3,d4]/\bs=[.leaf y0,b1,.leaf y2,b3,b4]/\us=[.str y0,u1,.str y2,u3,u4]/\dD y0=Y/\Ag (Wx n) .l dl b1/\dD y2=Y/\Wx n d3 b3/\Wx n d4 b4:=by
     let ag':=ag;rw[ess]at ag';cases ag' with
     |cons a0 ag'=>
      cases ag' with
      |cons a1 ag'=>
       cases ag' with
       |cons a2 ag'=>
        cases ag' with
        |cons a3 ag'=>
         cases ag' with
         |cons a4 ag'=>cases ag';ext(⟨y0,rfl,rfl,h0⟩:a0);ext(⟨y2,rfl,rfl,h2⟩:a2);ext(⟨v0,ws,rfl,r0,ru⟩:cb ru);ext(⟨v1,ws,rfl,r1,ru⟩:cb ru);ext(⟨v2,ws,rfl,r2,ru⟩:cb ru);ext(⟨v3,v4,rfl,r3,r4⟩:Reps.two ru);obtain rfl:v0=.str y0:=r0;obtain rfl:v2=.str y2:=r2;show{00000000000111,h0,a1,h2,a3,a4}
    let hlp2:=s2 _ _ hlp;let hlt2:=s2 _ _ hlt;rw[hus]at hlp2;show h6 _ _ {01101,aj (λ_=>?_) (λh=>absurd (Q9 (by rw[ef])) h)};show{01,lp,0,(0),.str y0,11,aw.of hlp2,ad (j:=0) U,01,lp,0,(2),.str y2,11,aw.of hlp2,ad (j:=2) U,101,aj (λh=>zz λX hX=>?_) (λh=>?_)}
    .let e02:y0=y2:=V.str.inj (Q7 h);let wg:=s2 _ _ wo.hg;let w1:=s2 _ _ wo.h1;ext(⟨ng,n1,n2⟩:wo.ne st);let y0x:y0∈xs:=hx y0 (by rw[hds];rfl);let fl:=Ey wo.nd y0x;rw[wo.l1]at fl;show{01,g,0,(0),.ref r1,11,aq.of wg,ad (j:=0) U,r1,1,{0,aw.of w1},eq (xs:=xs.map V.str) (λi zs H'=>H'=H2/\zs=((xs.take i).filter λz=>decide (z≠y0)).map V.str) {11} (λi zs H' _ p=>by rw[p.1];show aw.of w1) ?_ ?_}
     .ext i zs H' x hx' ⟨rfl,rfl⟩;rw[ϐ]at hx';ext(⟨z,hz,rfl⟩:Ϣ.mp hx');let hi:=(Ζ.mp hz).1;rw[wo.l1]at hi;show rV {0101,lp,0,(0),.str y0,11,aw.of hlp2,ad (j:=0) U,1012};by_cases e:z=y0
      .rw[show(!decide (V.str z=V.str y0))=Α by rw[e,Q9 U];rfl];show aD {12};rw[ϛ,hz,PP,Option.toList_some,List.filter_cons_of_neg (by simp[e]),List.filter_nil,ϣ]
      .rw[show(!decide (V.str z=V.str y0))=Y by rw[Q8 (λq=>e (V.str.inj q))];rfl];show aA {01212}
       .let:=List.length_filter_le (λz=>decide (z≠y0)) (xs.take i);rw[Ω]at this;rw[ε,ι];omega
       .rw[ϛ,hz,PP,Option.toList_some,List.filter_cons_of_pos (↑e),List.filter_nil,Ε];rfl
     ext zs H' ⟨rfl,rfl⟩ r hr';rw[ε,Ϥ];let s3:=ac hr' (.lst ((xs.filter λz=>decide (z≠y0)).map V.str));let h3:upd H' r (.lst ((xs.filter λz=>decide (z≠y0)).map V.str)) r=Z (.lst ((xs.filter λz=>decide (z≠y0)).map V.str)):=aa;let s23:=s2.trans s3;let ra:r≠a:=λz=>by ext(⟨_,_,e⟩:st);rw[z,s2 _ _ e]at hr';cases hr'
     let ht3:=s3 _ _ ht;generalize upd H' r (.lst ((xs.filter λz=>decide (z≠y0)).map V.str))=H3 at s23 h3 ht3⊢;show{01,a,(11),1,st.m s23,33,λH4 i s4 st4 i0 i1=>?_};obtain⟨o,ho,hat⟩:∃o,o∈xs.filter (λz=>decide (z≠y0))/\jX ((xs.filter λz=>decide (z≠y0)).map V.str) i=Z (.str o):=by let hi:i.toNat<(xs.filter λz=>decide (z≠y0)).length:=();show{(xs.filter λz=>decide (z≠y0))[i.toNat],k_ hi,2};let e:=ad (xs:=(xs.filter λz=>decide (z≠y0)).map V.str) (j:=i.toNat) (v:=.str (xs.filter λz=>decide (z≠y0))[i.toNat]) (by rw[ϐ,Δ hi];rfl);rwa[show((i.toNat:Nat):Int)=i by omega]at e
     ext(⟨ox,oy⟩:J3.mp ho);let no:=wo.n1 o ox;let oy0:o≠y0:=Q7 oy;show{r,0,i,.str o,11,aw.of (s4 _ _ ra h3),hat,dm (hX _ _ (zz λX hX=>?_))};let s04:ao a H H4:=(ae.b a s23).trans s4;let ta:t≠a:=λz=>by ext(⟨_,_,e⟩:st);rw[z,s2 _ _ e]at ht;cases ht
     let ht4:=s4 _ _ ta ht3;rw[hus]at ht4;show{012};dsimp only[cO];show{(3),1,io ht4 λH5 t5 s5 ht5=>?_};rw[show db (V.str pw.1::[V.str y0,u1,V.str y2,u3,u4]) χ (Z 3)=[V.str pw.1,V.str y0,u1]from jp _ 3]at ht5;show{01,z1,λt6 ht6=>?_};let s6:=ac ht6 (.tup [.str o]);show{t5,t6,0011,aq.of (s6 _ _ ht5),aq.of aa,by rw[ι];simp,nofun,nofun,λt7 ht7=>?_};let s7:=ac ht7 (.tup ([V.str pw.1,V.str y0,u1]++[V.str o]));let h7:upd (upd H5 t6 (.tup [.str o])) t7 (.tup ([V.str pw.1,V.str y0,u1]++[V.str o])) t7=Z (.tup ([V.str pw.1,V.str y0,u1]++[V.str o])):=aa;let s47:=s5.trans (s6.trans s7);generalize upd (upd H5 t6 (.tup [.str o])) t7 (.tup ([V.str pw.1,V.str y0,u1]++[V.str o]))=H7 at s47 h7⊢;show{01,(4),12};dsimp only[cO];show io (s47 _ _ ht4) λH8 t8 s8 ht8=>?_;rw[show db (V.str pw.1::[V.str y0,u1,V.str y2,u3,u4]) (Z 4) χ=[u3,u4]from cU _ 4]at ht8;show{t7,t8,0011,aq.of (s8 _ _ h7),aq.of ht8,by rw[ι];simp,nofun,nofun,λt9 ht9=>?_};let s9:=ac ht9 (.tup ([V.str pw.1,V.str y0,u1]++[V.str o]++[u3,u4]));let h9:upd H8 t9 (.tup ([V.str pw.1,V.str y0,u1]++[V.str o]++[u3,u4])) t9=Z (.tup ([V.str pw.1,V.str y0,u1]++[V.str o]++[u3,u4])):=aa;let s49:=s47.trans (s8.trans s9);generalize upd H8 t9 (.tup ([V.str pw.1,V.str y0,u1]++[V.str o]++[u3,u4]))=H9 at s49 h9⊢;show dm (hX _ _ ?_);let s09:ao a H H9:=s04.trans (ae.b a s49);let hlt9:=s09 _ _ zp hlt;rw[hbs]at hlt9;show{012};dsimp only[cO];show{(2),1,lt,01,aw.of hlt9,λl1 hl1=>?_};rw[show db ([Br.leaf y0,b1,.leaf y2,b3,b4].map bv) χ (Z 2)=[bv (.leaf y0),bv b1]from jp _ 2];let p1:=ac hl1 (.lst [bv (.leaf y0),bv b1]);let g1:upd H9 l1 (.lst [bv (.leaf y0),bv b1]) l1=Z (.lst [bv (.leaf y0),bv b1]):=aa;generalize upd H9 l1 (.lst [bv (.leaf y0),bv b1])=G1 at p1 g1⊢;show{01,z1,λl2 hl2=>?_};let p2:=ac hl2 (.lst [.str o]);show{l1,l2,0011,p2 _ _ g1,aa,by rw[ι];simp,λl3 hl3=>?_};let p3:=ac hl3 (.lst ([bv (.leaf y0),bv b1]++[.str o]));let g3:upd (upd G1 l2 (.lst [.str o])) l3 (.lst ([bv (.leaf y0),bv b1]++[.str o])) l3=Z (.lst ([bv (.leaf y0),bv b1]++[.str o])):=aa;let p13:=p1.trans (p2.trans p3);generalize upd (upd G1 l2 (.lst [.str o])) l3 (.lst ([bv (.leaf y0),bv b1]++[.str o]))=G3 at p13 g3⊢;show{01,(3),12};dsimp only[cO];show{lt,01,aw.of (p13 _ _ hlt9),λl4 hl4=>?_};rw[show db ([Br.leaf y0,b1,.leaf y2,b3,b4].map bv) (Z 3) χ=[bv b3,bv b4]from cU _ 3];let p4:=ac hl4 (.lst [bv b3,bv b4]);show{l3,l4,0011,p4 _ _ g3,aa,by rw[ι];simp,λl5 hl5=>?_};let p5:=ac hl5 (.lst ([bv (.leaf y0),bv b1]++[.str o]++[bv b3,bv b4]));let g5:upd (upd G3 l4 (.lst [bv b3,bv b4])) l5 (.lst ([bv (.leaf y0),bv b1]++[.str o]++[bv b3,bv b4])) l5=Z (.lst ([bv (.leaf y0),bv b1]++[.str o]++[bv b3,bv b4])):=aa;let p15:=p13.trans (p4.trans p5);generalize upd (upd G3 l4 (.lst [bv b3,bv b4])) l5 (.lst ([bv (.leaf y0),bv b1]++[.str o]++[bv b3,bv b4]))=G5 at p15 g5⊢;show dm ?_;let s0G:ao a H G5:=s09.trans (ae.b a p15);let stG:gb G5 a:=(st4.m s49).m p15;let ruG:=ruB s0G;rw[hds,hus]at ruG;let RG:ah G5 (.tup [.str pw.1,.str y0,dl,.str o,d3,d4]) (.ref t9):=by rw[ah];show{t9,01,p15 _ _ h9,2};simp only[Reps]at ruG;ext(⟨_,_,e,r0,_,_,e1,r1,_,_,e2,r2,_,_,e3,r3,_,_,e4,r4,e5⟩:ruG);cases e;cases e1;cases e2;cases e3;cases e4;simp only[Reps,A9,v_];show{0013001,r0,001,r1,0013001,r3,001,r4,1}
     let ag2:pM (Wx n) pw.2.2 [.str y0,dl,.str o,d3,d4] [.leaf y0,b1,.leaf o,b3,b4]:=by rw[ess];show .cons {y0,11,ny0} (.cons agl (.cons {o,11,no} (.cons w3 (.cons w4 .nil))))
     let wx:Wx (n+1) (.tup (.str pw.1::[.str y0,dl,.str o,d3,d4])) (.nd pw.1 [.leaf y0,b1,.leaf o,b3,b4]):=by rw[Wx];show .inr (.inr (.inr (.inr (.inr {pw,00,hpw,hf,ag2,.inr (Q9 (ϔ oy0)),11}))))
     let ex:=gu (n:=n) hpw (ds:=[.str y0,dl,.str o,d3,d4]) (cH wx).1;rw[show bA pw.2.2 [.str y0,dl,.str o,d3,d4]=bA pw.2.2 ds by rw[ess,hds];rfl]at ex;let lo:bl (.leaf o)<=8:=by unfold bl;rw[du];show(aX no).2
     let lb2:([Br.leaf y0,b1,.leaf o,b3,b4].map bl).sum<=2700008:=by rw[hbs]at lb;simp only[Υ,ϴ,c_,J1]at lb⊢;omega
     show fin _ _ _ _ [.leaf y0,b1,.leaf o,b3,b4] _ _ s0G stG RG g5 nw lb2 (by change 5<=8;decide) wx ex
    .let n02:y0≠y2:=λz=>h (Q9 (by rw[z]));let wx:=plain (.inr (by rw[hds];show Q9 n02));show dR (fin _ _ _ _ _ _ _ (ae.b a s2) (st.m s2) Rt hlt2 nw () () wx (gu (n:=n) hpw (ds:=ds) (cH wx).1))
   .let wx:=plain (.inl ef);show p4 ef (fin _ _ _ _ _ _ _ (ae.b a s2) (st.m s2) Rt (s2 _ _ hlt) nw () () wx (gu (n:=n) hpw (ds:=ds) (cH wx).1))
 show{01,z1,λt0 ht0=>?_};let s0:=ac ht0 (.tup [.str w]);show{01,lp,01,.inl {aw.of (s0 _ _ hlp),λt1 ht1=>?_}};let s1:=ac ht1 (.tup us);let s01:=s0.trans s1;let h01:=s1 _ _ (aa (H:=H) (a:=t0) (o:=.tup [.str w]));let h11:upd (upd H t0 (.tup [.str w])) t1 (.tup us) t1=Z (.tup us):=aa;generalize upd (upd H t0 (.tup [.str w])) t1 (.tup us)=H1 at s1 s01 h01 h11⊢;show{t0,t1,0011,aq.of h01,aq.of h11,by rw[ι,j7];omega,nofun,λe=>?_,λp hp=>?_}
 .show dm (key H1 t0 s01 (by rw[h01,e]))
 .show dm (key _ p (s01.trans (ac hp _)) aa)
end
abbrev yH:ϯ:=bT 96
def vV:List Str:=(["row","plus","def","ask","whole","if"]:List String).map O
def Lb(x:Str):Bool:=x.cps.toList.any λc=>!Ja c
def Ca:∀x∈vV,dD x=Y/\Lb x=Y:=()
def KQ:∀p∈WT,Lb p.1=Y:=()
def EW:∀r∈tQ,Lb r=Y:=()
def HX(h:Cn x):Lb x=Α:=by unfold Lb;rw[OD];intro c a;rw[h.2 c a];decide
def GP(h:Cn x):dD x=Y/\cZ x=Α/\dz x=Α:=by
 let hv:=HX h;show{h.1,22}
 .cases e:cZ x with
  |false=>rfl
  |true=>ext(⟨p,hp,rfl⟩:rj e);rw[KQ p hp]at hv;cases hv
 .cases e:dz x with
  |false=>rfl
  |true=>rw[EW x (gF e)]at hv;cases hv
def Jc:vV.Nodup:=()
def DC{xs:List Str}(nd:xs.Nodup)(hc:∀x∈xs,Cn x):(xs.take 6++vV).Nodup/\∀x∈xs.take 6++vV,dD x=Y:=by
 show{P7.mpr {nd.sublist (List.take_sublist _ _),Jc,λx hx y hy e=>?_},λx hx=>?_}
 .subst e;let:=HX (hc x (y8 hx));rw[(Ca x hy).2]at this;cases this
 .rcases ϧ.mp hx with hx|hx
  .show(hc x (y8 hx)).1
  .show(Ca x hx).1
def Ji:∀x∈[O "ask",O "def"],dD x=Y/\cZ x=Α/\dz x=Α:=()
def Cl{xs:List Str}(hc:∀x∈xs,Cn x):∀x∈xs.drop 6++[O "ask",O "def"],dD x=Y/\cZ x=Α/\dz x=Α:=λx hx=>by
 rcases ϧ.mp hx with hx|hx
 .show GP (hc x (K9 hx))
 .show Ji x hx
inductive zw (vs:List V) (H:Hp) (Q:VK) (u3_:XK):Prop|mk (a:J) (_:vs=[.ref a]) (_:gb H a) (_:∀(H':Hp)(g r1 r2:J)(xs ys:List Str),ao a H H'->gb H' a->Wo H' g r1 r2 xs ys->Q (.ref g) H')
section
variable{P:Θ}{w:Χ}{K:ζ}{mg:Str->Option θ}{base:ϖ}
def Ch{f:J}{fd:ό}{k:Nat}(F:Fun K "_law_world" "_law_world" yH f fd)(T:Txt K mg)(D_law_names:aS P w K mg base k "_law_names" ["_law_state_here","_law_many"] yx)(D_law_draw:aS P w K mg base k "_law_draw" ["_law_state_here","_law_many"] dY):ap P w K mg base aY (k+1) f fd ["_law_state_here"] zw:=by
 show F.okA (N:=["_law_state_here","_law_names_here"]) λcdv A outer s H vs Q E hr nd h=>?_;ext(⟨a,rfl,st,q⟩:h);show{0,aQ (aV 1 (aL D_law_names (ay (wv 0) (ar az)))) (bI (cy (ay (bh iQ (gp dG (wv 1) ib (fG az)) (fu (ay aP (ay aP (ay aP (ay aP (ay aP (ar aP)))))))) (ar (bh iQ (gp dG (wv 1) (fG az) ib) (fu (ay aP (ar aP)))))))),2};show{01,a,(9),1,st,3,λH1 r xs s1 st1 hr1 h1 lx cx nx=>dm ?_};show{012};dsimp only[cO];show{(6),1,r,01,aw.of h1,λl1 hl1=>?_};rw[show db (xs.map V.str) χ (Z 6)=(xs.take 6).map V.str by rw[List.map_take];show jp _ 6];let s4:=ac hl1 (.lst ((xs.take 6).map V.str));let g1:upd H1 l1 (.lst ((xs.take 6).map V.str)) l1=Z (.lst ((xs.take 6).map V.str)):=aa;generalize upd H1 l1 (.lst ((xs.take 6).map V.str))=H4 at s4 g1⊢;ext(⟨wn1,wn2⟩:DC nx cx);let l6:vV.length=6:=U;let lt6:(xs.take 6).length=6:=by rw[Ω,lx];rfl
 show{by rw[ι];decide,λl2 hl2=>?_};rw[show([.str (O "row"),.str (O "plus"),.str (O "def"),.str (O "ask"),.str (O "whole"),.str (O "if")]:List V)=vV.map V.str from U];let p1:=ac hl2 (.lst (vV.map V.str));show{l1,l2,0,vV.map V.str,11,p1 _ _ g1,aa,by rw[ε,ε,l6,lt6,ι];decide,λm1 hm1=>?_};rw[<-Ε];let k1:upd (upd H4 l2 (.lst (vV.map V.str))) m1 (.lst ((xs.take 6++vV).map V.str)) m1=Z (.lst ((xs.take 6++vV).map V.str)):=aa;let p12:=p1.trans (ac hm1 (.lst ((xs.take 6++vV).map V.str)));generalize upd (upd H4 l2 (.lst (vV.map V.str))) m1 (.lst ((xs.take 6++vV).map V.str))=G1 at p12 k1⊢;show{01,(6),12};dsimp only[cO];show{r,01,aw.of (p12 _ _ (s4 _ _ h1)),λl3 hl3=>?_};rw[show db (xs.map V.str) (Z 6) χ=(xs.drop 6).map V.str by rw[List.map_drop];show cU _ 6];let p3:=ac hl3 (.lst ((xs.drop 6).map V.str));let k3:upd G1 l3 (.lst ((xs.drop 6).map V.str)) l3=Z (.lst ((xs.drop 6).map V.str)):=aa;generalize upd G1 l3 (.lst ((xs.drop 6).map V.str))=G3 at p3 k3⊢;show{z2,λl4 hl4=>?_};let p4:=ac hl4 (.lst [.str (O "ask"),.str (O "def")]);let ld:(xs.drop 6).length=3:=by rw[k7,lx]
 show{l3,l4,0011,p4 _ _ k3,aa,by rw[ε,ld,ι];decide,λm2 hm2=>?_};let em:(xs.drop 6).map V.str++[.str (O "ask"),.str (O "def")]=(xs.drop 6++[O "ask",O "def"]).map V.str:=by rw[Ε];rfl
 rw[em];show{z2,λg hg=>?_};let p6:=ac hg (.tup [.ref m1,.ref m2]);let p36:=p3.trans (p4.trans ((ac hm2 (.lst ((xs.drop 6++[O "ask",O "def"]).map V.str))).trans p6));let p16:=p12.trans p36;show q _ g m1 m2 (xs.take 6++vV) (xs.drop 6++[O "ask",O "def"]) ((s1.trans (ae.b a s4)).trans (ae.b a p16)) ((st1.m s4).m p16) {aa,p36 _ _ k1,p6 _ _ aa,by rw[Ι,lt6,l6],wn1,wn2,by rw[Ι,ld];show{33},Cl cx}
end
def IP:List (Str×Str×List So):=FM.map λp=>(p.1,p.2,if p.1=O "fold" then [.x,.l,.y,.e,.e]else p.2.cps.toList.map λc=>if c=101 then So.e else if c=76 then So.l else if c=75 then So.k else So.x)
def Il:∀p∈FM,∃ls,(p.1,p.2,ls)∈IP:=λp hp=>{0,ϙ.mpr {p,hp,1}}
def IM:∀q∈IP,q.2.1.cps.toList.map (λc=>({#[c]}:Str))=q.2.2.map lt/\q.2.1.cps.size=q.2.2.length/\q.2.2.length<=5/\q.2.1.cps.all (· < 128)=Y:=()
def JE:∀q∈IP,∀s∈q.2.2,s=.e\/s=.l\/s=.k\/s=.x\/s=.y:=()
def EM(ss:List So):Bool:=ss.all λs=>decide (s=.e)
def NE(q:Str×Str×List So):Bool:=
 (decide (q.1="number")&&decide (q.2.2=[]))||(decide (q.1="name")&&decide (q.2.2=[]))||(decide (q.1="reckon")&&decide (q.2.2=[.e,.e]))||(decide (q.1="row")&&(EM q.2.2&&(decide (1<=q.2.2.length)&&decide (q.2.2.length<=4))))||(decide (q.1="call")&&(EM q.2.2&&decide (q.2.2.length<=4)))||(WT.any λp=>decide (p.1=q.1)&&(decide (p.2.2=q.2.2)&&JA p.1))
def LA:∀q∈IP,NE q=Y:=()
def nE(ss:List So):Nat:=(ss.filter λs=>decide (s=.e)).length
def EG:∀q∈IP,Txt.count q.2.1 (O "e")=(nE q.2.2:Int)/\nE q.2.2<=4:=()
def rG(h:pM R ss ds bs)(c:EM ss=Y):pX R ds bs/\bA ss ds=ds:=by
 induction h with
 |nil=>show{.nil,1}
 | @cons s d b ss ds bs a _ f=>unfold EM at c;rw[Qe,ψ]at c;let e:=Q7 c.1;subst e;ext(⟨g,i⟩:f c.2);show{.cons a g,by change [d]++bA ss ds=d::ds;rw[i];rfl}
def Lx(hq:q∈IP)(h1:q.1≠"number")(h2:q.1≠"name")(h:pM R q.2.2 ds bs)(hx:∀y,ds[0]?=Z (.str y)->y∈xs):JK R xs q.1 ds bs (bA q.2.2 ds):=by
 let hb:=LA q hq;unfold NE at hb;simp only[Bool.or_eq_true,ψ,decide_eq_true_eq]at hb;ext(⟨lb,ld⟩:h.len);rcases hb with ((((hb|hb)|hb)|hb)|hb)|hb
 .show absurd hb.1 h1
 .show absurd hb.1 h2
 .let e:=rG h (by rw[hb.2];decide);show .inl {hb.1,e.1,by rw[ld,hb.2];rfl,e.2}
 .let e:=rG h hb.2.1;show .inr (.inl {hb.1,e.1,33,e.2})
 .let e:=rG h hb.2.1;show .inr (.inr (.inl {hb.1,e.1,3,e.2}))
 .ext(⟨p,hp,e⟩:n_.mp hb);simp only[ψ,decide_eq_true_eq]at e;show .inr (.inr (.inr {p,hp,e.1.symm,e.2.2,by rw[e.2.1];show h,by rw[e.2.1],hx}))
abbrev jc:ϯ:=bT 95
structure jb(H H':Hp)(wk sc nd:J)(i m:Int):Prop where
 sb:ao wk H H'
 hk:H' wk=Z (.lst [.ref sc,.int i,.int m])
 st:gb H' nd
section
variable{H H1 H2:Hp}{wk sc nd L:J}{i j z:Int}
def jb.m(c:jb H H1 wk sc nd i z)(s:ae H1 H2):jb H H2 wk sc nd i z:={c.sb.trans (ae.b wk s),s _ _ c.hk,c.st.m s}
def jb.d(c:jb H H1 wk sc nd i z)(s:ao nd H1 H2)(t:gb H2 nd)(n:nd≠wk)(f:H nd=χ):jb H H2 wk sc nd i z:={λg o a e=>s g o (af e f) (c.sb g o a e),s _ _ (ϔ n) c.hk,t}
def jb.l(c:jb H H1 wk sc nd i z)(s:ao L H1 H2)(f:H L=χ)(n:L≠wk)(k:L≠nd):jb H H2 wk sc nd i z:={λg o a e=>s g o (af e f) (c.sb g o a e),s _ _ (ϔ n) c.hk,c.st.b s (ϔ k)}
def jb.e(c:jb H H1 wk sc nd i z)(s:ao wk H1 H2)(h:H2 wk=Z (.lst [.ref sc,.int j,.int z]))(n:nd≠wk):jb H H2 wk sc nd j z:={c.sb.trans s,h,c.st.b s n}
def jb.tm(c:jb H H1 wk sc nd i z)(s:ao wk H1 H2):gz H1 H2:=s.tups c.hk
end
def AX(s:ao a H H')(h:H' b=χ)(n:b≠a):H b=χ:=by
 cases e:H b with
 |none=>rfl
 |some o=>rw[s b o n e]at h;cases h
def Wo.nw(w:Wo H g r1 r2 xs ys)(e:H a=Z (.lst [.ref sc,.int i,.int m])):g≠a/\r1≠a/\r2≠a:=by
 show{λz=>?_,λz=>?_,λz=>?_}
 .let:=w.hg;rw[z,e]at this;cases this
 .let b:=w.h1;rw[z,e]at b;injection b with b;injection b with b;cases xs with
  |nil=>cases w.l1
  |cons x xs=>injection b with b;cases b
 .let c:=w.h2;let d:=w.l2.1;rw[z,e]at c;injection c with c;injection c with c;cases ys with
  |nil=>simp at d
  |cons x xs=>injection c with c;cases c
def JB(h:Wx n (.str y) b):False:=by
 cases n with
 |zero=>show h
 |succ n=>rcases h with ⟨_,_,_,h,_⟩|⟨_,_,h,_⟩|⟨_,_,_,_,_,_,_,_,h,_⟩|⟨_,_,_,_,_,_,_,_,h,_⟩|⟨_,_,_,_,_,h,_⟩|⟨_,_,_,_,_,_,_,h,_⟩<;>cases h
def pM.snoc(h:pM R ss ds bs)(a:Ag R s d b):pM R (ss++[s]) (ds++[d]) (bs++[b])/\bA (ss++[s]) (ds++[d])=bA ss ds++nJ s d:=by
 induction h with
 |nil=>show{.cons a .nil,by change nJ s d++[]=[]++nJ s d;rw[ϣ,v_]}
 | @cons e d' g ss ds bs f _ c=>show{.cons f c.1,by change nJ e d'++bA (ss++[s]) (ds++[d])=(nJ e d'++bA ss ds)++nJ s d;rw[c.2,OI]}
def Gj:∀q∈IP,(q.2.2.map Mo).sum<=100000:=()
def Gg{x:Str}{a:List So}{j:Nat}{s:So}(e:x.cps.toList.map (λc=>({#[c]}:Str))=a.map lt)(b:j<x.cps.size)(d:a[j]?=Z s):yc x j=.str (lt s):=by
 let h:(x.cps.toList.map (λc=>({#[c]}:Str)))[j]?=(a.map lt)[j]?:=by rw[e]
 rw[ϐ,ϐ,d,OS,PX b]at h;unfold yc;rw[C2,PX b];show congrArg V.str (Ϟ h)
structure Kp(LP LT:J)(us:List V)(ds:List Dv)(bs:List Br)(H:Hp):Prop where
 hp:H LP=Z (.lst us)
 rp:Reps H ds us
 ht:H LT=Z (.lst (bs.map bv))
def Kp.b{c b a:J}{us:List V}{ds:List Dv}{bs:List Br}{H H':Hp}{n:Nat}(k:Kp c b us ds bs H)(s:ao a H H')(t:gz H H')(g:c≠a)(e:b≠a)(f:∀d∈ds,L2.Pl n d):Kp c b us ds bs H':=
 {s _ _ g k.hp,bH (λd h v r=>bD t (f d h) r) k.rp,s _ _ e k.ht}
def MP(h:s=.l\/s=.k\/s=.x\/s=.y):lt s≠O "e":=by rcases h with rfl|rfl|rfl|rfl<;>decide +kernel
def xm(h:Ag (Wx r) s d b)(a:s=.e\/s=.l\/s=.k)(y:Str):d≠.str y:=λz=>by
 subst z;rcases a with rfl|rfl|rfl
 .show JB h
 .ext(⟨c,ps,e,_⟩:h);cases e
 .ext(⟨k,e,_⟩:h);cases k<;>cases e
def cE(p:Str×Str):Int:=Txt.count p.2 (O "e")
def KW(a b:Nat)(p:Str×Str):Prop:=p∈FM/\(cE p=0\/(1<a/\cE p<b))
def NW:FM[0]?=Z (O "number",O ""):=()
def MI:cE (O "number",O "")=0:=()
inductive FL (K:ζ) (n:Nat) (vs:List V) (H:Hp) (Q:VK) (u3_:XK):Prop|mk (wk g r1 r2 sc:J) (ns:List Int) (i m:Int) (xs ys:List Str) (room:Nat) (bud:Nat) (_:vs=[.ref wk,.ref g,.int room,.int bud]) (_:Wk K H wk sc ns i m) (_:i+bud<10^14) (_:ns.length<10^15) (_:Wo H g r1 r2 xs ys) (_:1<=room) (_:room<=n) (_:n<=8) (_:1<=bud) (_:bud<=40) (_:∀(H':Hp)(v:V)(d:Dv)(b:Br)(c:Nat),ao wk H H'->Wk K H' wk sc ns (i+c) m->ah H' (.tup [d,.str (du b),.int c]) v->Wx room d b->cY room d=c->1<=c->c<=bud->Q v H')
section
variable{P:Θ}{w:Χ}{K:ζ}{mg:Str->Option θ}{base:ϖ}
def pD{f:J}{fd:ό}{k n:Nat}(F:Fun K "_law_expression" "_law_expression" jc f fd)(T:Txt K mg)(D_law_next:aS P w K mg base k "_law_next" ["_law_walk"] (BX K))(D_law_forms:aS P w K mg base k "_law_forms" [] zy)(D_law_draw:aS P w K mg base k "_law_draw" ["_law_state_here","_law_many"] dY)(D_law_inner:aS P w K mg base k "_law_inner" ["_law_letter","_law_node","_law_world_here"] xI)(D_law_whole:aS P w K mg base k "_law_whole" ["_law_word","_law_parts","_law_texts","_law_node","_law_world_here"] ya)(D_law_expression:aS P w K mg base k "_law_expression" ["_law_walk","_law_world_here","_law_room","_law_budget"] (FL K n)):ap P w K mg base aY (k+1) f fd ["_law_walk","_law_world_here","_law_room","_law_budget"] (FL K (n+1)):=by
 show F.okA (N:=["_law_walk","_law_world_here","_law_room","_law_budget","_law_node","_law_some","_law_one","_law_word","_law_letters","_law_told","_law_name","_law_parts","_law_texts","_law_left","_law_more","_law_letter","_law_share","_law_text","_law_nodes"]) λcdv A outer s H vs Q E hr nd h=>?_;ext(⟨wk,g,r1,r2,sc,ns,i,m,xs,ys,room,bud,rfl,⟨hk0,hsc,i0,i15⟩,i14,ln,wo,rm1,rm2,n8,b1,b2,q⟩:h);obtain⟨r,rfl⟩:∃r,room=r+1:={room-1,3};show{0,aQ (aV 4 (aL D_law_next (aK 0))) (aQ (aV 5 (fu pZ)) (aQ (qO Ϩ U (vC (Oq D_law_forms)) (eX 6) (cX (Ap (iz (me (aU av (fv Ρ OL OO kg (bc 6) (ar aP)) az) (qu (iz (Bl (aU fh (wv 2) az) (Bk (aU jE (fv Ρ OL OO kg (bc 6) (ar aP)) (wv 3)))))))) (cX (oF (fv ϑ Ϡ ϡ bq (wv 5) (aK 6)))) Bh))) (aQ (Bn (eh aF (wv 5) (aL D_law_draw (ay (wv 4) (ar (cn am T.len (aK 5)))))) (uX (gE (eX 7) (gE (eX 8) tq)))) (kW (aU av (wv 7) aP) (aQ (aV 9 (eh aF (fu (ay az (ay (bh da (bh xa az az) az) (ay az (ar az))))) (aL D_law_draw (ay (wv 4) (ar az))))) (kW (iz (Bl (aU fh (wv 9) az) (Bk (aU jE (wv 9) az)))) (cX (aV 9 (aL D_law_draw (ay (wv 4) (ar (eh aF (fu (ay az (ar (bh xa az az)))) (bh da (wv 9) az))))))) (bI (cy (ay (cy (ay (wv 7) (aK 9))) (ay (kZ dj T.str (aK 9)) (ar az))))))) (kW (aU av (wv 7) aP) (aQ (aV 10 (eh aF (bc 1) (aL D_law_draw (ay (wv 4) (ar az))))) (bI (cy (ay (cy (ay (wv 7) (aK 10))) (ay (wv 10) (ar az)))))) (aQ (aV 11 (fu pZ)) (aQ (aV 12 (fu pZ)) (aQ (aV 13 (bh da (wv 3) az)) (aQ (aV 14 (fv Ρ OL OO kg (wv 8) (ar aP))) (aQ (qO Ϩ U (MB (wv 8)) (eX 15) (aQ (Ap (aU av (wv 15) aP) (aQ (aV 14 (bh da (wv 14) az)) (aQ (aV 16 (bh da (wv 13) (wv 14))) (kW (aU fh (wv 14) az) (cX (aV 16 (bh bj az (aL D_law_draw (ay (wv 4) (aK 16)))))) (aQ (Bn (aL D_law_expression (ay (wv 0) (ay (wv 1) (ay (bh da (wv 2) az) (aK 16))))) (uX (gE (eX 6) (gE (eX 17) (gE (eX 18) tq))))) (cX (aV 13 (bh da (wv 13) (wv 18)))))))) (cX (Bn (aL D_law_inner (ay (wv 15) (ay (wv 4) (aK 1)))) (uX (gE (eX 6) (gE (eX 17) tq)))))) (aQ (oF (fv ϑ Ϡ ϡ bq (wv 11) (aK 6))) (cX (oF (fv ϑ Ϡ ϡ bq (wv 12) (aK 17))))))) (aQ (Bn (aL D_law_whole (ay (wv 7) (ay (wv 11) (ay (wv 12) (ay (wv 4) (aK 1)))))) (uX (gE (eX 6) (gE (eX 17) tq)))) (bI (cy (ay (wv 6) (ay (wv 17) (ar (bh da (wv 3) (wv 13)))))))))))))))))),2};show aG λX hX=>{01,wk,sc,ns,i,m,1,{hk0,hsc,i0,i15},ln,λH1 nd s1 hk1 fnd st1=>gs hX λX hX=>?_};let nw:nd≠wk:=λz=>by rw[z,hk0]at fnd;cases fnd
 let c1:jb H H1 wk sc nd (i+1) m:={s1,hk1,st1};let woC:∀{H':Hp}{j:Int},jb H H' wk sc nd j m->Wo H' g r1 r2 xs ys:=λc=>wo.b (wo.nw hk0) c.sb;let wkC:∀{H':Hp}{j:Int},jb H H' wk sc nd j m->0<=j->j<10^15->Wk K H' wk sc ns j m:=λc h0 h1=>{c.hk,λ_ s=>hsc _ (c.sb.trans s),h0,h1};show{Τ _,λS hS=>gs hX λX hX=>?_};let nS:S≠wk:=λz=>by rw[z,hk1]at hS;cases hS
 let nSd:S≠nd:=λz=>by ext(⟨_,_,e⟩:st1);rw[z,e]at hS;cases hS
 let fS:H S=χ:=AX s1 hS nS;let c2:=c1.m (ac hS (.lst []));let h2:upd H1 S (.lst []) S=Z (.lst []):=aa;generalize upd H1 S (.lst [])=H2 at c2 h2⊢;show{1,λH3 l us s3 fl hl R3=>{l,1,{us,aw.of hl},wH (xs:=us) (λj σ H'=>∃(o6:Option V) (fs:List (Str×Str)) (zs:List V),σ=[Z (.ref wk),Z (.ref g),Z (.int (r+1:Nat)),Z (.int bud),Z (.ref nd),Z (.ref S),o6,χ,χ,χ,χ,χ,χ,χ,χ,χ,χ,χ,χ]/\jb H H' wk sc nd (i+1) m/\ao S H3 H'/\H' S=Z (.lst zs)/\Reps H' (fs.map JX) zs/\(∀p∈fs,KW (r+1) bud p)/\fs.length<=j/\(1<=j->fs≠[]))
  {0,[],[],1,c2.m s3,ao.refl _ _,s3 _ _ h2,by simp[Reps],nofun,Β _,λh=>by omega} (λj σ H' _ ⟨_,_,_,_,_,sx,_⟩=>aw.of (sx _ _ (λz=>by rw[z,h2]at fl;cases fl) hl)) ?T1 ?_}}
 case T1=>
  ext j x σ H4 D go hx ⟨o6,fs,zs,rfl,c4,s4,h4,R4,ff,lf,ne⟩;ext(⟨p,hp,Rx⟩:bZ (f:=JX) R3 hx);obtain⟨t,vt,rfl,ht,Rt⟩:=ah.tup_inv (show ah H3 (.tup [.str p.1,.str p.2]) x from Rx);ext(⟨w1,w2,rfl,e1,e2⟩:Reps.two Rt);subst e1;subst e2;let ht4:=s4 _ _ (λz=>by rw[z,(s3 _ _ h2)]at ht;cases ht) ht;let lj:j<35:=(Ζ.mp hp).1;let lz:zs.length=fs.length:=by let:=R4.length;rwa[ε]at this
  show dm (bC λC a hY hZ=>?_);let yes:KW (r+1) bud p->C H4:=λfp=>by
   show hY _ {01,.inl {10,aw.of h4},01,S,0011,h4,32};let sB:=ao.upd H4 S (.lst (zs++[.ref t]));let tB:=sB.tups h4;show go _ _ {0,fs++[p],zs++[.ref t],1,c4.l sB fS nS nSd,s4.trans sB,aa,2,λp' hp'=>?_,by rw[Ι];show Nat.succ_le_succ lf,3}
   .rw[Ε]
    let fp2:∀p:Str×Str,L2.Pl 1 (JX p):=λp=>.tup λd hd=>by
     rcases ν.mp hd with rfl|hd
     .show .str
     .rw[ξ.mp hd];show .str
    show Reps.append (bH (λd hd v r=>by ext(⟨y,_,rfl⟩:ϙ.mp hd);show bD tB (fp2 y) r) R4) (aO ?_);change ah _ (.tup [.str p.1,.str p.2]) _;rw[ah];show{t,01,tB _ _ ht4,by simp only[Reps];show{001300131}}
   .rcases ϧ.mp hp' with z|z
    .show ff p' z
    .rw[ξ.mp z];show fp
  let no:cE p≠0->a H4:=λhc=>hZ _ (dR (go _ _ {0,fs,zs,1,c4,s4,h4,R4,ff,Nat.le_succ_of_le lf,λ_=>by
   rcases Nat.eq_zero_or_pos j with z|z
   .subst z;rw[NW]at hp;cases hp;show absurd MI hc
   .show ne z}))
  let pm:=Ν hp;show{01,t,0,(1),.str p.2,11,aq.of ht4,ad (j:=1) U,1,p.2,O "e",11101,aj (λh=>?_) (λh=>?_)}
  .show aA (yes {pm,.inl (V.int.inj (Q7 h))})
  .let h0:cE p≠0:=λz=>h (Q9 (congrArg V.int z));show{01001101,aj (λh1=>?_) (λ_=>aD (no h0))};show{01,t,0,(1),.str p.2,11,aq.of ht4,ad (j:=1) U,1,p.2,O "e",1101001101,aj (λh2=>yes {pm,.inr {2,Q7 h2}}) (λ_=>no h0)};let:(1:Int)<((r+1:Nat):Int):=Q7 h1;omega
 ext σ H4 ⟨o6,fs,zs,rfl,c4,s4,h4,R4,ff,lf,ne⟩;let lu:us.length=35:=by let:=R3.length;rwa[ε]at this
 let f0:0<fs.length:=List.length_pos_iff.mpr (ne ());let lz:zs.length=fs.length:=by let:=R4.length;rwa[ε]at this
 show hX _ _ (aG λX hX=>{010101,S,01,.inl (aw.of h4),nd,01,c4.st,33,λH5 x s5 st5 x0 x1=>?_});obtain⟨y,rfl⟩:∃y:Nat,x=y:={x.toNat,3};let hv:=Δ (l:=zs) (i:=y) ();ext(⟨p,hp,Rx⟩:bZ (f:=JX) R4 hv);obtain⟨t,vt,et,ht,Rt⟩:=ah.tup_inv (show ah H4 (.tup [.str p.1,.str p.2]) zs[y]from Rx);ext(⟨w1,w2,rfl,e1,e2⟩:Reps.two Rt);subst e1;subst e2;let c5:=c4.d s5 st5 nw fnd;let t5:=c4.st.tups s5;show{S,zs,y,.ref t,11,aw.of (s5 _ _ nSd h4),ad (by rw[hv,et]),t,01,aq.of (t5 _ _ ht),100100112};ext(⟨pm,fit⟩:ff p (Ν hp));ext(⟨ls,hq⟩:Il p pm);show hX _ _ (aG λX hX=>bC λC a hY hZ=>?_);show{01101,aj (λh=>hY _ ?_) (λhn=>hZ _ (dR (hX _ _ (aG λX hX=>bC λC a hY hZ=>?_))))}
 .let ew:p.1=O "number":=V.str.inj (Q7 h);let p12:IK 10 12:={333};show aG λX2 hX2=>{0011,p12,0011,z4,λe he=>{01,nd,(4),1,c5.st.m (ac he _),33,λH6 x s6 st6 x0 x1=>?_}};let ne:e≠nd:=λz=>by ext(⟨_,_,e'⟩:c5.st);rw[z,e']at he;cases he
  let c6:=(c5.m (ac he _)).d s6 st6 nw fnd;let he6:=s6 _ _ ne aa;obtain⟨o,ho,hb⟩:∃o:Int,jX [V.int 0,V.int ((10:Int)^(12:Int).toNat-1),V.int 7,V.int 8] x=Z (.int o)/\0<=o/\o<10^12/\(6<o->o<9->o=7\/o=8):=by
   let:x=0\/x=1\/x=2\/x=3:=();rcases this with rfl|rfl|rfl|rfl
   .show{(0),1333}
   .show{01333}
   .show{(7),1333}
   .show{(8),1333}
  show{e,0,x,.int o,11,aw.of he6,ho,dm (hX2 _ _ ?_)};show yb (λσ' H'=>∃o:Int,σ'=[Z (.ref wk),Z (.ref g),Z (.int (r+1:Nat)),Z (.int bud),Z (.ref nd),Z (.ref S),o6,Z (.str p.1),Z (.str p.2),Z (.int o),χ,χ,χ,χ,χ,χ,χ,χ,χ]/\jb H H' wk sc nd (i+1) m/\0<=o/\o<10^12) ?N1 (λ_ nx=>?_)
  case N1=>
   ext _ H7 ⟨o,rfl,c7,o0,o1⟩;show{0101,z2,λt1 ht1=>{01,o,12,z3,λt2 ht2=>?_}}
   .let:o.natAbs<2^40:=();rcases Nat.eq_zero_or_pos o.natAbs with z|z
    .rw[z];decide
    .show Nat.lt_trans ((Nat.log2_lt ()).mpr this) ()
   let s8:=ac ht1 (.tup [.str p.1,.int o]);let h8:upd H7 t1 (.tup [.str p.1,.int o]) t1=Z (.tup [.str p.1,.int o]):=aa;generalize upd H7 t1 (.tup [.str p.1,.int o])=H8 at s8 h8 ht2⊢;let s9:=ac ht2 (.tup [.ref t1,.str (O (toString o)),.int 1]);let c9:=c7.m (s8.trans s9);let wx:Wx (r+1) (.tup [.str (O "number"),.int o]) (.leaf (eS o)):=.inl {o,o0,o1,11};show q _ _ _ _ 1 c9.sb (wkC c9 () ()) ?_ wx (gu (n:=r) (p:=Ek) pH.2.2.2.1 (cH wx).1) (Β _) b1;rw[du,ah];show{t2,01,aa,2};show{0012001,by simp only[ah];rfl,001,by simp only[ah];rfl,1};rw[ah];show{t1,01,s9 _ _ h8,by simp only[Reps];show{001,by simp only[ah,ew],00131}}
  show{01001101,aj (λh6=>?_) (λ_=>aD (dR (nx _ _ {o,1,c6,hb.1,hb.2.1})))};show{01001101,aj (λh9=>?_) (λ_=>dR (nx _ _ {o,1,c6,hb.1,hb.2.1}))};show{010011,p12,z2,λe2 he2=>{0100112}};let c7:=c6.m (ac he2 (.lst [.int 100,.int ((10:Int)^(12:Int).toNat)]));obtain⟨u,hu,u0,u1⟩:∃u:Int,jX [V.int 100,V.int ((10:Int)^(12:Int).toNat)] (o-7)=Z (.int u)/\0<u/\u<=10^12:=by
   rcases(hb.2.2 (Q7 h6) (Q7 h9))with rfl|rfl
   .show{(100),133}
   .show{0133}
  show{e2,0,o-7,.int u,11,aw.of aa,hu,nd,u,1,c7.st,u0,3,λH8 y s8 st8 y0 y1=>dm (nx _ _ {y,1,c7.d s8 st8 nw fnd,y0,3})}
 show{01101,aj (λh=>hY _ ?_) (λhm=>hZ _ (dR (hX _ _ ?_)))}
 .let ew:p.1=O "name":=V.str.inj (Q7 h)
  let wo5:=woC c5;show aG λX2 hX2=>{01,g,0,(0),.ref r1,11,aq.of wo5.hg,ad (j:=0) U,01,nd,(12),1,c5.st,33,λH6 x s6 st6 x0 x1=>?_};obtain⟨y,hy,he⟩:∃y,y∈xs/\jX (xs.map V.str) x=Z (.str y):=by
   let hi:x.toNat<xs.length:=by rw[wo.l1];omega
   show{xs[x.toNat],k_ hi,2};let e:=ad (xs:=xs.map V.str) (j:=x.toNat) (v:=.str xs[x.toNat]) (by rw[ϐ,Δ hi];rfl);rwa[show((x.toNat:Nat):Int)=x by omega]at e
  let c6:=c5.d s6 st6 nw fnd;show{r1,0,x,.str y,11,aw.of (s6 _ _ (wo5.ne c5.st).2.1 wo5.h1),he,dm (hX2 _ _ ?_)};show{0101,z2,λt1 ht1=>{01,z3,λt2 ht2=>?_}};let s8:=ac ht1 (.tup [.str p.1,.str y]);let h8:upd H6 t1 (.tup [.str p.1,.str y]) t1=Z (.tup [.str p.1,.str y]):=aa;generalize upd H6 t1 (.tup [.str p.1,.str y])=H8 at s8 h8 ht2⊢;let s9:=ac ht2 (.tup [.ref t1,.str y,.int 1]);let c9:=c6.m (s8.trans s9);let wx:Wx (r+1) (.tup [.str (O "name"),.str y]) (.leaf y):=.inr (.inl {y,wo.n1 y hy,11});show q _ _ _ _ 1 c9.sb (wkC c9 () ()) ?_ wx (gu (n:=r) (p:=xb) pH.2.2.2.2 (cH wx).1) (Β _) b1;rw[du,ah];show{t2,01,aa,2};show{00120013001,by simp only[ah];rfl,1};rw[ah];show{t1,01,s9 _ _ h8,by simp only[Reps];show{001,by simp only[ah,ew],00131}}
 let hn:p.1≠O "number":=λz=>hn (Q9 (congrArg V.str z));let hm:p.1≠O "name":=λz=>hm (Q9 (congrArg V.str z));ext(⟨lsg,lsz,ls5,_⟩:IM _ hq);ext(⟨lsc,ls4⟩:EG _ hq);let lso:=JE _ hq;let lsw:=Gj _ hq;dsimp only at lsg lsz ls5 lsc ls4 lso lsw;let fit1:nE ls+1<=bud/\(nE ls≠0->1<=r):=by unfold cE at fit;rw[lsc]at fit;omega
 show aG λX hX=>{Τ _,λLP hLP=>gs hX λX hX=>{Τ _,λLT hLT=>gs hX λX hX=>?_}};let nP:LP≠wk:=λz=>by rw[z,c5.hk]at hLP;cases hLP
 let nPd:LP≠nd:=λz=>by ext(⟨_,_,e⟩:c5.st);rw[z,e]at hLP;cases hLP
 let fP:H LP=χ:=AX c5.sb hLP nP;let c6:=c5.m (ac hLP (.lst []));let h6:upd H5 LP (.lst []) LP=Z (.lst []):=aa;generalize upd H5 LP (.lst [])=H6 at c6 h6 hLT⊢;let nT:LT≠wk:=λz=>by rw[z,c6.hk]at hLT;cases hLT
 let nTd:LT≠nd:=λz=>by ext(⟨_,_,e⟩:c6.st);rw[z,e]at hLT;cases hLT
 let nTP:LT≠LP:=λz=>by rw[z,h6]at hLT;cases hLT
 let fT:=AX c6.sb hLT nT;let c7:=c6.m (ac hLT (.lst []));let h7:=ac hLT (.lst []) _ _ h6;let g7:upd H6 LT (.lst []) LT=Z (.lst []):=aa;generalize upd H6 LT (.lst [])=H7 at c7 h7 g7⊢;clear hLP hLT h6 c6 c5 hY hZ;show{010011,gs hX λX hX=>{011,p.2,O "e",11,gs hX λX hX=>?_}};show{01,p.2,1,zW (λj σ H'=>∃(o6 o15 o16 o17 o18:Option V) (lf mo:Int) (us:List V) (ds:List Dv) (bs:List Br) (N:Nat),σ=[Z (.ref wk),Z (.ref g),Z (.int (r+1:Nat)),Z (.int bud),Z (.ref nd),Z (.ref S),o6,Z (.str p.1),Z (.str p.2),χ,χ,Z (.ref LP),Z (.ref LT),Z (.int lf),Z (.int mo),o15,o16,o17,o18]/\jb H H' wk sc nd (i+1+N) m/\Kp LP LT us ds bs H'/\pM (Wx r) (ls.take j) ds bs/\((bA (ls.take j) ds).map (cY r)).sum=N/\lf=bud-1-N/\mo=nE (ls.drop j)/\N+nE (ls.drop j)+1<=bud/\∀y,ds[0]?=Z (.str y)->y∈xs)
  {0000000,[],[],[],(0),1,↑c7,{h7,by simp[Reps],g7},.nil,13,lsc,↑fit1.1,λy h=>by simp at h} ?T2 ?_}
 case T2=>
  intro j σ H8 D go hj h;show gs (λ_ _ z=>z) λX hX=>?_;ext(⟨o6,o15,o16,o17,o18,lf,mo,us,ds,bs,N,rfl,c8,k8,ag,eN,elf,emo,hN,hx0⟩:h);rw[lsz]at hj;obtain⟨s0,hs0⟩:∃s0,ls[j]?=Z s0:={ls[j],Δ hj};let htk:ls.take (j+1)=ls.take j++[s0]:=by rw[ϛ,hs0];rfl
  let hdr:ls.drop j=s0::ls.drop (j+1):=by rw[E4 hj];congr 1;rw[Δ hj]at hs0;show Ϟ hs0
  let esg:=Gg lsg (by rw[lsz];show hj) hs0;rw[esg];let pl8:=vI () (λd b h=>oj h) ag;let nx:∀(σ':St)(H':Hp),(∃(o16 o18:Option V) (lf' mo':Int) (v:V) (d:Dv) (b:Br) (N':Nat),σ'=[Z (.ref wk),Z (.ref g),Z (.int (r+1:Nat)),Z (.int bud),Z (.ref nd),Z (.ref S),Z v,Z (.str p.1),Z (.str p.2),χ,χ,Z (.ref LP),Z (.ref LT),Z (.int lf'),Z (.int mo'),Z (.str (lt s0)),o16,Z (bv b),o18]/\jb H H' wk sc nd (i+1+N') m/\Kp LP LT us ds bs H'/\ah H' d v/\Ag (Wx r) s0 d b/\N+((nJ s0 d).map (cY r)).sum=N'/\lf'=bud-1-N'/\mo'=nE (ls.drop (j+1))/\N'+nE (ls.drop (j+1))+1<=bud/\∀y,d=.str y->y∈xs)->X σ' H':=by
   ext _ H9 ⟨o16,o18,lf',mo',v,d,b,N',rfl,c9,k9,R9,ag9,eN',elf',emo',hN',hd9⟩;let pl9:=HM () (λd b h=>oj h) ag9;ext(⟨lb,ld⟩:ag.len);let lu:=k9.rp.length;let lj:(ls.take j).length<=5:=by rw[Ω];omega
   show hX _ _ (aG λX2 hX2=>{01,.inl {10,aw.of k9.hp},01,LP,0011,k9.hp,32});let sB:=ao.upd H9 LP (.lst (us++[v]));let tB:=sB.tups k9.hp;let c10:=c9.l sB fP nP nPd;let h10:upd H9 LP (.lst (us++[v])) LP=Z (.lst (us++[v])):=aa;let g10:=sB _ _ nTP k9.ht;let R10:=Reps.append (bH (λd hd v r=>bD tB (pl8 d hd) r) k9.rp) (aO (bD tB pl9 R9));generalize upd H9 LP (.lst (us++[v]))=HA at sB tB c10 h10 g10 R10⊢;show hX2 _ _ {01,.inl {10,aw.of g10},01,LT,0011,g10,by rw[ε,ι];omega,2};let sC:=ao.upd HA LT (.lst (bs.map bv++[bv b]));let tC:=sC.tups g10;let pl10:∀e∈ds++[d],L2.Pl (2*r+15) e:=λe he=>by
    rcases ϧ.mp he with z|z
    .show pl8 e z
    .rw[ξ.mp z];show pl9
   ext(⟨ags,pts⟩:ag.snoc ag9);show go _ _ {00000,lf',mo',us++[v],ds++[d],bs++[b],N',1,c10.l sC fT nT nTd,{sC _ _ (ϔ nTP) h10,bH (λd hd v r=>bD tC (pl10 d hd) r) R10,by rw[aa,Ε];rfl},by rw[htk];show ags,by rw[htk,pts,Ε,n9,eN];show eN',elf',emo',hN',λy hy=>?_};cases ds with
   |nil=>show hd9 y (Ϟ hy)
   |cons d0 ds=>show hx0 y hy
  show bC λC a hY hZ=>{011012};let hso:=lso s0 (Ν hs0);rcases hso with rfl|hso
  .let nEd:nE (ls.drop j)=nE (ls.drop (j+1))+1:=by rw[hdr];rfl
   let r1':1<=r:=fit1.2 λz=>by
    let:nE ls=nE (ls.take j)+nE (ls.drop j):=by unfold nE;rw[<-Ι,<-PP,J9]
    omega
   show aj (λ_=>hY _ (aG λX hX=>{010011,gs hX λX hX=>{01010011,dm (hX _ _ ?_)}})) (λh=>absurd (Q9 U) h);obtain⟨sh,hsh⟩:∃sh:Nat,lf-(mo-1)=sh:={(lf-(mo-1)).toNat,3};try dsimp only
   rw[hsh];show yb (λσ' H'=>∃sh:Nat,σ'=[Z (.ref wk),Z (.ref g),Z (.int (r+1:Nat)),Z (.int bud),Z (.ref nd),Z (.ref S),o6,Z (.str p.1),Z (.str p.2),χ,χ,Z (.ref LP),Z (.ref LT),Z (.int lf),Z (.int (mo-1)),Z (.str (lt .e)),Z (.int sh),o17,o18]/\jb H H' wk sc nd (i+1+N) m/\Kp LP LT us ds bs H'/\1<=sh/\N+sh+nE (ls.drop (j+1))+1<=bud) ?N3 (λ_ nx3=>?_)
   case N3=>
    ext _ H9 ⟨sh,rfl,c9,k9,sh1,sh2⟩;show aG λX3 hX3=>{010101001101,wk,g,r1,r2,sc,ns,i+1+N,m,xs,ys,r,sh,2,wkC c9 () (),3,ln,woC c9,r1',33,sh1,3,λHA v d b c sA wA RA wx ex cl cu=>?_}
    .change [V.ref wk,V.ref g,V.int (((r+1:Nat):Int)-1),V.int sh]=_;rw[show((r+1:Nat):Int)-1=(r:Int) by omega]
    ext(⟨t,vt,rfl,ht,Rt⟩:ah.tup_inv RA);simp only[Reps]at Rt;ext(⟨w1,_,rfl,e1,w2,_,rfl,e2,w3,_,rfl,e3,rfl⟩:Rt);simp only[ah]at e2 e3;subst e2;subst e3;show{t,01,aq.of ht,10010010011,hX3 _ _ {01010011,dm (nx _ _ {00,lf-c,mo-1,w1,d,b,N+c,1,c9.e sA ?_ nw,k9.b sA (c9.tm sA) nP nT pl8,e1,wx,2333,λy hd=>?_})}}
    .let:=wA.1;rwa[show i+1+(N:Int)+c=i+1+((N+c:Nat):Int) by omega]at this
    .change N+(cY r d+0)=_;rw[ex];rfl
    .show absurd hd (xm (s:=.e) wx (.inl U) y)
   show bC λC a hY hZ=>{01001101,aj (λh0=>hY _ ?_) (λh0=>hZ _ (dR (nx3 _ _ {sh,1,c8,k8,33})))};show{0101,nd,sh,1,c8.st,33,λH9 x s9 st9 x0 x1=>?_};obtain⟨y,rfl⟩:∃y:Nat,x=y:={x.toNat,3};show{0011,dm (nx3 _ _ {1+y,1,c8.d s9 st9 nw fnd,k8.b s9 (c8.st.tups s9) nPd nTd pl8,33})}
  .show aj (λh=>absurd (V.str.inj (Q7 h)) (MP hso)) (λ_=>hZ _ ?_);show{010101,s0,nd,g,r1,r2,xs,ys,1,hso,c8.st,woC c8,λH9 v d b s9 st9 R9 ag9 lb hy=>?_};ext(⟨t,vt,rfl,ht,Rt⟩:ah.tup_inv R9);ext(⟨w1,w2,rfl,e1,e2⟩:Reps.two Rt);simp only[ah]at e2;subst e2;let e0:((nJ s0 d).map (cY r)).sum=0:=by rcases hso with rfl|rfl|rfl|rfl<;>rfl
   let nEd:nE (ls.drop j)=nE (ls.drop (j+1)):=by rw[hdr];rcases hso with rfl|rfl|rfl|rfl<;>rfl
   show{t,01,aq.of ht,10010011,nx _ _ {00,lf,mo,w1,d,b,N,1,c8.d s9 st9 nw fnd,k8.b s9 (c8.st.tups s9) nPd nTd pl8,e1,ag9 _,by rw[e0];rfl,elf,by rw[emo,nEd],3,λy hd=>?_}};rcases hso with z|z|z
   .show absurd hd (xm (r:=r) (ag9 _) (.inr (.inl z)) y)
   .show absurd hd (xm (r:=r) (ag9 _) (.inr (.inr z)) y)
   .ext(⟨y',hy',e,_⟩:hy z);rw[e]at hd;cases hd;show hy'
 ext σ H8 ⟨o6,o15,o16,o17,o18,lf,mo,us,ds,bs,N,rfl,c8,k8,ag,eN,elf,emo,hN,hx0⟩;rw[lsz,Ϥ]at ag eN;let sl:=zd (λd b h=>xr h) ag;rw[eN]at sl;show hX _ _ (aG λX hX=>{0101010101,r,p.1,LP,LT,nd,g,r1,r2,us,ds,bA ls ds,bs,xs,ys,1,k8.hp,k8.rp,k8.ht,nPd,nTd,c8.st,woC c8,Lx hq hn hm ag hx0,3,λH9 v d b s9 st9 R9 wx ex=>?_});ext(⟨t,vt,rfl,ht,Rt⟩:ah.tup_inv R9);ext(⟨w1,w2,rfl,e1,e2⟩:Reps.two Rt);simp only[ah]at e2;subst e2;let c9:=c8.d s9 st9 nw fnd;show{t,01,aq.of ht,10010011,hX _ _ {010101010011,z3,λt2 ht2=>?_}};let sA:=ac ht2 (.tup [w1,bv b,.int ((bud:Int)-lf)]);let cA:=c9.m sA;rw[eN]at ex;let wkA:=wkC cA () ();rw[show i+1+(N:Int)=i+((1+N:Nat):Int) by omega]at wkA;show q _ _ d b (1+N) cA.sb wkA ?_ wx ex () ();rw[ah];show{t2,01,aa,2};simp only[Reps];show{001,e1.mono sA,001300121};simp only[ah];show congrArg V.int ()
end
open PySem L2 KB XB PySem.NumText WR
def jQ(x:Str):Dv:=if vA x=Y then .int ((digitsVal x.cps.toList:Nat):Int)else .non
def zc(x:Str):ah H (jQ x) (oY x):=by unfold jQ oY;split<;>simp only[ah]
def dL(x:Str):Dv:=match Txt.split x (O "*")with
 |[a,b]=>.tup [.str b,jQ a]
 |_=>.tup [.str x,.int 1]
def wY(x:Str):Dv:=match jQ ((Txt.split x (O "+")).getLastD x)with
 |.int c=>.tup [.int c,.tup ((Txt.split x (O "+")).dropLast.map dL)]
 |_=>.tup [.int 0,.tup ((Txt.split x (O "+")).map dL)]
def jJ(s:Str):∀{ys:List Str},ys≠[]->(Ϻ s ys).length+s.length=(ys.map λy=>y.length).sum+ys.length*s.length
 |[a],_=>by rw[bJ];simp
 |a::b::r,_=>by rw[cj,υ,υ,Υ,c_,Λ];let:=jJ s (ys:=b::r) ();rw[Nat.succ_mul];omega
def iL(x:Str)(c:Nat):(Txt.split x {#[c]}).length<=x.length+1/\∀p∈Txt.split x {#[c]},p.length<=x.length:=by let a:=jJ {#[c]} (eJ x {#[c]});let b:=J2 x {#[c]};rw[b]at a;let e:({#[c]}:Str).length=1:=U;rw[e]at a;show{3,λp d=>?_};let g:=hV {#[c]} (Txt.split x {#[c]});rw[b]at g;let h:=rX (j8 (f:=λy:Str=>y.length) d);omega
def xx:O "*"={#[42]}:=()
def Da:O "+"={#[43]}:=()
inductive sH (vs:List V) (H:Hp) (Q:VK) (u3_:XK):Prop|mk (x:Str) (_:vs=[.str x]) (_:x.length<=4900) (_:∀H' w,ae H H'->ah H' (dL x) w->Q w H')
inductive DE (vs:List V) (H:Hp) (Q:VK) (u3_:XK):Prop|mk (x:Str) (_:vs=[.str x]) (_:x.length<=4900) (_:∀H' w,ae H H'->ah H' (wY x) w->Q w H')
def cK(h:H t=Z (.tup [v1,v2]))(b:ah H d1 v1)(a:ah H d2 v2):ah H (.tup [d1,d2]) (.ref t):=by rw[ah];show{t,01,h,by simp only[Reps];show{001,b,001,a,1}}
section
variable{P:Θ}{w:Χ}{K:ζ}{mg:Str->Option θ}{base:ϖ}
def Em(F:Fun K "part_of" "part_of" qa f fd)(T:Txt K mg)(p:aS P w K mg base k "number_of" ["word"] yo):ap P w K mg base aY (k+1) f fd ["text"] sH:=by
 show F.okA (N:=["text","halves"]) λL A G s H vs Q E u2 S h=>?_;ext(⟨x,rfl,u1,q⟩:h);show{0,aQ (aV 1 (fv Ρ r6 r9 eU (wv 0) (ar aP))) (bV (aU av (cn am T.len (aK 1)) az) (cy (ay (eh aF (wv 1) az) (ar (aL p (ar (eh aF (wv 1) az)))))) (bI (cy (ay (wv 0) (ar az))))),2};ext(⟨I,sp⟩:iL x 42);rw[<-xx]at I sp;let g:∀{H':Hp}{w:V}{d:Dv},dL x=d->ae H H'->ah H' d w->Q w H':=λe s R=>q _ _ s (e▸R);unfold dL at g;show aG λX j=>{011,x,O "*",11333,λl D=>?_};let n:=ac D (.lst ((Txt.split x (O "*")).map V.str));let c:upd H l (.lst ((Txt.split x (O "*")).map V.str)) l=Z (.lst ((Txt.split x (O "*")).map V.str)):=aa;generalize upd H l (.lst ((Txt.split x (O "*")).map V.str))=y at n c⊢;show gs j λX j=>bC λu0 M r C=>{01,l,01,.inl (aw.of c),1012};let v:(Txt.split x (O "*")).length≠2->M y:=λo=>by
  show C _ (dR (j _ _ {01,z2,λt m=>?_}));let i:=ac m (.tup [.str x,.int 1]);show g ?_ (n.trans i) (cK aa (d1:=.str x) (d2:=.int 1) () ());split
  .rename_i e;rw[e]at o;show absurd U o
  .rfl
 show aj (λh=>?_) (λh=>v λz=>h (Q9 (by rw[ε,z];rfl)));let u:(Txt.split x (O "*")).length=2:=by let:=V.int.inj (Q7 h);rw[ε]at this;omega
 obtain⟨a,b,e⟩:∃a b,Txt.split x (O "*")=[a,b]:=by
  match Txt.split x (O "*"),u with
  |[a,b],_=>show{a,b,1}
 rw[e]at c g sp;let W:=sp a Γ;show r _ {01,l,0,(1),.str b,11,aw.of c,ad U,01,l,0,(0),.str a,11,aw.of c,ad U,a,1,by change a.length<=5000;omega,λB i=>{z2,λt m=>?_}};show g U (n.trans (i.trans (ac m (.tup [.str b,oY a])))) (cK aa () (zc a))
def FC(F:Fun K "length_of" "length_of" lH f fd)(T:Txt K mg)(b7:aS P w K mg base k "number_of" ["word"] yo)(a5:aS P w K mg base k "part_of" ["text"] sH):ap P w K mg base aY (k+1) f fd ["text"] DE:=by
 show F.okA (N:=["text","texts","count"]) λc9 A c8 s H vs Q E hr nd h=>?_;ext(⟨x,rfl,l9,q⟩:h);show{0,aQ (aV 1 (fv Ρ r6 r9 eU (wv 0) (ar aP))) (aQ (aV 2 (aL b7 (ar (eh aF (wv 1) (Mq rB az))))) (bV (aU fq (wv 2) oR) (cy (ay az (ar (kZ aH T.tuple (ar (lT ["each"] [] (vC (wv 1)) (.of U) U (λ_ _ _=>{pg_name (i:=0) (bp (l:=["each"]) (()) U) U (m_ U)}) (aZ ()) (λ_ _ _=>lF) (λ_ _ _=>(aL a5 (aK 0))))))))) (bI (cy (ay (wv 2) (ar (kZ aH T.tuple (ar (lT ["each"] [] (vC (gp dG (wv 1) ib (fG (Mq rB az)))) (.of U) U (λ_ _ _=>{pg_name (i:=0) (bp (l:=["each"]) (()) U) U (m_ U)}) (aZ ()) (λ_ _ _=>lF) (λ_ _ _=>(aL a5 (aK 0)))))))))))),2};ext(⟨sl,sp⟩:iL x 43);let S:=eJ x {#[43]};rw[<-Da]at sl sp S;let j:∀{H':Hp}{w:V}{d:Dv},wY x=d->ae H H'->ah H' d w->Q w H':=λe s R=>q _ _ s (e▸R);unfold wY at j;show aG λX D=>{011,x,O "+",11333,λl hl=>?_};generalize Txt.split x (O "+")=ts at sl sp S j D⊢;let s1:=ac hl (.lst (ts.map V.str));let h1:upd H l (.lst (ts.map V.str)) l=Z (.lst (ts.map V.str)):=aa;generalize upd H l (.lst (ts.map V.str))=H1 at s1 h1⊢;let rd:∀(us:List Str)(u0:J)(z:Hp){σ:St}{Q2:List V->Hp->Prop},(∀p∈us,p∈ts)->us.length<=ts.length->z u0=Z (.lst (us.map V.str))->(∀ys H',ae z H'->Reps H' (us.map dL) ys->Q2 ys H')->Ck (Hk K u0) 1 [] (dZ 0) Cc (jk sH [] E0 (mR (km 0) pc)) σ z Q2:=λus u0 z σ Q2 hs hn b8 q2=>by
  show eq (λi ys H'=>ae z H'/\Reps H' ((us.take i).map dL) ys) {ae.refl _,by simp[Reps]} (λi ys H' _ p=>aw.of (p.1 _ _ b8)) ?_ ?_
  .ext i ys H3 y hx ⟨u1,G⟩;rw[ϐ]at hx;ext(⟨p,I,rfl⟩:Ϣ.mp hx);let:=sp p (hs p (Ν I));show ba {01,p,13,λH4 w4 v L=>{2,u1.trans v,2}}
   .rw[G.length,ε,Ω,ι];omega
   .rw[ϛ,I,Ε];show Reps.append (G.mono v) (aO L)
  .ext ys H3 ⟨u1,G⟩;rw[ε,Ϥ]at G;show q2 ys H3 u1 G
 obtain⟨g,b,o⟩:∃g b,ts=g++[b]:={ts.dropLast,ts.getLast S,(O9 S).symm};let eb:ts.getLastD x=b:=by rw[o];simp
 let ed:ts.dropLast=g:=by rw[o];simp
 rw[eb,ed]at j;let lb:=sp b (by rw[o];simp);let u3:=h1;rw[o,Ε]at u3;show gs D λX D=>{01,(1),1,l,00,.str b,11,aw.of u3,Ge _ _,b,1,by change b.length<=5000;omega,λz s2=>gs D λX D=>?_};let h2:=s2 _ _ h1;let B:=s1.trans s2;let a6:∀(us:List Str)(c:Int){u:Hp}{t:J}{ys:List V},ae H u->u t=Z (.tup ys)->Reps u (us.map dL) ys->∀m,u m=χ->ah (upd u m (.tup [.int c,.ref t])) (.tup [.int c,.tup (us.map dL)]) (.ref m):=λus c {u t ys} r M R5 m n=>by let a:=ac n (.tup [.int c,.ref t]);show cK aa () (by rw[ah];show{t,ys,1,a _ _ M,R5.mono a})
 cases W:vA b with
 |true=>have u2:oY b=.int ((digitsVal b.cps.toList:Nat):Int):=Q5 W;let eD:jQ b=.int ((digitsVal b.cps.toList:Nat):Int):=Q5 W;rw[u2];rw[eD]at j;show bC λu2 u1 hY hZ=>{01101,aj (λh=>absurd h ()) (λ_=>hZ _ (dR (D _ _ {01012})))};show{0101,l,01,aw.of (s2 _ _ u3),λl3 b9=>?_};rw[show db (g.map V.str++[b].map V.str) χ (Z (-1))=g.map V.str from Dg _ _];show{l3,1,{0,aw.of aa},rd g l3 _ (λp I=>by rw[o];show g_ _ I) (by rw[o,Ι];omega) aa λys H4 v L l5 u4=>?_};let r:=ac u4 (.lst ys);show{l5,01,.inl {aw.of aa,λt M=>{z2,λm n=>?_}}};let a:=ac M (.tup ys);let C:=(ac b9 (.lst (g.map V.str))).trans (v.trans (r.trans a));show j U ((B.trans C).trans (ac n _)) (a6 g _ (B.trans C) aa (L.mono (r.trans a)) m n)
 |false=>have u2:oY b=.non:=Q6 (by rw[W];decide);let eD:jQ b=.non:=Q6 (by rw[W];decide);rw[u2];rw[eD]at j;show bC λu2 u1 hY hZ=>{01101,aj (λ_=>hY _ ?_) (λh=>absurd () h)};show{01,l,1,{0,aw.of h2},rd ts l _ (λp I=>I) (Β _) h2 λys H4 v L l5 u4=>?_};let r:=ac u4 (.lst ys);show{l5,01,.inl {aw.of aa,λt M=>{z2,λm n=>?_}}};let a:=ac M (.tup ys);let C:=v.trans (r.trans a);show j U ((B.trans C).trans (ac n _)) (a6 ts _ (B.trans C) aa (L.mono (r.trans a)) m n)
end
open PySem L2 KB XB WR
def LC{A B:Prop}(h:A->B)(a:A):B:=h a
abbrev KO(w:Str):Prop:=w.length<=4900
mutual
noncomputable def dQ:Br->Prop
 |.leaf w=>KO w
 |.nd w ts=>KO w/\ts.length<=4900/\brSs ts
noncomputable def brSs:List Br->Prop
 |[]=>True
 |t::ts=>dQ t/\brSs ts
end
def dO:∀{ts:List Br},brSs ts->∀u∈ts,dQ u
 |t::ts,h,u,a=>by
  rw[brSs]at h;rcases ν.mp a with rfl|a
  .show h.1
  .show dO h.2 u a
def fF:Br->Dv
 |.leaf w=>wY w
 |.nd _ _=>.non
def fC:Br->Dv
 |.leaf w=>.str w
 |.nd _ _=>.non
def kx(w:Str):Dv:=if vA w=Y then .tup [.str (O "number"),jQ w]else .tup [.str (O "name"),.str w]
def aW:Nat->Br->Dv
 |0,_=>.non
 |_+1,.leaf w=>.tup [.str w]
 |n+1,.nd w ts=>match ts with
  |[a]=>if w=O "place" then .tup [.str (O "place"),fF a]else .non
  |[a,b]=>if w=O "row" then .tup [.str (O "row"),fF a,aW n b]else if w=O "pair" then .tup [.str (O "pair"),aW n a,aW n b]else .non
  |_=>.non
inductive nY (vs:List V) (H:Hp) (Q:VK) (u3_:XK):Prop|mk (v:V) (b:Br) (_:vs=[v]) (_:ah H (cz b) v) (_:dQ b) (_:∀H' w,ae H H'->ah H' (fF b) w->Q w H')
inductive tF (vs:List V) (H:Hp) (Q:VK) (u3_:XK):Prop|mk (v:V) (b:Br) (_:vs=[v]) (_:ah H (cz b) v) (_:∀w,ah H (fC b) w->Q w H)
inductive zk (vs:List V) (H:Hp) (Q:VK) (u3_:XK):Prop|mk (x:Str) (_:vs=[.str x]) (_:x.length<=4900) (_:∀H' w,ae H H'->ah H' (kx x) w->Q w H')
inductive ju (n:Nat) (vs:List V) (H:Hp) (Q:VK) (u3_:XK):Prop|mk (v:V) (b:Br) (_:vs=[v]) (_:ah H (cz b) v) (_:dQ b) (_:dw b<n) (_:∀H' w,ae H H'->ah H' (aW n b) w->Q w H')
def sq(R:ah H (cz b) v):∃a,v=.ref a/\((∃w,b=.leaf w/\H a=Z (.tup [.str w,.non]))\/∃w ts l us,b=.nd w ts/\H a=Z (.tup [.str w,.ref l])/\H l=Z (.lst us)/\Reps H (ts.map cz) us):=by
 cases b with
 |leaf w=>rw[cz]at R;ext(⟨a,rfl,h⟩:BP R);show{a,1,.inl {w,1,h}}
 |nd w ts=>rw[cz,eA]at R;ext(⟨a,l,us,rfl,h,hl,ru⟩:CV R);show{a,1,.inr {w,ts,l,us,1,h,hl,ru}}
section
variable{P:Θ}{w:Χ}{K:ζ}{mg:Str->Option θ}{base:ϖ}
def pd{f:J}{fd:ό}{k:Nat}(F:Fun K "length_in" "length_in" lL f fd)(T:Txt K mg)(Dlength_of:aS P w K mg base k "length_of" ["text"] DE):ap P w K mg base aY (k+1) f fd ["branch"] nY:=by
 show F.okA (N:=["branch"]) λcdv A outer s H vs Q E hr nd h=>?_;ext(⟨v,b,rfl,R,bs,q⟩:h);show{0,bI (Ku (aU fq (bc 0) oR) (aL Dlength_of (ar (bc 0))) oR),2};dsimp only[be,Cx.nox];ext(⟨a,rfl,⟨w,rfl,ha⟩|⟨w,ts,l,us,rfl,ha,_⟩⟩:sq R)
 .rw[dQ]at bs;show{01,a,0,(1),.non,11,aq.of ha,ad (j:=1) U,101,aj (λ_=>?_) (λh=>absurd () h)};show{01,a,0,(0),.str w,11,aq.of ha,ad (j:=0) U,w,1,bs,q}
 .show{01,a,0,(1),.ref l,11,aq.of ha,ad (j:=1) U,101,aj (λh=>absurd h ()) (λ_=>q H _ (ae.refl _) (by rw[fF];simp only[ah]))}
def oh(F:Fun K "word_alone" "word_alone" je f fd)(T:Txt K mg):ap P w K mg base aY 1 f fd ["branch"] tF:=by
 show F.okA (N:=["branch"]) λe A d s H vs Q E i g h=>?_;ext(⟨v,b,rfl,R,q⟩:h);show{0,bI (Ku (aU fq (bc 0) oR) (bc 0) oR),2};ext(⟨a,rfl,⟨w,rfl,c⟩|⟨w,ts,l,us,rfl,c,_⟩⟩:sq R)
 .show{01,a,0,(1),.non,11,aq.of c,ad U,101,aj (λ_=>?_) (λh=>absurd () h)};show{01,a,0,(0),.str w,11,aq.of c,ad U,q _ (by rw[fC];simp only[ah])}
 .show{01,a,0,(1),.ref l,11,aq.of c,ad U,101,aj (λh=>absurd h ()) (λ_=>q _ (by rw[fC];simp only[ah]))}
def tM(F:Fun K "atom_of" "atom_of" qH f fd)(T:Txt K mg)(g:aS P w K mg base k "number_of" ["word"] yo):ap P w K mg base aY (k+1) f fd ["word"] zk:=by
 show F.okA (N:=["word","number"]) λn A m s H vs Q E r o h=>?_;ext(⟨x,rfl,p,q⟩:h);show{0,aQ (aV 1 (aL g (aK 0))) (bI (Ku (aU fq (wv 1) oR) (cy (ay aP (aK 0))) (cy (ay aP (aK 1))))),aG λX j=>{01,x,1,by change x.length<=5000;omega,λl e=>dm (j _ _ ?_)}};cases c:vA x with
 |true=>have a:oY x=.int ((Ϸ x.cps.toList:Nat):Int):=Q5 c;rw[a];show{01101,aj (λh=>absurd h ()) (λ_=>{01,z2,λt b=>?_})};let i:=ac b (.tup [.str (O "number"),.int ((Ϸ x.cps.toList:Nat):Int)]);show q _ _ (e.trans i) ?_;rw[kx,Q5 c];show cK aa () (by let:=zc (H:=upd l t (.tup [.str (O "number"),.int ((Ϸ x.cps.toList:Nat):Int)])) x;rwa[a]at this)
 |false=>
  let d:¬ vA x=Y:=by rw[c];decide
  let a:oY x=.non:=Q6 d;rw[a];show{01101,aj (λ_=>{01,z2,λt b=>?_}) (λh=>absurd () h)};show q _ _ (e.trans (ac b (.tup [.str (O "name"),.str x]))) ?_;rw[kx,Q6 d];show cK aa () ()
def tL{f:J}{fd:ό}{k0 n:Nat}(F:Fun K "kind_in" "kind_in" qg f fd)(T:Txt K mg)(a5:aS P w K mg base k0 "length_in" ["branch"] nY)(u1:aS P w K mg base k0 "kind_in" ["branch"] (ju n)):ap P w K mg base aY (k0+1) f fd ["branch"] (ju (n+1)):=by
 show F.okA (N:=["branch","word","inner"]) λb5 A b4 s H vs Q E hr nd h=>?_;ext(⟨v,b,rfl,R,bs,bd,q⟩:h);show{0,aQ (aV 1 (bc 0)) (aQ (aV 2 (bc 0)) (bV (aU fq (wv 2) oR) (cy (aK 1)) (bV (iz (Bl (aU av (wv 1) aP) (Bk (aU av (cn am T.len (aK 2)) az)))) (cy (ay aP (ar (aL a5 (ar (eh aF (wv 2) az)))))) (bV (iz (Bl (aU av (wv 1) aP) (Bk (aU av (cn am T.len (aK 2)) az)))) (cy (ay aP (ay (aL a5 (ar (eh aF (wv 2) az))) (ar (aL u1 (ar (eh aF (wv 2) az))))))) (bV (iz (Bl (aU av (wv 1) aP) (Bk (aU av (cn am T.len (aK 2)) az)))) (cy (ay aP (ay (aL u1 (ar (eh aF (wv 2) az))) (ar (aL u1 (ar (eh aF (wv 2) az))))))) (bI oR)))))),2};show aG λX d=>?_;ext(⟨a,rfl,⟨w,rfl,S⟩|⟨w,ts,l,us,rfl,S,g,u2⟩⟩:sq R)
 .show{01,a,0,(0),.str w,11,aq.of S,ad U,gs d λX d=>{01,a,0,(1),.non,11,aq.of S,ad U,gs d λX d=>bC λu0 u4 j r=>{01101,aj (λ_=>j _ {01,z1,λt y=>?_}) (λh=>absurd () h)}}};show q _ _ (ac y _) ?_;rw[aW,ah];show{t,01,aa,by simp only[Reps];show{00131}}
 let lu:us.length=ts.length:=by let:=u2.length;rwa[ε]at this
 rw[dQ]at bs;rw[dw]at bd;let B:=dO bs.2.2;let cd:∀u∈ts,dw u<n:=λu hu=>by let:=nh hu;omega
 show{01,a,0,(0),.str w,11,aq.of S,ad U,gs d λX d=>{01,a,0,(1),.ref l,11,aq.of S,ad U,gs d λX d=>bC λu0 u4 j r=>{01101,aj (λh=>absurd h ()) (λ_=>r _ (dR (d _ _ (aG λX d=>bC λu0 u4 j r=>?_))))}}};let ld:∀{k:Nat},ts.length≠k->¬ decide (V.int (us.length:Nat)=V.int (k:Int))=Y:=λh z=>by let:=V.int.inj (Q7 z);omega
 by_cases I:w=O "place"/\ts.length=1
 .ext(⟨c,rfl⟩:List.length_eq_one_iff.mp I.2);ext(⟨o,rfl,W⟩:eu u2);show{01101,aj (λ_=>{01,l,01,.inl (aw.of g),101,aj (λ_=>j _ {01,l,0,(0),o,11,aw.of g,ad U,o,c,1,W,B c Γ,λH1 C i M=>{z2,λt y=>?_}}) (λh=>absurd (Q9 U) h)}) (λh=>absurd (Q9 (congrArg V.str I.1)) h)};let m:=ac y (.tup [.str (O "place"),C]);show q _ _ (i.trans m) ?_;rw[aW,Q5 I.1];show cK aa () (M.mono m)
 show LC (λn1=>{01101,aj (λu3=>{01,l,01,.inl (aw.of g),101,aj (λL=>absurd L (ld λe=>I {V.str.inj (Q7 u3),e})) (λ_=>n1)}) (λ_=>aD n1)}) (r _ (dR (d _ _ (aG λX d=>bC λu0 u4 j r=>?_))));by_cases D:w=O "row"/\ts.length=2
 .ext(⟨c,e,rfl⟩:ke D.2);ext(⟨o,G,rfl,W,r2⟩:Reps.two u2);show{01101,aj (λ_=>{01,l,01,.inl (aw.of g),101,aj (λ_=>j _ {01,l,0,(0),o,11,aw.of g,ad U,o,c,1,W,B c Γ,λH1 C i M=>{01,l,0,(1),G,11,aw.of (i _ _ g),ad U,G,e,1,r2.mono i,B e (),cd e (),λH2 w2 m R2=>{z3,λt y=>?_}}}) (λh=>absurd (Q9 U) h)}) (λh=>absurd (Q9 (congrArg V.str D.1)) h)};let x:=ac y (.tup [.str (O "row"),C,w2]);show q _ _ (i.trans (m.trans x)) ?_;rw[aW,Q5 D.1,ah];show{t,01,aa,by simp only[Reps];show{0013001,M.mono (m.trans x),001,R2.mono x,1}}
 show LC (λn2=>{01101,aj (λu3=>{01,l,01,.inl (aw.of g),101,aj (λL=>absurd L (ld λe=>D {V.str.inj (Q7 u3),e})) (λ_=>n2)}) (λ_=>aD n2)}) (r _ (dR (d _ _ (aG λX d=>bC λu0 u4 j r=>?_))));by_cases p:w=O "pair"/\ts.length=2
 .ext(⟨c,e,rfl⟩:ke p.2);ext(⟨o,G,rfl,W,r2⟩:Reps.two u2);show{01101,aj (λ_=>{01,l,01,.inl (aw.of g),101,aj (λ_=>j _ {01,l,0,(0),o,11,aw.of g,ad U,o,c,1,W,B c Γ,cd c (),λH1 C i M=>{01,l,0,(1),G,11,aw.of (i _ _ g),ad U,G,e,1,r2.mono i,B e (),cd e (),λH2 w2 m R2=>{z3,λt y=>?_}}}) (λh=>absurd (Q9 U) h)}) (λh=>absurd (Q9 (congrArg V.str p.1)) h)};let x:=ac y (.tup [.str (O "pair"),C,w2]);show q _ _ (i.trans (m.trans x)) ?_;rw[aW,Q6 (λz=>absurd (z.symm.trans p.1) ()),Q5 p.1,ah];show{t,01,aa,by simp only[Reps];show{0013001,M.mono (m.trans x),001,R2.mono x,1}}
 let n3:u4 H:=by
  show r _ (dR (d _ _ (q H _ (ae.refl _) ?_)));let e:aW (n+1) (.nd w ts)=.non:=by
   rcases ts with _|⟨c,_|⟨e,_|⟨d,r⟩⟩⟩
   .rw[aW]<;>simp
   .rw[aW,Q6 λz=>I {z,1}]
   .rw[aW,Q6 λz=>D {z,1},Q6 λz=>p {z,1}]
   .rw[aW]<;>simp
  rw[e];simp only[ah]
 show{01101,aj (λu3=>{01,l,01,.inl (aw.of g),101,aj (λL=>absurd L (ld λe=>p {V.str.inj (Q7 u3),e})) (λ_=>n3)}) (λ_=>aD n3)}
end
def vF(R:Br->Dv):So->Br->Dv
 |.l,b=>fF b
 |.k,b=>aW 21 b
 |.x,b=>fC b
 |.y,b=>fC b
 |_,b=>R b
def ce:Nat->Br->Dv
 |0,_=>.non
 |_+1,.leaf w=>kx w
 |n+1,.nd w ts=>if dz w=Y then .tup (.str (O "reckon")::.str w::ts.map (ce n))else if w=O "row" then .tup [.str (O "row"),.tup (ts.map (ce n))]else match WT.find? (λp=>decide (p.1=w))with
  |some p=>.tup (.str w::C5 (vF (ce n)) p.2.2 ts)
  |none=>.tup [.str (O "call"),.str w,.tup (ts.map (ce n))]
inductive pV (n:Nat) (vs:List V) (H:Hp) (Q:VK) (u3_:XK):Prop|mk (v:V) (b:Br) (_:vs=[v]) (_:ah H (cz b) v) (_:dQ b) (_:dw b<n) (_:n<=21) (_:∀H' w,ae H H'->ah H' (ce n b) w->Q w H')
inductive Ho (n:Nat) (vs:List V) (H:Hp) (Q:VK) (u3_:XK):Prop|mk (s:So) (v:V) (b:Br) (_:vs=[.str (fH s),v]) (_:ah H (cz b) v) (_:dQ b) (_:dw b<n) (_:n<=21) (_:∀H' w,ae H H'->ah H' (vF (ce n) s b) w->Q w H')
section
variable{P:Θ}{w:Χ}{K:ζ}{mg:Str->Option θ}{base:ϖ}
def rK(F:Fun K "thing_in" "thing_in" mJ f fd)(T:Txt K mg)(t:aS P w K mg base k "length_in" ["branch"] nY)(u:aS P w K mg base k "kind_in" ["branch"] (ju 21))(p:aS P w K mg base k "word_alone" ["branch"] tF)(o:aS P w K mg base k "expression_in" ["branch"] (pV n)):ap P w K mg base aY (k+1) f fd ["sort","branch"] (Ho n):=by
 show F.okA (N:=["sort","branch"]) λL A G s H vs Q E S B h=>?_;ext(⟨s,v,b,rfl,R,bs,V,D,q⟩:h);show{0,bV (aU av (wv 0) aP) (aL t (aK 1)) (bV (aU av (wv 0) aP) (aL u (aK 1)) (bV (aU av (wv 0) aP) (aL p (aK 1)) (bI (aL o (aK 1))))),aG λX d=>bC λm j c g=>{01101,aj (λh=>c _ ?_) (λh=>g _ (dR (d _ _ (aG λX d=>bC λm j c g=>?_))))}}
 .cases(qk s).mp (Q7 h);show{01,v,b,1,R,bs,q}
 let M:=λz=>h (Q9 ((qk s).mpr z));show{01101,aj (λh=>c _ ?_) (λh=>g _ (dR (d _ _ (aG λX d=>bC λm j c g=>?_))))}
 .cases(qB s).mp (Q7 h);show{01,v,b,1,R,bs,3,q}
 let C:=λz=>h (Q9 ((qB s).mpr z));show{01101,aj (λh=>c _ ?_) (λh=>g _ (dR (d _ _ ?_)))}
 .rcases(tD s).mp (Q7 h)with rfl|rfl
  .show{01,v,b,1,R,λw r=>q H w (ae.refl _) r}
  .show{01,v,b,1,R,λw r=>q H w (ae.refl _) r}
 let i:=λz=>h (Q9 ((tD s).mpr z));let I:vF (ce n) s b=ce n b:=by
  cases s with
  |x=>show absurd (.inl U) i
  |y=>show absurd (.inr U) i
  |l=>show absurd U M
  |k=>show absurd U C
  |e=>rfl
  |n=>rfl
  |w=>rfl
  |f=>rfl
  |a=>rfl
  |r=>rfl
 rw[I]at q;show{01,v,b,1,R,bs,V,D,q}
def jt{f gS gR:J}{fd:ό}{k n:Nat}(F:Fun K "expression_in" "expression_in" gr f fd)(T:Txt K mg)(S:Shp P w K gS)(GS:mg "SHAPES"=Z (.ref gS))(GR:mg "RECKONS"=Z (.ref gR))(hR:∀H,aq K H gR (tQ.map V.str))(Datom_of:aS P w K mg base k "atom_of" ["word"] zk)(Dthing_in:aS P w K mg base k "thing_in" ["sort","branch"] (Ho n))(Dexpression_in:aS P w K mg base k "expression_in" ["branch"] (pV n)):ap P w K mg base aY (k+1) f fd ["branch"] (pV (n+1)):=by
 show F.okA (N:=["branch","word","inner"]) λcdv A outer s H vs Q E hr nd h=>?_;ext(⟨v,b,rfl,R,bs,bd,n21,q⟩:h);ext(⟨kvs,FS,hS,hS2⟩:S.ex);show{0,aQ (aV 1 (bc 0)) (aQ (aV 2 (bc 0)) (bV (aU fq (wv 2) oR) (aL Datom_of (aK 1)) (bV (aU qA (wv 1) (vE (.ref gR) GR)) (bh hJ (cy (ay aP (aK 1))) (kZ aH T.tuple (ar (lT ["each"] [] (vC (wv 2)) (.of U) U (λ_ _ _=>{pg_name (i:=0) (bp (l:=["each"]) (()) U) U (m_ U)}) (aZ ()) (λ_ _ _=>lF) (λ_ _ _=>(aL Dexpression_in (aK 0))))))) (bV (aU av (wv 1) aP) (cy (ay aP (ar (kZ aH T.tuple (ar (lT ["each"] [] (vC (wv 2)) (.of U) U (λ_ _ _=>{pg_name (i:=0) (bp (l:=["each"]) (()) U) U (m_ U)}) (aZ ()) (λ_ _ _=>lF) (λ_ _ _=>(aL Dexpression_in (aK 0))))))))) (bV (aU (IC FS) (wv 1) (vE (.ref gS) GS)) (bh hJ (cy (aK 1)) (kZ aH T.tuple (ar (lT (["sort","each"]) [] {pi_zip2 (c:=Y) U T.zip (pa_cons (pe_getF FS (pe_glob (v:=.ref gS) U GS U) (pv 1) (λ_ _=>U)) (pa_cons (pv 2) pa_nil))} (.of U) U (λ_ _ _=>{pg_tup U (pgs_cons (pg_name (i:=0) (bp (l:=["sort","each"]) (()) U) U (m_ U)) (pgs_cons (pg_name (i:=1) (bp (l:=["sort","each"]) (()) U) U (m_ U)) pgs_nil))}) (iP () ()) (λ_ _ _=>lF) (λ_ _ _=>(aL Dthing_in (ay (wv 0) (aK 1)))))))) (bI (cy (ay aP (ay (wv 1) (ar (kZ aH T.tuple (ar (lT ["each"] [] (vC (wv 2)) (.of U) U (λ_ _ _=>{pg_name (i:=0) (bp (l:=["each"]) (()) U) U (m_ U)}) (aZ ()) (λ_ _ _=>lF) (λ_ _ _=>(aL Dexpression_in (aK 0)))))))))))))))),2};dsimp only[be,Cx.nox];show aG λX hX=>?_;ext(⟨a,rfl,⟨w,rfl,ha⟩|⟨w,ts,l,us,rfl,ha,hl,ru⟩⟩:sq R)
 .rw[dQ]at bs;show{01,a,0,(0),.str w,11,aq.of ha,ad (j:=0) U,gs hX λX hX=>{01,a,0,(1),.non,11,aq.of ha,ad (j:=1) U,gs hX λX hX=>bC λC r hY hZ=>{01101,aj (λ_=>hY _ {01,w,1,bs,q}) (λh=>absurd () h)}}}
 let lu:us.length=ts.length:=by let:=ru.length;rwa[ε]at this
 rw[dQ]at bs;rw[dw]at bd;let cs:=dO bs.2.2;let cd:∀u∈ts,dw u<n:=λu hu=>by let:=nh hu;omega
 let l9:=bs.2.1;let rd:∀{H2:Hp}{σ:St}{Q2:List V->Hp->Prop},ae H H2->(∀ys H',ae H2 H'->Reps H' (ts.map (ce n)) ys->Q2 ys H')->Ck (Hk K l) 1 [] (dZ 0) Cc (jk (pV n) [] E0 (mR (km 0) pc)) σ H2 Q2:=λ{H2 σ Q2} s0 q2=>by
  show eq (xs:=us) (λi ys H'=>ae H2 H'/\Reps H' ((ts.take i).map (ce n)) ys) {ae.refl _,by simp[Reps]} (λi ys H' _ p=>aw.of (p.1 _ _ (s0 _ _ hl))) ?_ ?_
  .ext i ys H3 x hx ⟨s3,R3⟩;ext(⟨c,hc,Re⟩:bZ (f:=cz) ru hx);let hi:=(Ζ.mp hc).1;let cm:=Ν hc;show ba {01,x,c,1,Re.mono (s0.trans s3),cs c cm,cd c cm,3,λH4 w4 s4 R4=>{2,s3.trans s4,2}}
   .rw[R3.length,ε,Ω,ι];omega
   .rw[ϛ,hc,Ε];show Reps.append (R3.mono s4) (aO R4)
  .ext ys H3 ⟨s3,R3⟩;rw[lu,Ϥ]at R3;show q2 ys H3 s3 R3
 show{01,a,0,(0),.str w,11,aq.of ha,ad (j:=0) U,gs hX λX hX=>{01,a,0,(1),.ref l,11,aq.of ha,ad (j:=1) U,gs hX λX hX=>bC λC r hY hZ=>{01101,aj (λh=>absurd h ()) (λ_=>hZ _ (dR (hX _ _ (aG λX hX=>bC λC r hY hZ=>?_))))}}};let cat:∀{d:Dv}{H3:Hp}{t0 t:J}{x:V}{xs ys:List V}{d0:Dv}{ds0 ds1:List Dv},H3 t0=Z (.tup (x::xs))->Reps H3 (d0::ds0) (x::xs)->Reps H3 ds1 ys->ae H H3->d=.tup ((d0::ds0)++ds1)->ce (n+1) (.nd w ts)=d->(x::xs=[]->Q (.ref t) H3)/\(ys=[]->Q (.ref t0) H3)/\∀p,H3 p=χ->Q (.ref p) (upd H3 p (.tup ((x::xs)++ys))):=λ{d H3 t0 t x xs ys d0 ds0 ds1} h0 r0 r1 s3 e e'=>by
  show{nofun,λe1=>?_,λp hp=>?_}
  .let:=r1.length;rw[e1,A3]at this;rw[I0 this.symm,ϣ]at e;show q _ _ s3 ?_;rw[e',e,ah];show{t0,01,h0,r0}
  .let s4:=ac hp (.tup ((x::xs)++ys));show q _ _ (s3.trans s4) ?_;rw[e',e,ah];show{p,01,aa,Reps.append (r0.mono s4) (r1.mono s4)}
 show{01,gR,01,.inr (hR _),1301,aj (λh=>hY _ ?_) (λh=>hZ _ (dR (hX _ _ (aG λX hX=>bC λC r hY hZ=>?_))))}
 .let hr':dz w=Y:=h;show{01,z2,λt0 ht0=>?_};let s1:=ac ht0 (.tup [.str (O "reckon"),.str w]);show{01,l,1,{0,aw.of (s1 _ _ hl)},rd s1 λys H4 s4 R4 l5 hl5=>?_};let s5:=ac hl5 (.lst ys);show{l5,01,.inl {aw.of aa,λt ht=>?_}};let s6:=ac ht (.tup ys);let s46:=s4.trans (s5.trans s6);let h0:=s46 _ _ (aa (H:=H) (a:=t0) (o:=.tup [.str (O "reckon"),.str w]));show yE {t0,t,0011,aq.of h0,aq.of aa,2,cat (d0:=.str (O "reckon")) (ds0:=[.str w]) h0 ?_ (R4.mono (s5.trans s6)) (s1.trans s46) U (by rw[ce,Q5 hr'];rfl)}
  .rw[R4.length,ε,ι];change 2+_<=_;omega
  .simp only[Reps];show{001300131}
 let hr':¬ dz w=Y:=h;show{01101,aj (λh=>hY _ ?_) (λh=>hZ _ (dR (hX _ _ (aG λX hX=>bC λC r hY hZ=>?_))))}
 .let ew:w=O "row":=V.str.inj (Q7 h);show{01,l,1,{0,aw.of hl},rd (ae.refl _) λys H4 s4 R4 l5 hl5=>?_};let s5:=ac hl5 (.lst ys);show{l5,01,.inl {aw.of aa,λt ht=>{z2,λm hm=>?_}}};let s6:=ac ht (.tup ys);let s7:=ac hm (.tup [.str (O "row"),.ref t]);show q _ _ (s4.trans (s5.trans (s6.trans s7))) ?_;rw[ce,Q6 hr',Q5 ew];show cK aa () (by rw[ah];show{t,ys,1,s7 _ _ aa,R4.mono (s5.trans (s6.trans s7))})
 let nw:¬ w=O "row":=λz=>h (Q9 (congrArg V.str z));show{01,w,11012};rw[hS2 w];cases hf:WT.find? (λp=>decide (p.1=w))with
 |none=>
  let e:(WT.any λp=>decide (p.1=w))=Α:=by rw[OD];show N9.mp hf
  rw[e];show aj (λh=>absurd h ()) (λ_=>hZ _ (dR (hX _ _ ?_)));show{0101,l,1,{0,aw.of hl},rd (ae.refl _) λys H4 s4 R4 l5 hl5=>?_};let s5:=ac hl5 (.lst ys);show{l5,01,.inl {aw.of aa,λt ht=>{z3,λm hm=>?_}}};let s6:=ac ht (.tup ys);let s7:=ac hm (.tup [.str (O "call"),.str w,.ref t]);show q _ _ (s4.trans (s5.trans (s6.trans s7))) ?_;rw[ce,Q6 hr',Q6 nw,hf,ah];show{m,01,aa,2};simp only[Reps];show{0013001300121};rw[ah];show{t,ys,1,s7 _ _ aa,R4.mono (s5.trans (s6.trans s7))}
 |some p=>
  let hp:=L_ hf;let ew:p.1=w:=↑(Qy hf)
  let e:(WT.any λp=>decide (p.1=w))=Y:=n_.mpr {p,hp,Q9 ew};rw[e];ext(⟨g,hg,hgT⟩:hS p hp);let h5:=gk p hp;rw[ew]at hg;show aj (λ_=>hY _ ?_) (λh=>absurd () h);show{01,z1,λt0 ht0=>?_};let s1:=ac ht0 (.tup [.str w]);show{01,w,g,11,hg,01,g,l,1,{0,hgT _},{0,aw.of (s1 _ _ hl)},zj (c:=Y) (xs:=p.2.2.map λs=>V.str (fH s)) (ys:=us) (λi ys H'=>ae (upd H t0 (.tup [.str w])) H'/\Reps H' ((C5 (vF (ce n)) p.2.2 ts).take i) ys) {ae.refl _,by simp[Reps]} (λi zs H' p=>{hgT _,aw.of (p.1 _ _ (s1 _ _ hl))}) ?_ ?_}
  .ext i zs H2 x y p2 hx hy ⟨s2,R2⟩ hp2;rw[ϐ]at hx;ext(⟨so,hso,rfl⟩:Ϣ.mp hx);ext(⟨c,hc,Re⟩:bZ (f:=cz) ru hy);let cm:=Ν hc;let hz:(C5 (vF (ce n)) p.2.2 ts)[i]?=Z (vF (ce n) so c):=by rw[List.getElem?_zipWith,hso,hc]
   let hi:=(Ζ.mp hso).1;let q3:=ac hp2 (.tup [.str (fH so),y]);let s3:=s2.trans q3;show eM aa {0101,so,y,c,1,Re.mono (s1.trans s3),cs c cm,cd c cm,3,λH4 w4 s4 R4=>{2,s3.trans s4,2}}
   .rw[R2.length,Ω,ι];omega
   .rw[ϛ,hz];show Reps.append (R2.mono (q3.trans s4)) (aO R4)
  .ext ys H2 ⟨s2,R2⟩ l5 hl5;rw[C4 (by rw[Pb,ε];omega)]at R2;let s5:=ac hl5 (.lst ys);show{l5,01,.inl {aw.of aa,λt ht=>?_}};let s6:=ac ht (.tup ys);let s46:=s2.trans (s5.trans s6);let h0:=s46 _ _ (aa (H:=H) (a:=t0) (o:=.tup [.str w]));show yE {t0,t,0011,aq.of h0,aq.of aa,2,cat (d0:=.str w) (ds0:=[]) h0 (aO ()) (R2.mono (s5.trans s6)) (s1.trans s46) U (by rw[ce,Q6 hr',Q6 nw,hf];rfl)};rw[R2.length,Pb,ι];change 1+_<=_;omega
end
def zC:∀{ts:List Br},(∀u∈ts,dQ u)->brSs ts
 |[],_=>trivial
 |t::ts,h=>{h t Γ,zC λu a=>h u (ς _ a)}
def kb(x:Str):∀(m i:Nat),x.length-i=m->i<=x.length->∃j,i<=j/\j<=x.length/\(∀m,i<=m->m<j->∃c,x.cps.toList[m]?=Z c/\fV c=Α)/\(j<x.length->∃c,x.cps.toList[j]?=Z c/\fV c=Y)
 |0,i,e,hi=>{i,Β _,hi,λm h1 h2=>by omega,λh=>by omega}
 |m+1,i,e,hi=>by
  let hl:i<x.cps.toList.length:=by rw[ύ];change i<x.length;omega
  let hc:=Δ hl;cases hs:fV x.cps.toList[i]with
  |true=>show{i,Β _,hi,λm h1 h2=>by omega,λ_=>{0,hc,hs}}
  |false=>
   obtain⟨j,h1,h2,h3,h4⟩:=kb x m (i+1) () (by change i+1<=x.cps.size;rw[ύ]at hl;omega);show{j,3,h2,λm' g1 g2=>?_,h4};rcases Nat.eq_or_lt_of_le g1 with z|z
   .rw[<-z];show{0,hc,hs}
   .show h3 m' z g2
noncomputable def fK(x:Str)(i:Nat):Nat:=if h:i<=x.length then (kb x _ i U h).choose else i
def Gk{x:Str}{i:Nat}(h:i<=x.length):i<=fK x i/\fK x i<=x.length/\(∀m,i<=m->m<fK x i->∃c,x.cps.toList[m]?=Z c/\fV c=Α)/\(fK x i<x.length->∃c,x.cps.toList[fK x i]?=Z c/\fV c=Y):=by unfold fK;rw[dif_pos h];show(kb x _ i U h).choose_spec
noncomputable def HL(f:Nat->Br×Nat)(x:Str):Nat->List Br->Nat->List Br×Nat
 |0,ts,k=>(ts,k)
 |n+1,ts,k=>if Txt.startswith3 x (O ", ") (k:Int)=Y then HL f x n (ts++[(f (k+2)).1]) (f (k+2)).2 else (ts,k)
noncomputable def BO(x:Str):Nat->Nat->Br×Nat
 |0,i=>(.leaf (Txt.slice x (Z (i:Int)) (Z (fK x i:Int))),fK x i)
 |m+1,i=>if Txt.startswith3 x (O "(") (fK x i:Int)=Y then if Txt.startswith3 x (O ")") ((fK x i+1:Nat):Int)=Y then (.nd (Txt.slice x (Z (i:Int)) (Z (fK x i:Int))) [],fK x i+2)else
   let r:=HL (BO x m) x x.length [(BO x m (fK x i+1)).1] (BO x m (fK x i+1)).2
   (.nd (Txt.slice x (Z (i:Int)) (Z (fK x i:Int))) r.1,if Txt.startswith3 x (O ")") (r.2:Int)=Y then r.2+1 else r.2)
  else (.leaf (Txt.slice x (Z (i:Int)) (Z (fK x i:Int))),fK x i)
def LF{x:Str}{i j:Nat}(h1:i<=j)(h2:j<=x.length):(Txt.slice x (Z (i:Int)) (Z (j:Int))).length<=x.length:=by rw[beq_iff_eq.mp (PyProof.Rows.slice_closesL (x:=x) (i:=i) (j:=(j:Int)) () () ())];change(List.take _ (List.drop _ x.cps.toList)).toArray.size<=_;rw[Κ,Ω,k7,ύ];omega
def Kj:Br->Bool
 |.leaf _=>Α
 |.nd _ _=>Y
def MM{x:Str}{i j:Nat}(d:i<=x.length)(g:i<=j)(k:∀m,i<=m->m<j->∃c,x.cps.toList[m]?=Z c/\fV c=Α)(h:Txt.startswith3 x (O "(") (i:Int)=Y):j=i:=by
 rcases Nat.eq_or_lt_of_le g with z|z
 .show z.symm
 .ext(⟨c,e,n⟩:k i (Β _) z);rw[kr d,beq_iff_eq]at h;let:=congrArg (λl=>l[0]?) h;simp only[List.getElem?_take,List.getElem?_drop,Nat.add_zero]at this;rw[e]at this;let b:c=40:=by let f:(O "(").length=1:=();let a:(O "(").cps.toList=[40]:=();rw[f,a]at this;simpa using this
  rw[b]at n;cases n
def qS{x y:Str}{i:Nat}(a:i<=x.length)(h:Txt.startswith3 x y (i:Int)=Y):i+y.length<=x.length:=by rw[kr a,beq_iff_eq]at h;let:=congrArg H_ h;rw[Ω,k7,ύ,ύ]at this;let c:x.length=x.cps.size:=U;let b:y.length=y.cps.size:=U;omega
inductive ut (C:J) (n:Nat) (vs:List V) (H:Hp) (Q:VK) (u3_:XK):Prop|mk (a:J) (x:Str) (i:Nat) (most:Int) (_:vs=[.ref a,.int most]) (_:Sg C H a x i) (_:x.length<=4890) (_:i<=x.length) (_:0<=most) (_:most<n) (_:∀H' v b j,BO x most.toNat i=(b,j)->ao a H H'->Sg C H' a x j->i<=j->j<=x.length->ah (nw H H') (cz b) v->dQ b->(dw b:Int)<=most->(1<=most->Txt.startswith3 x (O "(") (i:Int)=Y->Kj b=Y)->Q v H')
section
variable{P:Θ}{w:Χ}{K:ζ}{mg:Str->Option θ}{base:ϖ}
def vH{f C g1 g2 g3:J}{fd d1 d2 d3:ό}{k0 n:Nat}(F:Fun K "branch" "Signs.branch" hD f fd)(T:Txt K mg)(cl:uG K C)(m_next_word:vJ K C "next_word" g1)(F_next_word:ap P w K mg base aY k0 g1 d1 ["self"] (BB C))(b_next_word:bo K d1 ["self"] [])
  (m_met:vJ K C "met" g2) (F_met:ap P w K mg base aY k0 g2 d2 ["self","signs"] (HU C)) (b_met:bo K d2 ["self","signs"] []) (m_branch:vJ K C "branch" g3) (F_branch:ap P w K mg base aY k0 g3 d3 ["self","most"] (ut C n)) (b_branch:bo K d3 ["self","most"] []):ap P w K mg base aY (k0+1) f fd ["self","most"] (ut C (n+1)):=by
 show F.okA (N:=["self","most","word","inner"]) λcdv A outer s H vs Q E hr nd h=>?_;ext(⟨a,x,i,most,rfl,sg,lx,hi,m0,mn,q⟩:h);show{0,aQ (aV 2 (Oh (wv 0) cl m_next_word F_next_word hr b_next_word .nil gq)) (bV (iz (me (aU av (wv 1) az) (qu (jP (ii (Jb (wv 0) cl m_met F_met hr b_met .nil gq (ar aP))))))) (cy (ay (wv 2) (ar oR))) (aQ (aV 3 (fu pZ)) (kW (jP (ii (Jb (wv 0) cl m_met F_met hr b_met .nil gq (ar aP)))) (aQ (oF (fv ϑ Ϡ ϡ bq (wv 3) (ar (Jb (wv 0) cl m_branch F_branch hr b_branch .nil gq (ar (bh da (wv 1) az)))))) (aQ (Lv Ϩ (ii (Jb (wv 0) cl m_met F_met hr b_met .nil gq (ar aP))) (cX (oF (fv ϑ Ϡ ϡ bq (wv 3) (ar (Jb (wv 0) cl m_branch F_branch hr b_branch .nil gq (ar (bh da (wv 1) az)))))))) (cX (oF (Jb (wv 0) cl m_met F_met hr b_met .nil gq (ar aP)))))) (bI (cy (ay (wv 2) (aK 3))))))),2};dsimp only[be,Cx.nox];ext(⟨w1,w2,w3,w4⟩:Gk hi);let wl:=LF w1 w2;let r0:most=0->BO x most.toNat i=(.leaf (Txt.slice x (Z (i:Int)) (Z (fK x i:Int))),fK x i):=λz=>by rw[z];rfl
 let r1:¬ most=0->most.toNat=(most-1).toNat+1:=λz=>by omega
 let r2:=λm=>BO.eq_2 x i m;generalize fK x i=j at w1 w2 w3 w4 wl r0 r2;ext(⟨dx,ha⟩:sg);let nN:∀(y:Str)(p:Int),j6 (O "next_word") [(O "text",V.str y),(O "at",V.int p)]=χ:=zG () ();let nM:∀(y:Str)(p:Int),j6 (O "met") [(O "text",V.str y),(O "at",V.int p)]=χ:=zG () ();let nB:∀(y:Str)(p:Int),j6 (O "branch") [(O "text",V.str y),(O "at",V.int p)]=χ:=zG () ();show aG λX hX=>{01,a,dx,01,ha,nN _ _,a,x,i,j,1,{dx,ha},3,w1,w2,w3,w4,λH1 s1 sg1=>gs hX λX hX=>?_};generalize Txt.slice x (Z (i:Int)) (Z (j:Int))=w0 at wl r0 r2⊢;ext(⟨dx1,ha1⟩:id sg1);let leaf:BO x most.toNat i=(.leaf w0,j)->(1<=most->Txt.startswith3 x (O "(") (i:Int)=Y->False)->∀t0,H1 t0=χ->Q (.ref t0) (upd H1 t0 (.tup [.str w0,.non])):=λre no t0 h0=>by
  let n1:t0≠a:=λz=>by rw[z,ha1]at h0;cases h0
  let h00:H t0=χ:=by
   cases e:H t0 with
   |none=>rfl
   |some o=>rw[s1 t0 o n1 e]at h0;cases h0
  show q _ _ (.leaf w0) j re (s1.trans (ae.b a (ac h0 _))) {dx1,ac h0 _ _ _ ha1} w1 w2 ?_ (by rw[dQ];omega) (by rw[dw];show m0) λh1 h2=>(no h1 h2).elim;rw[cz];unfold Bz;rw[ah];show{t0,[.str w0,.non],12,by simp only[Reps];show{001300131}};unfold nw;rw[h00];show aa
 show bC λg c hY hZ=>{01101,aj (λh0=>aA (hY _ {01,z2,leaf (r0 (V.int.inj (Q7 h0))) λh1 _=>by let z:=V.int.inj (Q7 h0);omega})) (λh0=>?_)};let m1:1<=most:=by let:most≠0:=λz=>h0 (Q9 (by rw[z]));omega
 rw[r1 (),r2]at leaf q;show{01,a,dx1,01,ha1,nM _ _,a,x,O "(",j,1,sg1,3,λsf=>{01,aA (hY _ {01,z2,leaf (by rw[sf];rfl) λ_ h2=>by rw[MM hi w1 w3 h2,h2]at sf;cases sf})},λso H2 s2 sg2=>{01,aD (hZ _ (dR (hX _ _ (aG λX hX=>{Τ _,λl hl=>gs hX λX hX=>?_}))))}};rw[so,Q5 U]at q;let lj:=qS w2 so;rw[Ao]at sg2 lj;ext(⟨dx2,ha2⟩:id sg2);let s02:=s1.trans s2;let la:l≠a:=λz=>by rw[z,ha2]at hl;cases hl
 let old:∀b,H2 b=χ->b≠a->H b=χ:=λb hb hba=>by
  cases e:H b with
  |none=>rfl
  |some o=>rw[s02 b o hba e]at hb;cases hb
 let hl0:H l=χ:=old l hl la;let s3:=ac hl (.lst []);let l3:upd H2 l (.lst []) l=Z (.lst []):=aa;let o3:∀b,upd H2 l (.lst []) b=χ->H b=χ:=λb hb=>by
  let h1:b≠l:=λz=>by rw[z,aa]at hb;cases hb
  rw[ai h1]at hb;show old b hb (λz=>by rw[z,ha2]at hb;cases hb)
 let ha3:=s3 _ _ ha2;generalize upd H2 l (.lst [])=H3 at s3 l3 o3 ha3⊢;let s03:=s02.trans (ae.b a s3);clear leaf hY hZ;let wl':∀{H':Hp}{o:HO},ao a H H'->ao a H (upd H' l o):=λ{H' o} s' b ob hb e=>by rw[ai (af e hl0)];show s' b ob hb e
 let sgl:∀{H':Hp}{o:HO}{p:Nat},Sg C H' a x p->Sg C (upd H' l o) a x p:=λ{H' o p} ⟨d,e⟩=>{d,by rw[ai (ϔ la)];show e};let nwl:∀{H':Hp}{o:HO},ae (nw H3 H') (nw H3 (upd H' l o)):=λ{H' o}=>yu λb ob hb e=>by rw[ai (λz=>by rw[z,l3]at hb;cases hb)];show e
 let unl:∀{H':Hp}{o:HO}{b:J},upd H' l o b=χ->H' b=χ:=λ{H' o b} hb=>by
  let h1:b≠l:=λz=>by rw[z,aa]at hb;cases hb
  rwa[ai h1]at hb
 obtain⟨f0,hf⟩:∃f0,BO x (most-1).toNat=f0:={01};rw[hf]at q;obtain⟨RR,hR⟩:∃RR,RR=(if Txt.startswith3 x (O ")") ((j+1:Nat):Int)=Y then (Br.nd w0 [],j+2)else
   let r:=HL f0 x x.length [(f0 (j+1)).1] (f0 (j+1)).2
   (Br.nd w0 r.1,if Txt.startswith3 x (O ")") (r.2:Int)=Y then r.2+1 else r.2)):={01}
 rw[<-hR]at q;let fin:∀(H6:Hp)(us:List V)(ts:List Br)(p:Nat),RR=(Br.nd w0 ts,p)->ao a H H6->Sg C H6 a x p->i<=p->p<=x.length->H6 l=Z (.lst us)->Reps (nw H3 H6) (ts.map cz) us->ts.length<=4900->(∀u∈ts,dQ u/\(dw u:Int)<=most-1)->∀t0,H6 t0=χ->Q (.ref t0) (upd H6 t0 (.tup [.str w0,.ref l])):=λH6 us ts p re s6 sg6 hp hp' l6 R6 l9 ok t0 h0=>by
  ext(⟨dx6,ha6⟩:id sg6);let t0a:t0≠a:=λz=>by rw[z,ha6]at h0;cases h0
  let h00:H t0=χ:=by
   cases e:H t0 with
   |none=>rfl
   |some o=>rw[s6 t0 o t0a e]at h0;cases h0
  let s7:=ac h0 (.tup [.str w0,.ref l]);show q _ _ (.nd w0 ts) p re (s6.trans (ae.b a s7)) {dx6,s7 _ _ ha6} hp hp' ?_ ?_ ?_ λ_ _=>U
  .let R7:Reps (nw H (upd H6 t0 (.tup [.str w0,.ref l]))) (ts.map cz) us:=(R6.mono (yO o3)).mono (yu λb ob hb e=>s7 _ _ e);rw[cz,eA,ah];show{t0,[.str w0,.ref l],122}
   .unfold nw;rw[h00];show aa
   .simp only[Reps];show{001300121};rw[ah];show{l,us,1,by unfold nw;rw[hl0];show s7 _ _ l6,R7}
  .rw[dQ];show{3,l9,zC λu hu=>(ok u hu).1}
  .rw[dw];let:=DZ (n:=(most-1).toNat) (bs:=ts) λu hu=>by let:=(ok u hu).2;omega
   omega
 show bC λg c hY hZ=>{01,a,dx2,01,ha3,nM _ _,a,x,O ")",j+1,1,{dx2,ha3},3,λsf=>{01,aA (hY _ ?_)},λsc H6 s6 sg6=>{01,aD (hZ _ (dR (hX _ _ {0101,z2,2})))}}
 rotate_left
 .let:=qS () sc;rw[yY]at sg6 this;show fin H6 [] [] _ (by rw[hR,Q5 sc]) (s03.trans s6) sg6 () () (s6 _ _ la l3) (by simp only[ϴ,Reps]) (Τ _) nofun
 rw[Q6 (by rw[sf];decide)]at hR;dsimp only at hR;obtain⟨M0,hM⟩:∃M0,M0=HL f0 x x.length [(f0 (j+1)).1] (f0 (j+1)).2:={01};rw[<-hM]at hR;let rd:∀(H4:Hp)(us:List V)(p:Nat)(dxx:J)(c:V->Hp->Prop),H4 a=Z (.ins C dxx [(O "text",.str x),(O "at",.int (p:Int))])->p<=x.length->H4 l=Z (.lst us)->us.length<=4900 ->
   (∀H5 v5 u p5,f0 p=(u,p5)->ao a H4 H5->Sg C H5 a x p5->p<=p5->p5<=x.length->ah (nw H4 H5) (cz u) v5->dQ u->(dw u:Int)<=most-1->c .non (upd H5 l (.lst (us++[v5])))) ->
   ut C n [.ref a,.int (most-1)] H4 (λv H5=>yV (.ref l) [v] H5 c) E0:=λH4 us p dxx c h4 hp hl4 lus k=>
  {a,x,p,most-1,1,{dxx,h4},lx,hp,33,λH5 v5 u p5 r5 s5 sg5 g1 g2 R5 b5 d5 _=>{l,us,v5,11,s5 _ _ la hl4,3,k H5 v5 u p5 (hf▸r5) s5 sg5 g1 g2 R5 b5 d5}}
 show aG λX2 hX2=>{01,.inl {10,aw.of l3},01,a,dx2,01,ha3,nB _ _,0100112};dsimp only[pc,v_,A9,ϣ,mR];show rd H3 [] (j+1) dx2 _ ha3 lj l3 (Τ _) λH4 v4 u4 p4 r4 s4 sg4 g1 g2 R4 b4 d4=>hX2 _ _ (aG λX3 hX3=>?_);rw[r4]at hM;show{λm σ H'=>∃(ts:List Br) (us:List V) (p n':Nat),m=x.length-p/\x.length-p<=n'/\M0=HL f0 x n' ts p/\σ=[Z (.ref a),Z (.int most),Z (.str w0),Z (.ref l)]/\ao a H H'/\Sg C H' a x p/\i<=p/\p<=x.length/\H' l=Z (.lst us)/\Reps (nw H3 H') (ts.map cz) us/\us.length<=p/\(∀u∈ts,dQ u/\(dw u:Int)<=most-1)/\∀b,H' b=χ->H3 b=χ,{0,[u4],[v4],p4,x.length,13,hM,1,wl' (s03.trans s4),sgl sg4,3,g2,aa,(aO R4).mono nwl,by change 1<=p4;omega,λu hu=>by rw[ξ.mp hu];show{b4,d4},λb hb=>qY s4 sg4 (unl hb)},2};ext m σ H5 ⟨ts,us,p,n5,rfl,ln,hN,rfl,s5,sg5,hp5,hp5',l5,R5,lus,ok5,k5⟩;ext(⟨dx5,ha5⟩:id sg5);let lts:us.length=ts.length:=by let:=R5.length;rwa[ε]at this
 show{01,a,dx5,01,ha5,nM _ _,a,x,O ", ",p,1,sg5,3,λsf=>{01,aD (hX3 _ _ ?_)},λsc H6 s6 sg6=>{01,aA ?_}}
 .let e5:M0=(ts,p):=by
   rw[hN];cases n5 with
   |zero=>rfl
   |succ n=>rw[HL,Q6 (by rw[sf];decide)]
  rw[e5]at hR;let done:∀H6 p6,RR=(Br.nd w0 ts,p6)->ao a H5 H6->Sg C H6 a x p6->p<=p6->p6<=x.length->X [Z (.ref a),Z (.int most),Z (.str w0),Z (.ref l)] H6:=λH6 p6 re s6 sg6 g1 g2=>
   hX _ _ {0101,z2,fin H6 us ts p6 re (s5.trans s6) sg6 () g2 (s6 _ _ la l5) (R5.mono (yu λb ob hb e=>s6 b ob (λz=>by rw[z,ha3]at hb;cases hb) e)) () ok5}
  show{01,a,dx5,01,ha5,nM _ _,a,x,O ")",p,1,sg5,3,λsf'=>done H5 p (by rw[hR,Q6 (by rw[sf'];decide)]) (ao.refl _ _) sg5 (Β _) hp5',λsc H6 s6 sg6=>?_};let:=qS hp5' sc;rw[yY]at sg6 this;show done H6 _ (by rw[hR,Q5 sc]) s6 sg6 () this
 .let lp:=qS hp5' sc;rw[iq]at sg6 lp;ext(⟨dx6,ha6⟩:id sg6);let l6:=s6 _ _ la l5;obtain⟨n6,rfl⟩:∃n6,n5=n6+1:={n5-1,3};rw[HL,Q5 sc]at hN;show{λσ' H'=>∃(ts:List Br) (us:List V) (p':Nat),p+2<=p'/\M0=HL f0 x n6 ts p'/\σ'=[Z (.ref a),Z (.int most),Z (.str w0),Z (.ref l)]/\ao a H H'/\Sg C H' a x p'/\i<=p'/\p'<=x.length/\H' l=Z (.lst us)/\Reps (nw H3 H') (ts.map cz) us/\us.length<=p'/\(∀u∈ts,dQ u/\(dw u:Int)<=most-1)/\∀b,H' b=χ->H3 b=χ,λσ' H' ⟨ts',us',p',h1,hN',h2,h3,h4,h5,h6,h7⟩=>{x.length-p',3,ts',us',p',n6,13,hN',h2,h3,h4,h5,h6,h7},2};show{01,.inl {10,aw.of l6},01,a,dx6,01,ha6,nB _ _,0100112};dsimp only[pc,v_,A9,ϣ,mR];show rd H6 us (p+2) dx6 _ ha6 lp l6 () λH7 v7 u7 p7 r7 s7 sg7 g1 g2 R7 b7 d7=>?_;let keep:∀b,H6 b=χ->H3 b=χ:=λb hb=>k5 b (qY s6 sg6 hb);rw[r7]at hN;show{ts++[u7],us++[v7],p7,g1,hN,1,wl' ((s5.trans s6).trans s7),sgl sg7,3,g2,aa,2,by rw[Ι];change _+1<=_;omega,λu hu=>?_,λb hb=>keep b (qY s7 sg7 (unl hb))}
  .rw[Ε];show Reps.append ((R5.mono (yu λb ob hb e=>s7 b ob (λz=>by rw[z,ha3]at hb;cases hb) (s6 b ob (λz=>by rw[z,ha3]at hb;cases hb) e))).mono nwl) (aO ((R7.mono (yO keep)).mono nwl))
  .rcases ϧ.mp hu with h|h
   .show ok5 u h
   .rw[ξ.mp h];show{b7,d7}
end
def qj(x:Str):(jQ x).small=Y:=by unfold jQ;split<;>rfl
def bz(h:x.length<=4900):(Dv.str x).small=Y:=Q9 (by change x.length<=5000;omega)
def cq(e:a.small=Y)(f:b.small=Y):(Dv.tup [a,b]).small=Y:=bb (λd c=>by
 rcases ν.mp c with rfl|c
 .show e
 .rw[ξ.mp c];show f) (by change 2<=5000;decide)
def vL(h:x.length<=4900):(dL x).small=Y:=by
 let sp:=(iL x 42).2;rw[<-xx]at sp;unfold dL
 set_option tactic.hygienic true in split
 .rename_i a b e;rw[e]at sp;let:=sp b ();show cq (bz ()) (qj a)
 .show cq (bz h) U
def qQ:∀(b:List Nat)(a:Nat),(∀c∈b,c<=57)->List.foldl (λa c=>a*10+(c-48)) a b<(a+1)*10^b.length
 |[],a,_=>by simp
 |c::b,a,h=>by let i:=h c Γ;rw[List.foldl_cons,Λ,Nat.pow_succ];show Ϝ (qQ b (a*10+(c-48)) λg e=>h g (ς _ e)) ?_;let f:a*10+(c-48)+1<=(a+1)*10:=();let d:=L0 (10^b.length) f;rw[Nat.mul_assoc,Nat.mul_comm 10]at d;show d
def Cr{x:Str}(h:vA x=Y):((Ϸ x.cps.toList:Nat):Int)<10^60:=by
 ext(⟨h1,_,h3⟩:sX h);let h4:=qQ x.cps.toList 0 λc hc=>(h1 c hc).2;rw[ύ]at h4;let h5:(10:Nat)^x.cps.size<=10^60:=Nat.pow_le_pow_right () h3;let h6:Ϸ x.cps.toList<10^60:=by unfold Ϸ;omega
 exact_mod_cast h6
def zP(d:Dv):Prop:=∃c qs,d=.tup [.int c,.tup qs]/\c<10^60/\qs.length<=4902/\(∀p∈qs,gj p<10^60)/\∀ps,qs=aJ ps->(∀p∈ps,1<=p.2)->(fZ c ps).length<=4900
def om(x:Str):gj (dL x)<10^60:=by
 unfold dL
 set_option tactic.hygienic true in split
 .rename_i a b _;unfold jQ;split
  .rename_i h;show Cr h
  .change(0:Int)<_;decide
 .change(1:Int)<_;decide
def Ea{x:Str}(h:vA x=Y):(eS ((Ϸ x.cps.toList:Nat):Int)).length<=x.length:=by
 ext(⟨h1,h2,_⟩:sX h);let h4:=qQ x.cps.toList 0 λc hc=>(h1 c hc).2;rw[ύ]at h4;show OQ () h2 ?_;let h6:Ϸ x.cps.toList<10^x.length:=by unfold Ϸ;change _<10^x.cps.size;omega
 exact_mod_cast h6
def GC{y x:Str}{n:Int}(e:dL y=.tup [.str x,.int n]):(bL (x,n)).length<=y.length:=by
 let j:=jJ {#[42]} (eJ y {#[42]});let b:=J2 y {#[42]};rw[b,<-xx]at j;unfold dL at e
 set_option tactic.hygienic true in split at e
 .rename_i a b' e';rw[e']at j;simp only[Υ,ϴ,c_,J1,Λ,A3,ul]at j;injection e with e;injection e with e1 e2;injection e1 with e1;injection e2 with e2 _;subst e1;unfold bL;split
  .change b'.length<=_;omega
  .unfold jQ at e2;split at e2
   .rename_i hd;injection e2 with e2;let:=Ea hd;rw[υ,υ,ul];change(eS n).length+1+b'.length<=_;rw[<-e2];omega
   .cases e2
 .injection e with e;injection e with e1 e2;injection e1 with e1;injection e2 with e2 _;injection e2 with e2;subst e1 e2;show Β _
def nq:∀{us:List Str}{ps:List Pr},us.map dL=aJ ps->((ps.map bL).map (·.length)).sum<=(us.map (·.length)).sum/\ps.length=us.length
 |[],[],_=>{Β _,1}
 |[],p::ps,e=>by cases e
 |u::us,[],e=>by cases e
 |u::us,p::ps,e=>by injection e with e1 e2;ext(⟨h1,h2⟩:nq e2);let:=GC e1;simp only[Υ,c_,Λ];show{Nat.add_le_add this h1,3}
def Cp{w:Str}(h9:KO w):zP (wY w)/\(wY w).small=Y:=by
 let sp:=iL w 43;let j:=jJ {#[43]} (eJ w {#[43]});rw[J2 w {#[43]}]at j;let ne:=eJ w {#[43]};rw[<-Da]at sp j ne;rw[tX]at j;ext(⟨hl,sp⟩:sp);let sm:∀(us:List Str)(c:Int),us.length<=4902->(∀p∈us,p.length<=w.length)->(Dv.tup [.int c,.tup (us.map dL)]).small=Y:=λus c l h=>cq U (bb (λd hd=>by ext(⟨p,hp,rfl⟩:ϙ.mp hd);let:=h p hp;show vL ()) (by rw[ε];omega));let jl:∀ys:List Str,ys≠[]->(Ϻ (O "+") ys).length+1=(ys.map (·.length)).sum+ys.length:=λys h=>by let:=jJ (O "+") h;rw[tX]at this;omega
 unfold wY
 set_option tactic.hygienic true in split
 .rename_i c e;obtain⟨us,y,hu⟩:∃us y,Txt.split w (O "+")=us++[y]:={00,(O9 ne).symm};rw[hu]at e hl j⊢;rw[List.getLastD_concat]at e;rw[K_];rw[Ε,n9,Ι]at j;rw[Ι]at hl;simp only[Υ,ϴ,c_,J1,Λ,A3]at j hl;unfold jQ at e
  set_option tactic.hygienic true in split at e
  .rename_i h;injection e with e;show{{c,01,by rw[<-e];show Cr h,by rw[ε];omega,λp hp=>by ext(⟨y,_,rfl⟩:ϙ.mp hp);show om y,λps ep _=>?_},sm _ _ () λp hp=>sp p (by rw[hu];show g_ _ hp)};ext(⟨h1,h2⟩:nq ep);let h3:=Ea h;rw[e]at h3;let h4:(fZ c ps).length+1=_:=jl (cf c ps) ux;unfold cf at h4;split at h4
   .rw[Ε,n9,Ι,ε]at h4;simp only[Υ,ϴ,c_,J1,Λ,A3]at h4;omega
   .rw[ϣ,ε]at h4;omega
  .cases e
 .show{{(0),013,by rw[ε];omega,λp hp=>by ext(⟨y,_,rfl⟩:ϙ.mp hp);show om y,λps ep _=>?_},sm _ _ () sp};ext(⟨h1,h2⟩:nq ep);let h3:ps≠[]:=λz=>by rw[z]at h2;show ne (List.length_eq_zero_iff.mp h2.symm)
  let h4:(fZ 0 ps).length+1=_:=jl (cf 0 ps) ux;unfold cf at h4;rw[Q6 (λz=>z.elim (λa=>a U) h3),ϣ,ε]at h4;omega
def Ee(h:gJ d=Y):∃(x:Str) (n:Int),d=.tup [.str x,.int n]/\dD x=Y/\1<=n:=by
 match d,h with
 |.tup [a,b],h=>
  let h':(bO a&&(cQ b&&Iv 1 b))=Y:=h;simp only[ψ]at h';ext(⟨h1,h2,h3⟩:h');cases a with
  |str x=>
   cases b with
   |int n=>show{x,n,1,h1,Q7 h3}
   |_=>cases h3
  |_=>cases h1
def Bo:∀{d:List Dv}{l:Str},sL l d=Y->∃ps:List Pr,d=aJ ps/\ps.Pairwise LG/\(∀p∈ps,1<=p.2/\dD p.1=Y/\l.cps.toList<p.1.cps.toList)
 |[],l,_=>{[],1,.nil,nofun}
 |q::d,l,h=>by
  simp only[sL,ψ,decide_eq_true_eq]at h;ext(⟨f,c,j⟩:h);ext(⟨x,n,rfl,g,e⟩:Ee f);ext(⟨ps,rfl,i,b⟩:Bo j);let c:=c;show{(x,n)::ps,1,List.pairwise_cons.mpr {λp a=>(b p a).2.2,i},λp a=>?_};rcases ν.mp a with rfl|a
  .show{e,g,c}
  .show{(b p a).1,(b p a).2.1,List.lt_trans c (b p a).2.2}
def Ej{d:Dv}(h:px d=Y)(hk:zP d):∃c ps,d=cw c ps/\Wa c ps:=by ext(⟨c,qs,rfl,c60,l21,t60,tl⟩:hk);ext(⟨c',qs',e,c0,hg⟩:qt h);cases e;ext(⟨ps,rfl,pw,al⟩:Bo hg);let lp:(aJ ps).length=ps.length:=ε _;show{c,ps,1,{{pw,λp hp=>(al p hp).1},c0,c60,3,tl _ U λp hp=>(al p hp).1,λp hp=>{t60 (.tup [.str p.1,.int p.2]) (ϙ.mpr {p,hp,1}),(aX (al p hp).2.1).2}},λp hp=>(al p hp).2.1}
def wC(h:iK d=Y)(a:zP d)(e:d.small=Y):∃c ps,d=cw c ps/\Sm c ps:=by
 let b:px d=Y:=by unfold iK at h;rw[ψ]at h;show h.1
 ext(⟨c,ps,rfl,f⟩:Ej b a);show{c,ps,1,f,h,e}
def ic(h:dQ b):(fF b).small=Y/\∀{p:Dv->Bool},p .non=Α->p (fF b)=Y->zP (fF b):=by
 cases b with
 |leaf w=>rw[dQ]at h;show{(Cp h).2,λ_ _=>(Cp h).1}
 |nd w ts=>show{1,λ{p} h1 h2=>absurd (h1.symm.trans h2) ()}
def ca(h:x.length<=4900:=by decide +kernel):(Dv.str x).small=Y:=bz h
def hF(f:a.small=Y)(g:b.small=Y)(h:c.small=Y):(Dv.tup [a,b,c]).small=Y:=bb (λd e=>by
 rcases ν.mp e with rfl|e
 .show f
 rcases ν.mp e with rfl|e
 .show g
 .rw[ξ.mp e];show h) (by change 3<=5000;decide)
def xW(n:Nat)(w:Str)(ts:List Br):(∃a,ts=[a]/\w=O "place"/\aW (n+1) (.nd w ts)=.tup [.str (O "place"),fF a])\/(∃a b,ts=[a,b]/\w=O "row"/\aW (n+1) (.nd w ts)=.tup [.str (O "row"),fF a,aW n b])\/(∃a b,ts=[a,b]/\w=O "pair"/\aW (n+1) (.nd w ts)=.tup [.str (O "pair"),aW n a,aW n b])\/aW (n+1) (.nd w ts)=.non:=by
 match ts with
 |[]=>show .inr (.inr (.inr (by rw[aW]<;>simp)))
 |[a]=>
  by_cases h:w=O "place"
  .show .inl {a,1,h,by rw[aW,Q5 h]}
  .show .inr (.inr (.inr (by rw[aW,Q6 h])))
 |[a,b]=>
  by_cases h:w=O "row"
  .show .inr (.inl {a,b,1,h,by rw[aW,Q5 h]})
  .by_cases h':w=O "pair"
   .show .inr (.inr (.inl {a,b,1,h',by rw[aW,Q6 h,Q5 h']}))
   .show .inr (.inr (.inr (by rw[aW,Q6 h,Q6 h'])))
 |a::b::c::r=>show .inr (.inr (.inr (by rw[aW]<;>simp)))
def eE:∀{n:Nat}{b:Br},dQ b->(aW n b).small=Y
 |0,_,_=>by rw[aW];rfl
 |n+1,.leaf w,h=>by rw[dQ]at h;rw[aW];show bb (λd hd=>by rw[ξ.mp hd];show bz h) (by change 1<=5000;decide)
 |n+1,.nd w ts,h=>by
  rw[dQ]at h;let cs:=dO h.2.2;rcases xW n w ts with ⟨a,rfl,_,e⟩|⟨a,b,rfl,_,e⟩|⟨a,b,rfl,_,e⟩|e
  .rw[e];show cq ca (ic (cs a ())).1
  .rw[e];show hF ca (ic (cs a ())).1 (eE (cs b ()))
  .rw[e];show hF ca (eE (cs a ())) (eE (cs b ()))
  .rw[e];rfl
def iY:∀{n:Nat}{b:Br},dQ b->bE (aW n b)<=12->∃k:Kd,aW n b=k.dv/\k.All Sm
 |0,_,_,z=>by rw[aW,ie U]at z;omega
 |n+1,.leaf w,h,z=>by
  rw[aW,Lr]at z;split at z
  .rename_i e;show{.whole,by rw[aW,e];rfl,trivial}
  .omega
 |n+1,.nd w ts,h,z=>by
  rw[dQ]at h;let d:=dO h.2.2;rcases xW n w ts with ⟨a,rfl,_,e⟩|⟨a,b,rfl,_,e⟩|⟨a,b,rfl,_,e⟩|e
  .rw[e,Kt]at z;split at z
   .rename_i f;ext(⟨p,g⟩:ic (d a ()));ext(⟨c,ps,l,i⟩:wC f.2 (g U f.2) p);show{.place c ps,by rw[e,l];rfl,i}
   .omega
  .rw[e,Gq,Q6 ()]at z;split at z
   .rename_i f;ext(⟨p,g⟩:ic (d a ()));ext(⟨c,ps,l,i⟩:wC f.2 (g U f.2) p);ext(⟨k,m,o⟩:iY (n:=n) (d b ()) ());show{.row c ps k,by rw[e,l,m];rfl,i,o}
   .omega
  .rw[e,Gq,Q5 U]at z;ext(⟨k,m,o⟩:iY (n:=n) (d a ()) ());ext(⟨j,r,q⟩:iY (n:=n) (d b ()) ());show{.pair k j,by rw[e,m,r];rfl,o,q}
  .rw[e,ie U]at z;omega
def pN(h:dQ b)(z:bE (aW n b)<=12):∃k:Kd,aW n b=k.dv/\k.All Sm/\k.size<=12:=by ext(⟨k,e,a⟩:iY h z);rw[e,jm (dc (λ_ _ h=>h.2) a)]at z;show{k,e,a,z}
def xB(h:w.length<=4900):(kx w).small=Y:=by
 unfold kx;split
 .show cq ca (qj w)
 .show cq ca (bz h)
def uY{n:Nat}{b:Br}(hb:dQ b)(hx:(ce n b).small=Y):∀s:So,(vF (ce n) s b).small=Y
 |.l=>(ic hb).1
 |.k=>eE hb
 |.x=>by cases b with|leaf w=>rw[dQ]at hb;show bz hb|nd w ts=>rfl
 |.y=>by cases b with|leaf w=>rw[dQ]at hb;show bz hb|nd w ts=>rfl
 |.n=>hx
 |.w=>hx
 |.f=>hx
 |.e=>hx
 |.a=>hx
 |.r=>hx
def jx:∀{n:Nat}{b:Br},dQ b->(ce n b).small=Y
 |0,_,_=>by rw[ce];rfl
 |n+1,.leaf w,h=>by rw[dQ]at h;rw[ce];show xB h
 |n+1,.nd w ts,h=>by
  rw[dQ]at h;let cs:=dO h.2.2;let l9:=h.2.1;let hm:∀d∈ts.map (ce n),d.small=Y:=λd hd=>by ext(⟨t,ht,rfl⟩:ϙ.mp hd);show jx (cs t ht)
  let sT:(Dv.tup (ts.map (ce n))).small=Y:=bb hm (by rw[ε];omega);rw[ce];split
  .show bb (λd hd=>?_) (by rw[Λ,Λ,ε];omega);rcases ν.mp hd with rfl|hd
   .show ca
   rcases ν.mp hd with rfl|hd
   .show bz h.1
   .show hm d hd
  .split
   .show cq ca sT
   .split
    .show bb (λd hd=>?_) (by rw[Λ,Pb];omega);rcases ν.mp hd with rfl|hd
     .show bz h.1
     .ext(⟨i,hi⟩:List.getElem?_of_mem hd);rw[List.getElem?_zipWith]at hi
      set_option tactic.hygienic true in split at hi
      .rename_i s t _ ht;rw[<-Ϟ hi];let:=Ν ht;show uY (cs t this) (jx (cs t this)) s
      .cases hi
    .show hF ca (bz h.1) sT
def yi:∀{ts:List Br},(∀t∈ts,∃c,R (f t) c)->∃bs,pX R (ts.map f) bs
 |[],_=>{[],.nil}
 |t::ts,h=>by ext(⟨b,e⟩:h t Γ);obtain⟨bs,a⟩:=yi λu d=>h u (ς _ d);show{b::bs,.cons e a}
def vW(h:cY (n+1) d<=40):fJ d=Y/\∀e∈dX d,cY n e<=40:=by
 rw[cY]at h;split at h
 .rename_i c;show{c,λe a=>?_};let:=rX (j8 (f:=cY n) a);omega
 .omega
def ER(m:Nat)(b:Br):ce m b=.non\/∃ds,ce m b=.tup ds:=by
 match m,b with
 |0,_=>show .inl (by rw[ce])
 |m+1,.leaf w=>rw[ce];unfold kx;split<;>show .inr {01}
 |m+1,.nd w ts=>rw[ce];(repeat' split)<;>show .inr {01}
def wj(m:Nat)(b:Br):lS .n (ce m b)=Α/\lS .w (ce m b)=Α/\lS .f (ce m b)=Α:=by rcases ER m b with e|⟨ds,e⟩<;>rw[e]<;>show⟨rfl,rfl,rfl⟩
def gd:So->Bool
 |.e=>Y
 |.l=>Y
 |.k=>Y
 |.x=>Y
 |.y=>Y
 |_=>Α
def LJ:∀p∈WT,JA p.1=Y->∀s∈p.2.2,gd s=Y:=()
def EJ:∀p∈WT,JA p.1=Y\/p=iA\/p=kX\/p=rF\/p=Ek\/p=xb:=()
def ko(h:bO (fC t)=Y):∃y,fC t=.str y/\dD y=Y:=by
 cases t with
 |leaf w=>show{w,1,h}
 |nd w ts=>cases h
def yf:∀{ss:List So}{ts:List Br},(∀s∈ss,gd s=Y)->pB ss (C5 (vF (ce m)) ss ts)=Y->(∀t∈ts,dQ t)->(∀t∈ts,cY n (ce m t)<=40->∃K,Wx n (ce m t) K)->(∀e∈bA ss (C5 (vF (ce m)) ss ts),cY n e<=40)->∃bs,pM (Wx n) ss (C5 (vF (ce m)) ss ts) bs
 |[],ts,_,_,_,_,_=>by rw[List.zipWith_nil_left];show{[],.nil}
 |s::ss,[],_,h,_,_,_=>by rw[List.zipWith_nil_right]at h;cases h
 |s::ss,t::ts,g,h,bS,ih,hp=>by
  rw[List.zipWith_cons_cons]at h hp⊢;rw[pB,ψ]at h;let q:∀e∈nJ s (vF (ce m) s t)++bA ss (C5 (vF (ce m)) ss ts),cY n e<=40:=hp;obtain⟨bs,Q⟩:=yf (λs A=>g s (ς _ A)) h.2 (λt j=>bS t (ς _ j)) (λt j=>ih t (ς _ j)) λe p=>q e (Ϫ _ p);let i:=g s Γ;let u:=bS t Γ;let d:=h.1;suffices z:∃b,Ag (Wx n) s (vF (ce m) s t) b by ext(⟨b,z⟩:z);show{b::bs,.cons z Q}
  cases s with
  |e=>show ih t Γ ((λe p=>q e (g_ _ p)) _ Γ)
  |l=>have d:=d;ext(⟨E,H⟩:ic u);ext(⟨c,ps,P,X⟩:wC d (H U d) E);show{0,c,ps,P,1,X}
  |k=>have d:=d;ext(⟨k,e,v,z⟩:pN u (Q7 d));show{0,k,e,1,v,z}
  |x=>ext(⟨y,e,o⟩:ko d);show{0,y,e,1,o}
  |y=>ext(⟨y,e,o⟩:ko d);show{0,y,e,1,o}
  |n=>cases i
  |w=>cases i
  |f=>cases i
  |a=>cases i
  |r=>cases i
def yg(h:fA b (.tup ds)=Y):b<=(ds.length:Int)/\ds.length<=4:=by let h:(decide (b<=(ds.length:Int))&&decide ((ds.length:Int)<=4))=Y:=h;rw[ψ,decide_eq_true_eq,decide_eq_true_eq]at h;show{h.1,3}
def xA:∀{n m:Nat}{b:Br},dQ b->cY n (ce m b)<=40->∃b',Wx n (ce m b) b'
 |0,_,_,_,h=>by rw[cY]at h;omega
 |n+1,0,_,_,h=>by let:=(vW h).1;rw[ce]at this;cases this
 |n+1,m+1,.leaf w,hb,h=>by
  ext(⟨h1,-⟩:vW h);rw[ce]at h1⊢;unfold kx at h1⊢;split at h1
  .rename_i hd;rw[Q5 hd];let e:jQ w=.int _:=Q5 hd;rw[e]at h1⊢;rw[show(Dv.tup [.str (O "number"),.int ((Ϸ w.cps.toList:Nat):Int)])=.tup (.str Ek.1::[.int ((Ϸ w.cps.toList:Nat):Int)])from U,bR pH.2.2.2.1,ψ]at h1;let h2:(jV 1000000000000 (.int ((Ϸ w.cps.toList:Nat):Int))&&Y)=Y:=h1.1;rw[J7]at h2;let h2:(decide (0<=((Ϸ w.cps.toList:Nat):Int))&&decide (((Ϸ w.cps.toList:Nat):Int)<1000000000000))=Y:=h2;rw[ψ,decide_eq_true_eq,decide_eq_true_eq]at h2;show{0,by rw[Wx];show .inl {0,h2.1,311}}
  .rename_i hd;rw[Q6 hd];rw[show(Dv.tup [.str (O "name"),.str w])=.tup (.str xb.1::[.str w])from U,bR pH.2.2.2.2,ψ]at h1;let h2:(dD w&&Y)=Y:=h1.1;rw[J7]at h2;show{0,by rw[Wx];show .inr (.inl {w,h2,11})}
 |n+1,m+1,.nd w ts,hb,h=>by
  ext(⟨h1,h2⟩:vW h);rw[dQ]at hb;let cs:=dO hb.2.2;let ih:∀t∈ts,cY n (ce m t)<=40->∃b',Wx n (ce m t) b':=λt ht z=>xA (cs t ht) z;rw[ce]at h1 h2⊢;split at h1
  .rename_i hr;rw[Q5 hr]at h2⊢;rw[show Dv.tup (.str (O "reckon")::.str w::ts.map (ce m))=.tup (.str kX.1::(.str w::ts.map (ce m)))from U]at h1 h2;rw[bR pH.2.1,ψ]at h1;rw[parts_of pH.2.1]at h2;let hl:=sv h1.1;rw[Λ,ε]at hl;obtain⟨t1,t2,rfl⟩:=ke (show ts.length=2 from Nat.succ.inj hl);let h2:∀e∈[ce m t1,ce m t2],cY n e<=40:=h2;ext(⟨b1,w1⟩:ih t1 () (h2 _ ()));ext(⟨b2,w2⟩:ih t2 () (h2 _ ()));show{0,by rw[Wx];show .inr (.inr (.inr (.inl {w,00,b1,b2,hr,w1,w2,11})))}
  .rename_i hr;rw[Q6 hr]at h2⊢;let kid:(∀e∈ts.map (ce m),cY n e<=40)->∃bs,pX (Wx n) (ts.map (ce m)) bs:=λz=>yi λt ht=>ih t ht (z _ (j8 ht));split at h1
   .rename_i hw;rw[Q5 hw]at h2⊢;rw[show Dv.tup [.str (O "row"),.tup (ts.map (ce m))]=.tup (.str rF.1::[.tup (ts.map (ce m))])from U]at h1 h2;rw[bR pH.2.2.1,ψ]at h1;rw[parts_of pH.2.2.1]at h2;let h2:∀e∈ts.map (ce m)++[],cY n e<=40:=h2;rw[ϣ]at h2;let h3:(fA 1 (.tup (ts.map (ce m)))&&Y)=Y:=h1.1;rw[J7]at h3;ext(⟨f1,f2⟩:yg h3);ext(⟨bs,hbs⟩:kid h2);show{0,by rw[Wx];show .inr (.inr (.inr (.inr (.inl {0,bs,3,f2,hbs,11}))))}
   .rename_i hw;rw[Q6 hw]at h2⊢;cases hf:WT.find? (λp=>decide (p.1=w))with
    |none=>rw[hf]at h1 h2;let h1:fJ (.tup (.str iA.1::[.str w,.tup (ts.map (ce m))]))=Y:=h1;let h2:∀e∈dX (.tup (.str iA.1::[.str w,.tup (ts.map (ce m))])),cY n e<=40:=h2;rw[bR pH.1,ψ]at h1;rw[parts_of pH.1]at h2;let h2:∀e∈[]++(ts.map (ce m)++[]),cY n e<=40:=h2;rw[ϣ,v_]at h2;let h3:(oB (.str w)&&(fA 0 (.tup (ts.map (ce m)))&&Y))=Y:=h1.1;rw[J7,ψ]at h3;ext(⟨-,f2⟩:yg h3.2);let h4:(dD w&&(!cZ w && !dz w))=Y:=h3.1;simp only[ψ,P_]at h4;ext(⟨bs,hbs⟩:kid h2);show{0,by rw[Wx];show .inr (.inr (.inl {w,0,bs,h4.1,h4.2.1,h4.2.2,f2,hbs,11}))}
    |some p=>
     rw[hf]at h1 h2;let hp:=L_ hf;let ew:p.1=w:=↑(Qy hf)
     let h1:=h1;let h2:=h2;subst ew;rw[bR hp,ψ]at h1;rw[parts_of hp]at h2;ext(⟨h1,h3⟩:h1);rcases EJ p hp with g|rfl|rfl|rfl|rfl|rfl
     .ext(⟨bs,hbs⟩:yf (LJ p hp g) h1 cs ih h2)
      let h4:p.1≠"fold"\/kJ (C5 (vF (ce m)) p.2.2 ts)=Y:=by
       rcases Bool.or_eq_true_iff.mp h3 with z|z
       .show .inl (Q7 z)
       .show .inr z
      show{0,by rw[Wx];show .inr (.inr (.inr (.inr (.inr {p,0,bs,hp,g,hbs,h4,11}))))}
     .cases ts with
      |nil=>cases h1
      |cons t ts=>have h1:(lS .f (ce m t)&&_)=Y:=h1;rw[(wj m t).2.2]at h1;cases h1
     .cases ts with
      |nil=>cases h1
      |cons t ts=>have h1:(lS .w (ce m t)&&_)=Y:=h1;rw[(wj m t).2.1]at h1;cases h1
     .show absurd U hw
     .cases ts with
      |nil=>cases h1
      |cons t ts=>have h1:(lS .n (ce m t)&&_)=Y:=h1;rw[(wj m t).1]at h1;cases h1
     .cases ts with
      |nil=>cases h1
      |cons t ts=>
       let h1:(bO (fC t)&&Y)=Y:=by rw[J7];let h1:(bO (fC t)&&pB [] (C5 (vF (ce m)) [] ts))=Y:=h1;rw[ψ]at h1;show h1.1
       rw[J7]at h1;ext(⟨y,e,hy⟩:ko h1);let h5:Dv.tup (.str xb.1::C5 (vF (ce m)) xb.2.2 (t::ts))=.tup [.str (O "name"),.str y]:=by change Dv.tup [.str (O "name"),fC t]=_;rw[e]
       show{.leaf y,by rw[Wx];show .inr (.inl {y,hy,h5,1})}
open PySem L2 KB XB L2.EX WR
abbrev yd(x:Str):Prop:=x.length<=4800
noncomputable def HN(x:Str):Br:=(BO x 20 0).1
noncomputable def xF(x:Str):Dv:=ce 21 (HN x)
inductive Dr (vs:List V) (H:Hp) (Q:VK) (u3_:XK):Prop|mk (x:Str) (_:vs=[.str x]) (_:x.length<=4890) (_:∀H' v,ae H H'->ah H' (cz (HN x)) v->dQ (HN x)->dw (HN x)<=20->(Txt.startswith3 x (O "(") ((0:Nat):Int)=Y->Kj (HN x)=Y)->Q v H')
inductive mF (R:Str->Dv) (G:Dv->Prop) (vs:List V) (H:Hp) (Q:VK) (u3_:XK):Prop|mk (x:Str) (_:vs=[.str x]) (_:yd x) (_:∀H' v,ae H H'->ah H' (R x) v->G (R x)->Q v H')
def GE(d:Dv):Prop:=∃b,dQ b/\d=ce 21 b
def NU(E:XK)(H:Hp)(C:J)(p:V):Prop:=∀(H':Hp)(a:J),ae H H'->H' a=Z (.xd [("place",p)])->E (.ref C) (Z a) H'
inductive NP (fr fi fs:J) (R:Str->Dv) (oneD:Dv->Bool) (W:Dv->Str->Prop) (C:J) (vs:List V) (H:Hp) (Q:VK) (E:XK):Prop|mk (x:Str) (p:V) (_:vs=[.str x,.ref fr,.ref fi,.ref fs,p]) (_:yd x) (_:oneD (R x)=Y->W (R x) x->∀H' v,ae H H'->ah H' (R x) v->Q v H') (_:¬ (oneD (R x)=Y/\W (R x) x)->NU E H C p)
section
variable{P:Θ}{w:Χ}{K:ζ}{mg:Str->Option θ}{base:ϖ}
def pk{f C g1 g2:J}{fd d1 d2:ό}{k0:Nat}(F:Fun K "branch_of" "branch_of" lc f fd)(T:Txt K mg)(cl:uG K C)(M_Signs:Mk K C g1)(F_Signs:ap P w K mg base aY k0 g1 d1 ["self","text"] (zm C))(B_Signs:bo K d1 ["self","text"] [])(G_Signs:mg "Signs"=Z (.ref C))
  (m_branch:vJ K C "branch" g2) (F_branch:ap P w K mg base aY (k0+1) g2 d2 ["self","most"] (ut C 21)) (b_branch:bo K d2 ["self","most"] []):ap P w K mg base aY (k0+2) f fd ["text"] Dr:=by
 show F.okA (N:=["text"]) λcdv A outer s H vs Q E hr nd h=>?_;ext(⟨y,rfl,ts,q⟩:h);let nB:∀(y:Str)(p:Int),j6 (O "branch") [(O "text",V.str y),(O "at",V.int p)]=χ:=zG () ();show{0,bI (Jb (Oi M_Signs F_Signs hr U G_Signs B_Signs .nil gq (aK 0)) cl m_branch F_branch hr b_branch .nil gq (ar {T.g_MOST_BRACKETS U})),2};show{01,λx dx nx ndx nex=>{x,dx,y,1,aa,λH1 s1 sg1=>{12}}};ext(⟨dx1,ha1⟩:id sg1);show{x,dx1,01,ha1,nB _ _,x,y,(0),(20),1,sg1,ts,Τ _,33,λH2 v b j re s2 sg2 _ _ R2 bs bd nd=>?_};obtain rfl:HN y=b:=by change(BO y 20 0).1=b;rw[show BO y 20 0=(b,j)from re]
 show q H2 v (λb o e=>?_) (R2.mono Ia) bs () (nd ());let bx:b≠x:=af e nx;let bd:b≠dx:=af e ndx;show s2 b o bx (s1 b o bx (by rw[ai bx,ai bd];show e))
def ja{f:J}{fd:ό}{k0:Nat}(F:Fun K "expression_of" "expression_of" gt f fd)(T:Txt K mg)(Dbranch_of:aS P w K mg base k0 "branch_of" ["text"] Dr)(Dexpression_in:aS P w K mg base k0 "expression_in" ["branch"] (pV 21)):ap P w K mg base aY (k0+1) f fd ["text"] (mF xF GE):=by show F.okA (N:=["text"]) λcdv A outer s H vs Q E hr nd h=>?_;ext(⟨x,rfl,ts,q⟩:h);show{0,bI (aL Dexpression_in (ar (aL Dbranch_of (aK 0)))),2};show{01,{x,1,ϩ ts (),λH1 v1 s1 R1 bs bd _=>{v1,01,R1,bs,33,λH2 v2 s2 R2=>q H2 v2 (s1.trans s2) R2 {0,bs,1}}}}
def tz{f fr fi fs D fI aNoWords:J}{fd dr di ds fdI:ό}{pr pi pz psI:List Str}{k0:Nat}{R:Str->Dv}{W:Dv->Str->Prop}{G:Dv->Prop}{oneD:Dv->Bool}(F:Fun K "just_so" "just_so" ki f fd)(T:Txt K mg)(c_NoWords:eT K D fI aNoWords)(G_NoWords:mg "NoWords"=Z (.ref aNoWords))(FI:ap P w K mg base aY k0 fI fdI psI (fX K D fI))(BI:bo K fdI psI [])
  (hG:∀{d},G d->d.small=Y/\(oneD d=Y->∃x',W d x'))
  (FV_reader:ap P w K mg base aY (k0+1) fr dr pr (mF R G)) (KV_reader:ϥ K (.ref fr)=Y) (BV_reader:bo K dr pr [])
  (FV_is_one:ap P w K mg base aY (k0+1) fi di pi (ir oneD)) (KV_is_one:ϥ K (.ref fi)=Y) (BV_is_one:bo K di pi []) (FV_shower:ap P w K mg base aY (k0+1) fs ds pz (BR W)) (KV_shower:ϥ K (.ref fs)=Y) (BV_shower:bo K ds pz []):
  ap P w K mg base (dq P w) (k0+2) f fd ["text","reader","is_one","shower","place"] (NP fr fi fs R oneD W aNoWords):=by
 let nd:(["text","reader","is_one","shower","place","thing"]:List Str).Nodup:=nv.nd;show Jw F nv (λvs H Q E h=>?_) (λcdv A outer s H vs Q E hr h=>?_)
 .ext(⟨x,p,rfl,_⟩:h);rfl
 ext(⟨x,p,rfl,ts,q,t⟩:h);show{0,(@un _ _ _ (kW (ii (cn bu T.isinstance (ay (wv 0) (ar (vB (.ty "str") T.str U))))) (aQ (aV 5 (Md 1 FV_reader hr KV_reader BV_reader (aK 0))) (cX (Ap (iz (Bl (ii (Md 2 FV_is_one hr KV_is_one BV_is_one (aK 5))) (Bk (aU av (Md 3 FV_shower hr KV_shower BV_shower (aK 5)) (wv 0))))) (bI (wv 5)) Bh))) (cX (IJ c_NoWords FI hr BI U G_NoWords dA (aK 4))))),2};let rs:∀{H1:Hp},ae H H1->NU E H aNoWords p->∀dx,H1 dx=χ->E (.ref aNoWords) (Z dx) (upd H1 dx (.xd [("place",p)])):=λs1 t dx hd=>t _ dx (s1.trans (ac hd _)) aa;show{0100001,iu.str x,jh K (.str x),2};rw[KN];show{01,aA {101,x,1,ts,λH1 v1 s1 R1 g=>?_}};ext(⟨sm,o1⟩:hG g);show dm {101,v1,R x,1,R1,sm,λH2 s2=>?_};cases ho:oneD (R x)with
 |false=>show{01,aD {0101,rs (s1.trans s2) (t λz=>by rw[ho]at z;cases z.1)}}
 |true=>
  by_cases wx:W (R x) x
  .show{01,aA {101,v1,x,01,R1.mono s2,wx,λH3 s3=>{01101,aj (λ_=>{01,q ho wx H3 v1 (s1.trans (s2.trans s3)) (R1.mono (s2.trans s3))}) (λh=>absurd (Q9 U) h)}}}
  .ext(⟨x',w'⟩:o1 ho);show{01,aA {101,v1,x',01,R1.mono s2,w',λH3 s3=>{01101,aj (λh=>?_) (λ_=>{0101,rs (s1.trans (s2.trans s3)) (t λz=>wx z.2)})}}};let:=V.str.inj (Q7 h);show absurd (this▸w') wx
end
open PySem L2 KB XB WR
abbrev lg:ϯ:=bT 39
abbrev mQ:ϯ:=bT 40
abbrev jI:ϯ:=bT 41
abbrev uy:ϯ:=bT 42
def nU:Dv->Bool
 |.tup ds=>fA 0 (.tup ds)&&ds.all bO
 |_=>Α
def fz:Dv->Bool
 |.tup [a,b]=>bO a&&decide (bE b<=12)
 |_=>Α
def jC:Dv->Bool
 |.tup ds=>fA 0 (.tup ds)&&ds.all fz
 |_=>Α
def LZ(d:Dv):Bool:=decide (cY 8 d<=40)
def ME:List Dv->Bool
 |[e]=>LZ e
 |_=>Α
def Ow:List Dv->Bool
 |[a,b,c,e]=>oB a&&(nU b&&(jC c&&LZ e))
 |_=>Α
def fU:Dv->Bool
 |.tup (.str x::r)=>if x="ask" then ME r else decide (x="def")&&Ow r
 |_=>Α
def zt(e:Dv):fU (.tup [.str "ask",e])=LZ e:=by rw[fU,Q5 U];rfl
def yG(a b c e:Dv):fU (.tup [.str "def",a,b,c,e])=(oB a&&(nU b&&(jC c&&LZ e))):=by rw[fU,Q6 (),Q9 U,o9];rfl
def GK(h:gU d=Α):fU d=Α:=by
 match d,h with
 |.tup (.str x::r),h=>cases h
 |.tup [],_=>rfl
 |.tup (.non::r),_=>rfl
 |.tup (.bl _::r),_=>rfl
 |.tup (.int _::r),_=>rfl
 |.tup (.tup _::r),_=>rfl
 |.tup (.lst _::r),_=>rfl
 |.tup (.dct::r),_=>rfl
 |.non,_=>rfl
 |.bl _,_=>rfl
 |.int _,_=>rfl
 |.str _,_=>rfl
 |.lst _,_=>rfl
 |.dct,_=>rfl
def AN(h:∀a b,ds≠[a,b]):fz (.tup ds)=Α:=by
 match ds with
 |[]=>rfl
 |[_]=>rfl
 |[a,b]=>show absurd U (h a b)
 |_::_::_::_=>rfl
def lY(h:fA 0 (.tup ds)=Y):ds.length<=4:=by simp only[fA,ψ,decide_eq_true_eq]at h;omega
section
variable{P:Θ}{w:Χ}{K:ζ}{mg:Str->Option θ}{base:ϖ}
def rD(F:Fun K "are_names" "are_names" lg f fd)(T:Txt K mg)(Dis_few:aS P w K mg base k "is_few" ["thing","least"] xH)(Dis_name:aS P w K mg base k "is_name" ["thing"] (ir bO)):ap P w K mg base aY (k+1) f fd ["thing"] (ir nU):=by
 show F.okA (N:=["thing"]) λcdv A outer s H vs Q E hr nd h=>?_;ext(⟨v,d,rfl,R,sm,q⟩:h);show{0,bI (iV (aL Dis_few (ay (wv 0) (ar az))) (nO (cn (eG U) T.all (ar (lT ["name"] [] (Bj (wv 0)) (.of U) U (λ_ _ _=>{pg_name (i:=0) (bp (l:=["name"]) (()) U) U (m_ U)}) (aZ ()) (λ_ _ _=>lF) (λ_ _ _=>(aL Dis_name (aK 0)))))))),2};show{01,v,d,(0),1,R,λH1 s1=>{012}};cases d with
 |tup ds=>
  let qd:∀b H',ae H H'->(fA 0 (.tup ds)&&ds.all bO)=b->Q (.bl b) H':=λb H' s' e=>e▸q H' s';cases c0:fA 0 (.tup ds)with
  |false=>show aD (qd _ H1 s1 (by rw[c0];rfl))
  |true=>
   ext(⟨a,us,rfl,ha,ru⟩:ah.tup_inv R);let l4:=lY c0;show aA {01,a,1,{us,aq.of (s1 _ _ ha)},gi (λi ys H'=>ae H H'/\ys=(ds.take i).map λp=>V.bl (bO p)) {s1,1} (λi ys H' _ p=>aq.of (p.1 _ _ ha)) ?_ ?_}
   .ext i ys H2 x hx ⟨s2,rfl⟩;ext(⟨d,hd,Rd⟩:ru.get hx);show ba {01,x,d,1,Rd.mono s2,eK sm d (Ν hd),λH3 s3=>{2,s2.trans s3,2}}
    .rw[ε,Ω,ι];omega
    .rw[ϛ,hd,Ε];rfl
   .ext ys H2 ⟨s2,rfl⟩ r hr';rw[ru.length,Ϥ];show{r,ds.map bO,1,aw.of (by rw[aa,ϗ];rfl),qd _ _ (s2.trans (ac hr' _)) (by rw[c0,OJ];rfl)}
 |_=>show aD (q H1 s1)
def vi(F:Fun K "is_param" "is_param" mQ f fd)(T:Txt K mg)(Dis_name:aS P w K mg base k "is_name" ["thing"] (ir bO))(Dis_kind:aS P w K mg base k "is_kind" ["thing"] nc):ap P w K mg base aY (k+1) f fd ["thing"] (ir fz):=by
 show F.okA (N:=["thing"]) λcdv A outer s H vs Q E hr nd h=>?_;ext(⟨v,d,rfl,R,sm,q⟩:h);show{0,bI (iV (cn bu T.isinstance (ay (wv 0) (ar (vB (.ty "tuple") T.tuple U)))) (iV (jO av (cn am T.len (aK 0)) az) (iV (aL Dis_name (ar (bc 0))) (nO (aL Dis_kind (ar (bc 0))))))),2};show{01,v,0001,R.ty,dC K d,012};let qq:=q H (ae.refl H);cases d with
 |tup ds=>
  ext(⟨a,vs,rfl,ha,rs⟩:ah.tup_inv R);let hl:=rs.length;show aA {01,a,vs,1,.inr (aq.of ha),1012};rcases xj ds with ⟨d0,d1,rfl⟩|no
  .ext(⟨x,y,rfl,R0,R1⟩:Reps.two rs);ext(⟨z0,z1⟩:sM sm);let qe:∀c H',ae H H'->(bO d0&&decide (bE d1<=12))=c->Q (.bl c) H':=λc H' s1 e=>e▸q H' s1;show aA {01,a,0,(0),x,11,aq.of ha,ad U,x,d0,1,R0,z0,λH1 s1=>{012}};cases c0:bO d0 with
   |false=>show aD (qe _ H1 s1 (by rw[c0];rfl))
   |true=>show aA {01,a,0,(1),y,11,aq.of (s1 _ _ ha),ad U,y,d1,1,R1.mono s1,z1,λH2 s2=>qe _ H2 (s1.trans s2) (by rw[c0];rfl)}
  .let hn:¬ (V.int ((vs.length:Nat):Int)=V.int 2):=λe=>rM no (by injection e with e;omega);rw[Q8 hn];rw[AN no]at qq;show aD qq
 |_=>show aD qq
def pE(F:Fun K "are_params" "are_params" jI f fd)(T:Txt K mg)(Dis_few:aS P w K mg base k "is_few" ["thing","least"] xH)(Dis_param:aS P w K mg base k "is_param" ["thing"] (ir fz)):ap P w K mg base aY (k+1) f fd ["thing"] (ir jC):=by
 show F.okA (N:=["thing"]) λcdv A outer s H vs Q E hr nd h=>?_;ext(⟨v,d,rfl,R,sm,q⟩:h);show{0,bI (iV (aL Dis_few (ay (wv 0) (ar az))) (nO (cn (eG U) T.all (ar (lT ["param"] [] (Bj (wv 0)) (.of U) U (λ_ _ _=>{pg_name (i:=0) (bp (l:=["param"]) (()) U) U (m_ U)}) (aZ ()) (λ_ _ _=>lF) (λ_ _ _=>(aL Dis_param (aK 0)))))))),2};show{01,v,d,(0),1,R,λH1 s1=>{012}};cases d with
 |tup ds=>
  let qd:∀b H',ae H H'->(fA 0 (.tup ds)&&ds.all fz)=b->Q (.bl b) H':=λb H' s' e=>e▸q H' s';cases c0:fA 0 (.tup ds)with
  |false=>show aD (qd _ H1 s1 (by rw[c0];rfl))
  |true=>
   ext(⟨a,us,rfl,ha,ru⟩:ah.tup_inv R);let l4:=lY c0;show aA {01,a,1,{us,aq.of (s1 _ _ ha)},gi (λi ys H'=>ae H H'/\ys=(ds.take i).map λp=>V.bl (fz p)) {s1,1} (λi ys H' _ p=>aq.of (p.1 _ _ ha)) ?_ ?_}
   .ext i ys H2 x hx ⟨s2,rfl⟩;ext(⟨d,hd,Rd⟩:ru.get hx);show ba {01,x,d,1,Rd.mono s2,eK sm d (Ν hd),λH3 s3=>{2,s2.trans s3,2}}
    .rw[ε,Ω,ι];omega
    .rw[ϛ,hd,Ε];rfl
   .ext ys H2 ⟨s2,rfl⟩ r hr';rw[ru.length,Ϥ];show{r,ds.map fz,1,aw.of (by rw[aa,ϗ];rfl),qd _ _ (s2.trans (ac hr' _)) (by rw[c0,OJ];rfl)}
 |_=>show aD (q H1 s1)
def AG(F:Fun K "is_row" "is_row" uy f fd)(T:Txt K mg)(a4:aS P w K mg base k "has_word" ["thing"] (HW gU))(B:aS P w K mg base k "is_expression" ["thing"] oA)(a1:aS P w K mg base k "is_def_name" ["thing"] (ir oB))(a3:aS P w K mg base k "are_names" ["thing"] (ir nU))(a2:aS P w K mg base k "are_params" ["thing"] (ir jC)):ap P w K mg base aY (k+1) f fd ["thing"] (ir fU):=by
 show F.okA (N:=["thing"]) λc0 A b8 s H vs Q E hr nd h=>?_;ext(⟨v,d,rfl,R,sm,q⟩:h);show{0,bV (jP (ii (aL a4 (aK 0)))) gA (bV (aU av (bc 0) aP) (iV (jO av (cn am T.len (aK 0)) az) (nO (aL B (ar (bc 0))))) (bV (iz (me (aU eV (bc 0) aP) (qu (aU eV (cn am T.len (aK 0)) az)))) gA (bI (iV (aL a1 (ar (bc 0))) (iV (aL a3 (ar (bc 0))) (iV (aL a2 (ar (bc 0))) (nO (aL B (ar (bc 0)))))))))),2};show{01,v,d,1,R,λn C=>{012}};cases W:gU d with
 |false=>show aA ?_;let:=q n C;rwa[GK W]at this
 |true=>
  show aD ?_;ext(⟨x,r,rfl⟩:iR W);ext(⟨a,vs,rfl,l,rs⟩:ah.tup_inv (R.mono C));ext(⟨y,us,rfl,R0,i⟩:rs);obtain rfl:y=.str x:=R0;let hl:=i.length;let g:=λd hd=>eK sm d (ς _ hd);let j:∀b H',ae n H'->fU (.tup (.str x::r))=b->Q (.bl b) H':=λb H' I e=>e▸q H' (C.trans I);show{01,a,0,(0),.str x,11,aq.of l,ad U,1012};rw[dJ];by_cases t:x="ask"
  .subst t;rw[Q9 U];show aA {01,a,01,.inr (aq.of l),1012};change if decide (V.int _=V.int ((2:Nat):Int))=Y then _ else _
   rw[hU hl 1 2 U];by_cases z:r.length=1
   .rw[Q9 z];match r,us,z,i,g,j with
    |[e],us,_,i,g,j=>simp only[Reps]at i;ext(⟨u,b9,rfl,Ru,rfl⟩:i);show aA {01,a,0,(1),u,11,aq.of l,ad U,u,e,1,Ru,g e Γ,λG c=>j _ G c (zt e)}
   .rw[Q8 z];show aD (j _ n (ae.refl _) ?_);rw[fU,Q5 U];match r,z with
    |[],_=>rfl
    |[e],z=>show absurd U z
    |_::_::_,_=>rfl
  rw[Q8 t];show aD {01,a,0,(0),.str x,11,aq.of l,ad U,1012};rw[dJ];by_cases D:x="def"
  .subst D;rw[Q9 U];show aD {01,a,01,.inr (aq.of l),1012};change if (!decide (V.int _=V.int ((5:Nat):Int)))=Y then _ else _
   rw[hU hl 4 5 U];by_cases z:r.length=4
   .rw[Q9 z];match r,us,z,i,g,j with
    |[d1,d2,M,u1],us,_,i,g,j=>
     simp only[Reps]at i;ext(⟨u4,_,rfl,R1,u0,_,rfl,R2,u2,_,rfl,R3,u3,_,rfl,R4,rfl⟩:i);let o:=λb H' I e=>j b H' I ((yG _ _ _ _).trans e);show aD {01,a,0,(1),u4,11,aq.of l,ad U,u4,d1,1,R1,g d1 (),λG c=>{012}};cases X:oB d1 with
     |false=>show aD (o _ G c (by rw[X];rfl))
     |true=>
      show aA {01,a,0,(2),u0,11,aq.of (c _ _ l),ad U,u0,d2,1,R2.mono c,g d2 (),λH3 m=>{012}};cases L:nU d2 with
      |false=>show aD (o _ H3 (c.trans m) (by rw[X,L];rfl))
      |true=>
       show aA {01,a,0,(3),u2,11,aq.of (m _ _ (c _ _ l)),ad U,u2,M,1,R3.mono (c.trans m),g M (),λH4 p=>{012}};cases S:jC M with
       |false=>show aD (o _ H4 (c.trans (m.trans p)) (by rw[X,L,S];rfl))
       |true=>show aA {01,a,0,(4),u3,11,aq.of (p _ _ (m _ _ (c _ _ l))),ad U,u3,u1,1,R4.mono (c.trans (m.trans p)),g u1 (),λH5 s5=>o _ H5 (c.trans (m.trans (p.trans s5))) (by rw[X,L,S];rfl)}
   .rw[Q8 z];show aA (j _ n (ae.refl _) ?_);rw[fU,Q6 t,Q9 U,o9];match r,z with
    |[],_=>rfl
    |[_],_=>rfl
    |[_,_],_=>rfl
    |[_,_,_],_=>rfl
    |[_,_,_,_],z=>show absurd U z
    |_::_::_::_::_::_,_=>rfl
  rw[Q8 D];show aA (aA (j _ n (ae.refl _) ?_));rw[fU,Q6 t,Q8 D];rfl
end
abbrev jz:ϯ:=bT 59
abbrev mv:ϯ:=bT 60
abbrev vD:=Str×Kd
def gZ(p:vD):Dv:=.tup [.str p.1,p.2.dv]
def gy(p:vD):Str:=p.1++O ": " ++ iW p.2
structure uP(p:vD):Prop where
 nm:dD p.1=Y
 sm:p.2.All Sm
 sz:p.2.size<=12
structure AS(f:Str)(ns:List Str)(ps:List vD):Prop where
 nf:dD f=Y
 wf:cZ f=Α
 rf:dz f=Α
 l4:ns.length<=4
 nn:∀x∈ns,dD x=Y
 p4:ps.length<=4
 pn:∀p∈ps,uP p
def Mp(d:Dv)(b:Br):Prop:=Wx 8 d b/\cY 8 d<=40
def DT(f:Str)(a:List Str)(ps:List vD)(b:Br):Str:=Ϻ (O " ") (O "def" :: f::a)++O " (" ++ Ϻ (O ", ") (ps.map gy)++O ") = " ++ du b
def zB(f:Str)(a:List Str)(ps:List vD)(e:Dv):Dv:=.tup [.str (O "def"),.str f,.tup (a.map Dv.str),.tup (ps.map gZ),e]
def Ae(d:Dv)(x:Str):Prop:=(∃e b,d=.tup [.str (O "ask"),e]/\x=O "ask " ++ du b/\Mp e b)\/∃f a ps e b,d=zB f a ps e/\x=DT f a ps b/\AS f a ps/\Mp e b
def nj(R:ah H (gZ p) v):∃a u,v=.ref a/\H a=Z (.tup [.str p.1,u])/\ah H p.2.dv u:=by ext(⟨a,vs,rfl,e,b⟩:ah.tup_inv R);ext(⟨x,y,rfl,c,d⟩:Reps.two b);subst c;show{a,y,1,e,d}
def gn:∀{b:List Str}{a:List V},Reps H (b.map Dv.str) a->a=b.map V.str
 |[],a,h=>by simpa only[ϴ,Reps]using h
 |n::b,a,h=>by ext(⟨v,r,rfl,c,d⟩:h);rw[c,gn d];rfl
def LY:(O " ").length=1:=()
def LU:(O ": ").length=2:=()
def Op:(O " = ").length=3:=()
def MO:(O "def").length=3:=()
def Id:(O "ask ").length=4:=()
def LM:(O " (").length=2:=()
def MY:(O ") = ").length=4:=()
def xQ{k:Kd}(h:k.All Sm):k.All Wr:=dc (λ_ _ h=>h.1.1) h
def Ec{p:vD}(h:uP p):(gy p).length<=60020:=by let h1:=cg (xQ h.sm);let h2:p.1.length<=8:=(aX h.nm).2;let h3:=h.sz;unfold gy;rw[υ,υ,LU];omega
def qR{ps:List vD}(h:∀p∈ps,uP p)(l4:ps.length<=4):((ps.map gy).map (λx=>x.length)).sum<=240080:=by
 let:=ia (B:=60020) (ys:=ps.map gy) λy hy=>by ext(⟨p,hp,rfl⟩:ϙ.mp hy);show Ec (h p hp)
 rw[ε]at this;omega
def wG(a:AS f ns ps):(((O "def" :: f::ns).map (λx=>x.length)).sum)<=43:=by let c:=ia λy b=>(aX (a.nn y b)).2;let d:f.length<=8:=(aX a.nf).2;let:=a.l4;simp only[Υ,c_,MO];omega
def vO(a:AS f ns ps):(Ϻ (O " ") (O "def" :: f::ns)).length<=60:=by let b:=dN (O " ") (O "def" :: f::ns);let c:=wG a;let:=a.l4;rw[LY]at b;simp only[Λ]at b;omega
def xv{f:Str}{ns:List Str}{ps:List vD}(df:AS f ns ps):(Ϻ (O ", ") (ps.map gy)).length<=241000:=by let h1:=dN (O ", ") (ps.map gy);let h2:=qR df.pn df.p4;let:=df.p4;rw[iq,ε]at h1;omega
def mP{d:Dv}{b:Br}(h:Mp d b):(du b).length<=2560000:=by let:=xr h.1;let:=h.2;change bl b<=_;omega
def Ae.len{d:Dv}{x:Str}(h:Ae d x):x.length<=2900000:=by
 rcases h with ⟨e,b,rfl,rfl,we⟩|⟨f,ns,ps,e,b,rfl,rfl,df,we⟩
 .let:=mP we;rw[υ,Id];omega
 .let h1:=mP we;let h2:=vO df;let h3:=xv df;unfold DT;rw[υ,υ,υ,υ,LM,MY];omega
def EL(j p x:Str):p0++j++O " " ++ (O "" ++ O "(" ++ p++O ")")++O " = " ++ x=j++O " (" ++ p++O ") = " ++ x:=by rw[show O " ("=O " " ++ O "(" by decide +kernel,show O ") = "=O ")" ++ O " = " by decide +kernel,show O ""=p0 from U,m9,m9];simp only[OK]
inductive BH (vs:List V) (H:Hp) (Q:VK) (u3_:XK):Prop|mk (p:vD) (v:V) (_:vs=[.str p.1,v]) (_:ah H p.2.dv v) (_:uP p) (_:∀H',ae H H'->Q (.str (gy p)) H')
section
variable{P:Θ}{w:Χ}{K:ζ}{mg:Str->Option θ}{base:ϖ}
def pf{f:J}{fd:ό}{k:Nat}(F:Fun K "show_param" "show_param" jz f fd)(T:Txt K mg)(Dshow_kind:aS P w K mg base k "show_kind" ["kind"] (iF 12)):ap P w K mg base aY (k+1) f fd ["x","kind"] BH:=by
 show F.okA (N:=["x","kind","shown"]) λcdv A outer s H vs Q E hr nd h=>?_;ext(⟨p,v,rfl,R,ok,q⟩:h);show{0,aQ (aV 2 (aL Dshow_kind (aK 1))) (bI (LQ (uE (Fb (wv 0)) (uE aP (uE (Fb (wv 2)) KD))))),2};let wr:=xQ ok.sm;let h1:=cg wr;let h2:p.1.length<=8:=(aX ok.nm).2;let h3:=ok.sz;show aG λX hX=>{01,v,p.2,1,R,ok.sz,3,wr,λH1 s1=>dm (hX _ _ ?_)};let e1:p0++p.1=p.1:=m9 _;let l1:(p0++p.1).length<=8:=by rw[e1];show h2
 let l2:(p0++p.1++O ": ").length<=10:=by rw[υ,LU];omega
 let l3:(p0++p.1++O ": " ++ iW p.2).length<=60020:=by rw[υ];omega
 show{01,p.1,13,p.1,1301301,iW p.2,1301332};rw[e1];show q H1 s1
def uB{f:J}{fd:ό}{k:Nat}(F:Fun K "show_row" "show_row" mv f fd)(T:Txt K mg)(Dshow_param:aS P w K mg base k "show_param" ["x","kind"] BH)(Dshow_expression:aS P w K mg base k "show_expression" ["expression"] (uF 8))(Din_brackets:aS P w K mg base k "in_brackets" ["word","texts"] ny):ap P w K mg base aY (k+1) f fd ["row"] (BR Ae):=by
 show F.okA (N:=["row","expression","head","params"]) λcdv A outer s H vs Q E hr nd h=>?_;ext(⟨v,x,d,rfl,R,hw,q⟩:h);show{0,aQ (aV 1 (aL Dshow_expression (ar (eh kf (wv 0) (Mq rB az))))) (bV (aU av (bc 0) aP) (LQ (uE aP (uE (Fb (wv 1)) KD))) (aQ (aV 2 (fv Ρ d_ e_ dH aP (ar (bh iQ (fu (ay aP (ar (bc 0)))) (kZ jM T.list (ar (bc 0))))))) (aQ (aV 3 (aL Din_brackets (ay aP (ar (lT (["x","kind"]) [] (Bj (bc 0)) (.of U) U (λ_ _ _=>{pg_tup U (pgs_cons (pg_name (i:=0) (bp (l:=["x","kind"]) (()) U) U (m_ U)) (pgs_cons (pg_name (i:=1) (bp (l:=["x","kind"]) (()) U) U (m_ U)) pgs_nil))}) (iP () ()) (λ_ _ _=>lF) (λ_ _ _=>(aL Dshow_param (ay (wv 0) (aK 1))))))))) (bI (LQ (uE (Fb (wv 2)) (uE aP (uE (Fb (wv 3)) (uE aP (uE (Fb (wv 1)) KD)))))))))),2};dsimp only[be,Cx.nox];rcases hw with ⟨e,b,rfl,rfl,we⟩|⟨f',ns,ps,e,b,rfl,rfl,df,we⟩
 .ext(⟨a,vs,rfl,ha,rs⟩:ah.tup_inv R);ext(⟨w1,w2,rfl,r1,r2⟩:Reps.two rs);simp only[ah]at r1;subst r1;let l0:=mP we;show aG λX hX=>{01,(1),1,a,00,w2,11,aq.of ha,1,w2,e,b,1,r2,we.1,by change(du b).length<=_;omega,λH1 s1=>gs hX λX hX=>?_};show bC λg c hY hZ=>{01,a,0,(0),.str (O "ask"),11,aq.of (s1 _ _ ha),ad (j:=0) U,101,aj (λ_=>hY _ ?_) (λh=>absurd (Q9 U) h)};let e1:p0++O "ask "=O "ask ":=m9 _;let l1:(p0++O "ask ").length<=4:=by rw[e1,Id];show Β _
  let l2:(p0++O "ask " ++ du b).length<=2560004:=by rw[υ];omega
  show{01301,du b,1301332};rw[e1];show q H1 s1
 .obtain⟨a,vs,rfl,ha,rs⟩:=ah.tup_inv (show ah H (.tup [.str (O "def"),.str f',.tup (ns.map Dv.str),.tup (ps.map gZ),e]) v from R);simp only[Reps]at rs;ext(⟨w1,_,rfl,r1,w2,_,rfl,r2,w3,_,rfl,r3,w4,_,rfl,r4,w5,_,rfl,r5,rfl⟩:rs);simp only[ah]at r1 r2;subst r1;subst r2;ext(⟨b1,ws,rfl,hb1,Rb⟩:ah.tup_inv r3);ext(⟨c1,zs,rfl,hc1,Rc⟩:ah.tup_inv r4);let ew:=gn Rb;subst ew;let l0:=mP we;let l1:=vO df;let l2:=wG df;let l3:=qR df.pn df.p4;let l4:=xv df;let n4:=df.l4;let p4:=df.p4;let lz:zs.length=ps.length:=by let:=Rc.length;rwa[ε]at this
  show aG λX hX=>{01,(1),1,a,00,w5,11,aq.of ha,1,w5,e,b,1,r5,we.1,by change(du b).length<=_;omega,λH1 s1=>gs hX λX hX=>?_};show bC λg c hY hZ=>{01,a,0,(0),.str (O "def"),11,aq.of (s1 _ _ ha),ad (j:=0) U,101,aj (λh=>absurd h ()) (λ_=>hZ _ (dR (hX _ _ (aG λX hX=>?_))))};show{101,a,0,(1),.str f',11,aq.of (s1 _ _ ha),ad (j:=1) U,z2,λg1 hg1=>?_};let p1:=s1.trans (ac hg1 (.lst [.str (O "def"),.str f']));let h1:upd H1 g1 (.lst [.str (O "def"),.str f']) g1=Z (.lst [.str (O "def"),.str f']):=aa;generalize upd H1 g1 (.lst [.str (O "def"),.str f'])=H2 at p1 h1⊢;show{01,a,0,(2),.ref b1,11,aq.of (p1 _ _ ha),ad (j:=2) U,b1,01,.inr (aq.of (p1 _ _ hb1)),λg2 hg2=>?_};let q2:=ac hg2 (.lst (ns.map V.str));show{g1,g2,0011,q2 _ _ h1,aa,by rw[ε,ι];change 2+_<=_;omega,λg3 hg3=>?_};let q3:=ac hg3 (.lst ([.str (O "def"),.str f']++ns.map V.str));let p3:=p1.trans (q2.trans q3);let h3:upd (upd H2 g2 (.lst (ns.map V.str))) g3 (.lst ([.str (O "def"),.str f']++ns.map V.str)) g3=Z (.lst ((O "def" :: f'::ns).map V.str)):=aa;generalize upd (upd H2 g2 (.lst (ns.map V.str))) g3 (.lst ([.str (O "def"),.str f']++ns.map V.str))=H3 at p3 h3⊢;show{0,g3,O "def" :: f'::ns,11,aw.of h3,by rw[LY];simp only[Λ];omega,2};rw[tj];show gs hX λX hX=>?_;show{01,a,0,(3),.ref c1,11,aq.of (p3 _ _ ha),ad (j:=3) U,c1,1,{zs,aq.of (p3 _ _ hc1)},gi (xs:=zs) (λi ys H'=>ae H3 H'/\ys=((ps.take i).map gy).map V.str) {ae.refl _,1} (λi ys H' _ p=>aq.of (p.1 _ _ (p3 _ _ hc1))) ?L1 ?_}
  case L1=>
   ext i ys H' x hx ⟨s',rfl⟩;ext(⟨p,hp,Rx⟩:bZ (f:=gZ) Rc hx);ext(⟨e',z,rfl,he,Rz⟩:nj Rx);let hi:i<zs.length:=(Ζ.mp hx).1;let pm:=df.pn p (Ν hp);show eM (s' _ _ (p3 _ _ he)) {0101,p,z,1,Rz.mono (p3.trans s'),pm,λH5 s5=>{2,s'.trans s5,2}}
   .rw[ε,ε,Ω,ι];omega
   .rw[ϛ,hp,Ε,Ε];rfl
  ext ys H4 ⟨s4,rfl⟩ l hl;rw[lz,Ϥ];let s5:=(p3.trans s4).trans (ac hl (.lst ((ps.map gy).map V.str)));show{O "",l,ps.map gy,1,aa,3,by rw[ε];omega,dm (hX _ _ ?_)};generalize upd H4 l (.lst ((ps.map gy).map V.str))=H5 at s5⊢;let lbr:(O "" ++ O "(" ++ Ϻ (O ", ") (ps.map gy)++O ")").length<=241002:=by rw[υ,υ,υ,Ao,yY,show(O "").length=0 by decide +kernel];omega
  let fin:=EL (Ϻ (O " ") (O "def" :: f'::ns)) (Ϻ (O ", ") (ps.map gy)) (du b);generalize O "" ++ O "(" ++ Ϻ (O ", ") (ps.map gy)++O ")"=br at lbr fin⊢;let hq:=q H5 s5;unfold DT at hq;rw[<-fin]at hq;clear fin;generalize Ϻ (O " ") (O "def" :: f'::ns)=hd at l1 hq⊢;let e1:(p0++hd).length<=60:=by rw[m9];show l1
  let e2:(p0++hd++O " ").length<=61:=by rw[υ,LY];omega
  let e3:(p0++hd++O " " ++ br).length<=242000:=by rw[υ];omega
  let e4:(p0++hd++O " " ++ br++O " = ").length<=242003:=by rw[υ,Op];omega
  let e5:(p0++hd++O " " ++ br++O " = " ++ du b).length<=2900000:=by rw[υ];omega
  show{01,hd,13,hd,1301301,br,1301301301,du b,130133,hq}
end
abbrev mU:ϯ:=bT 76
abbrev uM:ϯ:=bT 77
abbrev iG:ϯ:=bT 78
def jY:∀a:List Str,Reps H (a.map Dv.str) (a.map V.str)
 |[]=>by simp only[ϴ,Reps]
 |n::a=>by simp only[Υ,Reps];show{0013,jY a}
section
variable{P:Θ}{w:Χ}{K:ζ}{mg:Str->Option θ}{base:ϖ}
end
abbrev iS:ϯ:=bT 81
abbrev xg:ϯ:=bT 82
def Ew(d:Nat->List V->Hp->Prop)(o:d 0 [] H1)(e:∀i b H,d i b H->aw K H a xs)
  (q:∀i b H x p,xs[i]?=Z x->d i b H->H p=χ->eF k ix g tt te σ (.ref p) b (upd H p (.tup [.int i,x])) (d (i+1))) (r:∀b H,d xs.length b H->Q b H):Ck (Jo K a) k ix g tt te σ H1 Q:=by
 show vm d o (λi b H h p=>?_) (λb H p=>?_) (λi b H x H' h p y=>?_) r
 .show{xs,xs[i],e i b H p,by simp[h]}
 .show{xs,e _ b H p,Β _}
 .ext(⟨c,m,f,n,j,l⟩:y);subst n j;show q i b H m c (l xs (e i b H p)) p f
section
variable{P:Θ}{w:Χ}{K:ζ}{mg:Str->Option θ}{base:ϖ}
def ua:ci ["text","number"] ["text","number"] (ax iS):=()
def zD:ci ["text","rows"] ["text"] (ax xg):=()
end
abbrev HZ:ϯ:=bT 97
inductive Dm (K:ζ) (vs:List V) (H:Hp) (Q:VK) (u3_:XK):Prop|mk (wk g r1 r2 sc:J) (ns:List Int) (i m:Int) (xs ys:List Str) (_:vs=[.ref wk,.ref g]) (_:Wk K H wk sc ns i m) (_:i+41<10^14) (_:ns.length<10^15) (_:Wo H g r1 r2 xs ys) (_:∀(H':Hp)(v:V)(d:Dv)(x:Str)(i':Int),ao wk H H'->Wk K H' wk sc ns i' m->i<=i'->i'<=i+41->ah H' (.tup [d,.str x]) v->Ae d x->Q v H')
def wM{xs:List Str}{i:Int}(d:0<=i)(c:i<xs.length):∃y,y∈xs/\jX (xs.map V.str) i=Z (.str y):=by let b:i.toNat<xs.length:=();show{xs[i.toNat],k_ b,2};let e:=ad (xs:=xs.map V.str) (by rw[ϐ,Δ b];rfl);rwa[show((i.toNat:Nat):Int)=i by omega]at e
def wS(h:p.2.size<=12):L2.Pl 17 (gZ p):=(L2.Pl.tup λd b=>by
 rcases ν.mp b with rfl|b
 .show .str
 .rw[ξ.mp b];show p.2.pl.up ())
structure Kq(LP LT LN:J)(e:Dv)(vo:V)(ns:List Str)(ps:List vD)(us:List V)(H:Hp):Prop where
 re:ah H e vo
 hn:H LN=Z (.lst (ns.map V.str))
 hp:H LP=Z (.lst us)
 rp:Reps H (ps.map gZ) us
 ht:H LT=Z (.lst ((ps.map gy).map V.str))
 ok:∀p∈ps,uP p
 pe:L2.Pl 31 e
section
variable{LP LT LN a:J}{e:Dv}{vo:V}{ns:List Str}{ps:List vD}{us:List V}{H H':Hp}
def Kq.m(k:Kq LP LT LN e vo ns ps us H)(s:ae H H'):Kq LP LT LN e vo ns ps us H':={k.re.mono s,s _ _ k.hn,s _ _ k.hp,k.rp.mono s,s _ _ k.ht,k.ok,k.pe}
def Kq.rb(k:Kq LP LT LN e vo ns ps us H)(t:gz H H'):ah H' e vo/\Reps H' (ps.map gZ) us:={bD t k.pe k.re,bH (λd c v r=>by ext(⟨p,b,rfl⟩:ϙ.mp c);show bD t (wS (k.ok p b).sz) r) k.rp}
def Kq.b(k:Kq LP LT LN e vo ns ps us H)(s:ao a H H')(t:gz H H')(b:LP≠a)(c:LT≠a)(d:LN≠a):Kq LP LT LN e vo ns ps us H':={(k.rb t).1,s _ _ d k.hn,s _ _ b k.hp,(k.rb t).2,s _ _ c k.ht,k.ok,k.pe}
end
section
variable{P:Θ}{w:Χ}{K:ζ}{mg:Str->Option θ}{base:ϖ}
def Jt{f:J}{fd:ό}{k:Nat}(F:Fun K "_law_row" "_law_row" HZ f fd)(T:Txt K mg)(D_law_next:aS P w K mg base k "_law_next" ["_law_walk"] (BX K))(D_law_draw:aS P w K mg base k "_law_draw" ["_law_state_here","_law_many"] dY)(D_law_kind:aS P w K mg base k "_law_kind" ["_law_state_here","_law_names_here","_law_room"] (nX 12))(D_law_kind_text:aS P w K mg base k "_law_kind_text" ["_law_kind_here"] (iF 12))(D_law_expression:aS P w K mg base k "_law_expression" ["_law_walk","_law_world_here","_law_room","_law_budget"] (FL K 8)):ap P w K mg base aY (k+1) f fd ["_law_walk","_law_world_here"] (Dm K):=by
 show F.okA (N:=["_law_walk","_law_world_here","_law_node","_law_way","_law_one","_law_text","_law_nodes","_law_f","_law_names_here","_law_params","_law_words","_law_k","_law_name","_law_kind_here","_law_head"]) λcdv A outer s H vs Q E hr nd h=>?_;ext(⟨wk,g,r1,r2,sc,ns,i,m,xs,ys,rfl,⟨hk0,hsc,i0,i15⟩,i14,ln,wo,q⟩:h);show{0,aQ (aV 2 (aL D_law_next (aK 0))) (aQ (aV 3 (aL D_law_draw (ay (wv 2) (ar az)))) (aQ (Bn (aL D_law_expression (ay (wv 0) (ay (wv 1) (ay az (ar (eh aF (fu (ay az (ay az (ar az)))) (aL D_law_draw (ay (wv 2) (ar az))))))))) (uX (gE (eX 4) (gE (eX 5) (gE (eX 6) tq))))) (bV (aU av (wv 3) az) (cy (ay (cy (ay aP (aK 4))) (ar (bh ak aP (wv 5))))) (aQ (aV 7 (eh aF (bc 1) (aL D_law_draw (ay (wv 2) (ar (cn am T.len (ar (bc 1)))))))) (aQ (NR ["_law_k"] ([1,2]) 8 nd U U (Jp T.range (ar (aL D_law_draw (ay (wv 2) (ar az))))) (.of U) U (λ_ _ _=>{pg_name (i:=0) (bp (l:=["_law_k","_law_world_here","_law_node"]) (()) U) U (m_ U)}) (aZ ()) (λ_ _ _=>lF) (λ_ _ _=>(eh (uD K U) (eh (md K U) (wv 1) az) (aL D_law_draw (ay (wv 2) (ar az)))))) (aQ (aV 9 (fu pZ)) (aQ (aV 10 (fu pZ)) (aQ (qO Ϩ U (Jp T.range (ar (aL D_law_draw (ay (wv 2) (ar az))))) (eX 11) (aQ (aV 12 (eh aF (bc 1) (aL D_law_draw (ay (wv 2) (ar az))))) (aQ (aV 13 (aL D_law_kind (ay (wv 2) (ay (gp dG (bc 1) ib (fG az)) (ar az))))) (aQ (oF (fv ϑ Ϡ ϡ bq (wv 9) (ar (cy (ay (wv 12) (aK 13)))))) (cX (oF (fv ϑ Ϡ ϡ bq (wv 10) (ar (bh ak (bh ak (wv 12) aP) (aL D_law_kind_text (aK 13))))))))))) (aQ (aV 14 (bh ak (bh ak (bh ak (fv Ρ d_ e_ dH aP (ar (bh iQ (fu (ay aP (aK 7))) (wv 8)))) aP) (fv Ρ d_ e_ dH aP (aK 10))) aP)) (bI (cy (ay (cy (ay aP (ay (wv 7) (ay (kZ aH T.tuple (aK 8)) (ay (kZ aH T.tuple (aK 9)) (aK 4)))))) (ar (bh ak (wv 14) (wv 5))))))))))))))),2};show aG λX hX=>{01,wk,sc,ns,i,m,1,{hk0,hsc,i0,i15},ln,λH1 nd s1 hk1 fnd st1=>gs hX λX hX=>?_};let nw:nd≠wk:=λz=>by rw[z,hk0]at fnd;cases fnd
 let c1:jb H H1 wk sc nd (i+1) m:={s1,hk1,st1};let woC:∀{H':Hp}{j:Int},jb H H' wk sc nd j m->Wo H' g r1 r2 xs ys:=λc=>wo.b (wo.nw hk0) c.sb;let wkC:∀{H':Hp}{j:Int},jb H H' wk sc nd j m->0<=j->j<10^15->Wk K H' wk sc ns j m:=λc h0 h1=>{c.hk,λ_ s=>hsc _ (c.sb.trans s),h0,h1};show{01,nd,(3),1,c1.st,33,λH2 way s2 st2 _ _=>gs hX λX hX=>?_};let c2:=c1.d s2 st2 nw fnd;show{0101,z3,λl0 hl0=>{01,nd,(3),1,(c2.m (ac hl0 _)).st,33,λH3 x s3 st3 x0 x1=>?_}};let c3:=(c2.m (ac hl0 _)).d s3 st3 nw fnd;let nl0:l0≠nd:=λz=>by ext(⟨_,_,e'⟩:c2.st);rw[z,e']at hl0;cases hl0
 obtain⟨bud,hb,b1,b2⟩:∃bud:Nat,jX [V.int 40,V.int 40,V.int 9] x=Z (.int bud)/\1<=bud/\bud<=40:=by
  let:x=0\/x=1\/x=2:=();rcases this with rfl|rfl|rfl
  .show{(40),133}
  .show{(40),133}
  .show{(9),133}
 show{l0,0,x,.int bud,11,aw.of (s3 _ _ nl0 aa),hb,wk,g,r1,r2,sc,ns,i+1,m,xs,ys,(8),bud,1,wkC c3 () (),3,ln,woC c3,333,b1,b2,λH4 v d b c s4 w4 R4 wx ex cl cu=>?_};ext(⟨t,vt,rfl,ht,Rt⟩:ah.tup_inv R4);ext(⟨w1,_,rfl,e1,w2,_,rfl,e2,w3,_,rfl,e3,rfl⟩:Rt);subst e2;subst e3;let c4:jb H H4 wk sc nd (i+1+c) m:=c3.e s4 w4.1 nw;let we:Mp d b:={wx,3};let lE:=mP we;show{t,01,aq.of ht,10010010011,hX _ _ (aG λX hX=>?_)};let fin:∀{H':Hp}{v:V}{d':Dv}{x:Str},jb H H' wk sc nd (i+1+c) m->ah H' (.tup [d',.str x]) v->Ae d' x->Q v H':=λcc R w=>q _ _ _ _ (i+1+c) cc.sb (wkC cc () ()) () () R w;show bC λo a hY hZ=>{01101,aj (λ_=>hY _ ?_) (λ_=>hZ _ (dR (hX _ _ (aG λX hX=>?_))))}
 .show{01,z2,λt1 ht1=>{010011,by rw[Id,ι];omega,z2,λt2 ht2=>?_}};let s5:=ac ht1 (.tup [.str (O "ask"),w1]);let h5:upd H4 t1 (.tup [.str (O "ask"),w1]) t1=Z (.tup [.str (O "ask"),w1]):=aa;generalize upd H4 t1 (.tup [.str (O "ask"),w1])=H5 at s5 h5 ht2⊢;let s6:=ac ht2 (.tup [.ref t1,.str (O "ask " ++ du b)]);show fin (c4.m (s5.trans s6)) ?_ (.inl {d,b,11,we});rw[ah];show{t2,01,aa,2};show{001200131};rw[ah];show{t1,01,s6 _ _ h5,by simp only[Reps];show{0013001,e1.mono (s5.trans s6),1}}
 let wo4:=woC c4;let n4:=wo4.ne c4.st;let ly:=wo.l2;show{01,g,0,(1),.ref r2,11,aq.of wo4.hg,ad (j:=1) U,0101,g,0,(1),.ref r2,11,aq.of wo4.hg,ad (j:=1) U,r2,01,.inl (aw.of wo4.h2),nd,01,c4.st,by rw[ε];omega,by rw[ε];omega,λH5 x5 s5 st5 x50 x51=>?_};rw[ε]at x51;ext(⟨y,hy,hat⟩:wM x50 x51);ext(⟨y1,y2,y3⟩:wo.n2 y hy);show{r2,0,x5,.str y,11,aw.of (s5 _ _ n4.2.2 wo4.h2),hat,gs hX λX hX=>?_};let c5:=c4.d s5 st5 nw fnd;let pe:=oj wx;let R5:=bD (c4.st.tups s5) pe e1;clear c4 e1 s5 st5 wo4 n4 hat hY hZ;show{01,nd,(5),1,c5.st,33,λH6 n6 s6 st6 n60 n61=>{n6,133,uw (n:=n6.toNat) (λj zs H'=>jb H H' wk sc nd (i+1+c) m/\ah H' d w1/\∃nms:List Str,zs=nms.map V.str/\nms.length=j/\∀z∈nms,dD z=Y) {c5.d s6 st6 nw fnd,bD (c5.st.tups s6) pe R5,[],11,nofun} ?_ ?_}}
 .ext j zs H' hj ⟨c',R',nms,rfl,lj,hn⟩;let wo':=woC c';let n':=wo'.ne c'.st;show ba {01,g,0,(0),.ref r1,11,aq.of wo'.hg,ad (j:=0) U,01,nd,(12),1,c'.st,33,λH8 x8 s8 st8 x80 x81=>?_};obtain⟨z,hz,hat⟩:=wM (xs:=xs) x80 (by rw[wo.l1];show x81);show{r1,0,x8,.str z,11,aw.of (s8 _ _ n'.2.1 wo'.h1),hat,by rw[ε,ι];omega,c'.d s8 st8 nw fnd,bD (c'.st.tups s8) pe R',nms++[z],by rw[Ε];rfl,by rw[Ι,lj];rfl,λz' hz'=>?_};rcases ϧ.mp hz' with h|h
  .show hn z' h
  .rw[ξ.mp h];show wo.n1 z hz
 ext zs H7 ⟨c7,R7,nms,rfl,lj,hn⟩ LN hLN;let nN:LN≠wk:=λz=>by rw[z,c7.hk]at hLN;cases hLN
 let nNd:LN≠nd:=λz=>by ext(⟨_,_,e'⟩:c7.st);rw[z,e']at hLN;cases hLN
 let fN:H LN=χ:=AX c7.sb hLN nN;let c8:=c7.m (ac hLN (.lst (nms.map V.str)));let h8:upd H7 LN (.lst (nms.map V.str)) LN=Z (.lst (nms.map V.str)):=aa;let R8:=R7.mono (ac hLN (.lst (nms.map V.str)));generalize upd H7 LN (.lst (nms.map V.str))=H8 at c8 h8 R8⊢;show gs hX λX hX=>{Τ _,λLP hLP=>gs hX λX hX=>{Τ _,λLT hLT=>gs hX λX hX=>?_}};let nP:LP≠wk:=λz=>by rw[z,c8.hk]at hLP;cases hLP
 let nPd:LP≠nd:=λz=>by ext(⟨_,_,e'⟩:c8.st);rw[z,e']at hLP;cases hLP
 let nPN:LP≠LN:=λz=>by rw[z,h8]at hLP;cases hLP
 let fP:H LP=χ:=AX c8.sb hLP nP;let s9:=ac hLP (.lst []);let c9:=c8.m s9;let h9:=s9 _ _ h8;let p9:upd H8 LP (.lst []) LP=Z (.lst []):=aa;let R9:=R8.mono s9;generalize upd H8 LP (.lst [])=H9 at c9 h9 p9 R9 hLT⊢;let nT:LT≠wk:=λz=>by rw[z,c9.hk]at hLT;cases hLT
 let nTd:LT≠nd:=λz=>by ext(⟨_,_,e'⟩:c9.st);rw[z,e']at hLT;cases hLT
 let nTN:LT≠LN:=λz=>by rw[z,h9]at hLT;cases hLT
 let nTP:LT≠LP:=λz=>by rw[z,p9]at hLT;cases hLT
 let fT:H LT=χ:=AX c9.sb hLT nT;let sA:=ac hLT (.lst []);let cA:=c9.m sA;let kA:Kq LP LT LN d w1 nms [] [] (upd H9 LT (.lst [])):={R9.mono sA,sA _ _ h9,sA _ _ p9,by simp[Reps],aa,nofun,pe};generalize upd H9 LT (.lst [])=HA at cA kA⊢;clear c5 c7 c8 c9 R5 R7 R8 R9 h8 h9 p9 hLN hLP hLT s6 st6 s9 sA;show{01,nd,(5),1,cA.st,33,λHB nB sB stB nB0 nB1=>{nB,133,fk (n:=nB.toNat) (λj σ H'=>∃(o11 o12 o13:Option V) (us:List V) (ps:List vD),σ=[Z (.ref wk),Z (.ref g),Z (.ref nd),Z (.int way),Z w1,Z (.str (du b)),Z (.int c),Z (.str y),Z (.ref LN),Z (.ref LP),Z (.ref LT),o11,o12,o13,χ]/\jb H H' wk sc nd (i+1+c) m/\Kq LP LT LN d w1 nms ps us H'/\ps.length=j)
  {000,[],[],1,cA.d sB stB nw fnd,kA.b sB (cA.st.tups sB) nPd nTd nNd,1} ?T1 ?_}}
 case T1=>
  intro j σ HC D go hj h;show gs (λ_ _ z=>z) λX hX=>?_;ext(⟨o11,o12,o13,us,ps,rfl,cC,kC,lp⟩:h);let woC':=woC cC;let nC:=woC'.ne cC.st;show{01,g,0,(0),.ref r1,11,aq.of woC'.hg,ad (j:=0) U,01,nd,(12),1,cC.st,33,λHD x8 sD stD x80 x81=>?_};obtain⟨z,hz,hat⟩:=wM (xs:=xs) x80 (by rw[wo.l1];show x81);show{r1,0,x8,.str z,11,aw.of (sD _ _ nC.2.1 woC'.h1),hat,gs hX λX hX=>?_};let cD:=cC.d sD stD nw fnd;let kD:=kC.b sD (cC.st.tups sD) nPd nTd nNd;let woD:=woC cD;show{0101,g,0,(0),.ref r1,11,aq.of woD.hg,ad (j:=0) U,2};dsimp only[cO];show{(4),1,r1,01,aw.of woD.h1,λl hl=>?_};rw[Eo];let lnd:l≠nd:=λz=>by ext(⟨_,_,e'⟩:cD.st);rw[z,e']at hl;cases hl
  let sE:=ac hl (.lst ((xs.take 4).map V.str));let cE':=cD.m sE;let hE:upd HD l (.lst ((xs.take 4).map V.str)) l=Z (.lst ((xs.take 4).map V.str)):=aa;let kE:=kD.m sE;generalize upd HD l (.lst ((xs.take 4).map V.str))=HE at cE' hE kE⊢;show{nd,l,(12),xs.take 4,1333,cE'.st,hE,lnd,by rw[Ω];omega,λHF vk k sF stF Rk kAll kz=>gs hX λX hX=>?_};let sm:k.All Sm:=dc (λ_ _ h=>DD h λx hx=>wo.n1 x (y8 hx)) kAll;let pm:uP (z,k):={wo.n1 z hz,sm,by change k.size<=12;omega};let cF:=cE'.d sF stF nw fnd;let kF:=kE.b sF (cE'.st.tups sF) nPd nTd nNd;let lu:us.length=ps.length:=by let:=kF.rp.length;rwa[ε]at this
  show{01,.inl {10,aw.of kF.hp},0101,z2,λt2 ht2=>?_};let sG:=ac ht2 (.tup [.str z,vk]);let hG:upd HF t2 (.tup [.str z,vk]) t2=Z (.tup [.str z,vk]):=aa;let cG:=cF.m sG;let kG:=kF.m sG;let RG:=Rk.mono sG;generalize upd HF t2 (.tup [.str z,vk])=HG at hG cG kG RG⊢;show{LP,0011,kG.hp,3,hX _ _ ?_};let sI:=ao.upd HG LP (.lst (us++[.ref t2]));let tI:=sI.tups kG.hp;let cI:=cG.l sI fP nP nPd;let hI:upd HG LP (.lst (us++[.ref t2])) LP=Z (.lst (us++[.ref t2])):=aa;let hNI:=sI _ _ (ϔ nPN) kG.hn;let hTI:=sI _ _ nTP kG.ht;let hGI:=tI _ _ hG;let RI:=Kd.tupS tI RG;ext(⟨eI,pI⟩:kG.rb tI);generalize upd HG LP (.lst (us++[.ref t2]))=HI at tI cI hI hNI hTI hGI RI eI pI⊢;let lk:=cg (xQ sm);let lz8:z.length<=8:=(aX (wo.n1 z hz)).2;let sz:=pm.sz;let sz:=sz;show{01,.inl {10,aw.of hTI},010011,by rw[LU,ι];omega,01,vk,k,1,RI,sz,3,xQ sm,λHJ sJ=>{0011,by rw[υ,LU,ι];omega,LT,0011,sJ _ _ hTI,by rw[ε,ε,ι];omega,2}};let cJ:=cI.m sJ;let sK:=ao.upd HJ LT (.lst ((ps.map gy).map V.str++[.str (z++O ": " ++ iW k)]));let tK:=sK.tups (sJ _ _ hTI);let okN:∀p∈ps++[(z,k)],uP p:=λp hp=>by
   rcases ϧ.mp hp with h|h
   .show kG.ok p h
   .rw[ξ.mp h];show pm
  let RN:Reps HJ ((ps++[(z,k)]).map gZ) (us++[.ref t2]):=by rw[Ε];show Reps.append (pI.mono sJ) (aO ?_);rw[gZ,ah];show{t2,01,sJ _ _ hGI,by simp only[Reps];show{0013001,RI.mono sJ,1}}
  show go _ _ {000,us++[.ref t2],ps++[(z,k)],1,cJ.l sK fT nT nTd,{bD tK pe (eI.mono sJ),sK _ _ (ϔ nTN) (sJ _ _ hNI),sK _ _ (ϔ nTP) (sJ _ _ hI),bH (λd hd v r=>by ext(⟨p,hp,rfl⟩:ϙ.mp hd);show bD tK (wS (okN p hp).sz) r) RN,by rw[aa,Ε,Ε];rfl,okN,pe},by rw[Ι,lp];rfl}
 ext σ HC ⟨o11,o12,o13,us,ps,rfl,cC,kC,lp⟩;let df:AS y nms ps:={y1,y2,y3,3,hn,3,kC.ok};let l1:=vO df;let l2:=wG df;let l3:=qR df.pn df.p4;let l4:=xv df;show hX _ _ (aG λX hX=>{101,z2,λg1 hg1=>?_});let p1:=ac hg1 (.lst [.str (O "def"),.str y]);let c1:=cC.m p1;let k1:=kC.m p1;let h1:upd HC g1 (.lst [.str (O "def"),.str y]) g1=Z (.lst [.str (O "def"),.str y]):=aa;generalize upd HC g1 (.lst [.str (O "def"),.str y])=HD at c1 k1 h1⊢;show{01,g1,LN,0011,h1,k1.hn,by rw[ε,ι];change 2+_<=_;omega,λg3 hg3=>?_};let p3:=ac hg3 (.lst ([.str (O "def"),.str y]++nms.map V.str));let c3:=c1.m p3;let k3:=k1.m p3;let h3:upd HD g3 (.lst ([.str (O "def"),.str y]++nms.map V.str)) g3=Z (.lst ((O "def" :: y::nms).map V.str)):=aa;generalize upd HD g3 (.lst ([.str (O "def"),.str y]++nms.map V.str))=HE at c3 k3 h3⊢;show{0,g3,O "def" :: y::nms,11,aw.of h3,by rw[LY];simp only[Λ];omega,2};rw[tj];show{0011,by rw[LM,ι];omega,1010,LT,ps.map gy,11,aw.of k3.ht,by rw[iq,ε];omega,2};rw[tj];show{0011,by rw[υ,LM,ι];omega,0011,by rw[υ,υ,LM,MY,ι];omega,dm (hX _ _ ?_)};show{0101,LN,01,.inl {aw.of k3.hn,λt1 ht1=>?_}};let q1:=ac ht1 (.tup (nms.map V.str));let c4:=c3.m q1;let k4:=k3.m q1;let h4:upd HE t1 (.tup (nms.map V.str)) t1=Z (.tup (nms.map V.str)):=aa;generalize upd HE t1 (.tup (nms.map V.str))=HF at c4 k4 h4⊢;show{01,LP,us,1,.inl {aw.of k4.hp,λt2 ht2=>?_}};let q2:=ac ht2 (.tup us);let c5:=c4.m q2;let k5:=k4.m q2;let h5:upd HF t2 (.tup us) t2=Z (.tup us):=aa;let h45:=q2 _ _ h4;generalize upd HF t2 (.tup us)=HG at c5 k5 h5 h45⊢;show{01,by rw[ι];change 5<=16777216;decide,λt3 ht3=>{01010011,by rw[υ,υ,υ,LM,MY,ι];omega,z2,λt4 ht4=>?_}};let q3:=ac ht3 (.tup [.str (O "def"),.str y,.ref t1,.ref t2,w1]);let h6:upd HG t3 (.tup [.str (O "def"),.str y,.ref t1,.ref t2,w1]) t3=Z (.tup [.str (O "def"),.str y,.ref t1,.ref t2,w1]):=aa;let c6:=c5.m q3;let k6:=k5.m q3;let h16:=q3 _ _ h45;let h26:=q3 _ _ h5;generalize upd HG t3 (.tup [.str (O "def"),.str y,.ref t1,.ref t2,w1])=HH at h6 c6 k6 h16 h26 ht4⊢;let q4:=ac ht4 (.tup [.ref t3,.str (DT y nms ps b)]);show fin (c6.m q4) ?_ (.inr {y,nms,ps,d,b,11,df,we});rw[ah];show{t4,01,aa,2};simp only[Reps];show{0012001,by simp only[ah];rfl,1};rw[zB,ah];show{t3,01,q4 _ _ h6,2};simp only[Reps];show{0013001300120012001,k6.re.mono q4,1}
 .rw[ah];show{t1,01,q4 _ _ h16,jY nms}
 .rw[ah];show{t2,us,1,q4 _ _ h26,k6.rp.mono q4}
end
abbrev qi:ϯ:=bT 98
structure Pg(H:Hp)(LR LL:J)(us:List V)(ws:List Str):Prop where
 hr:H LR=Z (.lst us)
 lu:us.length=ws.length
 hl:H LL=Z (.lst (ws.map V.str))
 j4:(Ϻ (O "\n") ws).length<=4000
def Pg.b{H H':Hp}{LR LL a:J}{us:List V}{ws:List Str}(p:Pg H LR LL us ws)(s:ao a H H')(n1:LR≠a)(n2:LL≠a):Pg H' LR LL us ws:={s _ _ n1 p.hr,p.lu,s _ _ n2 p.hl,p.j4}
def Pg.m{H H':Hp}{LR LL:J}{us:List V}{ws:List Str}(p:Pg H LR LL us ws)(s:ae H H'):Pg H' LR LL us ws:={s _ _ p.hr,p.lu,s _ _ p.hl,p.j4}
inductive CM (K:ζ) (vs:List V) (H:Hp) (Q:VK) (u3_:XK):Prop|mk (sc:J) (ns:List Int) (_:vs=[.ref sc]) (_:aw K H sc (ns.map V.int)) (_:ns.length<=63) (_:∀(H':Hp)(t LR LL:J)(us:List V)(ws:List Str),ae H H'->H' t=Z (.tup [.ref LR,.ref LL])->Pg H' LR LL us ws->ws.length<=12->Q (.ref t) H')
section
variable{P:Θ}{w:Χ}{K:ζ}{mg:Str->Option θ}{base:ϖ}
def wL{f:J}{fd:ό}{k:Nat}(F:Fun K "_law_program" "_law_program" qi f fd)(T:Txt K mg)(D_law_draw:aS P w K mg base k "_law_draw" ["_law_state_here","_law_many"] dY)(D_law_state:aS P w K mg base k "_law_state" ["_law_script","_law_k"] (ma K))(D_law_world:aS P w K mg base k "_law_world" ["_law_state_here"] zw)(D_law_row:aS P w K mg base k "_law_row" ["_law_walk","_law_world_here"] (Dm K)):ap P w K mg base aY (k+1) f fd ["_law_script"] (CM K):=by
 show F.okA (N:=["_law_script","_law_walk","_law_many","_law_world_here","_law_rows","_law_lines","_law_k","_law_row_here","_law_text"]) λcdv A outer s H vs Q E hr nd h=>?_;ext(⟨sc,ns,rfl,hS,h63,q⟩:h);show{0,aQ (aV 1 (fu (ay (wv 0) (ay az (ar (cn (Ay U) T.max (ay az (ar (cn (zX U) T.min (ay az (ar (cn am T.len (aK 0))))))))))))) (aQ (aV 2 (bh bj az (aL D_law_draw (ay (aL D_law_state (ay (wv 0) (ar az))) (ar az))))) (aQ (aV 3 (aL D_law_world (ar (aL D_law_state (ay (wv 0) (ar az)))))) (aQ (aV 4 (fu pZ)) (aQ (aV 5 (fu pZ)) (aQ (qO Ϩ U (Jp T.range (aK 2)) (eX 6) (aQ (Bn (aL D_law_row (ay (wv 1) (aK 3))) (uX (gE (eX 7) (gE (eX 8) tq)))) (cX (Ap (aU iX (cn bX T.len (ar (fv Ρ d_ e_ dH aP (ar (bh iQ (wv 5) (fu (aK 8))))))) az) (aQ (oF (fv ϑ Ϡ ϡ bq (wv 4) (aK 7))) (cX (oF (fv ϑ Ϡ ϡ bq (wv 5) (aK 8))))) Bh)))) (bI (cy (ay (wv 4) (aK 5))))))))),2};dsimp only[be,Cx.nox];show aG λX hX=>{0101,sc,01,.inl hS,001001,z3,λwk hwk=>gs hX λX hX=>?_};let m63:(if (if ((ns.map V.int).length:Int)<53 then ((ns.map V.int).length:Int)else 53)>2 then (if ((ns.map V.int).length:Int)<53 then ((ns.map V.int).length:Int)else 53)else 2)<=63:=by split<;>split<;>omega
 generalize (if (if ((ns.map V.int).length:Int)<53 then ((ns.map V.int).length:Int)else 53)>2 then (if ((ns.map V.int).length:Int)<53 then ((ns.map V.int).length:Int)else 53)else 2)=m at m63⊢;let s1:=ac hwk (.lst [.ref sc,.int 2,.int m]);let w1:Wk K (upd H wk (.lst [.ref sc,.int 2,.int m])) wk sc ns 2 m:=by
  show{aa,λH' s=>?_,33};rcases hS with (h|⟨o,h⟩)|h
  .show .inl (.inl (s _ _ (af h hwk) (s1 _ _ h)))
  .show .inl (.inr {o,s _ _ (af h hwk) (s1 _ _ h)})
  .show .inr h
 generalize upd H wk (.lst [.ref sc,.int 2,.int m])=H1 at s1 w1⊢;show{01,sc,ns,(0),1,s1.seq hS,3,λH2 a2 s2 f2 st2=>{a2,(12),1,st2,33,λH3 x s3 st3 x0 x1=>{0011,gs hX λX hX=>?_}}};let s13:=ao.same f2 s2 s3;show{01,sc,ns,(1),1,(s1.trans s13).seq hS,3,λH4 a4 s4 f4 st4=>{a4,1,st4,λH5 g r1 r2 xs ys s5 st5 wo=>gs hX λX hX=>?_}};let s15:=s13.trans (ao.same f4 s4 s5);let wkS:∀{H':Hp},ae H1 H'->Wk K H' wk sc ns 2 m:=λs=>{s _ _ w1.1,λ_ s'=>w1.2.1 _ ((ae.b wk s).trans s'),w1.2.2};show{Τ _,λLR hLR=>gs hX λX hX=>{Τ _,λLL hLL=>gs hX λX hX=>?_}};let s6:=ac hLR (.lst []);let s7:=ac hLL (.lst []);let nR:LR≠wk:=λz=>by let:=s15 _ _ w1.1;rw[z,this]at hLR;cases hLR
 let fR:H LR=χ:=(s1.trans s15).free hLR;let h6:upd H5 LR (.lst []) LR=Z (.lst []):=aa;let nL:LL≠wk:=λz=>by let:=s6 _ _ (s15 _ _ w1.1);rw[z,this]at hLL;cases hLL
 let nLR:LL≠LR:=λz=>by rw[z,h6]at hLL;cases hLL
 let fL:H LL=χ:=((s1.trans s15).trans s6).free hLL;let nRG:∀{a:J}{o:HO},H5 a=Z o->a≠LR/\a≠LL:=λh=>{af h hLR,af (s6 _ _ h) hLL};let pg:Pg (upd (upd H5 LR (.lst [])) LL (.lst [])) LR LL [] []:={s7 _ _ h6,1,aa,Τ _};let s17:=s15.trans (s6.trans s7);let wo7:Wo (upd (upd H5 LR (.lst [])) LL (.lst [])) g r1 r2 xs ys:={(s6.trans s7) _ _ wo.hg,(s6.trans s7) _ _ wo.h1,(s6.trans s7) _ _ wo.h2,wo.l1,wo.nd,wo.n1,wo.l2,wo.n2};ext(⟨gR,gL⟩:nRG wo.hg);ext(⟨r1R,r1L⟩:nRG wo.h1);ext(⟨r2R,r2L⟩:nRG wo.h2);generalize upd (upd H5 LR (.lst [])) LL (.lst [])=H7 at pg s17 wo7⊢;show{010133,fk (n:=(1+x).toNat) (λj σ H'=>∃(o6 o7 o8:Option V) (i:Int) (us:List V) (rs:List Str),σ=[Z (.ref sc),Z (.ref wk),Z (.int (1+x)),Z (.ref g),Z (.ref LR),Z (.ref LL),o6,o7,o8]/\ae H H'/\Wk K H' wk sc ns i m/\i<=2+41*j/\Wo H' g r1 r2 xs ys/\Pg H' LR LL us rs/\rs.length<=j)
  {000,(2),[],[],1,s1.trans s17,wkS s17,3,wo7,pg,Β _} ?T1 ?_}
 case T1=>
  intro j σ H8 D go hj h;show gs (λ_ _ z=>z) λX hX=>?_;ext(⟨o6,o7,o8,i,us,rs,rfl,s08,w8,i8,wo8,p8,l8⟩:h);show{0101,wk,g,r1,r2,sc,ns,i,m,xs,ys,1,w8,33,wo8,λH9 v d tx i' s9 w9 ig ih R9 hw=>?_};ext(⟨t,vt,rfl,ht,Rt⟩:ah.tup_inv R9);ext(⟨v1,v2,rfl,e1,e2⟩:Reps.two Rt);simp only[ah]at e2;subst e2;let s09:ae H H9:=ao.same hwk s08 s9;let p9:=p8.b s9 nR nL;let wo9:=wo8.b (wo8.nw w8.1) s9;let lu:=p9.lu;show{t,01,aq.of ht,10010011,hX _ _ (bC λl c hY hZ=>?_)};show{10101,z1,λl1 hl1=>?_};let q1:=ac hl1 (.lst [.str tx]);show{LL,l1,0011,q1 _ _ p9.hl,aa,by rw[ε,ι];change _+1<=_;omega,λl2 hl2=>?_};let q2:=ac hl2 (.lst (rs.map V.str++[.str tx]));let h2:upd (upd H9 l1 (.lst [.str tx])) l2 (.lst (rs.map V.str++[.str tx])) l2=Z (.lst ((rs++[tx]).map V.str)):=by rw[aa,Ε];rfl
  let s9A:=q1.trans q2;generalize upd (upd H9 l1 (.lst [.str tx])) l2 (.lst (rs.map V.str++[.str tx]))=HA at h2 s9A⊢;let lj:=dN (O "\n") (rs++[tx]);let ln1:(O "\n").length=1:=();let lr:(rs++[tx]).length<=12:=by rw[Ι];change _+1<=12;omega
  let lm:((rs++[tx]).map (·.length)).sum<=4000+2900000:=by let h1:=hV (O "\n") rs;let h2:=p9.j4;let h3:=hw.len;rw[Ε,n9];change _+(tx.length+0)<=_;omega
  rw[ln1]at lj;show{0,l2,rs++[tx],11,aw.of h2,by rw[ln1];omega,2};rw[tj];let sA:ae H HA:=s09.trans s9A;let pA:=p9.m s9A;let woA:Wo HA g r1 r2 xs ys:={s9A _ _ wo9.hg,s9A _ _ wo9.h1,s9A _ _ wo9.h2,wo9.l1,wo9.nd,wo9.n1,wo9.l2,wo9.n2};let wA:Wk K HA wk sc ns i' m:={s9A _ _ w9.1,λ_ s'=>w9.2.1 _ ((ae.b wk s9A).trans s'),w9.2.2};show{013001101,aj (λh4=>hY _ (aG λX hX=>?_)) (λ_=>hZ _ (dR (go _ _ {000,i',us,rs,1,sA,wA,3,woA,pA,3})))};show{01,.inl {10,aw.of pA.hr},01,LR,0011,pA.hr,by let:=pA.lu;rw[ι];omega,hX _ _ ?_};let sB:=ao.upd HA LR (.lst (us++[v1]));let hB:upd HA LR (.lst (us++[v1])) LR=Z (.lst (us++[v1])):=aa;let lB:=sB _ _ nLR pA.hl;generalize upd HA LR (.lst (us++[v1]))=HB at sB hB lB⊢;show{01,.inl {10,aw.of lB},01,LL,0011,lB,by rw[ε,ι];omega,2};let sC:=ao.upd HB LL (.lst (rs.map V.str++[.str tx]));let sBC:∀{a:J}{o:HO},a≠LR->a≠LL->HA a=Z o->upd HB LL (.lst (rs.map V.str++[.str tx])) a=Z o:=λh1 h2 e=>sC _ _ h2 (sB _ _ h1 e);show go _ _ {000,i',us++[v1],rs++[tx],1,λa o e=>sBC (af e fR) (af e fL) (sA _ _ e),{sBC (ϔ nR) (ϔ nL) wA.1,λH' s'=>?_,wA.2.2},3,{sBC gR gL woA.hg,sBC r1R r1L woA.h1,sBC r2R r2L woA.h2,woA.l1,woA.nd,woA.n1,woA.l2,woA.n2},{sC _ _ (ϔ nLR) hB,by rw[Ι,Ι,pA.lu];rfl,by rw[aa,Ε];rfl,by let:=Q7 h4;omega},by rw[Ι];change _+1<=_;omega};rcases hS with (h|⟨o,h⟩)|h
  .show .inl (.inl (s' _ _ (af h hwk) (sBC (af h fR) (af h fL) (sA _ _ h))))
  .show .inl (.inr {o,s' _ _ (af h hwk) (sBC (af h fR) (af h fL) (sA _ _ h))})
  .show .inr h
 ext σ H8 ⟨o6,o7,o8,i,us,rs,rfl,s08,w8,i8,wo8,p8,l8⟩;show hX _ _ {0101,z2,λt ht=>?_};let s9:=ac ht (.tup [.ref LR,.ref LL]);show q _ t LR LL us rs (s08.trans s9) aa (p8.m s9) ()
end
open PySem L2 KB XB L2.EX WR
def gQ(x y:Str):(∃r,x.cps.toList=(Txt.partition x y).1.cps.toList++r)/\∃r,x.cps.toList=r++(Txt.partition x y).2.2.cps.toList:=by
 rcases PyProof.Rows.partition_whole x y with ⟨h,_⟩|⟨i,h,_,_⟩
 .rw[h];show{{[],3},{x.cps.toList,by change _=_++[];simp}}
 .rw[h];show{{x.cps.toList.drop i,2},{x.cps.toList.take (i+y.length),2}}
  .change _=(x.cps.extract 0 i).toList++_;rw[Array.toList_extract,PY,PN,Nat.sub_zero,J9]
  .let e:(x.cps.extract (i+y.length) x.length).toList=x.cps.toList.drop (i+y.length):=by
    rw[Array.toList_extract,PY];show C4 (by rw[k7,ύ];show Β _)
   change _=_++(x.cps.extract (i+y.length) x.length).toList;rw[e,J9]
def mj(x:Str):x.cps.toList.length=x.length:=ύ
def xE{x a:Str}{r t:List Nat}(h:yd x)(e:x.cps.toList=r++a.cps.toList++t):yd a:=by let:=congrArg H_ e;rw[Ι,Ι,mj,mj]at this;omega
def yy(h:yd x)(e:x.cps.toList=a.cps.toList++r):yd a:=xE h (by rw[v_];show e)
def rE(h:yd x)(e:x.cps.toList=r++a.cps.toList):yd a:=xE h (by rw[ϣ];show e)
def Ft(x:Str):(O "(" ++ x++O ")").cps.toList=40::(x.cps.toList++[41]):=by rw[eZ,eZ,show(O "(").cps.toList=[40] by decide +kernel,show(O ")").cps.toList=[41] by decide +kernel];rfl
def IY{x:Str}(h:yd x):(O "(" ++ x++O ")").length<=4890:=by rw[υ,υ,Ao,yY];omega
def Jm(x:Str):Txt.startswith3 (O "(" ++ x++O ")") (O "(") ((0:Nat):Int)=Y:=by rw[kr (Τ _),Ft,show(O "(").length=1 by decide +kernel,show(O "(").cps.toList=[40] by decide +kernel];rfl
def mZ:Br->Str
 |.leaf w=>w
 |.nd w _=>w
def CN(w:Str):Br->Br
 |.leaf _=>.leaf w
 |.nd _ ts=>.nd w ts
def yh(b:Br):Dv:=.tup [.str (Txt.partition (mZ b) (O ": ")).1,aW 21 (CN (Txt.partition (mZ b) (O ": ")).2.2 b)]
def Ju(b:Br):∃d1,cz b=.tup [.str (mZ b),d1]/\∀w,cz (CN w b)=.tup [.str w,d1]:=by
 cases b with
 |leaf w=>show{.non,by rw[cz];rfl,λw'=>by rw[CN,cz];rfl}
 |nd w ts=>show{.lst (ts.map cz),by rw[cz,eA];rfl,λw'=>by rw[CN,cz,eA]}
def Eb(h:dQ b):KO (mZ b):=by
 cases b with
 |leaf w=>rw[dQ]at h;show h
 |nd w ts=>rw[dQ]at h;show h.1
def El{b:Br}{w:Str}{r:List Nat}(h:dQ b)(e:(mZ b).cps.toList=r++w.cps.toList):dQ (CN w b):=by
 let hw:KO w:=by let h1:=Eb h;let:=congrArg H_ e;rw[Ι,mj,mj]at this;change w.length<=4900;omega
 cases b with
 |leaf w=>rw[CN,dQ];show hw
 |nd w ts=>rw[dQ]at h;rw[CN,dQ];show{hw,h.2}
def Jg(w:Str)(b:Br):dw (CN w b)=dw b:=by
 cases b with
 |leaf _=>rw[CN,dw,dw]
 |nd _ ts=>rw[CN,dw,dw]
inductive Hc (vs:List V) (H:Hp) (Q:VK) (u3_:XK):Prop|mk (v:V) (b:Br) (_:vs=[v]) (_:ah H (cz b) v) (_:dQ b) (_:dw b<21) (_:∀H' u,ae H H'->ah H' (yh b) u->Q u H')
structure GD(d:Dv)(w0:Str)(ws:List Str)(ts:List Br)(b:Br):Prop where
 e:d=.tup [.str (O "def"),.str w0,.tup (ws.map Dv.str),.tup (ts.map yh),ce 21 b]
 l0:w0.length<=4900
 lw:ws.length<=4900
 sw:∀w∈ws,w.length<=4900
 lt:ts.length<=4900
 st:∀t∈ts,dQ t
 b:dQ b
def GF(d:Dv):Prop:=∃w0 ws ts b,GD d w0 ws ts b
def GR(d:Dv):Prop:=d=.non\/(∃b,dQ b/\d=.tup [.str (O "ask"),ce 21 b])\/GF d
def Og:Br->List Br
 |.leaf _=>[]
 |.nd _ ts=>ts
noncomputable def Mn(x:Str):Dv:=.tup [.str (O "def"),.str ((Txt.split (Txt.partition x (O " (")).1 (O " ")).headD p0),.tup ((Txt.split (Txt.partition x (O " (")).1 (O " ")).tail.map Dv.str),.tup ((Og (HN (O "(" ++ (Txt.partition (Txt.partition x (O " (")).2.2 (O ") = ")).1++O ")"))).map yh),xF (Txt.partition (Txt.partition x (O " (")).2.2 (O ") = ")).2.2]
noncomputable def dB(x:Str):Dv:=if Txt.startswith x (O "ask ")=Y then .tup [.str (O "ask"),xF (Txt.slice x (Z 4) χ)]else if Txt.startswith x (O "def ")=Y then Mn (Txt.slice x (Z 4) χ)else .non
def BZ:∀{ts:List Br}{t:Br},t∈ts->dw t<=brDps ts
 |u::ts,t,h=>by
  rw[brDps];rcases ν.mp h with rfl|h
  .show Nat.le_max_left _ _
  .show ϩ (BZ h) (Nat.le_max_right _ _)
def Ad{a b:Str}{n:Int}(h:(a.length:Int)=n):Txt.slice (a++b) (Z n) χ=b:=by let hl:(a++b).length=a.length+b.length:=υ _ _;rw[PM (b:=((a++b).length:Int)) () () U];show jw ?_;change(List.take _ (List.drop n.toNat (a++b).cps.toList)).toArray.toList=_;rw[eZ,List.drop_left' (by rw[ύ];change a.length=_;omega),C4 (by rw[ύ];change b.length<=_;omega)]
def xf(h:Txt.startswith x y=Y):∃r,x=y++r:=by unfold Txt.startswith at h;rw[StrLaws.subAt_eq,PN,ψ,beq_iff_eq]at h;show{{(x.cps.toList.drop y.length).toArray},jw ?_};rw[eZ,<-h.2];show(J9 _ _).symm
def Kf:O " "={#[32]}:=()
section
variable{P:Θ}{w:Χ}{K:ζ}{mg:Str->Option θ}{base:ϖ}
def rZ{f:J}{fd:ό}{k:Nat}(F:Fun K "param_in" "param_in" mU f fd)(T:Txt K mg)(Dkind_in:aS P w K mg base k "kind_in" ["branch"] (ju 21)):ap P w K mg base aY (k+1) f fd ["branch"] Hc:=by
 show F.okA (N:=["branch","halves"]) λcdv A outer s H vs Q E hr nd h=>?_;ext(⟨v,b,rfl,R,bs,bd,q⟩:h);show{0,aQ (aV 1 (fv Ρ L3 L4 fY (bc 0) (ar aP))) (bI (cy (ay (bc 1) (ar (aL Dkind_in (ar (cy (ay (bc 1) (ar (bc 0)))))))))),2};dsimp only[be,Cx.nox];ext(⟨d1,e1,e2⟩:Ju b);let wl:=(Eb bs);rw[e1]at R;ext(⟨a,vs,rfl,ha,rs⟩:ah.tup_inv R);ext(⟨v0,v1,rfl,r0,r1⟩:Reps.two rs);simp only[ah]at r0;subst r0;show aG λX hX=>{01,a,0,(0),011,aq.of ha,ad (j:=0) U,10,O ": ",1133,λg hg=>?_};ext(⟨_,r,pa⟩:gQ (mZ b) (O ": "));unfold yh at q;generalize Txt.partition (mZ b) (O ": ")=pp at pa q⊢;ext(⟨p1,p2,p3⟩:pp);dsimp only at pa q⊢;let s1:=ac hg (.tup [.str p1,.str p2,.str p3]);let h1:upd H g (.tup [.str p1,.str p2,.str p3]) g=Z (.tup [.str p1,.str p2,.str p3]):=aa;generalize upd H g (.tup [.str p1,.str p2,.str p3])=H1 at s1 h1⊢;show dm (hX _ _ {01,g,0,(0),.str p1,11,aq.of h1,ad (j:=0) U,01,g,0,(2),.str p3,11,aq.of h1,ad (j:=2) U,01,a,0,(1),v1,11,aq.of (s1 _ _ ha),ad (j:=1) U,z2,λt ht=>?_});let s2:=ac ht (.tup [.str p3,v1]);show{.ref t,CN p3 b,12,El bs pa,by rw[Jg];show bd,λH3 u s3 R3=>{z2,λm hm=>?_}}
 .rw[e2,ah];show{t,01,aa,by simp only[Reps];show{0013001,r1.mono (s1.trans s2),1}}
 let s4:=ac hm (.tup [.str p1,u]);show q _ _ (s1.trans (s2.trans (s3.trans s4))) ?_;rw[ah];show{m,01,aa,by simp only[Reps];show{0013001,R3.mono s4,1}}
def wW{f:J}{fd:ό}{k:Nat}(F:Fun K "def_of" "def_of" uM f fd)(T:Txt K mg)(Dbranch_of:aS P w K mg base k "branch_of" ["text"] Dr)(Dparam_in:aS P w K mg base k "param_in" ["branch"] Hc)(Dexpression_of:aS P w K mg base k "expression_of" ["text"] (mF xF GE)):ap P w K mg base aY (k+1) f fd ["text"] (mF Mn GF):=by
 show F.okA (N:=["text","halves","words","sides","params"]) λcdv A outer s H vs Q E hr nd h=>?_;ext(⟨x,rfl,tx,q⟩:h);show{0,aQ (aV 1 (fv Ρ L3 L4 fY (wv 0) (ar aP))) (aQ (aV 2 (fv Ρ r6 r9 eU (bc 1) (ar aP))) (aQ (aV 3 (fv Ρ L3 L4 fY (bc 1) (ar aP))) (aQ (aV 4 (eh kf (aL Dbranch_of (ar (bh ak (bh ak aP (bc 3)) aP))) az)) (bI (cy (ay aP (ay (eh aF (wv 2) az) (ay (kZ aH T.tuple (ar (gp dG (wv 2) (fG az) ib))) (ay (kZ aH T.tuple (ar (lT ["each"] [] (vC (wv 4)) (.of U) U (λ_ _ _=>{pg_name (i:=0) (bp (l:=["each"]) (()) U) U (m_ U)}) (aZ ()) (λ_ _ _=>lF) (λ_ _ _=>(aL Dparam_in (aK 0)))))) (ar (aL Dexpression_of (ar (bc 3))))))))))))),2};dsimp only[be,Cx.nox];let lx:x.length<=4800:=tx;unfold Mn at q;show aG λX hX=>{0110,O " (",1133,λg1 hg1=>?_};ext(⟨⟨_,pa⟩,_,pb⟩:gQ x (O " ("));generalize Txt.partition x (O " (")=pp at pa pb q⊢;ext(⟨p1,p2,p3⟩:pp);dsimp only at pa pb q⊢;let t1:=yy tx pa;let t3:=rE tx pb;let l1:p1.length<=4800:=t1;let l3:p3.length<=4800:=t3;clear pa pb;let s1:=ac hg1 (.tup [.str p1,.str p2,.str p3]);let h1:upd H g1 (.tup [.str p1,.str p2,.str p3]) g1=Z _:=aa;generalize upd H g1 (.tup [.str p1,.str p2,.str p3])=H1 at s1 h1⊢;let sl:=iL p1 32;rw[<-Kf]at sl;let sn:=eJ p1 (O " ");show gs hX λX hX=>{01,g1,0,(0),011,aq.of h1,ad (j:=0) U,10,O " ",11333,λg2 hg2=>?_};generalize Txt.split p1 (O " ")=ls at sl sn q⊢;obtain⟨w0,ws,rfl⟩:∃w0 ws,ls=w0::ws:=by cases ls with|nil=>show absurd U sn|cons a b=>show{a,b,1}
 rw[List.headD_cons,List.tail_cons]at q;ext(⟨sl1,sl2⟩:sl);rw[Λ]at sl1;let s2:=ac hg2 (.lst ((w0::ws).map V.str));let h2:upd H1 g2 (.lst ((w0::ws).map V.str)) g2=Z (.lst ((w0::ws).map V.str)):=aa;generalize upd H1 g2 (.lst ((w0::ws).map V.str))=H2 at s2 h2⊢;show gs hX λX hX=>{01,g1,0,(2),011,aq.of (s2 _ _ h1),ad (j:=2) U,10,O ") = ",1133,λg3 hg3=>?_};ext(⟨⟨_,pa⟩,_,pb⟩:gQ p3 (O ") = "));generalize Txt.partition p3 (O ") = ")=pp at pa pb q⊢;ext(⟨z1,z2',z3⟩:pp);dsimp only at pa pb q⊢;let u1:=yy t3 pa;let u3:=rE t3 pb;let m1:z1.length<=4800:=u1;clear pa pb;let s3:=ac hg3 (.tup [.str z1,.str z2',.str z3]);let h3:upd H2 g3 (.tup [.str z1,.str z2',.str z3]) g3=Z _:=aa;generalize upd H2 g3 (.tup [.str z1,.str z2',.str z3])=H3 at s3 h3⊢;let h23:=s3 _ _ h2;let s03:=s1.trans (s2.trans s3);clear s1 s2 s3 h1 h2;show gs hX λX hX=>{01,g3,0,(0),011,aq.of h3,ad (j:=0) U,0011,by rw[Ao,ι];omega,0011,by rw[υ,Ao,yY,ι];omega,2};show{01,IY u1,λH4 v s4 R4 bs4 bd4 nd4=>?_};let nd4:=nd4 (Jm z1);generalize HN _=b4 at q R4 bs4 bd4 nd4;cases b4 with
 |leaf _=>cases nd4
 |nd w4 ts=>
 rw[dQ]at bs4;let st:=dO bs4.2.2;let lt:=bs4.2.1;let dt:∀t∈ts,dw t<21:=λt ht=>by rw[dw]at bd4;let:=BZ ht;omega
 rw[cz,eA]at R4;ext(⟨t,l,us,rfl,ht,hl,Rl⟩:CV R4);let lu:us.length=ts.length:=by let:=Rl.length;rwa[ε]at this
 show{t,0,(1),.ref l,11,aq.of ht,ad (j:=1) U,dm (hX _ _ ?_)};show{01,g2,0,(0),.str w0,11,aw.of (s4 _ _ h23),ad (j:=0) U,01,(1),1,g2,01,aw.of (s4 _ _ h23),λg4 hg4=>?_};rw[show db ((w0::ws).map V.str) (Z 1) χ=ws.map V.str from cU _ 1];let s5:=ac hg4 (.lst (ws.map V.str));show{g4,01,.inl {aw.of aa,λg5 hg5=>?_}};let s6:=ac hg5 (.tup (ws.map V.str));let h6:upd (upd H4 g4 (.lst (ws.map V.str))) g5 (.tup (ws.map V.str)) g5=Z (.tup (ws.map V.str)):=aa;let s46:=s5.trans s6;generalize upd (upd H4 g4 (.lst (ws.map V.str))) g5 (.tup (ws.map V.str))=H6 at s46 h6⊢;clear s5 s6;show{01,l,1,{us,aw.of (s46 _ _ hl)},eq (xs:=us) (λi ys H'=>ae H6 H'/\Reps H' ((ts.take i).map yh) ys) {ae.refl _,by simp[Reps]} (λi ys H' _ p=>aw.of (p.1 _ _ (s46 _ _ hl))) ?L1 ?_}
 case L1=>
  ext i ys H' x hx ⟨s',R'⟩;ext(⟨p,hp,Rx⟩:bZ (f:=cz) Rl hx);let hi:i<us.length:=(Ζ.mp hx).1;let pm:=Ν hp;show ba {01,x,p,1,Rx.mono (s46.trans s'),st p pm,dt p pm,λH7 u s7 R7=>{2,s'.trans s7,2}}
  .let:=R'.length;rw[ε,Ω]at this;rw[this,ι];omega
  .rw[ϛ,hp,Ε];show Reps.append (R'.mono s7) (aO R7)
 ext ys H7 ⟨s7,R7⟩ g6 hg6;rw[lu,Ϥ]at R7;let s8:=ac hg6 (.lst ys);show{g6,ys,1,.inl {aw.of aa,λg7 hg7=>?_}};let s9:=ac hg7 (.tup ys);let h9:upd (upd H7 g6 (.lst ys)) g7 (.tup ys) g7=Z (.tup ys):=aa;let s69:=s7.trans (s8.trans s9);let R9:=R7.mono (s8.trans s9);generalize upd (upd H7 g6 (.lst ys)) g7 (.tup ys)=H9 at s69 h9 R9⊢;let s09:=s03.trans (s4.trans (s46.trans s69));show{01,g3,0,(2),011,aq.of (s69 _ _ (s46 _ _ (s4 _ _ h3))),ad (j:=2) U,01,u3,λHA u sA RA ge=>{by rw[ι];change 5<=16777216;decide,λm hm=>?_}};ext(⟨b,hb,eb⟩:ge);let sB:=ac hm (.tup [.str (O "def"),.str w0,.ref g5,.ref g7,u]);let s0B:=sA.trans sB;show q _ _ (s09.trans s0B) ?_ {w0,ws,ts,b,by rw[<-eb];rfl,by let:=sl2 w0 Γ;omega,3,λy hy=>by let:=sl2 y (ς _ hy);omega,lt,st,hb};rw[ah];show{m,01,aa,2};simp only[Reps];show{0013001300120012001,RA.mono sB,1}
 .rw[ah];show{g5,01,s0B _ _ (s69 _ _ h6),jY ws}
 .rw[ah];show{g7,ys,1,s0B _ _ h9,R9.mono s0B}
def lQ{f:J}{fd:ό}{k:Nat}(F:Fun K "row_of_text" "row_of_text" iG f fd)(T:Txt K mg)(Dexpression_of:aS P w K mg base k "expression_of" ["text"] (mF xF GE))(Ddef_of:aS P w K mg base k "def_of" ["text"] (mF Mn GF)):ap P w K mg base aY (k+1) f fd ["text"] (mF dB GR):=by
 show F.okA (N:=["text"]) λcdv A outer s H vs Q E hr nd h=>?_;ext(⟨x,rfl,tx,q⟩:h);show{0,bV (ii (fv Ρ J_ K0 pJ (wv 0) (ar aP))) (cy (ay aP (ar (aL Dexpression_of (ar (gp bF (wv 0) (fG az) ib)))))) (bV (ii (fv Ρ J_ K0 pJ (wv 0) (ar aP))) (aL Ddef_of (ar (gp bF (wv 0) (fG az) ib))) (bI oR)),2};dsimp only[be,Cx.nox];let lx:x.length<=4800:=tx;unfold dB at q;let cut:∀{y:Str},Txt.startswith x y=Y->y.length=4->yd (Txt.slice x (Z 4) χ):=λ{y} hs ly=>by ext(⟨r,rfl⟩:xf hs);rw[Ad (by rw[ly];rfl)];show rE tx (by rw[eZ])
 show aG λX hX=>bC λc a hY hZ=>{0110,O "ask ",1101,aj (λh=>hY _ {01,(4),101301,cut h (),λH1 u s1 R1 ge=>{z2,λm hm=>?_}}) (λh=>hZ _ (dR (hX _ _ (aG λX hX=>bC λc a hY hZ=>{0110,O "def ",1101,aj (λh2=>hY _ {01,(4),10132}) (λh2=>hZ _ (dR (hX _ _ ?_)))}))))}
 .rw[Q5 h]at q;let s2:=ac hm (.tup [.str (O "ask"),u]);show q _ _ (s1.trans s2) ?_ (.inr (.inl (by ext(⟨b,hb,e⟩:ge);show{b,hb,by rw[e]})));rw[ah];show{m,01,aa,by simp only[Reps];show{0013001,R1.mono s2,1}}
 .rw[Q6 h,Q5 h2]at q;show{01,cut h2 (),λH' u s' R' g=>q H' u s' R' (.inr (.inr g))}
 .rw[Q6 h,Q6 h2]at q;show q H .non (ae.refl _) () (.inl U)
end
def Cw{t:Br}(h:dQ t):(yh t).small=Y:=by ext(⟨⟨_,pa⟩,_,pb⟩:gQ (mZ t) (O ": "));let h1:(mZ t).length<=4900:=Eb h;unfold yh;show cq (bz ?_) (eE (El h pb));let:=congrArg H_ pa;rw[Ι,mj,mj]at this;omega
def yv:∀{ts:List Br},(∀t∈ts,dQ t)->(ts.map yh).all fz=Y->∃ps:List vD,ts.map yh=ps.map gZ/\(∀p∈ps,uP p)/\ps.length=ts.length
 |[],_,_=>{[],1,nofun,1}
 |t::ts,hs,h=>by
  rw[Υ,Qe,ψ]at h;obtain⟨ps,e,d,l⟩:=yv (λu f=>hs u (ς _ f)) h.2;ext(⟨_,_,i⟩:gQ (mZ t) (O ": "));let a:=h.1;unfold yh at a;rw[fz,ψ]at a;ext(⟨k,j,c,g⟩:pN (El (hs t Γ) i) (Q7 a.2));show{((Txt.partition (mZ t) (O ": ")).1,k)::ps,22,by rw[Λ,Λ,l]}
  .rw[Υ,Υ,e];unfold yh gZ;rw[j]
  .intro p b;rcases ν.mp b with rfl|b
   .show{a.1,c,g}
   .show d p b
def DQ{d:Dv}(h:GR d):d.small=Y/\(fU d=Y->∃x',Ae d x'):=by
 rcases h with rfl|⟨b,hb,rfl⟩|⟨w0,ws,ts,b,g⟩
 .show{1,λh=>by cases h}
 .show{cq (ca) (jx hb),λh=>?_};let h:fU (.tup [.str "ask",ce 21 b])=Y:=h;rw[zt]at h;let h:=Q7 h;ext(⟨b',w⟩:xA hb h);show{0,.inl {0,b',11,w,h}}
 .ext(⟨rfl,l0,lw,sw,lt,st,hb⟩:g);show{bb (λd hd=>?_) (by change 5<=5000;decide),λh=>?_}
  .rcases ν.mp hd with rfl|hd
   .show ca
   rcases ν.mp hd with rfl|hd
   .show bz l0
   rcases ν.mp hd with rfl|hd
   .show bb (λd hd=>by ext(⟨y,hy,rfl⟩:ϙ.mp hd);show bz (sw y hy)) (by rw[ε];omega)
   rcases ν.mp hd with rfl|hd
   .show bb (λd hd=>by ext(⟨y,hy,rfl⟩:ϙ.mp hd);show Cw (st y hy)) (by rw[ε];omega)
   .rw[ξ.mp hd];show jx hb
  .let h:fU (.tup [.str "def",.str w0,.tup (ws.map Dv.str),.tup (ts.map yh),ce 21 b])=Y:=h;rw[yG,ψ,ψ,ψ]at h;ext(⟨h0,h1,h2,h3⟩:h);let h3:=Q7 h3;ext(⟨b',w⟩:xA hb h3);let h0:(dD w0&&(!cZ w0 && !dz w0))=Y:=h0;let h1:(fA 0 (.tup (ws.map Dv.str))&&(ws.map Dv.str).all bO)=Y:=h1;let h2:(fA 0 (.tup (ts.map yh))&&(ts.map yh).all fz)=Y:=h2;rw[ψ,ψ,P_,P_]at h0;rw[ψ,OJ,A7]at h1;rw[ψ]at h2;ext(⟨ps,e,ok,l⟩:yv st h2.2);let n4:=lY h1.1;let p4:=lY h2.1;rw[ε]at n4 p4;show{0,.inr {w0,ws,ps,0,b',by rw[e];rfl,1,{h0.1,h0.2.1,h0.2.2,n4,h1.2,3,ok},w,h3}}
def Lp(d:Dv)(x:Str):Prop:=Ae d x/\d.small=Y
def RG(x:Str):Prop:=fU (dB x)=Y/\Lp (dB x) x
inductive CK (C:J) (vs:List V) (H:Hp) (Q:VK) (E:XK):Prop|mk (x:Str) (n:Int) (_:vs=[.str x,.int n]) (_:yd x) (_:RG x->∀H' v,ae H H'->ah H' (dB x) v->Q v H') (_:¬ RG x->∀(H':Hp)(dx p:J),ae H H'->H' dx=Z (.xd [("place",.ref p)])->H' p=Z (.tup [.int n,.int 0])->E (.ref C) (Z dx) H')
section
variable{P:Θ}{w:Χ}{K:ζ}{mg:Str->Option θ}{base:ϖ}
def rP{f frow_of_text fis_row fshow_row aNoWords:J}{fd:ό}{k0:Nat}(F:Fun K "read_row" "read_row" iS f fd)(T:Txt K mg)(Djust_so:lV P w K mg base k0 "just_so" ["text","reader","is_one","shower","place"] (NP frow_of_text fis_row fshow_row dB fU Lp aNoWords))(Grow_of_text:mg "row_of_text"=Z (.ref frow_of_text))(Gis_row:mg "is_row"=Z (.ref fis_row))(Gshow_row:mg "show_row"=Z (.ref fshow_row)):ap P w K mg base (dq P w) (k0+1) f fd ["text","number"] (CK aNoWords):=by
 show Jw F ua (λvs H Q E h=>?_) (λcdv A outer s H vs Q E hr h=>?_)
 .ext(⟨x,n,rfl,_⟩:h);rfl
 ext(⟨x,n,rfl,ts,q,b⟩:h);show{0,(@un _ _ _ (bI (LX Djust_so hr U (ay (wv 0) (ay (vE (.ref frow_of_text) Grow_of_text) (ay (vE (.ref fis_row) Gis_row) (ay (vE (.ref fshow_row) Gshow_row) (ar (cy (ay (wv 1) (ar az))))))))))),2};show{0101,z2,λt ht=>?_};let st:=ac ht (.tup [.int n,.int 0]);show{x,.ref t,1,ts,λh1 h2 H1 v s1 R1=>q ⟨h1,h2⟩ H1 v (st.trans s1) R1,λno H1 dx s1 h1=>b no H1 dx t (st.trans s1) h1 (s1 _ _ aa)}
end
section
variable{P:Θ}{w:Χ}{K:ζ}{mg:Str->Option θ}{base:ϖ}{N:List Str}{qual:Str}{sc scope:OA}{f:J}{cd:θ}{A:Ϛ}{outer:List Env}{s0:ρ}{H0:Hp}{E:XK}{elt tg iter:ϲ}{ifs:List ϲ}{pos:Pos}{wi:TI}{g:TG}{tt:TT}{te:TE}
def MF(own:List Str)(ix:List Nat)(j:Bx (PI (be (dq P w) P w K mg base N qual sc f cd A outer s0 H0 E) tg iter wi))(L:dI N sc scope own ix)
  (l:∀h s H,Bx (PG ((be (dq P w) P w K mg base N qual sc f cd A outer s0 H0 E).comp (iH N own ix) scope h s H) tg g)) (k:GW own.length g)
  (m:∀h s H,Bx (Jl ((be (dq P w) P w K mg base N qual sc f cd A outer s0 H0 E).comp (iH N own ix) scope h s H) ifs tt))
  (n:∀h s H i,dh (dq P w) (((be (dq P w) P w K mg base N qual sc f cd A outer s0 H0 E).comp (iH N own ix) scope h s H).wish i) E->Bx (PE (((be (dq P w) P w K mg base N qual sc f cd A outer s0 H0 E).comp (iH N own ix) scope h s H).wish i) elt te))
  (o:∀x,foldedSetIterable iter (be (dq P w) P w K mg base N qual sc f cd A outer s0 H0 E).env x=pure x):Bx (PE (be (dq P w) P w K mg base N qual sc f cd A outer s0 H0 E) (.ListComp elt [{tg,iter,ifs,(0)}] scope pos) (Mg wi own.length ix g tt te)):=
 {Jq j.h L (λa b c=>(l a b c).h) k (λa b c=>(m a b c).h) (λa b c d e=>(n a b c d e).h) o}
def MG(d:lV X.prog X.w X.K X.mg X.base k x ps sp)(i:bU k X.A)(j:Gl X x)(c:dh (dq X.prog X.w) X E)(l:Bx (PA X (e::es) t))(a:(x==("__debug__" : Str))=Α)
  (h:Ϗ (e::es) X.env=(Α,eval e X.env)::Ϗ es X.env) (b:(A5 pos (Ϗ es X.env)).any (·.1)=Α):Bx (PE X (.Call (.Name x p) (e::es) [] pos) (jk sp [] E t)):={ES d i j c l.h a h b}
end
open Classical in
noncomputable def pF:List Str->Option Nat
 |[]=>χ
 |l::L=>if RG l then (pF L).map (· + 1)else Z 0
def jU:∀{L:List Str},pF L=χ↔∀l∈L,RG l
 |[]=>{λ_=>nofun,λ_=>U}
 |l::L=>by
  rw[pF,List.forall_mem_cons,<-jU (L:=L)];split
  .rename_i h;rw[Option.map_eq_none_iff];show{λe=>{h,e},λe=>e.2}
  .rename_i h;show{λe=>(by cases e),λe=>absurd e.1 h}
def jZ:∀{L:List Str}{i:Nat},pF L=Z i↔∃y,L[i]?=Z y/\¬ RG y/\∀z∈L.take i,RG z
 |[],i=>{λe=>by(cases e),λ⟨y,e,_⟩=>by(cases e)}
 |l::L,i=>by
  rw[pF];split
  .rename_i h;cases i with
   |zero=>show{λe=>by ext(⟨k,_,z⟩:Ϣ.mp e);omega,λ⟨y,e,n,_⟩=>by injection e with e;show absurd (e▸h) n}
   |succ i=>rw[show((pF L).map (· + 1)=Z (i+1))=(pF L=Z i) by simp,jZ];show{λ⟨y,e,n,a⟩=>{y,e,n,λz hz=>by rw[M5]at hz;show(ν.mp hz).elim (λe=>e▸h) (a z)},λ⟨y,e,n,a⟩=>{y,e,n,λz hz=>a z (by rw[M5];show ς _ hz)}}
  .rename_i h;cases i with
   |zero=>show{λ_=>{l,1,h,nofun},λ_=>U}
   |succ i=>show{λe=>by(cases e),λ⟨y,e,n,a⟩=>absurd (a l (by rw[M5];show Γ)) h}
abbrev eW(x:Str):List Str:=Txt.split x (O "\n")
def ET:O "\n"={#[10]}:=()
noncomputable def Bv(x:Str):Option Nat:=if x=O "" then χ else if 12<(eW x).length then Z 0 else pF (eW x)
def IE(x:Str):List Str:=if x=O "" then []else eW x
def HV(E:XK)(H:Hp)(C:J)(k:Nat):Prop:=∀(H':Hp)(a p:J),ae H H'->H' a=Z (.xd [("place",.ref p)])->H' p=Z (.tup [.int k,.int 0])->E (.ref C) (Z a) H'
def Ou(Q:VK)(H:Hp)(L:List Str):Prop:=∀(H':Hp)(l:J)(us:List V),ae H H'->H l=χ->H' l=Z (.lst us)->Reps H' (L.map dB) us->Q (.ref l) H'
inductive yq (C:J) (vs:List V) (H:Hp) (Q:VK) (E:XK):Prop|mk (x:Str) (_:vs=[.str x]) (_:yd x) (_:Bv x=χ->Ou Q H (IE x)) (_:∀k,Bv x=Z k->HV E H C k)
def MK{E:XK}{H H1:Hp}{C t dx:J}(q:HV E H C 0)(s1:ae H H1)(ht:H1 t=χ)(hd:upd H1 t (.tup [.int 0,.int 0]) dx=χ):E (.ref C) (Z dx) (upd (upd H1 t (.tup [.int 0,.int 0])) dx (.xd [("place",.ref t)])):=by let s2:=ac ht (.tup [.int 0,.int 0]);let s3:=ac hd (.xd [("place",.ref t)]);show q _ dx t (s1.trans (s2.trans s3)) aa (s3 _ _ aa)
section
variable{P:Θ}{w:Χ}{K:ζ}{mg:Str->Option θ}{base:ϖ}
def Dx{f D fI aNoWords:J}{fd fdI:ό}{psI:List Str}{k:Nat}(F:Fun K "read" "read" xg f fd)(T:Txt K mg)(c_NoWords:eT K D fI aNoWords)(G_NoWords:mg "NoWords"=Z (.ref aNoWords))(FI:ap P w K mg base aY k fI fdI psI (fX K D fI))(BI:bo K fdI psI [])(Dread_row:lV P w K mg base (k+1) "read_row" ["text","number"] (CK aNoWords)):ap P w K mg base (dq P w) (k+2) f fd ["text"] (yq aNoWords):=by
 let nd:(["text","rows"]:List Str).Nodup:=zD.nd;show Jw F zD (λvs H Q E h=>?_) (λcdv A outer s H vs Q E hr h=>?_)
 .ext(⟨x,rfl,_⟩:h);rfl
 ext(⟨x,rfl,ts,q,b⟩:h);show{0,(@un _ _ _ (kW (jP (ii (cn bu T.isinstance (ay (wv 0) (ar (vB (.ty "str") T.str U)))))) (cX (IJ c_NoWords FI hr BI U G_NoWords dA (ar (cy (ay az (ar az)))))) (bV (aU av (wv 0) aP) (fu pZ) (aQ (aV 1 (fv Ρ r6 r9 eU (wv 0) (ar aP))) (kW (aU fh (cn am T.len (aK 1)) {T.g_MOST_ROWS U}) (cX (IJ c_NoWords FI hr BI U G_NoWords dA (ar (cy (ay az (ar az)))))) (bI (MF ["number","row"] [] (Mi U T.enumerate (aK 1)) (.of U) (λ_ _ _=>{pg_tup U (pgs_cons (pg_name (i:=0) (bp (l:=["number","row"]) (()) U) U (m_ U)) (pgs_cons (pg_name (i:=1) (bp (l:=["number","row"]) (()) U) U (m_ U)) pgs_nil))}) (iP () ()) (λ_ _ _=>lF) (λ_ _ _ _ hx=>MG Dread_row hr U hx (ay (wv 1) (aK 0)) () U U) ()))))))),2};show aG λX hX=>bC λc a hY hZ=>{0100001,iu.str _,jh K (.str x),012};rw[KN];show aD (hZ _ (dR (hX _ _ (aG λX hX=>bC λc a hY hZ=>{011012}))));unfold Bv IE at q;unfold Bv at b;by_cases e0:x=O ""
 .rw[Q5 e0,Q5 e0]at q;show aj (λ_=>hY _ {Τ _,λl hl=>q U _ l [] (ac hl _) hl aa (by simp[Reps])}) (λh=>absurd (Q9 (by rw[e0])) h)
 rw[Q6 e0,Q6 e0]at q;rw[Q6 e0]at b;show aj (λh=>absurd (V.str.inj (Q7 h)) e0) (λ_=>hZ _ (dR (hX _ _ (aG λX hX=>?_))));let sl:=iL x 10;rw[<-ET]at sl;ext(⟨sl1,sl2⟩:sl);let tl:x.length<=4800:=ts;show{0110,O "\n",11333,λg hg=>?_};unfold eW at q b;generalize Txt.split x (O "\n")=L at sl1 sl2 q b⊢;let s1:=ac hg (.lst (L.map V.str));let h1:upd H g (.lst (L.map V.str)) g=Z (.lst (L.map V.str)):=aa;generalize upd H g (.lst (L.map V.str))=H1 at s1 h1⊢;show gs hX λX hX=>bC λc a hY hZ=>{01,g,01,.inl (aw.of h1),0011012};by_cases n12:12<L.length
 .rw[Q5 n12]at b;show aj (λ_=>hY _ {z2,λt ht=>{01,λdx hd=>MK (b 0 U) s1 ht hd}}) (λh=>absurd (Q9 (by rw[ε];omega)) h)
 rw[Q6 n12]at b q;show aj (λh=>?_) (λ_=>hZ _ (dR (hX _ _ ?_)))
 .let:(12:Int)<((L.map V.str).length:Int):=Q7 h;rw[ε]at this;omega
 show{01,g,1,{0,aw.of h1},Ew (xs:=L.map V.str) (λi ys H'=>(∀z∈L.take i,RG z)/\ae H1 H'/\Reps H' ((L.take i).map dB) ys) {nofun,ae.refl _,by simp[Reps]} (λi ys H' p=>aw.of (p.2.1 _ _ h1)) ?_ ?_}
 .ext i ys H' x' p hx ⟨hi,s',R'⟩ hp;rw[ϐ]at hx;ext(⟨z,hz,rfl⟩:Ϣ.mp hx);let s2:=ac hp (.tup [.int i,.str z]);let lz:=sl2 z (Ν hz);show eM aa {0101,z,i,1,by change z.length<=4800;omega,λg H5 v s5 R5=>{2,λy hy=>?_,s'.trans (s2.trans s5),2},λno H5 dx p5 s5 h5 h6=>b i (jZ.mpr {z,hz,no,hi}) H5 dx p5 (s1.trans (s'.trans (s2.trans s5))) h5 h6}
  .let:=R'.length;rw[ε,Ω]at this;rw[this,ι];omega
  .rw[ϛ,hz]at hy;rcases ϧ.mp hy with hy|hy
   .show hi y hy
   .rw[ξ.mp hy];show g
  .rw[ϛ,hz,Ε];show Reps.append (R'.mono (s2.trans s5)) (aO R5)
 .ext ys H4 ⟨hl,s4,R4⟩ l hl';rw[ε,Ϥ]at hl R4;let s5:=ac hl' (.lst ys);show q (jU.mpr hl) _ l ys (s1.trans (s4.trans s5)) ((s1.trans s4).free hl') aa (R4.mono s5)
end
open PySem L2 KB XB L2.EX WR PySem.Builtin.Str
abbrev ql:ϯ:=bT 99
inductive HS (vs:List V) (H:Hp) (Q:VK) (u3_:XK):Prop|mk (x:Str) (a:J) (_:vs=[.str x,.ref a]) (_:x.length<=4700) (_:gb H a) (_:∀(H':Hp)(y:Str),ao a H H'->gb H' a->y.length<=x.length+41->Q (.str y) H')
def vN(x:Str)(l u:Option Int):(Txt.slice x l u).length<=(strSliceIndices l u 1 x.length).length:=by
 unfold Txt.slice;split
 .rename_i h;let:=Q7 h;simp only[ψ,beq_iff_eq,beq_self_eq_true,true_and]at h;omega
 .change(List.filterMap _ (strSliceIndices l u 1 x.length)).toArray.size<=_;rw[Κ];show List.length_filterMap_le _ _
def HK{x:Str}{j:Int}(h:0<=j):((Txt.slice x χ (Z j)).length:Int)<=j:=by let:=vN x χ (Z j);unfold strSliceIndices sliceRange at this;simp only[show(1:Int)>0 by decide,if_true,ε,Qa,Qo]at this;split at this<;>(try split at this)<;>(try split at this)<;>omega
def yT{x:Str}{i:Int}(h:0<=i):((Txt.slice x (Z i) χ).length:Int)+i<=x.length\/(Txt.slice x (Z i) χ).length=0:=by let:=vN x (Z i) χ;unfold strSliceIndices sliceRange at this;simp only[show(1:Int)>0 by decide,if_true,ε,Qa,Qo]at this;split at this<;>(try split at this)<;>(try split at this)<;>omega
def Hg{x:Str}{i:Int}(h:0<=i):(Txt.slice x (Z i) (Z (i+1))).length<=1:=by let:=vN x (Z i) (Z (i+1));unfold strSliceIndices sliceRange at this;simp only[show(1:Int)>0 by decide,if_true,ε,Qa,Qo]at this;split at this<;>(try split at this)<;>(try split at this)<;>(try split at this)<;>omega
section
variable{P:Θ}{w:Χ}{K:ζ}{mg:Str->Option θ}{base:ϖ}
def xk{f:J}{fd:ό}{k:Nat}(F:Fun K "_law_changed" "_law_changed" ql f fd)(T:Txt K mg)(D_law_draw:aS P w K mg base k "_law_draw" ["_law_state_here","_law_many"] dY):ap P w K mg base aY (k+1) f fd ["_law_text","_law_state_here"] HS:=by
 show F.okA (N:=["_law_text","_law_state_here","_law_way","_law_at","_law_sign","_law_far","_law_two"]) λcdv A outer s H vs Q E hr nd h=>?_;ext(⟨x,a,rfl,lx,sa,q⟩:h);show{0,aQ (aV 2 (aL D_law_draw (ay (wv 1) (ar az)))) (aQ (aV 3 (aL D_law_draw (ay (wv 1) (ar (bh bj (cn bX T.len (aK 0)) az))))) (aQ (aV 4 (eh rL aP (aL D_law_draw (ay (wv 1) (ar az))))) (aQ (aV 5 (bh bj (bh bj (wv 3) az) (aL D_law_draw (ay (wv 1) (ar az))))) (bV (aU av (wv 2) az) (bh ak (bh ak (gp bF (wv 0) ib (fG (wv 3))) (wv 4)) (gp bF (wv 0) (fG (wv 3)) ib)) (bV (aU av (wv 2) az) (bh ak (gp bF (wv 0) ib (fG (wv 3))) (gp bF (wv 0) (fG (bh bj (wv 3) az)) ib)) (bV (aU av (wv 2) az) (bh ak (bh ak (gp bF (wv 0) ib (fG (wv 3))) (wv 4)) (gp bF (wv 0) (fG (bh bj (wv 3) az)) ib)) (bV (aU av (wv 2) az) (bh ak (bh ak (gp bF (wv 0) ib (fG (wv 3))) (gp bF (wv 0) (fG (wv 3)) (fG (bh bj (wv 3) az)))) (gp bF (wv 0) (fG (wv 3)) ib)) (bV (aU av (wv 2) az) (bh ak (gp bF (wv 0) ib (fG (wv 5))) (gp bF (wv 0) (fG (wv 3)) ib)) (bV (aU av (wv 2) az) (bh ak (gp bF (wv 0) ib (fG (wv 3))) (gp bF (wv 0) (fG (wv 5)) ib)) (aQ (aV 6 (bh ak (gp bF (wv 0) (fG (bh bj (wv 3) az)) (fG (bh bj (wv 3) az))) (gp bF (wv 0) (fG (wv 3)) (fG (bh bj (wv 3) az))))) (bI (bh ak (bh ak (gp bF (wv 0) ib (fG (wv 3))) (wv 6)) (gp bF (wv 0) (fG (bh bj (wv 3) az)) ib))))))))))))),2};let xl:x.length<=Μ:=()
 show aG λX hX=>{01,a,(7),1,sa,33,λH1 wy s1 sa1 w0 w1=>gs hX λX hX=>?_};show{0101,x,1,xl,0011,a,01,sa1,33,λH2 i s2 sa2 i0 i1=>gs hX λX hX=>?_};let ol:(O "abimnrw0123459 ,()+*:=\n").length=23:=();let os:(O "abimnrw0123459 ,()+*:=\n").length<=Μ:=by rw[ol,ι];decide
 show{01,a,(23),1,sa2,33,λH3 j s3 sa3 j0 j1=>?_};obtain⟨j,rfl⟩:∃m:Nat,j=m:={j.toNat,3};let hj:j<(O "abimnrw0123459 ,()+*:=\n").cps.toList.length:=by rw[mj];omega
 let hg:=Δ hj;generalize (O "abimnrw0123459 ,()+*:=\n").cps.toList[j]=c at hg;show{00,c,11,os,ad hg,gs hX λX hX=>?_};show{01001101,a,(40),1,sa3,33,λH4 u s4 sa4 u0 u1=>{0011,gs hX λX hX=>?_}};let Q4:∀y:Str,y.length<=x.length+41->Q (.str y) H4:=λy hy=>q _ _ (s1.trans (s2.trans (s3.trans s4))) sa4 hy;let z:∀l u,(Txt.slice x l u).length<=4700:=λl u=>ϩ (Txt.slice_le x l u) lx;let c1:({#[c]}:Str).length=1:=U;let sz:∀{a b:Str},a.length<=4700->b.length<=4700->a.length+b.length<=Μ:=λh g=>by rw[ι];omega
 let sz2:∀{a b c:Str},a.length<=4700->b.length<=4700->c.length<=4700->(a++b).length+c.length<=Μ:=λh g k=>by rw[ι,υ];omega
 let A:=HK (x:=x) i0;let B:=yT (x:=x) i0;let A1:=yT (x:=x) (i:=i+1) ();let A2:=yT (x:=x) (i:=i+2) ();let M:=Hg (x:=x) i0;let M1:=Hg (x:=x) (i:=i+1) ();rw[show i+1+1=i+2 by omega]at M1;let F0:=HK (x:=x) (j:=i+1+u) ();let F1:=yT (x:=x) (i:=i+1+u) ();show bC λe d hY hZ=>{01101,aj (λh=>hY _ ?_) (λ_=>hZ _ (dR (hX _ _ (aG λX hX=>bC λe d hY hZ=>{01101,aj (λh=>hY _ ?_) (λ_=>hZ _ (dR (hX _ _ (aG λX hX=>bC λe d hY hZ=>{01101,aj (λh=>hY _ ?_) (λ_=>hZ _ (dR (hX _ _ (aG λX hX=>bC λe d hY hZ=>{01101,aj (λh=>hY _ ?_) (λ_=>hZ _ (dR (hX _ _ (aG λX hX=>bC λe d hY hZ=>{01101,aj (λh=>hY _ ?_) (λ_=>hZ _ (dR (hX _ _ (aG λX hX=>bC λe d hY hZ=>{01101,aj (λh=>hY _ ?_) (λ_=>hZ _ (dR (hX _ _ (aG λX hX=>?_))))}))))}))))}))))}))))}))))}
 .show{01010101,xl,010011,sz (z _ _) (),01010101,xl,0011,sz2 (z _ _) () (z _ _),Q4 _ (by rw[υ,υ];omega)}
 .show{01010101,xl,010100110101,xl,0011,sz (z _ _) (z _ _),Q4 _ (by simp only[υ];omega)}
 .show{01010101,xl,010011,sz (z _ _) (),010100110101,xl,0011,sz2 (z _ _) () (z _ _),Q4 _ (by simp only[υ];omega)}
 .show{01010101,xl,0101010100110101,xl,0011,sz (z _ _) (z _ _),01010101,xl,0011,sz2 (z _ _) (z _ _) (z _ _),Q4 _ (by simp only[υ];omega)}
 .show{01010101,xl,01010101,xl,0011,sz (z _ _) (z _ _),Q4 _ (by simp only[υ];omega)}
 .show{01010101,xl,01010101,xl,0011,sz (z _ _) (z _ _),Q4 _ (by simp only[υ];omega)}
 .show{01010011010100110101,xl,0101010100110101,xl,0011,sz (z _ _) (z _ _),dm (hX _ _ ?_)};show{01010101,xl,010011,sz (z _ _) (by rw[υ];omega),010100110101,xl,0011,by simp only[υ,ι];omega,Q4 _ (by simp only[υ];omega)}
end
open PySem L2 KB XB L2.EX WR
abbrev xV:ϯ:=bT 100
noncomputable def yQ(x:Str):Dv:=match Bv x with
 |none=>.tup [.lst ((IE x).map dB),.non]
 |some k=>.tup [.non,.tup [.bl Y,.tup [.int (k:Int),.int 0]]]
inductive HY (vs:List V) (H:Hp) (Q:VK) (u3_:XK):Prop|mk (x:Str) (_:vs=[.str x]) (_:yd x) (_:∀H' v,ae H H'->ah H' (yQ x) v->Q v H')
section
variable{P:Θ}{w:Χ}{K:ζ}{mg:Str->Option θ}{base:ϖ}
def DN{f fr D fI aNoWords:J}{fd fdr:ό}{k:Nat}(F:Fun K "_law_read" "_law_read" xV f fd)(T:Txt K mg)(XT:AU K D)(G_IndexwiseError:mg "IndexwiseError"=Z (.ref D))(cW:eT K D fI aNoWords)(G_NoWords:mg "NoWords"=Z (.ref aNoWords))
  (F_read:ap P w K mg base (dq P w) k fr fdr ["text"] (yq aNoWords)) (G_read:mg "read"=Z (.ref fr)) (K_read:ϥ K (.ref fr)=Y) (B_read:bo K fdr ["text"] []):ap P w K mg base aY (k+1) f fd ["_law_text"] HY:=by
 show F.okA (N:=["_law_text","_law_found","_law_place","e"]) λcdv A outer s H vs Q E hr nd h=>?_;ext(⟨x,rfl,ts,q⟩:h);show{0,aQ (aV 1 oR) (aQ (aV 2 oR) (aQ {Ex (i:=3) (j:=1) (D:=D) (fI:=fI) F_read hr U G_read K_read B_read (pa_cons (pv 0) pa_nil) (λ_ _ z=>z) U XT U G_IndexwiseError U U nd U U (λeH=>Bx.h (cX (aV 2 (cy (ay (cn (jS (D:=D) (fI:=fI)) T.isinstance (ay (wv 3) (ar (vE (.ref aNoWords) G_NoWords)))) (ar (NX D fI (wv 3)))))))) U (m_ U) (.inr U)} (bI (cy (ay (wv 1) (aK 2)))))),2};unfold yQ at q;show dm (dm {01,x,1,ts,λhn H1 l us s1 hl h1 R1=>?_,λn hk H1 dx p s1 h1 h2=>{00011,cW,h1,λe he=>?_}})
 .show{0101,z2,λt ht=>?_};let s2:=ac ht (.tup [.ref l,.non]);rw[hn]at q;show q _ _ (s1.trans s2) (cK aa (by rw[ah];show{l,us,1,s2 _ _ h1,R1.mono s2}) ())
 .let s2:=ac he (Xh aNoWords dx e);rw[hk]at q;show{01,e,0,dx,01,aa,cW,.inl {001,cW.sub,Q9 U,{01,e,0,dx,.ref p,1,aa,cW,s2 _ _ h1,z2,λt ht=>dm ?_}}};let s3:=s2.trans (ac ht (.tup [.bl Y,.ref p]));show{0101,z2,λt2 ht2=>?_};let s4:=ac ht2 (.tup [.non,.ref t]);show q _ _ (s1.trans (s3.trans s4)) (cK aa () ?_);rw[ah];show{t,01,s4 _ _ aa,2};simp only[Reps];show{001300121};rw[ah];show{p,01,(s3.trans s4) _ _ h2,by simp only[Reps];show{001300131}}
end
abbrev CA:ϯ:=bT 61
inductive Dl (vs:List V) (H:Hp) (Q:VK) (u3_:XK):Prop|mk (l:J) (us:List V) (L:List Str) (_:vs=[.ref l]) (_:H l=Z (.lst us)) (_:Reps H (L.map dB) us) (_:∀y∈L,Ae (dB y) y) (_:L.length<=12) (_:(L.map (·.length)).sum<=5000) (_:∀H',ae H H'->Q (.str (Ϻ (O "\n") L)) H')
section
variable{P:Θ}{w:Χ}{K:ζ}{mg:Str->Option θ}{base:ϖ}
def FQ{f:J}{fd:ό}{k:Nat}(F:Fun K "show" "show" CA f fd)(T:Txt K mg)(Dshow_row:aS P w K mg base k "show_row" ["row"] (BR Ae)):ap P w K mg base aY (k+1) f fd ["program"] Dl:=by
 show F.okA (N:=["program"]) λcdv A outer s H vs Q E hr nd h=>?_;ext(⟨l,us,L,rfl,hl,R,ok,l12,ls,q⟩:h);show{0,bI (fv Ρ d_ e_ dH aP (ar (lT ["row"] [] (vC (wv 0)) (.of U) U (λ_ _ _=>{pg_name (i:=0) (bp (l:=["row"]) (()) U) U (m_ U)}) (aZ ()) (λ_ _ _=>lF) (λ_ _ _=>(aL Dshow_row (aK 0)))))),2};let lu:us.length=L.length:=by let:=R.length;rwa[ε]at this
 show{101,l,1,{us,aw.of hl},eq (xs:=us) (λi ys H'=>ae H H'/\ys=(L.take i).map V.str) {ae.refl _,1} (λi ys H' _ p=>aw.of (p.1 _ _ hl)) ?_ ?_}
 .ext i ys H' x hx ⟨s',rfl⟩;ext(⟨y,hy,Ry⟩:bZ (f:=dB) R hx);show ba {01,x,y,dB y,1,Ry.mono s',ok y (Ν hy),λH7 s7=>{2,s'.trans s7,2}}
  .let hi:i<us.length:=(Ζ.mp hx).1;rw[ε,Ω,ι];omega
  .rw[ϛ,hy,Ε];rfl
 .ext ys H4 ⟨s4,rfl⟩ m hm;rw[lu,Ϥ];let ln1:(O "\n").length=1:=();show{0,m,L,11,aw.of aa,by rw[ln1];omega,2};rw[tj];show q _ (s4.trans (ac hm _))
end
abbrev ij:ϯ:=uU (bT 1) 0
def Jf{d:Dv}(h:GR d):d.small=Y/\(fU d=Y->∃x',Lp d x'):={(DQ h).1,λr=>let ⟨x',w⟩:=(DQ h).2 r;{x',w,(DQ h).1}}
def Je(vs:List V)(H:Hp)(Q:VK)(E:XK)(h:BR Lp vs H Q E):BR Ae vs H Q E:=by ext(⟨v,x,d,e,R,w,q⟩:h);show{v,x,d,e,R,w.1,q}
section
variable{P:Θ}{w:Χ}{K:ζ}{mg:Str->Option θ}{base:ϖ}
def Di:ci ["self","place"] ["self","place"] (ax ij):=()
def Bq{D fI:J}{fd:ό}{dV:θ}(F:AY K "__init__" "IndexwiseError.__init__" ij fI fd dV)(T:Txt K mg):ap P w K mg base aY 1 fI fd ["self","place"] (fX K D fI):=by
 show F.ok Di (λvs H Q E h=>?_) (λcdv A outer s H vs Q E hr h=>?_)
 .ext(⟨e,C,t,v,rfl,_⟩:h);rfl
 ext(⟨e,C,t,v,rfl,he,c,q⟩:h);show{0,(@un _ _ _ (aQ (oF (Ox D fI U T.ValueError () (ay (wv 0) (aK 1)))) (cX (Of D fI (wv 0) (wv 1))))),2};show{0101,e,C,t,v,1,he,c,λt'=>{0101,e,C,t',1,aa,c,λdx hd hne=>?_}};let hd':H dx=χ:=by rw[ai hne]at hd;show hd
 let z:=q dx t' hd' hne;let y:upd (upd (upd H e (Xr C t' e)) dx (.xd [("place",v)])) e (Xo C t' dx e)=upd (upd H dx (.xd [("place",v)])) e (Xo C t' dx e):=by
  funext b;by_cases hb:b=e
  .rw[hb,aa,aa]
  .rw[ai hb,ai hb];by_cases hx:b=dx
   .rw[hx,aa,aa]
   .rw[ai hx,ai hx,ai hb]
 change Q .non (upd (upd (upd H e (Xr C t' e)) dx (.xd [("place",v)])) e (Xo C t' dx e));rw[y];show z
end
abbrev kL:ϯ:=bT 21
abbrev ml:ϯ:=bT 23
abbrev lh:ϯ:=bT 24
abbrev pP:ϯ:=bT 44
abbrev gY:ϯ:=bT 45
def Gi{P:Int->List Pr->Prop}{k:Kd}(h:k.All P):∀j∈k.kids,Kd.All P j:=by
 cases k with
 |whole=>show nofun
 |place c ps=>show nofun
 |row c ps k=>intro j hj;rw[ξ.mp hj];show h.2
 |pair a b=>
  intro j hj;rcases ν.mp hj with rfl|hj
  .show h.1
  .rw[ξ.mp hj];show h.2
inductive Hh (vs:List V) (H:Hp) (Q:VK) (u3_:XK):Prop|mk (v:V) (k:Kd) (_:vs=[v]) (_:ah H k.dv v) (_:∀(H':Hp)(l:J)(us:List V),ae H H'->H l=χ->H' l=Z (.lst us)->Reps H' (k.kids.map Kd.dv) us->Q (.ref l) H')
def LO(vs:List V)(H:Hp)(Q:VK)(E:XK)(h:Hh vs H Q E):BD vs H Q E:=by
 ext(⟨v,k,rfl,R,q⟩:h);ext(⟨a,us,rfl,ha,hv⟩:Kd.inv R);let ne:(O "pair")≠O "row":=();let n1:(O "whole")≠O "row":=();let n2:(O "place")≠O "row":=();let n3:(O "whole")≠O "pair":=();let n4:(O "place")≠O "pair":=();cases k with
 |whole=>subst hv;show{a,0,[],1,ha,λz=>absurd z n1,λz=>absurd z n3,λl hl=>?_};show q _ l _ (ac hl _) hl aa (by change Reps _ [] (kids (O "whole") []);unfold kids;rw[Q6 n1,Q6 n3];simp only[Reps])
 |place c ps=>ext(⟨l1,rfl,_⟩:hv);show{a,0,[l1],1,ha,λz=>absurd z n2,λz=>absurd z n4,λl hl=>?_};show q _ l _ (ac hl _) hl aa (by change Reps _ [] (kids (O "place") [l1]);unfold kids;rw[Q6 n2,Q6 n4];simp only[Reps])
 |row c ps j=>ext(⟨l1,u,rfl,_,Ru⟩:hv);show{a,0,[l1,u],1,ha,λ_=>U,λ_=>U,λl hl=>?_};show q _ l [u] (ac hl _) hl aa (aO (Ru.mono (ac hl _)))
 |pair i j=>
  ext(⟨u,w',rfl,Ru,Rw⟩:hv);show{a,0,[u,w'],1,ha,λ_=>U,λ_=>U,λl hl=>?_};let e:kids (O "pair") [u,w']=[u,w']:=by unfold kids;rw[Q6 ne,Q5 U]
  show q _ l [u,w'] (ac hl _) hl (by rw[aa];change Z (HO.lst (kids (O "pair") [u,w']))=_;rw[e]) (Reps.append (aO (Ru.mono (ac hl _))) (aO (Rw.mono (ac hl _))))
inductive zq (vs:List V) (H:Hp) (Q:VK) (u3_:XK):Prop|mk (v:V) (k:Kd) (_:vs=[v]) (_:ah H k.dv v) (_:∀u,ah H (Ac k.len?) u->Q u H)
inductive qh (fT:J) (vs:List V) (H:Hp) (Q:VK) (u3_:XK):Prop|mk (v:V) (k:Kd) (_:vs=[v,.ref fT]) (_:ah H k.dv v) (_:k.size<=12) (_:k.All Sm) (_:∀(H':Hp)(l:J)(us:List V)(js:List Kd),ae H H'->H l=χ->H' l=Z (.lst us)->Reps H' (js.map Kd.dv) us->js.length<=12->(∀j∈js,Kd.All Sm j)->Q (.ref l) H')
inductive nK (vs:List V) (H:Hp) (Q:VK) (u3_:XK):Prop|mk (v:V) (k:Kd) (_:vs=[v]) (_:ah H k.dv v) (_:k.size<=12) (_:k.All Sm) (_:∀(H':Hp)(l:J)(us:List V)(js:List Kd),ae H H'->H l=χ->H' l=Z (.lst us)->Reps H' (js.map Kd.dv) us->js.length<=12->(∀j∈js,Kd.All Sm j)->Q (.ref l) H')
section
variable{P:Θ}{w:Χ}{K:ζ}{mg:Str->Option θ}{base:ϖ}
def qW{f:J}{fd:ό}(F:Fun K "length_at" "length_at" kL f fd)(T:Txt K mg):ap P w K mg base aY 1 f fd ["point"] zq:=by
 show F.okA (N:=["point"]) λcdv A outer s H vs Q E hr nd h=>?_;ext(⟨v,k,rfl,R,q⟩:h);show{0,bV (iz (me (aU av (bc 0) aP) (qu (aU av (bc 0) aP)))) (bc 0) (bI oR),2};ext(⟨a,vs,rfl,ha,hv⟩:Kd.inv R);show{01,a,0,(0),.str k.word,11,aq.of ha,ad (j:=0) U,1012};cases k with
 |whole=>show aj (λh=>absurd (Q7 h) (tf JC)) (λ_=>{01,a,0,(0),.str "whole",11,aq.of ha,ad (j:=0) U,101,aj (λh=>absurd (Q7 h) (tf Ig)) (λ_=>?_)});show q .non (by simp only[Kd.len?,Ac,ah])
 |place c ps=>ext(⟨l1,rfl,Rl⟩:hv);show aj (λ_=>aA {01,a,0,(1),l1,11,aq.of ha,ad (j:=1) U,q l1 Rl}) (λh=>absurd (Q9 U) h)
 |row c ps j=>ext(⟨l1,u,rfl,Rl,Ru⟩:hv);show aj (λh=>absurd (Q7 h) (tf (ϔ JO))) (λ_=>{01,a,0,(0),.str "row",11,aq.of ha,ad (j:=0) U,101,aj (λ_=>{01,a,0,(1),l1,11,aq.of ha,ad (j:=1) U,q l1 Rl}) (λh=>absurd (Q9 U) h)})
 |pair i j=>show aj (λh=>absurd (Q7 h) (tf (ϔ Ih))) (λ_=>{01,a,0,(0),.str "pair",11,aq.of ha,ad (j:=0) U,101,aj (λh=>absurd (Q7 h) (tf (ϔ IT))) (λ_=>?_)});show q .non (by simp only[Kd.len?,Ac,ah])
def uA{f fT:J}{fd fdT:ό}{k0:Nat}(F:Fun K "in_order" "in_order" ml f fd)(T:Txt K mg)(FV:ap P w K mg base aY k0 fT fdT ["point"] Hh)(KV:ϥ K (.ref fT)=Y)(BV:bo K fdT ["point"] []):ap P w K mg base aY (k0+1) f fd ["whole","parts_of"] (qh fT):=by
 show F.okA (N:=["whole","parts_of","points","waiting","point"]) λcdv A outer s H vs Q E hr nd h=>?_;ext(⟨v,k,rfl,R,k12,kA,q⟩:h);show{0,aQ (aV 2 (fu pZ)) (aQ (aV 3 (fu (aK 0))) (aQ (Lv Ϩ (MR (wv 3) (λ_=>U)) (aQ (aV 4 (LW ϑ OT OU wt (wv 3))) (aQ (oF (fv ϑ Ϡ ϡ bq (wv 2) (aK 4))) (cX (oF (fv ϑ F5 F6 ka (wv 3) (ar (Ob U T.list U T.reversed U (Md 1 FV hr KV BV (aK 4)))))))))) (bI (wv 2)))),2};show{Τ _,λP1 hP=>?_};show{01,z1,λW1 hW=>?_};let q1:=ac hP (.lst []);let q2:=ac hW (.lst [v]);let hPW:P1≠W1:=af (aa (H:=H) (a:=P1) (o:=.lst [])) hW;let hWn:H W1=χ:=q1.free hW;show xN (λm σ H'=>∃(o4:Option V) (dn ws:List Kd) (us vs:List V),σ=[Z v,Z (.ref fT),Z (.ref P1),Z (.ref W1),o4]/\ae H H'/\H' P1=Z (.lst us)/\H' W1=Z (.lst vs)/\Reps H' (dn.map Kd.dv) us/\Reps H' (ws.map Kd.dv) vs/\(∀j∈dn++ws,Kd.All Sm j)/\m=(ws.map Kd.size).sum/\dn.length+m<=12) k.size
  {0,[],[k],[],[v],1,q1.trans q2,q2 _ _ aa,aa,by simp only[ϴ,Reps],aO ((R.mono q1).mono q2),↑kA,3,↑k12} ?_ iU
 ext m σ H1 ⟨o4,dn,ws,us,vs,rfl,s1,p1,w1,R1,R2,al,rfl,m12⟩;show{010,.inl {vs,aw.of w1,1},2};let ldn:us.length<=12:=by let:=R1.length;rw[ε]at this;omega
 by_cases ne:ws=[]
 .subst ne;let e:vs=[]:=by simpa only[ϴ,Reps]using R2
  subst e;show aD {01,q H1 P1 us dn s1 hP p1 R1 () λj hj=>al j (g_ _ hj)}
 .ext(⟨w0,x,rfl⟩:rc ne)
  rw[Ε]at R2;ext(⟨v0,u,rfl,Ra,Ru⟩:il R2);let e:(!(v0++[u]).isEmpty)=Y:=();rw[e];show aA ?_;let xs:=x.size_pos;rw[Ε,n9]at m12;simp only[Υ,ϴ,c_,J1]at m12;let lv0:v0.length<=12:=by
   let h1:=Ra.length;rw[ε]at h1;let h2:∀l:List Kd,l.length<=(l.map Kd.size).sum:=by
    intro l;induction l with
    |nil=>simp
    |cons y l ih=>rw[Λ,Υ,c_];let:=y.size_pos;omega
   let h3:=h2 w0;omega
  show{01,.inl {10,aw.of w1},W1,0011,w1,mE _ _,2};rw[K_];let s2:=ao.upd H1 W1 (.lst v0);let w2:upd H1 W1 (.lst v0) W1=Z (.lst v0):=aa;let p2:=s2 _ _ hPW p1;let t2:gz H1 _:=s2.tups w1;generalize upd H1 W1 (.lst v0)=H2 at s2 w2 p2 t2⊢;show{01,.inl {10,aw.of p2},01,P1,0011,p2,32};let s3:=ao.upd H2 P1 (.lst (us++[u]));let p3:upd H2 P1 (.lst (us++[u])) P1=Z (.lst (us++[u])):=aa;let w3:=s3 _ _ (ϔ hPW) w2;let t3:gz H1 _:=t2.trans (s3.tups p2);generalize upd H2 P1 (.lst (us++[u]))=H3 at s3 p3 w3 t3⊢;show{01,.inl {10,aw.of w3},101,u,x,1,Kd.tupS t3 Ru,λH4 l ks s4 hl h4 R4=>{l,ks,1,aw.of h4,λa ha=>?_}};let s5:=s4.trans (ac ha (.lst ks.reverse));let lks:ks.length<=2:=by let h1:=R4.length;rw[ε]at h1;rw[h1];cases x<;>simp[Kd.kids]
  show{W1,a,0011,s5 _ _ w3,aa,by rw[M4,ι];omega,2};let R5:Reps (upd H4 a (.lst ks.reverse)) (x.kids.reverse.map Kd.dv) ks.reverse:=by
   let R4':=R4.mono (ac ha (.lst ks.reverse));cases x with
   |whole=>simp only[Kd.kids,ϴ,Reps]at R4'⊢;subst R4';simp[Kd.kids,Reps]
   |place c ps=>simp only[Kd.kids,ϴ,Reps]at R4'⊢;subst R4';simp[Kd.kids,Reps]
   |row c ps j=>simp only[Kd.kids,Υ,ϴ,Reps]at R4';ext(⟨y,r,rfl,hy,rfl⟩:R4');show aO hy
   |pair i j=>simp only[Kd.kids,Υ,ϴ,Reps]at R4';ext(⟨y,r,rfl,hy,z,r2,rfl,hz,rfl⟩:R4');show Reps.append (aO hz) (aO hy)
  let s6:=ao.upd (upd H4 a (.lst ks.reverse)) W1 (.lst (v0++ks.reverse));let t6:gz H1 _:=t3.trans ((ae.tups s5).trans (s6.tups (s5 _ _ w3)));show{020,dn++[x],w0++x.kids.reverse,us++[u],v0++ks.reverse,12,s6 _ _ hPW (s5 _ _ p3),aa,22212}
  .rw[Ε,n9,Ε,n9];let h1:=x.size_kids;let h2:(x.kids.reverse.map Kd.size).sum=(x.kids.map Kd.size).sum:=by rw[List.map_reverse,List.sum_reverse]
   simp only[Υ,ϴ,c_,J1];omega
  .exactλg o e=>s6 g o (λz=>by rw[z,hWn]at e;cases e) (s5 _ _ (s3 g o (af e hP) (s2 g o (λz=>by rw[z,hWn]at e;cases e) (s1 g o e))))
  .rw[Ε];show Reps.append (bH (λd hd v r=>by ext(⟨y,_,rfl⟩:ϙ.mp hd);show Kd.tupS t6 r) R1) (aO (Kd.tupS t6 Ru))
  .rw[Ε];show Reps.append (bH (λd hd v r=>by ext(⟨y,_,rfl⟩:ϙ.mp hd);show Kd.tupS t6 r) Ra) (bH (λd hd v r=>by ext(⟨y,_,rfl⟩:ϙ.mp hd);show Kd.tupS (s6.tups (s5 _ _ w3)) r) R5)
  .intro j hj;rcases ϧ.mp hj with h|h
   .rcases ϧ.mp h with h|h
    .show al j (g_ _ h)
    .rw[ξ.mp h];show al x ()
   .rcases ϧ.mp h with h|h
    .show al j (by simp[h])
    .show Gi (al x ()) j (List.mem_reverse.mp h)
  .rw[Ε,n9,Ι];let h1:=x.size_kids;let h2:(x.kids.reverse.map Kd.size).sum=(x.kids.map Kd.size).sum:=by rw[List.map_reverse,List.sum_reverse]
   change dn.length+1+_<=12;omega
def sO{f fthings_of:J}{fd:ό}{k0:Nat}(F:Fun K "points_of" "points_of" lh f fd)(T:Txt K mg)(Din_order:aS P w K mg base k0 "in_order" ["whole","parts_of"] (qh fthings_of))(Gthings_of:mg "things_of"=Z (.ref fthings_of)):ap P w K mg base aY (k0+1) f fd ["kind"] nK:=by show F.okA (N:=["kind"]) λcdv A outer s H vs Q E hr nd h=>?_;ext(⟨v,k,rfl,R,k12,kA,q⟩:h);show{0,bI (aL Din_order (ay (wv 0) (ar (vE (.ref fthings_of) Gthings_of)))),2};show{01,v,k,1,R,k12,kA,q}
end
abbrev lA:ϯ:=bT 46
inductive Hr (vs:List V) (H:Hp) (Q:VK) (u3_:XK):Prop|mk (v:V) (b:J) (c:Int) (ps:List Pr) (m:List (cR×V)) (_:vs=[v,.ref b]) (_:ah H (cw c ps) v) (_:ps.length<=4902) (_:H b=Z (.dK m)) (_:∀(H':Hp)(l:J)(us:List V)(fs:List Pr),ae H H'->H l=χ->H' l=Z (.lst us)->Reps H' (aJ fs) us->fs.length<=4902->Q (.ref l) H')
inductive GX (vs:List V) (H:Hp) (Q:VK) (u3_:XK):Prop|mk (v u:V) (l:J) (k:Kd) (fs:List Pr) (us:List V) (ns:List Str) (_:vs=[v,.ref l,u]) (_:ah H k.dv v) (_:H l=Z (.lst us)) (_:Reps H (aJ fs) us) (_:ah H (.tup (ns.map Dv.str)) u) (_:ns.length<=40) (_:∀H' c,ae H H'->Q (.bl c) H')
inductive xP (vs:List V) (H:Hp) (Q:VK) (u3_:XK):Prop|mk (v u:V) (ns:List Str) (ps:List vD) (_:vs=[v,u]) (_:ah H (.tup (ns.map Dv.str)) v) (_:ah H (.tup (ps.map gZ)) u) (_:ns.length<=4) (_:ps.length<=4) (_:∀p∈ps,p.2.size<=12/\p.2.All Sm) (_:∀H' c,ae H H'->Q (.bl c) H')
def zg(m:List (cR×V))(k:cR)(v:V):(gl m k v).length<=m.length+1:=by
 unfold gl;split
 .rw[ε];omega
 .rw[Ι];show Β _
def Fp{P:Int->List Pr->Prop}{k:Kd}(h:k.All P){c:Int}{ps:List Pr}(e:k.len?=Z (c,ps)):P c ps:=by
 cases k with
 |whole=>cases e
 |place c ps=>cases e;show h
 |row c ps k=>cases e;show h.1
 |pair a b=>cases e
section
variable{P:Θ}{w:Χ}{K:ζ}{mg:Str->Option θ}{base:ϖ}
def xc{f:J}{fd:ό}(F:Fun K "unbound" "unbound" pP f fd)(T:Txt K mg):ap P w K mg base aY 1 f fd ["length","bound"] Hr:=by
 show F.okA (N:=["length","bound"]) λcdv A outer s H vs Q E hr nd h=>?_;ext(⟨v,b,c,ps,m,rfl,R,h40,hb,q⟩:h);let hu:=yM hr;ext(⟨a,a1,us,rfl,ha,ha1,ru,lu⟩:sQ R);show{0,bI (lT ["part"] [1] (Bj (bc 0)) (.of U) U (λ_ _ _=>{pg_name (i:=0) (bp (l:=["part","bound"]) (()) U) U (m_ U)}) (aZ ()) (λ_ _ _=>{zI (pt_cmpR (AZ hu) (pe_ix (md K U) (pv 0) pe_int (λ_ _=>U)) (pv 1) (by with_unfolding_all rfl))}) (λ_ _ _=>(wv 0))),2};show{01,a,0,(1),.ref a1,11,aq.of ha,ad (j:=1) U,a1,1,{us,aq.of ha1},gi (xs:=us) (λi ys H'=>H'=H/\∃fs,fs.length<=i/\Reps H (aJ fs) ys) {1,[],Β _,by simp[Reps]} (λi ys H' _ p=>by rw[p.1];show aq.of ha1) ?_ ?_}
 .ext i ys H' x hx ⟨rfl,fs,lf,Ry⟩;ext(⟨p,e,hp,rfl,he⟩:mi ru hx);let hi:i<us.length:=(Ζ.mp hx).1;let ly:ys.length=fs.length:=by let:=Ry.length;rwa[ε]at this
  show rV {01,e,0,(0),.str p.1,11,aq.of he,ad (j:=0) U,01,b,01,wb.k (k:=ϱ p.1) hb,01,aj (λ_=>{0131,fs++[p],by rw[Ι];change _+1<=_;omega,2}) (λ_=>{1,fs,3,Ry})};rw[show aJ (fs++[p])=aJ fs++aJ [p]from Ε];show Reps.append Ry (aO ?_);rw[ah];show{e,01,he,by simp only[Reps];show{001300131}}
 .ext ys H' ⟨rfl,fs,lf,Ry⟩ r hr';show q _ r ys fs (ac hr' _) hr' aa (Ry.mono (ac hr' _)) ()
def rC{f:J}{fd:ό}(F:Fun K "may_stand" "may_stand" gY f fd)(T:Txt K mg):ap P w K mg base aY 1 f fd ["point","fresh","names"] GX:=by
 show F.okA (N:=["point","fresh","names"]) λcdv A outer s H vs Q E hr nd h=>?_;ext(⟨v,u,l,k,fs,us,ns,rfl,R,hl,Rf,Rn,n40,q⟩:h);let hu9:=gX hr;let huL:(A.deeper (B9 (O "may_stand") (ax gY) s.heap.objs.size f cdv)).units<B8:=();ext(⟨a,vs,rfl,ha⟩:KE R);ext(⟨b,ws,rfl,hb,Rw⟩:ah.tup_inv Rn);let lf:us.length=fs.length:=by let:=Rf.length;rwa[ε]at this
 show{0,bV (aU (rY huL) (wv 1) (fu pZ)) gA (bI (iV (jO av (bc 0) aP) (iV (jO av (cn am T.len (aK 1)) az) (nO (jO (IR hu9) (eh aF (wv 1) az) (lT ["name"] [] (Bj (wv 2)) (.of U) U (λ_ _ _=>{pg_name (i:=0) (bp (l:=["name"]) (()) U) U (m_ U)}) (aZ ()) (λ_ _ _=>lF) (λ_ _ _=>(cy (ay (wv 0) (ar az)))))))))),2};show{01,Τ _,λe he=>?_};let s1:=ac he (.lst []);show{l,e,us,11,aw.of (s1 _ _ hl),aw.of aa,012};cases fs with
 |nil=>obtain rfl:us=[]:=I0 lf;show aA (q _ _ s1)
 |cons p fs=>
  obtain⟨y,us,rfl⟩:∃y z,us=y::z:=by cases us with|nil=>cases lf|cons y z=>show{y,z,1}
  let Ry:ah H (.tup [.str p.1,.int p.2]) y:=by simp only[aJ,Υ,Reps]at Rf;ext(⟨z,r,e1,Rz,_⟩:Rf);cases e1;show Rz
  show aD {01,a,0,(0),.str k.word,11,aq.of (s1 _ _ ha),ad (j:=0) U,101,aj (λ_=>{01,l,01,.inl (aw.of (s1 _ _ hl)),101,aj (λ_=>?_) (λ_=>q _ _ s1)}) (λ_=>q _ _ s1)};show{01,l,0,(0),y,11,aw.of (s1 _ _ hl),ad (j:=0) U,2};show{01,b,1,{ws,aq.of (s1 _ _ hb)},gi (xs:=ws) (λi ys H'=>ae (upd H e (.lst [])) H'/\Reps H' (aJ ((ns.take i).map λx=>(x,(1:Int)))) ys) {ae.refl _,by simp[Reps]} (λi ys H' _ p=>aq.of (p.1 _ _ (s1 _ _ hb))) ?_ ?_}
  .ext i ys H2 x hx ⟨s2,R2⟩;ext(⟨n,hn,Rx⟩:bZ Rw hx);let ex:x=.str n:=by simpa only[ah]using Rx
   subst ex;let hi:i<ws.length:=(Ζ.mp hx).1;let lw:ws.length=ns.length:=by let:=Rw.length;rwa[ε]at this
   show ba {01,z2,λt ht=>{2,s2.trans (ac ht _),2}}
   .rw[R2.length,ε,ε,Ω,ι];omega
   .let s3:=ac ht (.tup [.str n,.int 1]);rw[ϛ,hn,Ε,show aJ (QO (λx=>(x,(1:Int))) (ns.take i)++QO (λx=>(x,(1:Int))) (Z n).toList)=aJ (QO (λx=>(x,(1:Int))) (ns.take i))++aJ [(n,1)]from Ε];show Reps.append (R2.mono s3) (aO ?_);rw[ah];show{t,01,aa,by simp only[Reps];show{001300131}}
  .ext ys H2 ⟨s2,R2⟩ r hr'
   let s3:=ac hr' (.lst ys);let plp:∀p:Pr,L2.Pl 1 (.tup [.str p.1,.int p.2]):=λp=>.tup λd hd=>by
    rcases ν.mp hd with rfl|hd
    .show .str
    .rw[ξ.mp hd];show .int
   show{r,ys,(1),001,aw.of aa,R2.mono s3,λd hd=>by ext(⟨z,_,rfl⟩:ϙ.mp hd);show plp z,plp p,3,((Ry.mono s1).mono s2).mono s3,λc _=>q _ _ (s1.trans (s2.trans s3))}
def sR{f:J}{fd:ό}{k:Nat}(F:Fun K "are_bound" "are_bound" lA f fd)(T:Txt K mg)(Dpoints_of:aS P w K mg base k "points_of" ["kind"] nK)(Dlength_at:aS P w K mg base k "length_at" ["point"] zq)(Dunbound:aS P w K mg base k "unbound" ["length","bound"] Hr)(Dmay_stand:aS P w K mg base k "may_stand" ["point","fresh","names"] GX):
  ap P w K mg base aY (k+1) f fd ["names","params"] xP:=by
 show F.okA (N:=["names","params","bound","x","kind","point","fresh","name","times"]) λcdv A outer s H vs Q E hr nd h=>?_;ext(⟨v,u,ns,ps,rfl,Rn,Rp,n4,p4,hk,q⟩:h);let hu:=yM hr;ext(⟨b,ws,rfl,hb,Rw⟩:ah.tup_inv Rn);ext(⟨a,us,rfl,ha,Ru⟩:ah.tup_inv Rp);let lu:us.length=ps.length:=by let:=Ru.length;rwa[ε]at this
 let lw:ws.length=ns.length:=by let:=Rw.length;rwa[ε]at this
 show{0,aQ (aV 2 Nd) (aQ (qO Ϩ U (Bj (wv 1)) (uX (gE (eX 3) (gE (eX 4) tq))) (cX (qO Ϩ U (vC (aL Dpoints_of (aK 4))) (eX 5) (aQ (aV 6 (Ku (aU fq (aL Dlength_at (aK 5)) oR) (fu pZ) (aL Dunbound (ay (aL Dlength_at (aK 5)) (aK 2))))) (bV (jP (ii (aL Dmay_stand (ay (wv 5) (ay (wv 6) (aK 0)))))) gA (cX (qO Ϩ U (vC (wv 6)) (uX (gE (eX 7) (gE (eX 8) tq))) (cX (LS hu (wv 2) (wv 7) gA U))))))))) (bI (jO av (cn Ai T.len (aK 2)) (cn am T.len (aK 0))))),2};intro d hd;let s0:ae H (upd H d (.dK [])):=ac hd _;let d0:upd H d (.dK []) d=Z (.dK []):=aa;generalize upd H d (.dK [])=H0 at s0 d0⊢;show{01,a,1,{us,aq.of (s0 _ _ ha)},sV (xs:=us) (λi σ H'=>∃(o1 o2 o3 o4 o5 o6:Option V) (m:List (cR×V)),σ=[Z (.ref b),Z (.ref a),Z (.ref d),o1,o2,o3,o4,o5,o6]/\ae H H'/\H' d=Z (.dK m)/\m.length<=60000*i)
  {000000,[],1,s0,d0,Τ _} (λi σ H' _ ⟨_,_,_,_,_,_,_,_,s1,_⟩=>aq.of (s1 _ _ ha)) ?T1 ?_}
 case T1=>
  ext i x σ H1 hx ⟨o1,o2,o3,o4,o5,o6,m,rfl,s1,d1,l1⟩;ext(⟨p,hp,Rx⟩:bZ (f:=gZ) Ru hx);ext(⟨e,z,rfl,he,Rz⟩:nj Rx);let hi:i<us.length:=(Ζ.mp hx).1;ext(⟨k12,kA⟩:hk p (Ν hp));show{e,01,aq.of (s1 _ _ he),100100112};show{01,z,p.2,1,Rz.mono s1,k12,kA,λH2 g ks js s2 hg0 hg Rg l12 jA=>?_};let lk:ks.length=js.length:=by let:=Rg.length;rwa[ε]at this
  let gd:g≠d:=λz=>by rw[z,d1]at hg0;cases hg0
  show{g,1,{ks,aw.of hg},jD (xs:=ks) (λj σ H'=>∃(o3 o4 o5 o6:Option V) (m:List (cR×V)),σ=[Z (.ref b),Z (.ref a),Z (.ref d),Z (.str p.1),Z z,o3,o4,o5,o6]/\ao d H2 H'/\H' d=Z (.dK m)/\m.length<=60000*i+5000*j)
   {0000,m,1,ao.refl _ _,s2 _ _ d1,3} (λj σ H' _ ⟨_,_,_,_,_,_,sx,_⟩=>aw.of (sx _ _ gd hg)) ?T2 ?_}
  case T2=>
   ext j y σ H3 hy ⟨o3,o4,o5,o6,m,rfl,s3,d3,l3⟩;ext(⟨kj,hj,Ry⟩:bZ Rg hy);let hjA:=jA kj (Ν hj);let hjl:j<ks.length:=(Ζ.mp hy).1;let t3:gz H2 H3:=s3.tupsD (s2 _ _ d1);let Ry3:=Kd.tupS t3 Ry;let s03:ae H H3:=λx o e=>s3 x o (af e hd) (s2 _ _ (s1 _ _ e));show Jk (λσ' H4=>∃(l:J) (zs:List V) (fs:List Pr),σ'=[Z (.ref b),Z (.ref a),Z (.ref d),Z (.str p.1),Z z,Z y,Z (.ref l),o5,o6]/\ae H3 H4/\H3 l=χ/\H4 l=Z (.lst zs)/\Reps H4 (aJ fs) zs/\fs.length<=4902) ?N1 (λnx=>?_)
   case N1=>
    ext _ H4 ⟨l,zs,fs,rfl,s4,hl0,hl,Rz',lf⟩;let lz:zs.length=fs.length:=by let:=Rz'.length;rwa[ε]at this
    show{010101,y,.ref b,l,kj,fs,zs,ns,1,Ry3.mono s4,hl,Rz',by rw[ah];show{b,ws,1,s4 _ _ (s03 _ _ hb),Rw.mono (s03.trans s4)},3,λH5 c s5=>{012}};cases c with
    |false=>show aA (q H5 _ (s03.trans (s4.trans s5)))
    |true=>
     show aD ?_;let d5:=s5 _ _ (s4 _ _ d3);let ld:l≠d:=λz=>by rw[z,d3]at hl0;cases hl0
     show{01,l,1,{zs,aw.of (s5 _ _ hl)},jD (xs:=zs) (λn σ H'=>∃(o5 o6:Option V) (m':List (cR×V)),σ=[Z (.ref b),Z (.ref a),Z (.ref d),Z (.str p.1),Z z,Z y,Z (.ref l),o5,o6]/\ao d H5 H'/\H' d=Z (.dK m')/\m'.length<=m.length+n)
      {00,m,1,ao.refl _ _,d5,Β _} (λm σ H' _ ⟨_,_,_,_,sx,_⟩=>aw.of (sx _ _ ld (s5 _ _ hl))) ?T3 ?_}
     case T3=>
      ext n c σ H6 hc ⟨o5,o6,m',rfl,s6,d6,l6⟩;let hn:n<zs.length:=(Ζ.mp hc).1;ext(⟨r,e,hr',rfl,he'⟩:mi Rz' hc);let ed:e≠d:=λz=>by let:=s5 _ _ he';rw[z,d5]at this;cases this
      show{e,01,aq.of (s6 _ _ ed (s5 _ _ he')),100100112};show{0101,d,01,vz.k (k:=ϱ r.1) d6 (),0001,s6.trans (ao.upd _ _ _),aa,2};let:=zg m' (ϱ r.1) (.bl Y);omega
     ext σ H6 ⟨o5,o6,m',rfl,s6,d6,l6⟩;show{0000,m',1,s3.trans ((ae.b d (s4.trans s5)).trans s6),d6,3}
   show{01,y,kj,1,Ry3,λw1 Rw1=>{1012}};rcases By Rw1 with ⟨e,rfl⟩|⟨r,ds,e,ed,Rd⟩
   .show aA {Τ _,λl hl=>dm (nx _ _ {l,[],[],1,ac hl _,hl,aa,by simp[Reps],Τ _})}
   .let hw:w1≠.non:=λz=>by subst z;simp only[ah]at Rd;ext(⟨_,_,z,_⟩:Rd);cases z
    rw[show decide (w1=V.non)=Α by simp[hw]];show aD {01,y,kj,1,Ry3,λw2 Rw2=>{01,w2,d,r.1,r.2,m,1,by rw[e]at Rw2;show Rw2,(Fp hjA e).1.1.len,d3,λH4 l zs fs s4 hl0 hl Rz' lf=>dm (nx _ _ {l,zs,fs,1,s4,hl0,hl,Rz',lf})}}
  ext σ H3 ⟨o3,o4,o5,o6,m,rfl,s3,d3,l3⟩;show{000000,m,1,λx o e=>s3 x o (af e hd) (s2 _ _ (s1 _ _ e)),d3,3}
 ext σ H1 ⟨o1,o2,o3,o4,o5,o6,m,rfl,s1,d1,l1⟩;show{01,d,01,d1,01,b,ws,1,.inr (aq.of (s1 _ _ hb)),1,q H1 _ s1}
end
abbrev oJ:ϯ:=bT 43
abbrev gN:ϯ:=bT 47
abbrev gP:ϯ:=bT 48
abbrev gf:ϯ:=bT 49
abbrev kq:ϯ:=bT 50
def Cy{E:XK}{H H1:Hp}{C p:J}{i:Nat}(h:HV E H C i)(s:ae H H1)(hp:H1 p=χ):∀dx,upd H1 p (.tup [.int (i:Int),.int 0]) dx=χ->E (.ref C) (Z dx) (upd (upd H1 p (.tup [.int (i:Int),.int 0])) dx (.xd [("place",.ref p)])):=λdx hd=>
 h _ dx p (s.trans ((ac hp _).trans (ac hd _))) aa (ac hd _ _ _ aa)
inductive xC (K:ζ) (vs:List V) (H:Hp) (Q:VK) (u3_:XK):Prop|mk (l:J) (ys:List Str) (_:vs=[.ref l]) (_:aw K H l (ys.map V.str)\/aq K H l (ys.map V.str)) (_:ys.length<=1000) (_:∀H' c,ae H H'->Q (.bl c) H')
inductive Rw|ask (e:Dv)|df (f:Str) (ns:List Str) (ps:List vD) (e:Dv)
def Rw.dv:Rw->Dv
 |.ask e=>.tup [.str (O "ask"),e]
 |.df f ns ps e=>zB f ns ps e
def Rw.Ok:Rw->Prop
 |.ask _=>True
 |.df f ns ps _=>AS f ns ps
def KU{d:Dv}{x:Str}(h:Ae d x):∃r:Rw,d=r.dv/\r.Ok:=by
 rcases h with ⟨e,b,rfl,rfl,we⟩|⟨f,ns,ps,e,b,rfl,rfl,df,we⟩
 .show{.ask e,1,trivial}
 .show{.df f ns ps e,1,df}
def CT:∀{ds:List Dv},(∀d∈ds,∃x,Ae d x)->∃rs:List Rw,ds=rs.map Rw.dv/\∀r∈rs,r.Ok
 |[],_=>{[],1,nofun}
 |d::ds,h=>by ext(⟨x,hx⟩:h d Γ);ext(⟨r,rfl,ok⟩:KU hx);obtain⟨rs,rfl,oks⟩:=CT λd hd=>h d (ς _ hd);show{r::rs,1,λy hy=>(ν.mp hy).elim (λe=>e▸ok) (oks y)}
def Rw.inv{H:Hp}{r:Rw}{v:V}(R:ah H r.dv v):∃a,v=.ref a/\match r with
  |.ask _=>∃u,H a=Z (.tup [.str (O "ask"),u])
  |.df f ns ps _=>∃b c u,H a=Z (.tup [.str (O "def"),.str f,.ref b,.ref c,u])/\ah H (.tup (ns.map Dv.str)) (.ref b)/\ah H (.tup (ps.map gZ)) (.ref c):=by
 cases r with
 |ask e=>obtain⟨a,vs,rfl,ha,rs⟩:=ah.tup_inv (show ah H (.tup [.str (O "ask"),e]) v from R);ext(⟨x,y,rfl,r1,r2⟩:Reps.two rs);simp only[ah]at r1;subst r1;show{a,1,y,ha}
 |df f ns ps e=>obtain⟨a,vs,rfl,ha,rs⟩:=ah.tup_inv (show ah H (.tup [.str (O "def"),.str f,.tup (ns.map Dv.str),.tup (ps.map gZ),e]) v from R);simp only[Reps]at rs;ext(⟨u1,_,rfl,R1,u2,_,rfl,R2,u3,_,rfl,R3,u4,_,rfl,R4,u5,_,rfl,R5,rfl⟩:rs);simp only[ah]at R1 R2;subst R1;subst R2;ext(⟨b,_,rfl,_⟩:ah.tup_inv R3);ext(⟨c,_,rfl,_⟩:ah.tup_inv R4);show{a,1,b,c,u5,ha,R3,R4}
def xT:¬ (V.str (O "ask")=V.str (O "def")):=tf ()
def ae.seqT{K:ζ}{H H':Hp}{a:J}{xs:List V}(e:ae H H')(h:aq K H a xs):aq K H' a xs:=by
 rcases h with h|h
 .show .inl (h.imp (λz=>e _ _ z) λ⟨o,z⟩=>{o,e _ _ z})
 .show .inr h
inductive KA (vs:List V) (H:Hp) (Q:VK) (u3_:XK):Prop|mk (l:J) (us:List V) (ds:List Dv) (_:vs=[.ref l]) (_:H l=Z (.lst us)) (_:Reps H ds us) (_:∀d∈ds,fU d=Y/\d.small=Y) (_:ds.length<=12) (_:∀H',ae H H'->Q .non H')
inductive EK (c:J) (vs:List V) (H:Hp) (Q:VK) (E:XK):Prop|mk (l:J) (us:List V) (rs:List Rw) (_:vs=[.ref l]) (_:H l=Z (.lst us)) (_:Reps H (rs.map Rw.dv) us) (_:∀r∈rs,r.Ok) (_:rs.length<=12) (_:∀H',ae H H'->Q .non H') (_:∀i,HV E H c i)
inductive Ha (cT cB:J) (vs:List V) (H:Hp) (Q:VK) (E:XK):Prop|mk (l:J) (us:List V) (rs:List Rw) (_:vs=[.ref l]) (_:H l=Z (.lst us)) (_:Reps H (rs.map Rw.dv) us) (_:∀r∈rs,fU r.dv=Y/\r.dv.small=Y/\r.Ok) (_:rs.length<=12) (_:∀H' t,ae H H'->H' t=Z (.lst us)->Q (.ref t) H') (_:∀i,HV E H cT i) (_:∀i,HV E H cB i)
def jq:ci ["rows","number","row"] ["rows"] (ax gN):=()
def jF:ci ["rows","seen","number","row"] ["rows"] (ax gP):=()
def iD:ci ["rows","number","row"] ["rows"] (ax gf):=()
def nH:ci ["thing","rows"] ["thing"] (ax kq):=()
section
variable{P:Θ}{w:Χ}{K:ζ}{mg:Str->Option θ}{base:ϖ}
def uQ{f:J}{fd:ό}(F:Fun K "is_twice" "is_twice" oJ f fd)(T:Txt K mg):ap P w K mg base aY 1 f fd ["things"] (xC K):=by show F.okA (N:=["things"]) λcdv A outer s H vs Q E hr nd h=>?_;ext(⟨l,ys,rfl,hs,hl,q⟩:h);show{0,bI (jO jE (cn Ar T.len (ar (kZ (Au U) T.set (aK 0)))) (cn am T.len (aK 0))),2};show{01,l,ys,1,hs,hl,λa zs ha nd mz lz=>{a,zs,1,aa,2}};let s1:=ac ha (sZ P w a zs);let hs1:aw K (upd H a (sZ P w a zs)) l (ys.map V.str)\/aq K (upd H a (sZ P w a zs)) l (ys.map V.str):=hs.imp (λh=>s1.seq h) (λh=>ae.seqT s1 h);show{01,l,01,hs1,0011,q _ _ s1}
def sj{f D fI aNoProgram:J}{fd fdI:ό}{psI:List Str}{k:Nat}(F:Fun K "hold_rows" "hold_rows" gN f fd)(T:Txt K mg)(c_NoProgram:eT K D fI aNoProgram)(G_NoProgram:mg "NoProgram"=Z (.ref aNoProgram))(FI:ap P w K mg base aY k fI fdI psI (fX K D fI))(BI:bo K fdI psI [])
  (Dis_row:aS P w K mg base (k+1) "is_row" ["thing"] (ir fU)):ap P w K mg base (dq P w) (k+2) f fd ["rows"] KA:=by
 let nd:(["rows","number","row"]:List Str).Nodup:=jq.nd;show Jw F jq (λvs H Q E h=>?_) (λcdv A outer s H vs Q E hr h=>?_)
 .ext(⟨l,us,rs,rfl,_⟩:h);rfl
 ext(⟨l,us,ds,rfl,hl,Ru,sm,l12,q⟩:h);show{0,(@un _ _ _ (cX (qO Qb U (Mi U T.enumerate (aK 0)) (uX (gE (eX 1) (gE (eX 2) tq))) (cX (Ap (jP (ii (aL Dis_row (aK 2)))) (cX (IJ c_NoProgram FI hr BI U G_NoProgram dA (ar (cy (ay (wv 1) (ar az)))))) Bh))))),2};show{01,l,1,{us,aw.of hl},mL (xs:=us) (λi σ H'=>∃(o1 o2:Option V),σ=[Z (.ref l),o1,o2]/\ae H H') {001,ae.refl _} (λi σ H' _ ⟨_,_,_,s1⟩=>aw.of (s1 _ _ hl)) ?T1 ?_}
 case T1=>
  ext i x σ H1 p hx ⟨o1,o2,rfl,s1⟩ hp;ext(⟨d,hd,Rx⟩:Ru.get hx);ext(⟨ro,sd⟩:sm d (Ν hd));let s2:=s1.trans (ac hp (.tup [.int i,x]));show{p,01,aq.of aa,100100112};show{01,x,01,Rx.mono s2,sd,λH2 s3=>{012}};rw[ro];show aD {001,s2.trans s3}
 ext σ H1 ⟨o1,o2,rfl,s1⟩;show q H1 s1
def rO{f D fI aTwice:J}{fd fdI:ό}{psI:List Str}{k:Nat}(F:Fun K "hold_once" "hold_once" gP f fd)(T:Txt K mg)(c_Twice:eT K D fI aTwice)(G_Twice:mg "Twice"=Z (.ref aTwice))(FI:ap P w K mg base aY k fI fdI psI (fX K D fI))(BI:bo K fdI psI [])
  (Dis_twice:aS P w K mg base (k+1) "is_twice" ["things"] (xC K)):ap P w K mg base (dq P w) (k+2) f fd ["rows"] (EK aTwice):=by
 let nd:(["rows","seen","number","row"]:List Str).Nodup:=jF.nd;show Jw F jF (λvs H Q E h=>?_) (λcdv A outer s H vs Q E hr h=>?_)
 .ext(⟨l,us,rs,rfl,_⟩:h);rfl
 ext(⟨l,us,rs,rfl,hl,Ru,hC,l12,q,bad⟩:h);let hu:=yM hr;let lu:us.length=rs.length:=by let:=Ru.length;rwa[ε]at this
 show{0,(@un _ _ _ (aQ (aV 1 Nd) (cX (qO Qb U (Mi U T.enumerate (aK 0)) (uX (gE (eX 2) (gE (eX 3) tq))) (cX (Ap (aU av (bc 3) aP) (kW (iz (me (aU (IO hu) (bc 3) (wv 1)) (me (ii (aL Dis_twice (ar (bc 3)))) (qu (ii (aL Dis_twice (ar (lT (["x","kind"]) [] (Bj (bc 3)) (.of U) U (λ_ _ _=>{pg_tup U (pgs_cons (pg_name (i:=0) (bp (l:=["x","kind"]) (()) U) U (m_ U)) (pgs_cons (pg_name (i:=1) (bp (l:=["x","kind"]) (()) U) U (m_ U)) pgs_nil))}) (iP () ()) (λ_ _ _=>lF) (λ_ _ _=>(wv 0)))))))))) (cX (IJ c_Twice FI hr BI U G_Twice dA (ar (cy (ay (wv 2) (ar az)))))) (cX (LS hu (wv 1) (bc 3) gA U))) Bh)))))),2};intro d hd;let s0:ae H (upd H d (.dK [])):=ac hd _;let d0:upd H d (.dK []) d=Z (.dK []):=aa;generalize upd H d (.dK [])=H0 at s0 d0⊢;show{01,l,1,{us,aw.of (s0 _ _ hl)},mL (xs:=us) (λi σ H'=>∃(o1 o2:Option V) (m:List (cR×V)),σ=[Z (.ref l),Z (.ref d),o1,o2]/\ae H H'/\H' d=Z (.dK m)/\m.length<=i) {00,[],1,s0,d0,Β _} (λi σ H' _ ⟨_,_,_,_,s1,_⟩=>aw.of (s1 _ _ hl)) ?T1 ?_}
 case T1=>
  ext i x σ H1 p hx ⟨o1,o2,m,rfl,s1,d1,lm⟩ hp;ext(⟨r,hr',Rx⟩:bZ (f:=Rw.dv) Ru hx);let hi:i<us.length:=(Ζ.mp hx).1;let ok:=hC r (Ν hr');let s2:=s1.trans (ac hp (.tup [.int i,x]));let d2:=ac hp (.tup [.int i,x]) _ _ d1;show{p,01,aq.of aa,100100112};generalize upd H1 p (.tup [.int i,x])=H2 at s2 d2⊢;ext(⟨a,rfl,inv⟩:Rw.inv (Rx.mono s2));let thr:∀{H3:Hp}{p2:J},ae H H3->H3 p2=χ->_:=λs3 h3=>Cy (bad i) s3 h3;cases r with
  |ask e=>ext(⟨u,ha⟩:inv);show{01,a,0,(0),.str (O "ask"),11,aq.of ha,ad (j:=0) U,101,aj (λh=>absurd (Q7 h) xT) (λ_=>{00,m,1,s2,d2,3})}
  |df g ns ps e=>
   ext(⟨b,c,u,ha,Rn,Rp⟩:inv);let n4:=ok.l4;let p4:=ok.p4;show{01,a,0,(0),.str (O "def"),11,aq.of ha,ad (j:=0) U,101,aj (λ_=>?_) (λh=>absurd (Q9 U) h)};show{01,a,0,(1),.str g,11,aq.of ha,ad (j:=1) U,01,d,01,wb.k (k:=ϱ g) d2,012};show aj (λ_=>aA {01,z2,λp2 hp2=>{01,thr s2 hp2}}) (λ_=>?_);ext(⟨b',ws,e1,hb,Rw'⟩:ah.tup_inv Rn);cases e1;ext(⟨c',zs,e2,hc,Rz⟩:ah.tup_inv Rp);cases e2;let ew:ws=ns.map V.str:=gn Rw';subst ew;show{01,a,0,(2),.ref b,11,aq.of ha,ad (j:=2) U,b,ns,1,.inr (aq.of hb),3,λH3 c1 s3=>{012}};cases c1 with
   |true=>show aA {01,z2,λp2 hp2=>{01,thr (s2.trans s3) hp2}}
   |false=>
   let lz:zs.length=ps.length:=by let:=Rz.length;rwa[ε]at this
   show aD {01,a,0,(3),.ref c,11,aq.of (s3 _ _ ha),ad (j:=3) U,c,1,{zs,aq.of (s3 _ _ hc)},gi (xs:=zs) (λi ys H'=>H'=H3/\ys=(ps.take i).map λp=>V.str p.1) {11} (λi ys H' _ p=>by rw[p.1];show aq.of (s3 _ _ hc)) ?_ ?_}
   .ext i ys H' x hx ⟨rfl,rfl⟩;ext(⟨p,hp,Rx⟩:bZ (f:=gZ) Rz hx);ext(⟨e,z,rfl,he,_⟩:nj Rx);show eM (s3 _ _ he) {01212}
    .rw[ε,Ω,ι];omega
    .rw[ϛ,hp,Ε];rfl
   .ext ys H' ⟨rfl,rfl⟩ r hr'';rw[lz,Ϥ];let s4:=ac hr'' (.lst (ps.map λp=>V.str p.1));show{r,ps.map (·.1),1,.inl (aw.of (by rw[aa,ϗ];rfl)),by rw[ε];omega,λH5 c2 s5=>{012}};let s25:=s3.trans (s4.trans s5);cases c2 with
    |true=>show aA {01,z2,λp2 hp2=>{01,thr (s2.trans s25) hp2}}
    |false=>
    show aD {0101,a,0,(1),.str g,11,aq.of (s25 _ _ ha),ad (j:=1) U,d,01,vz.k (k:=ϱ g) (s25 _ _ d2) (),2};let:=zg m (ϱ g) (.bl Y);show{0001,λx o e=>by rw[ai (af e hd)];show s25 _ _ (s2 _ _ e),aa,3}
 ext σ H1 ⟨o1,o2,m,rfl,s1,_⟩;show q H1 s1
def pC{f D fI aNoBind:J}{fd fdI:ό}{psI:List Str}{k:Nat}(F:Fun K "hold_bound" "hold_bound" gf f fd)(T:Txt K mg)(c_NoBind:eT K D fI aNoBind)(G_NoBind:mg "NoBind"=Z (.ref aNoBind))(FI:ap P w K mg base aY k fI fdI psI (fX K D fI))(BI:bo K fdI psI [])
  (Dare_bound:aS P w K mg base (k+1) "are_bound" ["names","params"] xP):ap P w K mg base (dq P w) (k+2) f fd ["rows"] (EK aNoBind):=by
 let nd:(["rows","number","row"]:List Str).Nodup:=iD.nd;show Jw F iD (λvs H Q E h=>?_) (λcdv A outer s H vs Q E hr h=>?_)
 .ext(⟨l,us,rs,rfl,_⟩:h);rfl
 ext(⟨l,us,rs,rfl,hl,Ru,hC,l12,q,bad⟩:h);show{0,(@un _ _ _ (cX (qO Qb U (Mi U T.enumerate (aK 0)) (uX (gE (eX 1) (gE (eX 2) tq))) (cX (Ap (iz (Bl (aU av (bc 2) aP) (Bk (jP (ii (aL Dare_bound (ay (bc 2) (ar (bc 2))))))))) (cX (IJ c_NoBind FI hr BI U G_NoBind dA (ar (cy (ay (wv 1) (ar az)))))) Bh))))),2};show{01,l,1,{us,aw.of hl},mL (xs:=us) (λi σ H'=>∃(o1 o2:Option V),σ=[Z (.ref l),o1,o2]/\ae H H') {001,ae.refl _} (λi σ H' _ ⟨_,_,_,s1⟩=>aw.of (s1 _ _ hl)) ?T1 ?_}
 case T1=>
  ext i x σ H1 p hx ⟨o1,o2,rfl,s1⟩ hp;ext(⟨r,hr',Rx⟩:bZ (f:=Rw.dv) Ru hx);let ok:=hC r (Ν hr');let s2:=s1.trans (ac hp (.tup [.int i,x]));show{p,01,aq.of aa,100100112};generalize upd H1 p (.tup [.int i,x])=H2 at s2⊢;ext(⟨a,rfl,inv⟩:Rw.inv (Rx.mono s2));cases r with
  |ask e=>ext(⟨u,ha⟩:inv);show{01,a,0,(0),.str (O "ask"),11,aq.of ha,ad (j:=0) U,101,aj (λh=>absurd (Q7 h) xT) (λ_=>aD {001,s2})}
  |df g ns ps e=>
   ext(⟨b,c,u,ha,Rn,Rp⟩:inv);show{01,a,0,(0),.str (O "def"),11,aq.of ha,ad (j:=0) U,101,aj (λ_=>?_) (λh=>absurd (Q9 U) h)};show{01,a,0,(2),.ref b,11,aq.of ha,ad (j:=2) U,01,a,0,(3),.ref c,11,aq.of ha,ad (j:=3) U,.ref b,.ref c,ns,ps,1,Rn,Rp,ok.l4,ok.p4,λp hp=>{(ok.pn p hp).sz,(ok.pn p hp).sm},λH3 c3 s3=>{012}};cases c3 with
   |true=>show aD {001,s2.trans s3}
   |false=>show aA {01,z2,λp2 hp2=>{01,Cy (bad i) (s2.trans s3) hp2}}
 ext σ H1 ⟨o1,o2,rfl,s1⟩;show q H1 s1
def wX{f D fI aNoProgram cT cB:J}{fd fdI:ό}{psI:List Str}{k:Nat}(F:Fun K "checked" "checked" kq f fd)(T:Txt K mg)(c_NoProgram:eT K D fI aNoProgram)(G_NoProgram:mg "NoProgram"=Z (.ref aNoProgram))(FI:ap P w K mg base aY k fI fdI psI (fX K D fI))(BI:bo K fdI psI [])
  (Dhold_rows:lV P w K mg base (k+1) "hold_rows" ["rows"] KA) (Dhold_once:lV P w K mg base (k+1) "hold_once" ["rows"] (EK cT)) (Dhold_bound:lV P w K mg base (k+1) "hold_bound" ["rows"] (EK cB)):ap P w K mg base (dq P w) (k+2) f fd ["thing"] (Ha cT cB):=by
 let nd:(["thing","rows"]:List Str).Nodup:=nH.nd;show Jw F nH (λvs H Q E h=>?_) (λcdv A outer s H vs Q E hr h=>?_)
 .ext(⟨l,us,rs,rfl,_⟩:h);rfl
 ext(⟨l,us,rs,rfl,hl,Ru,ok,l12,q,tT,tB⟩:h);let lu:us.length=rs.length:=by let:=Ru.length;rwa[ε]at this
 let Rl:ah H (.lst (rs.map Rw.dv)) (.ref l):=by rw[ah];show{l,us,1,hl,Ru}
 show{0,(@un _ _ _ (kW (iz (me (jP (ii (cn bu T.isinstance (ay (wv 0) (ar (vB (.ty "list") T.list U)))))) (qu (aU fh (cn am T.len (aK 0)) {T.g_MOST_ROWS U})))) (cX (IJ c_NoProgram FI hr BI U G_NoProgram dA (ar (cy (ay az (ar az)))))) (aQ (aV 1 (kZ jM T.list (aK 0))) (aQ (oF (LX Dhold_rows hr U (aK 1))) (aQ (oF (LX Dhold_once hr U (aK 1))) (aQ (oF (LX Dhold_bound hr U (aK 1))) (bI (wv 1)))))))),2};show{0100001,Rl.ty,tH K _,012};show aD {01,l,us,1,.inl (aw.of hl),0011012};rw[Q8 ()];show aD {01,l,us,1,.inl (aw.of hl),λr hr'=>?_};let s1:=ac hr' (.lst us);let h1:upd H r (.lst us) r=Z (.lst us):=aa;generalize upd H r (.lst us)=H1 at s1 h1⊢;let up:∀{C:J}{H2:Hp},(∀i,HV E H C i)->ae H H2->∀i,HV E H2 C i:=λt s i H' dx p s'=>t i H' dx p (s.trans s');show{01,r,us,01,h1,Ru.mono s1,λd hd=>by ext(⟨y,hy,rfl⟩:ϙ.mp hd);show{(ok y hy).1,(ok y hy).2.1},by rwa[ε],λH2 s2=>?_};show{01,r,us,rs,1,s2 _ _ h1,Ru.mono (s1.trans s2),λr hr=>(ok r hr).2.2,l12,λH3 s3=>?_,up tT (s1.trans s2)};show{01,r,us,rs,1,s3 _ _ (s2 _ _ h1),Ru.mono (s1.trans (s2.trans s3)),λr hr=>(ok r hr).2.2,l12,λH4 s4=>?_,up tB (s1.trans (s2.trans s3))};show{01,q H4 r (s1.trans (s2.trans (s3.trans s4))) (s4 _ _ (s3 _ _ (s2 _ _ h1)))}
end
abbrev uW:ϯ:=bT 101
def JQ{d:Dv}{x:Str}(h:Ae d x):L2.Pl 33 d:=by
 rcases h with ⟨e,b,rfl,rfl,we⟩|⟨f,ns,ps,e,b,rfl,rfl,df,we⟩
 .show .tup λd hd=>?_;rcases ν.mp hd with rfl|hd
  .show .str
  .rw[ξ.mp hd];show(oj we.1).up ()
 .unfold zB;show .tup λd hd=>?_;rcases ν.mp hd with rfl|hd
  .show .str
  rcases ν.mp hd with rfl|hd
  .show .str
  rcases ν.mp hd with rfl|hd
  .show .tup λd hd=>by ext(⟨y,_,rfl⟩:ϙ.mp hd);show .str
  rcases ν.mp hd with rfl|hd
  .show .tup λd hd=>by ext(⟨p,hp,rfl⟩:ϙ.mp hd);show(wS (df.pn p hp).sz).up ()
  .rw[ξ.mp hd];show(oj we.1).up ()
def CQ{y:Str}(h:RG y):fD 33 (dB y):=FX (JQ h.2.1)
inductive Hi (vs:List V) (H:Hp) (Q:VK) (u3_:XK):Prop|mk (l:J) (us:List V) (L:List Str) (_:vs=[.ref l]) (_:H l=Z (.lst us)) (_:Reps H (L.map dB) us) (_:∀y∈L,RG y) (_:L.length<=12) (_:∀H',ae H H'->Q (.bl Y) H')
def Cj{H:Hp}{y:Str}{v:V}(g:RG y)(R:ah H (dB y) v):∃a vs u e,v=.ref a/\H a=Z (.tup vs)/\jX vs (-1)=Z u/\ah H e u/\e.small=Y/\decide (cY 8 e<=40)=Y:=by
 ext(⟨ro,w,sm⟩:g);rcases w with ⟨e,b,ed,ex,we⟩|⟨f,ns,ps,e,b,ed,ex,df,we⟩
 .rw[ed]at R;ext(⟨a,vs,rfl,ha,rs⟩:ah.tup_inv R);ext(⟨w1,w2,rfl,r1,r2⟩:Reps.two rs);show{a,0,w2,e,1,ha,1,r2,(cH we.1).2,Q9 we.2}
 .rw[ed]at R;obtain⟨a,vs,rfl,ha,rs⟩:=ah.tup_inv (show ah H (.tup [.str (O "def"),.str f,.tup (ns.map Dv.str),.tup (ps.map gZ),e]) v from R);simp only[Reps]at rs;ext(⟨u1,_,rfl,R1,u2,_,rfl,R2,u3,_,rfl,R3,u4,_,rfl,R4,u5,_,rfl,R5,rfl⟩:rs);show{a,0,u5,e,1,ha,1,R5,(cH we.1).2,Q9 we.2}
section
variable{P:Θ}{w:Χ}{K:ζ}{mg:Str->Option θ}{base:ϖ}
def Af{f fr D fI aT aB:J}{fd fdr:ό}{k:Nat}(F:Fun K "_law_is_program" "_law_is_program" uW f fd)(T:Txt K mg)(XT:AU K D)(G_IndexwiseError:mg "IndexwiseError"=Z (.ref D))(cT:eT K D fI aT)(cB:eT K D fI aB)(nTB:decide (aT=aB)=Α)(G_Twice:mg "Twice"=Z (.ref aT))(G_NoBind:mg "NoBind"=Z (.ref aB))
  (F_checked:ap P w K mg base (dq P w) k fr fdr ["thing"] (Ha aT aB)) (G_checked:mg "checked"=Z (.ref fr)) (K_checked:ϥ K (.ref fr)=Y) (B_checked:bo K fdr ["thing"] []) (Dis_expression:aS P w K mg base k "is_expression" ["thing"] oA):ap P w K mg base aY (k+1) f fd ["_law_rows"] Hi:=by
 show F.okA (N:=["_law_rows","_law_good","e"]) λcdv A outer s H vs Q E hr nd h=>?_;ext(⟨l,us,L,rfl,hl,R,ok,l12,q⟩:h);let hu9:=gX hr;show{0,aQ (aV 1 gA) (aQ {GJ (i:=2) (j:=1) (D:=D) (fI:=fI) (wP hu9) (Bx.h (wv 0)) F_checked hr U G_checked K_checked B_checked (pa_cons (pv 0) pa_nil) (λ_ _ z=>z) U XT U G_IndexwiseError U U nd U U (λeH=>Bx.h (cX (aV 1 (NI (cn (jS (D:=D) (fI:=fI)) T.isinstance (ay (wv 2) (ar (vE (.ref aT) G_Twice)))) (nO (cn (jS (D:=D) (fI:=fI)) T.isinstance (ay (wv 2) (ar (vE (.ref aB) G_NoBind))))))))) U (m_ U) (.inr U)} (bI (iV (wv 1) (nO (cn (eG U) T.all (ar (lT ["_law_row_here"] [] (vC (wv 0)) (.of U) U (λ_ _ _=>{pg_name (i:=0) (bp (l:=["_law_row_here"]) (()) U) U (m_ U)}) (aZ ()) (λ_ _ _=>lF) (λ_ _ _=>(aL Dis_expression (ar (eh (md K U) (wv 0) (Mq rB az)))))))))))),2};obtain⟨rs,er,oks⟩:=CT (ds:=L.map dB) λd hd=>by ext(⟨y,hy,rfl⟩:ϙ.mp hd);show{y,(ok y hy).2.1}
 let lu:us.length=L.length:=by let:=R.length;rwa[ε]at this
 let Rl:ah H (.lst (L.map dB)) (.ref l):=by rw[ah];show{l,us,1,hl,R}
 show aG λX hX=>gs hX λX hX=>?_;let nx:∀(H1:Hp)(o2:Option V),ae H H1->X [Z (.ref l),Z (.bl Y),o2] H1:=λH1 o2 s1=>by
  show hX _ _ ?_;show{01,Y,1,aA {01,l,1,{us,aw.of (s1 _ _ hl)},eq (xs:=us) (λi ys H'=>ae H H'/\ys=(y_ i Y).map V.bl) {s1,1} (λi ys H' _ p=>aw.of (p.1 _ _ hl)) ?_ ?_}}
  .ext i ys H2 x hx ⟨s2,rfl⟩;ext(⟨y,hy,Ry⟩:bZ (f:=dB) R hx);let hi:i<us.length:=(Ζ.mp hx).1;ext(⟨a,vs,u,e,rfl,ha,hu,Re,se,xe⟩:Cj (ok y (Ν hy)) (Ry.mono s2));show ba {01,(1),1,a,vs,-1,u,11,aq.of ha,hu,u,e,1,Re,se,λH3 s3=>{2,s2.trans s3,2}}
   .rw[ε,E1,ι];omega
   .rw[xe,List.replicate_succ',Ε];rfl
  .ext ys H2 ⟨s2,rfl⟩ m hm;show{m,y_ us.length Y,1,aw.of aa,2};rw[show(y_ us.length Y).all id=Y by simp];show q _ (s2.trans (ac hm _))
 show{01,l,us,rs,1,hl,by rw[<-er];show R,λr hr=>?_,by let:=congrArg H_ er;rw[ε,ε]at this;omega,λH1 t s1 ht=>?_,λi H1 dx p s1 h1 h2=>?_,λi H1 dx p s1 h1 h2=>?_}
 .obtain⟨y,hy,ey⟩:=ϙ.mp (show r.dv∈L.map dB by rw[er];show j8 hr);rw[<-ey];show{(ok y hy).1,(ok y hy).2.2,oks r hr}
 .show{01,L.map dB,.inr {by rw[ah];show{t,us,1,ht,R.mono s1},Rl.mono s1},λd hd=>by ext(⟨y,hy,rfl⟩:ϙ.mp hd);show(CQ (ok y hy)).mono (),2};show nx _ _ s1
 .show{00011,cT,h1,λe he=>?_};let s2:=ac he (Xh aT dx e);show{01,e,0,dx,01,aa,cT,.inl {001,cT.sub,Q9 U,Y,1,aA (dm (nx _ _ (s1.trans s2)))}}
 .show{00011,cB,h1,λe he=>?_};let s2:=ac he (Xh aB dx e);show{01,e,0,dx,01,aa,cB,.inl {001,cT.sub,nTB,Α,1,aD {01,e,0,dx,01,aa,cB,.inl {001,cB.sub,Q9 U,dm (nx _ _ (s1.trans s2))}}}}
end
abbrev rH:ϯ:=bT 102
def Cz{x y:Str}(h:y∈eW x):eW y=[y]:=by
 unfold eW at h⊢;rw[ET]at h⊢;let e:=vZ (A:=[y]) 10 () λp hp=>by rw[ξ.mp hp];show StrLaws.split_free x 10 y h
 rwa[bJ]at e
def DJ{y:Str}(h:RG y):y≠O "":=λz=>by let:=h.1;rw[z]at this;unfold dB at this;rw[Q6 (),Q6 ()]at this;cases this
def xG{x y:Str}(h:y∈eW x)(g:RG y):yQ y=.tup [.lst [dB y],.non]:=by let e:=Cz h;unfold yQ Bv IE;rw[Q6 (DJ g),Q6 (DJ g),e,Q6 (by change ¬ 12<1;decide),pF,Q5 g];rfl
def Jd{x y:Str}(h:y∈eW x)(ne:y≠O "")(g:¬ RG y):yQ y=.tup [.non,.tup [.bl Y,.tup [.int 0,.int 0]]]:=by let e:=Cz h;unfold yQ Bv IE;rw[Q6 ne,Q6 ne,e,Q6 (by change ¬ 12<1;decide),pF,Q6 g];rfl
def ym(x:Str):Ϻ (O "\n") (eW x)=x:=by unfold eW;rw[ET];show J2 x {#[10]}
def tJ{H:Hp}{a b:J}{k:Int}(ha:H a=Z (.tup [.int k,.int 0]))(hb:H b=Z (.tup [.bl Y,.ref a])):ah H (.tup [.bl Y,.tup [.int k,.int 0]]) (.ref b):=by show cK hb () ?_;rw[ah];show{a,01,ha,by simp only[Reps];show{001300131}}
def nD{a b:Dv}{n:Nat}(ha:fD n a)(hb:fD n b):∀d∈[a,b],fD n d:=λd hd=>by
 rcases ν.mp hd with rfl|hd
 .show ha
 .rw[ξ.mp hd];show hb
def vb{k:Int}:fD 1 (.tup [.int k,.int 0]):=nI (nD oO oO)
def yz{k:Int}:fD 2 (.tup [.bl Y,.tup [.int k,.int 0]]):=nI (nD (xR.mono ()) vb)
inductive yZ (vs:List V) (H:Hp) (Q:VK) (u3_:XK):Prop|mk (x:Str) (_:vs=[.str x]) (_:yd x) (_:∀H',ae H H'->Q (.bl Y) H')
section
variable{P:Θ}{w:Χ}{K:ζ}{mg:Str->Option θ}{base:ϖ}
def CU{f:J}{fd:ό}{k:Nat}(F:Fun K "_law_right" "_law_right" rH f fd)(T:Txt K mg)(D_law_read:aS P w K mg base k "_law_read" ["_law_text"] HY)(Dshow:aS P w K mg base k "show" ["program"] Dl)(D_law_is_program:aS P w K mg base k "_law_is_program" ["_law_rows"] Hi):ap P w K mg base aY (k+1) f fd ["_law_text"] yZ:=by
 show F.okA (N:=["_law_text","_law_found","_law_place","_law_lines","_law_line","_law_row_here","_law_at"]) λcdv A outer s H vs Q E hr nd h=>?_;ext(⟨x,rfl,ts,q⟩:h);let hu9:=gX hr;let huL:(A.deeper (B9 (O "_law_right") (ax rH) s.heap.objs.size f cdv)).units<B8:=();show{0,aQ (Bn (aL D_law_read (aK 0)) (uX (gE (eX 1) (gE (eX 2) tq)))) (aQ (aV 3 (fv Ρ r6 r9 eU (wv 0) (ar aP))) (bV (aU av (wv 0) aP) (iV (jO (rY huL) (wv 1) (fu pZ)) (nO (jO fq (wv 2) oR))) (kW (aU fq (wv 2) oR) (bV (iz (me (jP (ii (cn bu T.isinstance (ay (wv 1) (ar (vB (.ty "list") T.list U)))))) (me (aU eV (cn am T.len (aK 1)) (cn am T.len (aK 3))) (qu (aU eV (aL Dshow (aK 1)) (wv 0)))))) gA (aQ (qO Ϩ U (Ol U T.zip (ay (wv 3) (aK 1))) (uX (gE (eX 4) (gE (eX 5) tq))) (cX (Ap (aU (BK hu9) (aL D_law_read (aK 4)) (cy (ay (fu (aK 5)) (ar oR)))) (bI gA) Bh))) (bI (aL D_law_is_program (aK 1))))) (bV (iz (me (jP (ii (bc 2))) (me (jP (ii (cn bu T.isinstance (ay (bc 2) (ar (vB (.ty "tuple") T.tuple U)))))) (qu (aU eV (eh kf (bc 2) az) az))))) gA (bV (aU fh (cn am T.len (aK 3)) az) (jO (wP hu9) (wv 2) (cy (ay gA (ar (cy (ay az (ar az))))))) (aQ (aV 6 (eh kf (bc 2) az)) (bV (iz (me (aU Db (wv 6) (cn am T.len (aK 3))) (qu (iz (Bl (aU eV (eh aF (wv 3) (wv 6)) aP) (Bk (aU (BK hu9) (aL D_law_read (ar (eh aF (wv 3) (wv 6)))) (cy (ay oR (ar (cy (ay gA (ar (cy (ay az (ar az)))))))))))))))) gA (bI (iV (cn (eG U) T.all (ar (lT ["_law_line"] [] (vC (gp dG (wv 3) ib (fG (wv 6)))) (.of U) U (λ_ _ _=>{pg_name (i:=0) (bp (l:=["_law_line"]) (()) U) U (m_ U)}) (aZ ()) (λ_ _ _=>lF) (λ_ _ _=>(iV (jO fq (eh (md K U) (aL D_law_read (aK 0)) az) oR) (nO (jO eV (wv 0) aP))))))) (nO (jO (wP hu9) (aL D_law_read (aK 0)) (cy (ay (wv 1) (aK 2)))))))))))))),2};let tl:x.length<=4800:=ts;let tx:x.length<=Μ:=()
 obtain⟨d1,d2,ed⟩:∃d1 d2,yQ x=.tup [d1,d2]:=by unfold yQ;split<;>show{001}
 let sl:=iL x 10;rw[<-ET]at sl;ext(⟨sl1,sl2⟩:sl);show aG λX hX=>{01,x,1,ts,λH1 v s1 R1=>?_};rw[ed]at R1;ext(⟨t,vs,rfl,ht,rs⟩:ah.tup_inv R1);ext(⟨v1,v2,rfl,r1,r2⟩:Reps.two rs);show{t,01,aq.of ht,10010011,hX _ _ (aG λX hX=>{0110,O "\n",113,tx,3,λg hg=>gs hX λX hX=>?_})};let s2:=s1.trans (ac hg (.lst ((eW x).map V.str)));let hL:upd H1 g (.lst ((eW x).map V.str)) g=Z (.lst ((eW x).map V.str)):=aa;let r1:=r1.mono (ac hg (.lst ((eW x).map V.str)));let r2:=r2.mono (ac hg (.lst ((eW x).map V.str)));generalize upd H1 g (.lst ((eW x).map V.str))=H2 at s2 hL r1 r2⊢;by_cases e0:x=O ""
 .let e1:yQ x=.tup [.lst [],.non]:=by unfold yQ Bv IE;rw[Q5 e0,Q5 e0];rfl
  rw[e1]at ed;injection ed with ed;injection ed with q1 ed;injection ed with q2 _;subst q1 q2;simp only[ah,Reps]at r1 r2;ext(⟨l,_,rfl,hl,rfl⟩:r1);subst r2;show bC λr e hY hZ=>{01101,aj (λ_=>hY _ {01,Τ _,λm hm=>{l,m,[],11,aw.of (ac hm _ _ _ hl),aw.of aa,Y,1,aA {011,q _ (s2.trans (ac hm _))}}}) (λh=>absurd (Q9 (by rw[e0])) h)}
 show bC λr e hY hZ=>{01101,aj (λh=>absurd (V.str.inj (Q7 h)) e0) (λ_=>hZ _ (dR (hX _ _ (aG λX hX=>?_))))};let cL:∀i:Nat,i<((eW x).map V.str).length->∃y,((eW x).map V.str)[i]?=Z (.str y)/\y∈eW x/\(eW x)[i]?=Z y:=λi hi=>by rw[ε]at hi;show{(eW x)[i],by rw[ϐ,Δ hi];rfl,k_ hi,Δ hi}
 cases eo:Bv x with
 |none=>
  obtain⟨l12,gd⟩:(eW x).length<=12/\∀y∈eW x,RG y:=by
   unfold Bv at eo;rw[Q6 e0]at eo;split at eo
   .cases eo
   .rename_i h;show{3,jU.mp eo}
  let eD:yQ x=.tup [.lst ((eW x).map dB),.non]:=by unfold yQ IE;rw[eo,Q6 e0]
  rw[eD]at ed;injection ed with ed;injection ed with q1 ed;injection ed with q2 _;subst q1 q2;let r1':=r1;simp only[ah]at r1 r2;ext(⟨l,us,rfl,hl,Ru⟩:r1);subst r2;let lu:us.length=(eW x).length:=by let:=Ru.length;rwa[ε]at this
  let sm:((eW x).map (·.length)).sum<=5000:=by let:=hV (O "\n") (eW x);rw[ym]at this;omega
  show bC λr e hY hZ=>{01101,aj (λ_=>hY _ (aG λX hX=>bC λr e hY hZ=>{0100001,r1'.ty,tH K _,012})) (λh=>absurd (Q9 U) h)};show aD {01,l,us,1,.inl (aw.of hl),01,g,01,.inl (aw.of hL),101,aj (λh=>absurd h (by simp[lu])) (λ_=>?_)};show{01,l,us,eW x,1,hl,Ru,λy hy=>(gd y hy).2.1,l12,sm,λH3 s3=>?_};rw[ym];show{01101,aj (λh=>absurd h ()) (λ_=>hZ _ (dR (hX _ _ ?_)))};show{0101,g,l,1,{0,aw.of (s3 _ _ hL)},{0,aw.of (s3 _ _ hl)},EH (xs:=(eW x).map V.str) (ys:=us) (λi σ H'=>∃o4 o5 o6:Option V,σ=[Z (.str x),Z (.ref l),Z .non,Z (.ref g),o4,o5,o6]/\ae H2 H') {0001,s3} (λi σ H' ⟨_,_,_,_,s'⟩=>{aw.of (s' _ _ hL),aw.of (s' _ _ hl)}) ?T1 ?_}
  case T1=>
   ext i z w' σ H4 p hz hw ⟨o4,o5,o6,rfl,s4⟩ hp;rw[ϐ]at hz;ext(⟨y,hy,rfl⟩:Ϣ.mp hz);ext(⟨y',hy',Ry⟩:bZ (f:=dB) Ru hw);obtain rfl:y=y':=Ϟ (hy.symm.trans hy');let my:=Ν hy;show{p,01,aq.of aa,100100112};let s5:=s4.trans (ac hp (.tup [.str y,w']));generalize upd H4 p (.tup [.str y,w'])=H5 at s5⊢;show{01,y,1,by let:=sl2 y my;change y.length<=4800;omega,λH6 v6 s6 R6=>?_};rw[xG my (gd y my)]at R6;show{01,z1,λa ha=>{z2,λb hb=>?_}};let s7:=(ac ha (.lst [w'])).trans (ac hb (.tup [.ref a,.non]));let hA:=ac hb (.tup [.ref a,.non]) _ _ (aa (H:=H6) (a:=a) (o:=.lst [w']));let Rw:=Ry.mono (s5.trans (s6.trans s7));show{[.lst [dB y],.non],R6.mono s7,2,λd hd=>?_,2}
   .rw[ah];show{b,01,aa,by simp only[Reps];show{001,by rw[ah];show{a,01,hA,aO Rw},00131}}
   .rcases ν.mp hd with rfl|hd
    .show(DI λd hd=>by rw[ξ.mp hd];show CQ (gd y my)).mono ()
    .rw[ξ.mp hd];show jK.mono ()
   .show{01,aD {0001,s5.trans (s6.trans s7)}}
  .ext σ H4 ⟨o4,o5,o6,rfl,s4⟩;show{01,l,us,eW x,1,s4 _ _ hl,Ru.mono s4,gd,l12,λH5 s5=>q _ (s2.trans (s4.trans s5))}
 |some n=>
  let fc:(12<(eW x).length/\n=0)\/((eW x).length<=12/\∃y,(eW x)[n]?=Z y/\¬ RG y/\∀z∈(eW x).take n,RG z):=by
   unfold Bv at eo;rw[Q6 e0]at eo;split at eo
   .rename_i h;injection eo with eo;show .inl {h,eo.symm}
   .rename_i h;show .inr {3,jZ.mp eo}
  let eD:yQ x=.tup [.non,.tup [.bl Y,.tup [.int (n:Int),.int 0]]]:=by unfold yQ;rw[eo]
  rw[eD]at ed;injection ed with ed;injection ed with q1 ed;injection ed with q2 _;subst q1 q2;let r2':=r2;simp only[ah]at r1;subst r1;ext(⟨p,ps,rfl,hp,rp⟩:ah.tup_inv r2);ext(⟨u1,u2,rfl,ru,rq⟩:Reps.two rp);simp only[ah]at ru;subst ru;let rq':=rq;ext(⟨p2,ps2,rfl,hp2,rp2⟩:ah.tup_inv rq);ext(⟨u3,u4,rfl,ra,rb⟩:Reps.two rp2);simp only[ah]at ra rb;subst ra rb;show bC λr e hY hZ=>{01101,aj (λh=>absurd (Q7 h) nofun) (λ_=>hZ _ (dR (hX _ _ (aG λX hX=>bC λr e hY hZ=>{01,p,0,(0),.bl Y,11,aq.of hp,ad (j:=0) U,012}))))};show aD {01,p,0,(1),.ref p2,11,aq.of hp,ad (j:=1) U,00001,rq'.ty,dC K _,012};show aD {01,p,0,(1),.ref p2,11,aq.of hp,ad (j:=1) U,p2,0,(1),.int 0,11,aq.of hp2,ad (j:=1) U,101,aj (λh=>absurd h ()) (λ_=>hZ _ (dR (hX _ _ (aG λX hX=>bC λr e hY hZ=>{01,g,01,.inl (aw.of hL),0011012}))))};rcases fc with ⟨n12,rfl⟩|⟨n12,y0,hy0,nr,gd⟩
  .show aj (λ_=>hY _ ?_) (λh=>absurd (Q9 (by rw[ε];omega)) h);show{01,z2,λa ha=>{z2,λb hb=>{0,.inl {r2'.mono ((ac ha _).trans (ac hb _)),tJ (ac hb _ _ _ aa) aa},nD (xR.mono ()) (vb.mono ()),q _ (s2.trans ((ac ha _).trans (ac hb _)))}}}
  show aj (λh=>absurd (Q7 h) (by rw[ε];omega)) (λ_=>hZ _ (dR (hX _ _ (aG λX hX=>?_))));let my0:=Ν hy0;let nl:n<(eW x).length:=(Ζ.mp hy0).1;let hy0':((eW x).map V.str)[n]?=Z (.str y0):=by rw[ϐ,hy0];rfl
  show{01,p,0,(1),.ref p2,11,aq.of hp,ad (j:=1) U,p2,0,(0),.int n,11,aq.of hp2,ad (j:=0) U,gs hX λX hX=>?_};let fin:∀H5,ae H2 H5->X [Z (.str x),Z .non,Z (.ref p),Z (.ref g),χ,χ,Z (.int n)] H5:=λH5 s5=>by
   show hX _ _ ?_;show{010101,g,01,aw.of (s5 _ _ hL),λm hm=>?_};rw[jp];let s6:=s5.trans (ac hm (.lst (((eW x).map V.str).take n)));let hM:upd H5 m (.lst (((eW x).map V.str).take n)) m=Z (.lst (((eW x).map V.str).take n)):=aa;generalize upd H5 m (.lst (((eW x).map V.str).take n))=H6 at s6 hM⊢;show{m,1,{0,aw.of hM},eq (xs:=((eW x).map V.str).take n) (λi ys H'=>ae H6 H'/\ys=(y_ i Y).map V.bl) {ae.refl _,1} (λi ys H' _ p=>aw.of (p.1 _ _ hM)) ?_ ?_}
   .ext i ys H7 z hz ⟨s7,rfl⟩;let hi:i<(((eW x).map V.str).take n).length:=(Ζ.mp hz).1;rw[Ω]at hi;rw[<-List.map_take,ϐ]at hz;ext(⟨y,hy,rfl⟩:Ϣ.mp hz);let hyt:=Ν hy;let my:=y8 hyt;show ba {01,y,1,by let:=sl2 y my;change y.length<=4800;omega,λH8 v8 s8 R8=>?_};rw[xG my (gd y hyt)]at R8;ext(⟨t8,vs8,rfl,h8,r8⟩:ah.tup_inv R8);ext(⟨w1,w2,rfl,_,q2⟩:Reps.two r8);simp only[ah]at q2;subst q2;show{t8,0,(1),.non,11,aq.of h8,ad (j:=1) U,1,Y,1,aA {0112}};rw[Q8 (λz=>DJ (gd y hyt) (V.str.inj z))];show{2,s7.trans s8,2}
    .rw[ε,E1,ι];omega
    .rw[List.replicate_succ',Ε];rfl
   .ext ys H7 ⟨s7,rfl⟩ m2 hm2;show{m2,y_ (((eW x).map V.str).take n).length Y,1,aw.of aa,2};rw[show(y_ (((eW x).map V.str).take n).length Y).all id=Y by simp];let s8:=s6.trans (s7.trans (ac hm2 (.lst ((y_ (((eW x).map V.str).take n).length Y).map V.bl))));show{Y,1,aA {01,x,1,ts,λH9 v9 s9 R9=>{0101,z2,λb hb=>{0,.inl {(eD▸R9).mono (ac hb _),2},nD (jK.mono ()) (yz.mono ()),2}}}}
    .show cK aa () (r2'.mono (s8.trans (s9.trans (ac hb _))))
    .show q _ (s2.trans (s8.trans (s9.trans (ac hb _))))
  show bC λr e hY hZ=>{0101,g,01,.inl (aw.of hL),001101,aj (λh=>absurd (Q7 h) (by rw[ε];omega)) (λ_=>?_)};show{0101,g,0,n,.str y0,11,aw.of hL,ad hy0',101,aj (λhne=>?_) (λ_=>hZ _ (dR (fin _ (ae.refl _))))};let ne0:y0≠O "":=λz=>absurd hne (by rw[z];simp);show{0101,g,0,n,.str y0,11,aw.of hL,ad hy0',y0,1,by let:=sl2 y0 my0;change y0.length<=4800;omega,λH5 v5 s5 R5=>?_};rw[Jd my0 ne0 nr]at R5;show{z2,λa ha=>{z2,λb hb=>{z2,λc hc=>{0,R5.mono ((ac ha _).trans ((ac hb _).trans (ac hc _))),cK aa () (tJ (ac hc _ _ _ (ac hb _ _ _ aa)) (ac hc _ _ _ aa)),nD (jK.mono ()) (yz.mono ()),2}}}};show{01,hZ _ (dR (fin _ (s5.trans ((ac ha _).trans ((ac hb _).trans (ac hc _))))))}
end
abbrev tE:ϯ:=bT 103
inductive yW (K:ζ) (vs:List V) (H:Hp) (Q:VK) (u3_:XK):Prop|mk (a:J) (ns:List Int) (_:vs=[.ref a]) (_:aw K H a (ns.map V.int)) (_:ns.length<=63) (_:∀H',Q (.bl Y) H')
section
variable{P:Θ}{w:Χ}{K:ζ}{mg:Str->Option θ}{base:ϖ}
def Iy{f:J}{fd:ό}{k0:Nat}(F:Fun K "law" "law" tE f fd)(T:Txt K mg)(D_law_program:aS P w K mg base k0 "_law_program" ["_law_script"] (CM K))(D_law_right:aS P w K mg base k0 "_law_right" ["_law_text"] yZ)(D_law_state:aS P w K mg base k0 "_law_state" ["_law_script","_law_k"] (ma K))(D_law_draw:aS P w K mg base k0 "_law_draw" ["_law_state_here","_law_many"] dY)(D_law_changed:aS P w K mg base k0 "_law_changed" ["_law_text","_law_state_here"] HS):ap P w K mg base aY (k0+1) f fd ["_law_script"] (yW K):=by
 show F.okA (N:=["_law_script","_law_rows","_law_lines","_law_text","_law_k","_law_state_here","_law_changed_here","_law_j"]) λcdv A outer s H vs Q E hr nd h=>?_;ext(⟨sc,ns,rfl,hS,h63,q⟩:h);show{0,aQ (Bn (aL D_law_program (aK 0)) (uX (gE (eX 1) (gE (eX 2) tq)))) (aQ (aV 3 (fv Ρ d_ e_ dH aP (aK 2))) (bV (jP (ii (aL D_law_right (aK 3)))) gA (aQ (qO Ϩ U (Jp T.range (ar az)) (eX 4) (aQ (aV 5 (aL D_law_state (ay (wv 0) (ar (bh bj az (wv 4)))))) (aQ (aV 6 (wv 3)) (aQ (qO Ϩ U (Jp T.range (ar (bh bj az (aL D_law_draw (ay (wv 5) (ar az)))))) (eX 7) (cX (aV 6 (aL D_law_changed (ay (wv 6) (aK 5)))))) (cX (Ap (jP (ii (aL D_law_right (aK 6)))) (bI gA) Bh)))))) (bI gA)))),2};show aG λX hX=>{01,sc,ns,1,hS,h63,λH1 t LR LL us ws s1 ht pg l12=>{t,01,aq.of ht,10010011,hX _ _ (aG λX hX=>?_)}};let j4:=pg.j4;let jg:=hV (O "\n") ws;let ln1:(O "\n").length=1:=();show{1010,LL,ws,11,aw.of pg.hl,by rw[ln1];omega,2};rw[tj];generalize Ϻ (O "\n") ws=x at j4;show gs hX λX hX=>bC λc a hY hZ=>{01,x,1,by change x.length<=4800;omega,λH2 s2=>{01,aD (hZ _ (dR (hX _ _ (aG λX hX=>?_))))}};let S2:=(s1.trans s2).seq hS;show{(10),133,fk (n:=10) (λi σ H'=>∃o4 o5 o6 o7:Option V,σ=[Z (.ref sc),Z (.ref LR),Z (.ref LL),Z (.str x),o4,o5,o6,o7]/\ae H2 H') {00001,ae.refl _} ?T1 ?_}
 case T1=>
  intro i σ H4 D go hi h;show gs (λ_ _ z=>z) λX hX=>?_;ext(⟨o4,o5,o6,o7,rfl,s4⟩:h);show{01010011,sc,ns,01,s4.seq S2,3,λH5 b s5 hb st5=>gs hX λX hX=>{01,gs hX λX hX=>?_}};show{01,b,(3),1,st5,33,λH6 m s6 st6 m0 m1=>{00110133,fk (n:=(1+m).toNat) (λj σ H'=>∃(o7:Option V) (y:Str),σ=[Z (.ref sc),Z (.ref LR),Z (.ref LL),Z (.str x),Z (.int (0+i)),Z (.ref b),Z (.str y),o7]/\ao b H5 H'/\gb H' b/\y.length<=4000+41*j) {0,x,1,s6,st6,3} ?T2 ?_}}
  case T2=>
   intro j σ H7 D2 go2 hj h;show dm ?_;ext(⟨o7,y,rfl,s7,st7,ly⟩:h);show{0101,y,b,13,st7,λH8 z s8 st8 lz=>dm (go2 _ _ {0,z,1,s7.trans s8,st8,3})}
  .ext σ H7 ⟨o7,y,rfl,s7,st7,ly⟩;show hX _ _ {01,y,1,by change y.length<=4800;omega,λH8 s8=>{01,aD (go _ _ {00001,s4.trans ((ao.same hb s5 s7).trans s8)})}}
 .ext σ H4 ⟨o4,o5,o6,o7,rfl,s4⟩;show hX _ _ (q _)
end
open PySem L2 KB XB L2.EX
def NF{p:List θ->Prop}(h:p [])(us:List θ)(e:us.length=0):p us:=I0 e▸h
def LI{n:Nat}{p:List θ->Prop}(h:∀x us,us.length=n->p (x::us))(us:List θ)(e:us.length=n+1):p us:=by
 cases us with
 |nil=>cases e
 |cons x us=>show h x us (Nat.succ.inj e)
def Gf{p:List θ->Prop}(h:∀x0,p [x0]):∀us:List θ,us.length=1->p us:=LI λx=>NF (p:=λl=>p (x::l)) (h x)
def LH{p:List θ->Prop}(h:∀x0 x1,p [x0,x1]):∀us:List θ,us.length=2->p us:=LI λx=>Gf (p:=λl=>p (x::l)) (h x)
def NK{p:List θ->Prop}(h:∀x0 x1 x2,p [x0,x1,x2]):∀us:List θ,us.length=3->p us:=LI λx=>LH (p:=λl=>p (x::l)) (h x)
def NN{p:List θ->Prop}(h:∀x0 x1 x2 x3,p [x0,x1,x2,x3]):∀us:List θ,us.length=4->p us:=LI λx=>NK (p:=λl=>p (x::l)) (h x)
def NZ{p:List θ->Prop}(h:∀x0 x1 x2 x3 x4,p [x0,x1,x2,x3,x4]):∀us:List θ,us.length=5->p us:=LI λx=>NN (p:=λl=>p (x::l)) (h x)
structure Df(K:ζ)(x:Str)(st:ϯ)(f:J)(fd:ό):Prop where
 a:ϕ K ώ x=Z (Z (.ref f))
 F:Fun K x x st f fd
def df_mk{K:ζ}{x:Str}{st:ϯ}{f:J}{oc:θ}{od an:Option J}{osl:Array (Option θ)}{kV doc pm cdv ct:θ}(a:ϕ K ώ x=Z (Z (.ref f)))(l:K.lookup f=Z {oc,od,.func (h_ x x (bQ st) (bt st) (ax st) .none kV doc pm an cdv ct),osl})
  (c:A0 K cdv x=Y) (k:ϥ K (.ref f)=Y):Df K x st f (h_ x x (bQ st) (bt st) (ax st) .none kV doc pm an cdv ct):={a,nZ l c k}
def yB(h:1=1:=by intro _ _ _ _ _ _;first|show Gf λ_=>U|show LH λ_ _=>U|show NK λ_ _ _=>U|show NN λ_ _ _ _=>U|show NZ λ_ _ _ _ _=>U|show NF rfl):True:=trivial
def Df.d{P:Θ}{w:Χ}{K:ζ}{mg:Str->Option θ}{base h:ϖ}{x:Str}{st:ϯ}{f:J}{fd:ό}{k:Nat}{ps:List Str}{sp:Sp}(d:Df K x st f fd)(X:K.In h)(G:h.Ns ώ mg)(F:ap P w K mg base aY k f fd ps sp)(b:autoParam (∀(kV doc pm:θ)(an:Option J)(cdv ct:θ)(us:List θ),us.length=ps.length->bindArgs (h_ x x (bQ st) (bt st) (ax st) .none kV doc pm an cdv ct) {us,[]}=pure (ps.zip us)) yB._auto_1):aS P w K mg base k x ps sp:={f,fd,F,d.F.binds b,d.F.kp,ϒ X G d.a}
def XO(K:ζ)(D C:J):Prop:=∃nm q N bs sn sub ab col dd k0 k1 k2 k3 k5,K.lookup C=Z (ϭ nm q C N bs (.ref D::AA) Y sn sub ab col dd k0 k1 k2 k3 k5 "ValueError.__new__")
def xo_mk{K:ζ}{D C N:J}{nm q:Str}{bs sub:List θ}{sn:List Str}{ab:Bool}{col:Option Bool}{dd:Option J}{k0 k1 k2 k3 k5:Option θ}(h:K.lookup C=Z (ϭ nm q C N bs (.ref D::AA) Y sn sub ab col dd k0 k1 k2 k3 k5 "ValueError.__new__")):XO K D C:={00000000000000,h}
def fg{P:Θ}{w:Χ}{K:ζ}{mg:Str->Option θ}{base:ϖ}{CX:vK}{k:Nat}{f:J}{fd:ό}{ps:List Str}{sp:Sp}(n:∀vs H Q E,¬ sp vs H Q E):ap P w K mg base CX k f fd ps sp:={λvs H Q E h=>absurd h (n _ _ _ _),λ_ _ _ _ _ _ _ _ _ _ _ _ _ h=>absurd h (n _ _ _ _)}
def Df.x{P:Θ}{w:Χ}{K:ζ}{mg:Str->Option θ}{base h:ϖ}{x:Str}{st:ϯ}{f:J}{fd:ό}{k:Nat}{ps:List Str}{sp:Sp}(d:Df K x st f fd)(X:K.In h)(G:h.Ns ώ mg)(F:ap P w K mg base (dq P w) k f fd ps sp)(b:autoParam (∀(kV doc pm:θ)(an:Option J)(cdv ct:θ)(us:List θ),us.length=ps.length->bindArgs (h_ x x (bQ st) (bt st) (ax st) .none kV doc pm an cdv ct) {us,[]}=pure (ps.zip us)) yB._auto_1):lV P w K mg base k x ps sp:={f,fd,F,d.F.binds b,d.F.kp,ϒ X G d.a}
def all_mk{l:Qv}{w:Χ}{K:ζ}{h:ϖ}{mg:Str->Option θ}{fa f1 f2 f3 f4 f5 f6 f7 f8 f9 f10 f11 f12 f13 f14 f15 f16 f17 f18 f19 f20 f21 f22 f23 f24 f25 f26 f27 f28 f29 f30 f31 f32 f33 f34 f35 f36 f37 f38 f39 f40 f41 f42 f43 f44 f45 f46 f47 f48 f49 f50 f51 f52 f53 f54 f55 f56 f57 f58 f59 f60 f61 f62 f63 f64 f65 f66 f67 f68 f69 f70 f71 f72 f73 f74 f75 f76 f77 f78 f79:J}{g1 g2 g3 g4 g5 g6 g7 g8 g9 g10 g11 g12 g13 g14 g15 g16 g17 g18 g19 g20 g21 g22 g23 g24 g25 g26 g27 g28 g29 g30 g31 g32 g33 g34 g35 g36 g37 g38 g39 g40 g41 g42 g43 g44 g45 g46 g47 g48 g49 g50 g51 g52 g53 g54 g55 g56 g57 g58 g59 g60 g61 g62 g63 g64 g65 g66 g67 g68 g69 g70 g71 g72 g73 g74 g75 g76 g77 g78 g79:ό}(X:K.In h)(G:h.Ns ώ mg)(hfa:mg "law"=Z (.ref fa))
  (d1:Df K "is_whole" nb f1 g1)
  (d2:Df K "is_name" pW f2 g2)
  (d3:Df K "is_part" pS f3 g3)
  (d4:Df K "are_parts" kS f4 g4)
  (d5:Df K "is_length" lC f5 g5)
  (d6:Df K "is_small_length" og f6 g6)
  (d7:Df K "has_word" ni f7 g7)
  (d8:Df K "is_point" mV f8 g8)
  (d9:Df K "things_of" kP f9 g9)
  (d10:Df K "is_kind" qr f10 g10)
  (d11:Df K "is_below" mw f11 g11)
  (d12:Df K "is_def_name" iC f12 g12)
  (d13:Df K "is_few" um f13 g13)
  (d14:Df K "fits" BJ f14 g14)
  (d15:Df K "is_node" qF f15 g15)
  (d16:Df K "parts_of" mS f16 g16)
  (d17:Df K "is_expression" qz f17 g17)
  (d18:Df K "length_at" kL f18 g18)
  (d19:Df K "in_order" ml f19 g19)
  (d20:Df K "points_of" lh f20 g20)
  (d21:Df K "are_names" lg f21 g21)
  (d22:Df K "is_param" mQ f22 g22)
  (d23:Df K "are_params" jI f23 g23)
  (d24:Df K "is_row" uy f24 g24)
  (d25:Df K "is_twice" oJ f25 g25)
  (d26:Df K "unbound" pP f26 g26)
  (d27:Df K "may_stand" gY f27 g27)
  (d28:Df K "are_bound" lA f28 g28)
  (d29:Df K "hold_rows" gN f29 g29)
  (d30:Df K "hold_once" gP f30 g30)
  (d31:Df K "hold_bound" gf f31 g31)
  (d32:Df K "checked" kq f32 g32)
  (d33:Df K "show_param" jz f33 g33)
  (d34:Df K "show_row" mv f34 g34)
  (d35:Df K "show" CA f35 g35)
  (d36:Df K "param_in" mU f36 g36)
  (d37:Df K "def_of" uM f37 g37)
  (d38:Df K "row_of_text" iG f38 g38)
  (d39:Df K "read_row" iS f39 g39)
  (d40:Df K "read" xg f40 g40)
  (d41:Df K "show_part" kK f41 g41)
  (d42:Df K "show_length" fw f42 g42)
  (d43:Df K "in_brackets" Bp f43 g43)
  (d44:Df K "show_kind" kI f44 g44)
  (d45:Df K "show_behind" iy f45 g45)
  (d46:Df K "show_all" oi f46 g46)
  (d47:Df K "show_expression" fb f47 g47)
  (d48:Df K "branch_of" lc f48 g48)
  (d49:Df K "number_of" lO f49 g49)
  (d50:Df K "part_of" qa f50 g50)
  (d51:Df K "length_of" lH f51 g51)
  (d52:Df K "word_alone" je f52 g52)
  (d53:Df K "length_in" lL f53 g53)
  (d54:Df K "kind_in" qg f54 g54)
  (d55:Df K "thing_in" mJ f55 g55)
  (d56:Df K "atom_of" qH f56 g56)
  (d57:Df K "expression_in" gr f57 g57)
  (d58:Df K "expression_of" gt f58 g58)
  (d59:Df K "just_so" ki f59 g59)
  (d60:Df K "_law_draw" DM f60 g60)
  (d61:Df K "_law_state" zu f61 g61)
  (d62:Df K "_law_names" zl f62 g62)
  (d63:Df K "_law_length" tP f63 g63)
  (d64:Df K "_law_length_text" qZ f64 g64)
  (d65:Df K "_law_kind_text" yN f65 g65)
  (d66:Df K "_law_next" BF f66 g66)
  (d67:Df K "_law_kind" DF f67 g67)
  (d68:Df K "_law_forms" zi f68 g68)
  (d69:Df K "_law_inner" zF f69 g69)
  (d70:Df K "_law_whole" zx f70 g70)
  (d71:Df K "_law_expression" jc f71 g71)
  (d72:Df K "_law_world" yH f72 g72)
  (d73:Df K "_law_row" HZ f73 g73)
  (d74:Df K "_law_program" qi f74 g74)
  (d75:Df K "_law_changed" ql f75 g75)
  (d76:Df K "_law_read" xV f76 g76)
  (d77:Df K "_law_is_program" uW f77 g77)
  (d78:Df K "_law_right" rH f78 g78)
  (d79:Df K "law" tE f79 g79)
  (z1:ϕ K ώ "len"=Z χ)
  (z2:ϕ K ώ "isinstance"=Z χ)
  (z3:ϕ K ώ "int"=Z χ)
  (z4:ϕ K ώ "bool"=Z χ)
  (z5:ϕ K ώ "str"=Z χ)
  (z6:ϕ K ώ "tuple"=Z χ)
  (z7:ϕ K ώ "all"=Z χ)
  (z8:ϕ K ώ "zip"=Z χ)
  (z9:ϕ K ώ "range"=Z χ)
  (z10:ϕ K ώ "max"=Z χ)
  (z11:ϕ K ώ "min"=Z χ)
  (z12:ϕ K ώ "dict"=Z χ)
  (z13:ϕ K ώ "sorted"=Z χ)
  (z14:ϕ K ώ "list"=Z χ)
  (z15:ϕ K ώ "enumerate"=Z χ)
  (z16:ϕ K ώ "reversed"=Z χ)
  (z17:ϕ K ώ "set"=Z χ)
  (z18:ϕ K ώ "ValueError"=Z χ)
  {tg0 tg1 tg2 tg3 tg4 tg5 tg6 tg7 tg8 tg9:PySem.Tok}
  (zg0:ϕ K ώ "LONGEST_NAME"=Z (Z (.int 8 tg0)))
  (zg1:ϕ K ώ "GREATEST_SIZE"=Z (Z (.int 12 tg1)))
  (zg2:ϕ K ώ "GREATEST_NUMBER"=Z (Z (.int 99 tg2)))
  (zg3:ϕ K ώ "WHOLE_BOUND"=Z (Z (.int 1000000000000 tg3)))
  (zg4:ϕ K ώ "MOST_NODES"=Z (Z (.int 40 tg4)))
  (zg5:ϕ K ώ "MOST_ABOVE"=Z (Z (.int 7 tg5)))
  (zg6:ϕ K ώ "MOST_THINGS"=Z (Z (.int 4 tg6)))
  (zg7:ϕ K ώ "MOST_FIGURES"=Z (Z (.int 60 tg7)))
  (zg8:ϕ K ώ "MOST_BRACKETS"=Z (Z (.int 20 tg8)))
  (zg9:ϕ K ώ "MOST_ROWS"=Z (Z (.int 12 tg9)))
  {gR:J} {odR:Option J} {nR:Nat} {slR:Array (Option θ)} {tr0 tr1 tr2 tr3 tr4:PySem.Tok}
  (zR:ϕ K ώ "RECKONS"=Z (Z (.ref gR)))
  (lR:K.lookup gR=Z {.type "tuple",odR,.seq #[.str "plus" tr0,.str "minus" tr1,.str "times" tr2,.str "less" tr3,.str "same" tr4] nR,slR})
  {gS:J}
  (zS:ϕ K ώ "SHAPES"=Z (Z (.ref gS)))
  {C fSI fM fN fB:J} {odSI anSI odM anM odN anN odB anB:Option J} {slSI slM slN slB:Array (Option θ)} {ocSI kVSI dcSI pmSI cdSI ctSI ocM kVM dcM pmM cdM ctM ocN kVN dcN pmN cdN ctN ocB kVB dcB pmB cdB ctB:θ}
  (aC:ϕ K ώ "Signs"=Z (Z (.ref C)))
  (aSI:Φ K (.ref C) "__init__"=Z (Z (.ref fSI))) (iSI:L7 K (.ref fSI)=Y)
  (lSI:K.lookup fSI=Z {ocSI,odSI,.func (h_ "__init__" "Signs.__init__" (bQ jG) (bt jG) (ax jG) .none kVSI dcSI pmSI anSI cdSI ctSI),slSI})
  (cSI:A0 K cdSI "Signs.__init__"=Y) (kSI:ϥ K (.ref fSI)=Y)
  (aM:Φ K (.ref C) "met"=Z (Z (.ref fM))) (iM:L7 K (.ref fM)=Y)
  (lM:K.lookup fM=Z {ocM,odM,.func (h_ "met" "Signs.met" (bQ vr) (bt vr) (ax vr) .none kVM dcM pmM anM cdM ctM),slM})
  (cM:A0 K cdM "Signs.met"=Y) (kM:ϥ K (.ref fM)=Y)
  (aN:Φ K (.ref C) "next_word"=Z (Z (.ref fN))) (iN:L7 K (.ref fN)=Y)
  (lN:K.lookup fN=Z {ocN,odN,.func (h_ "next_word" "Signs.next_word" (bQ dM) (bt dM) (ax dM) .none kVN dcN pmN anN cdN ctN),slN})
  (cN:A0 K cdN "Signs.next_word"=Y) (kN:ϥ K (.ref fN)=Y)
  (aB:Φ K (.ref C) "branch"=Z (Z (.ref fB))) (iB:L7 K (.ref fB)=Y)
  (lB:K.lookup fB=Z {ocB,odB,.func (h_ "branch" "Signs.branch" (bQ hD) (bt hD) (ax hD) .none kVB dcB pmB anB cdB ctB),slB})
  (cB:A0 K cdB "Signs.branch"=Y) (kB:ϥ K (.ref fB)=Y)
  (pg:L6 K C p0=Y) (hd:OE K C=Y) (po:P0 K C=Y) (sa:Φ K (.ref C) "__setattr__"=Z (Z (.builtin "object.__setattr__"))) (mk:Qs K C=Y) (kc:ϥ K (.ref C)=Y)
  (nT:Φ K (.ref C) "text"=Z χ) (nA:Φ K (.ref C) "at"=Z χ)
  (sS:XB.Shp l.prog w K gS)
  {D fI gI aNoWords aTwice aNoBind aNoProgram:J}
  {ocI kVI dcI pmI cdI ctI ocg:θ} {odI anI odg:Option J} {slI slg:Array (Option θ)} {ng:Nat}
  (lI:K.lookup fI=Z {ocI,odI,.func (h_ "__init__" "IndexwiseError.__init__" (bQ ij) (bt ij) (ax ij) (.ref gI) kVI dcI pmI anI cdI ctI),slI})
  (cI:A0 K cdI "IndexwiseError.__init__"=Y) (lgI:K.lookup gI=Z {ocg,odg,.seq #[.none] ng,slg}) (tI:PySem.W.typeIn K (.ref fI)=Z (.type "function"))
  {nmD qD:Str} {ND:J} {bsD subD:List θ} {snD:List Str} {abD:Bool} {colD:Option Bool} {ddD:Option J} {j0D j1D j2D j3D j5D:Option θ}
  (oD:ϕ K ώ "IndexwiseError"=Z (Z (.ref D)))
  (xD:K.lookup D=Z (ϭ nmD qD D ND bsD AA Y snD subD abD colD ddD j0D j1D j2D j3D j5D "ValueError.__new__"))
  (oNoWords:ϕ K ώ "NoWords"=Z (Z (.ref aNoWords)))
  (xNoWords:XO K D aNoWords)
  (oTwice:ϕ K ώ "Twice"=Z (Z (.ref aTwice)))
  (xTwice:XO K D aTwice)
  (oNoBind:ϕ K ώ "NoBind"=Z (Z (.ref aNoBind)))
  (xNoBind:XO K D aNoBind)
  (oNoProgram:ϕ K ώ "NoProgram"=Z (Z (.ref aNoProgram)))
  (xNoProgram:XO K D aNoProgram)
  (inNoWords:Φ K (.ref aNoWords) "__init__"=Z (Z (.ref fI)))
  (saNoWords:Φ K (.ref aNoWords) "__setattr__"=Z (Z (.builtin "object.__setattr__")))
  (plNoWords:Φ K (.ref aNoWords) "place"=Z χ)
  (gaNoWords:Φ K (.ref aNoWords) "__getattribute__"=Z (Z (.builtin "BaseException.__getattribute__")))
  (ghNoWords:Φ K (.ref aNoWords) "__getattr__"=Z χ)
  (clNoWords:Φ K (.ref aNoWords) "__class__"=Z (Z (.builtin "object.__class__")))
  (kpNoWords:ϥ K (.ref aNoWords)=Y)
  (inTwice:Φ K (.ref aTwice) "__init__"=Z (Z (.ref fI)))
  (saTwice:Φ K (.ref aTwice) "__setattr__"=Z (Z (.builtin "object.__setattr__")))
  (plTwice:Φ K (.ref aTwice) "place"=Z χ)
  (gaTwice:Φ K (.ref aTwice) "__getattribute__"=Z (Z (.builtin "BaseException.__getattribute__")))
  (ghTwice:Φ K (.ref aTwice) "__getattr__"=Z χ)
  (clTwice:Φ K (.ref aTwice) "__class__"=Z (Z (.builtin "object.__class__")))
  (kpTwice:ϥ K (.ref aTwice)=Y)
  (inNoBind:Φ K (.ref aNoBind) "__init__"=Z (Z (.ref fI)))
  (saNoBind:Φ K (.ref aNoBind) "__setattr__"=Z (Z (.builtin "object.__setattr__")))
  (plNoBind:Φ K (.ref aNoBind) "place"=Z χ)
  (gaNoBind:Φ K (.ref aNoBind) "__getattribute__"=Z (Z (.builtin "BaseException.__getattribute__")))
  (ghNoBind:Φ K (.ref aNoBind) "__getattr__"=Z χ)
  (clNoBind:Φ K (.ref aNoBind) "__class__"=Z (Z (.builtin "object.__class__")))
  (kpNoBind:ϥ K (.ref aNoBind)=Y)
  (inNoProgram:Φ K (.ref aNoProgram) "__init__"=Z (Z (.ref fI)))
  (saNoProgram:Φ K (.ref aNoProgram) "__setattr__"=Z (Z (.builtin "object.__setattr__")))
  (plNoProgram:Φ K (.ref aNoProgram) "place"=Z χ)
  (gaNoProgram:Φ K (.ref aNoProgram) "__getattribute__"=Z (Z (.builtin "BaseException.__getattribute__")))
  (ghNoProgram:Φ K (.ref aNoProgram) "__getattr__"=Z χ)
  (clNoProgram:Φ K (.ref aNoProgram) "__class__"=Z (Z (.builtin "object.__class__")))
  (kpNoProgram:ϥ K (.ref aNoProgram)=Y)
  (ndC:(D::[aNoWords,aTwice,aNoBind,aNoProgram]).Nodup)
  :
  ∃fd:ό,(∀(s:ρ)(v:θ),QG s fd {[v],[]} [("_law_script",v)])/\∀base:ϖ,K.In base->base.Ns ώ mg->ap l.prog w K mg base aY 76 fa fd ["_law_script"] (yW K):=by
 let e:=hfa.symm.trans (ϒ X G d79.a);cases e;let T:Txt K mg:={Ϧ X G z1,Ϧ X G z2,Ϧ X G z3,Ϧ X G z4,Ϧ X G z5,Ϧ X G z6,Ϧ X G z7,Ϧ X G z8,Ϧ X G z9,Ϧ X G z10,Ϧ X G z11,Ϧ X G z12,Ϧ X G z13,Ϧ X G z14,Ϧ X G z15,Ϧ X G z16,Ϧ X G z17,Ϧ X G z18,{tg0,ϒ X G zg0},{tg1,ϒ X G zg1},{tg2,ϒ X G zg2},{tg3,ϒ X G zg3},{tg4,ϒ X G zg4},{tg5,ϒ X G zg5},{tg6,ϒ X G zg6},{tg7,ϒ X G zg7},{tg8,ϒ X G zg8},{tg9,ϒ X G zg9}};let b9:=d9.F.binds (ps:=["point"]) λ_ _ _ _ _ _=>Gf λ_=>U;let b24:=d24.F.binds (ps:=["thing"]) λ_ _ _ _ _ _=>Gf λ_=>U;let b32:=d32.F.binds (ps:=["thing"]) λ_ _ _ _ _ _=>Gf λ_=>U;let b34:=d34.F.binds (ps:=["row"]) λ_ _ _ _ _ _=>Gf λ_=>U;let b38:=d38.F.binds (ps:=["text"]) λ_ _ _ _ _ _=>Gf λ_=>U;let b40:=d40.F.binds (ps:=["text"]) λ_ _ _ _ _ _=>Gf λ_=>U;ext(⟨_,_,kV,doc,pm,an,cdv,ct,_,rfl,_⟩:id d79.F.ex);show{h_ "law" "law" (bQ tE) (bt tE) (ax tE) .none kV doc pm an cdv ct,λs v=>.of_eq U,λbase _ _=>?_};let hRK:∀H,aq K H gR (tQ.map V.str):=λH=>.inr {000,lR,11,(by change 5<=Μ;rw[ι];decide),.cons {01} (.cons {01} (.cons {01} (.cons {01} (.cons {01} .nil))))};let D1:=d1.d X G (vj d1.F T (P:=l.prog) (w:=w) (base:=base));let D2:=d2.d X G (vS d2.F T (P:=l.prog) (w:=w) (base:=base));let D3:=d3.d X G (vQ (k:=1) d3.F T (D1.up ()) (D2.up ()));let D4:=d4.d X G (rQ (k:=2) d4.F T (D3.up ()));let D5:=d5.d X G (qV (k:=3) d5.F T (D1.up ()) (D4.up ()));let D6:=d6.d X G (tU (k:=4) d6.F T (D5.up ()));let D7:=d7.d X G (uH d7.F T (P:=l.prog) (w:=w) (base:=base));let D8:=d8.d X G (uz (k:=5) d8.F T (D7.up ()) (D6.up ()));let D9:=d9.d X G (mT (P:=l.prog) (w:=w) (base:=base) d9.F T);let D10:=d10.d X G (vG (k:=6) d10.F T (D8.up ()) (D9.up ()));let D11:=d11.d X G (va (k:=1) d11.F T (D1.up ()));let D13:=d13.d X G (AV d13.F T (P:=l.prog) (w:=w) (base:=base));let D12:=d12.d X G (oG (k:=1) d12.F T sS (ϒ X G zS) (ϒ X G zR) hRK (D2.up ()));let D14:=d14.d X G (Fw (k:=7) d14.F T (ϒ X G zR) hRK (D11.up ()) (D2.up ()) (D6.up ()) (D10.up ()) (D12.up ()) (D13.up ()));let D15:=d15.d X G (vR (k:=8) d15.F T sS (ϒ X G zS) (D7.up ()) (D14.up ()));let D16:=d16.d X G (uI d16.F T sS (ϒ X G zS) (P:=l.prog) (w:=w) (base:=base));let D17:=d17.d X G (xq (k:=9) d17.F T (D15.up ()) (D16.up ()));let cl:uG K C:=⟨pg,hd,po,sa⟩;let FSI:=nZ (st:=jG) lSI cSI kSI;let bSI:=FSI.binds (ps:=["self","text"]) λ_ _ _ _ _ _=>LH λ_ _=>U;let FM:=nZ (st:=vr) lM cM kM;let bM:=FM.binds (ps:=["self","signs"]) λ_ _ _ _ _ _=>LH λ_ _=>U;let FN:=nZ (st:=dM) lN cN kN;let bN:=FN.binds (ps:=["self"]) λ_ _ _ _ _ _=>Gf λ_=>U;let FB:=nZ (st:=hD) lB cB kB;let bB:=FB.binds (ps:=["self","most"]) λ_ _ _ _ _ _=>LH λ_ _=>U;let OSI:ap l.prog w K mg base aY 1 fSI _ _ _:=DG FSI T cl nT nA;let OM:ap l.prog w K mg base aY 1 fM _ _ _:=Iw FM T cl nT nA;let ON:ap l.prog w K mg base aY 1 fN _ _ _:=sW FN T cl nT nA;let chT:∀n,ap l.prog w K mg base aY (1+n) fB _ ["self","most"] (ut C n):=λn=>by
  induction n with
  |zero=>show fg λvs H Q E h=>by ext(⟨a,x,i,most,_,_,_,_,h1,h2,_⟩:h);omega
  |succ n ih=>show vH (k0:=1+n) FB T cl {aN,iN,kN} (ON.mono ()) bN {aM,iM,kM} (OM.mono ()) bM {aB,iB,kB} ih bB
 let D41:=d41.d X G (rR d41.F T (P:=l.prog) (w:=w) (base:=base));let D42:=d42.d X G (mD (k:=1) d42.F T (D41.up ()));let D43:=d43.d X G (FO d43.F T (P:=l.prog) (w:=w) (base:=base));let ch44:∀n,ap l.prog w K mg base aY (2+n) f44 _ ["kind"] (iF n):=λn=>by
  induction n with
  |zero=>show fg λvs H Q E h=>by ext(⟨v,k,_,_,z,_⟩:h);let:=k.size_pos;omega
  |succ n ih=>show qP (k0:=2+n) d44.F T (D43.up ()) (D42.up ()) (d44.d X G ih)
 let D44:=d44.d X G (ch44 12);let ch47:∀n,ap l.prog w K mg base aY (14+2*n) f47 _ ["expression"] (uF n):=λn=>by
  induction n with
  |zero=>show fg λvs H Q E h=>by ext(⟨v,d,b,_,_,z,_⟩:h);rw[Wx]at z;show z
  |succ n ih=>show iT (k:=14+2*n+1) d47.F T sS (ϒ X G zS) (D43.up ()) (d46.d X G (tW (k:=14+2*n) d46.F T (d47.d X G ih))) (d45.d X G (nF (k:=14+2*n) d45.F T (D42.up ()) (D44.up ()) (d47.d X G ih)))
 let D47:=d47.d X G (ch47 8);let D48:=d48.d X G (pk (k0:=21) d48.F T cl {mk,aSI,iSI,kc} (OSI.mono ()) bSI (ϒ X G aC) {aB,iB,kB} (chT 21) bB);let D49:=d49.d X G (sr d49.F T (P:=l.prog) (w:=w) (base:=base));let D50:=d50.d X G (Em (k:=1) d50.F T (D49.up ()));let D51:=d51.d X G (FC (k:=2) d51.F T (D49.up ()) (D50.up ()));let D53:=d53.d X G (pd (k:=3) d53.F T (D51.up ()));let D52:=d52.d X G (oh (P:=l.prog) (w:=w) (base:=base) d52.F T );let D56:=d56.d X G (tM (k:=1) d56.F T (D49.up ()));let ch54:∀n,ap l.prog w K mg base aY (4+n) f54 _ ["branch"] (ju n):=λn=>by
  induction n with
  |zero=>show fg λvs H Q E h=>by ext(⟨v,b,_,_,_,z,_⟩:h);omega
  |succ n ih=>show tL (k0:=4+n) d54.F T (D53.up ()) (d54.d X G ih)
 let D54:=d54.d X G (ch54 21);let ch57:∀n,ap l.prog w K mg base aY (25+2*n) f57 _ ["branch"] (pV n):=λn=>by
  induction n with
  |zero=>show fg λvs H Q E h=>by ext(⟨v,b,_,_,_,z,_⟩:h);omega
  |succ n ih=>show jt (k:=25+2*n+1) d57.F T sS (ϒ X G zS) (ϒ X G zR) hRK (D56.up ()) (d55.d X G (rK (k:=25+2*n) d55.F T (D53.up ()) (D54.up ()) (D52.up ()) (d57.d X G ih))) ((d57.d X G ih).up ())
 let D57:=d57.d X G (ch57 21);let D58:=d58.d X G (ja (k0:=67) d58.F T (D48.up ()) (D57.up ()));let D21:=d21.d X G (rD (k:=1) d21.F T (D13.up ()) (D2.up ()));let D22:=d22.d X G (vi (k:=7) d22.F T (D2.up ()) (D10.up ()));let D23:=d23.d X G (pE (k:=8) d23.F T (D13.up ()) (D22.up ()));let Fi:=AG (k:=10) d24.F T (D7.up ()) (D17.up ()) (D12.up ()) (D21.up ()) (D23.up ());let D24:=d24.d X G Fi;let D33:=d33.d X G (pf (k:=14) d33.F T (D44.up ()));let Fs:=uB (k:=30) d34.F T (D33.up ()) (D47.up ()) (D43.up ());let D34:=d34.d X G Fs;let D35:=d35.d X G (FQ (k:=31) d35.F T (D34.up ()));let D36:=d36.d X G (rZ (k:=25) d36.F T (D54.up ()));let D37:=d37.d X G (wW (k:=68) d37.F T (D48.up ()) (D36.up ()) (D58.up ()));let Fe:=lQ (k:=69) d38.F T (D58.up ()) (D37.up ());let FxI:AY K "__init__" "IndexwiseError.__init__" ij fI _ (.ref gI):={{0000000001,lI,cI}};let BI:=FxI.binds (ps:=["self","place"]) (ds:=[]) lgI U λ_ _ _ _ _ _ us hl=>by obtain⟨_,_,rfl⟩:=ke (show us.length=2 from ↑hl);show{011}
 let FI:ap l.prog w K mg base aY 1 fI _ ["self","place"] (fX K D fI):=Bq FxI T;let ndA:=u_.mp ndC;let neD:∀b∈[aNoWords,aTwice,aNoBind,aNoProgram],b≠D:=λb hb z=>ndA.1 (z▸hb);let CNoWords:eT K D fI aNoWords:={xNoWords,inNoWords,tI,saNoWords,plNoWords,gaNoWords,ghNoWords,clNoWords,kpNoWords,neD _ ()};let CTwice:eT K D fI aTwice:={xTwice,inTwice,tI,saTwice,plTwice,gaTwice,ghTwice,clTwice,kpTwice,neD _ ()};let CNoBind:eT K D fI aNoBind:={xNoBind,inNoBind,tI,saNoBind,plNoBind,gaNoBind,ghNoBind,clNoBind,kpNoBind,neD _ ()};let CNoProgram:eT K D fI aNoProgram:={xNoProgram,inNoProgram,tI,saNoProgram,plNoProgram,gaNoProgram,ghNoProgram,clNoProgram,kpNoProgram,neD _ ()};let XT:AU K D:={00000000000000,xD};let nTB:decide (aTwice=aNoBind)=Α:=Q8 λz=>(u_.mp (u_.mp ndA.2).2).1 (z▸Γ);let JR:=d59.x X G (tz (k0:=69) (R:=dB) (W:=Lp) (G:=GR) (oneD:=fU) d59.F T CNoWords (ϒ X G oNoWords) (FI.mono ()) BI Jf (Fe.mono ()) d38.F.kp b38 (Fi.mono ()) d24.F.kp b24 ((Fs.imp Je).mono ()) d34.F.kp b34);let RR:=d39.x X G (rP (k0:=71) d39.F T JR (ϒ X G d38.a) (ϒ X G d24.a) (ϒ X G d34.a));let FR:=Dx (k:=71) d40.F T CNoWords (ϒ X G oNoWords) (FI.mono ()) BI RR;let D76:=d76.d X G (DN (k:=73) d76.F T XT (ϒ X G oD) CNoWords (ϒ X G oNoWords) FR (ϒ X G d40.a) d40.F.kp b40);let D18:=d18.d X G (qW d18.F T (P:=l.prog) (w:=w) (base:=base));let D19:=d19.d X G (uA (k0:=1) d19.F T ((mT (P:=l.prog) (w:=w) (base:=base) d9.F T).imp LO) d9.F.kp b9);let D20:=d20.d X G (sO (k0:=2) d20.F T D19 (ϒ X G d9.a));let D25:=d25.d X G (uQ d25.F T (P:=l.prog) (w:=w) (base:=base));let D26:=d26.d X G (xc d26.F T (P:=l.prog) (w:=w) (base:=base));let D27:=d27.d X G (rC d27.F T (P:=l.prog) (w:=w) (base:=base));let D28:=d28.d X G (sR (k:=3) d28.F T (D20.up ()) (D18.up ()) (D26.up ()) (D27.up ()));let D29:=d29.x X G (sj (k:=10) d29.F T CNoProgram (ϒ X G oNoProgram) (FI.mono ()) BI (D24.up ()));let D30:=d30.x X G (rO (k:=1) d30.F T CTwice (ϒ X G oTwice) (FI.mono ()) BI (D25.up ()));let D31:=d31.x X G (pC (k:=3) d31.F T CNoBind (ϒ X G oNoBind) (FI.mono ()) BI (D28.up ()));let Fck:=wX (k:=11) d32.F T CNoProgram (ϒ X G oNoProgram) (FI.mono ()) BI (D29.up ()) (D30.up ()) (D31.up ());let D77:=d77.d X G (Af (k:=13) d77.F T XT (ϒ X G oD) CTwice CNoBind nTB (ϒ X G oTwice) (ϒ X G oNoBind) (Fck.mono ()) (ϒ X G d32.a) d32.F.kp b32 (D17.up ()));let D60:=d60.d X G (Fd d60.F T (P:=l.prog) (w:=w) (base:=base));let D61:=d61.d X G (CY d61.F T (P:=l.prog) (w:=w) (base:=base));let D62:=d62.d X G (CJ (k:=1) d62.F T (D60.up ()));let D63:=d63.d X G (zV (k:=1) d63.F T (D60.up ()));let D64:=d64.d X G (CB d64.F T (P:=l.prog) (w:=w) (base:=base));let ch65:∀n,ap l.prog w K mg base aY (1+n) f65 _ ["_law_kind_here"] (iF n):=λn=>by
  induction n with
  |zero=>show fg λvs H Q E h=>by ext(⟨v,k,_,_,z,_⟩:h);let:=k.size_pos;omega
  |succ n ih=>show Dw (k0:=1+n) d65.F T (D64.up ()) (d65.d X G ih)
 let D65:=d65.d X G (ch65 12);let ch67:∀n,ap l.prog w K mg base aY (2+n) f67 _ ["_law_state_here","_law_names_here","_law_room"] (nX n):=λn=>by
  induction n with
  |zero=>show fg λvs H Q E h=>by ext(⟨a,b,rm,xs,_,h1,h2,_⟩:h);omega
  |succ n ih=>show EO (k0:=2+n) d67.F T (D60.up ()) (D63.up ()) (d67.d X G ih)
 let D67:=d67.d X G (ch67 12);let D66:=d66.d X G (Fm (k:=1) d66.F T (D61.up ()));let D68:=d68.d X G (Cf d68.F T (P:=l.prog) (w:=w) (base:=base));let D69:=d69.d X G (CL (k:=14) d69.F T (D60.up ()) (D63.up ()) (D64.up ()) (D67.up ()) (D65.up ()));let D70:=d70.d X G (CC (k:=1) d70.F T (D60.up ()));let D72:=d72.d X G (Ch (k:=2) d72.F T (D62.up ()) (D60.up ()));let ch71:∀n,ap l.prog w K mg base aY (15+n) f71 _ ["_law_walk","_law_world_here","_law_room","_law_budget"] (FL K n):=λn=>by
  induction n with
  |zero=>show fg λvs H Q E h=>by ext(⟨_,_,_,_,_,_,_,_,_,_,room,bud,_,_,_,_,_,h1,h2,_⟩:h);omega
  |succ n ih=>show pD (k:=15+n) d71.F T (D66.up ()) (D68.up ()) (D60.up ()) (D69.up ()) (D70.up ()) (d71.d X G ih)
 let D71:=d71.d X G (ch71 8);let D73:=d73.d X G (Jt (k:=23) d73.F T (D66.up ()) (D60.up ()) (D67.up ()) (D65.up ()) (D71.up ()));let D74:=d74.d X G (wL (k:=24) d74.F T (D60.up ()) (D61.up ()) (D72.up ()) (D73.up ()));let D75:=d75.d X G (xk (k:=1) d75.F T (D60.up ()));let D78:=d78.d X G (CU (k:=74) d78.F T (D76.up ()) (D35.up ()) (D77.up ()));show Iy (k0:=75) d79.F T (D74.up ()) (D78.up ()) (D61.up ()) (D60.up ()) (D75.up ())
def walk{l:Qv}{q:Θ}{loose:List Str}{XP:(Str->Option θ)->ϖ->Prop}{YP:Χ->ϖ->Prop}{d:DefRec}{K:Params->ζ}(hn:l.most=Z 63)(hdf:d.params.defaults=[])
  (hY:∀(w:Χ)(h:ϖ),YP w h->(K w.params).In h)
  (F:∀(w:Χ)(mg:Str->Option θ)(fa:J)(h:ϖ),(K w.params).In h->h.Ns ώ mg->mg d.name=Z (.ref fa) ->
   ∃fd:ό,(∀(s:ρ)(u:θ),QG s fd {[u],[]} [("_law_script",u)])/\∀base:ϖ,(K w.params).In base->base.Ns ώ mg->ap l.prog w (K w.params) mg base aY 76 fa fd ["_law_script"] (yW (K w.params))):
  PySem.W.WalkO q loose XP YP l.row.toRowW d [] (λf vs=>PySem.call f vs):=
 L2.walk_of (n:=63) (k:=76) (x:="_law_script") (CX:=λ_=>aY) (sp:=λw=>yW (K w.params)) hn () hdf {133} hY F (λ_ _ a ns hl _ hS=>{a,ns,1,hS,hl,λ_=>U}) λ_ _ _ _ _ z=>z
end K66
namespace PySem.W.Fast
local macro_rules|`(command|universe $x*)=>return Lean.mkNullNode (<-x.mapM λx=>`(command|def $(Lean.mkIdent (.mkSimple ("tw"++toString (x.getId.toString.foldl (λa c=>a*62+(if c.isDigit then c.toNat+4 else if c.isUpper then c.toNat-65 else c.toNat-71)) 0)))):ident:=0))
universe KeCERnGHEBC V0SBLsax8Kj HQcBHNMTgtj SPFlxCFAgR4 Mx3zLJ2Z81b Ap6eCkzftL8 CSczDTfhwUr QdHGvjMPACH NClQaPlVZym K49v8T0VVj8 KTI0l26OpIt VBgoss8TcK2 HD2aCu7SnoZ S6zmbSYyQZp Pjs1kC0GgQC UzxniWCJJAo O9SPuv4OcSd IDraeAYIyP9 MFW5GHN8MNh TkeHvOgMjmB Jd5LtUL7uJy LPblEUKJaJm EG1Z6Bw8P3O GVYSA48allq FdZcvAAD6JY JX8EK0hQChM PW4LzZCFFU6 VjjY5rfNRfE SPAAa7Lj4aK KOq5IDZ5fyn JBxUipt0N3X AjjdLFSQYp8 EB6hjo4QA46 FoFbYYbaTTB OuKvr97sOXj D26VvF19ZYB LtcVbIz2S1z BkWduXZOxjS L46YFcrwIoK BOkJPIBuj3D FYdNOT395TU JkkHW4IvPhg EVuzDbD8xvq Mv4Nn3ECBkJ KPQRy5Xojxi Bqdel8kJiVN VHmQr9Gq4ds JycsPzEoMHZ BvShco5rVrR FpzGgKWxMZN NEOJ5R8KFX4 EE8fGGtHaaQ IKx4JqqTVGl EPfLoBqtBS7 TyHT66NWceH RKYxEYRM4be DLru6jy09JD MkIUfNpiWhx Rh5lwblh1zo ONf2kDKXQAf ILhfALFav6D SoXRUv2KB21 PR0Ns0Hon9n RSCqFuGfQwl LKhbUkeGRR7 P86LiUSg5yw Ti27QiYdc1H OHsgV1OWo95 JVtECyNBwJD ObwQMPLQJSL VIuUilNTOJf QaawQsVWAwP A8u0HiGV3Ib ACpLpnMrx4N IYQ4uC62d2h GIyvq97FHEX Dl1q0NeYSrw GOI8wXg6YM9 Qvq1v12SDXm ESRxheoBRUB OpwkGFrB9J1 NyRdnewLZ2r BQY5CDQRWOn FsQe9LksTlP EQI5DaPuYhh KmocmBgKv7I KCpqCvzARXY Vpl62Wq6Wpl DiyFYsuSd0B VblMuWUlflN CZgXb2631dv RNEJIQbdc4N PehkCps60W3 VnJvK8vTQNe DnMKqoVECeX RqctZpPJY2B J120eI9zQSU EDsctltuoG2 Sm9KGh0Brkg NTz5jteVV2Q HZEZVSFFwwQ NqbDKJ7satb LgR14gUcoKA Soi4P8xdblu F5OgZx4S0Zf GmaSrDxaXUV HV0ziDiwxt8 FmXYx3JNH4k AtuRSUiiAYW BIveSXkhZU0 T2DfzN96Yip HERJFEcpvYh FHsCYiopp9j ETLtAXqAHhX VGGUlXoin5y InSpujwMDXM PI8LzfurMYI JPnOvdckW4P H98lZ8lnjnx Abh7BcpCQ1D ACjL4WlUryB L1eokc5nYx8 Bah2uNQy69D LRYCHLaCTTN Thg5E81sBIv AUnvfCLauqP Gu1lbBkjUvm Lbj6WC0HyJw B0qMyiJtcJm UWl5ds7i2Qn CVuWQE7WQRf M4hx81nvfAO FGaG4w6JGwe Mv7OJ5YiQki JZILETEvGxa KXWIw0MrHRE AzA4wQaPGN6 Qyz5GJ8dfHt HL7RFZabvF5 FAQq4vJ4wHg NreEe19Ak2c BVsu2E1wflg PO2v9iiFVAe CD8FqkIAp3a PUZnFo0GjLy MvgwEVFm3Cp BWVbbABNHkN BbsYFnlAqig T8a14O93hmj LaLC6uqNrXW QrxmoE59MFC AsUXJfenjjO CYdiU6ggUQe ORPdEtJgqnJ B9buOkTuuSH SISRVKLFIgv GgdtMk6Jp13 G7fUrXj8RWp JLxqARZz4cP O0fXppy1HCk HpAUOK1z1JI EfZOFiBZEDi DUxvA7GCyVU TcfiDSUfWGD SnqPYEZiBan QQPsmB3OhSe M1u2rHZGHQn LEREPZkt9Hl EI8MrOM8RRA Mw5c3cnhgmz S1X8D1OSf0q RifhsW7Bnoi B8P5ssAZO1a G7ZB6LQAPr8 JH5watKXVxc OkHIS671gDe DbN7isqlnQV Ro92dJRS4ML Qsvx5qaZBsC ShZmGJzZOMt Sb4gxHb039v Gj1yan3Djqu Fx3nOSad0gI OGo87ocDwsZ CAM7h2L6f0i U8j0m3fimJx NCultOQgYD1 VhfgIGZtnoO CyJIDXTjEX4 Bj3hxddv7Vv Kqt2NaKtllI VVGcmq5WGDW BSXWWL6s0rH HN84spbfGoM RntrV1qYKwD HA76ZHWtGRK O6ywMZbHDNM PIQJ1lkjjm4 PlQ3FPACv17 JhZlwNXT9ed SlDw74RR6JE C9QXODseaFx FPUV8RvOwuc Qyt2LV2Ef82 K3bF4pYCweL LRp0kDJ4kiz JBi4NcsXxKz NwdEdQOAm6H F8NmREeLiuZ QFnA3hMK2hG LD5VYhSrEK8 AgbkGK8N8cB KBTQSejGOna EklhGO93fWu UBgDY5odmPf Ak5Agnh8hhY BwtxFj0IGEj Ki1uEIqLDJf SlLVsT47ix7 PEB8rg9eYUC Q1pP2WMFU9z Cd9FB8HuRpC NQUQ2HYQ83H IXG50mf9EoK NoW0SgSdJ8W CddGWg3ljyl Qodd4q4sUKA LD5KmmtKo34 CJdKLXIjSEj P9057nEZqCp FcUg09izw4T JHOtI9KpMDv D1OLqftIOBz QJEewArK5Zd M1UAi0iMUwp EbMbEfyg8fP CLo0RKV0dOz AzraTJk9643 PAy4Nib8LqY Ok44JN9vrqH Dw1Xsf8IUH6 I6YBvaR2jFC AhKmo3OyVIn QRCkRkquh3M Gx31lbyjr4Z OYhvHZnDjiO LzHpJHTizoq FcHrtxpkxU0 JcfBTooOypi HMloRLlnANZ BDHLE0n5tMZ KY8Y1MSOlBD F90wCzoMNyV CUb27H7YPSH AqqJYyTkBRA TgChNMk9o0w VAGAOD8V8dg IK66aBVmJSk TPJ23Z3C8Hp OgrApCQUy68 EGEHdHC1yA8 P5YFYeeSCrg RdgmUQ9ghrD MNJeFpdORrv Ex2XFqyc3mX CrWjZPdiboY Bpjt8JYBlAW UVXdD1Gmfvs J4SgQwXl25T A1GwRfoXNPB GYvbMaxxii6 TpnTvJpcRss MYUDmxGhlUj SpJBEsIbZ33 K4Io0SRJodo PlkVaU4hXRs TLmiIghu2Nj CmRCwDhbtoV H3YsHEr1PeJ CwzHNqKQX9v P24xZ7gEEOj SVb1iw2e8Ko OWo8TcweT1d SJXDntRfZux SWoDXyUTeqg JOq29G1cWd1 DcogjzMS21T LZdvW9hlAVZ KkMOqUoXkWo DL6YOPIIbuQ Lj1UVEqreai QvJdjPNFPhI AUHLydeflRb D6FKEKfH7oN RiZW3Om94t2 GEvzaQxvdXn TnZsgtqk43Y Ep4bXrvZUKs I9ZsktoJ2yK Uvg1QrylXIy BTjWP1ckH8U CyAskua3cZR N71IdUrQZrl GX92r9oU4QL AF9KpJaxX4x DJr4vCAFm0b GfLaGntxmVu TOVP46LZLiw LxM7qTPsz9D OLDkiRdlESA S0eadhRfhqj AcGCGJcVj3G K37TemiJaw3 ERrqRRuqcm1 QfNTePFyMHd KME4q9e60C8 QlGxN3i4r4H C1X0JNACcfS Gqyt59zrv6h HZHMNuoHGJR DBUaet6nWgm MDKFsbwXRsK NmyxLW17ddM DoWa6zoIARx HFeok4olexo IyLE2SstsOU RVWRROykR94 DtOTpDEAigo AlNw8tNW9aw TNfoZMDZhHn OCJpaRru0yq UBsioBZO4Iz KP8wNhs89Jd HM682MEsCDh Sg6aDR66wj9 OjGoxcW2RkU JkmiF7j7x5p NJtCvc6C7Pd PxGJfQA6t1z HVDCuJza6QU MarJNSlDZP8 IFySBjlLyIh Trua3VG8rrG FlCJeB0elii POmTP9iutLU GIzE6dYDiFV OIWgxYapek1 HtzKebSQqdI CbZl0raSRht CFWGSM331uq J4Flv4bFKI6 Cjd6kFI4gbI RzB8mlCH9wx MYOnK7t7Qqu Jc8E9hRvHdz BLdGfv3bSI4 O2UWd0PqxaW CyKcXNOX0Yp BxeXqbdRIOf DAB08bCzf5H NivfB65LG35 P4o7rpOACrc TZuXPxpVqMx UrweFd4l5TT IUof7riZj1i DQcQoORgVDP PMA0kIZtxr1 OrZJMlmgi2w AqHYLRbtSkL QZksJuPpAMx T23ZXWYZtIB Qq0EjTJ038i UGe2BIZrXM7 CDSF1ccMfhR JByaAvYpXw2 HXgmtN8Nac2 GQMy5lLr55y PgI6fJU61e5 DlzTwFluZcC JOp14Rwzk0g K0yoflhNtob SQhQYcHb8nH Bom7bJcuFf2 CfhlSllqMJa QpM8W3nXgiD Nr80PBMYqN3 ArM2wC4Digx Plp3whjUH0i RZgvWlwbkIq M3WUmaSjjb6 V5OAJvN2M5J HvkTjiAWdGf Ny7CltoPWiR DQEdQ35ozI9 Ou5Ht6xVCas TaHb9RY9601 PGAl0vr399f CpwzUy3H30d TSVdNwrq1E1 TDx2kEpysP4 Ej4ZyFnkNI0 A48oFAgXcGn SfS6oe47Z8p GohlX0s1m0b UiwTRTH42GU GnOCgMtijey SFZSgEJaCT3 URI4l07UP0e HCgvOKi3meL EA7fmyUkC4X OJTTSViP6FC N3NUNB2s1tC EkOhefuNTbE UQFfPts7zj6 FjXtnKmAkBU RTGCi3vvNRw PYFS85QFNvV BQ69yTo66ZP K0LfKJmu05n KwfQcOPGZhA GlNpuCxad7d C2lZ7W4UQiz BMURPnQ18C8 NGzqbw9RJ3V HDjQ6c5V82B RoNk4RqGAFR J8bTTK70ujv VOOt4bTqNMo BcgvHVSGB6l PxNRDFRLrZn TqAoHpfQKfM JbFoU7jI97k EbXCP1dO7tl IKvFavAP6cv ElS59i7470u RyNG4NM5i5V CPMargxiFpA ErNW259ws3r LgMnFmMABIM D3fi8quUmsr FmuGrago6OE H8wXBs2PX8N HdhDuz7HbfJ DkMWEHdGSzh UFWzwIashKs QYt1eNKSrr9 UTnC5rLyZHG SNpEydAZo3s R3vJP0QeqBQ LzFIJ9RYjFw UHM0nLfa38D UeTPfLNq9Pu VGhiaK5okEb IXXBx4BIGE3 Pc54mNIudyM PXWrJQtZxII TEFxcQ2V9qJ HG2G7vQPL55 Vvke57XAmNH Mmlp1AF74gO QD7uc4sRfCq DVFfEt9QZIj Mf85GexUaNY ISP4RlCf0Ro EMqZ6XkbRZD IDtTc0bQrXj JCJe3xRuVW9 MxrE232S2f9 U0MXQol6M3K Vye0K9bFMP9 KcPiCihQt1p T7m6JXNUvYr D9b1KBysbBF UMDGN2wApSx KNs6JDNjKiE I0s3cup5It9 T1ee8MtuVGA U0vpU6pZa1r O0ZtJaJKykK FXePogIi6bp MhJ0wxmcuG9 It5eNpiZbmu UqrDXerRRaU C0uzIv92WhA ELdhIDEm7Mv OgTJqDu08ub NX3l1F1CTal GpzJWaORKv1 RHvcSYMVVAz QeCwBH4PhGM Un62H7pqtgf E2ZbItLrtHE D6JFPyBuWgC FsS1p2DXKoE P5jzCO9Yhdy Orj8IoKXTZU PRVQm9Hj5jv UGSAJExi0on K0uqzf5oxLA PWD9gMTPcpS EZlcB9895H2 AJUlNMvAWmh CoSTQFiP9bw Flf9H1fSq3Q C53uLpWzSRy ML12zzgSj8p GMsWutL5LiO TIAuuXyNYDP NVCk5UceilQ PLKJZzl4HMx IceoISfmePE OyxsOQdrjBI UZxWDzao1TU GWVT6cla9L0 UB6XhrT4Nrl P0t2ZObdXhM D1rqp3CNmnS OK9iToojjmN JRC0YFfGlzy T0UXR0tdaSY Efr2ahc0HLF HEn5yEZkWCT K9MQiJRRVot Jxh8mzYL1Iz LtKGkvU8LFv DBAhx9hKYZS I0Dvyi1AloY UcCJqtA5g7p V8U4GzZGAUC SnIfKeDqfcg FBFfkFNaZcl EX6lsHstsxr NGarEsmeMKv RAcGK7LIf1l Ob0VUQOkHaU PAN5F3jL5tT UbPTFgkhvp3 HiAcDBh6PZM TDDOjt12duR FzlwKOEBtHu DANaLuaLo8C DDtvlwkFOFt LRwcX3wjcKn LTlTELYv21P CX9CZpSfoRx HmIdy19WFnZ OGNtzHVf21I CEoO7c66USP GYtJty5QO2D NjB14Cd7I3C HLatkKjNzCN ORVFFiP75r8 VYVxvWclLLh S3CMF35eAuf OSqlkIWFT83 CC9Yc0Da1x6 JxGpn2TZTog CklqTuYO714 AwgsHUZZCdu QP9mi0DxE1a KJ6jMUeCced EDxYjeabjwZ DDFcK5IHfxw OocvpRbUjlq OEGM1gJn2NF BWG8Y0nJjHS MDyMTn0RFV4 NbWtOTjdfkQ QksmvMu74zo NEpuuCqmuJs C9vNLlrPDnR Ej6XtIL3lH2 FvvIv6gdNnV G2zfI5njwE5 SsnM4UN966s NPPLNYqrkKb Tp9g7cJmuFX Ex57MqSXhA2 IYZV35bYqXL P2mzw1CYd1w KqpA7Y2okEO LTDipKTMDTe KFkKLMsFqBv KFIPVqVFOuf CA9GIHfIn1I UmJnnianYUp Dz0jhYHS7iS NjwC0CNxs81 MZvMg8O3RkZ LU2WarcIIq5 IKawC5KE6uv JFxnaefewfp VW8KPUcvmUt LokqA83b47I OAoqc7syYRn Qs14twEw5g0 LpK1uaeXHKX H5AatiumcFF SIVBvJPibBo O7kMX6Yw05h NS4ygtJL1X8 REYDUqZVVK6 RbiJDV3bYw1 CHxXcpcHfRN I2BLFdQ4naU HIz5jQW4aUY Q7pwVmujEk8 VbBlpwTzTkf NMeS8UmUu7s FP6vryK3EYD
end PySem.W.Fast
open PySem PySem.W PyProof.Rows
set_option maxRecDepth 100000 in
set_option maxHeartbeats 0 in
theorem PySem.Challenge.cw_indexwise_k66_whole_read_is_what_is_writ_holds : PySem.Challenge.rw_indexwise_k66_whole_read_is_what_is_writ.Holds := by
 w_on;o_law;k_head;(case hw=>w_witness2)
 k_fill
 refine K66.walk (l := PySem.Challenge.rw_indexwise_k66_whole_read_is_what_is_writ) rfl rfl (λw h Y => PySem.W.kIn_of Y) ?F
 case F=>
  intro w mg fa h KX G hmg
  refine' K66.all_mk KX G hmg ?d1 ?d2 ?d3 ?d4 ?d5 ?d6 ?d7 ?d8 ?d9 ?d10 ?d11 ?d12 ?d13 ?d14 ?d15 ?d16 ?d17 ?d18 ?d19 ?d20 ?d21 ?d22 ?d23 ?d24 ?d25 ?d26 ?d27 ?d28 ?d29 ?d30 ?d31 ?d32 ?d33 ?d34 ?d35 ?d36 ?d37 ?d38 ?d39 ?d40 ?d41 ?d42 ?d43 ?d44 ?d45 ?d46 ?d47 ?d48 ?d49 ?d50 ?d51 ?d52 ?d53 ?d54 ?d55 ?d56 ?d57 ?d58 ?d59 ?d60 ?d61 ?d62 ?d63 ?d64 ?d65 ?d66 ?d67 ?d68 ?d69 ?d70 ?d71 ?d72 ?d73 ?d74 ?d75 ?d76 ?d77 ?d78 ?d79 ?z1 ?z2 ?z3 ?z4 ?z5 ?z6 ?z7 ?z8 ?z9 ?z10 ?z11 ?z12 ?z13 ?z14 ?z15 ?z16 ?z17 ?z18 ?zg0 ?zg1 ?zg2 ?zg3 ?zg4 ?zg5 ?zg6 ?zg7 ?zg8 ?zg9 ?zR ?lR ?zS ?aC ?aSI ?iSI ?lSI ?cSI ?kSI ?aM ?iM ?lM ?cM ?kM ?aN ?iN ?lN ?cN ?kN ?aB ?iB ?lB ?cB ?kB ?pg ?hd ?po ?sa ?mk ?kc ?nT ?nA ?sS ?lI ?cI ?lgI ?tI ?oD ?xD ?oNoWords ?xNoWords ?oTwice ?xTwice ?oNoBind ?xNoBind ?oNoProgram ?xNoProgram ?inNoWords ?saNoWords ?plNoWords ?gaNoWords ?ghNoWords ?clNoWords ?kpNoWords ?inTwice ?saTwice ?plTwice ?gaTwice ?ghTwice ?clTwice ?kpTwice ?inNoBind ?saNoBind ?plNoBind ?gaNoBind ?ghNoBind ?clNoBind ?kpNoBind ?inNoProgram ?saNoProgram ?plNoProgram ?gaNoProgram ?ghNoProgram ?clNoProgram ?kpNoProgram ?ndC
  all_goals try (refine' K66.df_mk ?a ?l ?c ?k;(case a=>k_is);(case l=>k_is);(case c=>k_is);(case k=>k_is))
  (case z1=>k_is);(case z2=>k_is);(case z3=>k_is);(case z4=>k_is);(case z5=>k_is);(case z6=>k_is);(case z7=>k_is);(case z8=>k_is);(case z9=>k_is);(case z10=>k_is);(case z11=>k_is);(case z12=>k_is);(case z13=>k_is);(case z14=>k_is);(case z15=>k_is);(case z16=>k_is);(case z17=>k_is);(case z18=>k_is)
  (case zg0=>k_is)
  (case zg1=>k_is)
  (case zg2=>k_is)
  (case zg3=>k_is)
  (case zg4=>k_is)
  (case zg5=>k_is)
  (case zg6=>k_is)
  (case zg7=>k_is)
  (case zg8=>k_is)
  (case zg9=>k_is)
  (case zR=>k_is)
  (case lR=>k_is)
  (case zS=>k_is)
  (case aC=>k_is)
  (case aSI=>k_is)
  (case iSI=>k_is)
  (case lSI=>k_is)
  (case cSI=>k_is)
  (case kSI=>k_is)
  (case aM=>k_is)
  (case iM=>k_is)
  (case lM=>k_is)
  (case cM=>k_is)
  (case kM=>k_is)
  (case aN=>k_is)
  (case iN=>k_is)
  (case lN=>k_is)
  (case cN=>k_is)
  (case kN=>k_is)
  (case aB=>k_is)
  (case iB=>k_is)
  (case lB=>k_is)
  (case cB=>k_is)
  (case kB=>k_is)
  (case pg=>k_is)
  (case hd=>k_is)
  (case po=>k_is)
  (case sa=>k_is)
  (case mk=>k_is)
  (case kc=>k_is)
  (case nT=>k_is)
  (case nA=>k_is)
  (case oD=>k_is)
  (case xD=>k_is)
  (case oNoWords=>k_is)
  (case xNoWords=>apply K66.xo_mk;k_is)
  (case oTwice=>k_is)
  (case xTwice=>apply K66.xo_mk;k_is)
  (case oNoBind=>k_is)
  (case xNoBind=>apply K66.xo_mk;k_is)
  (case oNoProgram=>k_is)
  (case xNoProgram=>apply K66.xo_mk;k_is)
  (case inNoWords=>k_is)
  (case lI=>k_is)
  (case cI=>k_is)
  (case lgI=>k_is)
  (case tI=>k_is)
  (case saNoWords=>k_is)
  (case plNoWords=>k_is)
  (case gaNoWords=>k_is)
  (case ghNoWords=>k_is)
  (case clNoWords=>k_is)
  (case kpNoWords=>k_is)
  (case inTwice=>k_is)
  (case saTwice=>k_is)
  (case plTwice=>k_is)
  (case gaTwice=>k_is)
  (case ghTwice=>k_is)
  (case clTwice=>k_is)
  (case kpTwice=>k_is)
  (case inNoBind=>k_is)
  (case saNoBind=>k_is)
  (case plNoBind=>k_is)
  (case gaNoBind=>k_is)
  (case ghNoBind=>k_is)
  (case clNoBind=>k_is)
  (case kpNoBind=>k_is)
  (case inNoProgram=>k_is)
  (case saNoProgram=>k_is)
  (case plNoProgram=>k_is)
  (case gaNoProgram=>k_is)
  (case ghNoProgram=>k_is)
  (case clNoProgram=>k_is)
  (case kpNoProgram=>k_is)
  (case ndC=>decide)
  case sS=>
   refine' XB.shp_mk ?xShl ?xSlo ?xShe ?xSht
   (case xShl=>k_is)
   (case xSlo=>decide)
   (case xShe=>repeat (first|exact XB.Ents.nil|refine XB.Ents.cons ?_))
   case xSht=>
    refine' (XB.TupsK.cons ?xSa1 ?xSb1 (XB.TupsK.cons ?xSa2 ?xSb2 (XB.TupsK.cons ?xSa3 ?xSb3 (XB.TupsK.cons ?xSa4 ?xSb4 (XB.TupsK.cons ?xSa5 ?xSb5 (XB.TupsK.cons ?xSa6 ?xSb6 (XB.TupsK.cons ?xSa7 ?xSb7 (XB.TupsK.cons ?xSa8 ?xSb8 (XB.TupsK.cons ?xSa9 ?xSb9 (XB.TupsK.cons ?xSa10 ?xSb10 (XB.TupsK.cons ?xSa11 ?xSb11 (XB.TupsK.cons ?xSa12 ?xSb12 (XB.TupsK.cons ?xSa13 ?xSb13 (XB.TupsK.cons ?xSa14 ?xSb14 (XB.TupsK.cons ?xSa15 ?xSb15 (XB.TupsK.cons ?xSa16 ?xSb16 (XB.TupsK.cons ?xSa17 ?xSb17 (XB.TupsK.cons ?xSa18 ?xSb18 (XB.TupsK.cons ?xSa19 ?xSb19 (XB.TupsK.cons ?xSa20 ?xSb20 (XB.TupsK.cons ?xSa21 ?xSb21 (XB.TupsK.cons ?xSa22 ?xSb22 (XB.TupsK.cons ?xSa23 ?xSb23 (XB.TupsK.cons ?xSa24 ?xSb24 (XB.TupsK.cons ?xSa25 ?xSb25 (XB.TupsK.cons ?xSa26 ?xSb26 (XB.TupsK.cons ?xSa27 ?xSb27 XB.TupsK.nil)))))))))))))))))))))))))))
    (case xSa1=>k_is);(case xSb1=>repeat (first|exact XB.AreS.nil|refine XB.AreS.cons ?_))
    (case xSa2=>k_is);(case xSb2=>repeat (first|exact XB.AreS.nil|refine XB.AreS.cons ?_))
    (case xSa3=>k_is);(case xSb3=>repeat (first|exact XB.AreS.nil|refine XB.AreS.cons ?_))
    (case xSa4=>k_is);(case xSb4=>repeat (first|exact XB.AreS.nil|refine XB.AreS.cons ?_))
    (case xSa5=>k_is);(case xSb5=>repeat (first|exact XB.AreS.nil|refine XB.AreS.cons ?_))
    (case xSa6=>k_is);(case xSb6=>repeat (first|exact XB.AreS.nil|refine XB.AreS.cons ?_))
    (case xSa7=>k_is);(case xSb7=>repeat (first|exact XB.AreS.nil|refine XB.AreS.cons ?_))
    (case xSa8=>k_is);(case xSb8=>repeat (first|exact XB.AreS.nil|refine XB.AreS.cons ?_))
    (case xSa9=>k_is);(case xSb9=>repeat (first|exact XB.AreS.nil|refine XB.AreS.cons ?_))
    (case xSa10=>k_is);(case xSb10=>repeat (first|exact XB.AreS.nil|refine XB.AreS.cons ?_))
    (case xSa11=>k_is);(case xSb11=>repeat (first|exact XB.AreS.nil|refine XB.AreS.cons ?_))
    (case xSa12=>k_is);(case xSb12=>repeat (first|exact XB.AreS.nil|refine XB.AreS.cons ?_))
    (case xSa13=>k_is);(case xSb13=>repeat (first|exact XB.AreS.nil|refine XB.AreS.cons ?_))
    (case xSa14=>k_is);(case xSb14=>repeat (first|exact XB.AreS.nil|refine XB.AreS.cons ?_))
    (case xSa15=>k_is);(case xSb15=>repeat (first|exact XB.AreS.nil|refine XB.AreS.cons ?_))
    (case xSa16=>k_is);(case xSb16=>repeat (first|exact XB.AreS.nil|refine XB.AreS.cons ?_))
    (case xSa17=>k_is);(case xSb17=>repeat (first|exact XB.AreS.nil|refine XB.AreS.cons ?_))
    (case xSa18=>k_is);(case xSb18=>repeat (first|exact XB.AreS.nil|refine XB.AreS.cons ?_))
    (case xSa19=>k_is);(case xSb19=>repeat (first|exact XB.AreS.nil|refine XB.AreS.cons ?_))
    (case xSa20=>k_is);(case xSb20=>repeat (first|exact XB.AreS.nil|refine XB.AreS.cons ?_))
    (case xSa21=>k_is);(case xSb21=>repeat (first|exact XB.AreS.nil|refine XB.AreS.cons ?_))
    (case xSa22=>k_is);(case xSb22=>repeat (first|exact XB.AreS.nil|refine XB.AreS.cons ?_))
    (case xSa23=>k_is);(case xSb23=>repeat (first|exact XB.AreS.nil|refine XB.AreS.cons ?_))
    (case xSa24=>k_is);(case xSb24=>repeat (first|exact XB.AreS.nil|refine XB.AreS.cons ?_))
    (case xSa25=>k_is);(case xSb25=>repeat (first|exact XB.AreS.nil|refine XB.AreS.cons ?_))
    (case xSa26=>k_is);(case xSb26=>repeat (first|exact XB.AreS.nil|refine XB.AreS.cons ?_))
    (case xSa27=>k_is);(case xSb27=>repeat (first|exact XB.AreS.nil|refine XB.AreS.cons ?_))
